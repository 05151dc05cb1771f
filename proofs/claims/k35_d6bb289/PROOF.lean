import PyProof.Rows.All
import Wide.All
import OpenK.AllK
import Wide.FinOn
import Lean
import PyProof.EqAt
import PyProof.EqKinds
import PyProof.TupleCall
import PyProof.NeKinds
import PyProof.Draws
import PyProof.EnumMake
import PyProof.WalksEnum
import PyProof.Rows.EnumRows
import PyProof.ExcArgsOwn
import PyProof.ExcAttrAll.ValueError
import PyProof.ExcBaseAll.ValueError
import KE.KIsAll
import KE.KTryOn
import KE.RegKIsAll
import OpenK.KOwn
import PyProof.ZipIter
import PyProof.StrWalks
import PyProof.DictTable
import PyProof.SetNew
import PyProof.SetRoads
import PyProof.P3In
import PyProof.NeData
import PySem.Challenge.RW_tariffgate_k35_reasons_hold_up
set_option Elab.async false
set_option linter.all false
set_option maxRecDepth 100000
namespace L2
open PySem PySem.Spec PyProof.Rows

abbrev Key := Sum Int Str
def yC : Key → Value → Bool
  | .inl k, v => Value.isInt k v
  | .inr x, v => Value.isStrOf x v
def Hj (w : World) : Key → Int
  | .inl k => hashInt k
  | .inr x => hashStr w x
theorem uJ : ∀ {k : Key} {v : Value}, yC k v = true → (∃ i t, k = Sum.inl i ∧ v = Value.int i t) ∨ (∃ x t, k = Sum.inr x ∧ v = Value.str x t)
  | .inl i, v, h => by
    obtain ⟨t, e⟩ := Value.isInt_shape (k := i) (v := v) h
    exact .inl ⟨i, t, rfl, e⟩
  | .inr x, v, h => by
    obtain ⟨t, e⟩ := Value.isStrOf_shape (x := x) (v := v) h
    exact .inr ⟨x, t, rfl, e⟩
theorem D7 (i : Int) (t : Tok) : yC (.inl i) (.int i t) = true := by simp [yC, Value.isInt]
theorem Ep (x : Str) (t : Tok) : yC (.inr x) (.str x t) = true := by simp [yC, Value.isStrOf]
theorem GR (a b : Int) : decide ((Sum.inl a : Key) = Sum.inl b) = (a == b) := by
  by_cases e : a = b
  · subst e; simp
  · have h : ¬ (Sum.inl a : Key) = Sum.inl b := fun q => e (Sum.inl.inj q)
    rw [decide_eq_false h]
    exact (beq_eq_false_iff_ne.mpr e).symm
theorem GH (a b : Str) : decide ((Sum.inr a : Key) = Sum.inr b) = decide (a = b) := by
  by_cases e : a = b
  · subst e; simp
  · have h : ¬ (Sum.inr a : Key) = Sum.inr b := fun q => e (Sum.inr.inj q)
    rw [decide_eq_false h, decide_eq_false e]
theorem GN (a : Int) (b : Str) : decide ((Sum.inl a : Key) = Sum.inr b) = false := decide_eq_false (fun q => nomatch q)
theorem GJ (a : Str) (b : Int) : decide ((Sum.inr a : Key) = Sum.inl b) = false := decide_eq_false (fun q => nomatch q)

def vd (prog : Program) (w : World) : PySem.KeyKind prog w Key where
  is := yC
  hash := Hj w
  inj := fun v a b ha hb => by
    rcases uJ ha with ⟨i, t, rfl, rfl⟩ | ⟨x, t, rfl, rfl⟩
    · rcases uJ hb with ⟨j, u, rfl, e⟩ | ⟨y, u, rfl, e⟩
      · injection e with e1 _; rw [e1]
      · exact nomatch e
    · rcases uJ hb with ⟨j, u, rfl, e⟩ | ⟨y, u, rfl, e⟩
      · exact nomatch e
      · injection e with e1 _; rw [e1]
  byValue := fun k v h => by
    rcases uJ h with ⟨i, t, rfl, rfl⟩ | ⟨x, t, rfl, rfl⟩ <;> rfl
  pyHash := fun hv h => by
    rcases uJ hv with ⟨i, t, rfl, rfl⟩ | ⟨x, t, rfl, rfl⟩
    · exact wpAny_pyHash_int h
    · exact wpAny_pyHash_str h
  eqBool := fun hu hv h => by
    rcases uJ hu with ⟨i, t, rfl, rfl⟩ | ⟨x, t, rfl, rfl⟩
    · rcases uJ hv with ⟨j, u, rfl, rfl⟩ | ⟨y, u, rfl, rfl⟩
      · rw [GR] at h; exact wpAny_eqBool_int h
      · rw [GN] at h; exact SeqAt.EqAt.int_str i t y u _ _ _ _ h
    · rcases uJ hv with ⟨j, u, rfl, rfl⟩ | ⟨y, u, rfl, rfl⟩
      · rw [GJ] at h; exact SeqAt.EqAt.str_int x t j u _ _ _ _ h
      · rw [GH] at h; exact wpAny_eqBool_str h
  «strs» := fun k x t v h => by
    rcases uJ h with ⟨i, u, rfl, e⟩ | ⟨y, u, rfl, e⟩
    · exact nomatch e
    · injection e with e1 _
      subst e1
      cases v <;> rfl

theorem Bt (prog : Program) (w : World) (i : Int) (t : Tok) : (vd prog w).is (.inl i) (.int i t) = true := D7 i t
theorem BE (prog : Program) (w : World) (x : Str) (t : Tok) : (vd prog w).is (.inr x) (.str x t) = true := Ep x t
end L2

namespace L2
open PySem PySem.Spec PyProof.Rows

inductive V where
  | non | bl (b : Bool) | int (i : Int) | str (x : Str) | byt (b : Array UInt8) | flt (b : UInt64) | ref (a : Addr) | ty (n : String)
  deriving DecidableEq

def RelV : V → Value → Prop
  | .non, u => u = Value.none
  | .bl b, u => u = Value.bool b
  | .int i, u => ∃ t, u = Value.int i t
  | .str x, u => ∃ t, u = Value.str x t
  | .byt b, u => ∃ t, u = Value.bytes b t
  | .flt b, u => ∃ t, u = Value.float b t
  | .ref a, u => u = Value.ref a
  | .ty n, u => u = Value.type n

abbrev Vals : List V → List Value → Prop := Paired RelV
theorem Vals.length {xs : List V} {us : List Value} (r : Vals xs us) : xs.length = us.length := Paired.length r
theorem Vals.get : ∀ {xs : List V} {us : List Value} {i : Nat} {x : V}, Vals xs us → xs[i]? = some x → ∃ u, us[i]? = some u ∧ RelV x u
  | _, _, _, _, .nil, e => by simp at e
  | _, _, 0, _, .cons r _, e => by simp at e; subst e; exact ⟨_, rfl, r⟩
  | _, _, i + 1, x, .cons _ t, e => by
    obtain ⟨u, h1, h2⟩ := Vals.get (i := i) (x := x) t (by simpa using e)
    exact ⟨u, by simpa using h1, h2⟩
theorem Vals.set {x : V} {u : Value} (r : RelV x u) : ∀ {xs : List V} {us : List Value} (i : Nat), Vals xs us → Vals (xs.set i x) (us.set i u)
  | _, _, _, .nil => .nil
  | _, _, 0, .cons _ t => .cons r t
  | _, _, i + 1, .cons q t => .cons q (Vals.set r i t)
theorem Vals.append : ∀ {xs ys : List V} {us ws : List Value}, Vals xs us → Vals ys ws → Vals (xs ++ ys) (us ++ ws)
  | _, _, _, _, .nil, s => s
  | _, _, _, _, .cons r t, s => .cons r (Vals.append t s)
theorem Vals.take : ∀ {xs : List V} {us : List Value} (n : Nat), Vals xs us → Vals (xs.take n) (us.take n)
  | _, _, 0, _ => .nil
  | _, _, _ + 1, .nil => .nil
  | _, _, n + 1, .cons r t => .cons r (Vals.take n t)
theorem Vals.drop : ∀ {xs : List V} {us : List Value} (n : Nat), Vals xs us → Vals (xs.drop n) (us.drop n)
  | _, _, 0, r => r
  | _, _, _ + 1, .nil => .nil
  | _, _, n + 1, .cons _ t => Vals.drop n t
def RelO : Option V → Option Value → Prop
  | some v, some u => RelV v u
  | none, none => True
  | _, _ => False
def KV {κ : Type} : List (κ × V) → List (κ × Value) → Prop := Paired fun (p : κ × V) (q : κ × Value) => p.1 = q.1 ∧ RelV p.2 q.2

def kV : Key → V
  | .inl i => .int i
  | .inr x => .str x

inductive HO where
  /-- a list -/
  | lst (xs : List V)
  /-- a tuple (never changes) -/
  | tup (xs : List V)
  /-- a dict whose keys are ints and texts; one whose keys are tuples of ints and texts (the empty one is both) -/
  | dK (kvs : List (Key × V)) | dT (kvs : List (List Key × V))
  /-- a set of ints: its members, its size -/
  | set (S : Int → Bool) (n : Nat)
  /-- an instance of the class at C, its dict at dx, its attributes -/
  | ins (C dx : Addr) (fs : List (Str × V))
  /-- the dict of the instance at x -/
  | own (x : Addr)
  /-- the dict of an exception -/
  | xd (fs : List (Str × V))
  /-- a bound method, f of x -/
  | met (f x : Addr)
  /-- a range object lo, lo + 1, .. below hi -/
  | rng (lo hi : Int)
  /-- a thing that is known to the object (the script; a dict while a loop walks it): read, never written while it is so -/
  | frz (o : Obj) (u : HO)
  /-- a code object's table -/
  | tbl (ps : Array Value)
  /-- any other thing, by what is true of its one object (a def of one's own: SetO a S n := HO.ext fun h => ..) -/
  | ext (φ : Heap → Prop)

abbrev Hp := Addr → Option HO
def upd (H : Hp) (a : Addr) (o : HO) : Hp := fun b => if b = a then some o else H b
theorem ic {H : Hp} {a : Addr} {o : HO} : upd H a o a = some o := by unfold upd; rw [if_pos rfl]
theorem tP {H : Hp} {a b : Addr} {o : HO} (h : b ≠ a) : upd H a o b = H b := by unfold upd; rw [if_neg h]
theorem Fk {H : Hp} {a b : Addr} {o u : HO} (h : H a = some o) (h' : H b = some u) (d : o ≠ u) : a ≠ b := by
  intro e; subst e; rw [h] at h'; exact d (Option.some.inj h')
theorem tU {H : Hp} {a b : Addr} {o : HO} (h : H a = some o) (h' : H b = none) : a ≠ b := by
  intro e; subst e; rw [h] at h'; cases h'

section
variable (P : Program) (w : World)
def NoD (h : Heap) (a : Addr) : Prop := ∃ o, h.get? a = some o ∧ o.dict = none
def ObjOk (H : Hp) (h : Heap) (a : Addr) : HO → Prop
  | .lst xs => xs.length ≤ sizeLine ∧ ∃ (its : List Value) (n : Nat), Vals xs its ∧ h.get? a = some { cls := .type "list", data := .seq its.toArray n }
  | .tup xs => xs.length ≤ sizeLine ∧ ∃ its : List Value, Vals xs its ∧ IsTup h a its.toArray ∧ NoD h a
  | .dK kvs => kvs.length ≤ sizeLine ∧ (a == sysModules) = false ∧ ∃ vs, KV kvs vs ∧ h.DictOf (vd P w) a vs
  | .dT kvs => kvs.length ≤ sizeLine ∧ (a == sysModules) = false ∧ ∃ xs : List (List Key × Addr × Value),
      Paired (fun (p : List Key × V) (q : List Key × Addr × Value) => p.1 = q.1 ∧ H q.2.1 = some (.tup (p.1.map kV)) ∧ RelV p.2 q.2.2) kvs xs ∧
      ∃ o es ep, h.get? a = some o ∧ o.ExactDict ∧ o.data = .dict es ep ∧ es.toList = xs.map (entryOfKey (tupleKind (vd P w))) ∧ (xs.map (·.1)).Nodup
  | .set S n => h.SetOf (intKind P w) a S n
  | .ins C dx fs => H dx = some (.own a) ∧ fs.length ≤ 1000 ∧ dx ≠ a ∧ h.get? a = some (PySem.W.instObj C dx) ∧
      ∃ mA, h.Ns1 dx mA ∧ (∀ f, RelO (fs.lookup f) (mA f)) ∧ PySem.Within mA (fs.map (·.1))
  | .own _ => ∃ o, h.get? a = some o
  | .xd fs => ∃ mA, h.Ns1 a mA ∧ ∀ f, RelO (fs.lookup f) (mA f)
  | .rng lo hi => ∃ t u v, h.get? a = some { cls := .type "range", data := .fields #[.int lo t, .int hi u, .int 1 v] }
  | .frz o u => h.get? a = some o ∧ ObjOk H h a u
  | .tbl ps => h.get? a = some { cls := .none, data := .fields ps }
  | .met f x => h.get? a = some (PySem.W.methodObj (.ref f) (.ref x))
  | .ext φ => φ h ∧ (∃ o, h.get? a = some o) ∧ ∀ h1 h2 : Heap, φ h1 → (∀ o, h1.get? a = some o → h2.get? a = some o) → φ h2
def HOk (H : Hp) (h : Heap) : Prop := ∀ a o, H a = some o → ObjOk P w H h a o
end

section
variable {P : Program} {w : World} {H H' : Hp} {h h' : Heap} {a : Addr} {o : HO}
theorem ObjOk.lt (x : ObjOk P w H h a o) : a < h.objs.size := by
  cases o with
  | lst xs => obtain ⟨_, _, _, _, e⟩ := x; exact Heap.lt_size e
  | tup xs => obtain ⟨_, _, _, p, _⟩ := x; exact p.lt
  | dK kvs => obtain ⟨_, _, _, _, o, _, _, e, _⟩ := x; exact Heap.lt_size e
  | dT kvs => obtain ⟨_, _, _, _, o, _, _, e, _⟩ := x; exact Heap.lt_size e
  | set S n => obtain ⟨o, _, _, _, e, _⟩ := x; exact Heap.lt_size e
  | ins C dx fs => obtain ⟨_, _, _, e, _⟩ := x; exact Heap.lt_size e
  | own y => obtain ⟨_, e⟩ := x; exact Heap.lt_size e
  | xd fs => obtain ⟨_, ⟨_, _, _, e, _⟩, _⟩ := x; exact Heap.lt_size e
  | rng lo hi => obtain ⟨_, _, _, e⟩ := x; exact Heap.lt_size e
  | frz ob u => obtain ⟨e, _⟩ := x; exact Heap.lt_size e
  | tbl ps => exact Heap.lt_size (show h.get? a = some _ from x)
  | met f y => exact Heap.lt_size (show h.get? a = some _ from x)
  | ext φ => obtain ⟨_, ⟨_, e⟩, _⟩ := x; exact Heap.lt_size e
theorem Paired.mapP {α β : Type} {F G : α → β → Prop} : ∀ {l₁ : List α} {l₂ : List β}, Paired F l₁ l₂ → (∀ a b, F a b → G a b) → Paired G l₁ l₂
  | _, _, .nil, _ => .nil
  | _, _, .cons r t, f => .cons (f _ _ r) (Paired.mapP t f)
theorem ObjOk.stay (x : ObjOk P w H h a o) (k : ∀ b u, (b = a ∨ H b = some (.own a)) → h.get? b = some u → h'.get? b = some u)
    (ho : ∀ b, H b = some (.own a) → H' b = some (.own a)) (ht : ∀ b xs, H b = some (.tup xs) → H' b = some (.tup xs)) : ObjOk P w H' h' a o := by
  induction o with
  | lst xs => obtain ⟨z, its, n, r, e⟩ := x; exact ⟨z, its, n, r, k _ _ (.inl rfl) e⟩
  | tup xs => obtain ⟨z, its, r, ⟨ob, e, c⟩, o2, e2, d2⟩ := x; exact ⟨z, its, r, ⟨ob, k _ _ (.inl rfl) e, c⟩, o2, k _ _ (.inl rfl) e2, d2⟩
  | dK kvs => obtain ⟨z, y, vs, r, ob, es, ep, e, c⟩ := x; exact ⟨z, y, vs, r, ob, es, ep, k _ _ (.inl rfl) e, c⟩
  | dT kvs =>
    obtain ⟨z, y, xs, r, ob, es, ep, e, c⟩ := x
    exact ⟨z, y, xs, Paired.mapP r fun p q z => ⟨z.1, ht _ _ z.2.1, z.2.2⟩, ob, es, ep, k _ _ (.inl rfl) e, c⟩
  | set S n => obtain ⟨ob, es, ep, t, e, c⟩ := x; exact ⟨ob, es, ep, t, k _ _ (.inl rfl) e, c⟩
  | ins C dx fs =>
    obtain ⟨d, z, ne, e, mA, ⟨od, es, ep, e2, c⟩, r⟩ := x
    exact ⟨ho _ d, z, ne, k _ _ (.inl rfl) e, mA, ⟨od, es, ep, k _ _ (.inr d) e2, c⟩, r⟩
  | own y => obtain ⟨ob, e⟩ := x; exact ⟨ob, k _ _ (.inl rfl) e⟩
  | xd fs => obtain ⟨mA, ⟨od, es, ep, e, c⟩, r⟩ := x; exact ⟨mA, ⟨od, es, ep, k _ _ (.inl rfl) e, c⟩, r⟩
  | rng lo hi => obtain ⟨t, u, v, e⟩ := x; exact ⟨t, u, v, k _ _ (.inl rfl) e⟩
  | frz ob u ih => obtain ⟨e, q⟩ := x; exact ⟨k _ _ (.inl rfl) e, ih q⟩
  | tbl ps =>
    have e : h.get? a = some { cls := .none, data := .fields ps } := x
    show h'.get? a = some { cls := .none, data := .fields ps }
    exact k a _ (.inl rfl) e
  | met f y =>
    have e : h.get? a = some (PySem.W.methodObj (.ref f) (.ref y)) := x
    show h'.get? a = some (PySem.W.methodObj (.ref f) (.ref y))
    exact k a _ (.inl rfl) e
  | ext φ => obtain ⟨p, ⟨o, e⟩, st⟩ := x; exact ⟨st _ _ p fun o q => k _ _ (.inl rfl) q, ⟨o, k _ _ (.inl rfl) e⟩, st⟩
theorem HOk.lt (x : HOk P w H h) (e : H a = some o) : a < h.objs.size := (x a o e).lt
theorem HOk.fresh (x : HOk P w H h) (e : h.objs.size ≤ a) : H a = none := by
  cases q : H a with
  | none => rfl
  | some u => exact absurd (Nat.lt_of_lt_of_le (x.lt q) e) (Nat.lt_irrefl _)
theorem HOk.kept (x : HOk P w H h) (k : ∀ b u, h.get? b = some u → h'.get? b = some u) : HOk P w H h' := fun a o e =>
  (x a o e).stay (fun b u _ q => k b u q) (fun _ q => q) fun _ _ q => q
theorem HOk.laid (x : HOk P w H h) (k : ∀ b u, h.get? b = some u → h'.get? b = some u) (hp : h.objs.size ≤ a) (new : ObjOk P w (upd H a o) h' a o) : HOk P w (upd H a o) h' := fun b u e => by
  have hn := x.fresh hp
  by_cases hb : b = a
  · subst hb; rw [ic] at e; cases e; exact new
  · rw [tP hb] at e
    exact (x b u e).stay (fun c v _ q => k c v q) (fun c q => by rw [tP (tU q hn)]; exact q) fun c xs q => by rw [tP (tU q hn)]; exact q
end

def Rd (H : Hp) (a : Addr) (u : HO) : Prop := H a = some u ∨ ∃ o, H a = some (.frz o u)
theorem Rd.ok {P : Program} {w : World} {H : Hp} {h : Heap} {a : Addr} {u : HO} (r : Rd H a u) (x : HOk P w H h) : ObjOk P w H h a u := by
  rcases r with r | ⟨o, r⟩
  · exact x a u r
  · obtain ⟨_, q⟩ := x a _ r
    exact q
def Mut : Option HO → Prop
  | some (.lst _) => True
  | some (.dK _) => True
  | some (.dT _) => True
  | some (.set _ _) => True
  | some (.ins _ _ _) => True
  | some (.ext _) => True
  | _ => False
section
variable {P : Program} {w : World} {H : Hp} {h h' : Heap} {x e : Addr} {o' : HO}
theorem HOk.write (ok : HOk P w H h) (mu : Mut (H x)) (he : e = x ∨ H e = some (.own x)) (k : ∀ b u, b ≠ e → h.get? b = some u → h'.get? b = some u) (heo : ∃ u, h'.get? e = some u)
    (new : ObjOk P w (upd H x o') h' x o') : HOk P w (upd H x o') h' := fun b u q => by
  have nown : ∀ c y, H c = some (.own y) → c ≠ x := fun c y r z => by subst z; rw [r] at mu; exact mu
  have ntup : ∀ c xs, H c = some (.tup xs) → c ≠ x := fun c xs r z => by subst z; rw [r] at mu; exact mu
  by_cases hb : b = x
  · subst hb; rw [ic] at q; cases q; exact new
  · rw [tP hb] at q
    by_cases hbe : b = e
    · have q' : H b = some (.own x) := by
        rcases he with z | z
        · exact absurd (hbe.trans z) hb
        · rw [hbe]; exact z
      rw [q] at q'; cases q'
      obtain ⟨v, hv⟩ := heo
      exact ⟨v, by rw [hbe]; exact hv⟩
    · refine (ok b u q).stay (fun c v hc r => k c v ?_ r) (fun c r => by rw [tP (nown c b r)]; exact r) fun c xs r => by rw [tP (ntup c xs r)]; exact r
      rcases hc with rfl | hc
      · exact hbe
      · rintro rfl
        rcases he with z | z
        · exact nown c b hc z
        · rw [hc] at z; cases z; exact hb rfl
end

structure Un (fs ex : List Addr) (H H' : Hp) (h h' : Heap) : Prop where
  keep : ∀ b o, h.get? b = some o → H b = none → b ∉ fs → b ∉ ex → h'.get? b = some o
  slot : ∀ b o, h.get? b = some o → H b = none → b ∈ fs → b ∉ ex → ∃ sl, h'.get? b = some { o with slots := sl }
  free : ∀ b o, h.get? b = some o → H b = none → b ∉ ex → H' b = none
  there : ∀ b o, h.get? b = some o → b ∉ ex → ∃ o', h'.get? b = some o'
  tups : ∀ b xs, H b = some (.tup xs) → H' b = some (.tup xs)
  frzs : ∀ b o u, H b = some (.frz o u) → H' b = some (.frz o u)
  tbls : ∀ b ps, H b = some (.tbl ps) → ∃ more, H' b = some (.tbl (ps ++ more))
section
variable {fs fs' ex ex' : List Addr} {H H1 H2 : Hp} {h h1 h2 h' : Heap} {a x e : Addr} {o : HO}
theorem Un.any (u : Un fs ex H H1 h h1) {b : Addr} {ob : Obj} (q : h.get? b = some ob) (n : H b = none) (hx : b ∉ ex) : ∃ sl, h1.get? b = some { ob with slots := sl } := by
  by_cases hb : b ∈ fs
  · exact u.slot b ob q n hb hx
  · exact ⟨ob.slots, u.keep b ob q n hb hx⟩
theorem Un.trans (a : Un fs ex H H1 h h1) (b : Un fs ex H1 H2 h1 h2) : Un fs ex H H2 h h2 where
  keep := fun c ob q n hc hx => b.keep c ob (a.keep c ob q n hc hx) (a.free c ob q n hx) hc hx
  slot := fun c ob q n hc hx => by
    obtain ⟨sl, e1⟩ := a.slot c ob q n hc hx
    obtain ⟨sl', e2⟩ := b.slot c _ e1 (a.free c ob q n hx) hc hx
    exact ⟨sl', e2⟩
  free := fun c ob q n hx => by
    obtain ⟨o', e1⟩ := a.there c ob q hx
    exact b.free c o' e1 (a.free c ob q n hx) hx
  there := fun c ob q hx => by
    obtain ⟨o', e1⟩ := a.there c ob q hx
    exact b.there c o' e1 hx
  tups := fun c xs q => b.tups c xs (a.tups c xs q)
  frzs := fun c ob xs q => b.frzs c ob xs (a.frzs c ob xs q)
  tbls := fun c ps q => by
    obtain ⟨m1, e1⟩ := a.tbls c ps q
    obtain ⟨m2, e2⟩ := b.tbls c _ e1
    exact ⟨m1 ++ m2, by rw [e2, Array.append_assoc]⟩
theorem Un.kept (k : ∀ b u, h.get? b = some u → h'.get? b = some u) : Un fs ex H H h h' :=
  ⟨fun b ob q _ _ _ => k b ob q, fun b ob q _ _ _ => ⟨ob.slots, k b ob q⟩, fun _ _ _ n _ => n, fun b ob q _ => ⟨ob, k b ob q⟩, fun _ _ q => q, fun _ _ _ q => q, fun _ ps q => ⟨#[], by rw [q]; simp⟩⟩
theorem Un.refl : Un fs ex H H h h := Un.kept fun _ _ q => q
theorem Un.laid (k : ∀ b u, h.get? b = some u → h'.get? b = some u) (hp : h.objs.size ≤ a) (hn : H a = none) : Un fs ex H (upd H a o) h h' where
  keep := fun b u q _ _ _ => k b u q
  slot := fun b u q _ _ _ => ⟨u.slots, k b u q⟩
  free := fun b u q n _ => by rw [tP (Nat.ne_of_lt (Nat.lt_of_lt_of_le (Heap.lt_size q) hp))]; exact n
  there := fun b u q _ => ⟨u, k b u q⟩
  tups := fun b xs q => by rw [tP (tU q hn)]; exact q
  frzs := fun b u xs q => by rw [tP (tU q hn)]; exact q
  tbls := fun b ps q => ⟨#[], by rw [tP (tU q hn), q]; simp⟩
theorem Un.write (mu : Mut (H x)) (he : e = x ∨ H e = some (.own x)) (k : ∀ b u, b ≠ e → h.get? b = some u → h'.get? b = some u) (heo : ∃ u, h'.get? e = some u) : Un fs ex H (upd H x o) h h' := by
  have hx : ∀ b, H b = none → b ≠ x := fun b n z => by subst z; rw [n] at mu; exact mu
  have hb : ∀ b, H b = none → b ≠ e := fun b n z => by
    subst z
    rcases he with r | r
    · exact hx b n r
    · rw [n] at r; cases r
  have hm : ∀ b u, H b = some u → ¬ Mut (some u) → b ≠ x := fun b u q nm z => by subst z; rw [q] at mu; exact nm mu
  refine ⟨fun b u q n _ _ => k b u (hb b n) q, fun b u q n _ _ => ⟨u.slots, k b u (hb b n) q⟩, fun b u q n _ => by rw [tP (hx b n)]; exact n, fun b u q _ => ?_,
    fun b xs q => by rw [tP (hm b _ q fun z => z)]; exact q, fun b u xs q => by rw [tP (hm b _ q fun z => z)]; exact q, fun b ps q => ⟨#[], by rw [tP (hm b _ q fun z => z), q]; simp⟩⟩
  by_cases hbe : b = e
  · subst hbe; exact heo
  · exact ⟨u, k b u hbe q⟩
end

def trk (h : Heap) (H : Hp) : List Addr := (List.range h.objs.size).filter fun a => (H a).isSome
def xU (h : Heap) (H : Hp) : Heap := PySem.W.hideAll h (trk h H)
theorem Eb (h : Heap) (H : Hp) : (xU h H).objs.size = h.objs.size := PySem.W.hideAll_size _ _
theorem ET {h : Heap} {H : Hp} {b : Addr} {o : Obj} (e : h.get? b = some o) (n : H b = none) : (xU h H).get? b = some o :=
  PySem.W.hideAll_get _ e fun hm => by
    have q : (H b).isSome = true := (List.mem_filter.mp hm).2
    rw [n] at q; simp at q
theorem FI {h : Heap} {H : Hp} {b : Addr} {o : Obj} (e : (xU h H).get? b = some o) : h.get? b = some o ∧ H b = none := by
  have e' : h.get? b = some o := PySem.W.of_hideAll (trk h H) e
  refine ⟨e', ?_⟩
  cases q : H b with
  | none => rfl
  | some x =>
    have hm : b ∈ trk h H := List.mem_filter.mpr ⟨List.mem_range.mpr (Heap.lt_size e'), by simp [q]⟩
    have z : (xU h H).get? b = none := PySem.W.hideAll_none (trk h H) hm
    rw [z] at e; cases e

def FM (g h : Heap) (L : Addr) : List (Addr × Obj) := (List.range h.objs.size).filterMap fun a => if a = L ∨ (g.get? a).isSome = true then none else (h.get? a).map fun o => (a, o)
def rest (g h : Heap) (L d : Addr) : List (Addr × Obj) := (FM g h L).filter fun p => decide (p.1 ≠ d)
end L2

namespace L2
open PySem PySem.Spec PyProof.Rows

structure Mod (K : PySem.W.Frag) (mg : Str → Option Value) (base : Heap) : Prop where
  kin : K.In base
  glob : base.Ns mainGlobals mg
  blt : ∃ mb, base.Ns builtinsNs mb ∧ ∀ x : Str, x ≠ "__name__" → mb x = bootBuiltins x
  nolimit : base.NoLimit

structure Cx where
  prog : Program
  w : World
  K : PySem.W.Frag
  mg : Str → Option Value
  base : Heap
  A : Around
  N : List Str
  s₀ : Shared
  H₀ : Hp
  env : Env
  outer : List Env
  stack : List Env
  ex : List Addr
  fn : Str → Bool
  calm : Bool
  pn : List (Addr × Obj)
  xe : Value → Shared → Prop
def frs (l : List Env) : List Addr := l.filterMap (·.frame)
abbrev Cx.fs (X : Cx) : List Addr := frs X.outer

def Vis (sc : Scope) (x : Str) : Prop := sc.names.lookup x = some .local ∨ sc.names.lookup x = some .cell ∨ sc.names.lookup x = some .free
def Loc (sc : Scope) (x : Str) : Prop := sc.names.lookup x = some .local ∨ sc.names.lookup x = some .cell
def Look (env : Env) (h : Heap) (m : Str → Option Value) (x : Str) (u : Value) : Prop :=
  (env.kindOf x = some .local ∧ m x = some u) ∨ ((env.kindOf x = some .cell ∨ env.kindOf x = some .free) ∧ ∃ c, env.cells.lookup x = some c ∧ h.IsCell c (some u))

structure Cx.Ok (X : Cx) : Prop where
  mod : Mod X.K X.mg X.base
  kind : X.env.scope.kind = .function
  glob : X.env.globals = mainGlobals
  blt : X.env.builtins = builtinsNs
  above : X.s₀.heap.objs.size ≤ X.env.locals
  inj : ∀ x y c, X.env.cells.lookup x = some c → X.env.cells.lookup y = some c → x = y
  has : ∀ x, (X.env.kindOf x = some .cell ∨ X.env.kindOf x = some .free) → ∃ c, X.env.cells.lookup x = some c
  cab : ∀ x c, X.fn x = true → X.env.cells.lookup x = some c → X.s₀.heap.objs.size ≤ c
  hd : X.calm = true → X.A.handled = none
  frames : X.A.frames = some X.stack
  stk : X.stack = X.outer ∨ (X.stack = X.env :: X.outer ∧ X.env.frame = some X.env.locals)
  exf : ∀ b ∈ X.ex, b ≠ X.env.locals ∧ ∀ x c, X.env.cells.lookup x = some c → c ≠ b
  bs : ∀ b o, X.base.get? b = some o → X.s₀.heap.get? b = some o ∧ X.H₀ b = none
  bsz : X.base.objs.size ≤ X.s₀.heap.objs.size
  noex : ∀ b o, X.base.get? b = some o → b ∉ X.ex
  exfs : ∀ b ∈ X.ex, b ∉ X.fs
  funs : X.s₀.heap.FunFrames X.base X.outer
  frf : ∀ b ∈ X.fs, X.H₀ b = none

structure Inv (X : Cx) (pins : List (Addr × Obj)) (σ : List (Option V)) (H : Hp) (s : Shared) : Prop where
  ok : X.Ok
  os : s.os = X.s₀.os
  bare : AllBare s.gens
  base : Un X.fs X.ex X.H₀ H X.s₀.heap s.heap
  loc : ∃ m, s.heap.Ns X.env.locals m ∧ ∀ (i : Nat) (x : Str) (v : V), X.N[i]? = some x → σ[i]? = some (some v) → Vis X.env.scope x → ∃ u, RelV v u ∧ Look X.env s.heap m x u
  cell : ∀ x c, X.env.cells.lookup x = some c → ∃ v, s.heap.IsCell c v
  free : H X.env.locals = none
  freeC : ∀ x c, X.env.cells.lookup x = some c → H c = none
  pin : ∀ p ∈ X.pn ++ pins, s.heap.get? p.1 = some p.2 ∧ H p.1 = none ∧ p.1 ≠ X.env.locals ∧ p.1 ∉ X.fs ∧ ∀ v, p.2.data ≠ .cell v
  hok : HOk X.prog X.w H s.heap
  len : σ.length = X.N.length

section
variable {X : Cx} {pins : List (Addr × Obj)} {σ : List (Option V)} {H H' : Hp} {s : Shared} {h' : Heap}

theorem Cx.Ok.nofr (ok : X.Ok) {b : Addr} {o : Obj} (e : X.base.get? b = some o) : b ∉ X.fs := fun hb => by
  have := (ok.funs.mem hb).1
  rw [e] at this; cases this
theorem Inv.bs (I : Inv X pins σ H s) : ∀ b o, X.base.get? b = some o → s.heap.get? b = some o ∧ H b = none := fun b o e =>
  ⟨I.base.keep b o (I.ok.bs b o e).1 (I.ok.bs b o e).2 (I.ok.nofr e) (I.ok.noex b o e), I.base.free b o (I.ok.bs b o e).1 (I.ok.bs b o e).2 (I.ok.noex b o e)⟩
theorem Inv.bk (I : Inv X pins σ H s) : ∀ b o, X.base.get? b = some o → s.heap.get? b = some o := fun b o e => (I.bs b o e).1
theorem Inv.mod (I : Inv X pins σ H s) : Mod X.K X.mg X.base := I.ok.mod
theorem Inv.kIn (I : Inv X pins σ H s) : X.K.In s.heap := I.ok.mod.kin.keeps I.bk
theorem Inv.lt (I : Inv X pins σ H s) : X.env.locals < s.heap.objs.size := let ⟨_, hn, _⟩ := I.loc; hn.lt
theorem Inv.sz (I : Inv X pins σ H s) : X.s₀.heap.objs.size ≤ s.heap.objs.size := Nat.le_trans I.ok.above (Nat.le_of_lt I.lt)
theorem Inv.nofs (I : Inv X pins σ H s) {a : Addr} (h : s.heap.objs.size ≤ a) : a ∉ X.fs := fun hb => by
  obtain ⟨_, o, ho, _⟩ := I.ok.funs.mem hb
  exact absurd (Nat.lt_of_lt_of_le (Heap.lt_size ho) (Nat.le_trans I.sz h)) (Nat.lt_irrefl _)
theorem Inv.cne (I : Inv X pins σ H s) : ∀ x c, X.env.cells.lookup x = some c → c ≠ X.env.locals := fun x c e z => by
  obtain ⟨v, o, ho, hd⟩ := I.cell x c e
  obtain ⟨m, ⟨o', es, ep, ho', hd', _⟩, _⟩ := I.loc
  rw [z, ho'] at ho; cases ho; rw [hd'] at hd; cases hd
theorem Inv.funs (I : Inv X pins σ H s) : s.heap.FunFrames X.base X.outer := by
  have all : ∀ (l : List Env), (∀ b ∈ frs l, b ∈ X.fs) → X.s₀.heap.FunFrames X.base l → s.heap.FunFrames X.base l := by
    intro l
    induction l with
    | nil => intro _ _; trivial
    | cons env r ih =>
      intro hs hl
      obtain ⟨hk, ⟨L, o, hf, hn, ho, hd⟩, hr⟩ := hl
      have hL : L ∈ X.fs := hs L (by unfold frs; rw [List.filterMap_cons, hf]; exact List.mem_cons_self)
      obtain ⟨sl, e⟩ := I.base.slot L o ho (I.ok.frf L hL) hL fun z => I.ok.exfs L z hL
      exact ⟨hk, ⟨L, _, hf, hn, e, hd⟩, ih (fun b hb => hs b (by unfold frs; rw [List.filterMap_cons, hf]; exact List.mem_cons_of_mem _ hb)) hr⟩
  exact all X.outer (fun _ hb => hb) I.ok.funs

theorem Inv.stack (I : Inv X pins σ H s) : s.heap.FunFrames X.base X.stack := by
  rcases I.ok.stk with e | ⟨e, hf⟩
  · rw [e]; exact I.funs
  · rw [e]
    obtain ⟨m, hn, _⟩ := I.loc
    refine .cons (by rw [I.ok.kind]; decide) hf hn ?_ I.funs
    exact Heap.get?_none_of_le (Nat.le_trans I.ok.bsz I.ok.above)
theorem Inv.stkSub (I : Inv X pins σ H s) : ∀ b ∈ frs X.stack, b ∈ X.env.locals :: X.fs := fun b hb => by
  rcases I.ok.stk with e | ⟨e, hf⟩
  · rw [e] at hb; exact List.mem_cons_of_mem _ hb
  · rw [e] at hb
    unfold frs at hb
    rw [List.filterMap_cons, hf] at hb
    exact hb
theorem Inv.stkFree (I : Inv X pins σ H s) : ∀ b ∈ frs X.stack, H b = none := fun b hb => by
  rcases List.mem_cons.mp (I.stkSub b hb) with e | hb
  · rw [e]; exact I.free
  · obtain ⟨_, o, ho, _⟩ := I.ok.funs.mem hb
    exact I.base.free b o ho (I.ok.frf b hb) fun z => I.ok.exfs b z hb

theorem Inv.step {g' : Array GenState} {t' : Nat} {d' : Drawn} {ch : List Addr} (I : Inv X pins σ H s)
    (hch : ∀ b ∈ ch, (b ∈ X.ex ∨ X.s₀.heap.objs.size ≤ b) ∧ b ≠ X.env.locals ∧ (∀ x c, X.env.cells.lookup x = some c → c ≠ b) ∧ ∀ p ∈ X.pn ++ pins, p.1 ≠ b)
    (keep : ∀ b o, b ≠ X.env.locals → b ∉ X.fs → b ∉ ch → s.heap.get? b = some o → H b = none → h'.get? b = some o)
    (slot : ∀ b o, b ≠ X.env.locals → b ∈ X.fs → b ∉ ch → s.heap.get? b = some o → H b = none → ∃ sl, h'.get? b = some { o with slots := sl }) (free : ∀ b o, b ∉ ch → s.heap.get? b = some o → H b = none → H' b = none)
    (there : ∀ b o, b ∉ ch → s.heap.get? b = some o → ∃ o', h'.get? b = some o')
    (tups : ∀ b xs, H b = some (.tup xs) → H' b = some (.tup xs)) (frzs : ∀ b o u, H b = some (.frz o u) → H' b = some (.frz o u)) (tbls : ∀ b ps, H b = some (.tbl ps) → ∃ more, H' b = some (.tbl (ps ++ more)))
    (ns : ∀ m, s.heap.Ns X.env.locals m → h'.Ns X.env.locals m) (hok : HOk X.prog X.w H' h') (hg : AllBare g') :
    Inv X pins σ H' { s with heap := h', gens := g', drawn := d', toks := t' } := by
  have neL : ∀ b o, X.s₀.heap.get? b = some o → b ≠ X.env.locals := fun b o e => Nat.ne_of_lt (Nat.lt_of_lt_of_le (Heap.lt_size e) I.ok.above)
  have neC : ∀ b o, X.s₀.heap.get? b = some o → b ∉ X.ex → b ∉ ch := fun b o e hx hb => by
    rcases (hch b hb).1 with z | z
    · exact hx z
    · exact absurd (Nat.lt_of_lt_of_le (Heap.lt_size e) z) (Nat.lt_irrefl _)
  have cellK : ∀ x c, X.env.cells.lookup x = some c → ∀ v, s.heap.IsCell c v → h'.IsCell c v := fun x c e v ⟨o, ho, hd⟩ => by
    have nch : c ∉ ch := fun z => (hch c z).2.2.1 x c e rfl
    by_cases hc : c ∈ X.fs
    · obtain ⟨sl, q⟩ := slot c o (I.cne x c e) hc nch ho (I.freeC x c e)
      exact ⟨_, q, hd⟩
    · exact ⟨o, keep c o (I.cne x c e) hc nch ho (I.freeC x c e), hd⟩
  refine ⟨I.ok, I.os, hg, ⟨fun b o e n hb hx => ?_, fun b o e n hb hx => ?_, fun b o e n hx => ?_, fun b o e hx => ?_, fun b xs e => tups b xs (I.base.tups b xs e), fun b o xs e => frzs b o xs (I.base.frzs b o xs e), fun b ps e => ?_⟩, ?_, fun x c e => ?_, ?_, fun x c e => ?_, fun p hp => ?_, hok, I.len⟩
  · exact keep b o (neL b o e) hb (neC b o e hx) (I.base.keep b o e n hb hx) (I.base.free b o e n hx)
  · obtain ⟨sl, e1⟩ := I.base.slot b o e n hb hx
    obtain ⟨sl', e2⟩ := slot b _ (neL b o e) hb (neC b o e hx) e1 (I.base.free b o e n hx)
    exact ⟨sl', e2⟩
  · obtain ⟨o', e1⟩ := I.base.there b o e hx
    exact free b o' (neC b o e hx) e1 (I.base.free b o e n hx)
  · obtain ⟨o', e1⟩ := I.base.there b o e hx
    exact there b o' (neC b o e hx) e1
  · obtain ⟨m1, e1⟩ := I.base.tbls b ps e
    obtain ⟨m2, e2⟩ := tbls b _ e1
    exact ⟨m1 ++ m2, by rw [e2, Array.append_assoc]⟩
  · obtain ⟨m, hn, hl⟩ := I.loc
    refine ⟨m, ns m hn, fun i x v e1 e2 e3 => ?_⟩
    obtain ⟨u, r, l⟩ := hl i x v e1 e2 e3
    refine ⟨u, r, ?_⟩
    rcases l with l | ⟨k, c, e, z⟩
    · exact .inl l
    · exact .inr ⟨k, c, e, cellK x c e _ z⟩
  · obtain ⟨v, z⟩ := I.cell x c e
    exact ⟨v, cellK x c e v z⟩
  · obtain ⟨m, ⟨o, _, _, ho, _⟩, _⟩ := I.loc
    exact free _ o (fun z => (hch _ z).2.1 rfl) ho I.free
  · obtain ⟨v, o, ho, hd⟩ := I.cell x c e
    exact free c o (fun z => (hch c z).2.2.1 x c e rfl) ho (I.freeC x c e)
  · obtain ⟨e, n, ne, nf, d⟩ := I.pin p hp
    have nch : p.1 ∉ ch := fun z => (hch p.1 z).2.2.2 p hp rfl
    exact ⟨keep p.1 p.2 ne nf nch e n, free p.1 p.2 nch e n, ne, nf, d⟩
theorem Inv.un {t' : Nat} (I : Inv X pins σ H s) (u : Un X.fs [] H H' s.heap h') (hok : HOk X.prog X.w H' h') : Inv X pins σ H' { s with heap := h', toks := t' } := by
  obtain ⟨m, ⟨o, es, ep, ho, r⟩, _⟩ := id I.loc
  obtain ⟨sl, hL⟩ := u.any ho I.free (by simp)
  exact I.step (g' := s.gens) (d' := s.drawn) (ch := []) (fun _ z => nomatch z) (fun b o _ hb _ e n => u.keep b o e n hb (by simp)) (fun b o _ hb _ e n => u.slot b o e n hb (by simp)) (fun b o _ e n => u.free b o e n (by simp)) (fun b o _ e => u.there b o e (by simp)) u.tups u.frzs u.tbls (fun m' hm => by
    obtain ⟨o', es', ep', ho', r'⟩ := hm
    rw [ho] at ho'; cases ho'
    exact ⟨_, es', ep', hL, r'⟩) hok I.bare
theorem Inv.call {g' : Array GenState} {t' : Nat} {d' : Drawn} {ch : List Addr} (I : Inv X pins σ H s) (u : Un (frs X.stack) ch H H' s.heap h') (hok : HOk X.prog X.w H' h') (hg : AllBare g')
    (hch : ∀ b ∈ ch, (b ∈ X.ex ∨ X.s₀.heap.objs.size ≤ b) ∧ b ≠ X.env.locals ∧ (∀ x c, X.env.cells.lookup x = some c → c ≠ b) ∧ ∀ p ∈ X.pn ++ pins, p.1 ≠ b) :
    Inv X pins σ H' { s with heap := h', gens := g', drawn := d', toks := t' } := by
  obtain ⟨m, ⟨o, es, ep, ho, r⟩, _⟩ := id I.loc
  obtain ⟨sl, hL⟩ := u.any ho I.free fun z => (hch _ z).2.1 rfl
  exact I.step (ch := ch) hch (fun b o hL hb hc e n => u.keep b o e n (fun z => (List.mem_cons.mp (I.stkSub b z)).elim hL hb) hc) (fun b o _ _ hc e n => u.any e n hc) (fun b o hc e n => u.free b o e n hc) (fun b o hc e => u.there b o e hc) u.tups u.frzs u.tbls (fun m' hm => by
    obtain ⟨o', es', ep', ho', r'⟩ := hm
    rw [ho] at ho'; cases ho'
    exact ⟨_, es', ep', hL, r'⟩) hok hg
theorem Inv.turned {t' : Nat} {it : Addr} (I : Inv X pins σ H s) (k : ∀ b o, b ≠ it → s.heap.get? b = some o → h'.get? b = some o) (hn : H it = none) (hL : it ≠ X.env.locals)
    (h1 : it ∈ X.ex ∨ X.s₀.heap.objs.size ≤ it) (h2 : ∀ x c, X.env.cells.lookup x = some c → c ≠ it) (h3 : ∀ p ∈ X.pn ++ pins, p.1 ≠ it) : Inv X pins σ H { s with heap := h', toks := t' } := by
  have nit : ∀ b u, H b = some u → b ≠ it := fun b u e z => by rw [z, hn] at e; cases e
  refine I.step (g' := s.gens) (d' := s.drawn) (ch := [it]) (fun b hb => ?_) (fun b o _ _ hc e _ => k b o (fun z => hc (by simp [z])) e) (fun b o _ _ hc e _ => ⟨o.slots, k b o (fun z => hc (by simp [z])) e⟩) (fun _ _ _ _ n => n)
    (fun b o hc e => ⟨o, k b o (fun z => hc (by simp [z])) e⟩) (fun _ _ e => e) (fun _ _ _ e => e) (fun b ps e => ⟨#[], by rw [e]; simp⟩) (fun m hm => ?_) (fun b u e => ?_) I.bare
  · have e : b = it := by simpa using hb
    subst e
    exact ⟨h1, hL, h2, h3⟩
  · obtain ⟨o, es, ep, ho, r⟩ := hm
    exact ⟨o, es, ep, k _ o (Ne.symm hL) ho, r⟩
  · refine (I.hok b u e).stay (fun c v hc q => k c v ?_ q) (fun _ q => q) fun _ _ q => q
    rcases hc with z | z
    · rw [z]; exact nit b u e
    · exact nit c _ z
theorem Inv.tok (I : Inv X pins σ H s) (t : Nat) : Inv X pins σ H { s with toks := t } := I.un (h' := s.heap) (t' := t) Un.refl I.hok
theorem Inv.kept {t' : Nat} (I : Inv X pins σ H s) (k : ∀ b u, s.heap.get? b = some u → h'.get? b = some u) : Inv X pins σ H { s with heap := h', toks := t' } := I.un (Un.kept k) (I.hok.kept k)
theorem Inv.laid {a : Addr} {o : HO} {t' : Nat} (I : Inv X pins σ H s) (k : ∀ b u, s.heap.get? b = some u → h'.get? b = some u) (hp : s.heap.objs.size ≤ a) (new : ObjOk X.prog X.w (upd H a o) h' a o) :
    Inv X pins σ (upd H a o) { s with heap := h', toks := t' } := I.un (Un.laid k hp (I.hok.fresh hp)) (I.hok.laid k hp new)
theorem Inv.write {x e : Addr} {o : HO} {t' : Nat} (I : Inv X pins σ H s) (mu : Mut (H x)) (he : e = x ∨ H e = some (.own x)) (k : ∀ b u, b ≠ e → s.heap.get? b = some u → h'.get? b = some u) (heo : ∃ u, h'.get? e = some u)
    (new : ObjOk X.prog X.w (upd H x o) h' x o) : Inv X pins σ (upd H x o) { s with heap := h', toks := t' } := I.un (Un.write mu he k heo) (I.hok.write mu he k heo new)
theorem Inv.pins_of {pins' : List (Addr × Obj)} (I : Inv X pins σ H s) (h : ∀ p ∈ pins', s.heap.get? p.1 = some p.2 ∧ H p.1 = none ∧ p.1 ≠ X.env.locals ∧ p.1 ∉ X.fs ∧ ∀ v, p.2.data ≠ .cell v) : Inv X pins' σ H s :=
  ⟨I.ok, I.os, I.bare, I.base, I.loc, I.cell, I.free, I.freeC, fun p hp => (List.mem_append.mp hp).elim (fun z => I.pin p (List.mem_append_left _ z)) (h p), I.hok, I.len⟩

theorem A1 {N : List Str} (hN : N.Nodup) {i j : Nat} {x : Str} (a : N[i]? = some x) (b : N[j]? = some x) : i = j := by
  obtain ⟨h1, e1⟩ := List.getElem?_eq_some_iff.mp a
  obtain ⟨h2, e2⟩ := List.getElem?_eq_some_iff.mp b
  exact (List.getElem_inj hN).mp (e1.trans e2.symm)

theorem Ah {M : Model} {A : Around} {E : Value → Shared → Prop} {i : Nat} {x : Str} {v : V} {u : Value} {Q : Unit → Shared → Prop} (I : Inv X pins σ H s) (hN : X.N.Nodup) (hi : X.N[i]? = some x) (hx : Loc X.env.scope x) (r : RelV v u)
    (h : ∀ s', Inv X pins (σ.set i (some v)) H s' → (∃ a, Heap.SameBut a s.heap s'.heap ∧ (a = X.env.locals ∨ X.env.cells.lookup x = some a)) → Q () s') (hf : X.fn x = true ∨ X.env.scope.names.lookup x = some .local := by first | exact .inl rfl | exact .inr rfl | assumption) : wpAny M A (storeName X.env x u) Q E s := by
  obtain ⟨m, hn, hl⟩ := id I.loc
  have hcls : (X.env.scope.kind == .class || (X.env.scope.kind == .module && X.env.locals != X.env.globals)) = false := by rw [I.ok.kind]; rfl
  have hiσ : i < σ.length := by rw [I.len]; exact (List.getElem?_eq_some_iff.mp hi).1
  have cne := I.cne
  have tracked : ∀ {a : Addr} {h' : Heap}, (∃ o, s.heap.get? a = some o ∧ H a = none) → Heap.SameBut a s.heap h' → HOk X.prog X.w H h' := fun {a h'} ha hs b ob e => by
    obtain ⟨_, _, hfree⟩ := ha
    refine (I.hok b ob e).stay (fun c w' hc q => (hs.2 c ?_).trans q) (fun _ q => q) fun _ _ q => q
    rintro rfl
    rcases hc with rfl | hc
    · rw [hfree] at e; cases e
    · rw [hfree] at hc; cases hc
  rcases hx with hk | hk
  · refine wpAny_storeName_local hk hn (fun h' hn' hs => ?_) hcls
    obtain ⟨oL, _, _, hoL, _⟩ := id hn
    refine h _ ⟨I.ok, I.os, I.bare, ⟨fun b o e n hb hx => ?_, fun b o e n hb hx => ?_, I.base.free, fun b o e hx => ?_, I.base.tups, I.base.frzs, I.base.tbls⟩, ⟨_, hn', fun j y v' e1 e2 e3 => ?_⟩, fun y c e => ?_, I.free, I.freeC, fun p hp => ?_, tracked ⟨oL, hoL, I.free⟩ hs, by simpa using I.len⟩ ⟨_, hs, .inl rfl⟩
    · exact (hs.2 b (Nat.ne_of_lt (Nat.lt_of_lt_of_le (Heap.lt_size e) I.ok.above))).trans (I.base.keep b o e n hb hx)
    · obtain ⟨sl, e1⟩ := I.base.slot b o e n hb hx
      exact ⟨sl, (hs.2 b (Nat.ne_of_lt (Nat.lt_of_lt_of_le (Heap.lt_size e) I.ok.above))).trans e1⟩
    · obtain ⟨o', e1⟩ := I.base.there b o e hx
      exact ⟨o', (hs.2 b (Nat.ne_of_lt (Nat.lt_of_lt_of_le (Heap.lt_size e) I.ok.above))).trans e1⟩
    · by_cases hj : j = i
      · subst hj
        rw [hi] at e1; cases e1
        rw [List.getElem?_set_self hiσ] at e2
        cases e2
        exact ⟨u, r, .inl ⟨hk, by simp⟩⟩
      · rw [List.getElem?_set_ne (Ne.symm hj)] at e2
        obtain ⟨u', r', q⟩ := hl j y v' e1 e2 e3
        refine ⟨u', r', ?_⟩
        rcases q with ⟨k, e⟩ | ⟨k, c, e, z⟩
        · refine .inl ⟨k, ?_⟩
          have : y ≠ x := fun e => hj (A1 hN e1 (e ▸ hi))
          simp [this, e]
        · exact .inr ⟨k, c, e, z.sameBut hs (cne y c e)⟩
    · obtain ⟨w', z⟩ := I.cell y c e
      exact ⟨w', z.sameBut hs (cne y c e)⟩
    · obtain ⟨e, n, ne, nf, d⟩ := I.pin p hp
      exact ⟨(hs.2 p.1 ne).trans e, n, ne, nf, d⟩
  · have hfn : X.fn x = true := by
      rcases hf with z | z
      · exact z
      · rw [z] at hk; cases hk
    obtain ⟨c, hc⟩ := I.ok.has x (.inl hk)
    obtain ⟨w', z⟩ := I.cell x c hc
    refine wpAny_storeName_cell I.ok.kind hk hc z (fun h' hc' hs => ?_)
    obtain ⟨oc, hoc, hocd⟩ := id z
    refine h { s with heap := h' } ⟨I.ok, I.os, I.bare, ⟨fun b o e n hb hx => ?_, fun b o e n hb hx => ?_, I.base.free, fun b o e hx => ?_, I.base.tups, I.base.frzs, I.base.tbls⟩, ⟨m, hn.sameBut hs (Ne.symm (cne x c hc)), fun j y v' e1 e2 e3 => ?_⟩, fun y c' e => ?_, I.free, I.freeC, fun p hp => ?_, tracked ⟨oc, hoc, I.freeC x c hc⟩ hs, by simpa using I.len⟩ ⟨c, hs, .inr hc⟩
    · exact (hs.2 b (Nat.ne_of_lt (Nat.lt_of_lt_of_le (Heap.lt_size e) (I.ok.cab x c hfn hc)))).trans (I.base.keep b o e n hb hx)
    · obtain ⟨sl, e1⟩ := I.base.slot b o e n hb hx
      exact ⟨sl, (hs.2 b (Nat.ne_of_lt (Nat.lt_of_lt_of_le (Heap.lt_size e) (I.ok.cab x c hfn hc)))).trans e1⟩
    · obtain ⟨o', e1⟩ := I.base.there b o e hx
      exact ⟨o', (hs.2 b (Nat.ne_of_lt (Nat.lt_of_lt_of_le (Heap.lt_size e) (I.ok.cab x c hfn hc)))).trans e1⟩
    · by_cases hj : j = i
      · subst hj
        rw [hi] at e1; cases e1
        rw [List.getElem?_set_self hiσ] at e2
        cases e2
        exact ⟨u, r, .inr ⟨.inl hk, c, hc, hc'⟩⟩
      · rw [List.getElem?_set_ne (Ne.symm hj)] at e2
        obtain ⟨u', r', q⟩ := hl j y v' e1 e2 e3
        refine ⟨u', r', ?_⟩
        rcases q with q | ⟨k, c', e, z'⟩
        · exact .inl q
        · refine .inr ⟨k, c', e, z'.sameBut hs ?_⟩
          rintro rfl
          exact hj (A1 hN e1 (I.ok.inj _ _ _ e hc ▸ hi))
    · by_cases hcc : c' = c
      · subst hcc; exact ⟨_, hc'⟩
      · obtain ⟨w2, z2⟩ := I.cell y c' e
        exact ⟨w2, z2.sameBut hs hcc⟩
    · obtain ⟨e, n, ne, nf, d⟩ := I.pin p hp
      refine ⟨(hs.2 p.1 ?_).trans e, n, ne, nf, d⟩
      intro q
      rw [q, hoc] at e
      have q' : oc = p.2 := Option.some.inj e
      exact d w' (by rw [← q']; exact hocd)
theorem Bc {M : Model} {A : Around} {E : Value → Shared → Prop} {i : Nat} {x : Str} {v : V} {u : Value} {Q : Unit → Shared → Prop} (I : Inv X pins σ H s) (hN : X.N.Nodup) (hi : X.N[i]? = some x) (hx : Loc X.env.scope x) (r : RelV v u)
    (h : ∀ s', Inv X pins (σ.set i (some v)) H s' → Q () s') (hf : X.fn x = true ∨ X.env.scope.names.lookup x = some .local := by first | exact .inl rfl | exact .inr rfl | assumption) : wpAny M A (storeName X.env x u) Q E s :=
  Ah I hN hi hx r (fun s' I' _ => h s' I') hf
theorem Inv.call' {s' : Shared} {ch : List Addr} (I : Inv X pins σ H s) (ho : s'.os = s.os) (u : Un (frs X.stack) ch H H' s.heap s'.heap) (hok : HOk X.prog X.w H' s'.heap) (hg : AllBare s'.gens)
    (hch : ∀ b ∈ ch, (b ∈ X.ex ∨ X.s₀.heap.objs.size ≤ b) ∧ b ≠ X.env.locals ∧ (∀ x c, X.env.cells.lookup x = some c → c ≠ b) ∧ ∀ p ∈ X.pn ++ pins, p.1 ≠ b) : Inv X pins σ H' s' := by
  obtain ⟨h', g', d', t', o'⟩ := s'
  have e : o' = s.os := ho
  subst e
  exact I.call (g' := g') (t' := t') (d' := d') u hok hg hch
end

abbrev XK := Value → Option Addr → Hp → Prop
abbrev St := List (Option V)
abbrev VK := V → Hp → Prop
abbrev TE := St → Hp → VK → Prop
abbrev TT := St → Hp → (Bool → Hp → Prop) → Prop
abbrev TA := St → Hp → (List V → Hp → Prop) → Prop
structure Ends where
  nx : St → Hp → Prop
  rt : VK
  bk : St → Hp → Prop := fun _ _ => False
  ct : St → Hp → Prop := fun _ _ => False
abbrev TS := Ends → St → Hp → Prop

def EP (X : Cx) (pins : List (Addr × Obj)) (σ : St) (Q : VK) (u : Value) (s' : Shared) : Prop := ∃ v H', Inv X pins σ H' s' ∧ RelV v u ∧ Q v H'
def TP (X : Cx) (pins : List (Addr × Obj)) (σ : St) (Q : Bool → Hp → Prop) (b : Bool) (s' : Shared) : Prop := ∃ H', Inv X pins σ H' s' ∧ Q b H'
def AP (X : Cx) (pins : List (Addr × Obj)) (σ : St) (Q : List V → Hp → Prop) (us : List Value) (s' : Shared) : Prop := ∃ vs H', Inv X pins σ H' s' ∧ Vals vs us ∧ Q vs H'
def SP (X : Cx) (pins : List (Addr × Obj)) (D : Ends) (f : Flow) (s' : Shared) : Prop :=
  match f with
  | .next => ∃ σ' H', Inv X pins σ' H' s' ∧ D.nx σ' H'
  | .brk => ∃ σ' H', Inv X pins σ' H' s' ∧ D.bk σ' H'
  | .cont => ∃ σ' H', Inv X pins σ' H' s' ∧ D.ct σ' H'
  | .ret u => ∃ v σ' H', Inv X pins σ' H' s' ∧ RelV v u ∧ D.rt v H'

def PE (X : Cx) (e : Expr) (t : TE) : Prop :=
  ∀ (pins : List (Addr × Obj)) (s : Shared) (σ : St) (H : Hp) (Q : VK), Inv X pins σ H s → t σ H Q → wpAny (model X.prog X.w) X.A (eval e X.env) (EP X pins σ Q) X.xe s
def PT (X : Cx) (e : Expr) (t : TT) : Prop :=
  ∀ (pins : List (Addr × Obj)) (s : Shared) (σ : St) (H : Hp) (Q : Bool → Hp → Prop), Inv X pins σ H s → t σ H Q → wpAny (model X.prog X.w) X.A (isTrue e X.env (eval e X.env)) (TP X pins σ Q) X.xe s
def PW (X : Cx) (e : Expr) (t : TT) : Prop :=
  ∀ (whole : Sem Value) (pins : List (Addr × Obj)) (s : Shared) (σ : St) (H : Hp) (Q : Bool → Hp → Prop), Inv X pins σ H s → t σ H Q → wpAny (model X.prog X.w) X.A (isTrue e X.env whole) (TP X pins σ Q) X.xe s
theorem PW.pt {X : Cx} {e : Expr} {t : TT} (h : PW X e t) : PT X e t := h _
def PA (X : Cx) (es : List Expr) (t : TA) : Prop :=
  ∀ (pos : Pos) (pins : List (Addr × Obj)) (s : Shared) (σ : St) (H : Hp) (Q : List V → Hp → Prop), Inv X pins σ H s → t σ H Q → wpAny (model X.prog X.w) X.A (spliced (backTo pos (starEach es X.env))) (AP X pins σ Q) X.xe s
def PS (X : Cx) (st : Stmt) (t : TS) : Prop :=
  ∀ (pins : List (Addr × Obj)) (s : Shared) (σ : St) (H : Hp) (D : Ends), Inv X pins σ H s → t D σ H → wpAny (model X.prog X.w) X.A (exec st X.env) (SP X pins D) X.xe s
def PSs (X : Cx) (st : List Stmt) (t : TS) : Prop :=
  ∀ (pins : List (Addr × Obj)) (s : Shared) (σ : St) (H : Hp) (D : Ends), Inv X pins σ H s → t D σ H → wpAny (model X.prog X.w) X.A (execs st X.env) (SP X pins D) X.xe s
theorem thn {α : Type} {t : Sem α} {Q Q' : α → Shared → Prop} {M : Model} {A : Around} {E : Value → Shared → Prop} {s : Shared} (h : wpAny M A t Q E s) (hQ : ∀ a s, Q a s → Q' a s) : wpAny M A t Q' E s := wpAny_mono h hQ fun _ _ x => x
end L2

namespace L2
open PySem PySem.Spec PyProof.Rows
section
variable {X : Cx}

theorem bin {a b : Expr} {ta tb : TE} (ha : PE X a ta) (hb : PE X b tb) {pins : List (Addr × Obj)} {s : Shared} {σ : St} {H : Hp} {R : V → V → Hp → Prop} (I : Inv X pins σ H s) (h : ta σ H fun x H1 => tb σ H1 fun y H2 => R x y H2)
    {α : Type} {Q : α → Shared → Prop} {f : Value → Value → Sem α}
    (hf : ∀ v u s2 x y H2, Inv X pins σ H2 s2 → RelV x v → RelV y u → R x y H2 → wpAny (model X.prog X.w) X.A (f v u) Q X.xe s2) :
    wpAny (model X.prog X.w) X.A (eval a X.env) (fun v s₁ => wpAny (model X.prog X.w) X.A (eval b X.env) (fun u s₂ => wpAny (model X.prog X.w) X.A (f v u) Q X.xe s₂) X.xe s₁) X.xe s := by
  refine thn (ha pins s σ H _ I h) fun v s1 ⟨x, H1, I1, r1, q1⟩ => ?_
  refine thn (hb pins s1 σ H1 _ I1 q1) fun u s2 ⟨y, H2, I2, r2, q2⟩ => ?_
  exact hf v u s2 x y H2 I2 r1 r2 q2

def yi (i : Nat) : TE := fun σ H Q => ∃ v, σ[i]? = some (some v) ∧ Q v H
def tC (v : V) : TE := fun _ H Q => Q v H
theorem eu {i : Nat} {x : Str} {pos : Pos} (hN : X.N[i]? = some x) (hv : Vis X.env.scope x) (hd : (x == ("__debug__" : Str)) = false := by decide) (hcd : (x == ("__classdict__" : Str)) = false := by decide) : PE X (.Name x pos) (yi i) := by
  intro pins s σ H Q I h
  obtain ⟨v, e, h⟩ := h
  obtain ⟨m, hn, hl⟩ := I.loc
  obtain ⟨u, r, l⟩ := hl i x v hN e hv
  have fin : EP X pins σ Q u s := ⟨v, H, I, r, h⟩
  rcases l with ⟨hk, hm⟩ | ⟨hk, c, hc, hcell⟩
  · exact wpAny_Name (wpAny_loadName_local I.ok.kind hk hn hm fin) hd
  · rcases hk with hk | hk
    · exact wpAny_Name (wpAny_loadName_cell I.ok.kind hk hc hcell fin) hd
    · exact wpAny_Name (wpAny_loadName_free I.ok.kind hk hc hcell fin hcd) hd
theorem eH {i j pos} : PE X (.Constant (.int i) j pos) (tC (.int i)) := fun _ _ _ H _ I h => wpAny_Constant_int ⟨.int i, H, I.tok _, ⟨_, rfl⟩, h⟩
theorem uA {b j pos} : PE X (.Constant (.bool b) j pos) (tC (.bl b)) := fun _ _ _ H _ I h => Constant_bool ⟨.bl b, H, I, rfl, h⟩
theorem uy {j pos} : PE X (.Constant .none j pos) (tC .non) := fun _ _ _ H _ I h => Constant_none ⟨.non, H, I, rfl, h⟩
theorem tN {x j pos} : PE X (.Constant (.str x) j pos) (tC (.str x)) := fun _ _ _ H _ I h => Calls.Constant_str ⟨.str x, H, I.tok _, ⟨_, rfl⟩, h⟩

def Gl (X : Cx) (x : Str) : Prop := X.env.kindOf x = some .globalImplicit
theorem yy {E : Value → Shared → Prop} {pins : List (Addr × Obj)} {s : Shared} {σ : St} {H : Hp} {x : Str} {u : Value} {pos : Pos} {Q : Value → Shared → Prop} (I : Inv X pins σ H s) (hg : Gl X x) (hm : X.mg x = some u) (h : Q u s)
    (hd : (x == ("__debug__" : Str)) = false := by decide) : wpAny (model X.prog X.w) X.A (eval (.Name x pos) X.env) Q E s :=
  Calls.Name_function_global I.ok.kind hg (Calls.loadGlobal_global (by rw [I.ok.glob]; exact I.mod.glob.keeps I.bk) hm h) hd
theorem vN {E : Value → Shared → Prop} {pins : List (Addr × Obj)} {s : Shared} {σ : St} {H : Hp} {x : Str} {u : Value} {pos : Pos} {Q : Value → Shared → Prop} (I : Inv X pins σ H s) (hg : Gl X x) (hm : X.mg x = none) (hv : bootBuiltins x = some u) (h : Q u s)
    (hn : x ≠ "__name__" := by decide) (hd : (x == ("__debug__" : Str)) = false := by decide) : wpAny (model X.prog X.w) X.A (eval (.Name x pos) X.env) Q E s := by
  obtain ⟨mb, h1, h2⟩ := I.mod.blt
  exact Calls.Name_function_global I.ok.kind hg (Calls.loadGlobal_builtin (by rw [I.ok.glob]; exact I.mod.glob.keeps I.bk) hm (by rw [I.ok.blt]; exact h1.keeps I.bk) ((h2 x hn).trans hv) h) hd
theorem Ck {x : Str} {v : V} {u : Value} {pos : Pos} (hg : Gl X x) (hm : X.mg x = some u) (r : RelV v u) (hd : (x == ("__debug__" : Str)) = false := by decide) : PE X (.Name x pos) (tC v) :=
  fun _ _ _ H _ I h => yy I hg hm ⟨v, H, I, r, h⟩ hd
theorem uK {x : Str} {v : V} {u : Value} {pos : Pos} (hg : Gl X x) (hm : X.mg x = none) (hv : bootBuiltins x = some u) (r : RelV v u) (hn : x ≠ "__name__" := by decide) (hd : (x == ("__debug__" : Str)) = false := by decide) : PE X (.Name x pos) (tC v) :=
  fun _ _ _ H _ I h => vN I hg hm hv ⟨v, H, I, r, h⟩ hn hd

variable {a b : Expr} {ta tb : TE} {pos : Pos}
def PC (X : Cx) (op : CmpOp) (a b : Expr) (t : TE) : Prop :=
  ∀ (pins : List (Addr × Obj)) (s : Shared) (σ : St) (H : Hp) (Q : VK), Inv X pins σ H s → t σ H Q →
    wpAny (model X.prog X.w) X.A (eval a X.env) (fun v s₁ => wpAny (model X.prog X.w) X.A (eval b X.env) (fun u s₂ => wpAny (model X.prog X.w) X.A (compareOp op v u) (EP X pins σ Q) X.xe s₂) X.xe s₁) X.xe s
theorem EN (b : Expr) {op : CmpOp} (h : op ≠ .In) (h2 : op ≠ .NotIn) : behindInMarks op b = false := by
  have e1 : (op == CmpOp.In) = false := by cases op <;> first | rfl | exact absurd rfl h
  have e2 : (op == CmpOp.NotIn) = false := by cases op <;> first | rfl | exact absurd rfl h2
  cases b <;> simp [behindInMarks, e1, e2]
def tB (t : TE) : TT := fun σ H Q => t σ H fun x H1 => ∃ c, x = .bl c ∧ Q c H1
theorem Gu {op : CmpOp} {t : TE} (h : PC X op a b t) (h1 : behindInMarks op b = false := by first | exact EN _ (by decide) (by decide) | rfl) : PT X (.Compare a [op] [b] pos) (tB t) := by
  intro pins s σ H Q I hw
  refine wpAny_isTrue_Compare1 (thn (h pins s σ H _ I hw) fun v s1 h1 => thn h1 fun u s2 h2 => thn h2 fun c s3 ⟨x, H1, I1, r1, q1⟩ => ?_) h1
  obtain ⟨d, rfl, q⟩ := q1
  cases r1
  exact wpAny_truthy_bool ⟨H1, I1, q⟩
theorem ua {e : Expr} {t : TE} (h : PE X e t) (he : ∀ whole, isTrue e X.env whole = (do let v ← whole; standAt e.pos; holding [v] (truthy v)) := by intro _; rfl) : PT X e (tB t) := by
  intro pins s σ H Q I hw
  refine isTrue_plain (thn (h pins s σ H _ I hw) fun v s1 ⟨x, H1, I1, r1, q1⟩ => ?_) (he _)
  obtain ⟨d, rfl, q⟩ := q1
  cases r1
  exact wpAny_truthy_bool ⟨H1, I1, q⟩

variable {tA tB' : TT} {rest : List Expr}
def GG (t u : TT) : TT := fun σ H Q => t σ H fun c H1 => if c = true then u σ H1 Q else Q false H1
def tOr (t u : TT) : TT := fun σ H Q => t σ H fun c H1 => if c = true then Q true H1 else u σ H1 Q
def GC (t : TT) : TT := fun σ H Q => t σ H fun c H1 => Q (!c) H1
theorem vG (ha : PT X a tA) : PW X (.BoolOp .And [a] pos) tA := by
  intro wh pins s σ H Q I h
  refine isTrue_and (thn (ha pins s σ H Q I h) fun c s1 e => ?_)
  cases c with
  | true => exact isTrue_and_nil e
  | false => exact e
theorem uU (ha : PT X a tA) : PW X (.BoolOp .Or [a] pos) tA := by
  intro wh pins s σ H Q I h
  refine isTrue_or (thn (ha pins s σ H Q I h) fun c s1 e => ?_)
  cases c with
  | false => exact isTrue_or_nil e
  | true => exact e
theorem vB (ha : PT X a tA) (hb : PW X (.BoolOp .And (b :: rest) pos) tB') : PW X (.BoolOp .And (a :: b :: rest) pos) (GG tA tB') := by
  intro wh pins s σ H Q I h
  refine isTrue_and (thn (ha pins s σ H _ I h) fun c s1 ⟨H1, I1, q1⟩ => ?_)
  cases c with
  | true => exact hb wh pins s1 σ H1 Q I1 q1
  | false => exact ⟨H1, I1, q1⟩
theorem uF (ha : PT X a tA) (hb : PW X (.BoolOp .Or (b :: rest) pos) tB') : PW X (.BoolOp .Or (a :: b :: rest) pos) (tOr tA tB') := by
  intro wh pins s σ H Q I h
  refine isTrue_or (thn (ha pins s σ H _ I h) fun c s1 ⟨H1, I1, q1⟩ => ?_)
  cases c with
  | true => exact ⟨H1, I1, q1⟩
  | false => exact hb wh pins s1 σ H1 Q I1 q1
theorem uz (ha : PT X a tA) : PT X (.UnaryOp .Not a pos) (GC tA) := by
  intro pins s σ H Q I h
  exact isTrue_not (ha pins s σ H (fun c H1 => Q (!c) H1) I h)
def Fo (ta tb : TE) : TE := fun σ H Q => ta σ H fun x H1 => ∃ c, x = .bl c ∧ if c = true then tb σ H1 Q else Q (.bl false) H1
def Gx (ta tb : TE) : TE := fun σ H Q => ta σ H fun x H1 => ∃ c, x = .bl c ∧ if c = true then Q (.bl true) H1 else tb σ H1 Q
def Fd (ta : TE) : TE := fun σ H Q => ta σ H fun x H1 => ∃ c, x = .bl c ∧ Q (.bl (!c)) H1
theorem uN {op} {t : TE} (h : PE X a t) : PE X (.BoolOp op [a] pos) t := fun pins s σ H Q I hw => BoolOp_one (h pins s σ H Q I hw)
theorem uM (ha : PE X a ta) (hb : PE X (.BoolOp .And (b :: rest) pos) tb) : PE X (.BoolOp .And (a :: b :: rest) pos) (Fo ta tb) := by
  intro pins s σ H Q I h
  refine BoolOp_and (thn (ha pins s σ H _ I h) fun v s1 ⟨x, H1, I1, r1, q1⟩ => ?_)
  obtain ⟨c, rfl, q1⟩ := q1
  cases r1
  refine wpAny_truthy_bool ?_
  cases c with
  | true => exact hb pins s1 σ H1 Q I1 q1
  | false => exact ⟨.bl false, H1, I1, rfl, q1⟩
theorem Hh (ha : PE X a ta) (hb : PE X (.BoolOp .Or (b :: rest) pos) tb) : PE X (.BoolOp .Or (a :: b :: rest) pos) (Gx ta tb) := by
  intro pins s σ H Q I h
  refine BoolOp_or (thn (ha pins s σ H _ I h) fun v s1 ⟨x, H1, I1, r1, q1⟩ => ?_)
  obtain ⟨c, rfl, q1⟩ := q1
  cases r1
  refine wpAny_truthy_bool ?_
  cases c with
  | false => exact hb pins s1 σ H1 Q I1 q1
  | true => exact ⟨.bl true, H1, I1, rfl, q1⟩
theorem wZ (ha : PE X a ta) : PE X (.UnaryOp .Not a pos) (Fd ta) := by
  intro pins s σ H Q I h
  refine UnaryOp_ (thn (ha pins s σ H _ I h) fun v s1 ⟨x, H1, I1, r1, q1⟩ => ?_)
  obtain ⟨c, rfl, q1⟩ := q1
  cases r1
  exact not_of (wpAny_truthy_bool ⟨.bl (!c), H1, I1, rfl, q1⟩)
end
end L2

namespace L2
open PySem PySem.Spec PyProof.Rows

def SqL (K : PySem.W.Frag) (H : Hp) (a : Addr) (xs : List V) : Prop :=
  Rd H a (.lst xs) ∨
    ∃ (o : Obj) (its : Array Value) (n : Nat), K.lookup a = some o ∧ o.cls = .type "list" ∧ o.dict = none ∧ o.data = .seq its n ∧ its.size ≤ sizeLine ∧ Vals xs its.toList
def SqT (K : PySem.W.Frag) (H : Hp) (a : Addr) (xs : List V) : Prop :=
  Rd H a (.tup xs) ∨
    ∃ (o : Obj) (its : Array Value) (n : Nat), K.lookup a = some o ∧ o.cls = .type "tuple" ∧ o.data = .seq its n ∧ its.size ≤ sizeLine ∧ Vals xs its.toList
def Hr : Value → Option V
  | .none => some .non
  | .bool b => some (.bl b)
  | .int i _ => some (.int i)
  | .str x _ => some (.str x)
  | .bytes b _ => some (.byt b)
  | .float b _ => some (.flt b)
  | .ref a => some (.ref a)
  | .type n => some (.ty n)
  | _ => none
theorem RelV.abs {x : V} {u : Value} (r : RelV x u) : Hr u = some x := by
  cases x with
  | non => cases r; rfl
  | bl _ => cases r; rfl
  | int _ => obtain ⟨t, rfl⟩ := r; rfl
  | str _ => obtain ⟨t, rfl⟩ := r; rfl
  | byt _ => obtain ⟨t, rfl⟩ := r; rfl
  | flt _ => obtain ⟨t, rfl⟩ := r; rfl
  | ref _ => cases r; rfl
  | ty _ => cases r; rfl
theorem RelV.inj {x y : V} {u : Value} (r : RelV x u) (q : RelV y u) : x = y := Option.some.inj (r.abs.symm.trans q.abs)
theorem Vals.inj : ∀ {xs ys : List V} {us : List Value}, Vals xs us → Vals ys us → xs = ys
  | _, _, _, .nil, .nil => rfl
  | _, _, _, .cons r t, .cons r' t' => by rw [r.inj r', Vals.inj t t']
section
variable {X : Cx} {pins : List (Addr × Obj)} {σ : St} {H : Hp} {s : Shared} {a : Addr} {xs ys : List V}
theorem SqL.of {K : PySem.W.Frag} (h : H a = some (.lst xs)) : SqL K H a xs := .inl (.inl h)
theorem SqT.of {K : PySem.W.Frag} (h : H a = some (.tup xs)) : SqT K H a xs := .inl (.inl h)
theorem Inv.list (I : Inv X pins σ H s) (h : SqL X.K H a xs) : ∃ its : List Value, Vals xs its ∧ PlainL s.heap a its.toArray ∧ xs.length ≤ sizeLine := by
  rcases h with h | ⟨o, its, n, hk, hc, hd, hs, hz, r⟩
  · obtain ⟨z, its, n, r, e⟩ := h.ok I.hok
    exact ⟨its, r, ⟨_, n, e, rfl, rfl, rfl⟩, z⟩
  · refine ⟨its.toList, r, ⟨o, n, I.kIn a o hk, hc, hd, by simpa using hs⟩, ?_⟩
    have e := r.length
    simp only [Array.length_toList] at e
    omega
theorem Inv.tuple (I : Inv X pins σ H s) (h : SqT X.K H a xs) : ∃ its : List Value, Vals xs its ∧ IsTup s.heap a its.toArray ∧ xs.length ≤ sizeLine := by
  rcases h with h | ⟨o, its, n, hk, hc, hs, hz, r⟩
  · obtain ⟨z, its, r, p, _⟩ := h.ok I.hok
    exact ⟨its, r, p, z⟩
  · refine ⟨its.toList, r, ⟨o, I.kIn a o hk, hc, n, by simpa using hs⟩, ?_⟩
    have e := r.length
    simp only [Array.length_toList] at e
    omega
theorem Inv.list_inj (I : Inv X pins σ H s) (h : SqL X.K H a xs) (h' : SqL X.K H a ys) : xs = ys := by
  obtain ⟨its, r, ⟨o, n, e, _, _, d⟩, _⟩ := I.list h
  obtain ⟨its', r', ⟨o', n', e', _, _, d'⟩, _⟩ := I.list h'
  rw [e] at e'; cases e'
  rw [d] at d'
  injection d' with d1 _
  have : its = its' := by simpa using congrArg Array.toList d1
  subst this
  exact r.inj r'
theorem Inv.tuple_inj (I : Inv X pins σ H s) (h : SqT X.K H a xs) (h' : SqT X.K H a ys) : xs = ys := by
  obtain ⟨its, r, ⟨o, e, _, n, d⟩, _⟩ := I.tuple h
  obtain ⟨its', r', ⟨o', e', _, n', d'⟩, _⟩ := I.tuple h'
  rw [e] at e'; cases e'
  rw [d] at d'
  injection d' with d1 _
  have : its = its' := by simpa using congrArg Array.toList d1
  subst this
  exact r.inj r'
end

abbrev Cx.wish (X : Cx) (E : Value → Shared → Prop) : Cx := { X with xe := E }
abbrev Cx.nox (X : Cx) : Cx := X.wish fun _ _ => False
theorem Cx.Ok.wish {X : Cx} (ok : X.Ok) (E : Value → Shared → Prop) : (X.wish E).Ok :=
  ⟨ok.mod, ok.kind, ok.glob, ok.blt, ok.above, ok.inj, ok.has, ok.cab, ok.hd, ok.frames, ok.stk, ok.exf, ok.bs, ok.bsz, ok.noex, ok.exfs, ok.funs, ok.frf⟩
theorem Cx.Ok.unwish {X : Cx} {E : Value → Shared → Prop} (ok : (X.wish E).Ok) : X.Ok :=
  ⟨ok.mod, ok.kind, ok.glob, ok.blt, ok.above, ok.inj, ok.has, ok.cab, ok.hd, ok.frames, ok.stk, ok.exf, ok.bs, ok.bsz, ok.noex, ok.exfs, ok.funs, ok.frf⟩
section
variable {X : Cx} {pins : List (Addr × Obj)} {σ : St} {H : Hp} {s : Shared} {E : Value → Shared → Prop}
theorem Inv.wish (I : Inv X pins σ H s) (E : Value → Shared → Prop) : Inv (X.wish E) pins σ H s := ⟨I.ok.wish E, I.os, I.bare, I.base, I.loc, I.cell, I.free, I.freeC, I.pin, I.hok, I.len⟩
theorem Inv.unwish (I : Inv (X.wish E) pins σ H s) : Inv X pins σ H s := ⟨I.ok.unwish, I.os, I.bare, I.base, I.loc, I.cell, I.free, I.freeC, I.pin, I.hok, I.len⟩
theorem SP.unwish {D : Ends} {f : Flow} {s' : Shared} (h : SP (X.wish E) pins D f s') : SP X pins D f s' := by
  cases f with
  | next => obtain ⟨σ', H', I, q⟩ := h; exact ⟨σ', H', I.unwish, q⟩
  | brk => obtain ⟨σ', H', I, q⟩ := h; exact ⟨σ', H', I.unwish, q⟩
  | cont => obtain ⟨σ', H', I, q⟩ := h; exact ⟨σ', H', I.unwish, q⟩
  | ret u => obtain ⟨v, σ', H', I, r, q⟩ := h; exact ⟨v, σ', H', I.unwish, r, q⟩
theorem PSs.nox {st : List Stmt} {t : TS} (h : PSs X.nox st t) : PSs X st t := fun pins s σ H D I hw =>
  wpAny_mono (h pins s σ H D (I.wish _) hw) (fun _ _ q => q.unwish) fun _ _ z => False.elim z
end

section
variable {X : Cx} {st : Stmt} {rest : List Stmt} {t u : TS} {e : Expr} {te : TE} {pos : Pos}
def Fz : TS := fun D σ H => D.nx σ H
def Gw (t u : TS) : TS := fun D σ H => t { D with nx := u D } σ H
theorem tF : PSs X [] Fz := fun _ _ σ H _ I h => wpAny_execs_nil ⟨σ, H, I, h⟩
theorem fz (h1 : PS X st t) (h2 : PSs X rest u) : PSs X (st :: rest) (Gw t u) := by
  intro pins s σ H D I h
  refine wpAny_execs_cons (thn (h1 pins s σ H { D with nx := u D } I h) fun f s1 q => ?_)
  cases f with
  | next =>
    obtain ⟨σ', H', I', q⟩ := q
    exact h2 pins s1 σ' H' D I' q
  | ret v => exact q
  | brk => exact q
  | cont => exact q
theorem ki (h1 : PS X st t) : PSs X [st] t := by
  intro pins s σ H D I h
  refine wpAny_execs_cons (thn (h1 pins s σ H D I h) fun f s1 q => ?_)
  cases f with
  | next => exact wpAny_execs_nil q
  | ret v => exact q
  | brk => exact q
  | cont => exact q
theorem Inv.quiet {pins : List (Addr × Obj)} {σ : St} {H : Hp} {s : Shared} (I : Inv X pins σ H s) : interactive X.env = false := by simp [interactive, I.ok.kind]
def FA (te : TE) : TS := fun D σ H => te σ H fun _ H1 => D.nx σ H1
theorem B4 (he : PE X e te) (hs : swapsWith e none pos.line X.env = pure false := by rfl) : PS X (.Expr e pos) (FA te) := by
  intro pins s σ H D I h
  exact wpAny_Expr_any (thn (he pins s σ H _ I h) fun v s1 ⟨x, H1, I1, r1, q1⟩ => ⟨σ, H1, I1, q1⟩) I.quiet hs
def GD (te : TE) : TS := fun D σ H => te σ H D.rt
theorem nt (he : PE X e te) : PS X (.Return (some e) pos) (GD te) := by
  intro pins s σ H D I h
  exact wpAny_Return_some (thn (he pins s σ H _ I h) fun v s1 ⟨x, H1, I1, r1, q1⟩ => ⟨x, σ, H1, I1, r1, q1⟩)
def GA (c : TT) (t u : TS) : TS := fun D σ H => c σ H fun b H1 => if b = true then t D σ H1 else u D σ H1
theorem tL {c : Expr} {a b : List Stmt} {tc : TT} (hc : PT X c tc) (ha : PSs X a t) (hb : PSs X b u) : PS X (.If c a b pos) (GA tc t u) := by
  intro pins s σ H D I h
  refine wpAny_If (thn (hc pins s σ H _ I h) fun d s1 ⟨H1, I1, q1⟩ => ?_)
  cases d with
  | true => exact ha pins s1 σ H1 D I1 q1
  | false => exact hb pins s1 σ H1 D I1 q1
def DC : TS := fun _ _ _ => False
theorem xV : PS X st DC := fun _ _ _ _ _ _ h => h.elim
end

abbrev TG := V → St → Hp → (St → Hp → Prop) → Prop
abbrev TGs := List V → St → Hp → (St → Hp → Prop) → Prop
def PG (X : Cx) (target : Expr) (t : TG) : Prop :=
  ∀ (pins : List (Addr × Obj)) (s : Shared) (σ : St) (H : Hp) (v : V) (u : Value) (Q : St → Hp → Prop), Inv X pins σ H s → RelV v u → t v σ H Q →
    wpAny (model X.prog X.w) X.A (assign target X.env u) (fun _ s' => ∃ σ' H', Inv X pins σ' H' s' ∧ Q σ' H') X.xe s
def PGs (X : Cx) (ts : List Expr) (t : TGs) : Prop :=
  ∀ (pins : List (Addr × Obj)) (s : Shared) (σ : St) (H : Hp) (vs : List V) (us : List Value) (Q : St → Hp → Prop), Inv X pins σ H s → Vals vs us → t vs σ H Q →
    wpAny (model X.prog X.w) X.A (assignInOrder ((assignEach ts X.env).map (·.2)) us) (fun _ s' => ∃ σ' H', Inv X pins σ' H' s' ∧ Q σ' H') X.xe s
abbrev EH := V → V → V → Hp → (Hp → Prop) → Prop
def GL (X : Cx) (t : EH) : Prop :=
  ∀ (pins : List (Addr × Obj)) (s : Shared) (σ : St) (H : Hp) (o i v : V) (ov iv u : Value) (Q : Hp → Prop), Inv X pins σ H s → RelV o ov → RelV i iv → RelV v u → t o i v H Q →
    wpAny (model X.prog X.w) X.A (setItem ov iv u) (fun _ s' => ∃ H', Inv X pins σ H' s' ∧ Q H') X.xe s
section
variable {X : Cx} {pos : Pos}
def zo (i : Nat) : TG := fun v σ H Q => Q (σ.set i (some v)) H
theorem uu {i : Nat} {x : Str} (hN : X.N.Nodup) (hi : X.N[i]? = some x) (hx : Loc X.env.scope x) (hf : X.fn x = true ∨ X.env.scope.names.lookup x = some .local := by first | exact .inl rfl | exact .inr rfl | assumption) : PG X (.Name x pos) (zo i) := by
  intro pins s σ H v u Q I r h
  exact wpAny_assign_Name (Bc I hN hi hx r (fun s' I' => ⟨_, H, I', h⟩) hf)
def GB : TGs := fun vs σ H Q => vs = [] ∧ Q σ H
def Fx (t : TG) (u : TGs) : TGs := fun vs σ H Q => ∃ v r, vs = v :: r ∧ t v σ H fun σ' H' => u r σ' H' Q
theorem zS : PGs X [] GB := by
  intro pins s σ H vs us Q I r h
  obtain ⟨e, h⟩ := h
  subst e
  cases r
  exact assignInOrder_nil ⟨σ, H, I, h⟩
theorem vP {e : Expr} {es : List Expr} {t : TG} {u : TGs} (h1 : PG X e t) (h2 : PGs X es u)
    (hs : (assignEach (e :: es) X.env).map (·.2) = assign e X.env :: (assignEach es X.env).map (·.2) := by rfl) : PGs X (e :: es) (Fx t u) := by
  intro pins s σ H vs us Q I r h
  obtain ⟨v, vr, e1, h⟩ := h
  subst e1
  cases r with
  | cons r rr =>
    rw [hs]
    refine assignInOrder_cons (thn (h1 pins s σ H _ _ _ I r h) fun _ s1 ⟨σ1, H1, I1, q1⟩ => ?_)
    exact h2 pins s1 σ1 H1 _ _ Q I1 rr q1
def EV (K : PySem.W.Frag) (n : Nat) (t : TGs) : TG := fun v σ H Q => ∃ a xs, v = .ref a ∧ SqT K H a xs ∧ xs.length = n ∧ t xs σ H Q
theorem Gh {es : List Expr} {k : Nat} {t : TGs} {n : Nat} (hc : X.calm = true) (h : PGs X es t)
    (hn : (assignEach es X.env).length = n := by rfl) (hst : (assignEach es X.env).findIdx? (·.1) = none := by rfl) : PG X (.Tuple es k pos) (EV X.K n t) := by
  intro pins s σ H v u Q I r hw
  obtain ⟨a, xs, e1, hq, hl, hw⟩ := hw
  subst e1
  cases r
  obtain ⟨its, rv, ht, hz⟩ := I.tuple hq
  refine assign_Tuple_tuple (I.ok.hd hc) ht (by simp [hn, ← hl, rv.length]) hst fun h' hx => ?_
  have I1 : Inv X pins σ H { s with heap := h' } := I.kept (t' := s.toks) fun b o e => hx b o (Nat.ne_of_lt (Heap.lt_size e)) e
  exact h pins _ σ H xs _ Q I1 (by simpa using rv) hw
def Gs (to ti : TE) (t : EH) : TG := fun v σ H Q => to σ H fun o H1 => ti σ H1 fun i H2 => t o i v H2 fun H3 => Q σ H3
theorem GU {o i : Expr} {to ti : TE} {t : EH} (ho : PE X o to) (hi : PE X i ti) (hs : GL X t)
    (ha : ∀ v, assign (.Subscript o i pos) X.env v = (do
      let ov ← holding [v] (eval o X.env)
      let iv ← holding [v, ov] (eval i X.env)
      standAt pos
      holding [v, ov, iv] (setItem ov iv v)
      release [v, ov, iv] []) := by intro _; rfl) : PG X (.Subscript o i pos) (Gs to ti t) := by
  intro pins s σ H v u Q I r h
  rw [ha]
  refine wpAny_bind (wpAny_holding (thn (ho pins s σ H _ I h) fun ov s1 ⟨x, H1, I1, r1, q1⟩ => ?_))
  refine wpAny_bind (wpAny_holding (thn (hi pins s1 σ H1 _ I1 q1) fun iv s2 ⟨y, H2, I2, r2, q2⟩ => ?_))
  refine wpAny_bind (wpAny_standAt (wpAny_bind (wpAny_holding (thn (hs pins s2 σ H2 x y v ov iv u _ I2 r1 r2 r q2) fun _ s3 ⟨H3, I3, q3⟩ => ?_))))
  exact wpAny_release ⟨σ, H3, I3, q3⟩
def C4 (te : TE) (g : TG) : TS := fun D σ H => te σ H fun x H1 => g x σ H1 D.nx
theorem GW {tg e : Expr} {te : TE} {g : TG} (he : PE X e te) (hg : PG X tg g) (hs : swapsWithSole [tg] e pos.line X.env = pure false := by rfl) (hw : swappedStores [tg] e X.env = pure none := by rfl)
    (h1 : (assignEach [tg] X.env).map (·.2) = [assign tg X.env] := by rfl) : PS X (.Assign [tg] e pos) (C4 te g) := by
  intro pins s σ H D I h
  refine wpAny_Assign_stores (thn (he pins s σ H _ I h) fun v s1 ⟨x, H1, I1, r1, q1⟩ => ?_) hs hw
  rw [h1]
  exact thn (hg pins s1 σ H1 x v _ I1 r1 q1) fun _ s2 q => q
theorem tK {i : Nat} {x : Str} {e : Expr} {te : TE} {pos' : Pos} (hN : X.N.Nodup) (hi : X.N[i]? = some x) (hx : Loc X.env.scope x) (he : PE X e te) (hs : swapsWith e (some (.Name x pos')) pos.line X.env = pure false := by rfl) (hf : X.fn x = true ∨ X.env.scope.names.lookup x = some .local := by first | exact .inl rfl | exact .inr rfl | assumption) :
    PS X (.Assign [.Name x pos'] e pos) (C4 te (zo i)) := by
  intro pins s σ H D I h
  refine wpAny_Assign_Name (thn (he pins s σ H _ I h) fun v s1 ⟨y, H1, I1, r1, q1⟩ => ?_) hs
  exact Bc I1 hN hi hx r1 (fun s2 I2 => ⟨_, H1, I2, q1⟩) hf
end

section
variable {X : Cx} {pos : Pos}
end

structure It where
  go : Nat → Hp → Prop
  yld : Nat → Hp → V → Hp → Prop
  stop : Nat → Hp → Prop
def FpOk (X : Cx) (pins : List (Addr × Obj)) (H : Hp) (b : Addr) : Prop :=
  H b = none ∧ b ≠ X.env.locals ∧ b ∉ X.fs ∧ (b ∈ X.ex ∨ X.s₀.heap.objs.size ≤ b) ∧ (∀ x c, X.env.cells.lookup x = some c → c ≠ b) ∧ ∀ p ∈ X.pn ++ pins, p.1 ≠ b
theorem Inv.fpOk {X : Cx} {pins : List (Addr × Obj)} {σ : St} {H H' : Hp} {s : Shared} {b : Addr} (I : Inv X pins σ H s) (hb : s.heap.objs.size ≤ b) (hn : H' b = none) : FpOk X pins H' b := by
  refine ⟨hn, Nat.ne_of_gt (Nat.lt_of_lt_of_le I.lt hb), I.nofs hb, .inr (Nat.le_trans I.sz hb), fun x c e z => ?_, fun p hp z => ?_⟩
  · obtain ⟨v, q⟩ := I.cell x c e
    exact absurd (Nat.lt_of_lt_of_le q.lt (by rw [z]; exact hb)) (Nat.lt_irrefl _)
  · exact absurd (Nat.lt_of_lt_of_le (Heap.lt_size (I.pin p hp).1) (by rw [z]; exact hb)) (Nat.lt_irrefl _)
structure Turn (P : Program) (w : World) (K : PySem.W.Frag) (tg : Expr) (J : It) (fp : List Addr) (it : Addr) (tn : Nat → Heap → Prop) : Prop where
  mem : it ∈ fp
  obj : ∀ i h, tn i h → ∀ b ∈ fp, ∃ o, h.get? b = some o ∧ ∀ v, o.data ≠ .cell v
  keep : ∀ i h h', tn i h → (∀ b ∈ fp, ∀ o, h.get? b = some o → h'.get? b = some o) → tn i h'
  item : ∀ (X : Cx), X.prog = P → X.w = w → X.K = K → X.calm = true → ∀ (i : Nat) (pins : List (Addr × Obj)) (s : Shared) (σ : St) (H : Hp) (E : Value → Shared → Prop), Inv X pins σ H s → (∀ b ∈ fp, FpOk X pins H b) → tn i s.heap → J.go i H →
    wpAny (model P w) X.A (pyNext (.ref it)) (fun r s1 => ∃ u, r = some u ∧
      wpAny (model P w) X.A (letOwnedTupleGo tg (.ref it) u) (fun _ s2 => ∃ x H', Inv X pins σ H' s2 ∧ RelV x u ∧ J.yld i H x H' ∧ tn (i + 1) s2.heap ∧ ∀ b ∈ fp, H' b = none) E s1) E s
  done : ∀ (X : Cx), X.prog = P → X.w = w → X.K = K → X.calm = true → ∀ (i : Nat) (pins : List (Addr × Obj)) (s : Shared) (σ : St) (H : Hp) (E : Value → Shared → Prop), Inv X pins σ H s → (∀ b ∈ fp, FpOk X pins H b) → tn i s.heap → J.stop i H →
    wpAny (model P w) X.A (pyNext (.ref it)) (fun r s1 => r = none ∧ Inv X pins σ H s1) E s
  self : ∀ (A : Around) (i : Nat) (s : Shared) (Q : Value → Shared → Prop) (E : Value → Shared → Prop), tn i s.heap → Q (.ref it) s → wpAny (model P w) A (pyIter (.ref it)) Q E s
abbrev TI := St → Hp → (It → Hp → Prop) → Prop
def PIE (X : Cx) (pins : List (Addr × Obj)) (σ : St) (tg : Expr) (R : It → Hp → Prop) (itv : Value) (s2 : Shared) : Prop :=
  ∃ (it : Addr) (fp : List Addr) (tn : Nat → Heap → Prop) (J : It) (H' : Hp), itv = .ref it ∧ Inv X pins σ H' s2 ∧ Turn X.prog X.w X.K tg J fp it tn ∧ tn 0 s2.heap ∧ (∀ b ∈ fp, FpOk X pins H' b) ∧ R J H'
def PI (X : Cx) (tg iter : Expr) (wi : TI) : Prop :=
  ∀ (pins : List (Addr × Obj)) (s : Shared) (σ : St) (H : Hp) (R : It → Hp → Prop), Inv X pins σ H s → wi σ H R →
    wpAny (model X.prog X.w) X.A (eval iter X.env) (fun v s1 => wpAny (model X.prog X.w) X.A (pyIter v) (PIE X pins σ tg R) X.xe s1) X.xe s

theorem C5 {M : Model} {A : Around} {E : Value → Shared → Prop} {s : Shared} {tg : Expr} {it : Addr} {u : Value} {o : Obj} {n : String} {vs : Array Value} {Q : Unit → Shared → Prop} (ho : s.heap.get? it = some o) (hc : o.cls = .type n) (hd : o.data = .fields vs)
    (hn : ["enumerate", "zip", "dict_itemiterator", "dict_reverseitemiterator", "odict_iterator", "itertools.zip_longest", "itertools.pairwise"].contains n = false) (hQ : Q () s) : wpAny M A (letOwnedTupleGo tg (.ref it) u) Q E s := by
  unfold letOwnedTupleGo
  cases tg <;> first
    | exact wpAny_pure hQ
    | (cases u <;> first
        | exact wpAny_pure hQ
        | (refine wpAny_bind (wpAny_load ho ?_)
           rw [hc, hd]
           show wpAny M A (if (["enumerate", "zip", "dict_itemiterator", "dict_reverseitemiterator", "odict_iterator", "itertools.zip_longest", "itertools.pairwise"].contains n && vs[0]? == some (rawInt _)) = true then _ else _) Q E s
           rw [if_neg (by intro h; rw [hn, Bool.false_and] at h; cases h)]
           exact wpAny_pure hQ))

def Itl (K : PySem.W.Frag) (a : Addr) : It :=
  ⟨fun i H => ∃ xs x, SqL K H a xs ∧ xs[i]? = some x, fun i H x H' => H' = H ∧ ∀ xs, SqL K H a xs → xs[i]? = some x, fun i H => ∃ xs, SqL K H a xs ∧ xs.length ≤ i⟩
def Itr (lo : Int) (n : Nat) : It := ⟨fun i _ => i < n, fun i H x H' => H' = H ∧ x = .int (lo + i), fun i _ => n ≤ i⟩
theorem DR {P : Program} {w : World} {K : PySem.W.Frag} {tg : Expr} (a it : Addr) : Turn P w K tg (Itl K a) [it] it (fun i h => h.IsListIter it a i) where
  mem := by simp
  obj := fun i h st b hb => by
    have e : b = it := by simpa using hb
    subst e
    obtain ⟨o, e, c, d⟩ := st
    exact ⟨o, e, fun v z => by rw [d] at z; cases z⟩
  keep := fun i h h' st k => st.at fun o e => k it (by simp) o e
  item := by
    intro X hP hw hK hc i pins s σ H E I hf st hg
    subst hP hw hK
    obtain ⟨xs, x, hq, hx⟩ := hg
    obtain ⟨its, rv, p, hz⟩ := I.list hq
    obtain ⟨u, hu, ru⟩ := rv.get hx
    obtain ⟨f0, f1, f2, f3, f4, f5⟩ := hf it (by simp)
    refine wpAny_pyNext_list_item st p.isList (x := u) (by simpa using hu) fun h' st' sb => ?_
    have I1 : Inv X pins σ H { s with heap := h' } := I.turned (t' := s.toks) (fun b o hb e => (sb.2 b hb).trans e) f0 f1 f3 f4 f5
    obtain ⟨o, e, c, d⟩ := id st'
    exact ⟨u, rfl, C5 (s := { s with heap := h' }) e c d (by decide) ⟨x, H, I1, ru, ⟨rfl, fun ys hy => by rw [I.list_inj hy hq]; exact hx⟩, st', fun b hb => (hf b hb).1⟩⟩
  done := by
    intro X hP hw hK hc i pins s σ H E I hf st hg
    subst hP hw hK
    obtain ⟨xs, hq, hx⟩ := hg
    obtain ⟨its, rv, p, hz⟩ := I.list hq
    obtain ⟨f0, f1, f2, f3, f4, f5⟩ := hf it (by simp)
    have hl := rv.length
    exact wpAny_pyNext_list_end (I.ok.hd hc) st p.isList (by simp; omega) fun h' eb => ⟨rfl, I.turned (t' := s.toks) (fun b o hb e => eb b o hb e) f0 f1 f3 f4 f5⟩
  self := fun _ _ _ _ _ st h => wpAny_pyIter_listiter st h
theorem Cu {P : Program} {w : World} {K : PySem.W.Frag} {tg : Expr} (it : Addr) (lo : Int) (n : Nat) : Turn P w K tg (Itr lo n) [it] it (fun i h => IsRangeIter h it (lo + (i : Nat) * 1) ((n : Int) - (i : Nat)) 1) where
  mem := by simp
  obj := fun i h st b hb => by
    have e : b = it := by simpa using hb
    subst e
    exact ⟨_, st, fun v z => by
      have z' : Data.fields _ = Data.cell v := z
      cases z'⟩
  keep := fun i h h' st k => k it (by simp) _ st
  item := by
    intro X hP hw hK hc i pins s σ H E I hf st hg
    subst hP hw hK
    obtain ⟨f0, f1, f2, f3, f4, f5⟩ := hf it (by simp)
    have W := Walks.range (prog := X.prog) (w := X.w) (I.ok.hd hc) it lo 1 n
    refine W.item i s _ _ hg st fun v h' tk hv st' kk => ?_
    obtain ⟨t, rfl⟩ := hv
    have I1 : Inv X pins σ H { s with heap := h', toks := tk } := I.turned (fun b o hb e => kk b o (by simpa using hb) e) f0 f1 f3 f4 f5
    refine ⟨_, rfl, C5 (s := { s with heap := h', toks := tk }) (n := "range_iterator") st' rfl rfl (by decide) ⟨.int (lo + i), H, I1, ⟨t, ?_⟩, ⟨rfl, rfl⟩, st', fun b hb => (hf b hb).1⟩⟩
    rw [Int.mul_one]
  done := by
    intro X hP hw hK hc i pins s σ H E I hf st hg
    subst hP hw hK
    obtain ⟨f0, f1, f2, f3, f4, f5⟩ := hf it (by simp)
    exact wpAny_pyNext_range_end (I.ok.hd hc) st (by have : n ≤ i := hg; omega) fun h' eb => ⟨rfl, I.turned (t' := s.toks) (fun b o hb e => eb b o hb e) f0 f1 f3 f4 f5⟩
  self := fun _ _ _ _ _ st h => wpAny_pyIter_rangeiter st h
end L2

namespace L2
open PySem PySem.Spec PyProof.Rows
section
variable {X : Cx} {tg : Expr}
def CS (K : PySem.W.Frag) (tl : TE) : TI := fun σ H R => tl σ H fun x H1 => ∃ a, x = .ref a ∧ (∃ xs, SqL K H1 a xs) ∧ R (Itl K a) H1
theorem Ca {l : Expr} {tl : TE} (hl : PE X l tl) : PI X tg l (CS X.K tl) := by
  intro pins s σ H R I h
  refine thn (hl pins s σ H _ I h) fun v s1 ⟨x, H1, I1, r1, q1⟩ => ?_
  obtain ⟨a, e, ⟨xs, hq⟩, q⟩ := q1
  subst e
  cases r1
  obtain ⟨its, rv, p, hz⟩ := I1.list hq
  refine wpAny_pyIter_list p.isList ?_
  refine ⟨s1.heap.objs.size, [s1.heap.objs.size], _, _, H1, rfl, I1.kept (t' := s1.toks) fun b o e => Heap.get?_push_of_some _ e, DR a _, ⟨_, Heap.get?_push_size _ rfl, rfl, rfl⟩, fun b hb => ?_, q⟩
  have e : b = s1.heap.objs.size := by simpa using hb
  subst e
  exact I1.fpOk (Nat.le_refl _) (I1.hok.fresh (Nat.le_refl _))
theorem AJ {pins : List (Addr × Obj)} {σ : St} {H : Hp} {s : Shared} {R : It → Hp → Prop} {E : Value → Shared → Prop} {lo hi : Int} {t u v : Tok} {tk : Nat} (I : Inv X pins σ H s) (h1 : -(2 ^ 62) ≤ lo) (h2 : lo < 2 ^ 62) (h3 : -(2 ^ 62) ≤ hi) (h4 : hi < 2 ^ 62)
    (q : R (Itr lo (hi - lo).toNat) H) : wpAny (model X.prog X.w) X.A (pyIter (.ref s.heap.objs.size)) (PIE X pins σ tg R) E { s with heap := s.heap.push { cls := .type "range", data := .fields #[.int lo t, .int hi u, .int 1 v] }, toks := tk } := by
  refine wpAny_pyIter_range (IsRange.new ..) (small_one h1 h2 h3 h4) ?_
  have I1 : Inv X pins σ H { s with heap := s.heap.push { cls := .type "range", data := .fields #[.int lo t, .int hi u, .int 1 v] }, toks := tk } := I.kept fun b o e => Heap.get?_push_of_some _ e
  refine ⟨(s.heap.push { cls := .type "range", data := .fields #[.int lo t, .int hi u, .int 1 v] }).objs.size, [(s.heap.push { cls := .type "range", data := .fields #[.int lo t, .int hi u, .int 1 v] }).objs.size], _, _, H, rfl,
    I1.kept (t' := tk) fun b o e => Heap.get?_push_of_some _ e, Cu _ lo (hi - lo).toNat, ?_, fun b hb => ?_, q⟩
  · have e1 : lo + ((0 : Nat) : Int) * 1 = lo := by simp
    have e2 : (((hi - lo).toNat : Nat) : Int) - ((0 : Nat) : Int) = Builtin.Range.rangeSize lo hi 1 := by rw [rangeSize_one]; split <;> omega
    show IsRangeIter _ _ (lo + ((0 : Nat) : Int) * 1) ((((hi - lo).toNat : Nat) : Int) - ((0 : Nat) : Int)) 1
    rw [e1, e2]
    exact Heap.get?_push_size _ rfl
  · have e : b = (s.heap.push { cls := .type "range", data := .fields #[.int lo t, .int hi u, .int 1 v] }).objs.size := by simpa using hb
    subst e
    exact I1.fpOk (Nat.le_refl _) (I1.hok.fresh (Nat.le_refl _))
def Fl (ta : TA) : TI := fun σ H R => ta σ H fun vs H1 => ∃ j : Int, vs = [.int j] ∧ -(2 ^ 62) ≤ j ∧ j < 2 ^ 62 ∧ R (Itr 0 j.toNat) H1
def Fe (ta : TA) : TI := fun σ H R => ta σ H fun vs H1 => ∃ i j : Int, vs = [.int i, .int j] ∧ (-(2 ^ 62) ≤ i ∧ i < 2 ^ 62 ∧ -(2 ^ 62) ≤ j ∧ j < 2 ^ 62) ∧ R (Itr i (j - i).toNat) H1
theorem uT {a : Expr} {ta : TA} {p pos : Pos} (hg : Gl X "range") (hm : X.mg "range" = none) (ha : PA X [a] ta) (hs : starEach [a] X.env = [(false, eval a X.env)] := by rfl) : PI X tg (.Call (.Name "range" p) [a] [] pos) (Fl ta) := by
  intro pins s σ H R I h
  refine Call_ (vN I hg hm boot_range (PyProof.Rows.callWith_type1 (thn (ha pos pins s σ H _ I h) fun us s1 ⟨vs, H1, I1, r1, q1⟩ => ?_) hs rfl))
  obtain ⟨j, e, q1, q2, q⟩ := q1
  subst e
  cases r1 with
  | cons r rr =>
    cases rr
    obtain ⟨t, rfl⟩ := r
    exact call_range_1 (AJ I1 (by omega) (by omega) q1 q2 (by simpa using q))
theorem Eo {a b : Expr} {ta : TA} {p pos : Pos} (hg : Gl X "range") (hm : X.mg "range" = none) (ha : PA X [a, b] ta) (hs : starEach [a, b] X.env = [(false, eval a X.env), (false, eval b X.env)] := by rfl) (hs2 : starEach [b] X.env = [(false, eval b X.env)] := by rfl) :
    PI X tg (.Call (.Name "range" p) [a, b] [] pos) (Fe ta) := by
  intro pins s σ H R I h
  refine Call_ (vN I hg hm boot_range (PyProof.Rows.callWith_type1 (thn (ha pos pins s σ H _ I h) fun us s1 ⟨vs, H1, I1, r1, q1⟩ => ?_) (by rw [hs, hs2]) (by rw [hs2]; rfl)))
  obtain ⟨i, j, e, ⟨q1, q2, q3, q4⟩, q⟩ := q1
  subst e
  cases r1 with
  | cons r rr =>
    cases rr with
    | cons r' rr =>
      cases rr
      obtain ⟨t, rfl⟩ := r
      obtain ⟨t', rfl⟩ := r'
      exact call_range_2 (AJ I1 q1 q2 q3 q4 q)

def GI (wi : TI) (g : TG) (tb : TS) : TS := fun D σ H => wi σ H fun J H1 => ∃ W : Nat → Nat → St → Hp → Prop, (∃ m, W 0 m σ H1) ∧ ∀ i m σ H, W i m σ H →
  (J.stop i H ∧ D.nx σ H) ∨ (J.go i H ∧ ∃ N : St → Hp → Prop, (∀ σ' H', N σ' H' → ∃ m', m' < m ∧ W (i + 1) m' σ' H') ∧ ∀ x H', J.yld i H x H' → g x σ H' fun σ2 H2 => tb { D with nx := N, ct := N, bk := D.nx } σ2 H2)
def xw (fp : List Addr) (h : Heap) : List (Addr × Obj) := fp.filterMap fun b => (h.get? b).map fun o => (b, o)
theorem vp {fp : List Addr} {h : Heap} {b : Addr} {o : Obj} (hb : b ∈ fp) (e : h.get? b = some o) : (b, o) ∈ xw fp h := List.mem_filterMap.mpr ⟨b, hb, by rw [e]; rfl⟩
theorem Dt {fp : List Addr} {h : Heap} {p : Addr × Obj} (hp : p ∈ xw fp h) : p.1 ∈ fp ∧ h.get? p.1 = some p.2 := by
  obtain ⟨b, hb, e⟩ := List.mem_filterMap.mp hp
  cases q : h.get? b with
  | none => rw [q] at e; cases e
  | some o =>
    rw [q] at e
    have e' : (b, o) = p := Option.some.inj e
    subst e'
    exact ⟨hb, q⟩
theorem Inv.pinned {pins : List (Addr × Obj)} {σ : St} {H : Hp} {s : Shared} {fp : List Addr} (I : Inv X pins σ H s) (hf : ∀ b ∈ fp, FpOk X pins H b) (ho : ∀ b ∈ fp, ∃ o, s.heap.get? b = some o ∧ ∀ v, o.data ≠ .cell v) : Inv X (pins ++ xw fp s.heap) σ H s :=
  I.pins_of fun p hp => (List.mem_append.mp hp).elim (fun z => I.pin p (List.mem_append_right _ z)) fun z => by
    obtain ⟨hb, e⟩ := Dt z
    obtain ⟨f0, f1, f2, _⟩ := hf p.1 hb
    obtain ⟨o, e', d⟩ := ho p.1 hb
    rw [e] at e'; cases e'
    exact ⟨e, f0, f1, f2, d⟩
theorem Inv.unpinned {pins pl : List (Addr × Obj)} {σ : St} {H : Hp} {s : Shared} (I : Inv X (pins ++ pl) σ H s) : Inv X pins σ H s := I.pins_of fun p hp => I.pin p (List.mem_append_right _ (List.mem_append_left _ hp))
theorem yh {iter : Expr} {body : List Stmt} {wi : TI} {g : TG} {tb : TS} {pos : Pos} (hp : PassesOwn (model X.prog X.w) X.A X.env X.xe) (hc : X.calm = true) (hi : PI X tg iter wi) (hg : PG X tg g) (hb : PSs X body tb)
    (hs : ∀ x, foldedSetIterable iter X.env x = pure x := by intro _; rfl) : PS X (.For tg iter body [] pos) (GI wi g tb) := by
  intro pins s σ H D I h
  refine wpAny_For (thn (hi pins s σ H _ I h) fun v s1 h1 => thn h1 fun itv s2 h2 => ?_) hs
  obtain ⟨it, fp, tn, J, H2, e, I2, T, st2, f2, W, ⟨m0, w0⟩, turn⟩ := h2
  subst e
  -- what stays true of the iterator's objects through the loop
  have stat : ∀ {H' : Hp}, (∀ b ∈ fp, H' b = none) → ∀ b ∈ fp, FpOk X pins H' b := fun hn b hb => ⟨hn b hb, (f2 b hb).2⟩
  refine codeAny_forLoop_any (fun n s' => ∃ i σ' H', Inv X pins σ' H' s' ∧ tn i s'.heap ∧ (∀ b ∈ fp, H' b = none) ∧ W i n σ' H') ?_ m0 ⟨0, σ, H2, I2, st2, fun b hb => (f2 b hb).1, w0⟩
  rintro n s3 ⟨i, σ3, H3, I3, st3, fr3, w3⟩
  rcases turn i n σ3 H3 w3 with ⟨stop, qn⟩ | ⟨go, N, hN, step⟩
  · refine wpAny_passesOwn hp (thn (T.done X rfl rfl rfl hc i pins s3 σ3 H3 X.xe I3 (stat fr3) st3 stop) fun r s4 ⟨hr, I4⟩ => ?_)
    subst hr
    exact wpAny_execs_nil ⟨σ3, H3, I4, qn⟩
  · refine wpAny_passesOwn hp (thn (T.item X rfl rfl rfl hc i pins s3 σ3 H3 X.xe I3 (stat fr3) st3 go) fun r s4 ⟨u, hr, h4⟩ => ?_)
    subst hr
    refine wpAny_passesOwn hp (thn h4 fun _ s5 ⟨x, H5, I5, r5, y5, st5, fr5⟩ => ?_)
    have I5' := I5.pinned (stat fr5) (T.obj _ _ st5)
    refine wpAny_passesOwn hp (thn (hg _ s5 σ3 H5 x u _ I5' r5 (step x H5 y5)) fun _ s6 ⟨σ6, H6, I6, q6⟩ => ?_)
    refine wpAny_passesOwn hp (thn (hb _ s6 σ6 H6 _ I6 q6) fun f s7 q7 => ?_)
    have again : ∀ {σ7 : St} {H7 : Hp}, Inv X (pins ++ xw fp s5.heap) σ7 H7 s7 → N σ7 H7 → ∃ m, m < n ∧ ∃ i σ' H', Inv X pins σ' H' s7 ∧ tn i s7.heap ∧ (∀ b ∈ fp, H' b = none) ∧ W i m σ' H' := fun {σ7 H7} I7 n7 => by
      obtain ⟨m', hm, w7⟩ := hN σ7 H7 n7
      refine ⟨m', hm, i + 1, σ7, H7, I7.unpinned, T.keep _ _ _ st5 fun b hb o e => (I7.pin (b, o) (List.mem_append_right _ (List.mem_append_right _ (vp hb e)))).1, fun b hb => ?_, w7⟩
      obtain ⟨o, e, d⟩ := T.obj _ _ st5 b hb
      exact (I7.pin (b, o) (List.mem_append_right _ (List.mem_append_right _ (vp hb e)))).2.1
    cases f with
    | next => obtain ⟨σ7, H7, I7, n7⟩ := q7; exact again I7 n7
    | cont => obtain ⟨σ7, H7, I7, n7⟩ := q7; exact again I7 n7
    | brk => obtain ⟨σ7, H7, I7, q7⟩ := q7; exact ⟨σ7, H7, I7.unpinned, q7⟩
    | ret v => obtain ⟨x7, σ7, H7, I7, r7, q7⟩ := q7; exact ⟨x7, σ7, H7, I7.unpinned, r7, q7⟩
end

theorem DF {lo : Int} {n : Nat} {g : TG} {tb : TS} {D : Ends} {σ : St} {H : Hp} (Pv : Nat → St → Hp → Prop) (h0 : Pv 0 σ H)
    (hs : ∀ i σ H, i < n → Pv i σ H → g (.int (lo + i)) σ H fun σ2 H2 => tb { D with nx := Pv (i + 1), ct := Pv (i + 1), bk := D.nx } σ2 H2) (hd : ∀ σ H, Pv n σ H → D.nx σ H) :
    ∃ W : Nat → Nat → St → Hp → Prop, (∃ m, W 0 m σ H) ∧ ∀ i m σ H, W i m σ H →
      ((Itr lo n).stop i H ∧ D.nx σ H) ∨ ((Itr lo n).go i H ∧ ∃ N : St → Hp → Prop, (∀ σ' H', N σ' H' → ∃ m', m' < m ∧ W (i + 1) m' σ' H') ∧ ∀ x H', (Itr lo n).yld i H x H' → g x σ H' fun σ2 H2 => tb { D with nx := N, ct := N, bk := D.nx } σ2 H2) := by
  refine ⟨fun i m σ H => m = n - i ∧ i ≤ n ∧ Pv i σ H, ⟨n, by simp, Nat.zero_le _, h0⟩, ?_⟩
  rintro i m σ H ⟨rfl, hi, p⟩
  by_cases hlt : i < n
  · refine .inr ⟨hlt, Pv (i + 1), fun σ' H' p' => ⟨n - (i + 1), by omega, rfl, hlt, p'⟩, fun x H' y => ?_⟩
    obtain ⟨e, y⟩ := y
    subst e y
    exact hs i σ _ hlt p
  · have e : i = n := by omega
    subst e
    exact .inl ⟨Nat.le_refl _, hd σ H p⟩
end L2

namespace L2
open PySem PySem.Spec PyProof.Rows

abbrev R2 := V → V → Hp → VK → Prop
def OpR (X : Cx) (f : Value → Value → Sem Value) (r : R2) : Prop :=
  ∀ (pins : List (Addr × Obj)) (s : Shared) (σ : St) (H : Hp) (x y : V) (v u : Value) (Q : VK), Inv X pins σ H s → RelV x v → RelV y u → r x y H Q →
    wpAny (model X.prog X.w) X.A (f v u) (EP X pins σ Q) X.xe s
def UnR (X : Cx) (f : Value → Sem Value) (r : V → Hp → VK → Prop) : Prop :=
  ∀ (pins : List (Addr × Obj)) (s : Shared) (σ : St) (H : Hp) (x : V) (v : Value) (Q : VK), Inv X pins σ H s → RelV x v → r x H Q →
    wpAny (model X.prog X.w) X.A (f v) (EP X pins σ Q) X.xe s
def uS (X : Cx) (f : Value) (r : List V → Hp → VK → Prop) : Prop :=
  ∀ (pins : List (Addr × Obj)) (s : Shared) (σ : St) (H : Hp) (xs : List V) (us : List Value) (Q : VK), Inv X pins σ H s → Vals xs us → r xs H Q →
    wpAny (model X.prog X.w) X.A (call f us) (EP X pins σ Q) X.xe s
def tOp (r : R2) (ta tb : TE) : TE := fun σ H Q => ta σ H fun x H1 => tb σ H1 fun y H2 => r x y H2 Q
def tUn (r : V → Hp → VK → Prop) (ta : TE) : TE := fun σ H Q => ta σ H fun x H1 => r x H1 Q
def rI (C : Int → Int → Prop) (g : Int → Int → V) : R2 := fun x y H Q => ∃ i j, x = .int i ∧ y = .int j ∧ C i j ∧ Q (g i j) H
def rI0 (g : Int → Int → V) : R2 := fun x y H Q => ∃ i j, x = .int i ∧ y = .int j ∧ Q (g i j) H
def rU (g : Int → V) : V → Hp → VK → Prop := fun x H Q => ∃ i, x = .int i ∧ Q (g i) H

section
variable {X : Cx} {a b c : Expr} {ta tb tc : TE} {pos : Pos}

theorem Ew (ha : PE X a ta) (hb : PE X b tb) {pins : List (Addr × Obj)} {s : Shared} {σ : St} {H : Hp} {R : V → V → Hp → Prop} (I : Inv X pins σ H s)
    (h : ta σ H fun x H1 => tb σ H1 fun y H2 => R x y H2) {Q : Value → Shared → Prop} {f : Value → Value → Sem Value}
    (hf : ∀ v u s2 x y H2, Inv X pins σ H2 s2 → RelV x v → RelV y u → R x y H2 → wpAny (model X.prog X.w) X.A (f v u) Q X.xe s2) :
    wpAny (model X.prog X.w) X.A (eval a X.env) (fun v s₁ => wpAny (model X.prog X.w) X.A (eval b X.env) (fun u s₂ => wpAny (model X.prog X.w) X.A (f v u) Q X.xe s₂) X.xe s₁) X.xe s := by
  refine thn (ha pins s σ H _ I h) fun v s1 ⟨x, H1, I1, r1, q1⟩ => ?_
  refine thn (hb pins s1 σ H1 _ I1 q1) fun u s2 ⟨y, H2, I2, r2, q2⟩ => ?_
  exact hf v u s2 x y H2 I2 r1 r2 q2

theorem tQ {op : Operator} {r : R2} (ho : OpR X (binaryOp op) r) (ha : PE X a ta) (hb : PE X b tb) : PE X (.BinOp a op b pos) (tOp r ta tb) := by
  intro pins s σ H Q I h
  exact wpAny_BinOp (Ew ha hb I h fun v u s2 x y H2 I2 rx ry q => ho pins s2 σ H2 x y v u Q I2 rx ry q)
theorem G9 {op : UnaryOp} {r : V → Hp → VK → Prop} (ho : UnR X (unaryOp op) r) (ha : PE X a ta) : PE X (.UnaryOp op a pos) (tUn r ta) := by
  intro pins s σ H Q I h
  exact UnaryOp_ (thn (ha pins s σ H _ I h) fun v s1 ⟨x, H1, I1, r1, q1⟩ => ho pins s1 σ H1 x v Q I1 r1 q1)
theorem opI {f : Value → Value → Sem Value} {C : Int → Int → Prop} {g : Int → Int → Int}
    (rule : ∀ (i j : Int) (t u : Tok) (s : Shared) (Q : Value → Shared → Prop) (E : Value → Shared → Prop), C i j → Q (.int (g i j) s.toks) { s with toks := s.toks + 1 } → wpAny (model X.prog X.w) X.A (f (.int i t) (.int j u)) Q E s) :
    OpR X f (rI C fun i j => .int (g i j)) := by
  intro pins s σ H x y v u Q I rx ry h
  obtain ⟨i, j, rfl, rfl, hc, q⟩ := h
  obtain ⟨t, rfl⟩ := rx
  obtain ⟨t', rfl⟩ := ry
  exact rule i j t t' s _ _ hc ⟨.int (g i j), H, I.tok _, ⟨_, rfl⟩, q⟩
theorem Gv {f : Value → Value → Sem Value} {g : Int → Int → Int}
    (rule : ∀ (i j : Int) (t u : Tok) (s : Shared) (Q : Value → Shared → Prop) (E : Value → Shared → Prop), Q (.int (g i j) s.toks) { s with toks := s.toks + 1 } → wpAny (model X.prog X.w) X.A (f (.int i t) (.int j u)) Q E s) :
    OpR X f (rI0 fun i j => .int (g i j)) := by
  intro pins s σ H x y v u Q I rx ry h
  obtain ⟨i, j, rfl, rfl, q⟩ := h
  obtain ⟨t, rfl⟩ := rx
  obtain ⟨t', rfl⟩ := ry
  exact rule i j t t' s _ _ ⟨.int (g i j), H, I.tok _, ⟨_, rfl⟩, q⟩
theorem CQ {f : Value → Value → Sem Value} {g : Int → Int → Bool}
    (rule : ∀ (i j : Int) (t u : Tok) (s : Shared) (Q : Value → Shared → Prop) (E : Value → Shared → Prop), Q (.bool (g i j)) s → wpAny (model X.prog X.w) X.A (f (.int i t) (.int j u)) Q E s) :
    OpR X f (rI0 fun i j => .bl (g i j)) := by
  intro pins s σ H x y v u Q I rx ry h
  obtain ⟨i, j, rfl, rfl, q⟩ := h
  obtain ⟨t, rfl⟩ := rx
  obtain ⟨t', rfl⟩ := ry
  exact rule i j t t' s _ _ ⟨.bl (g i j), H, I, rfl, q⟩

def Gk (i j : Int) : Prop := 0 ≤ j ∧ j ≤ 1000000 ∧ i.natAbs < 2 ^ 64
def CMul (i j : Int) : Prop := (-(2 ^ 64) < i ∧ i < 2 ^ 64) ∨ (-(2 ^ 64) < j ∧ j < 2 ^ 64)
theorem CMul.ok {i j : Int} (h : CMul i j) : IntMulOk i j := by
  rcases h with ⟨h1, h2⟩ | ⟨h1, h2⟩
  · exact .of_left (intBits_le_64 h1 h2)
  · exact .of_right (intBits_le_64 h1 h2)
theorem uQ : OpR X (binaryOp .Add) (rI0 fun i j => .int (i + j)) := Gv fun _ _ _ _ _ _ _ q => add_int q
theorem zH : OpR X (binaryOp .Sub) (rI0 fun i j => .int (i - j)) := Gv fun _ _ _ _ _ _ _ q => sub_int q
theorem ux : OpR X (binaryOp .Mod) (rI (fun _ j => 0 < j) fun i j => .int (i % j)) := opI fun i j _ _ _ _ _ hc q => by
  have h1 : (0 : Int) < j := hc
  exact mod_int' (by omega) (by rw [Int.fmod_eq_emod_of_nonneg i (by omega)]; exact q)
theorem Em : OpR X (binaryOp .Pow) (rI Gk fun i j => .int (i ^ j.toNat)) := opI fun _ _ _ _ _ _ _ hc q => pow_int_small hc.1 hc.2.1 hc.2.2 q
theorem unI {f : Value → Sem Value} {g : Int → Int}
    (rule : ∀ (i : Int) (t : Tok) (s : Shared) (Q : Value → Shared → Prop) (E : Value → Shared → Prop), Q (.int (g i) s.toks) { s with toks := s.toks + 1 } → wpAny (model X.prog X.w) X.A (f (.int i t)) Q E s) :
    UnR X f (rU fun i => .int (g i)) := by
  intro pins s σ H x v Q I rx h
  obtain ⟨i, rfl, q⟩ := h
  obtain ⟨t, rfl⟩ := rx
  exact rule i t s _ _ ⟨.int (g i), H, I.tok _, ⟨_, rfl⟩, q⟩
theorem G2 : UnR X (unaryOp .USub) (rU fun i => .int (-i)) := unI fun _ _ _ _ _ q => neg_int q
end

def vz : V → V → Bool
  | .non, .non => true | .non, .int _ => true | .int _, .non => true | .non, .bl _ => true | .bl _, .non => true | .non, .str _ => true | .str _, .non => true
  | .int _, .int _ => true | .bl _, .bl _ => true | .str _, .str _ => true | .byt _, .byt _ => true
  | .int _, .str _ => true | .str _, .int _ => true | .bl _, .str _ => true | .str _, .bl _ => true
  | _, _ => false
def rEq : R2 := fun x y H Q => vz x y = true ∧ Q (.bl (decide (x = y))) H
def rNe : R2 := fun x y H Q => vz x y = true ∧ Q (.bl (!decide (x = y))) H

theorem Co {i j : Int} : decide (V.int i = V.int j) = (i == j) := by
  rw [Bool.eq_iff_iff]
  simp
theorem Eh {i j : Bool} : decide (V.bl i = V.bl j) = (i == j) := by
  rw [Bool.eq_iff_iff]
  simp
theorem Cc {i j : Str} : decide (V.str i = V.str j) = (i == j) := by
  rw [Bool.eq_iff_iff]
  simp
theorem BY {i j : Array UInt8} : decide (V.byt i = V.byt j) = (i.toList == j.toList) := by
  rw [Bool.eq_iff_iff]
  cases i
  cases j
  simp

section
variable {X : Cx} {a b c : Expr} {ta tb tc : TE} {pos : Pos}
theorem t8 {pins : List (Addr × Obj)} {σ : St} {H : Hp} {s : Shared} {Q : VK} {k k' : Bool} (I : Inv X pins σ H s) (q : Q (.bl k) H) (e : k = k') : EP X pins σ Q (.bool k') s := by
  subst e
  exact ⟨.bl k, H, I, rfl, q⟩
theorem tT : OpR X (compareOp .Eq) rEq := by
  intro pins s σ H x y v u Q I rx ry h
  obtain ⟨hs, q⟩ := h
  cases x with
  | non =>
    cases rx
    cases y with
    | non => cases ry; exact PySem.EqNone.eq_none_none (t8 I q (by simp))
    | bl j => cases ry; exact PySem.EqNone.eq_none_bool (t8 I q (by simp))
    | int j => obtain ⟨t', rfl⟩ := ry; exact PySem.EqNone.eq_none_int (t8 I q (by simp))
    | str j => obtain ⟨t', rfl⟩ := ry; exact PySem.EqNone.eq_none_str (t8 I q (by simp))
    | _ => exact absurd (show false = true from hs) Bool.false_ne_true
  | bl i =>
    cases rx
    cases y with
    | non => cases ry; exact PySem.EqNone.eq_bool_none (t8 I q (by simp))
    | bl j => cases ry; exact eq_bool (t8 I q Eh)
    | str j => obtain ⟨t', rfl⟩ := ry; exact PySem.EqMixed.eq_bool_str (t8 I q (by simp))
    | _ => exact absurd (show false = true from hs) Bool.false_ne_true
  | int i =>
    obtain ⟨t, rfl⟩ := rx
    cases y with
    | non => cases ry; exact PySem.EqNone.eq_int_none (t8 I q (by simp))
    | int j => obtain ⟨t', rfl⟩ := ry; exact eq_int (t8 I q Co)
    | str j => obtain ⟨t', rfl⟩ := ry; exact PySem.EqMixed.eq_int_str (t8 I q (by simp))
    | _ => exact absurd (show false = true from hs) Bool.false_ne_true
  | str i =>
    obtain ⟨t, rfl⟩ := rx
    cases y with
    | non => cases ry; exact PySem.EqNone.eq_str_none (t8 I q (by simp))
    | bl j => cases ry; exact PySem.EqMixed.eq_str_bool (t8 I q (by simp))
    | int j => obtain ⟨t', rfl⟩ := ry; exact PySem.EqMixed.eq_str_int (t8 I q (by simp))
    | str j => obtain ⟨t', rfl⟩ := ry; exact eq_str (t8 I q Cc)
    | _ => exact absurd (show false = true from hs) Bool.false_ne_true
  | byt i =>
    obtain ⟨t, rfl⟩ := rx
    cases y with
    | byt j => obtain ⟨t', rfl⟩ := ry; exact PySem.W.eq_bytes (t8 I q BY)
    | _ => exact absurd (show false = true from hs) Bool.false_ne_true
  | _ => cases y <;> exact absurd (show false = true from hs) Bool.false_ne_true
theorem vh : OpR X (compareOp .NotEq) rNe := by
  intro pins s σ H x y v u Q I rx ry h
  obtain ⟨hs, q⟩ := h
  cases x with
  | non =>
    cases rx
    cases y with
    | non => cases ry; exact PySem.EqNone.ne_none_none (t8 I q (by simp))
    | bl j => cases ry; exact PySem.EqNone.ne_none_bool (t8 I q (by simp))
    | int j => obtain ⟨t', rfl⟩ := ry; exact PySem.EqNone.ne_none_int (t8 I q (by simp))
    | str j => obtain ⟨t', rfl⟩ := ry; exact PySem.EqNone.ne_none_str (t8 I q (by simp))
    | _ => exact absurd (show false = true from hs) Bool.false_ne_true
  | bl i =>
    cases rx
    cases y with
    | non => cases ry; exact PySem.EqNone.ne_bool_none (t8 I q (by simp))
    | bl j => cases ry; exact ne_bool (t8 I q (congrArg not Eh))
    | str j => obtain ⟨t', rfl⟩ := ry; exact PySem.EqMixed.ne_bool_str (t8 I q (by simp))
    | _ => exact absurd (show false = true from hs) Bool.false_ne_true
  | int i =>
    obtain ⟨t, rfl⟩ := rx
    cases y with
    | non => cases ry; exact PySem.EqNone.ne_int_none (t8 I q (by simp))
    | int j => obtain ⟨t', rfl⟩ := ry; exact ne_int (t8 I q (congrArg not Co))
    | str j => obtain ⟨t', rfl⟩ := ry; exact PySem.EqMixed.ne_int_str (t8 I q (by simp))
    | _ => exact absurd (show false = true from hs) Bool.false_ne_true
  | str i =>
    obtain ⟨t, rfl⟩ := rx
    cases y with
    | non => cases ry; exact PySem.EqNone.ne_str_none (t8 I q (by simp))
    | bl j => cases ry; exact PySem.EqMixed.ne_str_bool (t8 I q (by simp))
    | int j => obtain ⟨t', rfl⟩ := ry; exact PySem.EqMixed.ne_str_int (t8 I q (by simp))
    | str j => obtain ⟨t', rfl⟩ := ry; exact ne_str (t8 I q (congrArg not Cc))
    | _ => exact absurd (show false = true from hs) Bool.false_ne_true
  | byt i =>
    obtain ⟨t, rfl⟩ := rx
    cases y with
    | byt j => obtain ⟨t', rfl⟩ := ry; exact PySem.W.ne_bytes (t8 I q (congrArg not BY))
    | _ => exact absurd (show false = true from hs) Bool.false_ne_true
  | _ => cases y <;> exact absurd (show false = true from hs) Bool.false_ne_true

theorem xY : OpR X (compareOp .Lt) (rI0 fun i j => .bl (decide (i < j))) := CQ fun _ _ _ _ _ _ _ q => lt_int q
theorem zv : OpR X (compareOp .LtE) (rI0 fun i j => .bl (decide (i ≤ j))) := CQ fun _ _ _ _ _ _ _ q => le_int q
theorem yz : OpR X (compareOp .Gt) (rI0 fun i j => .bl (decide (j < i))) := CQ fun _ _ _ _ _ _ _ q => gt_int q
theorem Fv : OpR X (compareOp .GtE) (rI0 fun i j => .bl (decide (j ≤ i))) := CQ fun _ _ _ _ _ _ _ q => ge_int q
theorem wu : OpR X (compareOp .Is) (fun x y H Q => y = .non ∧ Q (.bl (decide (x = .non))) H) := by
  intro pins s σ H x y v u Q I rx ry h
  obtain ⟨rfl, q⟩ := h
  cases ry
  refine is_none_gen (t8 I q ?_)
  cases x <;> first
    | (cases rx; rfl)
    | (obtain ⟨t, rfl⟩ := rx; rfl)
theorem r8 (b : Expr) {op : CmpOp} (h : op ≠ .In := by decide) (h2 : op ≠ .NotIn := by decide) : behindInMarks op b = false := by
  have e1 : (op == CmpOp.In) = false := by cases op <;> first | rfl | exact absurd rfl h
  have e2 : (op == CmpOp.NotIn) = false := by cases op <;> first | rfl | exact absurd rfl h2
  cases b <;> simp [behindInMarks, e1, e2]
theorem uq {op : CmpOp} {r : R2} (ho : OpR X (compareOp op) r) (ha : PE X a ta) (hb : PE X b tb) (hm : behindInMarks op b = false) : PE X (.Compare a [op] [b] pos) (tOp r ta tb) := by
  intro pins s σ H Q I h
  exact wpAny_Compare1 (Ew ha hb I h fun v u s2 x y H2 I2 rx ry q => ho pins s2 σ H2 x y v u Q I2 rx ry q) hm
def Dj (t : TE) : TT := fun σ H Q => t σ H fun x H' => ∃ k, x = .bl k ∧ Q k H'
theorem qq {op : CmpOp} {r : R2} (ho : OpR X (compareOp op) r) (ha : PE X a ta) (hb : PE X b tb) (hm : behindInMarks op b = false) : PT X (.Compare a [op] [b] pos) (Dj (tOp r ta tb)) := by
  intro pins s σ H Q I h
  refine wpAny_isTrue_Compare1 (thn (ha pins s σ H _ I h) fun v s1 ⟨x, H1, I1, r1, q1⟩ => thn (hb pins s1 σ H1 _ I1 q1) fun u s2 ⟨y, H2, I2, r2, q2⟩ =>
    thn (ho pins s2 σ H2 x y v u _ I2 r1 r2 q2) fun c s3 ⟨z, H3, I3, r3, k, e, q3⟩ => ?_) hm
  subst e
  cases r3
  exact wpAny_truthy_bool ⟨H3, I3, q3⟩
def AM (r r' : R2) (ta tb tc : TE) : TE := fun σ H Q => ta σ H fun x H1 => tb σ H1 fun y H2 => r x y H2 fun z H3 => ∃ k, z = .bl k ∧
  (if k = true then tc σ H3 fun w' H4 => r' y w' H4 Q else Q (.bl false) H3)
theorem EX {op op' : CmpOp} {r r' : R2} (ho : OpR X (compareOp op) r) (ho' : OpR X (compareOp op') r') (ha : PE X a ta) (hb : PE X b tb) (hc : PE X c tc)
    (hm : lastMarks [op, op'] [b, c] = false := by with_unfolding_all rfl) : PE X (.Compare a [op, op'] [b, c] pos) (AM r r' ta tb tc) := by
  intro pins s σ H Q I h
  refine Compare_chain (thn (ha pins s σ H _ I h) fun v s1 ⟨x, H1, I1, r1, q1⟩ => chain_link (thn (hb pins s1 σ H1 _ I1 q1) fun u s2 ⟨y, H2, I2, r2, q2⟩ =>
    thn (ho pins s2 σ H2 x y v u _ I2 r1 r2 q2) fun d s3 ⟨z, H3, I3, r3, k, e, q3⟩ => ?_)) hm
  subst e
  cases r3
  refine wpAny_truthy_bool ?_
  cases k with
  | false => exact ite_ff ⟨.bl false, H3, I3, rfl, q3⟩
  | true => exact ite_tt (chain_last (thn (hc pins s3 σ H3 _ I3 q3) fun w' s4 ⟨z', H4, I4, r4, q4⟩ => ho' pins s4 σ H4 y z' u w' Q I4 r2 r4 q4))
theorem zf {op op' : CmpOp} {r r' : R2} (ho : OpR X (compareOp op) r) (ho' : OpR X (compareOp op') r') (ha : PE X a ta) (hb : PE X b tb) (hc : PE X c tc)
    (hm : lastMarks [op, op'] [b, c] = false := by with_unfolding_all rfl) : PT X (.Compare a [op, op'] [b, c] pos) (Dj (AM r r' ta tb tc)) := by
  intro pins s σ H Q I h
  refine isTrue_chain (thn (ha pins s σ H _ I h) fun v s1 ⟨x, H1, I1, r1, q1⟩ => test_link (thn (hb pins s1 σ H1 _ I1 q1) fun u s2 ⟨y, H2, I2, r2, q2⟩ =>
    thn (ho pins s2 σ H2 x y v u _ I2 r1 r2 q2) fun d s3 ⟨z, H3, I3, r3, k, e, q3⟩ => ?_)) hm
  subst e
  cases r3
  refine wpAny_truthy_bool ?_
  cases k with
  | false =>
    obtain ⟨k', e', q'⟩ := q3
    cases e'
    exact ite_ff ⟨H3, I3, q'⟩
  | true =>
    refine ite_tt (test_last (thn (hc pins s3 σ H3 _ I3 q3) fun w' s4 ⟨z', H4, I4, r4, q4⟩ => thn (ho' pins s4 σ H4 y z' u w' _ I4 r2 r4 q4) fun d' s5 ⟨z2, H5, I5, r5, k2, e2, q5⟩ => ?_))
    subst e2
    cases r5
    exact wpAny_truthy_bool ⟨H5, I5, q5⟩

theorem vI : (sizeLine : Nat) < 2 ^ 63 := by rw [sizeLine_eq]; decide
theorem C0 : OpR X (binaryOp .Add) (fun x y H Q => ∃ i j, x = .str i ∧ y = .str j ∧ i.length + j.length ≤ sizeLine ∧ Q (.str (i ++ j)) H) := by
  intro pins s σ H x y v u Q I rx ry h
  obtain ⟨i, j, rfl, rfl, hz, q⟩ := h
  obtain ⟨t, rfl⟩ := rx
  obtain ⟨t', rfl⟩ := ry
  exact add_str (fun t' tk => ⟨.str (i ++ j), H, I.tok _, ⟨_, rfl⟩, q⟩) hz
theorem vals1 {x : V} {us : List Value} (r : Vals [x] us) : ∃ u, us = [u] ∧ RelV x u := by
  cases r with
  | cons r1 r2 => cases r2; exact ⟨_, rfl, r1⟩
theorem vals2 {x y : V} {us : List Value} (r : Vals [x, y] us) : ∃ u w', us = [u, w'] ∧ RelV x u ∧ RelV y w' := by
  cases r with
  | cons r1 r2 =>
    cases r2 with
    | cons r3 r4 => cases r4; exact ⟨_, _, rfl, r1, r3⟩
theorem Ej (hc : X.calm = true) : uS X (.builtin "max") (fun xs H Q => ∃ i j, xs = [.int i, .int j] ∧ Q (.int (if j > i then j else i)) H) := by
  intro pins s σ H xs us Q I r h
  obtain ⟨i, j, rfl, q⟩ := h
  obtain ⟨u, w', rfl, ⟨t, rfl⟩, ⟨t', rfl⟩⟩ := vals2 r
  refine max_two_ints (I.ok.hd hc) fun h' tk k => ⟨_, H, I.kept k, ?_, q⟩
  by_cases hj : j > i
  · rw [if_pos hj, if_pos hj]; exact ⟨_, rfl⟩
  · rw [if_neg hj, if_neg hj]; exact ⟨_, rfl⟩
theorem D5 (hc : X.calm = true) : uS X (.builtin "min") (fun xs H Q => ∃ i j, xs = [.int i, .int j] ∧ Q (.int (if j < i then j else i)) H) := by
  intro pins s σ H xs us Q I r h
  obtain ⟨i, j, rfl, q⟩ := h
  obtain ⟨u, w', rfl, ⟨t, rfl⟩, ⟨t', rfl⟩⟩ := vals2 r
  refine min_two_ints (I.ok.hd hc) fun h' tk k => ⟨_, H, I.kept k, ?_, q⟩
  by_cases hj : j < i
  · rw [if_pos hj, if_pos hj]; exact ⟨_, rfl⟩
  · rw [if_neg hj, if_neg hj]; exact ⟨_, rfl⟩
end
end L2

namespace L2
open PySem PySem.Spec PyProof.Rows

structure ObjM (h : Heap) (x dx C : Addr) (mA : Str → Option Value) : Prop where
  obj : h.get? x = some (PySem.W.instObj C dx)
  ns : h.Ns1 dx mA
  ne : dx ≠ x

theorem DG {h : Heap} {dx : Addr} {mA : Str → Option Value} (n : h.Ns1 dx mA) : ∃ od, h.get? dx = some od ∧ ∀ name, PySem.W.lookIn name od = some (mA name) := by
  obtain ⟨o, es, ep, ho, hd, hk, _, hm⟩ := n
  refine ⟨o, ho, fun name => ?_⟩
  have e := hm name
  unfold nsFind findBy at e
  rw [← Array.find?_toList] at e
  unfold PySem.W.lookIn
  rw [hd]
  dsimp only
  split
  · rename_i y q
    rw [q] at e
    exact congrArg some e
  · rename_i q
    rw [q] at e
    have a : es.toList.any (·.refKey) = false := by
      rw [List.any_eq_false]
      intro y hy
      obtain ⟨z, t, hkey⟩ := hk y (Array.mem_toList_iff.mp hy)
      simp [DictEntry.refKey, hkey]
    have a' : ¬ es.toList.any (·.refKey) = true := by rw [a]; exact Bool.false_ne_true
    rw [if_neg a']
    exact congrArg some e

theorem ObjM.look {h : Heap} {x dx C : Addr} {mA : Str → Option Value} (I : ObjM h x dx C mA) : ∃ od, PySem.W.InstAt h x (PySem.W.instObj C dx) C (some od) ∧ ∀ name, PySem.W.lookIn name od = some (mA name) :=
  let ⟨od, ho, hl⟩ := DG I.ns
  ⟨od, ⟨I.obj, rfl, rfl, ho⟩, hl⟩

section
variable {prog : Program} {w : World} {A : Around} {E : Value → Shared → Prop} {s : Shared} {K : PySem.W.Frag} {x dx C f : Addr} {mA : Str → Option Value} {name : Str} {v : Value}

theorem get_map {expr : Bool} {Q : Value → Shared → Prop} (X : K.In s.heap) (I : ObjM s.heap x dx C mA) (hg : PySem.W.plainGet K C name = true) (hh : PySem.W.hasDictIn K C = true)
    (ha : PySem.W.findIn K (.ref C) name = some none) (hv : mA name = some v) (hv' : PySem.W.handedIn v = true) (h : Q v { s with toks := s.toks + 1 }) :
    wpAny (model prog w) A (getAttr (.ref x) name expr) Q E s := by
  obtain ⟨od, J, hl⟩ := I.look
  exact PySem.W.get_value X J (PySem.W.plainGet_of hg).1 (PySem.W.findObj_own hh ha rfl (by rw [hl, hv])) hv' h

theorem ER {pl : Sem Bool} {Q : Value × List Value → Shared → Prop} (X : K.In s.heap) (I : ObjM s.heap x dx C mA) (hg : PySem.W.plainGet K C name = true)
    (hf : PySem.W.findIn K (.ref C) name = some (some (.ref f))) (ht : PySem.W.isFn K (.ref f) = true) (hv : mA name = none) (h : Q (.ref f, [.ref x]) s) :
    wpAny (model prog w) A (getMethod (.ref x) name pl) Q E s := by
  obtain ⟨od, J, hl⟩ := I.look
  exact PySem.W.method_fn X J (PySem.W.plainGet_of hg).1 (PySem.W.plainGet_of hg).2 hf (beq_iff_eq.mp ht) (by show (PySem.W.lookIn name od).map (·.isSome) = some false; rw [hl, hv]; rfl) h

theorem FY {ns : List Str} {Q : Unit → Shared → Prop} (X : K.In s.heap) (I : ObjM s.heap x dx C mA)
    (hs : PySem.W.findIn K (.ref C) "__setattr__" = some (some (.builtin "object.__setattr__"))) (hp : PySem.W.plainOver K C = true) (ht : PySem.W.takerIn K C name = some none) (hh : PySem.W.hasDictIn K C = true)
    (hw : PySem.Within mA ns) (hsz : ns.length ≤ sizeLine)
    (h : ∀ h', ObjM h' x dx C (fun y => if y = name then some v else mA y) → Heap.SameBut dx s.heap h' → Q () { s with heap := h', toks := s.toks + 2 }) :
    wpAny (model prog w) A (setAttr (.ref x) name v) Q E s := by
  obtain ⟨od, J, hl⟩ := I.look
  refine PySem.W.set_plain X J hs (PySem.W.osa_open (s := { s with toks := s.toks + 1 }) (r := none) X J hp ht fun b => ?_)
  obtain ⟨cd, hc, hd'⟩ := PySem.W.any_some hh
  have hx : s.heap.get? x = some ⟨.ref C, some dx, .plain, #[]⟩ := I.obj
  refine wpAny_bind (wpAny_pure (wpAny_bind (wpAny_bind (wpAny_loadPart hx (wpAny_bind (PySem.W.Looks.here (s := { s with toks := s.toks + 1 }) (PySem.W.looks_clsIn X hc) ?_))))))
  rw [hd']
  refine wpAny_pure (a := some dx) (wpAny_bind (wpAny_pure (wpAny_bind ?_)))
  refine wpAny_nsSet1 (s := { s with toks := s.toks + 1 }) I.ns fun h' hn2 hs2 => ?_
  obtain ⟨oD, esD, epD, hoD, hdD, hcD⟩ := hn2.count (PySem.Within.cons name v hw)
  refine wpAny_bind (wpAny_lookBehind hoD (by rw [hdD]; exact pastItsLine_dict (Nat.le_trans hcD (by rw [List.length_cons]; omega))) ?_)
  exact wpAny_pure (h _ ⟨(hs2.2 _ (Ne.symm I.ne)).trans I.obj, hn2, I.ne⟩ hs2)

theorem EW {R : Result → Shared → Prop} {vs : List Value} {kw : List (Str × Value)} (X : K.In s.heap) (hm : PySem.W.makesIn K C = true)
    (hi : PySem.W.findIn K (.ref C) "__init__" = some (some (.ref f))) (hf : PySem.W.typeIn K (.ref f) = some (.type "function"))
    (h : codeAny (model prog w) (A.under (.builtin "type.__call__" ⟨.ref C :: vs, kw⟩)) (.call (.ref f) ⟨.ref (s.heap.objs.size + 1) :: vs, kw⟩) (PySem.W.InitBack (s.heap.objs.size + 1) R)
      { s with heap := (s.heap.push PySem.W.emptyDict).push (PySem.W.instObj C s.heap.objs.size) }) :
    codeAny (model prog w) A (.call (.ref C) ⟨vs, kw⟩) R s := by
  obtain ⟨hh, g, d, t, os⟩ := s
  exact PySem.W.make_core (PySem.W.makes_of X hm) (PySem.W.looks_findIn X hi) (fun self => PySem.W.bind_fn X self hf) (.inl rfl) h
theorem DB {R : Result → Shared → Prop} (X : K.In s.heap) (hm : PySem.W.makesIn K C = true)
    (hi : PySem.W.findIn K (.ref C) "__init__" = some (some (.builtin "object.__init__")))
    (hb : ∀ self, PySem.W.Looks (model prog w) s.heap (bindSpecial (.builtin "object.__init__") self) (.builtin "object.__init__", [self]))
    (h : codeAny (model prog w) (A.under (.builtin "type.__call__" ⟨[.ref C], []⟩)) (.call (.builtin "object.__init__") ⟨[.ref (s.heap.objs.size + 1)], []⟩) (PySem.W.InitBack (s.heap.objs.size + 1) R)
      { s with heap := (s.heap.push PySem.W.emptyDict).push (PySem.W.instObj C s.heap.objs.size) }) :
    codeAny (model prog w) A (.call (.ref C) ⟨[], []⟩) R s := by
  obtain ⟨hh, g, d, t, os⟩ := s
  exact PySem.W.make_core (PySem.W.makes_of X hm) (PySem.W.looks_findIn X hi) hb (.inr ⟨rfl, rfl⟩) h
end

def vA (f : Str) (v : V) : List (Str × V) → List (Str × V)
  | [] => [(f, v)]
  | (g, x) :: r => if g = f then (g, v) :: r else (g, x) :: vA f v r
theorem yM (f g : Str) (v : V) : ∀ fs : List (Str × V), (vA f v fs).lookup g = if g = f then some v else fs.lookup g
  | [] => by
    show List.lookup g [(f, v)] = _
    by_cases h : g = f
    · have hb : (g == f) = true := beq_iff_eq.mpr h
      simp only [List.lookup, hb, if_pos h]
    · have hb : (g == f) = false := beq_eq_false_iff_ne.mpr h
      simp only [List.lookup, hb, if_neg h]
  | (k, x) :: r => by
    have ih := yM f g v r
    rw [show vA f v ((k, x) :: r) = (if k = f then (k, v) :: r else (k, x) :: vA f v r) from rfl]
    by_cases hk : k = f
    · rw [if_pos hk]
      by_cases h : g = k
      · have hb : (g == k) = true := beq_iff_eq.mpr h
        simp only [List.lookup, hb, if_pos (h.trans hk)]
      · have hb : (g == k) = false := beq_eq_false_iff_ne.mpr h
        simp only [List.lookup, hb, if_neg (fun e : g = f => h (e.trans hk.symm))]
    · rw [if_neg hk]
      by_cases h : g = k
      · have hb : (g == k) = true := beq_iff_eq.mpr h
        simp only [List.lookup, hb, if_neg (fun e : g = f => hk (h.symm.trans e))]
      · have hb : (g == k) = false := beq_eq_false_iff_ne.mpr h
        simp only [List.lookup, hb]
        exact ih
theorem ya (f : Str) (v : V) : ∀ fs : List (Str × V), f ∈ (vA f v fs).map (·.1) ∧ ∀ g, g ∈ fs.map (·.1) → g ∈ (vA f v fs).map (·.1)
  | [] => ⟨by simp [vA], fun g h => by simp at h⟩
  | (k, x) :: r => by
    obtain ⟨i1, i2⟩ := ya f v r
    rw [show vA f v ((k, x) :: r) = (if k = f then (k, v) :: r else (k, x) :: vA f v r) from rfl]
    by_cases hk : k = f
    · rw [if_pos hk]
      subst hk
      exact ⟨by simp, fun g h => by simpa using h⟩
    · rw [if_neg hk]
      refine ⟨?_, fun g h => ?_⟩
      · rw [List.map_cons]
        exact List.mem_cons_of_mem _ i1
      · rw [List.map_cons] at h ⊢
        rcases List.mem_cons.mp h with e | e
        · exact List.mem_cons.mpr (.inl e)
        · exact List.mem_cons_of_mem _ (i2 g e)
theorem yN (f : Str) (v : V) : ∀ fs : List (Str × V), (vA f v fs).length ≤ fs.length + 1
  | [] => by simp [vA]
  | (k, x) :: r => by
    have ih := yN f v r
    rw [show vA f v ((k, x) :: r) = (if k = f then (k, v) :: r else (k, x) :: vA f v r) from rfl]
    by_cases hk : k = f
    · rw [if_pos hk, List.length_cons, List.length_cons]; omega
    · rw [if_neg hk, List.length_cons, List.length_cons]; omega

theorem RelO.some_of {v : V} {o : Option Value} (r : RelO (some v) o) : ∃ u, o = some u ∧ RelV v u := by
  cases o with
  | none => exact (show False from r).elim
  | some u => exact ⟨u, rfl, r⟩
theorem RelO.none_of {o : Option Value} (r : RelO none o) : o = none := by
  cases o with
  | none => rfl
  | some u => exact (show False from r).elim
theorem D6 {v : V} {u : Value} (r : RelV v u) : PySem.W.handedIn u = true := by
  cases v with
  | non => cases (show u = Value.none from r); rfl
  | bl b => cases (show u = Value.bool b from r); rfl
  | int i => obtain ⟨t, e⟩ := (show ∃ t, u = Value.int i t from r); cases e; rfl
  | str x => obtain ⟨t, e⟩ := (show ∃ t, u = Value.str x t from r); cases e; rfl
  | byt b => obtain ⟨t, e⟩ := (show ∃ t, u = Value.bytes b t from r); cases e; rfl
  | flt b => obtain ⟨t, e⟩ := (show ∃ t, u = Value.float b t from r); cases e; rfl
  | ref a => cases (show u = Value.ref a from r); rfl
  | ty n => cases (show u = Value.type n from r); rfl

section
variable {P : Program} {w : World} {H H' : Hp} {h h' : Heap} {a C dx : Addr} {fs fs' : List (Str × V)}
theorem zN (hok : HOk P w H h) (e : H a = some (.ins C dx fs)) : ∃ mA, ObjM h a dx C mA ∧ (∀ f, RelO (fs.lookup f) (mA f)) ∧ PySem.Within mA (fs.map (·.1)) ∧ fs.length ≤ 1000 ∧ H dx = some (.own a) := by
  obtain ⟨d, z, ne, ob, mA, n, r, q⟩ := (show ObjOk P w H h a (.ins C dx fs) from hok a _ e)
  exact ⟨mA, ⟨ob, n, ne⟩, r, q, z, d⟩
end

structure Cls (K : PySem.W.Frag) (C : Addr) : Prop where
  pg : PySem.W.plainGet K C Str.empty = true
  hd : PySem.W.hasDictIn K C = true
  po : PySem.W.plainOver K C = true
  sa : PySem.W.findIn K (.ref C) "__setattr__" = some (some (.builtin "object.__setattr__"))
theorem Cls.get {K : PySem.W.Frag} {C : Addr} (c : Cls K C) (f : Str) : PySem.W.plainGet K C f = true := c.pg
def NoAttr (K : PySem.W.Frag) (C : Addr) (f : Str) : Prop := PySem.W.findIn K (.ref C) f = some none
theorem NoAttr.taker {K : PySem.W.Frag} {C : Addr} {f : Str} (n : NoAttr K C f) : PySem.W.takerIn K C f = some none := by
  unfold PySem.W.takerIn
  rw [show PySem.W.findIn K (.ref C) f = some none from n]
  rfl
structure Con (K : PySem.W.Frag) (C : Addr) (f : Str) (v : V) (u : Value) : Prop where
  at_ : PySem.W.findIn K (.ref C) f = some (some u)
  rel : RelV v u
  get : PySem.W.specialIn K u "__get__" = some none
  cp : PySem.W.copiedNames.contains f = false
structure Meth (K : PySem.W.Frag) (C : Addr) (m : Str) (f : Addr) : Prop where
  at_ : PySem.W.findIn K (.ref C) m = some (some (.ref f))
  fn : PySem.W.isFn K (.ref f) = true
  kp : PySem.W.keepIn K (.ref f) = true

section
variable {X : Cx} {pins : List (Addr × Obj)} {σ : St} {H : Hp} {s : Shared} {a C dx : Addr} {fs : List (Str × V)} {f : Str} {v : V} {A : Around} {E : Value → Shared → Prop}

theorem CO {b : Bool} {Q : Value → Shared → Prop} (I : Inv X pins σ H s) (e : H a = some (.ins C dx fs)) (c : Cls X.K C) (n : NoAttr X.K C f) (l : fs.lookup f = some v)
    (h : ∀ u s', Inv X pins σ H s' → RelV v u → Q u s') : wpAny (model X.prog X.w) A (getAttr (.ref a) f b) Q E s := by
  obtain ⟨mA, O, r, _, _, _⟩ := zN I.hok e
  obtain ⟨u, hu, ru⟩ := RelO.some_of (v := v) (o := mA f) (by rw [← l]; exact r f)
  exact get_map I.kIn O (c.get f) c.hd n hu (D6 ru) (h u _ (I.tok _) ru)

theorem Cy {m : Str} {g : Addr} {pl : Sem Bool} {Q : Value × List Value → Shared → Prop} (I : Inv X pins σ H s) (e : H a = some (.ins C dx fs)) (c : Cls X.K C) (k : Meth X.K C m g) (l : fs.lookup m = none)
    (h : Q (.ref g, [.ref a]) s) : wpAny (model X.prog X.w) A (getMethod (.ref a) m pl) Q E s := by
  obtain ⟨mA, O, r, _, _, _⟩ := zN I.hok e
  have hn : mA m = none := RelO.none_of (by rw [← l]; exact r m)
  exact ER I.kIn O (c.get m) k.at_ k.fn hn h

theorem CW {y : V} {u : Value} {Q : Unit → Shared → Prop} (I : Inv X pins σ H s) (e : H a = some (.ins C dx fs)) (c : Cls X.K C) (n : NoAttr X.K C f) (hl : fs.length < 1000) (ry : RelV y u)
    (h : ∀ s', Inv X pins σ (upd H a (.ins C dx (vA f y fs))) s' → Q () s') : wpAny (model X.prog X.w) A (setAttr (.ref a) f u) Q E s := by
  obtain ⟨mA, O, r, wi, _, ho⟩ := zN I.hok e
  have hz : (fs.map (·.1)).length ≤ sizeLine := by rw [List.length_map, sizeLine_eq]; omega
  refine FY I.kIn O c.sa c.po n.taker c.hd wi hz fun h' O' sb => h _ ?_
  have hd : ∃ o, h'.get? dx = some o := let ⟨o, _, _, e', _⟩ := O'.ns; ⟨o, e'⟩
  refine I.write (x := a) (e := dx) (by rw [e]; exact True.intro) (.inr ho) (fun b q hb z => (sb.2 b hb).trans z) hd ?_
  refine ⟨by rw [tP O.ne]; exact ho, ?_, O.ne, O'.obj, _, O'.ns, fun g => ?_, fun g hg => ?_⟩
  · have := yN f y fs; omega
  · show RelO ((vA f y fs).lookup g) (if g = f then some u else mA g)
    rw [yM]
    by_cases q : g = f
    · rw [if_pos q, if_pos q]; exact ry
    · rw [if_neg q, if_neg q]; exact r g
  · by_cases q : g = f
    · rw [q]; exact (ya f y fs).1
    · refine (ya f y fs).2 g (wi g fun z => hg ?_)
      show (if g = f then some u else mA g) = none
      rw [if_neg q]; exact z

theorem Inv.made (I : Inv X pins σ H s) : Inv X pins σ (upd (upd H s.heap.objs.size (.own (s.heap.objs.size + 1))) (s.heap.objs.size + 1) (.ins C s.heap.objs.size []))
    { s with heap := (s.heap.push PySem.W.emptyDict).push (PySem.W.instObj C s.heap.objs.size) } := by
  have e1 : (s.heap.push PySem.W.emptyDict).get? s.heap.objs.size = some PySem.W.emptyDict := Heap.get?_push_size s.heap rfl
  have e2 : ((s.heap.push PySem.W.emptyDict).push (PySem.W.instObj C s.heap.objs.size)).get? (s.heap.objs.size + 1) = some (PySem.W.instObj C s.heap.objs.size) := by
    have := Heap.get?_push_size (s.heap.push PySem.W.emptyDict) (o := PySem.W.instObj C s.heap.objs.size) rfl
    rwa [Heap.size_push] at this
  have e3 : (s.heap.push PySem.W.emptyDict).Ns s.heap.objs.size (fun _ => none) := ⟨PySem.W.emptyDict, #[], _, e1, rfl, (fun e he => absurd he (by simp)), fun _ => rfl⟩
  have I1 := I.laid (a := s.heap.objs.size) (o := .own (s.heap.objs.size + 1)) (h' := s.heap.push PySem.W.emptyDict) (t' := s.toks) (fun b u q => Heap.get?_push_of_some _ q) (Nat.le_refl _) ⟨_, e1⟩
  refine I1.laid (a := s.heap.objs.size + 1) (o := .ins C s.heap.objs.size []) (t' := s.toks) (fun b u q => Heap.get?_push_of_some _ q) (Nat.le_of_eq (Heap.size_push _ _)) ?_
  have ne : s.heap.objs.size ≠ s.heap.objs.size + 1 := Nat.ne_of_lt (Nat.lt_succ_self _)
  refine ⟨by rw [tP ne, ic], Nat.zero_le _, ne, e2, fun _ => none, (Heap.Ns1.of_empty e3).at fun o q => Heap.get?_push_of_some _ q, fun _ => True.intro, fun y hy => absurd rfl hy⟩

theorem FZ {prog : Program} {w : World} {env : Env} {e : Expr} {f : Str} {pos : Pos} {s : Shared} {Q : Value → Shared → Prop} (hb : attributeBase e f env (eval e env) = eval e env)
    (h : wpAny (model prog w) A (eval e env) (fun o s₁ => wpAny (model prog w) A (getAttr o f true) Q E s₁) E s) : wpAny (model prog w) A (eval (.Attribute e f pos) env) Q E s :=
  Attribute_any_ h (by rw [arm_eval_Attribute, hb])
end

def Gr (K : PySem.W.Frag) (ta : TE) (f : Str) : TE := fun σ H Q => ta σ H fun x H1 => ∃ a C dx fs v, x = .ref a ∧ H1 a = some (.ins C dx fs) ∧ Cls K C ∧ NoAttr K C f ∧ fs.lookup f = some v ∧ Q v H1
def GZ (K : PySem.W.Frag) (ta tv : TE) (f : Str) : TS := fun D σ H => tv σ H fun y H1 => ta σ H1 fun x H2 => ∃ a C dx fs, x = .ref a ∧ H2 a = some (.ins C dx fs) ∧ Cls K C ∧ NoAttr K C f ∧ fs.length < 1000 ∧
  D.nx σ (upd H2 a (.ins C dx (vA f y fs)))
section
variable {X : Cx} {o e value : Expr} {f : Str} {pos pos' tpos : Pos} {ta tv : TE}
theorem vj (he : PE X e ta) (hb : attributeBase e f X.env (eval e X.env) = eval e X.env) : PE X (.Attribute e f pos) (Gr X.K ta f) := by
  intro pins s σ H Q I h
  refine FZ hb (thn (he pins s σ H _ I h) fun u s1 ⟨x, H1, I1, rx, a, C, dx, fs, v, ex, ea, c, n, l, q⟩ => ?_)
  subst ex
  obtain rfl : u = Value.ref a := rx
  exact CO I1 ea c n l fun u' s2 I2 ru => ⟨v, H1, I2, ru, q⟩
theorem wJ (ha : PE X o ta) (hv : PE X value tv) (hs : swapsWith value (some (.Attribute o f pos')) pos.line X.env = pure false) : PS X (.Assign [.Attribute o f pos'] value pos) (GZ X.K ta tv f) := by
  intro pins s σ H D I h
  refine plainObj_wpAny_Assign_Attribute (thn (hv pins s σ H _ I h) fun u s1 ⟨y, H1, I1, ry, q⟩ => thn (ha pins s1 σ H1 _ I1 q) fun ov s2 ⟨x, H2, I2, rx, a, C, dx, fs, ex, ea, c, n, l, q2⟩ => ?_) hs
  subst ex
  obtain rfl : ov = Value.ref a := rx
  exact CW I2 ea c n l ry fun s3 I3 => ⟨σ, _, I3, q2⟩
end

section
variable {X : Cx} {pins : List (Addr × Obj)} {σ : St} {H : Hp} {s : Shared} {A : Around} {E : Value → Shared → Prop} {Q : Value → Shared → Prop} {c : Value} {b : Bool}
inductive TyOf (K : PySem.W.Frag) (H : Hp) : V → Value → Prop where
  | non : TyOf K H .non (.type "NoneType")
  | bl (x : Bool) : TyOf K H (.bl x) (.type "bool")
  | int (i : Int) : TyOf K H (.int i) (.type "int")
  | str (x : Str) : TyOf K H (.str x) (.type "str")
  | flt (x : UInt64) : TyOf K H (.flt x) (.type "float")
  | lst {a : Addr} {xs : List V} (e : H a = some (.lst xs)) : TyOf K H (.ref a) (.type "list")
  | frz {a : Addr} {o : Obj} {xs : List V} (e : H a = some (.frz o (.lst xs))) : TyOf K H (.ref a) (.type "list")
  | tup {a : Addr} {xs : List V} (e : H a = some (.tup xs)) : TyOf K H (.ref a) (.type "tuple")
  | dK {a : Addr} {kvs : List (Key × V)} (e : H a = some (.dK kvs)) : TyOf K H (.ref a) (.type "dict")
  | dT {a : Addr} {kvs : List (List Key × V)} (e : H a = some (.dT kvs)) : TyOf K H (.ref a) (.type "dict")
  | ins {a C dx : Addr} {fs : List (Str × V)} (e : H a = some (.ins C dx fs)) (cl : Cls K C) (ha : PySem.W.findIn K (.ref C) "__class__" = some (some (.builtin "object.__class__")))
      (hn : PySem.W.specialIn K (.builtin "object.__class__") "__get__" = some (some (.builtin "getset_descriptor.__get__"))) (htk : PySem.W.takesIn K (.builtin "object.__class__") = some true)
      (hm : PySem.W.mroIn K C (.type "object") = some true) : TyOf K H (.ref a) (.ref C)
end
end L2

namespace L2
open PySem PySem.Spec PyProof.Rows

structure Room (k : Nat) (A : Around) : Prop where
  hd : A.handled = none
  dp : A.depth + 3 * k + 5 < recursionLimit
  un : A.units + 16 * k + 200 < cLine
theorem Room.mono {j k : Nat} {A : Around} (r : Room k A) (h : j ≤ k) : Room j A := ⟨r.hd, by have := r.dp; omega, by have := r.un; omega⟩
theorem Room.deeper {k : Nat} {A : Around} (r : Room (k + 1) A) (env : Env) : Room k (A.deeper env) :=
  ⟨r.hd, by have := r.dp; show A.depth + 1 + 3 * k + 5 < _; omega, by have := r.un; show A.units + 3 + 16 * k + 200 < _; omega⟩
theorem CG {A : Around} {C : Addr} {us : List Value} {kw : List (Str × Value)} : (A.under (.builtin "type.__call__" ⟨.ref C :: us, kw⟩)).depth = A.depth + 1 := by
  first | rfl | simp [Around.under, Code.weight, Code.isCreation, Code.isGuard, Code.isCaller, Code.frames, Code.isFrame, guardIds]
theorem Df {A : Around} {C : Addr} {us : List Value} {kw : List (Str × Value)} : (A.under (.builtin "type.__call__" ⟨.ref C :: us, kw⟩)).units = A.units + 1 := by
  first | rfl | simp [Around.under, Code.cUnits, Code.frames, Code.isFrame]
theorem Room.make {k : Nat} {A : Around} (r : Room (k + 1) A) (C : Addr) (us : List Value) (kw : List (Str × Value)) : Room k (A.under (.builtin "type.__call__" ⟨.ref C :: us, kw⟩)) :=
  ⟨r.hd, by have := r.dp; rw [CG]; omega, by have := r.un; rw [Df]; omega⟩
theorem Room.depth {k : Nat} {A : Around} (r : Room k A) : A.depth < recursionLimit := by have := r.dp; omega
theorem Room.units {k : Nat} {A : Around} (r : Room k A) : A.units + 64 < cLine := by have := r.un; omega
def EM : TA := fun _ H Q => Q [] H
def yD (ta : TE) (tr : TA) : TA := fun σ H Q => ta σ H fun x H1 => tr σ H1 fun xs H2 => Q (x :: xs) H2
section
variable {X : Cx} {e : Expr} {es : List Expr} {te : TE} {t : TA} {pos : Pos}
theorem ff : PA X [] EM := fun _ _ _ _ H Q I h => Calls.spliced_nil ⟨[], H, I, .nil, h⟩
theorem cg (ha : PE X e te) (hr : PA X es t) (hs : starEach (e :: es) X.env = (false, eval e X.env) :: starEach es X.env := by rfl) : PA X (e :: es) (yD te t) := by
  intro pos pins s σ H Q I h
  rw [hs]
  show wpAny _ _ (spliced ((false, eval e X.env) :: backTo pos (starEach es X.env))) _ _ s
  refine Calls.spliced_cons (thn (ha pins s σ H _ I h) fun u s1 ⟨x, H1, I1, r1, q1⟩ => ?_)
  exact thn (hr pos pins s1 σ H1 _ I1 q1) fun us s2 ⟨xs, H2, I2, r2, q2⟩ => ⟨x :: xs, H2, I2, .cons r1 r2, q2⟩

def Ge (t : TA) : TE := fun σ H Q => t σ H fun xs H1 => xs.length ≤ sizeLine ∧ ∀ p, H1 p = none → Q (.ref p) (upd H1 p (.tup xs))
def Gi (t : TA) : TE := fun σ H Q => t σ H fun xs H1 => xs.length ≤ sizeLine ∧ ∀ p, H1 p = none → Q (.ref p) (upd H1 p (.lst xs))
theorem tX {x1} (h : PA X es t) : PE X (.Tuple es x1 pos) (Ge t) := by
  intro pins s σ H Q I hq
  refine wpAny_Tuple_spliced (thn (h pos pins s σ H _ I hq) fun us s1 ⟨xs, H1, I1, r, z, q⟩ => ⟨by rw [← r.length]; exact z, ?_⟩)
  have hf : H1 s1.heap.objs.size = none := I1.hok.fresh (Nat.le_refl _)
  refine ⟨.ref s1.heap.objs.size, upd H1 s1.heap.objs.size (.tup xs), I1.laid (t' := s1.toks) (fun b u e => Heap.get?_push_of_some _ e) (Nat.le_refl _) ?_, rfl, q _ hf⟩
  exact ⟨z, us, r, ⟨_, Heap.get?_push_size _ rfl, rfl, _, rfl⟩, _, Heap.get?_push_size _ rfl, rfl⟩
theorem zj (h : PA X es t) : PE X (.List es pos) (Gi t) := by
  intro pins s σ H Q I hq
  refine wpAny_List_spliced (thn (h pos pins s σ H _ I hq) fun us s1 ⟨xs, H1, I1, r, z, q⟩ => ⟨by rw [← r.length]; exact z, ?_⟩)
  have hf : H1 s1.heap.objs.size = none := I1.hok.fresh (Nat.le_refl _)
  refine ⟨.ref s1.heap.objs.size, upd H1 s1.heap.objs.size (.lst xs), I1.laid (t' := s1.toks) (fun b u e => Heap.get?_push_of_some _ e) (Nat.le_refl _) ?_, rfl, q _ hf⟩
  exact ⟨z, us, 0, r, Heap.get?_push_size _ rfl⟩
end

abbrev Sp := List V → Hp → VK → XK → Prop
abbrev CXT := List Env → Hp → Shared → XK → Value → Shared → Prop

structure Env0 (P : Program) (w : World) (K : PySem.W.Frag) (mg : Str → Option Value) (base : Heap) (A : Around) (outer : List Env) (s : Shared) (H : Hp) : Prop where
  frames : A.frames = some outer
  mod : Mod K mg base
  bs : ∀ b o, base.get? b = some o → s.heap.get? b = some o ∧ H b = none
  bsz : base.objs.size ≤ s.heap.objs.size
  funs : s.heap.FunFrames base outer
  frf : ∀ b ∈ frs outer, H b = none
  hok : HOk P w H s.heap
  bare : AllBare s.gens
def CE (outer : List Env) (P : Program) (w : World) (H : Hp) (s : Shared) (Q : VK) (u : Value) (s' : Shared) : Prop :=
  ∃ v H', s'.os = s.os ∧ AllBare s'.gens ∧ Un (frs outer) [] H H' s.heap s'.heap ∧ HOk P w H' s'.heap ∧ RelV v u ∧ Q v H'
def CR (CX : CXT) (outer : List Env) (P : Program) (w : World) (H : Hp) (s : Shared) (Q : VK) (E : XK) (r : Result) (s' : Shared) : Prop :=
  match r with
  | .ok (.ret u) => CE outer P w H s Q u s'
  | .ok _ => False
  | .error e => CX outer H s E e s'
structure FnOk (P : Program) (w : World) (K : PySem.W.Frag) (mg : Str → Option Value) (base : Heap) (CX : CXT) (k : Nat) (f : Addr) (fd : FuncData) (ps : List Str) (sp : Sp) : Prop where
  len : ∀ vs H Q E, sp vs H Q E → vs.length = ps.length
  run : ∀ (A : Around) (outer : List Env) (s : Shared) (H : Hp) (args : Args) (us : List Value) (vs : List V) (Q : VK) (E : XK), Room k A → Env0 P w K mg base A outer s H → BindsTo s fd args (ps.zip us) → Vals vs us → sp vs H Q E →
    codeAny (model P w) A (.call (.ref f) args) (CR CX outer P w H s Q E) s
theorem Env0.make {P : Program} {w : World} {K : PySem.W.Frag} {mg : Str → Option Value} {base : Heap} {A : Around} {outer : List Env} {s : Shared} {H : Hp} (e : Env0 P w K mg base A outer s H) (C : Addr) (us : List Value) (kw : List (Str × Value)) :
    Env0 P w K mg base (A.under (.builtin "type.__call__" ⟨.ref C :: us, kw⟩)) outer s H := ⟨by first | exact e.frames | (simpa [Around.under, Code.envs, Code.isFrame, pushEnvs] using e.frames), e.mod, e.bs, e.bsz, e.funs, e.frf, e.hok, e.bare⟩
section
variable {X : Cx} {pins : List (Addr × Obj)} {σ : St} {H : Hp} {s s' : Shared}
theorem Inv.env0 (I : Inv X pins σ H s) : Env0 X.prog X.w X.K X.mg X.base X.A X.stack s H :=
  ⟨I.ok.frames, I.ok.mod, I.bs, Nat.le_trans I.ok.bsz I.sz, I.stack, I.stkFree, I.hok, I.bare⟩
theorem Inv.after {Q : VK} {u : Value} (I : Inv X pins σ H s) (h : CE X.stack X.prog X.w H s Q u s') : EP X pins σ Q u s' := by
  obtain ⟨v, H', os, bare, un, hok, r, q⟩ := h
  obtain ⟨hh, g, d, t, os'⟩ := s'
  obtain rfl : os' = s.os := os
  exact ⟨v, H', I.call (h' := hh) (g' := g) (d' := d) (t' := t) (ch := []) un hok bare (fun b z => absurd z (by simp)), r, q⟩
end

def zE (sp : Sp) (dvs : List V) (E : XK) (t : TA) : TE := fun σ H Q => t σ H fun vs H1 => sp (vs ++ dvs) H1 Q E
def Dp (C : Addr) (sp : Sp) (dvs : List V) (E : XK) (t : TA) : TE := fun σ H Q => t σ H fun vs H1 => ∀ x dx, H1 x = none → H1 dx = none → dx ≠ x →
  sp (.ref x :: (vs ++ dvs)) (upd (upd H1 dx (.own x)) x (.ins C dx [])) (fun v H2 => v = .non ∧ Q (.ref x) H2) E

def Binds (K : PySem.W.Frag) (fd : FuncData) (ps : List Str) (ds : List Value) : Prop :=
  ∀ (s : Shared) (us : List Value), K.In s.heap → (us ++ ds).length = ps.length → BindsTo s fd ⟨us, []⟩ (ps.zip (us ++ ds))
theorem Binds.all {K : PySem.W.Frag} {fd : FuncData} {ps : List Str} (h : ∀ us : List Value, us.length = ps.length → bindArgs fd ⟨us, []⟩ = pure (ps.zip us)) : Binds K fd ps [] := fun s us _ hl => by
  rw [List.append_nil] at hl ⊢
  exact .of_eq (h us hl)

def xx (CX : CXT) (X : Cx) (E : XK) : Prop := ∀ (pins : List (Addr × Obj)) (σ : St) (H : Hp) (s : Shared) (e : Value) (s' : Shared), Inv X pins σ H s → CX X.stack H s E e s' → X.xe e s'

section
variable {X : Cx} {CX : CXT} {k : Nat} {f C : Addr} {fd : FuncData} {ps : List Str} {sp : Sp} {dvs : List V} {ds : List Value} {E : XK} {x m : Str} {p pos apos : Pos} {e o : Expr} {es : List Expr} {ta : TE} {t : TA}

theorem Eg {pins : List (Addr × Obj)} {σ : St} {H : Hp} {s : Shared} {Q : VK} {us : List Value} {vs : List V} (F : FnOk X.prog X.w X.K X.mg X.base CX k f fd ps sp) (hr : Room k X.A) (hb : Binds X.K fd ps ds) (hd : Vals dvs ds) (hx : xx CX X E)
    (I : Inv X pins σ H s) (r : Vals vs us) (h : sp (vs ++ dvs) H Q E) : wpAny (model X.prog X.w) X.A (call (.ref f) us) (EP X pins σ Q) X.xe s := by
  have r2 : Vals (vs ++ dvs) (us ++ ds) := r.append hd
  have hl : (us ++ ds).length = ps.length := by rw [← r2.length]; exact F.len _ _ _ _ h
  refine wpAny_call (codeAny_mono (F.run X.A X.stack s H ⟨us, []⟩ (us ++ ds) (vs ++ dvs) Q E hr I.env0 (hb s us I.kIn hl) r2 h) fun r s' hq => ?_)
  cases r with
  | error e => exact hx pins σ H s e s' I hq
  | ok fl =>
    cases fl with
    | ret u => exact I.after hq
    | next => exact False.elim hq
    | brk => exact False.elim hq
    | cont => exact False.elim hq

theorem FO (F : FnOk X.prog X.w X.K X.mg X.base CX k f fd ps sp) (hr : Room k X.A) (hg : Gl X x) (hm : X.mg x = some (.ref f)) (hk : PySem.W.keepIn X.K (.ref f) = true) (hb : Binds X.K fd ps ds) (hd : Vals dvs ds) (hx : xx CX X E)
    (ha : PA X (e :: es) t) (hdb : (x == ("__debug__" : Str)) = false := by decide) (he : starEach (e :: es) X.env = (false, eval e X.env) :: starEach es X.env := by rfl) (hpl : (backTo pos (starEach es X.env)).any (·.1) = false := by rfl) :
    PE X (.Call (.Name x p) (e :: es) [] pos) (zE sp dvs E t) := by
  intro pins s σ H Q I h
  refine wpAny_Call_Name_kw (yy I hg hm ?_ hdb)
  refine PySem.W.callWith_K (h₀ := X.base) I.ok.mod.kin hk (thn (ha pos pins s σ H _ I h) fun us s1 ⟨vs, H1, I1, r, q⟩ => ⟨I1.kIn, ?_⟩) he hpl
  exact Eg F hr hb hd hx I1 r q
structure Mk (K : PySem.W.Frag) (C f : Addr) : Prop where
  makes : PySem.W.makesIn K C = true
  init : PySem.W.findIn K (.ref C) "__init__" = some (some (.ref f))
  fn : PySem.W.isFn K (.ref f) = true
  kp : PySem.W.keepIn K (.ref C) = true

theorem Ex {pins : List (Addr × Obj)} {σ : St} {H : Hp} {s : Shared} {Q : VK} {us : List Value} {vs : List V} (M : Mk X.K C f) (F : FnOk X.prog X.w X.K X.mg X.base CX k f fd ps sp) (hr : Room (k + 1) X.A) (hb : Binds X.K fd ps ds) (hd : Vals dvs ds)
    (hx : xx CX X E) (I : Inv X pins σ H s) (r : Vals vs us)
    (h : ∀ x dx, H x = none → H dx = none → dx ≠ x → sp (.ref x :: (vs ++ dvs)) (upd (upd H dx (.own x)) x (.ins C dx [])) (fun v H2 => v = .non ∧ Q (.ref x) H2) E) :
    wpAny (model X.prog X.w) X.A (call (.ref C) us) (EP X pins σ Q) X.xe s := by
  have hq := h (s.heap.objs.size + 1) s.heap.objs.size (I.hok.fresh (Nat.le_succ _)) (I.hok.fresh (Nat.le_refl _)) (Nat.ne_of_lt (Nat.lt_succ_self _))
  have I2 := Inv.made (C := C) I
  have r2 : Vals (V.ref (s.heap.objs.size + 1) :: (vs ++ dvs)) (Value.ref (s.heap.objs.size + 1) :: (us ++ ds)) := .cons rfl (r.append hd)
  have hl : (Value.ref (s.heap.objs.size + 1) :: us ++ ds).length = ps.length := by
    have e := r2.length
    rw [F.len _ _ _ _ hq] at e
    exact e.symm
  refine wpAny_call (EW (f := f) I.kIn M.makes M.init (beq_iff_eq.mp M.fn) (codeAny_mono (F.run _ X.stack _ _ ⟨Value.ref (s.heap.objs.size + 1) :: us, []⟩ (Value.ref (s.heap.objs.size + 1) :: (us ++ ds)) _ _ E (hr.make C us [])
    (I2.env0.make C us []) (hb _ (Value.ref (s.heap.objs.size + 1) :: us) I2.kIn hl) r2 hq) fun r s' hq' => ?_))
  cases r with
  | error e => exact hx pins σ _ _ e s' I2 hq'
  | ok fl =>
    cases fl with
    | ret u =>
      obtain ⟨v, H', I3, rv, ev, q3⟩ := I2.after hq'
      subst ev
      exact ⟨rv, ⟨V.ref (s.heap.objs.size + 1), H', I3, rfl, q3⟩⟩
    | next => exact False.elim hq'
    | brk => exact False.elim hq'
    | cont => exact False.elim hq'
theorem FL (M : Mk X.K C f) (F : FnOk X.prog X.w X.K X.mg X.base CX k f fd ps sp) (hr : Room (k + 1) X.A) (hg : Gl X x) (hm : X.mg x = some (.ref C)) (hb : Binds X.K fd ps ds) (hd : Vals dvs ds) (hx : xx CX X E)
    (ha : PA X (e :: es) t) (hdb : (x == ("__debug__" : Str)) = false := by decide) (he : starEach (e :: es) X.env = (false, eval e X.env) :: starEach es X.env := by rfl) (hpl : (backTo pos (starEach es X.env)).any (·.1) = false := by rfl) :
    PE X (.Call (.Name x p) (e :: es) [] pos) (Dp C sp dvs E t) := by
  intro pins s σ H Q I h
  refine wpAny_Call_Name_kw (yy I hg hm ?_ hdb)
  refine PySem.W.callWith_K (h₀ := X.base) I.ok.mod.kin M.kp (thn (ha pos pins s σ H _ I h) fun us s1 ⟨vs, H1, I1, r, q⟩ => ⟨I1.kIn, ?_⟩) he hpl
  exact Ex M F hr hb hd hx I1 r q
end

section
variable {X : Cx} {CX : CXT} {k : Nat} {f C : Addr} {fd : FuncData} {ps ks : List Str} {sp : Sp} {E : XK} {x m : Str} {p pos apos kpos : Pos} {e o : Expr} {es : List Expr} {kws : List Keyword} {te ta : TE} {t tk : TA} {nm : Option Str}
structure KBinds (K : PySem.W.Frag) (fd : FuncData) (ps ks : List Str) (g : List Value → List Value → List Value) (gV : List V → List V → List V) : Prop where
  to : ∀ (s : Shared) (us ws : List Value), K.In s.heap → (g us ws).length = ps.length → BindsTo s fd ⟨us, ks.zip ws⟩ (ps.zip (g us ws))
  rel : ∀ {vs : List V} {us : List Value} {zs : List V} {ws : List Value}, Vals vs us → Vals zs ws → Vals (gV vs zs) (g us ws)
variable {g : List Value → List Value → List Value} {gV : List V → List V → List V}
end

structure FnScope (N P : List Str) (sc : Scope) : Prop where
  kind : sc.kind = .function
  co : sc.isCoroutine = false
  gen : sc.isGenerator = false
  nd : N.Nodup
  pre : N.take P.length = P
  par : ∀ x ∈ P, sc.names.lookup x = some .local ∨ sc.names.lookup x = some .cell
  nofree : ∀ y ∈ sc.names, y.2 ≠ .free

theorem An {kindOf : Str → Option NameKind} {x : Str} : ∀ {binds : List (Str × Value)} {m : Str → Option Value}, (∀ v, (x, v) ∉ binds) → bindL kindOf binds m x = m x
  | [], _, _ => rfl
  | (n, v) :: r, m, h => by
    unfold bindL
    rw [An fun w hw => h w (List.mem_cons_of_mem _ hw)]
    split
    · have : x ≠ n := by rintro rfl; exact h v List.mem_cons_self
      simp [this]
    · rfl
theorem Af {kindOf : Str → Option NameKind} {x : Str} : ∀ {binds : List (Str × Value)} {m : Str → Option Value}, (∀ v, (x, v) ∉ binds) → bindC kindOf binds m x = m x
  | [], _, _ => rfl
  | (n, v) :: r, m, h => by
    unfold bindC
    rw [Af fun w hw => h w (List.mem_cons_of_mem _ hw)]
    split
    · rfl
    · have : x ≠ n := by rintro rfl; exact h v List.mem_cons_self
      simp [this]
theorem Ag {kindOf : Str → Option NameKind} {x : Str} {v : Value} : ∀ {P : List Str} {vs : List Value} {i : Nat} {m : Str → Option Value}, P.Nodup → P[i]? = some x → vs[i]? = some v → kindOf x = some .local →
    bindL kindOf (P.zip vs) m x = some v
  | [], _, _, _, _, h, _, _ => by simp at h
  | _ :: _, [], _, _, _, _, h, _ => by simp at h
  | p :: P, w :: vs, 0, m, nd, h1, h2, hk => by
    simp at h1 h2; subst h1; subst h2
    show bindL kindOf ((p, w) :: P.zip vs) m p = _
    unfold bindL
    rw [An fun v hv => (List.nodup_cons.mp nd).1 (List.of_mem_zip hv).1, if_pos hk]
    simp
  | p :: P, w :: vs, i + 1, m, nd, h1, h2, hk => by
    show bindL kindOf ((p, w) :: P.zip vs) m x = _
    unfold bindL
    exact Ag (i := i) (List.nodup_cons.mp nd).2 (by simpa using h1) (by simpa using h2) hk
theorem Ak {kindOf : Str → Option NameKind} {x : Str} {v : Value} : ∀ {P : List Str} {vs : List Value} {i : Nat} {m : Str → Option Value}, P.Nodup → P[i]? = some x → vs[i]? = some v → kindOf x ≠ some .local →
    bindC kindOf (P.zip vs) m x = some v
  | [], _, _, _, _, h, _, _ => by simp at h
  | _ :: _, [], _, _, _, _, h, _ => by simp at h
  | p :: P, w :: vs, 0, m, nd, h1, h2, hk => by
    simp at h1 h2; subst h1; subst h2
    show bindC kindOf ((p, w) :: P.zip vs) m p = _
    unfold bindC
    rw [Af fun v hv => (List.nodup_cons.mp nd).1 (List.of_mem_zip hv).1, if_neg hk]
    simp
  | p :: P, w :: vs, i + 1, m, nd, h1, h2, hk => by
    show bindC kindOf ((p, w) :: P.zip vs) m x = _
    unfold bindC
    exact Ak (i := i) (List.nodup_cons.mp nd).2 (by simpa using h1) (by simpa using h2) hk

def start (N : List Str) (vs : List V) : St := vs.map some ++ List.replicate (N.length - vs.length) none

def zb (CX : CXT) (P : Program) (w : World) (K : PySem.W.Frag) (mg : Str → Option Value) (base : Heap) (N : List Str) (qual : Str) (scope : Scope) (f : Addr) (cd : Value) (A : Around) (outer : List Env) (s : Shared) (H : Hp) (E : XK) : Cx where
  prog := P
  w := w
  K := K
  mg := mg
  base := base
  A := A.deeper (envOfC qual scope s.heap.objs.size f cd)
  N := N
  s₀ := s
  H₀ := H
  env := envOfC qual scope s.heap.objs.size f cd
  outer := outer
  stack := envOfC qual scope s.heap.objs.size f cd :: outer
  ex := []
  calm := true
  fn := fun _ => true
  pn := []
  xe := fun e s' => wpAny (model P w) (A.deeper (envOfC qual scope s.heap.objs.size f cd)) (leaving (envOfC qual scope s.heap.objs.size f cd) e) (fun _ s'' => CX outer H s E e s'') (fun e' s'' => CX outer H s E e' s'') s'

theorem AV {sc : Scope} {n : Nat} {x : Str} (h : sc.names.lookup x = some .cell) : ∃ c, (cellsFrom n sc.names []).lookup x = some c := by
  have q := PySem.W.cellsFrom_some sc.names n [] (.inl h)
  exact Option.isSome_iff_exists.mp q

theorem Du {CX : CXT} {P : Program} {w : World} {K : PySem.W.Frag} {mg : Str → Option Value} {base : Heap} {N ps : List Str} {qual : Str} {scope : Scope} {f : Addr} {cd : Value} {A : Around} {outer : List Env} {s s1 : Shared} {H : Hp} {E : XK} {us : List Value} {vs : List V}
    (S : FnScope N ps scope) (hd : A.handled = none) (e0 : Env0 P w K mg base A outer s H) (hl : vs.length = ps.length) (r : Vals vs us)
    (x : InCallC s s.heap.objs.size (bindL (envOfC qual scope s.heap.objs.size f cd).kindOf (ps.zip us) fun _ => none) (cellsFrom (s.heap.objs.size + 1) scope.names []) (bindC (envOfC qual scope s.heap.objs.size f cd).kindOf (ps.zip us) fun _ => none) s1) :
    Inv (zb CX P w K mg base N qual scope f cd A outer s H E) [] (start N vs) H s1 := by
  have hpl : ps.length ≤ N.length := by have := congrArg List.length S.pre; rw [List.length_take] at this; omega
  obtain ⟨h1, tk, rfl, hk⟩ := x.done
  have noA : ∀ b : Addr, b ∉ (zb CX P w K mg base N qual scope f cd A outer s H E).ex := fun b z => absurd (show b ∈ ([] : List Addr) from z) (by simp)
  refine ⟨⟨e0.mod, S.kind, rfl, rfl, Nat.le_refl _, fun y z c h1 h2 => ?_, fun y hy => ?_, fun y c _ h => ?_, fun _ => hd, Around.frames_deeper e0.frames, .inr ⟨rfl, rfl⟩, fun b z => absurd z (noA b), e0.bs, e0.bsz, fun b _ _ => noA b, fun b z => absurd z (noA b), e0.funs, e0.frf⟩,
    rfl, e0.bare, Un.kept hk, ⟨_, x.toInCall.ns, fun i y v h1 h2 h3 => ?_⟩, fun y c h => ⟨_, x.cell y c h⟩, e0.hok.fresh (Nat.le_refl _), fun y c h => ?_, fun p hp => absurd (show p ∈ ([] : List (Addr × Obj)) from hp) (by simp), e0.hok.kept hk, ?_⟩
  · exact name_of_addr x.apart (PySem.mem_of_lookup h1) (PySem.mem_of_lookup h2)
  · have hy : scope.names.lookup y = some .cell ∨ scope.names.lookup y = some .free := hy
    rcases hy with hy | hy
    · exact AV hy
    · exact absurd rfl (S.nofree _ (PySem.mem_of_lookup hy))
  · exact Nat.le_of_lt (x.above y c (PySem.mem_of_lookup h))
  · have hi : i < vs.length := by
      unfold start at h2
      by_cases hi : i < vs.length
      · exact hi
      · rw [List.getElem?_append_right (by simpa using hi)] at h2
        rw [List.getElem?_replicate] at h2
        split at h2 <;> cases h2
    have ha : vs[i]? = some v := by
      unfold start at h2
      rw [List.getElem?_append_left (by simpa using hi), List.getElem?_map] at h2
      cases e : vs[i]? with
      | none => rw [e] at h2; cases h2
      | some a => rw [e] at h2; cases h2; rfl
    obtain ⟨u, hu, rv⟩ := r.get ha
    have hp : ps[i]? = some y := by
      rw [← S.pre, List.getElem?_take_of_lt (by omega)]; exact h1
    have ndP : ps.Nodup := by rw [← S.pre]; exact S.nd.sublist (List.take_sublist _ _)
    refine ⟨u, rv, ?_⟩
    rcases S.par y (List.mem_of_getElem? hp) with k | k
    · exact .inl ⟨k, Ag ndP hp hu k⟩
    · obtain ⟨c, e⟩ := AV (n := s.heap.objs.size + 1) k
      refine .inr ⟨.inl k, c, e, ?_⟩
      have q := x.cell y c e
      rw [Ak ndP hp hu (by show scope.names.lookup y ≠ _; rw [k]; decide)] at q
      exact q
  · exact e0.hok.fresh (Nat.le_of_lt (x.above y c (PySem.mem_of_lookup h)))
  · unfold start
    show _ = N.length
    rw [List.length_append, List.length_map, List.length_replicate]
    omega

theorem Hf {CX : CXT} {P : Program} {w : World} {K : PySem.W.Frag} {mg : Str → Option Value} {base : Heap} {k : Nat} {f : Addr} {name qual : Str} {params : Arguments} {body : List Stmt} {scope : Scope} {dV kV doc pm cdv ct oc : Value} {an od : Option Addr}
    {osl : Array (Option Value)} {N ps : List Str} {sp : Sp} (lk : K.lookup f = some ⟨oc, od, .func (PySem.W.fnOf name qual params body scope dV kV doc pm an cdv ct), osl⟩) (hcd : PySem.W.codeIn K cdv qual = true) (S : FnScope N ps scope)
    (len : ∀ vs H Q E, sp vs H Q E → vs.length = ps.length)
    (hbody : ∀ (A : Around) (outer : List Env) (s : Shared) (H : Hp) (vs : List V) (Q : VK) (E : XK), Room k (A.deeper (envOfC qual scope s.heap.objs.size f cdv)) → sp vs H Q E →
      ∃ t, PSs (zb CX P w K mg base N qual scope f cdv A outer s H E) body t ∧ t { nx := fun _ H' => Q .non H', rt := Q } (start N vs) H) :
    FnOk P w K mg base CX (k + 1) f (PySem.W.fnOf name qual params body scope dV kV doc pm an cdv ct) ps sp := by
  refine ⟨len, fun A outer s H args us vs Q E hr e0 hb r hsp => ?_⟩
  have hl := len _ _ _ _ hsp
  have KX : K.In s.heap := e0.mod.kin.keeps fun b o e => (e0.bs b o e).1
  have lim : s.heap.NoLimit := e0.mod.nolimit.keeps fun b o e => (e0.bs b o e).1
  have hkind : ∀ y ∈ ps.zip us, scope.names.lookup y.1 = some .local ∨ (scope.names.lookup y.1 = some .cell ∧ ((cellsFrom (s.heap.objs.size + 1) scope.names []).lookup y.1).isSome = true) := fun ⟨n, v⟩ hy => by
    rcases S.par n (List.of_mem_zip hy).1 with q | q
    · exact .inl q
    · exact .inr ⟨q, PySem.W.cellsFrom_some _ _ _ (.inl q)⟩
  refine codeAny_call_function hr.depth (KX _ _ lk) rfl S.co S.gen rfl (PySem.W.codeRec_of KX hcd) (hb _ _ _ _ ?_)
  refine wpAny_newFunctionEnv_cells S.kind hkind fun env he s1 x => ?_
  subst he
  refine ⟨lim.keeps x.toInCall.keep, codeAny_func ?_⟩
  obtain ⟨t, ht, hq⟩ := hbody A outer s H vs Q E (hr.deeper _) hsp
  have I : Inv (zb CX P w K mg base N qual scope f cdv A outer s H E) [] (start N vs) H s1 := Du S hr.hd e0 hl r x
  refine wpAny_mono (ht [] s1 (start N vs) H _ I hq) (fun fl s' hs => ?_) fun e s' hs => hs
  have fin : ∀ {σ' : St} {H' : Hp} {v : V} {u : Value}, Inv (zb CX P w K mg base N qual scope f cdv A outer s H E) [] σ' H' s' → RelV v u → Q v H' → CE outer P w H s Q u s' :=
    fun {σ' H' v u} J rv q => ⟨v, H', J.os, J.bare, J.base, J.hok, rv, q⟩
  cases fl with
  | ret u =>
    obtain ⟨v, σ', H', J, rv, q⟩ := hs
    exact fin J rv q
  | next =>
    obtain ⟨σ', H', J, q⟩ := hs
    exact fin (v := V.non) (u := Value.none) J rfl q
  | brk =>
    obtain ⟨_, _, _, q⟩ := hs
    exact False.elim q
  | cont =>
    obtain ⟨_, _, _, q⟩ := hs
    exact False.elim q
end L2

namespace L2
open PySem PySem.Spec PyProof.Rows
section
variable {X : Cx} {x : Str} {p pos : Pos} {e : Expr} {es : List Expr} {t : TA} {id T : String} {r : List V → Hp → VK → Prop}

def tCB (r : List V → Hp → VK → Prop) (t : TA) : TE := fun σ H Q => t σ H fun vs H1 => r vs H1 Q
theorem tH (hc : uS X (.builtin id) r) (hg : Gl X x) (hm : X.mg x = none) (hv : bootBuiltins x = some (.builtin id)) (ha : PA X (e :: es) t) (hn : x ≠ "__name__" := by decide) (hdb : (x == ("__debug__" : Str)) = false := by decide)
    (he : starEach (e :: es) X.env = (false, eval e X.env) :: starEach es X.env := by rfl) (hpl : (backTo pos (starEach es X.env)).any (·.1) = false := by rfl) : PE X (.Call (.Name x p) (e :: es) [] pos) (tCB r t) := by
  intro pins s σ H Q I h
  refine wpAny_Call_Name_kw (vN I hg hm hv ?_ hn hdb)
  exact PyProof.Rows.callWith_builtin1 (thn (ha pos pins s σ H _ I h) fun us s1 ⟨vs, H1, I1, r1, q1⟩ => hc pins s1 σ H1 vs us Q I1 r1 q1) he hpl
theorem u6 (hc : uS X (.type T) r) (hg : Gl X x) (hm : X.mg x = none) (hv : bootBuiltins x = some (.type T)) (ha : PA X (e :: es) t) (hn : x ≠ "__name__" := by decide) (hdb : (x == ("__debug__" : Str)) = false := by decide)
    (he : starEach (e :: es) X.env = (false, eval e X.env) :: starEach es X.env := by rfl) (hpl : (backTo pos (starEach es X.env)).any (·.1) = false := by rfl) : PE X (.Call (.Name x p) (e :: es) [] pos) (tCB r t) := by
  intro pins s σ H Q I h
  refine wpAny_Call_Name_kw (vN I hg hm hv ?_ hn hdb)
  exact PyProof.Rows.callWith_type1 (thn (ha pos pins s σ H _ I h) fun us s1 ⟨vs, H1, I1, r1, q1⟩ => hc pins s1 σ H1 vs us Q I1 r1 q1) he hpl
end
end L2

namespace HT
open PySem PyProof.Rows

section
open PySem.SeqAt
open PySem.AutoSeq1 (wpAny_loadPart')
open PySem.MeetsSeq PySem.MeetsSeq2 PySem.MeetsSeq3

end

section
variable {prog : Program} {w : World} {A : Around} {E : Value → Shared → Prop} {s : Shared}

def sIx (n d : Nat) : Option Int → Nat
  | none => d
  | some v => if v < 0 then (v + (n : Int)).toNat else min v.toNat n
end
end HT

namespace L2
open PySem PySem.Spec PyProof.Rows

abbrev TO := St → Hp → (Option Int → Hp → Prop) → Prop
section
variable {X : Cx} {e : Expr} {te : TE} {lo hi : Option Expr} {tl th : TO} {pos p2 : Pos}

def SlR (X : Cx) (r : V → Option Int → Option Int → Hp → VK → Prop) : Prop :=
  ∀ (pins : List (Addr × Obj)) (s : Shared) (σ : St) (H : Hp) (x : V) (v vl vu : Value) (lo hi : Option Int) (sl : Addr) (Q : VK), Inv X pins σ H s → RelV x v → s.heap.IsSliceOf sl vl vu .none → IsPart vl lo → IsPart vu hi → r x lo hi H Q →
    ∃ T id, typeLookup (.type T) "__getitem__" = pure (some (.builtin id)) ∧ s.TypeIs v T ∧ wpAny (model X.prog X.w) X.A (getItem v (.ref sl)) (EP X pins σ Q) X.xe s
def CJ (xs : List V) (lo hi : Option Int) : List V := (xs.drop (HT.sIx xs.length 0 lo)).take (HT.sIx xs.length xs.length hi - HT.sIx xs.length 0 lo)
theorem BD (xs : List V) (lo hi : Option Int) : (CJ xs lo hi).length ≤ xs.length := by
  unfold CJ
  rw [List.length_take, List.length_drop]
  omega
end
end L2

namespace L2
open PySem PySem.Spec PyProof.Rows

def ixN (n : Nat) (i : Int) : Option Nat := if 0 ≤ i then (if i < n then some i.toNat else none) else if -(n : Int) ≤ i then some (i + n).toNat else none
def atI {α : Type} (xs : List α) (i : Int) : Option α := (ixN xs.length i).bind fun j => xs[j]?
theorem B3 {n : Nat} {i : Int} {j : Nat} (h : ixN n i = some j) : seqIndex? i n = some j ∧ j < n ∧ -(n : Int) ≤ i ∧ i < n := by
  unfold ixN at h
  by_cases h0 : 0 ≤ i
  · rw [if_pos h0] at h
    by_cases h1 : i < n
    · rw [if_pos h1] at h
      have e : i.toNat = j := Option.some.inj h
      exact ⟨by rw [seqIndex_of h0 h1, e], by omega, by omega, h1⟩
    · rw [if_neg h1] at h; cases h
  · rw [if_neg h0] at h
    by_cases h1 : -(n : Int) ≤ i
    · rw [if_pos h1] at h
      have e : (i + n).toNat = j := Option.some.inj h
      exact ⟨by rw [seqIndex_neg (by omega) h1, e], by omega, h1, by omega⟩
    · rw [if_neg h1] at h; cases h
theorem z9 {α : Type} {xs : List α} {i : Int} {v : α} (h : atI xs i = some v) : ∃ j, seqIndex? i xs.length = some j ∧ xs[j]? = some v ∧ j < xs.length ∧ -(xs.length : Int) ≤ i ∧ i < xs.length := by
  unfold atI at h
  cases e : ixN xs.length i with
  | none => rw [e] at h; cases h
  | some j =>
    rw [e] at h
    obtain ⟨h1, h2, h3, h4⟩ := B3 e
    exact ⟨j, h1, h, h2, h3, h4⟩
theorem uw {α : Type} {xs : List α} {j : Nat} {v : α} (h : xs[j]? = some v) : atI xs (j : Int) = some v := by
  have hj : j < xs.length := (List.getElem?_eq_some_iff.mp h).1
  have e : ixN xs.length (j : Int) = some j := by
    unfold ixN
    rw [if_pos (by omega), if_pos (by omega)]; simp
  unfold atI; rw [e]; exact h
theorem Bb {α : Type} (xs : List α) (v : α) : atI (xs ++ [v]) (-1) = some v := by
  have hl : (xs ++ [v]).length = xs.length + 1 := by simp
  have e : ixN (xs ++ [v]).length (-1) = some xs.length := by
    unfold ixN
    rw [hl, if_neg (by decide), if_pos (by omega)]
    congr 1
    omega
  unfold atI
  rw [e]
  show (xs ++ [v])[xs.length]? = some v
  simp

def Cn (b : Expr) : Prop := ∀ o i, subscripted b false o i = operate [o, i] (getItem o i)
def IxR (X : Cx) (r : R2) : Prop :=
  ∀ (value slice : Expr) (pins : List (Addr × Obj)) (s : Shared) (σ : St) (H : Hp) (x y : V) (v u : Value) (Q : VK), Inv X pins σ H s → RelV x v → RelV y u → r x y H Q →
    subscripted slice false v u = operate [v, u] (getItem v u) → wpAny (model X.prog X.w) X.A (subscriptTail value slice v u) (EP X pins σ Q) X.xe s
def MtR (X : Cx) (id : String) (r : V → List V → Hp → VK → Prop) : Prop :=
  ∀ (pins : List (Addr × Obj)) (s : Shared) (σ : St) (H : Hp) (x : V) (xs : List V) (v : Value) (us : List Value) (Q : VK), Inv X pins σ H s → RelV x v → Vals xs us → r x xs H Q →
    wpAny (model X.prog X.w) X.A (call (.builtin id) (v :: us)) (EP X pins σ Q) X.xe s
section
variable {X : Cx} {a b : Expr} {ta tb : TE} {pos : Pos}
theorem m9 {r : R2} (hr : IxR X r) (ha : PE X a ta) (hb : PE X b tb) (hs : Cn b) : PE X (.Subscript a b pos) (tOp r ta tb) := by
  intro pins s σ H Q I h
  exact Subscript_ (Ew ha hb I h fun v u s2 x y H2 I2 rx ry q => hr a b pins s2 σ H2 x y v u Q I2 rx ry q (hs _ _))

def EI (K : PySem.W.Frag) : R2 := fun x y H Q => ∃ p xs i v, x = .ref p ∧ y = .int i ∧ SqL K H p xs ∧ atI xs i = some v ∧ Q v H
def EZ (K : PySem.W.Frag) : R2 := fun x y H Q => ∃ p xs i v, x = .ref p ∧ y = .int i ∧ SqT K H p xs ∧ atI xs i = some v ∧ Q v H
def GE : R2 := fun x y H Q => ∃ z i c, x = .str z ∧ y = .int i ∧ z.length ≤ sizeLine ∧ atI z.cps.toList i = some c ∧ Q (.str ⟨#[c]⟩) H
theorem ue : IxR X (EI X.K) := by
  intro value slice pins s σ H x y v u Q I rx ry h hs
  obtain ⟨p, xs, i, z, rfl, rfl, hq, he, q⟩ := h
  cases rx
  obtain ⟨t, rfl⟩ := ry
  obtain ⟨its, r, pl, hz⟩ := I.list hq
  obtain ⟨j, h1, h2, h3, h4, h5⟩ := z9 he
  obtain ⟨w, ew, rw'⟩ := r.get h2
  have hl := r.length
  have hn := vI
  have fin : EP X pins σ Q w s := ⟨z, H, I, rw', q⟩
  by_cases h0 : 0 ≤ i
  · have hj : i.toNat = j := by
      rw [seqIndex_of h0 h5] at h1
      exact Option.some.inj h1
    exact item_listR pl.isList h0 (by omega) (by rw [hj]; simpa using ew) fin hs
  · have hj : (i + (its.toArray.size : Int)).toNat = j := by
      rw [seqIndex_neg (by omega) h4] at h1
      rw [List.size_toArray, ← hl]
      exact Option.some.inj h1
    exact subscriptTail_builtinR (x := w) pl.isList.typeIs slot_list_getitem.lookup
      (wpAny_getItem_list_neg (Q := fun r s' => r = w ∧ EP X pins σ Q r s') pl.isList (by omega) (by rw [List.size_toArray] <;> omega) (by omega) (by rw [hj]; simpa using ew) ⟨rfl, fin⟩) hs
theorem ni : IxR X (EZ X.K) := by
  intro value slice pins s σ H x y v u Q I rx ry h hs
  obtain ⟨p, xs, i, z, rfl, rfl, hq, he, q⟩ := h
  cases rx
  obtain ⟨t, rfl⟩ := ry
  obtain ⟨its, r, pl, hz⟩ := I.tuple hq
  obtain ⟨j, h1, h2, h3, h4, h5⟩ := z9 he
  obtain ⟨w, ew, rw'⟩ := r.get h2
  have hl := r.length
  have hn := vI
  have fin : EP X pins σ Q w s := ⟨z, H, I, rw', q⟩
  exact subscriptTail_builtinR (x := w) pl.typeIs slot_tuple_getitem.lookup
    (getItem_tuple (j := j) (Q := fun r s' => r = w ∧ EP X pins σ Q r s') pl (by omega) (by omega) (by rw [List.size_toArray, ← hl]; exact h1) (by simpa using ew) ⟨rfl, fin⟩) hs
theorem Dv : IxR X GE := by
  intro value slice pins s σ H x y v u Q I rx ry h hs
  obtain ⟨z, i, c, rfl, rfl, hz, he, q⟩ := h
  obtain ⟨t, rfl⟩ := rx
  obtain ⟨t', rfl⟩ := ry
  obtain ⟨j, h1, h2, h3, h4, h5⟩ := z9 he
  have hl : z.cps.toList.length = z.length := by simp [Str.length]
  rw [hl] at h1 h4 h5
  have hn := vI
  exact tail_any (typeIs_str s z t) slot_str_getitem.lookup (getItem_str (c := c) (by
    have e1 : decide (i < -(2 ^ 63 : Int)) = false := decide_eq_false (by omega)
    have e2 : decide (i ≥ 2 ^ 63) = false := decide_eq_false (by omega)
    rw [e1, e2, Bool.or_false]) (by rw [h1]; simpa using h2) ⟨.str ⟨#[c]⟩, H, I.tok _, ⟨_, rfl⟩, q⟩) hs
theorem CK (its : List Value) (n j : Nat) (u : Value) : Obj.mapSeq (·.setIfInBounds j u) { cls := .type "list", data := .seq its.toArray n } = { cls := .type "list", data := .seq (its.set j u).toArray n } := by
  simp [Obj.mapSeq]
theorem Inv.lst {pins : List (Addr × Obj)} {σ : St} {H : Hp} {s : Shared} {p : Addr} {xs : List V} (I : Inv X pins σ H s) (h : H p = some (.lst xs)) :
    ∃ (its : List Value) (n : Nat), Vals xs its ∧ s.heap.get? p = some { cls := .type "list", data := .seq its.toArray n } ∧ xs.length ≤ sizeLine := by
  obtain ⟨z, its, n, r, e⟩ := I.hok p _ h
  exact ⟨its, n, r, e, z⟩
theorem Inv.lstUpd {pins : List (Addr × Obj)} {σ : St} {H : Hp} {s : Shared} {p : Addr} {xs ys : List V} {its its' : List Value} {n n' : Nat} {f : Obj → Obj} (I : Inv X pins σ H s) (h : H p = some (.lst xs))
    (ho : s.heap.get? p = some { cls := .type "list", data := .seq its.toArray n }) (hf : f { cls := .type "list", data := .seq its.toArray n } = { cls := .type "list", data := .seq its'.toArray n' }) (r : Vals ys its') (hz : ys.length ≤ sizeLine) (t : Nat) :
    Inv X pins σ (upd H p (.lst ys)) { s with heap := s.heap.update p f, toks := t } := by
  have e : (s.heap.update p f).get? p = some { cls := .type "list", data := .seq its'.toArray n' } := by
    rw [Heap.get?_update_self f ho (by rw [hf] <;> rfl), hf]
  refine I.write (x := p) (e := p) (by rw [h]; trivial) (.inl rfl) (fun b u hb q => (Heap.get?_update_other _ _ (Ne.symm hb)).trans q) ⟨_, e⟩ ?_
  exact ⟨hz, its', n', r, e⟩
def Fq : V → V → V → Hp → (Hp → Prop) → Prop := fun o i v H Q => ∃ p xs k j, o = .ref p ∧ i = .int k ∧ H p = some (.lst xs) ∧ ixN xs.length k = some j ∧ Q (upd H p (.lst (xs.set j v)))
theorem set_list : GL X Fq := by
  intro pins s σ H o i v ov iv u Q I ro ri rv h
  obtain ⟨p, xs, k, j, rfl, rfl, hp, hj, q⟩ := h
  cases ro
  obtain ⟨t, rfl⟩ := ri
  obtain ⟨its, n, r, ho, hz⟩ := I.lst hp
  obtain ⟨h1, h2, h3, h4⟩ := B3 hj
  have hl := r.length
  have hn := vI
  have I' : Inv X pins σ (upd H p (.lst (xs.set j v))) { s with heap := s.heap.update p (Obj.mapSeq (·.setIfInBounds j u)) } :=
    I.lstUpd hp ho (CK its n j u) (r.set rv j) (by rw [List.length_set]; exact hz) s.toks
  by_cases h0 : 0 ≤ k
  · have hk : k.toNat = j := by
      rw [seqIndex_of h0 h4] at h1
      exact Option.some.inj h1
    exact PySem.W.ki_setAt ho h0 (by omega) (by rw [List.size_toArray, ← hl]; exact h4) (by rw [hk]; exact ⟨_, I', q⟩)
  · have hk : (k + (its.toArray.size : Int)).toNat = j := by
      rw [seqIndex_neg (by omega) h3] at h1
      rw [List.size_toArray, ← hl]
      exact Option.some.inj h1
    exact PySem.W.ki_setBack ho (by omega) (by rw [List.size_toArray, ← hl]; exact h3) (by omega) (by rw [hk]; exact ⟨_, I', q⟩)

theorem AU (lo hi : Option Int) (n : Nat) : (sliceBounds lo hi none n).1 = ((HT.sIx n 0 lo : Nat) : Int) ∧ (sliceBounds lo hi none n).2.1 = ((HT.sIx n n hi : Nat) : Int) ∧ (sliceBounds lo hi none n).2.2 = 1 := by
  refine ⟨?_, ?_, rfl⟩
  · cases lo with
    | none => simp [sliceBounds, HT.sIx]
    | some i =>
      simp only [sliceBounds, HT.sIx, Option.getD_none, show (1 : Int) > 0 by decide, if_true]
      by_cases h : i < 0
      · simp only [h, if_true] <;> omega
      · simp only [h, if_false] <;> omega
  · cases hi with
    | none => simp [sliceBounds, HT.sIx]
    | some i =>
      simp only [sliceBounds, HT.sIx, Option.getD_none, show (1 : Int) > 0 by decide, if_true]
      by_cases h : i < 0
      · simp only [h, if_true] <;> omega
      · simp only [h, if_false] <;> omega
theorem Ar (its : List Value) (lo hi : Option Int) : slicePick its.toArray lo hi none = ((its.drop (HT.sIx its.length 0 lo)).take (HT.sIx its.length its.length hi - HT.sIx its.length 0 lo)).toArray := by
  obtain ⟨h1, h2, h3⟩ := AU lo hi its.toArray.size
  unfold slicePick
  rw [h1, h2, h3]
  simp only [sliceRange_one, pick_run, List.size_toArray] <;> rfl
def Hl (K : PySem.W.Frag) : V → Option Int → Option Int → Hp → VK → Prop := fun x lo hi H Q => ∃ a xs, x = .ref a ∧ SqL K H a xs ∧ ∀ p, H p = none → Q (.ref p) (upd H p (.lst (CJ xs lo hi)))
theorem Hs : SlR X (Hl X.K) := by
  intro pins s σ H x v vl vu lo hi sl Q I rx hs pl pu h
  obtain ⟨a, xs, rfl, hx, q⟩ := h
  cases rx
  obtain ⟨its, r, ht, hz⟩ := I.list hx
  have hlen := r.length
  refine ⟨"list", _, slot_list_getitem.lookup, ht.isList.typeIs, ?_⟩
  refine wpAny_getItem_list_slice ht.isList hs pl pu .none (by simp) ?_ (by rw [List.size_toArray] <;> omega)
  rw [Ar, ← hlen]
  refine ⟨.ref s.heap.objs.size, _, I.laid (t' := s.toks) (o := .lst (CJ xs lo hi)) (fun b ob q => Heap.get?_push_of_some _ q) (Nat.le_refl _) ?_, rfl, q _ (I.hok.fresh (Nat.le_refl _))⟩
  exact ⟨Nat.le_trans (BD xs lo hi) hz, _, 0, (r.drop (HT.sIx xs.length 0 lo)).take (HT.sIx xs.length xs.length hi - HT.sIx xs.length 0 lo), Heap.get?_push_size _ rfl⟩

def vD : V → Bool
  | .non => true
  | .bl _ => true
  | .int _ => true
  | .str _ => true
  | _ => false
def eqV : V → V → Bool
  | .non, .non => true
  | .bl a, .bl b => a == b
  | .bl a, .int b => (if a then 1 else 0) == b
  | .int a, .bl b => a == (if b then 1 else 0)
  | .int a, .int b => a == b
  | .str a, .str b => a == b
  | _, _ => false
theorem wY {A : Around} {s : Shared} {y x : V} {u v : Value} (ry : RelV y u) (rx : RelV x v) (fy : vD y = true) (fx : vD x = true) : SeqAt.EqAt A s u v (eqV y x) := by
  cases y with
  | non =>
    cases ry
    cases x with
    | non => cases rx; exact SeqAt.EqAt.same _
    | bl b => cases rx; exact SeqAt.EqAt.none_bool b
    | int b => obtain ⟨t, rfl⟩ := rx; exact SeqAt.EqAt.none_int b t
    | str b => obtain ⟨t, rfl⟩ := rx; exact SeqAt.EqAt.none_str b t
    | _ => exact absurd (show false = true from fx) Bool.false_ne_true
  | bl a =>
    cases ry
    cases x with
    | non => cases rx; exact SeqAt.EqAt.bool_none a
    | bl b => cases rx; exact SeqAt.EqAt.bool_bool a b
    | int b => obtain ⟨t, rfl⟩ := rx; exact SeqAt.EqAt.bool_int a b t
    | str b => obtain ⟨t, rfl⟩ := rx; exact SeqAt.EqAt.bool_str a b t
    | _ => exact absurd (show false = true from fx) Bool.false_ne_true
  | int a =>
    obtain ⟨t', rfl⟩ := ry
    cases x with
    | non => cases rx; exact SeqAt.EqAt.int_none a t'
    | bl b => cases rx; exact SeqAt.EqAt.int_bool a t' b
    | int b => obtain ⟨t, rfl⟩ := rx; exact SeqAt.EqAt.int_int a t' b t
    | str b => obtain ⟨t, rfl⟩ := rx; exact SeqAt.EqAt.int_str a t' b t
    | _ => exact absurd (show false = true from fx) Bool.false_ne_true
  | str a =>
    obtain ⟨t', rfl⟩ := ry
    cases x with
    | non => cases rx; exact SeqAt.EqAt.str_none a t'
    | bl b => cases rx; exact SeqAt.EqAt.str_bool a t' b
    | int b => obtain ⟨t, rfl⟩ := rx; exact SeqAt.EqAt.str_int a t' b t
    | str b => obtain ⟨t, rfl⟩ := rx; exact SeqAt.EqAt.str_str a t' b t
    | _ => exact absurd (show false = true from fx) Bool.false_ne_true
  | _ => exact absurd (show false = true from fy) Bool.false_ne_true
def eqU (x : V) (u : Value) : Bool := match u with
  | .none => eqV .non x
  | .bool b => eqV (.bl b) x
  | .int i _ => eqV (.int i) x
  | .str z _ => eqV (.str z) x
  | _ => false
theorem DQ {x y : V} {u : Value} (r : RelV y u) (f : vD y = true) : eqU x u = eqV y x := by
  cases y with
  | non => cases r; rfl
  | bl b => cases r; rfl
  | int i => obtain ⟨t, rfl⟩ := r; rfl
  | str z => obtain ⟨t, rfl⟩ := r; rfl
  | _ => exact absurd (show false = true from f) Bool.false_ne_true
theorem xg {x : V} : ∀ {xs : List V} {us : List Value}, Vals xs us → xs.all vD = true → us.any (eqU x) = xs.any fun y => eqV y x
  | _, _, .nil, _ => rfl
  | y :: xs, u :: us, .cons r t, f => by
    rw [List.all_cons, Bool.and_eq_true] at f
    rw [List.any_cons, List.any_cons, DQ r f.1, xg t f.2]
theorem wC {A : Around} {s : Shared} {x : V} {v : Value} (rx : RelV x v) (fx : vD x = true) : ∀ {xs : List V} {us : List Value}, Vals xs us → xs.all vD = true → ∀ u ∈ us, SeqAt.EqAt A s u v (eqU x u)
  | _, _, .nil, _ => fun u hu => by cases hu
  | y :: xs, u :: us, .cons r t, f => fun u' hu => by
    rw [List.all_cons, Bool.and_eq_true] at f
    rcases List.mem_cons.mp hu with rfl | hu
    · rw [DQ r f.1]; exact wY r rx f.1 fx
    · exact wC rx fx t f.2 u' hu
def inV (x : V) (xs : List V) : Bool := xs.any fun y => eqV y x
def rIn (K : PySem.W.Frag) (neg : Bool) : R2 := fun x y H Q => ∃ p xs, y = .ref p ∧ (SqL K H p xs ∨ SqT K H p xs) ∧ vD x = true ∧ xs.all vD = true ∧ Q (.bl (if neg then !inV x xs else inV x xs)) H
theorem vW : OpR X (compareOp .In) (rIn X.K false) := by
  intro pins s σ H x y v u Q I rx ry h
  obtain ⟨p, xs, rfl, hq, fx, fs, q⟩ := h
  cases ry
  rcases hq with hq | hq
  · obtain ⟨its, r, pl, hz⟩ := I.list hq
    refine SeqAt.in_listAt (eqU x) pl.isList (fun w hw => wC rx fx r fs w (by simpa using hw)) ⟨.bl _, H, I, rfl, ?_⟩
    rw [show its.toArray.any (eqU x) = its.any (eqU x) by simp, xg r fs]
    exact q
  · obtain ⟨its, r, pl, hz⟩ := I.tuple hq
    refine SeqAt.in_tupleAt (eqU x) pl (fun w hw => wC rx fx r fs w (by simpa using hw)) ⟨.bl _, H, I, rfl, ?_⟩
    rw [show its.toArray.any (eqU x) = its.any (eqU x) by simp, xg r fs]
    exact q
theorem yg : OpR X (compareOp .NotIn) (rIn X.K true) := by
  intro pins s σ H x y v u Q I rx ry h
  obtain ⟨p, xs, rfl, hq, fx, fs, q⟩ := h
  cases ry
  rcases hq with hq | hq
  · obtain ⟨its, r, pl, hz⟩ := I.list hq
    refine SeqAt.notIn_listAt (eqU x) pl.isList (fun w hw => wC rx fx r fs w (by simpa using hw)) ⟨.bl _, H, I, rfl, ?_⟩
    rw [show its.toArray.any (eqU x) = its.any (eqU x) by simp, xg r fs]
    exact q
  · obtain ⟨its, r, pl, hz⟩ := I.tuple hq
    refine SeqAt.notIn_tupleAt (eqU x) pl (fun w hw => wC rx fx r fs w (by simpa using hw)) ⟨.bl _, H, I, rfl, ?_⟩
    rw [show its.toArray.any (eqU x) = its.any (eqU x) by simp, xg r fs]
    exact q
theorem tO : uS X (.builtin "len") (fun xs H Q => ∃ p ys, xs = [.ref p] ∧ (SqL X.K H p ys ∨ SqT X.K H p ys) ∧ Q (.int ys.length) H) := by
  intro pins s σ H xs us Q I r h
  obtain ⟨p, ys, rfl, hq, q⟩ := h
  obtain ⟨u, rfl, rx⟩ := vals1 r
  cases rx
  have hn := vI
  rcases hq with hq | hq
  · obtain ⟨its, r', pl, hz⟩ := I.list hq
    have hlen := r'.length
    exact Calls.call_len_list pl.isList (by simp only [List.size_toArray] <;> omega) ⟨.int ys.length, H, I.tok _, ⟨s.toks + 1, by rw [List.size_toArray, hlen]⟩, q⟩
  · obtain ⟨its, r', pl, hz⟩ := I.tuple hq
    have hlen := r'.length
    exact len_tuple pl (by simp only [List.size_toArray] <;> omega) ⟨.int ys.length, H, I.tok _, ⟨s.toks + 1, by rw [List.size_toArray, hlen]⟩, q⟩
theorem AK : uS X (.builtin "len") (fun xs H Q => ∃ z, xs = [.str z] ∧ z.length ≤ sizeLine ∧ Q (.int z.length) H) := by
  intro pins s σ H xs us Q I r h
  obtain ⟨z, rfl, hz, q⟩ := h
  obtain ⟨u, rfl, t, rfl⟩ := vals1 r
  have hn := vI
  exact len_str (by omega) ⟨.int z.length, H, I.tok _, ⟨_, rfl⟩, q⟩
theorem A8 : uS X (.type "list") (fun xs H Q => ∃ p ys, xs = [.ref p] ∧ (SqL X.K H p ys ∨ SqT X.K H p ys) ∧ ∀ l, H l = none → Q (.ref l) (upd H l (.lst ys))) := by
  intro pins s σ H xs us Q I r h
  obtain ⟨p, ys, rfl, hq, q⟩ := h
  obtain ⟨u, rfl, rx⟩ := vals1 r
  cases rx
  have fin : ∀ (its : List Value), Vals ys its → ys.length ≤ sizeLine → ∀ (h' : Heap) (c' : Nat), (∀ b o', s.heap.get? b = some o' → h'.get? b = some o') →
      h'.get? s.heap.objs.size = some { cls := .type "list", dict := none, data := .seq its.toArray c', slots := #[] } → EP X pins σ Q (.ref s.heap.objs.size) { s with heap := h' } := fun its r' hz h' c' kp e =>
    ⟨.ref s.heap.objs.size, _, I.laid (t' := s.toks) kp (Nat.le_refl _) (show ObjOk X.prog X.w _ h' _ (.lst ys) from ⟨hz, its, c', r', e⟩), rfl, q _ (I.hok.fresh (Nat.le_refl _))⟩
  rcases hq with hq | hq
  · obtain ⟨its, r', pl, hz⟩ := I.list hq
    have hlen := r'.length
    obtain ⟨o, ho, hc, n, hd⟩ := pl.isList
    exact call_list_seq p (.inl rfl) ho hc hd (fun h' c' kp e => fin its r' hz h' c' kp e) (by simp only [List.size_toArray] <;> omega)
  · obtain ⟨its, r', pl, hz⟩ := I.tuple hq
    have hlen := r'.length
    obtain ⟨o, ho, hc, n, hd⟩ := pl
    exact call_list_seq p (.inr rfl) ho hc hd (fun h' c' kp e => fin its r' hz h' c' kp e) (by simp only [List.size_toArray] <;> omega)
theorem Ax : uS X (.type "tuple") (fun xs H Q => ∃ p ys, xs = [.ref p] ∧ ((SqL X.K H p ys ∧ ∀ l, H l = none → Q (.ref l) (upd H l (.tup ys))) ∨ (SqT X.K H p ys ∧ Q (.ref p) H))) := by
  intro pins s σ H xs us Q I r h
  obtain ⟨p, ys, rfl, h⟩ := h
  obtain ⟨u, rfl, rx⟩ := vals1 r
  cases rx
  rcases h with ⟨hq, q⟩ | ⟨hq, q⟩
  · obtain ⟨its, r', pl, hz⟩ := I.list hq
    have hlen := r'.length
    refine call_tuple_list pl.isList (fun h' kp => ?_) (by simp only [List.size_toArray] <;> omega)
    have I1 : Inv X pins σ H { s with heap := h' } := I.kept (t' := s.toks) kp
    have I2 : Inv X pins σ (upd H h'.objs.size (.tup ys)) { s with heap := h'.push { cls := .type "tuple", data := .seq its.toArray } } :=
      I1.laid (t' := s.toks) (fun b o e => Heap.get?_push_of_some _ e) (Nat.le_refl _) (show ObjOk X.prog X.w _ _ _ (.tup ys) from ⟨hz, its, r', IsTup.new _ _, _, Heap.get?_push_size _ rfl, rfl⟩)
    exact ⟨.ref h'.objs.size, _, I2, rfl, q _ (I1.hok.fresh (Nat.le_refl _))⟩
  · obtain ⟨its, r', pl, hz⟩ := I.tuple hq
    exact call_tuple_same pl ⟨.ref p, H, I, rfl, q⟩

def tyV (K : PySem.W.Frag) (T : String) (x : V) (H : Hp) : Prop := match x with
  | .str _ => T = "str"
  | .int _ => T = "int"
  | .ref p => (T = "list" ∧ ∃ xs, SqL K H p xs) ∨ (T = "tuple" ∧ ∃ o, K.lookup p = some o ∧ o.cls = .type "tuple" ∧ o.dict = none) ∨
      (T = "dict" ∧ ((∃ kvs, H p = some (.dK kvs)) ∨ ∃ kvs, H p = some (.dT kvs))) ∨ (T = "set" ∧ ∃ S n, H p = some (.set S n))
  | _ => False
theorem GP {pins : List (Addr × Obj)} {σ : St} {H : Hp} {s : Shared} {T : String} {x : V} {v : Value} (I : Inv X pins σ H s) (r : RelV x v) (ty : tyV X.K T x H) :
    s.TypeIs v T ∧ ∀ a, v = .ref a → ∃ ob, s.heap.get? a = some ob ∧ ob.dict = none := by
  cases x with
  | str z =>
    obtain ⟨t, rfl⟩ := r
    cases (show T = "str" from ty)
    exact ⟨typeIs_str s z t, fun _ e => nomatch e⟩
  | int i =>
    obtain ⟨t, rfl⟩ := r
    cases (show T = "int" from ty)
    exact ⟨typeIs_int s i t, fun _ e => nomatch e⟩
  | ref p =>
    cases r
    rcases ty with ⟨rfl, xs, hq⟩ | ⟨rfl, o, hk, hc, hd⟩ | ⟨rfl, hk⟩ | ⟨rfl, S, n, hk⟩
    · obtain ⟨its, _, pl, _⟩ := I.list hq
      refine ⟨pl.isList.typeIs, fun a e => ?_⟩
      cases e
      obtain ⟨o, n, e, c, hd, _⟩ := pl
      exact ⟨o, e, hd⟩
    · refine ⟨⟨o, I.kIn p o hk, hc⟩, fun a e => ?_⟩
      cases e
      exact ⟨o, I.kIn _ o hk, hd⟩
    · have z : ∃ o, s.heap.get? p = some o ∧ o.ExactDict := by
        rcases hk with ⟨kvs, hk⟩ | ⟨kvs, hk⟩
        · obtain ⟨_, _, _, _, o, _, _, e, ex, _⟩ := I.hok p _ hk
          exact ⟨o, e, ex⟩
        · obtain ⟨_, _, _, _, o, _, _, e, ex, _⟩ := I.hok p _ hk
          exact ⟨o, e, ex⟩
      obtain ⟨o, e, ex⟩ := z
      refine ⟨⟨o, e, ex.1⟩, fun a e2 => ?_⟩
      cases e2
      exact ⟨o, e, ex.2.1⟩
    · obtain ⟨o, _, _, _, e, ex, _⟩ := I.hok p _ hk
      refine ⟨⟨o, e, ex.1⟩, fun a e2 => ?_⟩
      cases e2
      exact ⟨o, e, ex.2.1⟩
  | _ => exact False.elim ty
def tBM (K : PySem.W.Frag) (T : String) (r : V → List V → Hp → VK → Prop) (to : TE) (t : TA) : TE := fun σ H Q => to σ H fun x H1 => tyV K T x H1 ∧ t σ H1 fun xs H2 => r x xs H2 Q
variable {o e : Expr} {es : List Expr} {to : TE} {t : TA} {name : Str} {apos cpos : Pos} {T id : String} {r : V → List V → Hp → VK → Prop}
theorem AC (pa : PlainAttrs T) (slot : Slot T name id) (hty : typeOf (.builtin id) = pure (.type "method_descriptor")) (hm : MtR X id r) (ho : PE X o to) (ha : PA X (e :: es) t)
    (hbase : attributeBase o name X.env (eval o X.env) = eval o X.env := by rfl)
    (hfew : ((backTo cpos (starEach (e :: es) X.env)).all (fun x => !x.1) && (backToKw cpos (keywordEach [] X.env)).all (fun x => x.1.isSome)
      && decide ((e :: es).length + ([] : List Keyword).length + (if ([] : List Keyword).isEmpty then 0 else 1) < 30)) = true := by rfl)
    (hline : (apos.endLine == cpos.line) = true := by rfl) (hs : starEach (e :: es) X.env = (false, eval e X.env) :: starEach es X.env := by rfl) (hplain : (backTo cpos (starEach es X.env)).any (·.1) = false := by rfl) :
    PE X (.Call (.Attribute o name apos) (e :: es) [] cpos) (tBM X.K T r to t) := by
  intro pins s σ H Q I h
  refine wpAny_Call_method_late hbase hfew hline rfl (thn (ho pins s σ H _ I h) fun v s1 ⟨x, H1, I1, r1, ty, q1⟩ => ?_)
  obtain ⟨h1, h2⟩ := GP I1 r1 ty
  refine ⟨T, id, pa, slot, hty, h1, h2, ?_⟩
  have hA := ha cpos pins s1 σ H1 _ I1 q1
  rw [hs] at hA ⊢
  refine Calls.callWith_builtin (by show (false || (backTo cpos (starEach es X.env)).any (·.1)) = false; rw [hplain] <;> rfl) (Calls.evalArgs_plain ?_)
  exact thn hA fun us s2 ⟨vs, H2, I2, r2, q2⟩ => hm pins s2 σ H2 x vs v us Q I2 r1 r2 q2
end
end L2

namespace L2
open PySem PySem.Spec PyProof.Rows

def MtM (X : Cx) (id : String) (r : V → List V → Hp → VK → Prop) : Prop :=
  ∀ (pins : List (Addr × Obj)) (s : Shared) (σ : St) (H : Hp) (x : V) (xs : List V) (v : Value) (us : List Value) (Q : VK), Inv X pins σ H s → RelV x v → Vals xs us → r x xs H Q →
    wpAny (model X.prog X.w) X.A (call (.builtin id) (v :: us)) (EP X pins σ Q) X.xe s

theorem Vals.one : ∀ {x : V} {us : List Value}, Vals [x] us → ∃ u, us = [u] ∧ RelV x u
  | _, _, .cons r .nil => ⟨_, rfl, r⟩
theorem Vals.zero : ∀ {us : List Value}, Vals [] us → us = []
  | _, .nil => rfl
section
variable {X : Cx} {pins : List (Addr × Obj)} {σ : St} {H : Hp} {s : Shared} {l b : Addr} {xs ys zs : List V}

theorem Inv.lset {its its' : List Value} {n : Nat} {f : Array Value → Array Value} {t' : Nat} (I : Inv X pins σ H s) (hH : H l = some (.lst xs))
    (e : s.heap.get? l = some { cls := .type "list", data := .seq its.toArray n }) (hf : f its.toArray = its'.toArray) (hv : Vals ys its') (hz : ys.length ≤ sizeLine) :
    Inv X pins σ (upd H l (.lst ys)) { s with heap := s.heap.update l (Obj.mapSeq f), toks := t' } := by
  have q := PySem.IsL.update e f
  rw [hf] at q
  refine I.write (x := l) (e := l) (by rw [hH]; exact trivial) (.inl rfl) (fun b' u hb hu => (Heap.get?_update_other s.heap (Obj.mapSeq f) (Ne.symm hb)).trans hu) ⟨_, q⟩ ?_
  exact ⟨hz, its', _, hv, q⟩
theorem Inv.lnew {its : List Value} {t' : Nat} (I : Inv X pins σ H s) (hv : Vals ys its) (hz : ys.length ≤ sizeLine) :
    Inv X pins σ (upd H s.heap.objs.size (.lst ys)) { s with heap := s.heap.push { cls := .type "list", data := .seq its.toArray }, toks := t' } :=
  I.laid (fun _ _ q => Heap.get?_push_of_some _ q) (Nat.le_refl _) ⟨hz, its, 0, hv, Heap.get?_push_size _ rfl⟩
theorem Inv.fresh (I : Inv X pins σ H s) : H s.heap.objs.size = none := I.hok.fresh (Nat.le_refl _)
theorem Inv.lstM (I : Inv X pins σ H s) (hH : H l = some (.lst xs)) : xs.length ≤ sizeLine ∧ ∃ (its : List Value) (n : Nat), Vals xs its ∧ xs.length = its.length ∧ s.heap.get? l = some { cls := .type "list", data := .seq its.toArray n } := by
  obtain ⟨z, its, n, r, e⟩ := I.hok l _ hH
  exact ⟨z, its, n, r, r.length, e⟩

theorem E5 {n : Nat} (h : n ≤ sizeLine) : Builtin.List.listTooLong n = false := by
  unfold Builtin.List.listTooLong
  exact decide_eq_false (by omega)
end

section
variable {X : Cx}

def Cd : V → List V → Hp → VK → Prop := fun x vs H Q => ∃ l xs y, x = .ref l ∧ vs = [y] ∧ H l = some (.lst xs) ∧ xs.length < sizeLine ∧ Q .non (upd H l (.lst (xs ++ [y])))
theorem wM : MtM X "list.append" Cd := by
  intro pins s σ H x vs v us Q I rx rv h
  obtain ⟨l, xs, y, rfl, rfl, hH, hz, q⟩ := h
  cases rx
  obtain ⟨u, rfl, ru⟩ := rv.one
  obtain ⟨z, its, n, r, hl, e⟩ := I.lstM hH
  refine call_meets F.slot_list_append ⟨_, e, rfl⟩ F.entry_list_append (F.args_list_append_2 _ _) (PySem.list_append l its.toArray n u (by rw [List.size_toArray]; omega)) ⟨e, ?_⟩
  refine ⟨.non, _, I.lset (its' := its ++ [u]) hH e (by simp) (r.append (.cons ru .nil)) ?_, rfl, q⟩
  rw [List.length_append, List.length_singleton]
  omega

def FT : V → List V → Hp → VK → Prop := fun x vs H Q => ∃ l b xs zs, x = .ref l ∧ vs = [.ref b] ∧ H l = some (.lst xs) ∧ H b = some (.lst zs) ∧ xs.length + zs.length ≤ sizeLine ∧ Q .non (upd H l (.lst (xs ++ zs)))
theorem Hi : MtM X "list.extend" FT := by
  intro pins s σ H x vs v us Q I rx rv h
  obtain ⟨l, b, xs, zs, rfl, rfl, hH, hB, hz, q⟩ := h
  cases rx
  obtain ⟨u, rfl, ru⟩ := rv.one
  cases ru
  obtain ⟨z, its, n, r, hl, e⟩ := I.lstM hH
  obtain ⟨z2, its2, n2, r2, hl2, e2⟩ := I.lstM hB
  have hsz : its.toArray.size + its2.toArray.size ≤ sizeLine := by rw [List.size_toArray, List.size_toArray]; omega
  have hlong : ¬ (!its.toArray.isEmpty && Builtin.List.listTooLong (its.toArray.size + its2.toArray.size)) = true := by
    rw [E5 hsz, Bool.and_false]
    exact Bool.false_ne_true
  refine call_meets F.slot_list_extend ⟨_, e, rfl⟩ F.entry_list_extend (F.args_list_extend_2 _ _)
    (AutoSeq1.list_extend_list_list_0 l its.toArray n b its2.toArray n2 hlong (by rw [List.size_toArray]; omega) (by omega)) ⟨e, e2, ?_⟩
  refine ⟨.non, _, I.lset (its' := its ++ its2) hH e (by simp) (r.append r2) ?_, rfl, q⟩
  rw [List.length_append]
  omega

def Hq : R2 := fun x y H Q => ∃ l b xs zs, x = .ref l ∧ y = .ref b ∧ H l = some (.lst xs) ∧ H b = some (.lst zs) ∧ xs.length + zs.length ≤ sizeLine ∧ ∀ p, H p = none → Q (.ref p) (upd H p (.lst (xs ++ zs)))
theorem GY : OpR X (binaryOp .Add) Hq := by
  intro pins s σ H x y v u Q I rx ry h
  obtain ⟨l, b, xs, zs, rfl, rfl, hH, hB, hz, q⟩ := h
  cases rx
  cases ry
  obtain ⟨z, its, n, r, hl, e⟩ := I.lstM hH
  obtain ⟨z2, its2, n2, r2, hl2, e2⟩ := I.lstM hB
  refine PySem.P.add_list e e2 ?_ (by rw [List.size_toArray, List.size_toArray]; omega)
  have ea : its.toArray ++ its2.toArray = (its ++ its2).toArray := by simp
  rw [ea]
  exact ⟨.ref _, _, I.lnew (t' := s.toks) (r.append r2) (by rw [List.length_append]; omega), rfl, q _ I.fresh⟩
end

section
variable {prog : Program} {w : World} {A : Around} {E : Value → Shared → Prop} {s : Shared}
end

section
variable {X : Cx}
end
end L2

namespace Att
open PySem PySem.W PySem.Calls PyProof.Rows

theorem zC {P : Params} {h : Heap} : ∀ (ns : List Int) (vs : List Value), WellAll P h vs (ns.map WData.int) → IntsAre vs ns := by
  intro ns
  induction ns with
  | nil =>
    intro vs w
    rw [List.map_nil] at w
    cases w
    exact .nil
  | cons n ns ih =>
    intro vs w
    rw [List.map_cons] at w
    cases w with
    | cons a b =>
      cases a
      exact .cons _ _ (ih _ b)

theorem Eu {l : OpenLaw} {n : Nat} (hn : l.most = some n) {P : Params} {h : Heap} {args : List WData} {vals : List Value}
    (hpre : l.row.toRowW.claim.pre args = true) (hwl : WellAll P h vals args) :
    ∃ a vs ns, vals = [Value.ref a] ∧ args = [WData.list (ns.map WData.int)] ∧ h.get? a = some { cls := .type "list", data := .seq vs.toArray } ∧ IntsAre vs ns ∧ ns.length ≤ n := by
  have hsh : WShape.hasAll [] args [.list .int] = true := (pre_splitW hpre).1
  have hc : l.pre.holds [] { args := args } = true := (pre_splitW hpre).2
  obtain ⟨d, r, rfl, h1, h2⟩ := hasAllW_cons hsh
  obtain rfl := hasAllW_nil h2
  obtain ⟨xs, rfl, h3⟩ := hasW_list h1
  obtain ⟨ns, rfl⟩ := items_int h3
  have hlen : ns.length ≤ n := by
    unfold OpenLaw.pre at hc
    have h4 : (WTm.not (.lt (.lit (.int (n : Int))) (.len (.arg 0)))).holds [] { args := [.list (ns.map .int)] } = true := by
      have h4 := (holds_andW hc).1
      rw [hn] at h4
      exact h4
    have h5 := condW_of h4 (w_not (w_lt w_lit (w_len_list (w_arg rfl))))
    rw [List.length_map] at h5
    refine Nat.le_of_not_lt fun q => ?_
    have q' : (n : Int) < ((ns.length : Nat) : Int) := by omega
    first
      | (rw [decide_eq_true q'] at h5; exact absurd h5 (by decide))
      | (simp at h5; omega)
  cases hwl with
  | cons w1 w2 =>
    cases w2
    cases w1 with
    | list ho hall => exact ⟨_, _, ns, rfl, rfl, ho, zC ns _ hall, hlen⟩

theorem Ei (l : OpenLaw) (args : List WData) : l.row.toRowW.claim.post args (.bool true) args = true :=
  postW_of (r := l.row.toRowW) (X := (true == true))
    (show WShape.has [] (.bool true) .bool = true by first | rfl | decide | simp [WShape.has, WShape.arms, WShape.armsAll])
    (show (WTm.eq .res (.lit (.bool true))).value [] { args := args, res := some (.bool true), after := args } = some (.bool (true == true)) from w_eq_bool (w_res rfl) w_lit) rfl

theorem attach_call {l : OpenLaw} {n : Nat} {q : Program} {loose : List Str} {XP : (Str → Option Value) → Heap → Prop} {YP : World → Heap → Prop} {d : DefRec}
    (hn : l.most = some n) (hdf : d.params.defaults = [])
    (call : ∀ (w : World) (s₀ s₁ : Shared) (mg mb : Str → Option Value) (fa : Addr) (o : Obj) (pm cd doc : Value) (a : Addr) (vs : List Value) (ns : List Int),
      Ground q loose [] XP w s₀ mg mb s₁.heap → YP w s₁.heap →
      s₁.heap.get? fa = some o → o.data = .func (docDef d.name d.params d.body d.scope pm cd doc) → s₁.heap.CodeRec cd d.name → mg d.name = some (.ref fa) →
      s₁.heap.get? a = some { cls := .type "list", data := .seq vs.toArray } → IntsAre vs ns → ns.length ≤ n → s₁.gens = #[] →
      codeAny (model l.prog w) callerA (.call (.ref fa) ⟨[.ref a], []⟩) (fun r s' => r = .ok (.ret (.bool true)) ∧ OldK s₁.heap s'.heap ∧ s'.os = s₁.os ∧ AllBare s'.gens) s₁) :
    WalkO q loose XP YP l.row.toRowW d [] (fun f vs => PySem.call f vs) := by
  intro w s₀ s₁ mg mb G Y fa o pm cd doc dV kV ho hd hcd hD hmg hg args vals as hpre hlay hrd hwl hlo
  obtain rfl : dV = .none := Dflts.none hD hdf
  obtain rfl : kV = .none := Dflts.noKw hD
  obtain ⟨a, vs, ns, rfl, rfl, hobj, hints, hlen⟩ := Eu hn hpre hwl
  refine enter_call (codeAny_mono (call w s₀ s₁ mg mb fa o pm cd doc a vs ns G Y ho (fd_plain hd) hcd hmg hobj hints hlen hg) fun r s' hq => ?_)
  obtain ⟨rfl, h2, h3, h4⟩ := hq
  exact ⟨.inl ⟨.bool true, .bool true, [], rfl, fun _ => rfl, .bool true, Ei l _, fun _ => ⟨List.Pairwise.nil, fun _ hm => (nomatch hm)⟩⟩, h2, h3, h4⟩

section
variable {prog : Program} {w : World} {A : Around} {E : Value → Shared → Prop} {s : Shared} {K : Frag}

end
end Att

namespace L2
open PySem PySem.Spec PyProof.Rows

theorem yp : ∀ {vs : List Value} {ns : List Int}, IntsAre vs ns → Vals (ns.map V.int) vs
  | _, _, .nil => .nil
  | _, _, .cons n t h => .cons ⟨t, rfl⟩ (yp h)

def EU (H : Hp) : Prop := ∀ b, H b = none ∨ ∃ o xs, H b = some (.frz o (.lst xs))

theorem ES {P : Program} {w : World} {K : PySem.W.Frag} {mg mb : Str → Option Value} {CX : CXT} {k : Nat} {fa a : Addr} {fd : FuncData} {x : Str} {sp : Sp} {s₁ : Shared} {vs : List Value} {ns : List Int}
    (KX : K.In s₁.heap) (hns : s₁.heap.Ns mainGlobals mg) (hb : s₁.heap.Ns builtinsNs mb) (hbb : ∀ x : Str, x ≠ "__name__" → mb x = bootBuiltins x) (hlim : s₁.heap.NoLimit) (hg : s₁.gens = #[])
    (ha : s₁.heap.get? a = some { cls := .type "list", data := .seq vs.toArray }) (hi : IntsAre vs ns) (hl : ns.length ≤ sizeLine) (hr : Room k callerA)
    (F : ∀ base : Heap, K.In base → base.Ns mainGlobals mg → FnOk P w K mg base CX k fa fd [x] sp) (hbind : ∀ (s : Shared) (u : Value), BindsTo s fd ⟨[u], []⟩ [(x, u)])
    (hsp : ∀ H : Hp, EU H → SqL K H a (ns.map V.int) → sp [.ref a] H (fun v _ => v = .bl true) fun _ _ _ => False)
    (hCX : ∀ H e s', CX [] H s₁ (fun _ _ _ => False) e s' → False) :
    codeAny (model P w) callerA (.call (.ref fa) ⟨[.ref a], []⟩) (fun r s' => r = .ok (.ret (.bool true)) ∧ OldK s₁.heap s'.heap ∧ s'.os = s₁.os ∧ AllBare s'.gens) s₁ := by
  have rv := yp hi
  have lenV := hi.length
  -- from an abstract heap in which nothing but the script may be tracked
  have core : ∀ H : Hp, EU H → SqL K H a (ns.map V.int) → HOk P w H s₁.heap → (∀ b, H b ≠ none → b = a) → (H a ≠ none → K.lookup a = none) →
      codeAny (model P w) callerA (.call (.ref fa) ⟨[.ref a], []⟩) (fun r s' => r = .ok (.ret (.bool true)) ∧ OldK s₁.heap s'.heap ∧ s'.os = s₁.os ∧ AllBare s'.gens) s₁ := by
    intro H hO hS hok hA hK
    have base_of : ∀ {b : Addr} {o : Obj}, s₁.heap.get? b = some o → H b = none → (xU s₁.heap H).get? b = some o := fun e n => ET e n
    have noA : ∀ {b : Addr} {o : Obj} {es : Array DictEntry} {ep : Nat}, s₁.heap.get? b = some o → o.data = .dict es ep → H b = none := fun {b o es ep} e d => by
      cases q : H b with
      | none => rfl
      | some u =>
        have e' : b = a := hA b (by rw [q]; simp)
        subst e'
        rw [ha] at e; cases e
        have d' : Data.seq vs.toArray _ = Data.dict es ep := d
        cases d'
    have nsK : ∀ {b : Addr} {m : Str → Option Value}, s₁.heap.Ns b m → (xU s₁.heap H).Ns b m := fun {b m} ⟨o, es, ep, e, d, r⟩ => ⟨o, es, ep, base_of e (noA e d), d, r⟩
    have hKb : K.In (xU s₁.heap H) := fun b o e => base_of (KX b o e) (by
      cases q : H b with
      | none => rfl
      | some u =>
        have e' : b = a := hA b (by rw [q]; simp)
        subst e'
        rw [hK (by rw [q]; simp)] at e; cases e)
    have hM : Mod K mg (xU s₁.heap H) := ⟨hKb, nsK hns, ⟨mb, nsK hb, hbb⟩, let ⟨mc, h1, h2⟩ := hlim; ⟨mc, nsK h1, h2⟩⟩
    have e0 : Env0 P w K mg (xU s₁.heap H) callerA [] s₁ H := ⟨rfl, hM, fun b o e => FI e, Nat.le_of_eq (Eb _ _), trivial, fun b hb => absurd (show b ∈ ([] : List Addr) from hb) (by simp), hok, .of_eq hg⟩
    refine codeAny_mono ((F _ hKb (nsK hns)).run callerA [] s₁ H ⟨[.ref a], []⟩ [.ref a] [.ref a] _ _ hr e0 (hbind s₁ (.ref a)) (.cons rfl .nil) (hsp H hO hS)) fun r s' h => ?_
    cases r with
    | error e => exact (hCX H e s' h).elim
    | ok fl =>
      cases fl with
      | next => exact False.elim h
      | brk => exact False.elim h
      | cont => exact False.elim h
      | ret u =>
        obtain ⟨v, H', os, bare, un, hok', r', q⟩ := h
        have q' : v = .bl true := q
        subst q'
        obtain rfl : u = Value.bool true := r'
        refine ⟨rfl, OldK.of_keep fun b o e => ?_, os, bare⟩
        cases q : H b with
        | none => exact un.keep b o e q (by intro z; exact absurd (show b ∈ ([] : List Addr) from z) (by simp)) (by simp)
        | some u =>
          rcases hO b with z | ⟨ob, xs, z⟩
          · rw [q] at z; cases z
          · have z2 := un.frzs b ob _ z
            obtain ⟨e1, _⟩ := hok b _ z
            obtain ⟨e2, _⟩ := hok' b _ z2
            rw [e] at e1; cases e1
            exact e2
  cases hk : K.lookup a with
  | some o =>
    -- the script is one of the module's own objects
    have e := KX a o hk
    rw [ha] at e
    cases e
    refine core (fun _ => none) (fun _ => .inl rfl) (.inr ⟨_, vs.toArray, _, hk, rfl, rfl, rfl, by rw [List.size_toArray, lenV]; exact hl, by simpa using rv⟩) (fun b u z => by have z' : (none : Option HO) = some u := z; cases z') (fun b z => absurd rfl z) fun z => absurd rfl z
  | none =>
    refine core (fun b => if b = a then some (.frz { cls := .type "list", data := .seq vs.toArray } (.lst (ns.map V.int))) else none) (fun b => ?_) (.inl (.inr ⟨{ cls := .type "list", data := .seq vs.toArray }, if_pos rfl⟩)) (fun b u z => ?_) (fun b z => ?_) fun _ => hk
    · by_cases hb : b = a
      · exact .inr ⟨_, _, if_pos hb⟩
      · exact .inl (if_neg hb)
    · by_cases hb : b = a
      · have z' := (if_pos hb).symm.trans z
        cases z'
        subst hb
        exact ⟨ha, by rw [List.length_map]; exact hl, vs, _, rv, ha⟩
      · have z' := (if_neg hb).symm.trans z
        cases z'
    · by_cases hb : b = a
      · exact hb
      · exact absurd (if_neg hb) z
end L2

namespace L2
open PySem PySem.Spec PyProof.Rows

theorem walk_of {l : PySem.W.OpenLaw} {n k : Nat} {q : Program} {loose : List Str} {XP : (Str → Option Value) → Heap → Prop} {YP : World → Heap → Prop} {d : DefRec} {K : Params → PySem.W.Frag} {CX : World → CXT} {sp : World → Sp} {x : Str}
    (hn : l.most = some n) (hn2 : n ≤ sizeLine) (hdf : d.params.defaults = []) (hr : Room k callerA)
    (hY : ∀ (w : World) (h : Heap), YP w h → (K w.params).In h)
    (F : ∀ (w : World) (mg : Str → Option Value) (fa : Addr) (h : Heap), (K w.params).In h → h.Ns mainGlobals mg → mg d.name = some (.ref fa) →
      ∃ fd : FuncData, (∀ (s : Shared) (u : Value), BindsTo s fd ⟨[u], []⟩ [(x, u)]) ∧
        ∀ base : Heap, (K w.params).In base → base.Ns mainGlobals mg → FnOk l.prog w (K w.params) mg base (CX w) k fa fd [x] (sp w))
    (hsp : ∀ (w : World) (H : Hp) (a : Addr) (ns : List Int), ns.length ≤ n → EU H → SqL (K w.params) H a (ns.map V.int) → sp w [.ref a] H (fun v _ => v = .bl true) fun _ _ _ => False)
    (hCX : ∀ (w : World) (H : Hp) (s : Shared) (e : Value) (s' : Shared), CX w [] H s (fun _ _ _ => False) e s' → False) :
    PySem.W.WalkO q loose XP YP l.row.toRowW d [] (fun f vs => PySem.call f vs) := by
  refine Att.attach_call hn hdf fun w s₀ s₁ mg mb fa o pm cd doc a vs ns G Y ho hd hcd hmg hobj hints hlen hg => ?_
  have KX := hY w _ Y
  obtain ⟨fd, hb, hF⟩ := F w mg fa _ KX G.T.g hmg
  exact ES KX G.T.g G.T.b G.T.builtins G.T.nolimit hg hobj hints (Nat.le_trans hlen hn2) hr hF hb (fun H hO hS => hsp w H a ns hlen hO hS) fun H e s' => hCX w H s₁ e s'
end L2


namespace L2
open PySem PySem.Spec PyProof.Rows

def defArgs (s : Stmt) : Arguments := match s with
  | .FunctionDef _ a _ _ _ _ _ _ _ _ => a
  | _ => { posonlyargs := [], args := [], vararg := none, kwonlyargs := [], kw_defaults := [], kwarg := none, defaults := [] }
def defBody (s : Stmt) : List Stmt := match s with
  | .FunctionDef _ _ b _ _ _ _ _ _ _ => b
  | _ => []
def defScope (s : Stmt) : Scope := match s with
  | .FunctionDef _ _ _ _ _ _ sc _ _ _ => sc
  | _ => { kind := .function, names := [], isGenerator := false, isCoroutine := false }

abbrev CX0 : CXT := fun _ _ _ _ _ _ => False
abbrev E0 : XK := fun _ _ _ => False
theorem Di {X : Cx} : xx CX0 X E0 := fun _ _ _ _ _ _ _ h => h.elim

structure Fun (K : PySem.W.Frag) (x qual : Str) (st : Stmt) (f : Addr) (fd : FuncData) : Prop where
  ex : ∃ (oc : Value) (od : Option Addr) (kV doc pm : Value) (an : Option Addr) (cdv ct : Value) (osl : Array (Option Value)),
    fd = PySem.W.fnOf x qual (defArgs st) (defBody st) (defScope st) .none kV doc pm an cdv ct ∧ K.lookup f = some ⟨oc, od, .func fd, osl⟩ ∧ PySem.W.codeIn K cdv qual = true
  kp : PySem.W.keepIn K (.ref f) = true
section
variable {P : Program} {w : World} {K : PySem.W.Frag} {mg : Str → Option Value} {base : Heap}
theorem Fun.ok {x qual : Str} {st : Stmt} {f : Addr} {fd : FuncData} {N ps : List Str} {k : Nat} {sp : Sp} (F : Fun K x qual st f fd) (S : FnScope N ps (defScope st)) (len : ∀ vs H Q E, sp vs H Q E → vs.length = ps.length)
    (hbody : ∀ (cdv : Value) (A : Around) (outer : List Env) (s : Shared) (H : Hp) (vs : List V) (Q : VK) (E : XK), Room k (A.deeper (envOfC qual (defScope st) s.heap.objs.size f cdv)) → sp vs H Q E →
      ∃ t, PSs (zb CX0 P w K mg base N qual (defScope st) f cdv A outer s H E).nox (defBody st) t ∧ t { nx := fun _ H' => Q .non H', rt := Q } (start N vs) H) : FnOk P w K mg base CX0 (k + 1) f fd ps sp := by
  obtain ⟨oc, od, kV, doc, pm, an, cdv, ct, osl, rfl, lk, hcd⟩ := F.ex
  refine Hf lk hcd S len fun A outer s H vs Q E hr hsp => ?_
  obtain ⟨t, h, q⟩ := hbody cdv A outer s H vs Q E hr hsp
  exact ⟨t, h.nox, q⟩
theorem Fun.binds {x qual : Str} {st : Stmt} {f : Addr} {fd : FuncData} {ps : List Str} (F : Fun K x qual st f fd)
    (h : ∀ (kV doc pm : Value) (an : Option Addr) (cdv ct : Value) (us : List Value), us.length = ps.length → bindArgs (PySem.W.fnOf x qual (defArgs st) (defBody st) (defScope st) .none kV doc pm an cdv ct) ⟨us, []⟩ = pure (ps.zip us)) : Binds K fd ps [] := by
  obtain ⟨oc, od, kV, doc, pm, an, cdv, ct, osl, rfl, lk, hcd⟩ := F.ex
  exact .all (h kV doc pm an cdv ct)
theorem tR {x qual : Str} {st : Stmt} {f : Addr} {oc : Value} {od an : Option Addr} {osl : Array (Option Value)} {kV doc pm cdv ct : Value} (l : K.lookup f = some ⟨oc, od, .func (PySem.W.fnOf x qual (defArgs st) (defBody st) (defScope st) .none kV doc pm an cdv ct), osl⟩)
    (c : PySem.W.codeIn K cdv qual = true) (k : PySem.W.keepIn K (.ref f) = true) : Fun K x qual st f (PySem.W.fnOf x qual (defArgs st) (defBody st) (defScope st) .none kV doc pm an cdv ct) := ⟨⟨oc, od, kV, doc, pm, an, cdv, ct, osl, rfl, l, c⟩, k⟩
end
theorem Fj {A : Around} {k : Nat} (hr : Room k A) : A.units + 1 < cLine := Nat.lt_of_le_of_lt (Nat.add_le_add_left (by decide : 1 ≤ 64) _) hr.units
section
variable {X : Cx}
theorem pv (i : Nat) {x : Str} {pos : Pos} (hN : X.N[i]? = some x := by rfl) (hv : Vis X.env.scope x := by first | exact Or.inl rfl | exact Or.inr (Or.inl rfl) | exact Or.inr (Or.inr rfl)) (hd : (x == ("__debug__" : Str)) = false := by decide)
    (hcd : (x == ("__classdict__" : Str)) = false := by decide) : PE X (.Name x pos) (yi i) := eu hN hv hd hcd
end

def Same (H H' : Hp) : Prop := ∀ b o, H b = some o → H' b = some o
theorem Same.refl (H : Hp) : Same H H := fun _ _ h => h
theorem Same.trans {H H1 H2 : Hp} (a : Same H H1) (b : Same H1 H2) : Same H H2 := fun c o h => b c o (a c o h)
theorem Same.free {H H' : Hp} (e : Same H H') {l : Addr} (h : H' l = Option.none) : H l = Option.none := by
  cases q : H l with
  | none => rfl
  | some o =>
    rw [e l o q] at h
    cases h
theorem Same.seq {K : PySem.W.Frag} {H H' : Hp} {a : Addr} {xs : List V} (e : Same H H') (h : SqL K H a xs) : SqL K H' a xs := by
  rcases h with (h | ⟨o, h⟩) | h
  · exact .inl (.inl (e _ _ h))
  · exact .inl (.inr ⟨o, e _ _ h⟩)
  · exact .inr h

end L2

set_option Elab.async false
set_option linter.all false
set_option maxRecDepth 100000
namespace L2
open PySem PySem.Spec PyProof.Rows

structure Cal (P : Program) (w : World) (K : PySem.W.Frag) (mg : Str → Option Value) (base : Heap) (CX : CXT) (x : Str) (k : Nat) (ps : List Str) (sp : Sp) : Prop where
  ex : ∃ f fd, FnOk P w K mg base CX k f fd ps sp ∧ Binds K fd ps [] ∧ PySem.W.keepIn K (.ref f) = true ∧ mg x = some (.ref f)

section
variable {X : Cx} {CX : CXT} {x : Str} {j k : Nat} {ps : List Str} {sp : Sp} {E : XK} {p pos : Pos} {e : Expr} {es : List Expr} {t : TA}
theorem Fb (C : Cal X.prog X.w X.K X.mg X.base CX x j ps sp) (hr : Room k X.A) (hg : Gl X x) (hx : xx CX X E) (ha : PA X (e :: es) t) (hj : j ≤ k := by decide) (hdb : (x == ("__debug__" : Str)) = false := by decide)
    (he : starEach (e :: es) X.env = (false, eval e X.env) :: starEach es X.env := by rfl) (hpl : (backTo pos (starEach es X.env)).any (·.1) = false := by rfl) :
    PE X (.Call (.Name x p) (e :: es) [] pos) (zE sp [] E t) := by
  obtain ⟨f, fd, F, b, kp, m⟩ := C.ex
  exact FO F (hr.mono hj) hg m kp b .nil hx ha hdb he hpl
theorem m8 (C : Cal X.prog X.w X.K X.mg X.base CX0 x j ps sp) (hr : Room k X.A) (hg : Gl X x) (ha : PA X (e :: es) t) (hj : j ≤ k := by decide) (hdb : (x == ("__debug__" : Str)) = false := by decide)
    (he : starEach (e :: es) X.env = (false, eval e X.env) :: starEach es X.env := by rfl) (hpl : (backTo pos (starEach es X.env)).any (·.1) = false := by rfl) :
    PE X (.Call (.Name x p) (e :: es) [] pos) (zE sp [] E0 t) := Fb C hr hg Di ha hj hdb he hpl
end

inductive Kn where
  | non | bl | int | str | lst | tup | dct
def tyK (T : String) : Option Kn :=
  if T = "int" then some .int else if T = "bool" then some .bl else if T = "str" then some .str else if T = "list" then some .lst else if T = "tuple" then some .tup else none
theorem FP : tyK "int" = some .int := rfl
theorem Ey : tyK "bool" = some .bl := rfl
theorem FS : tyK "str" = some .str := rfl
theorem EE : tyK "list" = some .lst := rfl
theorem Ec : tyK "tuple" = some .tup := rfl
def uf : Kn → Kn → Bool
  | .int, .int => true
  | .bl, .int => true
  | .bl, .bl => true
  | .str, .str => true
  | .lst, .lst => true
  | .tup, .tup => true
  | _, _ => false
def Gf (a : Addr) : HO := .ext fun h => ∃ o, h.get? a = some o ∧ o.cls = .type "dict"
def Kd (K : PySem.W.Frag) (H : Hp) : V → Kn → Prop
  | .non, k => k = .non
  | .bl _, k => k = .bl
  | .int _, k => k = .int
  | .str _, k => k = .str
  | .ref a, k => (k = .lst ∧ ∃ xs, SqL K H a xs) ∨ (k = .tup ∧ ∃ xs, SqT K H a xs) ∨ (k = .dct ∧ H a = some (Gf a))
  | _, _ => False
def Gg (K : PySem.W.Frag) : List V → Hp → VK → Prop := fun xs H Q => ∃ x T kt k, xs = [x, .ty T] ∧ tyK T = some kt ∧ Kd K H x k ∧ Q (.bl (uf k kt)) H
theorem EF {T : String} {kt : Kn} (h : tyK T = some kt) : (T = "int" ∧ kt = .int) ∨ (T = "bool" ∧ kt = .bl) ∨ (T = "str" ∧ kt = .str) ∨ (T = "list" ∧ kt = .lst) ∨ (T = "tuple" ∧ kt = .tup) := by
  unfold tyK at h
  split at h
  · next e => exact .inl ⟨e, (Option.some.inj h).symm⟩
  split at h
  · next e => exact .inr (.inl ⟨e, (Option.some.inj h).symm⟩)
  split at h
  · next e => exact .inr (.inr (.inl ⟨e, (Option.some.inj h).symm⟩))
  split at h
  · next e => exact .inr (.inr (.inr (.inl ⟨e, (Option.some.inj h).symm⟩)))
  split at h
  · next e => exact .inr (.inr (.inr (.inr ⟨e, (Option.some.inj h).symm⟩)))
  · cases h
section
variable {X : Cx}
theorem uH : uS X (.builtin "isinstance") (Gg X.K) := by
  intro pins s σ H xs us Q I r h
  obtain ⟨x, T, kt, k, rfl, ht, hk, q⟩ := h
  obtain ⟨u, w', rfl, rx, rt⟩ := vals2 r
  obtain rfl : w' = Value.type T := rt
  have f1 : EP X pins σ Q (.bool (uf k kt)) s := ⟨.bl _, H, I, rfl, q⟩
  have f2 : EP X pins σ Q (.bool (uf k kt)) { s with toks := s.toks + 1 } := ⟨.bl _, H, I.tok _, rfl, q⟩
  have hT := EF ht
  clear ht q
  cases x with
  | non =>
    obtain rfl : u = Value.none := rx
    obtain rfl : k = .non := hk
    rcases hT with ⟨rfl, rfl⟩ | ⟨rfl, rfl⟩ | ⟨rfl, rfl⟩ | ⟨rfl, rfl⟩ | ⟨rfl, rfl⟩
    · exact IsiPair.NoneType_int f2
    · exact IsiPair.NoneType_bool f2
    · exact IsiPair.NoneType_str f2
    · exact IsiPair.NoneType_list f2
    · exact IsiPair.NoneType_tuple f2
  | bl b =>
    obtain rfl : u = Value.bool b := rx
    obtain rfl : k = .bl := hk
    rcases hT with ⟨rfl, rfl⟩ | ⟨rfl, rfl⟩ | ⟨rfl, rfl⟩ | ⟨rfl, rfl⟩ | ⟨rfl, rfl⟩
    · first | exact IsiPair.bool_int f1 | exact IsiPair.bool_int f2
    · exact IsiPair.bool_bool f1
    · exact IsiPair.bool_str f2
    · exact IsiPair.bool_list f2
    · exact IsiPair.bool_tuple f2
  | int i =>
    obtain ⟨t, rfl⟩ := rx
    obtain rfl : k = .int := hk
    rcases hT with ⟨rfl, rfl⟩ | ⟨rfl, rfl⟩ | ⟨rfl, rfl⟩ | ⟨rfl, rfl⟩ | ⟨rfl, rfl⟩
    · exact IsiPair.int_int f1
    · exact IsiPair.int_bool f2
    · exact IsiPair.int_str f2
    · exact IsiPair.int_list f2
    · exact IsiPair.int_tuple f2
  | str z =>
    obtain ⟨t, rfl⟩ := rx
    obtain rfl : k = .str := hk
    rcases hT with ⟨rfl, rfl⟩ | ⟨rfl, rfl⟩ | ⟨rfl, rfl⟩ | ⟨rfl, rfl⟩ | ⟨rfl, rfl⟩
    · exact IsiPair.str_int f2
    · exact IsiPair.str_bool f2
    · exact IsiPair.str_str f1
    · exact IsiPair.str_list f2
    · exact IsiPair.str_tuple f2
  | ref a =>
    obtain rfl : u = Value.ref a := rx
    rcases hk with ⟨rfl, xs, hq⟩ | ⟨rfl, xs, hq⟩ | ⟨rfl, hq⟩
    · obtain ⟨its, _, ⟨o, n, e, c, _, _⟩, _⟩ := I.list hq
      rcases hT with ⟨rfl, rfl⟩ | ⟨rfl, rfl⟩ | ⟨rfl, rfl⟩ | ⟨rfl, rfl⟩ | ⟨rfl, rfl⟩
      · exact IsiPair.list_int e c f2
      · exact IsiPair.list_bool e c f2
      · exact IsiPair.list_str e c f2
      · exact IsiPair.list_list e c f1
      · exact IsiPair.list_tuple e c f2
    · obtain ⟨its, _, ⟨o, e, c, _⟩, _⟩ := I.tuple hq
      rcases hT with ⟨rfl, rfl⟩ | ⟨rfl, rfl⟩ | ⟨rfl, rfl⟩ | ⟨rfl, rfl⟩ | ⟨rfl, rfl⟩
      · exact IsiPair.tuple_int e c f2
      · exact IsiPair.tuple_bool e c f2
      · exact IsiPair.tuple_str e c f2
      · exact IsiPair.tuple_list e c f2
      · exact IsiPair.tuple_tuple e c f1
    · obtain ⟨⟨o, e, c⟩, _⟩ := I.hok a _ hq
      rcases hT with ⟨rfl, rfl⟩ | ⟨rfl, rfl⟩ | ⟨rfl, rfl⟩ | ⟨rfl, rfl⟩ | ⟨rfl, rfl⟩
      · exact IsiPair.dict_int e c f2
      · exact IsiPair.dict_bool e c f2
      · exact IsiPair.dict_str e c f2
      · exact IsiPair.dict_list e c f2
      · exact IsiPair.dict_tuple e c f2
  | _ => exact False.elim hk
end

section
variable {X : Cx} {tg : Expr}
end
def E8 (J : It) (g : TG) (tb : TS) (D : Ends) (σ : St) (H : Hp) : Prop := ∃ W : Nat → Nat → St → Hp → Prop, (∃ m, W 0 m σ H) ∧ ∀ i m σ H, W i m σ H →
  (J.stop i H ∧ D.nx σ H) ∨ (J.go i H ∧ ∃ N : St → Hp → Prop, (∀ σ' H', N σ' H' → ∃ m', m' < m ∧ W (i + 1) m' σ' H') ∧ ∀ x H', J.yld i H x H' → g x σ H' fun σ2 H2 => tb { D with nx := N, ct := N, bk := D.nx } σ2 H2)
theorem F0 {wi : TI} {g : TG} {tb : TS} {D : Ends} {σ : St} {H : Hp} : GI wi g tb D σ H = wi σ H fun J H1 => E8 J g tb D σ H1 := rfl
section
variable {K : PySem.W.Frag} {a : Addr} {xs : List V} {g : TG} {tb : TS} {D : Ends} {σ : St} {H : Hp} {lo : Int} {n : Nat}
theorem vM (Pv : Nat → St → Hp → Prop) (h0 : Pv 0 σ H)
    (hs : ∀ i σ H, i < n → Pv i σ H → g (.int (lo + i)) σ H fun σ2 H2 => tb { D with nx := Pv (i + 1), ct := Pv (i + 1), bk := D.nx } σ2 H2) (hd : ∀ σ H, Pv n σ H → D.nx σ H) : E8 (Itr lo n) g tb D σ H := DF Pv h0 hs hd
end

structure Bits (n : Nat) (i : Int) : Prop where
  lt : i.natAbs < 2 ^ n
theorem Bits.mono {m n : Nat} {i : Int} (h : Bits m i) (le : m ≤ n) : Bits n i := ⟨Nat.lt_of_lt_of_le h.lt (Nat.pow_le_pow_right (by decide) le)⟩
theorem Bits.of {n : Nat} {i b : Int} (lo : -b ≤ i) (hi : i ≤ b) (hb : b < ((2 ^ n : Nat) : Int)) : Bits n i := ⟨by omega⟩
theorem Bits.bits {n : Nat} {i : Int} (h : Bits n i) : Builtin.Int.intBits i ≤ n := by
  unfold Builtin.Int.intBits
  split
  · exact Nat.zero_le _
  · have q := h.lt
    rcases Nat.eq_zero_or_pos i.natAbs with h0 | hp
    · rw [h0] at q ⊢
      have : (0 : Nat).log2 = 0 := by decide
      rename_i hz
      exact absurd (by simp; omega) hz
    · have := (Nat.log2_lt (Nat.ne_of_gt hp)).mpr q
      omega
def CMulB (i j : Int) : Prop := Bits 100000 i ∧ Bits 100000 j
theorem CMulB.ok {i j : Int} (h : CMulB i j) : IntMulOk i j := IntMulOk.of_bits (Nat.le_trans h.1.bits (by decide)) (Nat.le_trans h.2.bits (by decide))
def CDivB (_ j : Int) : Prop := 0 < j ∧ Bits 8999 j
theorem CDivB.ok {i j : Int} (h : CDivB i j) : Builtin.divisionGoesByPylong i j = false := by
  refine PyProof.noPylong_of_log2 ?_
  have q := h.2.lt
  have := (Nat.log2_lt (n := j.natAbs) (k := 8999) (by have := h.1; omega)).mpr q
  omega
section
variable {X : Cx}
theorem uP : OpR X (binaryOp .Mult) (rI CMulB fun i j => .int (i * j)) := opI fun _ _ _ _ _ _ _ hc q => mul_int q hc.ok
theorem uZ : OpR X (binaryOp .FloorDiv) (rI CDivB fun i j => .int (i / j)) := opI fun i j _ _ _ _ _ hc q => by
  have h1 : (0 : Int) < j := hc.1
  exact floordiv_int (by omega) (by rw [Int.fdiv_eq_ediv_of_nonneg i (by omega)]; exact q) (.inl hc.ok)
def Fi (t : TA) (ti : TE) : TE := fun σ H Q => t σ H fun xs H1 => xs.length ≤ sizeLine ∧ ti σ H1 fun y H2 => ∃ i v, y = .int i ∧ 0 ≤ i ∧ xs[i.toNat]? = some v ∧ Q v H2
end
section
variable {X : Cx} {es : List Expr} {b : Expr} {t : TA} {ti : TE} {pos p2 : Pos}
theorem wg (h : PA X es t) (hb : PE X b ti) (hs : Cn b) : PE X (.Subscript (.List es p2) b pos) (Fi t ti) := by
  intro pins s σ H Q I hq
  refine Subscript_ (wpAny_List_spliced (thn (h p2 pins s σ H _ I hq) fun us s1 ⟨xs, H1, I1, r, z, q⟩ => ⟨by rw [← r.length]; exact z, ?_⟩))
  have hf : H1 s1.heap.objs.size = none := I1.hok.fresh (Nat.le_refl _)
  have I2 : Inv X (pins ++ [(s1.heap.objs.size, { cls := .type "list", data := .seq us.toArray })]) σ H1 { s1 with heap := s1.heap.push { cls := .type "list", data := .seq us.toArray } } := by
    have J : Inv X pins σ H1 { s1 with heap := s1.heap.push { cls := .type "list", data := .seq us.toArray } } := I1.kept (t' := s1.toks) fun b u e => Heap.get?_push_of_some _ e
    refine J.pins_of fun p hp => ?_
    rcases List.mem_append.mp hp with hp | hp
    · exact J.pin p (List.mem_append_right _ hp)
    · have e := List.mem_singleton.mp hp
      subst e
      exact ⟨Heap.get?_push_size _ rfl, hf, Nat.ne_of_gt I1.lt, I1.nofs (Nat.le_refl _), fun v z => by cases z⟩
  refine thn (hb _ _ σ H1 _ I2 q) fun u s2 ⟨y, H2, I3, ry, i, v, e, h0, ha, q2⟩ => ?_
  subst e
  obtain ⟨t', rfl⟩ := ry
  obtain ⟨hp, _⟩ := I3.pin (s1.heap.objs.size, { cls := .type "list", data := .seq us.toArray }) (List.mem_append_right _ (List.mem_append_right _ (List.mem_singleton.mpr rfl)))
  obtain ⟨w, ew, rw'⟩ := r.get ha
  have I4 : Inv X pins σ H2 s2 := I3.pins_of fun p hp => I3.pin p (List.mem_append_right _ (List.mem_append_left _ hp))
  have hl := r.length
  have hn := vI
  have hi : i.toNat < us.length := (List.getElem?_eq_some_iff.mp ew).1
  have fin : EP X pins σ Q w s2 := ⟨v, H2, I4, rw', q2⟩
  exact item_listR (l := s1.heap.objs.size) ⟨_, hp, rfl, _, rfl⟩ h0 (by omega) (by simpa using ew) fin (hs _ _)
end
theorem Cz : uf .non .bl = false := rfl
theorem BP : uf .non .int = false := rfl
theorem Bs : uf .non .str = false := rfl
theorem Bv : uf .non .lst = false := rfl
theorem Bw : uf .non .tup = false := rfl
theorem Ed : uf .bl .bl = true := rfl
theorem CM : uf .bl .int = true := rfl
theorem Cv : uf .bl .str = false := rfl
theorem C1 : uf .bl .lst = false := rfl
theorem CL : uf .bl .tup = false := rfl
theorem Ds : uf .int .bl = false := rfl
theorem Bh : uf .int .int = true := rfl
theorem Bj : uf .int .str = false := rfl
theorem BJ : uf .int .lst = false := rfl
theorem Bm : uf .int .tup = false := rfl
theorem Dd : uf .str .bl = false := rfl
theorem Bg : uf .str .int = false := rfl
theorem BV : uf .str .str = true := rfl
theorem Bk : uf .str .lst = false := rfl
theorem Bx : uf .str .tup = false := rfl
theorem Dq : uf .lst .bl = false := rfl
theorem BR : uf .lst .int = false := rfl
theorem BF : uf .lst .str = false := rfl
theorem BN : uf .lst .lst = true := rfl
theorem Bo : uf .lst .tup = false := rfl
theorem Dl : uf .tup .bl = false := rfl
theorem Bl : uf .tup .int = false := rfl
theorem BO : uf .tup .str = false := rfl
theorem BU : uf .tup .lst = false := rfl
theorem BG : uf .tup .tup = true := rfl
theorem CP : uf .dct .bl = false := rfl
theorem BW : uf .dct .int = false := rfl
theorem BC : uf .dct .str = false := rfl
theorem Bq : uf .dct .lst = false := rfl
theorem BK : uf .dct .tup = false := rfl
theorem Gy {K : PySem.W.Frag} {H : Hp} {k : Kn} : Kd K H .non k = (k = .non) := rfl
theorem G7 {K : PySem.W.Frag} {H : Hp} {k : Kn} {b : Bool} : Kd K H (.bl b) k = (k = .bl) := rfl
theorem Gm {K : PySem.W.Frag} {H : Hp} {k : Kn} {i : Int} : Kd K H (.int i) k = (k = .int) := rfl
theorem G0 {K : PySem.W.Frag} {H : Hp} {k : Kn} {z : Str} : Kd K H (.str z) k = (k = .str) := rfl
theorem Kd.tup {K : PySem.W.Frag} {H : Hp} {a : Addr} {xs : List V} (h : SqT K H a xs) : Kd K H (.ref a) .tup := .inr (.inl ⟨rfl, xs, h⟩)
theorem Kd.lst {K : PySem.W.Frag} {H : Hp} {a : Addr} {xs : List V} (h : SqL K H a xs) : Kd K H (.ref a) .lst := .inl ⟨rfl, xs, h⟩
theorem Kd.dct {K : PySem.W.Frag} {H : Hp} {a : Addr} (h : H a = some (Gf a)) : Kd K H (.ref a) .dct := .inr (.inr ⟨rfl, h⟩)
theorem Kd.ref {K : PySem.W.Frag} {H : Hp} {a : Addr} {k : Kn} (h : Kd K H (.ref a) k) : k ≠ .int ∧ k ≠ .bl ∧ k ≠ .str ∧ k ≠ .non := by
  rcases h with ⟨rfl, _⟩ | ⟨rfl, _⟩ | ⟨rfl, _⟩ <;> exact ⟨(by intro z; cases z), (by intro z; cases z), (by intro z; cases z), (by intro z; cases z)⟩
theorem Cs : vz .non .non = true := rfl
theorem C6 {x2 : Int} : vz .non (.int x2) = true := rfl
theorem CF {x1 : Int} : vz (.int x1) .non = true := rfl
theorem Er {x2 : Bool} : vz .non (.bl x2) = true := rfl
theorem D4 {x1 : Bool} : vz (.bl x1) .non = true := rfl
theorem CA {x2 : Str} : vz .non (.str x2) = true := rfl
theorem CT {x1 : Str} : vz (.str x1) .non = true := rfl
theorem CI {x1 : Int} {x2 : Int} : vz (.int x1) (.int x2) = true := rfl
theorem EK {x1 : Bool} {x2 : Bool} : vz (.bl x1) (.bl x2) = true := rfl
theorem C3 {x1 : Str} {x2 : Str} : vz (.str x1) (.str x2) = true := rfl
theorem CN {x1 : Int} {x2 : Str} : vz (.int x1) (.str x2) = true := rfl
theorem CU {x1 : Str} {x2 : Int} : vz (.str x1) (.int x2) = true := rfl
theorem DJ {x1 : Bool} {x2 : Str} : vz (.bl x1) (.str x2) = true := rfl
theorem DU {x1 : Str} {x2 : Bool} : vz (.str x1) (.bl x2) = true := rfl
theorem cxK {CX : CXT} {P : Program} {w : World} {K : PySem.W.Frag} {mg : Str → Option Value} {base : Heap} {N : List Str} {qual : Str} {scope : Scope} {f : Addr} {cd : Value} {A : Around} {outer : List Env} {s : Shared} {H : Hp} {E : XK} :
    (zb CX P w K mg base N qual scope f cd A outer s H E).K = K := rfl
theorem uo : bootBuiltins "len" = some (.builtin "len") := by decide +kernel
theorem AD : bootBuiltins "max" = some (.builtin "max") := by decide +kernel
theorem G4 : bootBuiltins "min" = some (.builtin "min") := by decide +kernel
theorem uc : bootBuiltins "isinstance" = some (.builtin "isinstance") := by decide +kernel
theorem AG : bootBuiltins "int" = some (.type "int") := by decide +kernel
theorem yq : bootBuiltins "bool" = some (.type "bool") := by decide +kernel
theorem Fy : bootBuiltins "str" = some (.type "str") := by decide +kernel
theorem zq : bootBuiltins "list" = some (.type "list") := by decide +kernel
theorem vS : bootBuiltins "tuple" = some (.type "tuple") := by decide +kernel
theorem G6 : bootBuiltins "all" = some (.builtin "all") := by decide +kernel
theorem G5 : bootBuiltins "set" = some (.type "set") := by decide +kernel
structure Mg (mg : Str → Option Value) : Prop where
  m_len : mg "len" = none
  m_range : mg "range" = none
  m_abs : mg "abs" = none
  m_max : mg "max" = none
  m_min : mg "min" = none
  m_isinstance : mg "isinstance" = none
  m_int : mg "int" = none
  m_bool : mg "bool" = none
  m_str : mg "str" = none
  m_list : mg "list" = none
  m_tuple : mg "tuple" = none
  m_sum : mg "sum" = none
  m_all : mg "all" = none
  m_enumerate : mg "enumerate" = none
  m_zip : mg "zip" = none
  m_ValueError : mg "ValueError" = none
  m_any : mg "any" = none
  m_set : mg "set" = none
  m_sorted : mg "sorted" = none
end L2

set_option Elab.async false
set_option linter.all false
set_option maxRecDepth 100000
set_option maxHeartbeats 1000000
namespace L2
open PySem PySem.Spec PyProof.Rows
section
variable {prog : Program} {w : World} {A : Around} {R : Result → Shared → Prop} {s : Shared}
theorem yO {elt target iter : Expr} {ifs : List Expr} {scope : Scope} {pos : Pos} {it acc : Value} {env : Env} (I : Nat → Shared → Prop)
    (turn : ∀ n s, I n s → wpAny (model prog w) A (pyNext it) (fun r s₁ => match r with
      | none => R (.ok .next) s₁
      | some v => wpAny (model prog w) A (letOwnedTupleGo target it v) (fun _ s₁' => wpAny (model prog w) A (assign target env v) (fun _ s₂ =>
          wpAny (model prog w) A (forIn ifs true fun c r => if r = true then do let ok ← isTrue c env (eval c env); pure (ForInStep.yield ok) else pure (ForInStep.yield r)) (fun ok s₃ =>
            if ok = true then wpAny (model prog w) A (eval elt env) (fun x s₄ =>
              wpAny (model prog w) A (call (.builtin "list.append") [acc, x]) (fun _ s₅ => ∃ m, m < n ∧ I m s₅) (fun _ _ => False) s₄) (fun _ _ => False) s₃
            else ∃ m, m < n ∧ I m s₃) (fun _ _ => False) s₂) (fun _ _ => False) s₁') (fun _ _ => False) s₁) (fun _ _ => False) s)
    (n : Nat) (h : I n s) :
    codeAny (model prog w) A (.compLoop (.ListComp elt [⟨target, iter, ifs, 0⟩] scope pos) 0 it acc env) R s := by
  refine codeAny_loop rfl I (fun n s hI => ?_) n h
  show wpAny _ A ((compTurn (.ListComp elt [⟨target, iter, ifs, 0⟩] scope pos) 0 it acc env).onRaise (fun x => do noteFrame x env; theTreesLotGoes x)) _ _ s
  refine wpAny_noted ?_
  rw [compTurn_list]
  refine wpAny_bind (wpAny_standAt (wpAny_bind (wpAny_mono (turn n s hI) (fun r s₁ h₁ => ?_) fun _ _ h' => h'.elim)))
  cases r with
  | none => exact wpAny_pure h₁
  | some v =>
    refine wpAny_bind (wpAny_mono h₁ (fun _ s₁' h₁' => wpAny_bind (wpAny_mono h₁' (fun _ s₂ h₂ => wpAny_bind (wpAny_mono h₂ (fun ok s₃ h₃ => ?_) fun _ _ h' => h'.elim)) fun _ _ h' => h'.elim)) fun _ _ h' => h'.elim)
    cases ok with
    | false => exact wpAny_pure ⟨rfl, h₃⟩
    | true =>
      exact wpAny_bind (wpAny_bind (wpAny_mono h₃ (fun x s₄ h₄ => wpAny_bind (wpAny_mono h₄ (fun _ s₅ h₅ => wpAny_pure (wpAny_pure ⟨rfl, h₅⟩)) fun _ _ h' => h'.elim)) fun _ _ h' => h'.elim))
end

def blk (X : Cx) (scope : Scope) (cl : List (Str × Addr)) (N' : List Str) (s₀ : Shared) (H₀ : Hp) (C : Addr) (pn : List (Addr × Obj)) (ex : List Addr) : Cx where
  prog := X.prog
  w := X.w
  K := X.K
  mg := X.mg
  base := X.base
  A := X.A
  N := N'
  s₀ := s₀
  H₀ := H₀
  env := compEnvC scope cl C X.env
  outer := X.stack
  stack := X.stack
  ex := ex
  fn := fun _ => false
  calm := X.calm
  pn := pn
  xe := fun _ _ => False
def xH (X : Cx) (ifs : List Expr) (t : TT) : Prop :=
  ∀ (pins : List (Addr × Obj)) (s : Shared) (σ : St) (H : Hp) (Q : Bool → Hp → Prop), Inv X pins σ H s → t σ H Q →
    wpAny (model X.prog X.w) X.A (forIn ifs true fun c r => if r = true then do let ok ← isTrue c X.env (eval c X.env); pure (ForInStep.yield ok) else pure (ForInStep.yield r)) (TP X pins σ Q) X.xe s
def GV : TT := fun _ H Q => Q true H
theorem xj {X : Cx} : xH X [] GV := fun _ _ _ H _ I h => wpAny_tests_nil ⟨H, I, h⟩
theorem wo {X : Cx} {c : Expr} {t : TT} (h : PT X c t) : xH X [c] t := fun pins s σ H Q I q => wpAny_tests_one (h pins s σ H Q I q)
def slots (ix : List Nat) (σ : St) : St := ix.map fun j => (σ[j]?).getD none
def yr (D : Addr) (J : It) (g : TG) (tt : TT) (te : TE) (Q : VK) (W : Nat → Nat → St → Hp → Prop) : Prop :=
  ∀ i m τ H2, W i m τ H2 → (J.stop i H2 ∧ Q (.ref D) H2) ∨ (J.go i H2 ∧ ∀ x H3, J.yld i H2 x H3 → g x τ H3 fun τ' H3' => tt τ' H3' fun b H4 =>
    if b = true then te τ' H4 fun v H5 => ∃ ys, H5 D = some (.lst ys) ∧ ys.length < sizeLine ∧ ∃ m', m' < m ∧ W (i + 1) m' τ' (upd H5 D (.lst (ys ++ [v]))) else ∃ m', m' < m ∧ W (i + 1) m' τ' H4)
def AB (ix : List Nat) (nl : Nat) (wi : TI) (g : TG) (tt : TT) (te : TE) : TE := fun σ H Q => wi σ H fun J H1 => ∀ D, H1 D = none →
  ∃ W : Nat → Nat → St → Hp → Prop, (∃ m, W 0 m (slots ix σ ++ List.replicate nl none) (upd H1 D (.lst []))) ∧ yr D J g tt te Q W

structure CompOk (X : Cx) (scope : Scope) (cl : List (Str × Addr)) (N' : List Str) (ix : List Nat) (nl : Nat) : Prop where
  clos : closureFor scope X.env = pure cl
  sub : ∀ y c, cl.lookup y = some c → X.env.cells.lookup y = some c
  has : ∀ p ∈ (relabel scope X.env).names, (p.2 = .cell ∨ p.2 = .free) → (cl.lookup p.1).isSome = true
  cell : ∀ y ∈ scope.names, y.2 ≠ .cell
  kind : scope.kind = .function
  names : ∀ y ∈ scope.names, y.2 = .local → scope.names.lookup y.1 = some .local
  len : N'.length = ix.length + nl
  out : ∀ (i j : Nat) (y : Str), ix[i]? = some j → N'[i]? = some y → X.N[j]? = some y ∧ (X.env.kindOf y = some .cell ∨ X.env.kindOf y = some .free) ∧ ((relabel scope X.env).names.lookup y = some .cell ∨ (relabel scope X.env).names.lookup y = some .free)

theorem fm0 {α : Type} {P : α → Prop} : ∀ p ∈ ([] : List α), P p := fun _ h => nomatch h
theorem fm1 {α : Type} {P : α → Prop} {a : α} {l : List α} (h : P a) (r : ∀ p ∈ l, P p) : ∀ p ∈ a :: l, P p := List.forall_mem_cons.mpr ⟨h, r⟩
def OutsOk (X : Cx) (scope : Scope) : List Nat → List Str → Prop
  | [], _ => True
  | j :: r, y :: t => (X.N[j]? = some y ∧ (X.env.kindOf y = some .cell ∨ X.env.kindOf y = some .free) ∧ ((relabel scope X.env).names.lookup y = some .cell ∨ (relabel scope X.env).names.lookup y = some .free)) ∧ OutsOk X scope r t
  | _ :: _, [] => False
theorem OutsOk.at {X : Cx} {scope : Scope} : ∀ {ix : List Nat} {N : List Str}, OutsOk X scope ix N → ∀ (i j : Nat) (y : Str), ix[i]? = some j → N[i]? = some y → X.N[j]? = some y ∧ (X.env.kindOf y = some .cell ∨ X.env.kindOf y = some .free) ∧ ((relabel scope X.env).names.lookup y = some .cell ∨ (relabel scope X.env).names.lookup y = some .free)
  | [], _, _, i, j, y, h1, _ => by simp at h1
  | _ :: _, [], h, _, _, _, _, _ => h.elim
  | _ :: _, _ :: _, h, 0, j, y, h1, h2 => by
    simp at h1 h2
    subst h1 h2
    exact h.1
  | _ :: _, _ :: _, h, i + 1, j, y, h1, h2 => OutsOk.at h.2 i j y (by simpa using h1) (by simpa using h2)
theorem CompOk.make {X : Cx} {scope : Scope} {cl : List (Str × Addr)} {N' : List Str} {ix : List Nat} {nl : Nat} (clos : closureFor scope X.env = pure cl) (sub : ∀ p ∈ cl, X.env.cells.lookup p.1 = some p.2)
    (has : ((relabel scope X.env).names.all fun p => !(p.2 == .cell || p.2 == .free) || (cl.lookup p.1).isSome) = true) (cell : ∀ y ∈ scope.names, y.2 ≠ .cell) (kind : scope.kind = .function)
    (names : ∀ y ∈ scope.names, y.2 = .local → scope.names.lookup y.1 = some .local) (len : N'.length = ix.length + nl) (out : OutsOk X scope ix N') : CompOk X scope cl N' ix nl :=
  ⟨clos, fun y c h => sub (y, c) (PySem.mem_of_lookup h), fun p hp hc => by
    have q := List.all_eq_true.mp has p hp
    rcases hc with e | e <;> (rw [e] at q; simpa using q), cell, kind, names, len, out.at⟩

section
variable {X : Cx} {pins : List (Addr × Obj)} {σ : St} {H : Hp} {s : Shared}
theorem DE {scope : Scope} {cl : List (Str × Addr)} {N' : List Str} {ix : List Nat} {nl : Nat} {C : Addr} {fp : List Addr} (O : CompOk X scope cl N' ix nl) (I : Inv X pins σ H s) (hC : s.heap.objs.size ≤ C) (f : ∀ b ∈ fp, FpOk X pins H b) (lt : ∀ b ∈ fp, b < s.heap.objs.size) :
    (blk X scope cl N' s H C (X.pn ++ pins) fp).Ok where
  mod := I.ok.mod
  kind := O.kind
  glob := I.ok.glob
  blt := I.ok.blt
  above := hC
  inj := fun x y c h1 h2 => I.ok.inj x y c (O.sub x c h1) (O.sub y c h2)
  has := fun x hx => by
    have hx' : (relabel scope X.env).names.lookup x = some .cell ∨ (relabel scope X.env).names.lookup x = some .free := hx
    rcases hx' with h | h
    · exact Option.isSome_iff_exists.mp (O.has _ (PySem.mem_of_lookup h) (.inl rfl))
    · exact Option.isSome_iff_exists.mp (O.has _ (PySem.mem_of_lookup h) (.inr rfl))
  cab := fun x c h => nomatch (show false = true from h)
  hd := I.ok.hd
  frames := I.ok.frames
  stk := .inl rfl
  exf := fun b hb => ⟨Nat.ne_of_lt (Nat.lt_of_lt_of_le (lt b hb) hC), fun x c h => (f b hb).2.2.2.2.1 x c (O.sub x c h)⟩
  bs := I.bs
  bsz := Nat.le_trans I.ok.bsz I.sz
  noex := fun b o e hb => by
    rcases (f b hb).2.2.2.1 with z | z
    · exact I.ok.noex b o e z
    · exact absurd (Nat.lt_of_lt_of_le (Heap.lt_size e) (Nat.le_trans I.ok.bsz z)) (Nat.lt_irrefl _)
  exfs := fun b hb z => by
    rcases List.mem_cons.mp (I.stkSub b z) with e | e
    · exact (f b hb).2.1 e
    · exact (f b hb).2.2.1 e
  funs := I.stack
  frf := I.stkFree

theorem Ga {scope : Scope} {cl : List (Str × Addr)} {N' : List Str} {ix : List Nat} {nl : Nat} {C : Addr} {fp : List Addr} {h' : Heap} {t' : Nat} (O : CompOk X scope cl N' ix nl) (I : Inv X pins σ H s) (hC : s.heap.objs.size ≤ C) (f : ∀ b ∈ fp, FpOk X pins H b) (lt : ∀ b ∈ fp, b < s.heap.objs.size)
    (hn : h'.Ns C fun _ => none) (k : ∀ b o, s.heap.get? b = some o → h'.get? b = some o) :
    Inv (blk X scope cl N' s H C (X.pn ++ pins) fp) [] (slots ix σ ++ List.replicate nl none) H { s with heap := h', toks := t' } := by
  refine ⟨DE O I hC f lt, rfl, I.bare, Un.kept k, ⟨_, hn, fun i x v e1 e2 e3 => ?_⟩, fun x c e => ?_, I.hok.fresh hC, fun x c e => I.freeC x c (O.sub x c e), fun p hp => ?_, I.hok.kept k, ?_⟩
  · have e1 : N'[i]? = some x := e1
    have hi : i < ix.length := by
      by_cases hi : i < ix.length
      · exact hi
      · rw [List.getElem?_append_right (by simpa [slots] using hi)] at e2
        rw [List.getElem?_replicate] at e2
        split at e2 <;> cases e2
    have e2' : (σ[ix[i]]?).getD none = some v := by
      rw [List.getElem?_append_left (by simpa [slots] using hi)] at e2
      simpa [slots, hi] using e2
    have e4 : σ[ix[i]]? = some (some v) := by
      cases q : σ[ix[i]]? with
      | none => rw [q] at e2'; cases e2'
      | some z => rw [q] at e2'; exact congrArg some e2'
    obtain ⟨o1, o2, o3⟩ := O.out i ix[i] x (by simp [hi]) e1
    obtain ⟨m, hm, hl⟩ := I.loc
    have vis : Vis X.env.scope x := by
      rcases o2 with z | z
      · exact .inr (.inl z)
      · exact .inr (.inr z)
    obtain ⟨u, r, l⟩ := hl _ x v o1 e4 vis
    rcases l with ⟨z, _⟩ | ⟨_, c, hc, o, ho, hd⟩
    · rcases o2 with y | y <;> (rw [y] at z; cases z)
    · obtain ⟨c', hc'⟩ := (DE O I hC f lt).has x o3
      have z := O.sub x c' hc'
      rw [hc] at z
      cases z
      exact ⟨u, r, .inr ⟨o3, c, hc', o, k _ _ ho, hd⟩⟩
  · obtain ⟨v, q⟩ := I.cell x c (O.sub x c e)
    exact ⟨v, by obtain ⟨o, ho, hd⟩ := q; exact ⟨o, k _ _ ho, hd⟩⟩
  · have hp' : p ∈ X.pn ++ pins := by
      have z : p ∈ (X.pn ++ pins) ++ [] := hp
      rwa [List.append_nil] at z
    obtain ⟨a1, a2, a3, a4, a5⟩ := I.pin p hp'
    refine ⟨k _ _ a1, a2, Nat.ne_of_lt (Nat.lt_of_lt_of_le (Heap.lt_size a1) hC), fun z => ?_, a5⟩
    rcases List.mem_cons.mp (I.stkSub p.1 z) with e | e
    · exact a3 e
    · exact a4 e
  · show (slots ix σ ++ List.replicate nl none).length = N'.length
    rw [List.length_append, List.length_replicate, O.len]
    simp [slots]

theorem EB {scope : Scope} {cl : List (Str × Addr)} {N' : List Str} {C : Addr} {fp : List Addr} {s' : Shared} {τ : St} {H' : Hp} (I : Inv X pins σ H s) (f : ∀ b ∈ fp, FpOk X pins H b)
    (J : Inv (blk X scope cl N' s H C (X.pn ++ pins) fp) [] τ H' s') : Inv X pins σ H' s' :=
  I.call' J.os J.base J.hok J.bare fun b hb => ⟨(f b hb).2.2.2.1, (f b hb).2.1, (f b hb).2.2.2.2.1, (f b hb).2.2.2.2.2⟩
theorem Inv.letgo {C : Addr} {s' : Shared} {h' : Heap} (J : Inv X pins σ H s') (hsz : X.s₀.heap.objs.size ≤ C) (hL : C ≠ X.env.locals) (hc : ∀ x c, X.env.cells.lookup x = some c → c ≠ C) (hp : ∀ p ∈ X.pn ++ pins, p.1 ≠ C) (hH : H C = none)
    (sb : Heap.SameBut C s'.heap h') : Inv X pins σ H { s' with heap := h' } :=
  J.turned (t' := s'.toks) (it := C) (fun b o hb e => sb.extBut b o hb e) hH hL (.inr hsz) hc hp
theorem E6 {elt iter tg : Expr} {ifs : List Expr} {scope : Scope} {pos : Pos} {cl : List (Str × Addr)} {N' : List Str} {C D it : Addr} {fp : List Addr} {tn : Nat → Heap → Prop} {J : It} {g : TG} {tt : TT} {te : TE} {s₄ : Shared} {W : Nat → Nat → St → Hp → Prop} {Q : VK}
    {τ : St} {H₀ : Hp} {s₃ : Shared} {pn : List (Addr × Obj)} {m0 : Nat} {R : Result → Shared → Prop} (hc : X.calm = true) (T : Turn X.prog X.w X.K tg J fp it tn)
    (f : ∀ H', (∀ b ∈ fp, H' b = none) → ∀ b ∈ fp, FpOk (blk X scope cl N' s₃ H₀ C pn fp) [] H' b)
    (hg : PG (blk X scope cl N' s₃ H₀ C pn fp) tg g) (ht : xH (blk X scope cl N' s₃ H₀ C pn fp) ifs tt) (he : PE (blk X scope cl N' s₃ H₀ C pn fp) elt te)
    (I4 : Inv (blk X scope cl N' s₃ H₀ C pn fp) [] τ H s₄) (st : tn 0 s₄.heap) (fr : ∀ b ∈ fp, H b = none) (w0 : W 0 m0 τ H) (hW : yr D J g tt te Q W)
    (fin : ∀ τ' H' s', Inv (blk X scope cl N' s₃ H₀ C pn fp) [] τ' H' s' → Q (.ref D) H' → R (.ok .next) s') :
    codeAny (model X.prog X.w) X.A (.compLoop (.ListComp elt [⟨tg, iter, ifs, 0⟩] scope pos) 0 (.ref it) (.ref D) (compEnvC scope cl C X.env)) R s₄ := by
  refine yO (fun n s' => ∃ i τ' H', Inv (blk X scope cl N' s₃ H₀ C pn fp) [] τ' H' s' ∧ tn i s'.heap ∧ (∀ b ∈ fp, H' b = none) ∧ W i n τ' H') ?_ m0 ⟨0, τ, H, I4, st, fr, w0⟩
  rintro n s5 ⟨i, τ5, H5, I5, st5, fr5, w5⟩
  rcases hW i n τ5 H5 w5 with ⟨stop, q⟩ | ⟨go, step⟩
  · refine thn (T.done (blk X scope cl N' s₃ H₀ C pn fp) rfl rfl rfl hc i [] s5 τ5 H5 (fun _ _ => False) I5 (f H5 fr5) st5 stop) fun r s6 ⟨hr, I6⟩ => ?_
    subst hr
    exact fin τ5 H5 s6 I6 q
  · refine thn (T.item (blk X scope cl N' s₃ H₀ C pn fp) rfl rfl rfl hc i [] s5 τ5 H5 (fun _ _ => False) I5 (f H5 fr5) st5 go) fun r s6 ⟨u, hr, h6⟩ => ?_
    subst hr
    refine thn h6 fun _ s7 ⟨x, H7, I7, r7, y7, st7, fr7⟩ => ?_
    have I7' := I7.pinned (f H7 fr7) (T.obj _ _ st7)
    have keep : ∀ {τ8 : St} {H8 : Hp} {s8 : Shared}, Inv (blk X scope cl N' s₃ H₀ C pn fp) ([] ++ xw fp s7.heap) τ8 H8 s8 → Inv (blk X scope cl N' s₃ H₀ C pn fp) [] τ8 H8 s8 ∧ tn (i + 1) s8.heap ∧ ∀ b ∈ fp, H8 b = none := fun {τ8 H8 s8} I8 => by
      refine ⟨I8.unpinned, T.keep _ _ _ st7 fun b hb o e => (I8.pin (b, o) (List.mem_append_right _ (List.mem_append_right _ (vp hb e)))).1, fun b hb => ?_⟩
      obtain ⟨o, e, d⟩ := T.obj _ _ st7 b hb
      exact (I8.pin (b, o) (List.mem_append_right _ (List.mem_append_right _ (vp hb e)))).2.1
    refine thn (hg _ s7 τ5 H7 x u _ I7' r7 (step x H7 y7)) fun _ s8 ⟨τ8, H8, I8, q8⟩ => ?_
    refine thn (ht _ s8 τ8 H8 _ I8 q8) fun b s9 ⟨H9, I9, q9⟩ => ?_
    cases b with
    | false =>
      obtain ⟨m', hm, w'⟩ := q9
      obtain ⟨k1, k2, k3⟩ := keep I9
      exact ⟨m', hm, i + 1, τ8, H9, k1, k2, k3, w'⟩
    | true =>
      refine thn (he _ s9 τ8 H9 _ I9 q9) fun y s10 ⟨v, H10, I10, r10, ys, hD, hl, m', hm, w'⟩ => ?_
      refine thn (wM _ s10 τ8 H10 (.ref D) [v] (.ref D) [y] (fun _ H11 => W (i + 1) m' τ8 H11) I10 rfl (.cons r10 .nil) ⟨D, ys, v, rfl, rfl, hD, hl, w'⟩) fun z s11 ⟨_, H11, I11, _, w11⟩ => ?_
      obtain ⟨k1, k2, k3⟩ := keep I11
      exact ⟨m', hm, i + 1, τ8, H11, k1, k2, k3, w11⟩
end

section
variable {X : Cx} {elt iter tg : Expr} {ifs : List Expr} {scope : Scope} {pos : Pos} {cl : List (Str × Addr)} {N' : List Str} {ix : List Nat} {nl : Nat} {wi : TI} {g : TG} {tt : TT} {te : TE}
structure Left (X : Cx) (pins : List (Addr × Obj)) (σ : St) (C : Addr) (H : Hp) (s : Shared) : Prop where
  inv : Inv X pins σ H s
  ns : ∃ m, s.heap.Ns C m
  sz : X.s₀.heap.objs.size ≤ C
  loc : C ≠ X.env.locals
  cel : ∀ x c, X.env.cells.lookup x = some c → c ≠ C
  pin : ∀ p ∈ X.pn ++ pins, p.1 ≠ C
  non : H C = none
theorem AW {pins : List (Addr × Obj)} {σ : St} {H1 : Hp} {s2 : Shared} {Q : VK} {it : Addr} {fp : List Addr} {tn : Nat → Heap → Prop} {J : It} {RR : Value → Addr → Result → Shared → Prop} {E : Value → Shared → Prop}
    (hc : X.calm = true) (O : CompOk X scope cl N' ix nl) (hg : ∀ s₀ H₀ C pn ex, PG (blk X scope cl N' s₀ H₀ C pn ex) tg g) (ht : ∀ s₀ H₀ C pn ex, xH (blk X scope cl N' s₀ H₀ C pn ex) ifs tt)
    (he : ∀ s₀ H₀ C pn ex, PE (blk X scope cl N' s₀ H₀ C pn ex) elt te) (I1 : Inv X pins σ H1 s2) (T : Turn X.prog X.w X.K tg J fp it tn) (st : tn 0 s2.heap) (f1 : ∀ b ∈ fp, FpOk X pins H1 b)
    (q : ∀ D, H1 D = none → ∃ W : Nat → Nat → St → Hp → Prop, (∃ m, W 0 m (slots ix σ ++ List.replicate nl none) (upd H1 D (.lst []))) ∧ yr D J g tt te Q W)
    (fin : ∀ D C H' s', Left X pins σ C H' s' → Q (.ref D) H' → RR (.ref D) C (.ok .next) s') :
    wpAny (model X.prog X.w) X.A (newList []) (fun acc s₃ => wpAny (model X.prog X.w) X.A (newFunctionEnv scope X.env.globals cl [] X.env.qual none .none (some X.env)) (fun cenv s₄ =>
      codeAny (model X.prog X.w) X.A (.compStart (.ListComp elt [⟨tg, iter, ifs, 0⟩] scope pos) 0 (.ref it) acc { cenv with scope := relabel scope X.env }) (RR acc cenv.locals) s₄) E s₃) E s2 := by
  refine wpAny_newObj_type (wpAny_newFunctionEnv O.cell (by intro y hy; simp at hy) (fun h₁ hns₁ hsb₁ => ?_) O.kind)
  have hf : H1 s2.heap.objs.size = none := I1.hok.fresh (Nat.le_refl _)
  obtain ⟨W, ⟨m0, w0⟩, hW⟩ := q s2.heap.objs.size hf
  have lt : ∀ b ∈ fp, b < s2.heap.objs.size := fun b hb => by
    obtain ⟨o, e, _⟩ := T.obj _ _ st b hb
    exact Heap.lt_size e
  have I3 : Inv X pins σ (upd H1 s2.heap.objs.size (.lst [])) { s2 with heap := s2.heap.push { cls := .type "list", data := .seq ([] : List Value).toArray } } :=
    I1.laid (t' := s2.toks) (fun b u e => Heap.get?_push_of_some _ e) (Nat.le_refl _) ⟨Nat.zero_le _, [], 0, .nil, Heap.get?_push_size _ rfl⟩
  have f3 : ∀ b ∈ fp, FpOk X pins (upd H1 s2.heap.objs.size (.lst [])) b := fun b hb => ⟨by rw [tP (Nat.ne_of_lt (lt b hb))]; exact (f1 b hb).1, (f1 b hb).2⟩
  have sz : (s2.heap.push { cls := .type "list", data := .seq ([] : List Value).toArray }).objs.size = s2.heap.objs.size + 1 := Heap.size_push ..
  have lt3 : ∀ b ∈ fp, b < (s2.heap.push { cls := .type "list", data := .seq ([] : List Value).toArray }).objs.size := fun b hb => by rw [sz]; exact Nat.lt_succ_of_lt (lt b hb)
  have k3 : ∀ b o, (s2.heap.push { cls := .type "list", data := .seq ([] : List Value).toArray }).get? b = some o → h₁.get? b = some o := fun b o e => hsb₁.extBut b o (Nat.ne_of_lt (Heap.lt_size e)) (Heap.get?_push_of_some _ e)
  have I4 := Ga (t' := s2.toks + ([] : List (Str × Value)).length) O I3 (Nat.le_refl _) f3 lt3 hns₁ k3
  have st4 : tn 0 h₁ := T.keep _ _ _ st fun b hb o e => k3 b o (Heap.get?_push_of_some _ e)
  have fB : ∀ H', (∀ b ∈ fp, H' b = none) → ∀ b ∈ fp, FpOk (blk X scope cl N' { s2 with heap := s2.heap.push { cls := .type "list", data := .seq ([] : List Value).toArray } } (upd H1 s2.heap.objs.size (.lst [])) (s2.heap.push { cls := .type "list", data := .seq ([] : List Value).toArray }).objs.size (X.pn ++ pins) fp) [] H' b := fun H' hn b hb => by
    refine ⟨hn b hb, Nat.ne_of_lt (lt3 b hb), ?_, .inl hb, fun x c h => (f1 b hb).2.2.2.2.1 x c (O.sub x c h), fun p hp => ?_⟩
    · intro z
      rcases List.mem_cons.mp (I3.stkSub b z) with e | e
      · exact (f1 b hb).2.1 e
      · exact (f1 b hb).2.2.1 e
    · have hp' : p ∈ X.pn ++ pins := by
        have z : p ∈ (X.pn ++ pins) ++ [] := hp
        rwa [List.append_nil] at z
      exact (f1 b hb).2.2.2.2.2 p hp'
  have loop := E6 (pos := pos) (iter := iter) (R := RR (.ref s2.heap.objs.size) (s2.heap.push { cls := .type "list", data := .seq ([] : List Value).toArray }).objs.size) hc T fB (hg _ _ _ _ _) (ht _ _ _ _ _) (he _ _ _ _ _) I4 st4 (fun b hb => (f3 b hb).1) w0 hW (fun τ' H' s' J' qf => by
    obtain ⟨m, hm, _⟩ := J'.loc
    refine fin _ _ H' s' ⟨EB I3 f3 J', ⟨m, hm⟩, I3.sz, Nat.ne_of_gt I3.lt, fun x c e z => ?_, fun p hp z => ?_, J'.free⟩ qf
    · obtain ⟨v, o, ho, _⟩ := I3.cell x c e
      exact absurd (Heap.lt_size ho) (by rw [z]; exact Nat.lt_irrefl _)
    · exact absurd (Heap.lt_size (I3.pin p hp).1) (by rw [z]; exact Nat.lt_irrefl _))
  exact codeAny_compStart_list loop (T.self _ 0 _ _ _ st4 loop)
theorem vt (hc : X.calm = true) (O : CompOk X scope cl N' ix nl) (hi : PI X tg iter wi) (hg : ∀ s₀ H₀ C pn ex, PG (blk X scope cl N' s₀ H₀ C pn ex) tg g) (ht : ∀ s₀ H₀ C pn ex, xH (blk X scope cl N' s₀ H₀ C pn ex) ifs tt)
    (he : ∀ s₀ H₀ C pn ex, PE (blk X scope cl N' s₀ H₀ C pn ex) elt te) (hs : ∀ x, foldedSetIterable iter X.env x = pure x := by intro _; rfl) :
    PE X (.ListComp elt [⟨tg, iter, ifs, 0⟩] scope pos) (AB ix nl wi g tt te) := by
  intro pins s σ H Q I h
  rw [eval_ListComp]
  refine wpAny_comprehension_free (use := none) rfl hs O.clos O.kind O.names (thn (hi pins s σ H _ I h) fun xv s1 h1 => thn h1 fun itv s2 h2 => ?_)
  obtain ⟨it, fp, tn, J, H1, rfl, I1, T, st, f1, q⟩ := h2
  refine AW (RR := fun acc C => compPost (model X.prog X.w) X.A X.xe none (EP X pins σ Q) acc C) hc O hg ht he I1 T st f1 q (fun D C H' s' L qf => ?_)
  obtain ⟨m, hm⟩ := L.ns
  exact ⟨m, hm, fun h' sb => ⟨.ref D, H', L.inv.letgo L.sz L.loc L.cel L.pin L.non sb, rfl, qf⟩⟩
theorem CY {i : Nat} {y : Str} {py spos : Pos} (hN : X.N.Nodup) (hiy : X.N[i]? = some y) (hy : Loc X.env.scope y) (hc : X.calm = true) (O : CompOk X scope cl N' ix nl) (hi : PI X tg iter wi) (hg : ∀ s₀ H₀ C pn ex, PG (blk X scope cl N' s₀ H₀ C pn ex) tg g)
    (ht : ∀ s₀ H₀ C pn ex, xH (blk X scope cl N' s₀ H₀ C pn ex) ifs tt) (he : ∀ s₀ H₀ C pn ex, PE (blk X scope cl N' s₀ H₀ C pn ex) elt te)
    (hsw : swapsWith (.ListComp elt [⟨tg, iter, ifs, 0⟩] scope pos) (some (.Name y py)) spos.line X.env = pure true) (hs : ∀ x, foldedSetIterable iter X.env x = pure x := by intro _; rfl)
    (hf : X.fn y = true ∨ X.env.scope.names.lookup y = some .local := by first | exact .inl rfl | exact .inr rfl | assumption) :
    PS X (.Assign [.Name y py] (.ListComp elt [⟨tg, iter, ifs, 0⟩] scope pos) spos) (C4 (AB ix nl wi g tt te) (zo i)) := by
  intro pins s σ H D0 I h
  rw [exec_Assign_Name_used _ _ _ _ hsw]
  refine wpAny_bind (wpAny_standAt (wpAny_bind ?_))
  show wpAny _ X.A (do let _ ← comprehension (.ListComp elt [⟨tg, iter, ifs, 0⟩] scope pos) scope X.env _ (newList []) false (eval iter X.env) (some (assign (.Name y py) X.env))) _ _ s
  refine wpAny_bind (wpAny_mono (wpAny_comprehension_free (use := some (assign (.Name y py) X.env)) (Q := fun _ s' => SP X pins D0 .next s') rfl hs O.clos O.kind O.names (thn (hi pins s σ H _ I h) fun xv s1 h1 => thn h1 fun itv s2 h2 => ?_)) (fun _ s' hq => wpAny_pure (wpAny_pure hq)) fun _ _ e => e)
  obtain ⟨it, fp, tn, J, H1, rfl, I1, T, st, f1, q⟩ := h2
  refine AW (RR := fun acc C => compPost (model X.prog X.w) X.A X.xe (some (assign (.Name y py) X.env)) (fun _ s' => SP X pins D0 .next s') acc C) hc O hg ht he I1 T st f1 q (fun D C H' s' L qf => ?_)
  obtain ⟨m, hm⟩ := L.ns
  show wpAny _ X.A (assign (.Name y py) X.env (.ref D)) _ _ _
  refine wpAny_assign_Name (Ah L.inv hN hiy hy (v := .ref D) rfl (fun s'' I'' z => ?_) hf)
  obtain ⟨a, sb2, ha⟩ := z
  have ne : C ≠ a := by
    rcases ha with e | e
    · rw [e]; exact L.loc
    · exact fun z => L.cel _ a e z.symm
  refine ⟨m, hm.at' fun o e => sb2.extBut C o ne e, fun h' sb => ⟨_, H', I''.letgo L.sz L.loc L.cel L.pin L.non sb, qf⟩⟩
end
end L2

set_option Elab.async false
set_option linter.all false
set_option maxRecDepth 100000
set_option maxHeartbeats 1000000
namespace L2
open PySem PySem.Spec PyProof.Rows
theorem vH (ns ms : List Int) : (((List.range (min ns.length ms.length)).all fun j => ns.getD j 0 == ms.getD j 0) && ns.length == ms.length) = decide (ns = ms) := by
  by_cases h : ns = ms
  · subst h
    simp
  · rw [decide_eq_false h]
    by_cases hl : ns.length = ms.length
    · have : ∃ j, j < ns.length ∧ ns.getD j 0 ≠ ms.getD j 0 := by
        apply Classical.byContradiction
        intro no
        apply h
        apply List.ext_getElem hl
        intro i h1 h2
        apply Classical.byContradiction
        intro ne
        apply no
        refine ⟨i, h1, ?_⟩
        simpa [List.getD, h1, h2] using ne
      obtain ⟨j, hj, ne⟩ := this
      have : ((List.range (min ns.length ms.length)).all fun j => ns.getD j 0 == ms.getD j 0) = false := by
        rw [List.all_eq_false]
        refine ⟨j, by simp; omega, by simpa using ne⟩
      rw [this]
      rfl
    · have : (ns.length == ms.length) = false := by simpa using hl
      rw [this, Bool.and_false]
def okV : V → Bool
  | .ref _ => true
  | x => vD x
theorem xX {x : V} (h : vD x = true) : eqV x x = true := by
  cases x with
  | non => rfl
  | bl b => simp [eqV]
  | int i => simp [eqV]
  | str z => simp [eqV]
  | byt b => exact absurd (show false = true from h) Bool.false_ne_true
  | flt b => exact absurd (show false = true from h) Bool.false_ne_true
  | ref a => exact absurd (show false = true from h) Bool.false_ne_true
  | ty n => exact absurd (show false = true from h) Bool.false_ne_true
theorem Dw {A : Around} {s : Shared} {x : V} {u v : Value} (ru : RelV x u) (rv : RelV x v) (h : okV x = true) : SeqAt.EqAt A s u v true := by
  cases x with
  | ref a =>
    obtain rfl : u = Value.ref a := ru
    obtain rfl : v = Value.ref a := rv
    exact SeqAt.EqAt.same _
  | non => have := wY (A := A) (s := s) ru rv rfl rfl; rwa [xX rfl] at this
  | bl b => have := wY (A := A) (s := s) ru rv rfl rfl; rwa [xX rfl] at this
  | int i => have := wY (A := A) (s := s) ru rv rfl rfl; rwa [xX rfl] at this
  | str z => have := wY (A := A) (s := s) ru rv rfl rfl; rwa [xX rfl] at this
  | byt b => exact absurd (show false = true from h) Bool.false_ne_true
  | flt b => exact absurd (show false = true from h) Bool.false_ne_true
  | ty n => exact absurd (show false = true from h) Bool.false_ne_true
def Fg (K : PySem.W.Frag) (H : Hp) (a b : Addr) (xs ys : List V) : Prop := (SqL K H a xs ∧ SqL K H b ys) ∨ (SqT K H a xs ∧ SqT K H b ys)
def Gj (K : PySem.W.Frag) (neg : Bool) : R2 := fun x y H Q => ∃ a b, x = .ref a ∧ y = .ref b ∧
  ((∃ xs, Fg K H a b xs xs ∧ xs.all okV = true ∧ Q (.bl (!neg)) H) ∨ (∃ ns ms : List Int, Fg K H a b (ns.map V.int) (ms.map V.int) ∧ Q (.bl (if neg then !decide (ns = ms) else decide (ns = ms))) H))
theorem xh {xs : List V} {its : List Value} (r : Vals xs its) {j : Nat} (h : j < its.length) : ∃ x, xs[j]? = some x ∧ RelV x its[j] := by
  have hl := r.length
  have hj : j < xs.length := by omega
  obtain ⟨u, e, rv⟩ := r.get (i := j) (x := xs[j]) (by simp [hj])
  have e2 : its[j]? = some its[j] := by simp [h]
  rw [e2] at e
  cases e
  exact ⟨xs[j], by simp [hj], rv⟩
theorem xS {A : Around} {s : Shared} {xs : List V} {i1 i2 : List Value} (r1 : Vals xs i1) (r2 : Vals xs i2) (h : xs.all okV = true) : ∀ j (h1 : j < i1.toArray.size) (h2 : j < i2.toArray.size), SeqAt.EqAt A s i1.toArray[j] i2.toArray[j] true := by
  intro j h1 h2
  rw [List.size_toArray] at h1 h2
  obtain ⟨x, e1, v1⟩ := xh r1 h1
  obtain ⟨y, e2, v2⟩ := xh r2 h2
  rw [e1] at e2
  cases e2
  have ok := List.all_eq_true.mp h x (List.mem_of_getElem? e1)
  simpa using Dw (A := A) (s := s) v1 v2 ok
theorem wO {A : Around} {s : Shared} {ns ms : List Int} {i1 i2 : List Value} (r1 : Vals (ns.map V.int) i1) (r2 : Vals (ms.map V.int) i2) : ∀ j (h1 : j < i1.toArray.size) (h2 : j < i2.toArray.size), SeqAt.EqAt A s i1.toArray[j] i2.toArray[j] (ns.getD j 0 == ms.getD j 0) := by
  intro j h1 h2
  rw [List.size_toArray] at h1 h2
  obtain ⟨x, e1, v1⟩ := xh r1 h1
  obtain ⟨y, e2, v2⟩ := xh r2 h2
  have l1 : j < ns.length := by have := r1.length; rw [List.length_map] at this; omega
  have l2 : j < ms.length := by have := r2.length; rw [List.length_map] at this; omega
  rw [List.getElem?_map, List.getElem?_eq_getElem l1] at e1
  rw [List.getElem?_map, List.getElem?_eq_getElem l2] at e2
  cases e1
  cases e2
  have := wY (A := A) (s := s) v1 v2 rfl rfl
  simpa [List.getD, l1, l2, eqV] using this
section
variable {X : Cx}
theorem GT (hu : X.A.units < cLine) : OpR X (compareOp .Eq) (Gj X.K false) := by
  intro pins s σ H x y v u Q I rx ry h
  obtain ⟨a, b, rfl, rfl, h⟩ := h
  obtain rfl : v = Value.ref a := rx
  obtain rfl : u = Value.ref b := ry
  rcases h with ⟨xs, tw, ok, q⟩ | ⟨ns, ms, tw, q⟩
  · have fin : EP X pins σ Q (.bool true) s := ⟨.bl true, H, I, rfl, q⟩
    rcases tw with ⟨h1, h2⟩ | ⟨h1, h2⟩
    · obtain ⟨i1, r1, p1, _⟩ := I.list h1
      obtain ⟨i2, r2, p2, _⟩ := I.list h2
      have e : ((List.range i1.toArray.size).all fun _ => true) = true := by simp
      exact SeqAt.eq_listAt (e := fun _ => true) p1.isList p2.isList (by rw [List.size_toArray, List.size_toArray, ← r1.length, ← r2.length]) hu (xS r1 r2 ok) (by rw [e]; exact fin)
    · obtain ⟨i1, r1, p1, _⟩ := I.tuple h1
      obtain ⟨i2, r2, p2, _⟩ := I.tuple h2
      have e : (((List.range (min i1.toArray.size i2.toArray.size)).all fun _ => true) && i1.toArray.size == i2.toArray.size) = true := by
        rw [List.size_toArray, List.size_toArray, ← r1.length, ← r2.length]
        simp
      exact SeqAt.eq_tupleAt (e := fun _ => true) p1 p2 hu (xS r1 r2 ok) (by rw [e]; exact fin)
  · have fin : EP X pins σ Q (.bool (decide (ns = ms))) s := ⟨.bl _, H, I, rfl, q⟩
    rcases tw with ⟨h1, h2⟩ | ⟨h1, h2⟩
    · obtain ⟨i1, r1, p1, _⟩ := I.list h1
      obtain ⟨i2, r2, p2, _⟩ := I.list h2
      have n1 : i1.toArray.size = ns.length := by rw [List.size_toArray, ← r1.length, List.length_map]
      have n2 : i2.toArray.size = ms.length := by rw [List.size_toArray, ← r2.length, List.length_map]
      have key := vH ns ms
      by_cases hl : ns.length = ms.length
      · refine SeqAt.eq_listAt (e := fun j => ns.getD j 0 == ms.getD j 0) p1.isList p2.isList (by rw [n1, n2, hl]) hu (wO r1 r2) ?_
        rw [n1]
        rw [hl, Nat.min_self, beq_self_eq_true, Bool.and_true] at key
        rw [hl, key]
        exact fin
      · refine SeqAt.eq_list_lengthsAt p1.isList p2.isList (by rw [n1, n2]; simpa using hl) hu ?_
        rw [decide_eq_false (fun e => hl (by rw [e]))] at fin
        exact fin
    · obtain ⟨i1, r1, p1, _⟩ := I.tuple h1
      obtain ⟨i2, r2, p2, _⟩ := I.tuple h2
      have n1 : i1.toArray.size = ns.length := by rw [List.size_toArray, ← r1.length, List.length_map]
      have n2 : i2.toArray.size = ms.length := by rw [List.size_toArray, ← r2.length, List.length_map]
      refine SeqAt.eq_tupleAt (e := fun j => ns.getD j 0 == ms.getD j 0) p1 p2 hu (wO r1 r2) ?_
      rw [n1, n2, vH]
      exact fin
theorem Gq (hu : X.A.units < cLine) : OpR X (compareOp .NotEq) (Gj X.K true) := by
  intro pins s σ H x y v u Q I rx ry h
  obtain ⟨a, b, rfl, rfl, h⟩ := h
  obtain rfl : v = Value.ref a := rx
  obtain rfl : u = Value.ref b := ry
  rcases h with ⟨xs, tw, ok, q⟩ | ⟨ns, ms, tw, q⟩
  · have fin : EP X pins σ Q (.bool false) s := ⟨.bl false, H, I, rfl, q⟩
    rcases tw with ⟨h1, h2⟩ | ⟨h1, h2⟩
    · obtain ⟨i1, r1, p1, _⟩ := I.list h1
      obtain ⟨i2, r2, p2, _⟩ := I.list h2
      have e : (!(List.range i1.toArray.size).all fun _ => true) = false := by simp
      exact SeqAt.RcNeAt.lists (e := fun _ => true) p1.isList p2.isList (by rw [List.size_toArray, List.size_toArray, ← r1.length, ← r2.length]) hu (xS r1 r2 ok) _ _ _ _ (by rw [e]; exact fin)
    · obtain ⟨i1, r1, p1, _⟩ := I.tuple h1
      obtain ⟨i2, r2, p2, _⟩ := I.tuple h2
      have e : (!(((List.range (min i1.toArray.size i2.toArray.size)).all fun _ => true) && i1.toArray.size == i2.toArray.size)) = false := by
        rw [List.size_toArray, List.size_toArray, ← r1.length, ← r2.length]
        simp
      exact SeqAt.RcNeAt.tuples (e := fun _ => true) p1 p2 hu (xS r1 r2 ok) _ _ _ _ (by rw [e]; exact fin)
  · have fin : EP X pins σ Q (.bool (!decide (ns = ms))) s := ⟨.bl _, H, I, rfl, q⟩
    rcases tw with ⟨h1, h2⟩ | ⟨h1, h2⟩
    · obtain ⟨i1, r1, p1, _⟩ := I.list h1
      obtain ⟨i2, r2, p2, _⟩ := I.list h2
      have n1 : i1.toArray.size = ns.length := by rw [List.size_toArray, ← r1.length, List.length_map]
      have n2 : i2.toArray.size = ms.length := by rw [List.size_toArray, ← r2.length, List.length_map]
      have key := vH ns ms
      by_cases hl : ns.length = ms.length
      · refine SeqAt.RcNeAt.lists (e := fun j => ns.getD j 0 == ms.getD j 0) p1.isList p2.isList (by rw [n1, n2, hl]) hu (wO r1 r2) _ _ _ _ ?_
        rw [n1]
        rw [hl, Nat.min_self, beq_self_eq_true, Bool.and_true] at key
        rw [hl, key]
        exact fin
      · refine SeqAt.RcNeAt.lists_lengths p1.isList p2.isList (by rw [n1, n2]; simpa using hl) hu _ _ _ _ ?_
        rw [decide_eq_false (fun e => hl (by rw [e]))] at fin
        exact fin
    · obtain ⟨i1, r1, p1, _⟩ := I.tuple h1
      obtain ⟨i2, r2, p2, _⟩ := I.tuple h2
      have n1 : i1.toArray.size = ns.length := by rw [List.size_toArray, ← r1.length, List.length_map]
      have n2 : i2.toArray.size = ms.length := by rw [List.size_toArray, ← r2.length, List.length_map]
      refine SeqAt.RcNeAt.tuples (e := fun j => ns.getD j 0 == ms.getD j 0) p1 p2 hu (wO r1 r2) _ _ _ _ ?_
      rw [n1, n2, vH]
      exact fin
end
end L2

set_option Elab.async false
set_option linter.all false
set_option maxRecDepth 100000
set_option maxHeartbeats 1000000
namespace L2
open PySem PySem.Spec PyProof.Rows
def wW (D : Addr) (g : TG) (tt : TT) (te : TE) (x : V) (τ : St) (H : Hp) (R : St → Hp → Prop) : Prop := g x τ H fun τ' H' => tt τ' H' fun b H4 =>
  if b = true then te τ' H4 fun v H5 => ∃ ys, H5 D = some (.lst ys) ∧ ys.length < sizeLine ∧ R τ' (upd H5 D (.lst (ys ++ [v]))) else R τ' H4
def wU (D : Addr) (J : It) (g : TG) (tt : TT) (te : TE) (Q : VK) (τ : St) (H : Hp) : Prop := ∃ W : Nat → Nat → St → Hp → Prop, (∃ m, W 0 m τ H) ∧ yr D J g tt te Q W
theorem ED {ix : List Nat} {nl : Nat} {wi : TI} {g : TG} {tt : TT} {te : TE} {σ : St} {H : Hp} {Q : VK} :
    AB ix nl wi g tt te σ H Q = wi σ H fun J H1 => ∀ D, H1 D = none → wU D J g tt te Q (slots ix σ ++ List.replicate nl none) (upd H1 D (.lst [])) := rfl
section
variable {K : PySem.W.Frag} {D a : Addr} {g : TG} {tt : TT} {te : TE} {Q : VK} {τ : St} {H : Hp}
theorem vC {lo : Int} {n : Nat} (Pv : Nat → St → Hp → Prop) (h0 : Pv 0 τ H)
    (hs : ∀ i τ H (R : St → Hp → Prop), i < n → Pv i τ H → (∀ τ' H', Pv (i + 1) τ' H' → R τ' H') → wW D g tt te (.int (lo + i)) τ H R) (hd : ∀ τ H, Pv n τ H → Q (.ref D) H) : wU D (Itr lo n) g tt te Q τ H := by
  refine ⟨fun i m τ H => m = n - i ∧ i ≤ n ∧ Pv i τ H, ⟨n, by simp, Nat.zero_le _, h0⟩, ?_⟩
  rintro i m τ H2 ⟨rfl, hi, p⟩
  by_cases hlt : i < n
  · refine .inr ⟨hlt, fun x H' y => ?_⟩
    obtain ⟨e, y⟩ := y
    subst e y
    exact hs i τ _ (fun τ' H' => ∃ m', m' < n - i ∧ m' = n - (i + 1) ∧ i + 1 ≤ n ∧ Pv (i + 1) τ' H') hlt p fun τ' H' p' => ⟨_, by omega, rfl, hlt, p'⟩
  · have e : i = n := by omega
    subst e
    exact .inl ⟨Nat.le_refl _, hd τ H2 p⟩
theorem we (xs : List V) (Pv : Nat → St → Hp → Prop) (h0 : Pv 0 τ H) (hl : ∀ i τ H, i ≤ xs.length → Pv i τ H → SqL K H a xs)
    (hs : ∀ i x τ H (R : St → Hp → Prop), xs[i]? = some x → Pv i τ H → (∀ τ' H', Pv (i + 1) τ' H' → R τ' H') → wW D g tt te x τ H R) (hd : ∀ τ H, Pv xs.length τ H → Q (.ref D) H) : wU D (Itl K a) g tt te Q τ H := by
  refine ⟨fun i m τ H => m = xs.length - i ∧ i ≤ xs.length ∧ Pv i τ H, ⟨xs.length, by simp, Nat.zero_le _, h0⟩, ?_⟩
  rintro i m τ H2 ⟨rfl, hi, p⟩
  have q := hl i τ H2 hi p
  by_cases hlt : i < xs.length
  · have hx : xs[i]? = some xs[i] := by simp [hlt]
    refine .inr ⟨⟨xs, _, q, hx⟩, fun x H' y => ?_⟩
    obtain ⟨e, y⟩ := y
    subst e
    have e2 := y xs q
    rw [hx] at e2
    cases e2
    exact hs i _ τ _ (fun τ' H' => ∃ m', m' < xs.length - i ∧ m' = xs.length - (i + 1) ∧ i + 1 ≤ xs.length ∧ Pv (i + 1) τ' H') hx p fun τ' H' p' => ⟨_, by omega, rfl, hlt, p'⟩
  · have e : i = xs.length := by omega
    subst e
    exact .inl ⟨⟨xs, q, Nat.le_refl _⟩, hd τ H2 p⟩
theorem SqT.lst {H : Hp} {p b : Addr} {xs ys zs : List V} (h : SqT K H b xs) (hp : H p = some (.lst ys)) : SqT K (upd H p (.lst zs)) b xs := by
  rcases h with (h | ⟨o, h⟩) | h
  · exact .inl (.inl (by rw [tP (Fk h hp (by intro z; cases z))]; exact h))
  · exact .inl (.inr ⟨o, by rw [tP (Fk h hp (by intro z; cases z))]; exact h⟩)
  · exact .inr h
end
section
variable {X : Cx} {K : PySem.W.Frag}
theorem Ez (h : X.K = K) : IxR X (EI K) := by subst h; exact ue
theorem wm (h : X.K = K) : IxR X (EZ K) := by subst h; exact ni
end
end L2

set_option Elab.async false
set_option linter.all false
set_option maxRecDepth 100000
set_option maxHeartbeats 1000000
namespace L2
open PySem PySem.Spec PyProof.Rows
section
variable {prog : Program} {w : World} {A : Around} {E : Value → Shared → Prop} {s : Shared}
theorem zx {it l : Addr} {i : Nat} {items : Array Value} {x : Value} {Q : Value → Shared → Prop} (hit : s.heap.IsTupleIter it l i)
    (hl : s.heap.IsTuple l items) (hx : items[i]? = some x) (hQ : ∀ h', h'.IsTupleIter it l (i + 1) → Heap.SameBut it s.heap h' → Q x { s with heap := h' }) :
    wpAny (model prog w) A (Builtin.SmallTypes.nextOf (.ref it)) Q E s := by
  obtain ⟨o, ho, hc, hd⟩ := id hit
  obtain ⟨ol, hol, _, nl, hdl⟩ := hl
  unfold Builtin.SmallTypes.nextOf
  refine wpAny_bind (wpAny_callSpecial?_slot (name := Str.ofString "__next__") hit.typeIs F.slot_tuple_iterator_next
    (wpAny_call_entry F.slot_tuple_iterator_next hit.typeIs F.entry_tuple_iterator_next ?_ (F.args_tuple_iterator_next_1 _)))
  show wpAny _ _ (field (.ref it) 0 >>= _) _ _ s
  refine wpAny_bind (wpAny_field ho hd (x := .ref l) rfl ?_)
  show wpAny _ _ (if (Value.ref l == Value.none) = true then _ else _) _ _ s
  rw [if_neg (show ¬ ((Value.ref l == Value.none) = true) from Bool.false_ne_true)]
  show wpAny _ _ (field (.ref it) 1 >>= _) _ _ s
  refine wpAny_bind (wpAny_field ho hd (x := .int i 0) rfl ?_)
  show wpAny _ _ (seqItems? (.ref l) >>= _) _ _ s
  refine wpAny_bind (wpAny_seqItems hol hdl ?_)
  simp only [Int.toNat_natCast, hx]
  refine wpAny_bind (wpAny_setField ho hd (by simp) (wpAny_pure ⟨x, rfl, wpAny_pure (hQ _ ?_ (Heap.SameBut.update ..))⟩))
  exact ⟨_, Heap.get?_update_self _ ho (Obj.isFreed_of_fields (Obj.data_mapFields hd _)), (Obj.cls_mapFields ..).trans hc, by
    rw [Obj.data_mapFields hd]; simp [rawInt]⟩
theorem xq {it l : Addr} {i : Nat} {items : Array Value} {Q : Value → Shared → Prop} (hh : A.handled = none) (hit : s.heap.IsTupleIter it l i) (hl : s.heap.IsTuple l items) (hx : items[i]? = none)
    (hE : ∀ h' e, Heap.ExtBut it s.heap h' → (∃ o, h'.get? e = some o ∧ o.cls = .type "StopIteration") → E (.ref e) { s with heap := h' }) :
    wpAny (model prog w) A (Builtin.SmallTypes.nextOf (.ref it)) Q E s := by
  obtain ⟨o, ho, hc, hd⟩ := id hit
  obtain ⟨ol, hol, _, nl, hdl⟩ := hl
  unfold Builtin.SmallTypes.nextOf
  refine wpAny_bind (wpAny_callSpecial?_slot (name := Str.ofString "__next__") hit.typeIs F.slot_tuple_iterator_next
    (wpAny_call_entry F.slot_tuple_iterator_next hit.typeIs F.entry_tuple_iterator_next ?_ (F.args_tuple_iterator_next_1 _)))
  show wpAny _ _ (field (.ref it) 0 >>= _) _ _ s
  refine wpAny_bind (wpAny_field ho hd (x := .ref l) rfl ?_)
  show wpAny _ _ (if (Value.ref l == Value.none) = true then _ else _) _ _ s
  rw [if_neg (show ¬ ((Value.ref l == Value.none) = true) from Bool.false_ne_true)]
  show wpAny _ _ (field (.ref it) 1 >>= _) _ _ s
  refine wpAny_bind (wpAny_field ho hd (x := .int i 0) rfl ?_)
  show wpAny _ _ (seqItems? (.ref l) >>= _) _ _ s
  refine wpAny_bind (wpAny_seqItems hol hdl ?_)
  simp only [Int.toNat_natCast, hx]
  refine wpAny_bind (wpAny_rule (wpAny_bind (wpAny_setField ho hd (by simp) ?_)))
  show wpAny _ _ (newExc (.type "StopIteration") [] >>= _) _ _ _
  refine wpAny_bind ?_
  simp only [newExc, newTuple]
  refine wpAny_bind (wpAny_newObj_type ?_ (by size_fits))
  refine wpAny_bind (m := firstArgMember _ _) (wpAny_of_eq (a := Value.none) (by first | rfl | (simp only [firstArgMember]; rfl)) ?_)
  refine wpAny_newObj_type ?_ (by size_fits)
  simp only [raiseNew]
  refine wpAny_bind (wpAny_handled ?_)
  first | rw [show A.in1.handled = none from hh] | rw [hh]
  refine wpAny_bind (wpAny_pure (wpAny_throw ?_))
  exact hE _ _ (((Heap.SameBut.update ..).extBut.push _).push _) ⟨_, Heap.get?_push_size _ rfl, rfl⟩
end
theorem Draws.tuple {prog : Program} {w : World} {A : Around} (hh : A.handled = none) (it l : Addr) (hne : l ≠ it) (items : Array Value) :
    Draws prog w A it [it, l] items.size (fun i v => items[i]? = some v) (fun i h => h.IsTupleIter it l i ∧ h.IsTuple l items) where
  live := fun _ _ st => let ⟨o, ho, _⟩ := st.1; ⟨o, ho⟩
  frame := fun _ _ _ st hk => ⟨st.1.at fun o e => hk it (by simp) o e, st.2.at fun o e => hk l (by simp) o e⟩
  item := fun i s Q E hi st hQ => by
    refine zx st.1 st.2 (x := items[i]) (by simp [hi]) fun h' hit' hs' => ?_
    exact hQ _ h' s.toks (by simp [hi]) ⟨hit', st.2.extBut hs'.extBut hne⟩ hs'
  done := fun s Q E st hE => xq hh st.1 st.2 (by simp) hE
open AutoSeq1 (wpAny_loadPart') in
theorem xO (l : Addr) (items : Array Value) (n : Nat) (dct : Option Addr) (sl : Array (Option Value)) :
    Meets (Builtin.«enumerate.__new__» ⟨[.type "enumerate", .ref l], []⟩) (fun _ R s => s.heap.get? l = some { cls := .type "tuple", dict := dct, data := .seq items n, slots := sl } ∧
      R (.ok (.ret (.ref (s.heap.push { cls := .type "tuple_iterator", data := .fields #[.ref l, .int 0 0] }).objs.size)))
        { s with heap := (s.heap.push { cls := .type "tuple_iterator", data := .fields #[.ref l, .int 0 0] }).push { cls := .type "enumerate", data := .fields #[.none, .bool false, .ref s.heap.objs.size, rawInt 0, .none, .none] } }) :=
  .of_wp fun prog w A R s h => by
    obtain ⟨hp, g, d, tk, os⟩ := s; obtain ⟨hl, h⟩ := h
    have hsub := sub_enumerate
    have hL : Heap.IsTuple (Shared.heap ⟨hp, g, d, tk, os⟩) l items := ⟨_, hl, rfl, n, rfl⟩
    wp_walk using wpAny_loadPart' hl
    refine wpAny_stack_any fun st => wpAny_pure ?_
    split
    · rename_i c _ _ _ _ _
      cases (c == Value.type "enumerate")
      · wp_walk using wpAny_loadPart' hl, wpAny_pyIter_tuple hL
        exact ⟨_, rfl, h⟩
      · wp_walk using wpAny_loadPart' hl, wpAny_pyIter_tuple hL
        exact ⟨_, rfl, h⟩
    · wp_walk using wpAny_loadPart' hl, wpAny_pyIter_tuple hL
      exact ⟨_, rfl, h⟩
section
variable {prog : Program} {w : World} {A : Around} {E : Value → Shared → Prop} {s : Shared}
theorem yj {l : Addr} {items : Array Value} {Q : Value → Shared → Prop} (hL : s.heap.IsTuple l items)
    (h : ∀ h', IsEnum h' (s.heap.objs.size + 1) s.heap.objs.size 0 .none → h'.IsTupleIter s.heap.objs.size l 0 → h'.objs.size = s.heap.objs.size + 2 →
      (∀ b o, s.heap.get? b = some o → h'.get? b = some o) → Q (.ref (s.heap.objs.size + 1)) { s with heap := h' }) :
    wpAny (model prog w) A (call (.type "enumerate") [.ref l]) Q E s := by
  obtain ⟨⟨c, dct, dt, sl⟩, hl, hc, n, hd⟩ := hL
  replace hc : c = .type "tuple" := hc
  replace hd : dt = .seq items n := hd
  subst hc hd
  refine callType_new F.called_enumerate (by decide) (F.typeCall_enumerate_1 _) (F.newCall_enumerate_1 _) (fun obj => F.args_object_init_2 obj _) F.entry_enumerate_new
    (xO l items n dct sl) ⟨hl, ?_⟩
  have hz : (s.heap.push { cls := .type "tuple_iterator", data := .fields #[.ref l, .int 0 0] }).objs.size = s.heap.objs.size + 1 := Heap.size_push ..
  show _ ∧ _
  rw [hz]
  have e1 := Heap.get?_push_size (s.heap.push { cls := .type "tuple_iterator", data := .fields #[.ref l, .int 0 0] }) (o := { cls := .type "enumerate", data := .fields #[.none, .bool false, .ref s.heap.objs.size, rawInt 0, .none, .none] }) rfl
  rw [hz] at e1
  refine ⟨⟨_, e1, rfl⟩, ?_⟩
  exact h _ e1 ⟨_, Heap.get?_push_of_some _ (Heap.get?_push_size _ rfl), rfl, rfl⟩ (by rw [Heap.size_push, hz]) fun b o q => Heap.get?_push_of_some _ (Heap.get?_push_of_some _ q)
end
theorem Inv.drew {X : Cx} {pins : List (Addr × Obj)} {σ : St} {H : Hp} {s : Shared} {ch : List Addr} {T : Addr} {xs : List V} {h' : Heap} {tk : Nat} (I : Inv X pins σ H s) (hf : ∀ b ∈ ch, FpOk X pins H b)
    (k : ∀ b o, b ∉ ch → s.heap.get? b = some o → h'.get? b = some o) (hT : s.heap.objs.size ≤ T) (new : ObjOk X.prog X.w (upd H T (.tup xs)) h' T (.tup xs)) : Inv X pins σ (upd H T (.tup xs)) { s with heap := h', toks := tk } := by
  have hn : H T = none := I.hok.fresh hT
  have nc : ∀ b u, H b = some u → b ∉ ch := fun b u e hb => by
    have z := (hf b hb).1
    rw [e] at z
    cases z
  refine I.call (g' := s.gens) (d' := s.drawn) (ch := ch) ⟨fun b o q n _ hc => k b o hc q, fun b o q n _ hc => ⟨o.slots, k b o hc q⟩, fun b o q n hc => by
    rw [tP (Nat.ne_of_lt (Nat.lt_of_lt_of_le (Heap.lt_size q) hT))]; exact n, fun b o q hc => ⟨o, k b o hc q⟩, fun b ys q => by rw [tP (tU q hn)]; exact q,
    fun b o u q => by rw [tP (tU q hn)]; exact q, fun b ps q => ⟨#[], by rw [tP (tU q hn), q]; simp⟩⟩ (fun b u e => ?_) I.bare fun b hb => ⟨(hf b hb).2.2.2.1, (hf b hb).2.1, (hf b hb).2.2.2.2.1, (hf b hb).2.2.2.2.2⟩
  by_cases hb : b = T
  · subst hb
    rw [ic] at e
    cases e
    exact new
  · rw [tP hb] at e
    refine (I.hok b u e).stay (fun c v hc q => k c v ?_ q) (fun c q => by rw [tP (tU q hn)]; exact q) fun c ys q => by rw [tP (tU q hn)]; exact q
    rcases hc with rfl | hc
    · exact nc _ _ e
    · exact nc _ _ hc
theorem Inv.turns {X : Cx} {pins : List (Addr × Obj)} {σ : St} {H : Hp} {s : Shared} {ch : List Addr} {h' : Heap} {tk : Nat} (I : Inv X pins σ H s) (hf : ∀ b ∈ ch, FpOk X pins H b)
    (k : ∀ b o, b ∉ ch → s.heap.get? b = some o → h'.get? b = some o) : Inv X pins σ H { s with heap := h', toks := tk } := by
  have nc : ∀ b u, H b = some u → b ∉ ch := fun b u e hb => by
    have z := (hf b hb).1
    rw [e] at z
    cases z
  refine I.call (g' := s.gens) (d' := s.drawn) (ch := ch) ⟨fun b o q n _ hc => k b o hc q, fun b o q n _ hc => ⟨o.slots, k b o hc q⟩, fun b o q n hc => n, fun b o q hc => ⟨o, k b o hc q⟩, fun b ys q => q,
    fun b o u q => q, fun b ps q => ⟨#[], by rw [q]; simp⟩⟩ (fun b u e => ?_) I.bare fun b hb => ⟨(hf b hb).2.2.2.1, (hf b hb).2.1, (hf b hb).2.2.2.2.1, (hf b hb).2.2.2.2.2⟩
  refine (I.hok b u e).stay (fun c v hc q => k c v ?_ q) (fun c q => q) fun c ys q => q
  rcases hc with rfl | hc
  · exact nc _ _ e
  · exact nc _ _ hc
def Ite (sq : Hp → List V → Prop) : It := ⟨fun i H => ∃ xs x, sq H xs ∧ xs[i]? = some x, fun i H x H' => ∃ T v, H T = none ∧ x = .ref T ∧ H' = upd H T (.tup [.int i, v]) ∧ ∀ xs, sq H xs → xs[i]? = some v, fun i H => ∃ xs, sq H xs ∧ xs.length ≤ i⟩
theorem Cb {P : Program} {w : World} {H : Hp} {h : Heap} {T : Addr} {a b : V} {u v : Value} {n : Nat} (ra : RelV a u) (rb : RelV b v) (e : h.get? T = some { cls := .type "tuple", data := .seq #[u, v] n }) : ObjOk P w H h T (.tup [a, b]) :=
  ⟨show 2 ≤ sizeLine by decide, [u, v], .cons ra (.cons rb .nil), ⟨_, e, rfl, _, rfl⟩, _, e, rfl⟩
theorem Dh {P : Program} {w : World} {K : PySem.W.Frag} {elts : List Expr} {kk : Nat} {pos : Pos} (a e it : Addr) (hei : e ≠ it) :
    Turn P w K (.Tuple elts kk pos) (Ite fun H xs => SqL K H a xs) [e, it] e (fun i h => (∃ old, IsEnum h e it i old) ∧ h.IsListIter it a i) where
  mem := by simp
  obj := fun i h st b hb => by
    obtain ⟨⟨old, he⟩, o, ho, c, d⟩ := st
    rcases List.mem_cons.mp hb with rfl | hb
    · exact ⟨_, he, fun v z => by cases z⟩
    · have z := List.mem_singleton.mp hb
      subst z
      exact ⟨o, ho, fun v z => by rw [d] at z; cases z⟩
  keep := fun i h h' st k => by
    obtain ⟨⟨old, he⟩, hit⟩ := st
    exact ⟨⟨old, k e (by simp) _ he⟩, hit.at fun o q => k it (by simp) o q⟩
  item := by
    intro X hP hw hK hc i pins s σ H E I hf st hg
    subst hP hw hK
    obtain ⟨xs, x, hq, hx⟩ := hg
    obtain ⟨⟨old, he⟩, hit⟩ := st
    obtain ⟨its, rv, p, hz⟩ := I.list hq
    obtain ⟨u, hu, ru⟩ := rv.get hx
    refine wpAny_pyNext_enum_item he hit p.isList (x := u) (by simpa using hu) hei fun h' ho hit' hT hsz hk => ⟨_, rfl, ?_⟩
    refine wpAny_letOwnedTupleGo_enum ho fun h2 he2 hs2 => ?_
    have hel : e < s.heap.objs.size := Heap.lt_size he
    have hTe : s.heap.objs.size ≠ e := Nat.ne_of_gt hel
    have hil : it < s.heap.objs.size := by obtain ⟨_, y, _⟩ := hit; exact Heap.lt_size y
    have hT2 : h2.get? s.heap.objs.size = some { cls := .type "tuple", data := .seq #[.int i s.toks, u] } := (hs2.2 _ hTe).trans hT
    have hf' : H s.heap.objs.size = none := I.hok.fresh (Nat.le_refl _)
    refine ⟨.ref s.heap.objs.size, upd H s.heap.objs.size (.tup [.int i, x]), ?_, rfl, ⟨_, x, hf', rfl, rfl, fun ys hy => by rw [I.list_inj hy hq]; exact hx⟩, ⟨⟨u, he2⟩, hit'.at fun o q => (hs2.2 it hei.symm).trans q⟩, fun b hb => ?_⟩
    · exact I.drew (ch := [e, it]) (tk := s.toks + 1) hf (fun b o hb q => (hs2.2 b fun z => hb (by simp [z])).trans (hk b o (fun z => hb (by simp [z])) (fun z => hb (by simp [z])) q)) (Nat.le_refl _) (Cb ⟨_, rfl⟩ ru hT2)
    · have z : b ≠ s.heap.objs.size := by
        rcases List.mem_cons.mp hb with rfl | hb
        · exact hTe.symm
        · rw [List.mem_singleton.mp hb]; exact Nat.ne_of_lt hil
      rw [tP z]
      exact (hf b hb).1
  done := by
    intro X hP hw hK hc i pins s σ H E I hf st hg
    subst hP hw hK
    obtain ⟨xs, hq, hx⟩ := hg
    obtain ⟨⟨old, he⟩, hit⟩ := st
    obtain ⟨its, rv, p, hz⟩ := I.list hq
    have hl := rv.length
    exact wpAny_pyNext_enum_end (I.ok.hd hc) he hit p.isList (by simp; omega) fun h' eb => ⟨rfl, I.turns (ch := [e, it]) (tk := s.toks) hf fun b o hb q => eb b o (fun z => hb (by simp [z])) q⟩
  self := fun A i s Q E st h => by
    obtain ⟨⟨old, he⟩, _⟩ := st
    exact wpAny_pyIter_enum he h
theorem Dr {P : Program} {w : World} {K : PySem.W.Frag} {elts : List Expr} {kk : Nat} {pos : Pos} (a e it : Addr) (hei : e ≠ it) (hea : e ≠ a) (hai : a ≠ it) :
    Turn P w K (.Tuple elts kk pos) (Ite fun H xs => SqT K H a xs) [e, it] e (fun i h => (∃ old, IsEnum h e it i old) ∧ h.IsTupleIter it a i) where
  mem := by simp
  obj := fun i h st b hb => by
    obtain ⟨⟨old, he⟩, o, ho, c, d⟩ := st
    rcases List.mem_cons.mp hb with rfl | hb
    · exact ⟨_, he, fun v z => by cases z⟩
    · have z := List.mem_singleton.mp hb
      subst z
      exact ⟨o, ho, fun v z => by rw [d] at z; cases z⟩
  keep := fun i h h' st k => by
    obtain ⟨⟨old, he⟩, hit⟩ := st
    exact ⟨⟨old, k e (by simp) _ he⟩, hit.at fun o q => k it (by simp) o q⟩
  item := by
    intro X hP hw hK hc i pins s σ H E I hf st hg
    subst hP hw hK
    obtain ⟨xs, x, hq, hx⟩ := hg
    obtain ⟨⟨old, he⟩, hit⟩ := st
    obtain ⟨its, rv, p, hz⟩ := I.tuple hq
    obtain ⟨u, hu, ru⟩ := rv.get hx
    have hu' : its.toArray[i]? = some u := by simpa using hu
    have D := Draws.tuple (prog := X.prog) (w := X.w) (A := X.A.in1) (show X.A.in1.handled = none from I.ok.hd hc) it a hai its.toArray
    refine wpAny_pyNext_enum_itemD D he ⟨hit, p⟩ (Array.getElem?_eq_some_iff.mp hu').1 hei (by simp [hei, hea]) fun x' h' tk hP ho hit' hT hsz hk => ⟨_, rfl, ?_⟩
    rw [hu'] at hP
    cases hP
    refine wpAny_letOwnedTupleGo_enum ho fun h2 he2 hs2 => ?_
    have hel : e < s.heap.objs.size := Heap.lt_size he
    have hTe : s.heap.objs.size ≠ e := Nat.ne_of_gt hel
    have hil : it < s.heap.objs.size := by obtain ⟨_, y, _⟩ := hit; exact Heap.lt_size y
    have hT2 : h2.get? s.heap.objs.size = some { cls := .type "tuple", data := .seq #[.int i tk, u] } := (hs2.2 _ hTe).trans hT
    have hf' : H s.heap.objs.size = none := I.hok.fresh (Nat.le_refl _)
    refine ⟨.ref s.heap.objs.size, upd H s.heap.objs.size (.tup [.int i, x]), ?_, rfl, ⟨_, x, hf', rfl, rfl, fun ys hy => by rw [I.tuple_inj hy hq]; exact hx⟩, ⟨⟨u, he2⟩, hit'.1.at fun o q => (hs2.2 it hei.symm).trans q⟩, fun b hb => ?_⟩
    · exact I.drew (ch := [e, it]) (tk := tk + 1) hf (fun b o hb q => (hs2.2 b fun z => hb (by simp [z])).trans (hk b o (fun z => hb (by simp [z])) (fun z => hb (by simp [z])) q)) (Nat.le_refl _) (Cb ⟨_, rfl⟩ ru hT2)
    · have z : b ≠ s.heap.objs.size := by
        rcases List.mem_cons.mp hb with rfl | hb
        · exact hTe.symm
        · rw [List.mem_singleton.mp hb]; exact Nat.ne_of_lt hil
      rw [tP z]
      exact (hf b hb).1
  done := by
    intro X hP hw hK hc i pins s σ H E I hf st hg
    subst hP hw hK
    obtain ⟨xs, hq, hx⟩ := hg
    obtain ⟨⟨old, he⟩, hit⟩ := st
    obtain ⟨its, rv, p, hz⟩ := I.tuple hq
    have hl := rv.length
    have hT : s.TypeIs (.ref e) "enumerate" := ⟨_, he, rfl⟩
    unfold pyNext
    refine wpAny_bind (wpAny_attempt (wpAny_callSpecial?_slot (name := Str.ofString "__next__") hT F.slot_enumerate_next
      (wpAny_call_entry F.slot_enumerate_next hT F.entry_enumerate_next ?_ (F.args_enumerate_next_1 _))))
    show wpAny _ _ (field (.ref e) 2 >>= _) _ _ _
    refine wpAny_bind (wpAny_field he rfl (x := .ref it) rfl ?_)
    refine wpAny_bind (xq (show X.A.in1.handled = none from I.ok.hd hc) hit p (by simp; omega) fun h' x he' hx' => ?_)
    obtain ⟨o, ho, hc'⟩ := hx'
    refine wpAny_bind (wpAny_isInstance (T := "StopIteration") (b := true) ⟨o, ho, hc'⟩ isSubtype_stop ?_)
    exact wpAny_pure ⟨rfl, I.turns (ch := [e, it]) (tk := s.toks) hf fun b o hb q => he' b o (fun z => hb (by simp [z])) q⟩
  self := fun A i s Q E st h => by
    obtain ⟨⟨old, he⟩, _⟩ := st
    exact wpAny_pyIter_enum he h
section
variable {X : Cx} {elts : List Expr} {kk : Nat} {tpos : Pos}
def DZ (K : PySem.W.Frag) (ta : TA) : TI := fun σ H R => ta σ H fun vs H1 => ∃ a, vs = [.ref a] ∧ (∃ xs, SqL K H1 a xs) ∧ R (Ite fun H xs => SqL K H a xs) H1
def DN (K : PySem.W.Frag) (ta : TA) : TI := fun σ H R => ta σ H fun vs H1 => ∃ a, vs = [.ref a] ∧ (∃ xs, SqT K H1 a xs) ∧ R (Ite fun H xs => SqT K H a xs) H1
theorem zc {a : Expr} {ta : TA} {p pos : Pos} (hg : Gl X "enumerate") (hm : X.mg "enumerate" = none) (ha : PA X [a] ta) (hs : starEach [a] X.env = [(false, eval a X.env)] := by rfl) :
    PI X (.Tuple elts kk tpos) (.Call (.Name "enumerate" p) [a] [] pos) (DZ X.K ta) := by
  intro pins s σ H R I h
  refine Call_ (vN I hg hm boot_enumerate (PyProof.Rows.callWith_type1 (thn (ha pos pins s σ H _ I h) fun us s1 ⟨vs, H1, I1, r1, q1⟩ => ?_) hs rfl))
  obtain ⟨l, e, ⟨xs, hq⟩, q⟩ := q1
  subst e
  cases r1 with
  | cons r rr =>
    cases rr
    cases r
    obtain ⟨its, rv, p, hz⟩ := I1.list hq
    refine call_enumerate_list p.isList fun h' hE hI hsz hk => wpAny_pyIter_enum hE ?_
    refine ⟨_, [s1.heap.objs.size + 1, s1.heap.objs.size], _, _, H1, rfl, I1.kept (t' := s1.toks) hk, Dh l _ _ (Nat.succ_ne_self _), ⟨⟨_, hE⟩, hI⟩, fun b hb => ?_, q⟩
    rcases List.mem_cons.mp hb with rfl | hb
    · exact I1.fpOk (Nat.le_succ _) (I1.hok.fresh (Nat.le_succ _))
    · rw [List.mem_singleton.mp hb]
      exact I1.fpOk (Nat.le_refl _) (I1.hok.fresh (Nat.le_refl _))
theorem yX {a : Expr} {ta : TA} {p pos : Pos} (hg : Gl X "enumerate") (hm : X.mg "enumerate" = none) (ha : PA X [a] ta) (hs : starEach [a] X.env = [(false, eval a X.env)] := by rfl) :
    PI X (.Tuple elts kk tpos) (.Call (.Name "enumerate" p) [a] [] pos) (DN X.K ta) := by
  intro pins s σ H R I h
  refine Call_ (vN I hg hm boot_enumerate (PyProof.Rows.callWith_type1 (thn (ha pos pins s σ H _ I h) fun us s1 ⟨vs, H1, I1, r1, q1⟩ => ?_) hs rfl))
  obtain ⟨l, e, ⟨xs, hq⟩, q⟩ := q1
  subst e
  cases r1 with
  | cons r rr =>
    cases rr
    cases r
    obtain ⟨its, rv, p, hz⟩ := I1.tuple hq
    have hll : l < s1.heap.objs.size := by obtain ⟨o, ho, _⟩ := p; exact Heap.lt_size ho
    refine yj p fun h' hE hI hsz hk => wpAny_pyIter_enum hE ?_
    refine ⟨_, [s1.heap.objs.size + 1, s1.heap.objs.size], _, _, H1, rfl, I1.kept (t' := s1.toks) hk, Dr l _ _ (Nat.succ_ne_self _) (Nat.ne_of_gt (Nat.lt_succ_of_lt hll)) (Nat.ne_of_lt hll), ⟨⟨_, hE⟩, hI⟩, fun b hb => ?_, q⟩
    rcases List.mem_cons.mp hb with rfl | hb
    · exact I1.fpOk (Nat.le_succ _) (I1.hok.fresh (Nat.le_succ _))
    · rw [List.mem_singleton.mp hb]
      exact I1.fpOk (Nat.le_refl _) (I1.hok.fresh (Nat.le_refl _))
end
end L2

set_option Elab.async false
set_option linter.all false
set_option maxRecDepth 100000
set_option maxHeartbeats 1000000
namespace HT
open PySem PySem.Spec PyProof.Rows
section
variable {prog : Program} {w : World} {A : Around} {E : Value → Shared → Prop} {s : Shared}
end
end HT
namespace L2
open PySem PySem.Spec PyProof.Rows
section
variable {X : Cx}
end
end L2

set_option Elab.async false
set_option linter.all false
set_option maxRecDepth 100000
set_option maxHeartbeats 1000000
namespace L2
open PySem PySem.Spec PyProof.Rows
open PySem.Builtin PySem.Builtin.ObjectAttr PySem.Builtin.Getset_descriptor
open PySem.W (Frag Looks looks_findIn looks_specialIn looks_takesIn looks_mroIn looks_subIn looks_typeIn)

def ExcAt (x D : Addr) (h : Heap) : Prop := ∃ o vs, h.get? x = some o ∧ o.cls = .ref D ∧ o.data = .fields vs
structure XCls (K : Frag) (D : Addr) : Prop where
  ga : PySem.W.findIn K (.ref D) "__getattribute__" = some (some (.builtin "BaseException.__getattribute__"))
  gt : PySem.W.findIn K (.ref D) "__getattr__" = some none
  ca : PySem.W.findIn K (.ref D) "__class__" = some (some (.builtin "object.__class__"))
  cn : PySem.W.specialIn K (.builtin "object.__class__") "__get__" = some (some (.builtin "getset_descriptor.__get__"))
  tk : PySem.W.takesIn K (.builtin "object.__class__") = some true
  mo : PySem.W.mroIn K D (.type "object") = some true
  mb : PySem.W.mroIn K D (.type "BaseException") = some true
  is : (PySem.W.clsIn K D).isSome = true
section
variable {prog : Program} {w : World} {A : Around} {E : Value → Shared → Prop} {s : Shared} {K : Frag} {x D : Addr}
theorem ExcAt.type {M : Model} {h : Heap} (I : ExcAt x D h) : Looks M h (typeOf (.ref x)) (.ref D) := by
  obtain ⟨o, vs, e, c, _⟩ := I
  exact c ▸ (Looks.ld e).andThen .now
end
end L2

set_option Elab.async false
set_option linter.all false
set_option maxRecDepth 100000
set_option maxHeartbeats 1000000
namespace L2
open PySem PySem.Spec PyProof.Rows
structure Fly (P : Program) (w : World) (outer : List Env) (H : Hp) (s : Shared) (B : Heap) (H' : Hp) (a C : Addr) (a0 : Value) (s' : Shared) : Prop where
  os : s'.os = s.os
  bare : AllBare s'.gens
  un : Un (frs outer) [] H H' s.heap s'.heap
  hok : HOk P w H' s'.heap
  fly : Heap.FlyingW B outer a (.ref C) a0 s'.heap
  old : ∀ b o, s'.heap.get? b = some o → (∃ o', s.heap.get? b = some o') → b ∉ frs outer → B.get? b = some o
  trk : ∀ b u o, H' b = some u → s'.heap.get? b = some o → B.get? b = some o
  new : H' a = none
  fresh : s.heap.get? a = none
section
variable {P : Program} {w : World} {outer : List Env} {H H' : Hp} {s s' : Shared} {B : Heap} {a C : Addr} {a0 : Value} {h6 : Heap}
end
section
variable {X : Cx} {pins : List (Addr × Obj)} {σ : St} {H H' : Hp} {s s' : Shared} {B : Heap} {a C : Addr} {a0 : Value}
end
section
variable {P : Program} {w : World} {K : PySem.W.Frag} {mg : Str → Option Value} {base : Heap} {N : List Str} {qual : Str} {scope : Scope} {f : Addr} {cd : Value} {A : Around} {outer : List Env} {s : Shared} {H : Hp} {E : XK}
end
abbrev bmVE : List Value := [.type "ValueError", .type "Exception", .type "BaseException", .type "object"]
structure XRaise (K : PySem.W.Frag) (mg : Str → Option Value) (x : Str) (C : Addr) : Prop where
  at_ : mg x = some (.ref C)
  ex : PySem.W.excIn K C bmVE "ValueError.__new__" = true
section
variable {X : Cx} {pins : List (Addr × Obj)} {σ : St} {H : Hp} {s : Shared} {a : Addr}
end
structure XCatch (K : PySem.W.Frag) (mg : Str → Option Value) (x : Str) (C : Addr) : Prop where
  at_ : mg x = some (.ref C)
  is : PySem.W.clsIn K C ≠ none
  ty : PySem.W.typeIn K (.ref C) = some (.type "type")
  mb : PySem.W.mroIn K C (.type "BaseException") = some true
section
variable {X : Cx} {CX : CXT} {x y n : Str} {j k i : Nat} {ps : List Str} {sp : Sp} {p pos tpos hpos np epos : Pos} {e : Expr} {es : List Expr} {t : TA} {C : Addr} {b₀ : Stmt} {suite : List Stmt} {ts : TS}
end
end L2

set_option Elab.async false
set_option linter.all false
set_option maxRecDepth 100000
set_option maxHeartbeats 1000000
namespace L2
open PySem PySem.Spec PyProof.Rows
section
variable {X : Cx} {K : PySem.W.Frag}
end
structure RoomS (k : Nat) (A : Around) : Prop where
  dp : A.depth + 3 * k + 5 < recursionLimit
  un : A.units + 16 * k + 200 < cLine
structure FnOkS (P : Program) (w : World) (K : PySem.W.Frag) (mg : Str → Option Value) (base : Heap) (CX : CXT) (k : Nat) (f : Addr) (fd : FuncData) (ps : List Str) (sp : Sp) : Prop where
  len : ∀ vs H Q E, sp vs H Q E → vs.length = ps.length
  run : ∀ (A : Around) (outer : List Env) (s : Shared) (H : Hp) (args : Args) (us : List Value) (vs : List V) (Q : VK) (E : XK), RoomS k A → Env0 P w K mg base A outer s H → BindsTo s fd args (ps.zip us) → Vals vs us → sp vs H Q E →
    codeAny (model P w) A (.call (.ref f) args) (CR CX outer P w H s Q E) s
structure CalS (P : Program) (w : World) (K : PySem.W.Frag) (mg : Str → Option Value) (base : Heap) (CX : CXT) (x : Str) (k : Nat) (ps : List Str) (sp : Sp) : Prop where
  ex : ∃ f fd, FnOkS P w K mg base CX k f fd ps sp ∧ Binds K fd ps [] ∧ PySem.W.keepIn K (.ref f) = true ∧ mg x = some (.ref f)
abbrev Cx.any (X : Cx) (A : Around) : Cx := { X with A := A, calm := false }
theorem Inv.any {X : Cx} {pins : List (Addr × Obj)} {σ : St} {H : Hp} {s : Shared} (I : Inv X pins σ H s) {A : Around} (hf : A.frames = some X.stack) : Inv (X.any A) pins σ H s :=
  ⟨⟨I.ok.mod, I.ok.kind, I.ok.glob, I.ok.blt, I.ok.above, I.ok.inj, I.ok.has, I.ok.cab, (fun z => nomatch z), hf, I.ok.stk, I.ok.exf, I.ok.bs, I.ok.bsz, I.ok.noex, I.ok.exfs, I.ok.funs, I.ok.frf⟩, I.os, I.bare, I.base, I.loc, I.cell, I.free, I.freeC, I.pin, I.hok, I.len⟩
end L2

set_option Elab.async false
set_option linter.all false
set_option maxRecDepth 100000
namespace L2
open PySem PySem.Spec PyProof.Rows
def noStar : Expr → Bool
  | .Starred _ _ => false
  | _ => true
theorem ef {e : Expr} {es : List Expr} {env : Env} (h : noStar e = true) : starEach (e :: es) env = (false, eval e env) :: starEach es env := by
  cases e <;> first | rfl | cases h
theorem star1' {e : Expr} {env : Env} (h : noStar e = true) : starEach [e] env = [(false, eval e env)] := by rw [ef h]; rfl
theorem star2' {e e2 : Expr} {env : Env} (h : noStar e = true) (h2 : noStar e2 = true) : starEach [e, e2] env = [(false, eval e env), (false, eval e2 env)] := by rw [ef h, star1' h2]
theorem mj {env : Env} {pos : Pos} : (backTo pos (starEach [] env)).any (·.1) = false := rfl
theorem ia {e : Expr} {es : List Expr} {env : Env} {pos : Pos} (h : noStar e = true) (r : (backTo pos (starEach es env)).any (·.1) = false) : (backTo pos (starEach (e :: es) env)).any (·.1) = false := by
  rw [ef h]
  show (false || (backTo pos (starEach es env)).any (·.1)) = false
  rw [r]
  rfl
def plainT : Expr → Bool
  | .UnaryOp _ _ _ => false
  | .BoolOp _ _ _ => false
  | .IfExp _ _ _ _ => false
  | .Compare _ _ _ _ => false
  | _ => true
theorem um {e : Expr} {env : Env} (h : plainT e = true) : ∀ whole, isTrue e env whole = (do let v ← whole; standAt e.pos; holding [v] (truthy v)) := by
  intro whole
  cases e <;> first | rfl | cases h
def GF : Expr → Bool
  | .ListComp _ _ _ _ => false
  | .SetComp _ _ _ _ => false
  | .DictComp _ _ _ _ _ => false
  | _ => true
theorem tM {e : Expr} {tg : Option Expr} {n : Nat} {env : Env} (h : GF e = true) : swapsWith e tg n env = pure false := by
  cases e <;> first | rfl | cases h
end L2

set_option Elab.async false
set_option linter.all false
set_option maxRecDepth 100000
set_option maxHeartbeats 1000000
namespace L2
open PySem PySem.Spec PyProof.Rows
end L2

set_option Elab.async false
set_option linter.all false
set_option maxRecDepth 100000
set_option maxHeartbeats 1000000
namespace L2
open PySem PySem.Spec PyProof.Rows
theorem ints_are : ∀ {ns : List Int} {its : List Value}, Vals (ns.map V.int) its → IntsAre its ns
  | [], _, .nil => .nil
  | n :: ns, _, .cons ⟨t, e⟩ r => by subst e; exact .cons n t (ints_are r)
section
variable {X : Cx}
theorem DK (hc : X.calm = true) : uS X (.builtin "all") (fun xs H Q => ∃ (p : Addr) (bs : List Bool), xs = [.ref p] ∧ SqL X.K H p (bs.map V.bl) ∧ Q (.bl (bs.all id)) H) := by
  intro pins s σ H xs us Q I r h
  obtain ⟨p, bs, rfl, hq, q⟩ := h
  obtain ⟨u, rfl, rx⟩ := vals1 r
  cases rx
  obtain ⟨its, r', pl, hz⟩ := I.list hq
  have hl := pl.isList
  have hlt : p < s.heap.objs.size := by obtain ⟨_, e, _⟩ := hl; exact Heap.lt_size e
  have len := r'.length
  rw [List.length_map] at len
  refine call_all_walk (wpAny_pyIter_list hl ⟨_, _, _, _, _, _, fun i => bs.getD i true, rfl, Walks.list (A := X.A.in1) (I.ok.hd hc) s.heap.objs.size p (Nat.ne_of_lt hlt) its.toArray, ⟨⟨_, Heap.get?_push_size _ rfl, rfl, rfl⟩, hl.push _⟩, ?_, ?_⟩)
  · intro i v s' Q' E' hP hQ
    have hP' : its[i]? = some v := by simpa using hP
    have li : i < bs.length := by
      have := (List.getElem?_eq_some_iff.mp hP').1
      omega
    obtain ⟨u, e1, e2⟩ := r'.get (i := i) (x := .bl (bs.getD i true)) (by simp [List.getD, li])
    rw [hP'] at e1
    cases e1
    obtain rfl : v = Value.bool (bs.getD i true) := e2
    exact wpAny_truthy_bool hQ
  · intro h' tk hk
    have : (List.range its.toArray.size).all (fun i => bs.getD i true) = bs.all id := by
      rw [List.size_toArray, ← len]
      clear len hq q r' hz
      induction bs with
      | nil => rfl
      | cons b bs ih =>
        rw [List.length_cons, List.range_succ_eq_map, List.all_cons, List.all_map, List.all_cons]
        exact congrArg _ ih
    rw [this]
    exact ⟨.bl _, H, I.kept (old_kept hk), rfl, q⟩
end
end L2

set_option Elab.async false
set_option linter.all false
set_option maxRecDepth 100000
set_option maxHeartbeats 1000000
namespace L2
open PySem PySem.Spec PyProof.Rows
structure Apart (z TI TO i1 i2 : Addr) (f1 f2 : List Addr) : Prop where
  zTI : z ≠ TI
  zTO : z ≠ TO
  TITO : TI ≠ TO
  TI1 : TI ≠ i1
  TI2 : TI ≠ i2
  m1 : i1 ∈ f1
  m2 : i2 ∈ f2
  z1 : z ∉ f1
  z2 : z ∉ f2
  t1 : TO ∉ f1
  t2 : TO ∉ f2
  i12 : i1 ∉ f2
  i21 : i2 ∉ f1
section
variable {prog : Program} {w : World} {A : Around} {E : Value → Shared → Prop} {s : Shared} {z TI TO i1 i2 : Addr} {f1 f2 : List Addr} {n1 n2 k : Nat} {P1 P2 : Nat → Value → Prop} {S1 S2 : Nat → Heap → Prop}
end
end L2

set_option Elab.async false
set_option linter.all false
set_option maxRecDepth 100000
set_option maxHeartbeats 1000000
namespace L2
open PySem PySem.Spec PyProof.Rows
theorem Aa {X : Cx} {K : PySem.W.Frag} {es : List Expr} {k n : Nat} {t : TGs} {pos : Pos} (hK : X.K = K) (hc : X.calm = true) (h : PGs X es t) (hn : (assignEach es X.env).length = n) (hst : (assignEach es X.env).findIdx? (·.1) = none) : PG X (.Tuple es k pos) (EV K n t) := by
  subst hK
  exact Gh hc h hn hst
end L2

set_option Elab.async false
set_option linter.all false
set_option maxRecDepth 100000
set_option maxHeartbeats 1000000
namespace L2
open PySem PySem.Spec PyProof.Rows
section
variable {X : Cx}
theorem xC {ns : List Int} {its : List Value} (r : Vals (ns.map V.int) its) {j : Nat} (h : j < its.length) : ∃ t, its[j] = .int (ns.getD j 0) t := by
  obtain ⟨x, e, rv⟩ := xh r h
  have hl : j < ns.length := by have := r.length; rw [List.length_map] at this; omega
  rw [List.getElem?_map, List.getElem?_eq_getElem hl] at e
  cases e
  obtain ⟨t, e⟩ := rv
  exact ⟨t, by rw [e]; simp [List.getD, hl]⟩
theorem BL {ns : List Int} (h : 0 < ns.length) : ns.getD (argBest (fun i j => decide (ns.getD i 0 > ns.getD j 0)) (ns.length - 1)) 0 ∈ ns ∧ (∀ a ∈ ns, a ≤ ns.getD (argBest (fun i j => decide (ns.getD i 0 > ns.getD j 0)) (ns.length - 1)) 0) ∧ argBest (fun i j => decide (ns.getD i 0 > ns.getD j 0)) (ns.length - 1) < ns.length := by
  obtain ⟨h1, h2⟩ := argBest_gt (fun i => ns.getD i 0) (ns.length - 1)
  have hb : argBest (fun i j => decide (ns.getD i 0 > ns.getD j 0)) (ns.length - 1) < ns.length := by
    have : argBest (fun i j => decide (ns.getD i 0 > ns.getD j 0)) (ns.length - 1) ≤ ns.length - 1 := h1
    omega
  refine ⟨?_, fun a ha => ?_, hb⟩
  · generalize argBest _ _ = k at hb
    have e : ns.getD k 0 = ns[k] := by simp [List.getD, hb]
    rw [e]
    exact List.getElem_mem hb
  · obtain ⟨j, hj, rfl⟩ := List.getElem_of_mem ha
    have := h2 j (by omega)
    have e : ns.getD j 0 = ns[j] := by simp [List.getD, hj]
    rw [← e]
    exact this
theorem yc (hc : X.calm = true) : uS X (.builtin "max") (fun xs H Q => ∃ (p : Addr) (ns : List Int), xs = [.ref p] ∧ (SqL X.K H p (ns.map V.int) ∨ SqT X.K H p (ns.map V.int)) ∧ 0 < ns.length ∧ ∀ m, m ∈ ns → (∀ a ∈ ns, a ≤ m) → Q (.int m) H) := by
  intro pins s σ H xs us Q I r h
  obtain ⟨p, ns, rfl, hq, hn, q⟩ := h
  obtain ⟨u, rfl, rx⟩ := vals1 r
  cases rx
  obtain ⟨b1, b2, b3⟩ := BL hn
  rcases hq with hq | hq
  · obtain ⟨its, r', pl, hz⟩ := I.list hq
    have hl := pl.isList
    have hlt : p < s.heap.objs.size := by obtain ⟨_, e, _⟩ := hl; exact Heap.lt_size e
    have len := r'.length
    rw [List.length_map] at len
    refine call_max_walk (wpAny_pyIter_list hl ⟨_, _, _, _, _, _, (fun i j => decide (ns.getD i 0 > ns.getD j 0)), rfl, Walks.list (A := X.A.in1) (I.ok.hd hc) s.heap.objs.size p (Nat.ne_of_lt hlt) its.toArray, ⟨⟨_, Heap.get?_push_size _ rfl, rfl, rfl⟩, hl.push _⟩, ?_, ?_, ?_, ?_⟩)
    · intro b hb
      show b < (s.heap.push _).objs.size
      rw [Heap.size_push]
      rcases List.mem_cons.mp hb with rfl | hb
      · exact Nat.lt_succ_self _
      · rcases List.mem_cons.mp hb with rfl | hb
        · exact Nat.lt_succ_of_lt hlt
        · cases hb
    · rw [List.size_toArray, ← len]
      exact hn
    · refine CmpOf.ints_gt (fun i => ns.getD i 0) fun i v hP => ?_
      have hP' : its[i]? = some v := by simpa using hP
      obtain ⟨hi, e⟩ := List.getElem?_eq_some_iff.mp hP'
      rw [← e]
      exact xC r' hi
    · intro v h' tk hP hk
      have hP' : its[argBest (fun i j => decide (ns.getD i 0 > ns.getD j 0)) (ns.length - 1)]? = some v := by
        rw [List.size_toArray, ← len] at hP
        simpa using hP
      obtain ⟨hi, e⟩ := List.getElem?_eq_some_iff.mp hP'
      obtain ⟨t, e2⟩ := xC r' hi
      exact ⟨.int _, H, I.kept (old_kept hk), ⟨t, by rw [← e, e2]⟩, q _ b1 b2⟩
  · obtain ⟨its, r', pl, hz⟩ := I.tuple hq
    have hlt : p < s.heap.objs.size := by obtain ⟨_, e, _⟩ := pl; exact Heap.lt_size e
    have len := r'.length
    rw [List.length_map] at len
    refine call_max_walk (wpAny_pyIter_tuple pl ⟨_, _, _, _, _, _, (fun i j => decide (ns.getD i 0 > ns.getD j 0)), rfl, Walks.tuple (A := X.A.in1) (I.ok.hd hc) s.heap.objs.size p (Nat.ne_of_lt hlt) its.toArray, ⟨⟨_, Heap.get?_push_size _ rfl, rfl, rfl⟩, pl.push _⟩, ?_, ?_, ?_, ?_⟩)
    · intro b hb
      show b < (s.heap.push _).objs.size
      rw [Heap.size_push]
      rcases List.mem_cons.mp hb with rfl | hb
      · exact Nat.lt_succ_self _
      · rcases List.mem_cons.mp hb with rfl | hb
        · exact Nat.lt_succ_of_lt hlt
        · cases hb
    · rw [List.size_toArray, ← len]
      exact hn
    · refine CmpOf.ints_gt (fun i => ns.getD i 0) fun i v hP => ?_
      have hP' : its[i]? = some v := by simpa using hP
      obtain ⟨hi, e⟩ := List.getElem?_eq_some_iff.mp hP'
      rw [← e]
      exact xC r' hi
    · intro v h' tk hP hk
      have hP' : its[argBest (fun i j => decide (ns.getD i 0 > ns.getD j 0)) (ns.length - 1)]? = some v := by
        rw [List.size_toArray, ← len] at hP
        simpa using hP
      obtain ⟨hi, e⟩ := List.getElem?_eq_some_iff.mp hP'
      obtain ⟨t, e2⟩ := xC r' hi
      refine ⟨.int _, H, I.kept (fun b o e => ?_), ⟨t, by rw [← e, e2]⟩, q _ b1 b2⟩
      refine hk b o (fun hm => ?_) (Heap.get?_push_of_some _ e)
      rcases List.mem_cons.mp hm with e1 | hm
      · exact absurd (e1 ▸ Heap.lt_size e) (Nat.lt_irrefl _)
      · cases hm
theorem yK : uS X (.type "int") (fun xs H Q => ∃ b, xs = [.bl b] ∧ Q (.int (if b = true then 1 else 0)) H) := by
  intro pins s σ H xs us Q I r h
  obtain ⟨b, rfl, q⟩ := h
  obtain ⟨u, rfl, rfl⟩ := vals1 r
  exact call_int_bool ⟨.int _, H, I.tok _, ⟨_, rfl⟩, q⟩
abbrev Sq (K : PySem.W.Frag) (H : Hp) (a : Addr) (xs : List V) : Prop := SqL K H a xs ∨ SqT K H a xs
section
variable {K : PySem.W.Frag} {D : Ends} {g : TG} {tb : TS} {σ : St} {H : Hp} {a : Addr}
end
section
variable {K : PySem.W.Frag} {D a : Addr} {g : TG} {tt : TT} {te : TE} {Q : VK} {τ : St} {H : Hp}
end
end
end L2

set_option Elab.async false
set_option linter.all false
set_option maxRecDepth 100000
set_option maxHeartbeats 1000000
namespace L2
open PySem PySem.Spec PyProof.Rows
abbrev sgn (c : Nat) : V := .str ⟨#[c]⟩
abbrev txt (cs : List Nat) : Str := ⟨cs.toArray⟩
def Its (cs : List Nat) : It := ⟨fun i _ => i < cs.length, fun i H v H' => H' = H ∧ ∃ c, cs[i]? = some c ∧ v = sgn c, fun i _ => cs.length ≤ i⟩
theorem EL {P : Program} {w : World} {K : PySem.W.Frag} {tg : Expr} (it : Addr) (cs : List Nat) (t : Tok) : Turn P w K tg (Its cs) [it] it (fun i h => h.IsStrIter it "str_ascii_iterator" (txt cs) t i) where
  mem := by simp
  obj := fun i h st b hb => by
    have e : b = it := by simpa using hb
    subst e
    obtain ⟨o, e, c, d⟩ := st
    exact ⟨o, e, fun v z => by rw [d] at z; cases z⟩
  keep := fun i h h' st k => by
    obtain ⟨o, e, r⟩ := st
    exact ⟨o, k it (by simp) o e, r⟩
  item := by
    intro X hP hw hK hc i pins s σ H E I hf st hg
    subst hP hw hK
    obtain ⟨f0, f1, f2, f3, f4, f5⟩ := hf it (by simp)
    have W := Walks.strAscii (prog := X.prog) (w := X.w) (I.ok.hd hc) it (txt cs) t
    have hg' : i < (txt cs).cps.size := by simpa using (show i < cs.length from hg)
    refine W.item i s _ _ hg' st fun v h' tk hv st' kk => ?_
    obtain ⟨c, u, hcp, rfl⟩ := hv
    have I1 : Inv X pins σ H { s with heap := h', toks := tk } := I.turned (fun b o hb e => kk b o (by simpa using hb) e) f0 f1 f3 f4 f5
    obtain ⟨o, e, c', d⟩ := id st'
    exact ⟨_, rfl, C5 (s := { s with heap := h', toks := tk }) e c' d (by decide) ⟨sgn c, H, I1, ⟨u, rfl⟩, ⟨rfl, c, by simpa using hcp, rfl⟩, st', fun b hb => (hf b hb).1⟩⟩
  done := by
    intro X hP hw hK hc i pins s σ H E I hf st hg
    subst hP hw hK
    obtain ⟨f0, f1, f2, f3, f4, f5⟩ := hf it (by simp)
    have hg' : cs.length ≤ i := hg
    exact wpAny_pyNext_ascii_end (I.ok.hd hc) st (by simp; omega) fun h' eb => ⟨rfl, I.turned (t' := s.toks) (fun b o hb e => eb b o hb e) f0 f1 f3 f4 f5⟩
  self := fun _ _ _ _ _ st h => wpAny_pyIter_striter_ascii st h
section
variable {X : Cx} {tg : Expr}
def Gn (tl : TE) : TI := fun σ H R => tl σ H fun x H1 => ∃ cs, x = .str (txt cs) ∧ cs.all (fun c => decide (c < 128)) = true ∧ R (Its cs) H1
theorem GQ {l : Expr} {tl : TE} (hl : PE X l tl) : PI X tg l (Gn tl) := by
  intro pins s σ H R I h
  refine thn (hl pins s σ H _ I h) fun v s1 ⟨x, H1, I1, r1, q1⟩ => ?_
  obtain ⟨cs, e, ha, q⟩ := q1
  subst e
  obtain ⟨t, rfl⟩ := r1
  refine wpAny_pyIter_ascii (by simpa using ha) ?_
  refine ⟨s1.heap.objs.size, [s1.heap.objs.size], _, _, H1, rfl, I1.kept (t' := s1.toks) fun b o e => Heap.get?_push_of_some _ e, EL _ cs t, ⟨_, Heap.get?_push_size _ rfl, rfl, rfl⟩, fun b hb => ?_, q⟩
  have e : b = s1.heap.objs.size := by simpa using hb
  subst e
  exact I1.fpOk (Nat.le_refl _) (I1.hok.fresh (Nat.le_refl _))
end
section
variable {g : TG} {tb : TS} {D : Ends} {σ : St} {H : Hp}
theorem Ho (cs : List Nat) (Pv : Nat → St → Hp → Prop) (h0 : Pv 0 σ H)
    (hs : ∀ i c σ H, cs[i]? = some c → Pv i σ H → g (sgn c) σ H fun σ2 H2 => tb { D with nx := Pv (i + 1), ct := Pv (i + 1), bk := D.nx } σ2 H2) (hd : ∀ σ H, Pv cs.length σ H → D.nx σ H) : E8 (Its cs) g tb D σ H := by
  refine ⟨fun i m σ H => m = cs.length - i ∧ i ≤ cs.length ∧ Pv i σ H, ⟨cs.length, by simp, Nat.zero_le _, h0⟩, ?_⟩
  rintro i m σ H ⟨rfl, hi, p⟩
  by_cases hlt : i < cs.length
  · refine .inr ⟨hlt, Pv (i + 1), fun σ' H' p' => ⟨cs.length - (i + 1), by omega, rfl, hlt, p'⟩, fun x H' y => ?_⟩
    obtain ⟨e, c, hc, rfl⟩ := y
    subst e
    exact hs i c σ _ hc p
  · have e : i = cs.length := by omega
    subst e
    exact .inl ⟨Nat.le_refl _, hd σ H p⟩
end
section
variable {D : Addr} {g : TG} {tt : TT} {te : TE} {Q : VK} {τ : St} {H : Hp}
theorem DW (cs : List Nat) (Pv : Nat → St → Hp → Prop) (h0 : Pv 0 τ H)
    (hs : ∀ i c τ H (R : St → Hp → Prop), cs[i]? = some c → Pv i τ H → (∀ τ' H', Pv (i + 1) τ' H' → R τ' H') → wW D g tt te (sgn c) τ H R) (hd : ∀ τ H, Pv cs.length τ H → Q (.ref D) H) : wU D (Its cs) g tt te Q τ H := by
  refine ⟨fun i m τ H => m = cs.length - i ∧ i ≤ cs.length ∧ Pv i τ H, ⟨cs.length, by simp, Nat.zero_le _, h0⟩, ?_⟩
  rintro i m τ H2 ⟨rfl, hi, p⟩
  by_cases hlt : i < cs.length
  · refine .inr ⟨hlt, fun x H' y => ?_⟩
    obtain ⟨e, c, hc, rfl⟩ := y
    subst e
    exact hs i c τ _ (fun τ' H' => ∃ m', m' < cs.length - i ∧ m' = cs.length - (i + 1) ∧ i + 1 ≤ cs.length ∧ Pv (i + 1) τ' H') hc p fun τ' H' p' => ⟨_, by omega, rfl, hlt, p'⟩
  · have e : i = cs.length := by omega
    subst e
    exact .inl ⟨Nat.le_refl _, hd τ H2 p⟩
end
section
variable {X : Cx}
def GK : R2 := fun x y H Q => ∃ c d : Nat, x = sgn c ∧ y = sgn d ∧ Q (.bl (decide (c ≤ d))) H
theorem Ef : OpR X (compareOp .LtE) GK := by
  intro pins s σ H x y v u Q I rx ry h
  obtain ⟨c, d, rfl, rfl, q⟩ := h
  obtain ⟨t, rfl⟩ := rx
  obtain ⟨t', rfl⟩ := ry
  refine P.le_str (t8 I q ?_)
  have e : (([d] : List Nat) < [c]) ↔ d < c := by simp [List.cons_lt_cons_iff]
  show decide (c ≤ d) = !decide (([d] : List Nat) < [c])
  by_cases h : c ≤ d
  · rw [decide_eq_true h, decide_eq_false (fun z => absurd (e.mp z) (by omega))]
    rfl
  · rw [decide_eq_false h, decide_eq_true (e.mpr (by omega))]
    rfl
theorem AX : ∀ cs : List Nat, Str.join "" (cs.map fun c => (⟨#[c]⟩ : Str)) = txt cs
  | [] => rfl
  | [c] => rfl
  | c :: d :: cs => by
    have ih := AX (d :: cs)
    show (⟨#[c]⟩ : Str) ++ "" ++ Str.join "" ((d :: cs).map fun c => (⟨#[c]⟩ : Str)) = txt (c :: d :: cs)
    rw [ih]
    apply Str.ext'
    simp [Str.cps_append]
    rfl
theorem Cm : ∀ {ts : List Str} {its : List Value}, Vals (ts.map V.str) its → ∃ l : List (Str × Tok), its = strValues l ∧ l.map (·.1) = ts
  | [], _, .nil => ⟨[], rfl, rfl⟩
  | z :: ts, _, .cons ⟨t, e⟩ r => by
    subst e
    obtain ⟨l, e1, e2⟩ := Cm r
    exact ⟨(z, t) :: l, by rw [e1]; rfl, by rw [List.map_cons, e2]⟩
def rJoin (K : PySem.W.Frag) : V → List V → Hp → VK → Prop := fun x vs H Q => ∃ (p : Addr) (cs : List Nat), x = .str "" ∧ vs = [.ref p] ∧ SqL K H p (cs.map sgn) ∧ cs.length ≤ 1000 ∧ Q (.str (txt cs)) H
theorem AZ : ∀ (ts : List Str) (n : Nat), (∀ z ∈ ts, z.length = 1) → ts.foldl (fun a p => a + p.length + ("" : Str).length) n = n + ts.length
  | [], n, _ => rfl
  | z :: ts, n, h => by
    rw [List.foldl_cons, AZ ts _ fun y hy => h y (List.mem_cons_of_mem _ hy), h z (List.mem_cons_self ..), List.length_cons, show ("" : Str).length = 0 from rfl]
    omega
theorem FE : MtR X "str.join" (rJoin X.K) := by
  intro pins s σ H x vs v us Q I rx rv h
  obtain ⟨p, cs, rfl, rfl, hq, hz, q⟩ := h
  obtain ⟨t, rfl⟩ := rx
  obtain ⟨u, rfl, ru⟩ := vals1 rv
  cases ru
  obtain ⟨its, r, pl, _⟩ := I.list hq
  have r' : Vals ((cs.map fun c => (⟨#[c]⟩ : Str)).map V.str) its := by rw [List.map_map]; exact r
  obtain ⟨l, e1, e2⟩ := Cm r'
  have hl := pl.isList
  rw [e1] at hl
  have one : ∀ z ∈ cs.map (fun c => (⟨#[c]⟩ : Str)), z.length = 1 := fun z hz => by
    obtain ⟨c, _, rfl⟩ := List.mem_map.mp hz
    rfl
  have tot : Builtin.Str.tooLong ((l.map (·.1)).toArray.foldl (· + ·.length + ("" : Str).length) 0) = false := by
    rw [e2, List.foldl_toArray, AZ _ _ one, List.length_map]
    unfold Builtin.Str.tooLong
    rw [sizeLine_eq]
    simp
    omega
  refine call_meets PySem.F.slot_str_join (typeIs_str s _ t) PySem.F.entry_str_join (PySem.F.args_str_join_2 _ _) (meets_str_join_list "" t p l tot) ⟨hl, ?_⟩
  have fin : ∀ (tk' : Tok) (s' : Shared), Inv X pins σ H s' → EP X pins σ Q (.str (txt cs) tk') s' := fun tk' s' I' => ⟨.str (txt cs), H, I', ⟨tk', rfl⟩, q⟩
  have gl : Builtin.Str.glued "" (l.map (·.1)) = txt cs := by
    rw [StrLaws.glued_eq_join, e2, AX]
  have sz : (txt cs).length ≤ sizeLine := by
    show cs.toArray.size ≤ sizeLine
    rw [List.size_toArray, sizeLine_eq]
    omega
  match l, e2, gl with
  | [p1], e2, gl =>
    obtain ⟨z, tz⟩ := p1
    have : z = txt cs := gl
    subst this
    exact fin tz s I
  | [], e2, gl =>
    refine ⟨by rw [gl]; exact sz, ?_⟩
    rw [gl]
    exact fin _ _ (I.tok _)
  | p1 :: p2 :: r2, e2, gl =>
    refine ⟨by rw [gl]; exact sz, ?_⟩
    rw [gl]
    exact fin _ _ (I.tok _)
def vU (c : Nat) : Bool := decide (97 ≤ c) && decide (c ≤ 122)
end
end L2

set_option Elab.async false
set_option linter.all false
set_option maxRecDepth 100000
set_option maxHeartbeats 1000000
namespace L2
open PySem PySem.Spec PyProof.Rows
deriving instance DecidableEq for Kn
section
variable {X : Cx}
theorem yH : uS X (.type "tuple") (fun xs H Q => ∃ p ys, xs = [.ref p] ∧ SqL X.K H p ys ∧ ∀ l, H l = none → Q (.ref l) (upd H l (.tup ys))) := by
  intro pins s σ H xs us Q I r h
  obtain ⟨p, ys, rfl, hq, q⟩ := h
  exact Ax pins s σ H _ us Q I r ⟨p, ys, rfl, .inl ⟨hq, q⟩⟩
theorem xP : uS X (.type "list") (fun xs H Q => ∃ p ys, xs = [.ref p] ∧ SqL X.K H p ys ∧ ∀ l, H l = none → Q (.ref l) (upd H l (.lst ys))) := by
  intro pins s σ H xs us Q I r h
  obtain ⟨p, ys, rfl, hq, q⟩ := h
  exact A8 pins s σ H _ us Q I r ⟨p, ys, rfl, .inl hq, q⟩
end
end L2

set_option Elab.async false
set_option linter.all false
set_option maxRecDepth 100000
set_option maxHeartbeats 1000000
namespace PySem
open Sem (wp)
namespace SetL
theorem xQ : plainId "set.update.loop" = true := by decide +kernel
theorem zB : entryFor table "set.update.loop" = some Builtin.«set.update.loop» := entryFor_of_tree (by kernel_rfl)
def addS (p : (Int → Bool) × Nat) (k : Int) : (Int → Bool) × Nat := (fun k' => p.1 k' || decide (k' = k), if p.1 k = true then p.2 else p.2 + 1)
theorem FG (p : (Int → Bool) × Nat) (k : Int) : (addS p k).2 ≤ p.2 + 1 := by
  show (if p.1 k = true then p.2 else p.2 + 1) ≤ _
  split <;> omega
section
variable {prog : Program} {w : World} {A : Around} {R : Result → Shared → Prop} {I : Addr} {fp wr : List Addr} {n : Nat} {P : Nat → Value → Prop} {St : Nat → Heap → Prop}
theorem yR (W : Walks prog w A.in1 I fp wr n P St) (a : Addr) (ha : a ∉ fp) (hw : a ∉ wr) (val : Nat → Int) (hval : ∀ i v, P i v → ∃ t, v = .int (val i) t) : ∀ (k i : Nat) (s : Shared) (p : (Int → Bool) × Nat), n - i = k → i ≤ n → St i s.heap →
    s.heap.SetOf (intKind prog w) a p.1 p.2 → p.2 + k < scanBound →
    (∀ h' tk, h'.SetOf (intKind prog w) a (((List.range n).drop i).foldl (fun q j => addS q (val j)) p).1 (((List.range n).drop i).foldl (fun q j => addS q (val j)) p).2 → (∀ b o, b ∉ a :: wr → s.heap.get? b = some o → h'.get? b = some o) → R (.ok (.ret .none)) { s with heap := h', toks := tk }) →
    codeAny (model prog w) A (.builtin "set.update.loop" ⟨[.ref a, .ref I], []⟩) R s := by
  intro k
  induction k with
  | zero =>
    intro i s p hk hi hst hS hb hR
    have hin : i = n := by omega
    subst hin
    refine codeAny_builtin zB ?_
    rw [Around.under_plainId xQ _]
    show wpAny _ A.in1 (pyNext (.ref I) >>= _) _ _ s
    refine wpAny_bind (W.done s _ _ hst fun h' tk hk' => ?_)
    refine wpAny_pure ?_
    obtain ⟨o, es, ep, t, ho, r⟩ := hS
    refine hR h' tk ?_ fun b o hbw e => hk' b o (fun z => hbw (List.mem_cons_of_mem _ z)) e
    rw [List.drop_of_length_le (by simp)]
    exact ⟨o, es, ep, t, hk' a o hw ho, r⟩
  | succ k ih =>
    intro i s p hk hi hst hS hb hR
    have hlt : i < n := by omega
    have hd : (List.range n).drop i = i :: (List.range n).drop (i + 1) := by
      rw [List.drop_eq_getElem_cons (by simpa using hlt)]; simp
    refine codeAny_builtin zB ?_
    rw [Around.under_plainId xQ _]
    show wpAny _ A.in1 (pyNext (.ref I) >>= _) _ _ s
    refine wpAny_bind (W.item i s _ _ hlt hst fun v h' tk hP hst' hk' => ?_)
    obtain ⟨t, rfl⟩ := hval i v hP
    obtain ⟨o, es, ep, tt, ho, r⟩ := hS
    have hS' : h'.SetOf (intKind prog w) a p.1 p.2 := ⟨o, es, ep, tt, hk' a o hw ho, r⟩
    refine wpAny_bind (wpAny_holding ?_)
    unfold setAdd
    refine wpAny_bind ((intKind prog w).pyHash (k := val i) (by simp [intKind, Value.isInt]) ?_)
    refine wpAny_setAddHashed_of (knd := intKind prog w) (k := val i) (S := p.1) (n := p.2) (by simp [intKind, Value.isInt]) rfl hS' (by omega) fun h2 hsb hS2 => ?_
    refine wpAny_pure ⟨plainId_quiet xQ _, ih (i + 1) _ (addS p (val i)) (by omega) hlt ?_ hS2 (by have := FG p (val i); omega) fun h3 tk3 hS3 hk3 => ?_⟩
    · exact W.frame _ _ _ hst' fun b hbf o e => hsb.extBut b o (fun z => ha (z ▸ hbf)) e
    · have := hR h3 tk3
      rw [hd, List.foldl_cons] at this
      refine this hS3 fun b o hbw e => hk3 b o hbw (hsb.extBut b o (fun z => hbw (z ▸ List.mem_cons_self ..)) (hk' b o (fun z => hbw (List.mem_cons_of_mem _ z)) e))
end
theorem typeCall_set_1 (x : Value) : checkTypeCall "set" ⟨[x], []⟩ = pure () := by kernel_rfl
theorem newCall_set_1 (x : Value) : checkBuiltinCall "set.__new__" ⟨[.type "set", x], []⟩ = pure () := by kernel_rfl
theorem sub_list_set : isSubtype (.type "list") (.type "set") = pure false := by rw [isSubtype_type]; kernel_rfl
theorem sub_list_frozenset : isSubtype (.type "list") (.type "frozenset") = pure false := by rw [isSubtype_type]; kernel_rfl
section
variable {prog : Program} {w : World} {A : Around} {E : Value → Shared → Prop} {s : Shared}
theorem Aw {x : Value} {Q₁ : Value → Shared → Prop}
    (h : ∀ led : Bool, Q₁ (.ref s.heap.objs.size) { s with heap := s.heap.push { cls := .type "set", dict := none, data := .set #[] 0 (.fresh 0 0 led) } }) :
    codeAny (model prog w) A (.call (.builtin "set.__new__") ⟨[.type "set", x], []⟩) (wants Q₁ E) s := by
  refine codeAny_of_tree ?_
  show wpAny _ A.in1 (do checkBuiltinCall "set.__new__" ⟨[.type "set", x], []⟩; again (.builtin "set.__new__" ⟨[.type "set", x], []⟩)) _ _ s
  refine wpAny_bind (wpAny_of_eq (newCall_set_1 x) (wpAny_pure ⟨plainId_quiet F.plain_set_new _, codeAny_builtin F.entry_set_new ?_⟩))
  rw [Around.under_plainId F.plain_set_new _]
  unfold Builtin.«set.__new__» Builtin.Frozenset.newClass
  have hsub := sub_set_self
  obtain ⟨hp, g, d, tk, os⟩ := s
  dsimp only
  wp_walk
  refine wpAny_askSetting (wpAny_pure ?_)
  dsimp only
  simp only [newObj]
  refine wpAny_bind (wpAny_alloc (wpAny_pure ?_))
  exact wpAny_pure (h _)
theorem zD {M : Model} {self x : Value} {Q : Unit → Shared → Prop} (hT : s.TypeIs self "set") (hQ : Q () s) :
    wpAny M A (checkBuiltinCall "set.__init__" ⟨[self, x], []⟩) Q E s := by
  simp only [checkBuiltinCall, kind_set_init, split_set_init, sig_set_init]
  refine wpAny_bind (wpAny_isInstance hT sub_set_self ?_)
  simp only [Bool.not_true, Bool.false_eq_true, if_false]
  unfold Bind.checkArgs
  dsimp only
  refine wpAny_bind (m := Bind.printed "set" true _ _) (PyProof.Rows.printed_name (by decide) ?_)
  refine wpAny_bind (m := Bind.printed "*" false _ _) (PyProof.Rows.printed_star (self := self) rfl hT fun short => ?_)
  have hrn : (Manifest.Receiver.self == Manifest.Receiver.none) = false := by decide
  have hn : (if (Manifest.Receiver.self == Manifest.Receiver.none) = true then [self, x].length else [self, x].length - 1) = 1 := by simp [hrn]
  rw [hn]
  simp only [List.map_nil]
  have hc : Bind.check ⟨.positional, "set", "*", .self, [⟨"iterable", .posOnly, false⟩]⟩ "set" short 1 [] = pure () := by
    simp [Bind.check, Bind.checkCount, Bind.isPositional]
    intro h
    exact absurd h (by decide)
  rw [hc]
  exact wpAny_pure hQ
set_option maxHeartbeats 4000000 in
theorem call_set_1 {l : Addr} {its : List Value} {ns : List Int} {Q : Value → Shared → Prop} (hh : A.handled = none) (hl : s.heap.IsList l its.toArray) (hi : ∀ (j : Nat) (v : Value), its[j]? = some v → ∃ t, v = .int (ns.getD j 0) t) (hn : its.length = ns.length) (hb : ns.length < 1000)
    (h : ∀ h' tk, h'.SetOf (intKind prog w) s.heap.objs.size (ns.foldl addS (fun _ => false, 0)).1 (ns.foldl addS (fun _ => false, 0)).2 → (∀ b o, s.heap.get? b = some o → h'.get? b = some o) → Q (.ref s.heap.objs.size) { s with heap := h', toks := tk }) :
    wpAny (model prog w) A (call (.type "set") [.ref l]) Q E s := by
  obtain ⟨c, tl, hmro⟩ := F.called_set.mro
  have hmade := F.called_set.made
  have hsub := F.called_set.sub
  refine wpAny_call (codeAny_of_tree ?_)
  show wpAny _ _ (callAny (.type "set") _) _ _ _
  refine wpAny_pure ⟨Code.quiet_builtin _ (by decide +kernel), codeAny_builtin F.entry_type_call ?_⟩
  rw [Around.under_plain (weight_type_call_type "set" [.ref l] []) rfl]
  have h1 := F.called_set.notType
  have h2 := F.called_set.canCreate
  have hct := typeCall_set_1 (.ref l)
  repeat (any_goals (first | assumption | wp_step))
  refine codeAny_mono (Aw (E := E) (Q₁ := fun obj s₁ => ∃ led : Bool, obj = .ref s.heap.objs.size ∧ s₁ = { s with heap := s.heap.push { cls := .type "set", dict := none, data := .set #[] 0 (.fresh 0 0 led) } }) fun led => ⟨led, rfl, rfl⟩) fun r s₁ hr => ?_
  cases r with
  | error e => exact hr
  | ok fl =>
    cases fl with
    | ret obj =>
      obtain ⟨led, rfl, rfl⟩ := hr
      have hS : (s.heap.push { cls := .type "set", dict := none, data := .set #[] 0 (.fresh 0 0 led) }).get? s.heap.objs.size = some { cls := .type "set", dict := none, data := .set #[] 0 (.fresh 0 0 led) } := Heap.get?_push_size _ rfl
      have hT : Shared.TypeIs { s with heap := s.heap.push { cls := .type "set", dict := none, data := .set #[] 0 (.fresh 0 0 led) } } (.ref s.heap.objs.size) "set" := ⟨_, hS, rfl⟩
      have hli := F.called_set.init.lookup
      have hbi := F.called_set.init.bind (.ref s.heap.objs.size)
      repeat (any_goals (first | assumption | wp_step))
      refine codeAny_mono (codeAny_call_builtin (R := wants (fun r s₂ => r = .none ∧ Q (.ref s.heap.objs.size) s₂) E) F.called_set.init.plain F.entry_set_init (zD hT ?_)) fun r₂ s₂ hr₂ => ?_
      · obtain ⟨⟨cls, dd, data, sl⟩, ho, hc, nn, hd⟩ := hl.push { cls := .type "set", dict := none, data := .set #[] 0 (.fresh 0 0 led) }
        simp only at hc hd
        subst hc hd
        have f1 := sub_list_set
        have f2 := sub_list_frozenset
        unfold Builtin.«set.__init__» noKeywords
        have hl' : Heap.IsList (s.heap.push { cls := .type "set", dict := none, data := .set #[] 0 (.fresh 0 0 led) }) l its.toArray := hl.push _
        wp_walk using wpAny_loadPart' ho, wpAny_pyIter_list hl'
        have hlt : l < s.heap.objs.size := by obtain ⟨_, e, _⟩ := hl; exact Heap.lt_size e
        have hsz : (s.heap.push { cls := .type "set", dict := none, data := .set #[] 0 (.fresh 0 0 led) }).objs.size = s.heap.objs.size + 1 := Heap.size_push ..
        have hS0 : Heap.SetOf (intKind prog w) (s.heap.push { cls := .type "set", dict := none, data := .set #[] 0 (.fresh 0 0 led) }) s.heap.objs.size (fun _ => false) 0 :=
          ⟨_, #[], 0, _, Heap.get?_push_size _ rfl, ⟨rfl, rfl, rfl⟩, rfl, fun e he => by simp at he, fun k => by simp, by decide, by rfl, rfl⟩
        refine yR (Walks.list (A := A.in1.in1.in1) hh _ l (by show l ≠ (s.heap.push _).objs.size; rw [hsz]; exact Nat.ne_of_lt (Nat.lt_succ_of_lt hlt)) its.toArray) s.heap.objs.size ?_ ?_ (fun j => ns.getD j 0) (fun j v hP => hi j v (by simpa using hP)) its.toArray.size 0 _ (fun _ => false, 0) (Nat.sub_zero _) (Nat.zero_le _) ⟨⟨_, Heap.get?_push_size _ rfl, rfl, rfl⟩, hl'.push _⟩ ?_ ?_ ?_
        · show s.heap.objs.size ∉ [(s.heap.push _).objs.size, l]
          rw [hsz]
          intro hm
          rcases List.mem_cons.mp hm with e | hm
          · exact absurd e (Nat.ne_of_lt (Nat.lt_succ_self _))
          · exact absurd (List.mem_singleton.mp hm) (Nat.ne_of_gt hlt)
        · show s.heap.objs.size ∉ [(s.heap.push _).objs.size]
          rw [hsz]
          simp
        · obtain ⟨o, es, ep, t, ho', r⟩ := hS0
          exact ⟨o, es, ep, t, Heap.get?_push_of_some _ ho', r⟩
        · show 0 + its.toArray.size < scanBound
          rw [List.size_toArray, hn]
          exact Nat.lt_of_lt_of_le (m := 1000) (by omega) (by decide)
        · intro h' tk hS' hk
          have fe : ((List.range its.toArray.size).drop 0).foldl (fun q j => addS q (ns.getD j 0)) (fun _ => false, 0) = ns.foldl addS (fun _ => false, 0) := by
            rw [List.drop_zero, List.size_toArray, hn, ← List.foldl_map (f := fun j => ns.getD j 0)]
            congr 1
            apply List.ext_getElem (by simp)
            intro i h1 h2
            simp [List.getD, h2]
          rw [fe] at hS'
          refine wpAny_pure (wpAny_pure ⟨rfl, h h' tk hS' fun b o e => hk b o (fun hm => ?_) (Heap.get?_push_of_some _ (Heap.get?_push_of_some _ e))⟩)
          have lb := Heap.lt_size e
          have hm' : b ∈ [s.heap.objs.size, (s.heap.push { cls := .type "set", dict := none, data := .set #[] 0 (.fresh 0 0 led) }).objs.size] := hm
          rw [hsz] at hm'
          rcases List.mem_cons.mp hm' with z | z
          · exact absurd lb (by rw [z]; exact Nat.lt_irrefl _)
          · exact absurd lb (by rw [List.mem_singleton.mp z]; exact Nat.not_lt.mpr (Nat.le_succ _))
      · cases r₂ with
        | error e => exact hr₂
        | ok fl₂ =>
          cases fl₂ with
          | ret r =>
            obtain ⟨rfl, hq⟩ := hr₂
            repeat (any_goals (first | assumption | wp_step))
          | _ => exact hr₂.elim
    | _ => exact hr.elim
end
end SetL
end PySem
namespace L2
open PySem PySem.Spec PyProof.Rows
section
variable {X : Cx}
theorem BQ (hc : X.calm = true) : uS X (.type "set") (fun xs H Q => ∃ (p : Addr) (ns : List Int), xs = [.ref p] ∧ SqL X.K H p (ns.map V.int) ∧ ns.length < 1000 ∧ ∀ l, H l = none → Q (.ref l) (upd H l (.set (ns.foldl PySem.SetL.addS (fun _ => false, 0)).1 (ns.foldl PySem.SetL.addS (fun _ => false, 0)).2))) := by
  intro pins s σ H xs us Q I r h
  obtain ⟨p, ns, rfl, hq, hb, q⟩ := h
  obtain ⟨u, rfl, rx⟩ := vals1 r
  cases rx
  obtain ⟨its, r', pl, hz⟩ := I.list hq
  have len := r'.length
  rw [List.length_map] at len
  refine PySem.SetL.call_set_1 (I.ok.hd hc) pl.isList (fun j v e => ?_) len.symm hb fun h' tk hS hk => ?_
  · obtain ⟨hj, e'⟩ := List.getElem?_eq_some_iff.mp e
    rw [← e']
    exact xC r' hj
  · exact ⟨.ref s.heap.objs.size, _, I.laid (o := .set _ _) hk (Nat.le_refl _) hS, rfl, q _ (I.hok.fresh (Nat.le_refl _))⟩
theorem Ao : uS X (.builtin "len") (fun xs H Q => ∃ (p : Addr) (S : Int → Bool) (n : Nat), xs = [.ref p] ∧ H p = some (.set S n) ∧ Q (.int n) H) := by
  intro pins s σ H xs us Q I r h
  obtain ⟨p, S, n, rfl, hp, q⟩ := h
  obtain ⟨u, rfl, rx⟩ := vals1 r
  cases rx
  obtain ⟨o, es, ep, t, ho, hex, hd, hel, hmem, hb, hf, hn⟩ := (show ObjOk X.prog X.w H s.heap p (.set S n) from I.hok p _ hp)
  refine PySem.call_len_set ho hex hd hf ?_ ⟨.int n, H, I.tok _, ⟨_, by rw [hn]⟩, q⟩
  have : es.size < 4096 := hb
  omega
end
end L2

set_option Elab.async false
set_option linter.all false
set_option maxRecDepth 100000
set_option maxHeartbeats 1000000
namespace L2
open PySem PySem.Spec PyProof.Rows
mutual
inductive Rep (K : PySem.W.Frag) (H : Hp) : V → PyData → Prop
  | non : Rep K H .non .none
  | bl (b : Bool) : Rep K H (.bl b) (.bool b)
  | int (i : Int) : Rep K H (.int i) (.int i)
  | str (z : Str) : Rep K H (.str z) (.str z)
  | lst {a : Addr} {xs : List V} {ds : List PyData} : SqL K H a xs → RepAll K H xs ds → Rep K H (.ref a) (.list ds)
  | tup {a : Addr} {xs : List V} {ds : List PyData} : SqT K H a xs → RepAll K H xs ds → Rep K H (.ref a) (.tuple ds)
inductive RepAll (K : PySem.W.Frag) (H : Hp) : List V → List PyData → Prop
  | nil : RepAll K H [] []
  | cons {x : V} {d : PyData} {xs : List V} {ds : List PyData} : Rep K H x d → RepAll K H xs ds → RepAll K H (x :: xs) (d :: ds)
end
theorem A0 {K : PySem.W.Frag} {H H' : Hp} {a : Addr} {xs : List V} (e : Same H H') (h : SqT K H a xs) : SqT K H' a xs := by
  rcases h with (h | ⟨o, h⟩) | h
  · exact .inl (.inl (e _ _ h))
  · exact .inl (.inr ⟨o, e _ _ h⟩)
  · exact .inr h
mutual
theorem Rep.same {K : PySem.W.Frag} {H H' : Hp} (e : Same H H') : ∀ {v : V} {d : PyData}, Rep K H v d → Rep K H' v d
  | _, _, .non => .non
  | _, _, .bl b => .bl b
  | _, _, .int i => .int i
  | _, _, .str z => .str z
  | _, _, .lst h r => .lst (e.seq h) (RepAll.same e r)
  | _, _, .tup h r => .tup (A0 e h) (RepAll.same e r)
theorem RepAll.same {K : PySem.W.Frag} {H H' : Hp} (e : Same H H') : ∀ {xs : List V} {ds : List PyData}, RepAll K H xs ds → RepAll K H' xs ds
  | _, _, .nil => .nil
  | _, _, .cons h r => .cons (Rep.same e h) (RepAll.same e r)
end
section
variable {X : Cx} {pins : List (Addr × Obj)} {σ : St} {H : Hp} {s : Shared}
mutual
theorem Rep.reads (I : Inv X pins σ H s) : ∀ {v : V} {d : PyData} {u : Value}, Rep X.K H v d → RelV v u → ∃ as, Reads s.heap u d as
  | _, _, u, .non, r => by
    obtain rfl : u = Value.none := r
    exact ⟨[], .none⟩
  | _, _, u, .bl b, r => by
    obtain rfl : u = Value.bool b := r
    exact ⟨[], .bool b⟩
  | _, _, u, .int i, r => by
    obtain ⟨t, rfl⟩ := r
    exact ⟨[], .int i t⟩
  | _, _, u, .str z, r => by
    obtain ⟨t, rfl⟩ := r
    exact ⟨[], .str z t⟩
  | _, _, u, .lst (a := a) h ra, r => by
    obtain rfl : u = Value.ref a := r
    obtain ⟨its, rv, ⟨o, n, e, c, _, dt⟩, _⟩ := I.list h
    obtain ⟨as, ra'⟩ := RepAll.reads I ra rv
    exact ⟨a :: as, .list e c dt (by simpa using ra')⟩
  | _, _, u, .tup (a := a) h ra, r => by
    obtain rfl : u = Value.ref a := r
    obtain ⟨its, rv, ⟨o, e, c, n, dt⟩, _⟩ := I.tuple h
    obtain ⟨as, ra'⟩ := RepAll.reads I ra rv
    exact ⟨as, .tuple e c dt (by simpa using ra')⟩
theorem RepAll.reads (I : Inv X pins σ H s) : ∀ {xs : List V} {ds : List PyData} {us : List Value}, RepAll X.K H xs ds → Vals xs us → ∃ as, ReadsAll s.heap us ds as
  | _, _, _, .nil, .nil => ⟨[], .nil⟩
  | _, _, _, .cons h r, .cons rv rs => by
    obtain ⟨as, h1⟩ := Rep.reads I h rv
    obtain ⟨bs, h2⟩ := RepAll.reads I r rs
    exact ⟨as ++ bs, .cons h1 h2⟩
end
end
def xG (d : PyData) : Prop := d.canLay0 = true ∧ d.depth ≤ 40
theorem EY {A : Around} {k : Nat} (hr : Room k A) : A.units + 60 < cLine := Nat.lt_of_le_of_lt (Nat.add_le_add_left (by decide : 60 ≤ 64) _) hr.units
section
variable {X : Cx}
def G3 (K : PySem.W.Frag) (neg : Bool) : R2 := fun x y H Q => ∃ d e, Rep K H x d ∧ Rep K H y e ∧ xG d ∧ xG e ∧ Q (.bl (if neg then !PyData.eqv d e else PyData.eqv d e)) H
theorem GS (hu : X.A.units + 60 < cLine) : OpR X (compareOp .Eq) (G3 X.K false) := by
  intro pins s σ H x y v u Q I rx ry h
  obtain ⟨d, e, hd, he, fd, fe, q⟩ := h
  obtain ⟨as, r1⟩ := hd.reads I rx
  obtain ⟨bs, r2⟩ := he.reads I ry
  exact SeqAt.compareEq_reads r1 r2 fd.1 fe.1 (by have := fd.2; have := fe.2; omega) ⟨.bl _, H, I, rfl, q⟩
def E1 (K : PySem.W.Frag) (neg : Bool) : R2 := fun x y H Q => ∃ (p : Addr) (d : PyData) (ds : List PyData), y = .ref p ∧ Rep K H x d ∧ (Rep K H (.ref p) (.list ds) ∨ Rep K H (.ref p) (.tuple ds)) ∧ xG d ∧ xG (.list ds) ∧ Q (.bl (if neg then !(ds.any fun y => PyData.eqv y d) else ds.any fun y => PyData.eqv y d)) H
theorem Ht (hu : X.A.units + 60 < cLine) : OpR X (compareOp .In) (E1 X.K false) := by
  intro pins s σ H x y v u Q I rx ry h
  obtain ⟨p, d, ds, rfl, hd, he, fd, fe, q⟩ := h
  obtain ⟨as, r1⟩ := hd.reads I rx
  have dp : PyData.depthAll ds + 1 ≤ 40 := fe.2
  have fe1 : PyData.canLayAll0 ds = true := fe.1
  rcases he with he | he
  · obtain ⟨bs, r2⟩ := he.reads I ry
    exact SeqAt.in_list_reads r2 r1 fe1 fd.1 (by have := fd.2; omega) ⟨.bl _, H, I, rfl, q⟩
  · obtain ⟨bs, r2⟩ := he.reads I ry
    exact SeqAt.in_tuple_reads r2 r1 fe1 fd.1 (by have := fd.2; omega) ⟨.bl _, H, I, rfl, q⟩
theorem DO (hu : X.A.units + 60 < cLine) : OpR X (compareOp .NotIn) (E1 X.K true) := by
  intro pins s σ H x y v u Q I rx ry h
  obtain ⟨p, d, ds, rfl, hd, he, fd, fe, q⟩ := h
  obtain ⟨as, r1⟩ := hd.reads I rx
  have dp : PyData.depthAll ds + 1 ≤ 40 := fe.2
  have fe1 : PyData.canLayAll0 ds = true := fe.1
  rcases he with he | he
  · obtain ⟨bs, r2⟩ := he.reads I ry
    exact SeqAt.notIn_list_reads r2 r1 fe1 fd.1 (by have := fd.2; omega) ⟨.bl _, H, I, rfl, q⟩
  · obtain ⟨bs, r2⟩ := he.reads I ry
    exact SeqAt.notIn_tuple_reads r2 r1 fe1 fd.1 (by have := fd.2; omega) ⟨.bl _, H, I, rfl, q⟩
end
end L2

set_option Elab.async false
set_option linter.all false
set_option maxRecDepth 100000
set_option maxHeartbeats 1000000
namespace HT
open PySem PyProof.Rows
section
open PySem.SeqAt
open PySem.AutoSeq1 (wpAny_loadPart')
open PySem.MeetsSeq PySem.MeetsSeq2 PySem.MeetsSeq3

end
end HT

set_option Elab.async false
set_option linter.all false
set_option maxRecDepth 100000
set_option maxHeartbeats 1000000
namespace HT
open PySem PyProof.Rows PySem.SeqAt
section
variable {l b : Addr}
theorem yp {ns : List Int} {its : List Value} (r : L2.Vals (ns.map L2.V.int) its) : IntsAre its ns := L2.ints_are r
end
end HT
namespace L2
open PySem PySem.Spec PyProof.Rows
end L2

set_option Elab.async false
set_option linter.all false
set_option maxRecDepth 100000
set_option maxHeartbeats 1000000
namespace L2
open PySem PySem.Spec PyProof.Rows
def iOr (w1 w2 : TI) : TI := fun σ H R => w1 σ H R ∨ w2 σ H R
theorem C9 {X : Cx} {tg l : Expr} {w1 w2 : TI} (h1 : PI X tg l w1) (h2 : PI X tg l w2) : PI X tg l (iOr w1 w2) := fun pins s σ H R I h => by
  rcases h with h | h
  · exact h1 pins s σ H R I h
  · exact h2 pins s σ H R I h
section
variable {K : PySem.W.Frag} {a : Addr} {g : TG} {tt : TT} {te : TE} {Q : VK} {H : Hp}
theorem Ai {D : Addr} {τ : St} {H : Hp} {sq : Hp → List V → Prop} (xs : List V) (Pv : Nat → St → Hp → Prop) (h0 : Pv 0 τ H) (hl : ∀ i τ H, i ≤ xs.length → Pv i τ H → sq H xs)
    (hs : ∀ i x T τ H (R : St → Hp → Prop), xs[i]? = some x → Pv i τ H → H T = none → (∀ τ' H', Pv (i + 1) τ' H' → R τ' H') → wW D g tt te (.ref T) τ (upd H T (.tup [.int i, x])) R) (hd : ∀ τ H, Pv xs.length τ H → Q (.ref D) H) : wU D (Ite sq) g tt te Q τ H := by
  refine ⟨fun i m τ H => m = xs.length - i ∧ i ≤ xs.length ∧ Pv i τ H, ⟨xs.length, by simp, Nat.zero_le _, h0⟩, ?_⟩
  rintro i m τ H2 ⟨rfl, hi, p⟩
  have q := hl i τ H2 hi p
  by_cases hlt : i < xs.length
  · have hx : xs[i]? = some xs[i] := by simp [hlt]
    refine .inr ⟨⟨xs, _, q, hx⟩, fun x H' y => ?_⟩
    obtain ⟨T, v, hT, e1, e2, y1⟩ := y
    subst e1 e2
    exact hs i _ T τ _ (fun τ' H' => ∃ m', m' < xs.length - i ∧ m' = xs.length - (i + 1) ∧ i + 1 ≤ xs.length ∧ Pv (i + 1) τ' H') (y1 xs q) p hT fun τ' H' p' => ⟨_, by omega, rfl, hlt, p'⟩
  · have e : i = xs.length := by omega
    subst e
    exact .inl ⟨⟨xs, q, Nat.le_refl _⟩, hd τ H2 p⟩
theorem wV (xs : List V) (hq : Sq K H a xs) (ix : St) (Pv : Addr → Nat → St → Hp → Prop) (h0 : ∀ D, H D = none → Pv D 0 ix (upd H D (.lst []))) (hl : ∀ D i τ H', H D = none → Pv D i τ H' → Same H H')
    (hs : ∀ D i x T τ H' (R : St → Hp → Prop), H D = none → xs[i]? = some x → Pv D i τ H' → H' T = none → (∀ τ' H', Pv D (i + 1) τ' H' → R τ' H') → wW D g tt te (.ref T) τ (upd H' T (.tup [.int i, x])) R) (hd : ∀ D τ H', H D = none → Pv D xs.length τ H' → Q (.ref D) H') :
    ((∃ xs, SqL K H a xs) ∧ ∀ D, H D = none → wU D (Ite fun H xs => SqL K H a xs) g tt te Q ix (upd H D (.lst []))) ∨ ((∃ xs, SqT K H a xs) ∧ ∀ D, H D = none → wU D (Ite fun H xs => SqT K H a xs) g tt te Q ix (upd H D (.lst []))) := by
  rcases hq with hq | hq
  · exact .inl ⟨⟨_, hq⟩, fun D hD => Ai xs (Pv D) (h0 D hD) (fun i τ H' _ p => (hl D i τ H' hD p).seq hq) (fun i x T τ H' R hx p hT nx => hs D i x T τ H' R hD hx p hT nx) (fun τ H' => hd D τ H' hD)⟩
  · exact .inr ⟨⟨_, hq⟩, fun D hD => Ai xs (Pv D) (h0 D hD) (fun i τ H' _ p => A0 (hl D i τ H' hD p) hq) (fun i x T τ H' R hx p hT nx => hs D i x T τ H' R hD hx p hT nx) (fun τ H' => hd D τ H' hD)⟩
end
end L2

set_option Elab.async false
set_option linter.all false
set_option maxRecDepth 100000
set_option maxHeartbeats 1000000
namespace L2
open PySem PySem.Spec PyProof.Rows
section
variable {prog : Program} {w : World} {A : Around} {E : Value → Shared → Prop} {s : Shared} {z TI TO i1 i2 : Addr}
end
end L2

set_option Elab.async false
set_option linter.all false
set_option maxRecDepth 100000
set_option maxHeartbeats 1000000
namespace L2
open PySem PySem.Spec PyProof.Rows
section
variable {X : Cx}
end
section
variable {K : PySem.W.Frag} {a b : Addr} {g : TG} {tt : TT} {te : TE} {Q : VK} {H : Hp}
end
end L2

set_option Elab.async false
set_option linter.all false
set_option maxRecDepth 100000
set_option maxHeartbeats 1000000
namespace L2
open PySem PySem.Spec PyProof.Rows
section
variable {X : Cx}
def Ft : R2 := fun x y H Q => ∃ cs ds : List Nat, x = .str (txt cs) ∧ y = .str (txt ds) ∧ cs.length + ds.length ≤ 1000 ∧ Q (.str (txt (cs ++ ds))) H
theorem FD : OpR X (binaryOp .Add) Ft := by
  intro pins s σ H x y v u Q I rx ry h
  obtain ⟨cs, ds, rfl, rfl, hz, q⟩ := h
  refine C0 pins s σ H _ _ v u Q I rx ry ⟨_, _, rfl, rfl, Nat.le_trans (show cs.toArray.size + ds.toArray.size ≤ 1000 by rw [List.size_toArray, List.size_toArray]; omega) (by decide), ?_⟩
  have : (txt cs ++ txt ds : Str) = txt (cs ++ ds) := by
    apply Str.ext'
    simp [Str.cps_append]
  rw [this]
  exact q
end
section
variable {X : Cx} {CX : CXT} {x y : Str} {j k : Nat} {ps : List Str} {sp : Sp} {p pos tpos hpos np epos : Pos} {e : Expr} {es : List Expr} {t : TA} {C : Addr} {b₀ : Stmt} {suite : List Stmt} {ts : TS}
end
end L2

set_option Elab.async false
set_option linter.all false
set_option maxRecDepth 100000
set_option maxHeartbeats 1000000
namespace L2
open PySem PySem.Spec PyProof.Rows
structure Mk0 (K : PySem.W.Frag) (C : Addr) : Prop where
  makes : PySem.W.makesIn K C = true
  init : PySem.W.findIn K (.ref C) "__init__" = some (some (.builtin "object.__init__"))
  kp : PySem.W.keepIn K (.ref C) = true
def Dz (C : Addr) : TE := fun _ H Q => ∀ x dx, H x = none → H dx = none → dx ≠ x → Q (.ref x) (upd (upd H dx (.own x)) x (.ins C dx []))
section
variable {X : Cx} {C : Addr} {x : Str} {p pos apos : Pos}
theorem El {pins : List (Addr × Obj)} {σ : St} {H : Hp} {s : Shared} {Q : VK} (M : Mk0 X.K C) (I : Inv X pins σ H s)
    (h : ∀ x dx, H x = none → H dx = none → dx ≠ x → Q (.ref x) (upd (upd H dx (.own x)) x (.ins C dx []))) :
    wpAny (model X.prog X.w) X.A (call (.ref C) []) (EP X pins σ Q) X.xe s := by
  have hq := h (s.heap.objs.size + 1) s.heap.objs.size (I.hok.fresh (Nat.le_succ _)) (I.hok.fresh (Nat.le_refl _)) (Nat.ne_of_lt (Nat.lt_succ_self _))
  have I2 := Inv.made (C := C) I
  have Y := PySem.W.makes_of (M := model X.prog X.w) I.kIn M.makes
  have hx : ((s.heap.push PySem.W.emptyDict).push (PySem.W.instObj C s.heap.objs.size)).get? (s.heap.objs.size + 1) = some (PySem.W.instObj C s.heap.objs.size) := by
    have := Heap.get?_push_size (s.heap.push PySem.W.emptyDict) (o := PySem.W.instObj C s.heap.objs.size) rfl
    rwa [Heap.size_push] at this
  refine wpAny_call (DB I.kIn M.makes M.init (fun self => PySem.W.Looks.of_pure (PySem.W.oi_bind self)) ?_)
  refine codeAny_call_builtin PySem.W.oi_plain PySem.W.entry_oi (PySem.W.check_slot PySem.W.oi_kind PySem.W.oi_split (PySem.W.Looks.andThen (PySem.W.Looks.andThen (PySem.W.Looks.ld hx) PySem.W.Looks.now) (PySem.W.Looks.keeps Y.top fun b o e => Heap.get?_push_of_some (PySem.W.instObj C s.heap.objs.size) (Heap.get?_push_of_some PySem.W.emptyDict e))) (PySem.W.oi_args (Value.ref (s.heap.objs.size + 1))) ?_)
  rw [PySem.W.oi_run]
  exact wpAny_pure ⟨rfl, ⟨V.ref (s.heap.objs.size + 1), _, I2, rfl, hq⟩⟩
theorem A4 (M : Mk0 X.K C) (hg : Gl X x) (hm : X.mg x = some (.ref C)) (hdb : (x == ("__debug__" : Str)) = false := by decide) : PE X (.Call (.Name x p) [] [] pos) (Dz C) := by
  intro pins s σ H Q I h
  refine wpAny_Call_Name_kw (yy I hg hm ?_ hdb)
  exact PySem.W.callWith_K0 I.kIn M.kp (El M I h)
end
structure MkC (P : Program) (w : World) (K : PySem.W.Frag) (mg : Str → Option Value) (base : Heap) (x : Str) (C : Addr) (k : Nat) (ps : List Str) (sp : Sp) : Prop where
  ex : ∃ f fd, Mk K C f ∧ FnOk P w K mg base CX0 k f fd ps sp ∧ Binds K fd ps []
  at_ : mg x = some (.ref C)
section
variable {X : Cx} {C : Addr} {x : Str} {j k : Nat} {ps : List Str} {sp : Sp} {p pos apos : Pos} {e o : Expr} {es : List Expr} {t : TA} {ta : TE} {m : Str}
theorem uG (M : MkC X.prog X.w X.K X.mg X.base x C j ps sp) (hr : Room k X.A) (hg : Gl X x) (ha : PA X (e :: es) t) (hj : j + 1 ≤ k := by decide) (hdb : (x == ("__debug__" : Str)) = false := by decide)
    (he : starEach (e :: es) X.env = (false, eval e X.env) :: starEach es X.env := by rfl) (hpl : (backTo pos (starEach es X.env)).any (·.1) = false := by rfl) :
    PE X (.Call (.Name x p) (e :: es) [] pos) (Dp C sp [] E0 t) := by
  obtain ⟨f, fd, Mk, F, b⟩ := M.ex
  exact FL Mk F (hr.mono hj) hg M.at_ b .nil Di ha hdb he hpl
structure Disp (P : Program) (w : World) (K : PySem.W.Frag) (mg : Str → Option Value) (base : Heap) (m : Str) (k : Nat) (ps : List Str) (C : Addr) (sp : Sp) : Prop where
  cls : Cls K C
  ex : ∃ f fd, Meth K C m f ∧ FnOk P w K mg base CX0 k f fd ps sp ∧ Binds K fd ps []
def DI (D : Addr → Sp → Prop) (m : Str) (ta : TE) (t : TA) : TE := fun σ H Q => ta σ H fun x H1 => ∃ a C dx fs sp, x = .ref a ∧ H1 a = some (.ins C dx fs) ∧ fs.lookup m = none ∧ D C sp ∧ t σ H1 fun vs H2 => sp (.ref a :: vs) H2 Q E0
theorem FJ {pins : List (Addr × Obj)} {σ : St} {H : Hp} {s : Shared} {Q : VK} {us : List Value} {vs : List V} {f : Addr} {fd : FuncData} (F : FnOk X.prog X.w X.K X.mg X.base CX0 k f fd ps sp) (hr : Room k X.A) (hb : Binds X.K fd ps [])
    (I : Inv X pins σ H s) (r : Vals vs us) (h : sp vs H Q E0) : wpAny (model X.prog X.w) X.A (call (.ref f) us) (EP X pins σ Q) X.xe s := by
  have := Eg F hr hb .nil Di I r (by rw [List.append_nil]; exact h)
  exact this
theorem vn {D : Addr → Sp → Prop} {pl : Sem Bool} (he : PE X o ta) (hD : ∀ C sp, D C sp → Disp X.prog X.w X.K X.mg X.base m j ps C sp) (hr : Room k X.A) (ha : PA X (e :: es) t) (hj : j ≤ k := by decide)
    (hst : starEach (e :: es) X.env = (false, eval e X.env) :: starEach es X.env := by rfl) (hpl : (backTo pos (starEach es X.env)).any (·.1) = false := by rfl)
    (ht : eval (.Call (.Attribute o m apos) (e :: es) [] pos) X.env = (do
      let ov ← eval o X.env
      standAt apos.atName
      let (f, first) ← holding [ov] (getMethod ov m pl)
      callWith pos f first (backTo pos (starEach (e :: es) X.env)) (backToKw pos (keywordEach [] X.env))) := by rfl) :
    PE X (.Call (.Attribute o m apos) (e :: es) [] pos) (DI D m ta t) := by
  intro pins s σ H Q I h
  refine PySem.W.methodCall_KW (pl := pl) (thn (he pins s σ H _ I h) fun u s1 ⟨x, H1, I1, rx, a, C, dx, fs, sp, ex, ea, l, d, q⟩ => ?_) ht
  subst ex
  obtain rfl : u = Value.ref a := rx
  obtain ⟨c, f, fd, hm, F, hb⟩ := hD C sp d
  refine Cy I1 ea c hm l ?_
  refine PySem.W.callWith_K (first := [.ref a]) (h₀ := X.base) I.ok.mod.kin hm.kp (thn (ha pos pins s1 σ H1 _ I1 q) fun us s2 ⟨vs, H2, I2, r, q2⟩ => ⟨I2.kIn, ?_⟩) hst hpl
  exact FJ (us := .ref a :: us) (vs := .ref a :: vs) F (hr.mono hj) hb I2 (.cons rfl r) q2
end
structure ICls (K : PySem.W.Frag) (C : Addr) : Prop where
  cl : Cls K C
  ha : PySem.W.findIn K (.ref C) "__class__" = some (some (.builtin "object.__class__"))
  hn : PySem.W.specialIn K (.builtin "object.__class__") "__get__" = some (some (.builtin "getset_descriptor.__get__"))
  htk : PySem.W.takesIn K (.builtin "object.__class__") = some true
  hm : PySem.W.mroIn K C (.type "object") = some true
section
variable {X : Cx} {a b c d : Expr} {ta tb tc td : TE} {pos : Pos}
end
end L2

set_option Elab.async false
set_option linter.all false
set_option maxRecDepth 100000
set_option maxHeartbeats 1000000
namespace L2
open PySem PySem.Spec PyProof.Rows
section
variable {prog : Program} {w : World} {A : Around} {E : Value → Shared → Prop} {s : Shared} {z TI TO i1 i2 : Addr}
end
end L2

set_option Elab.async false
set_option linter.all false
set_option maxRecDepth 100000
set_option maxHeartbeats 1000000
namespace HT
open PySem PySem.Spec PyProof.Rows
section
variable {prog : Program} {w : World} {A : Around} {E : Value → Shared → Prop} {s : Shared}
end
end HT
namespace L2
open PySem PySem.Spec PyProof.Rows
end L2

set_option Elab.async false
set_option linter.all false
set_option maxRecDepth 100000
set_option maxHeartbeats 1000000
namespace L2
open PySem PySem.Spec PyProof.Rows
section
variable {X : Cx} {CX : CXT} {x y n z : Str} {j k i iz : Nat} {ps : List Str} {sp : Sp} {p zpos pos tpos hpos np epos : Pos} {e : Expr} {es : List Expr} {t : TA} {C : Addr} {b₀ : Stmt} {suite : List Stmt} {ts : TS}
end
end L2

set_option Elab.async false
set_option linter.all false
set_option maxRecDepth 100000
set_option maxHeartbeats 1000000
namespace L2
open PySem PySem.Spec PyProof.Rows
theorem Fc {X : Cx} {K : PySem.W.Frag} {tg l : Expr} {tl : TE} (h : X.K = K) (hl : PE X l tl) : PI X tg l (CS K tl) := by subst h; exact Ca hl
end L2

set_option Elab.async false
set_option linter.all false
set_option maxRecDepth 100000
set_option maxHeartbeats 1000000
namespace L2
open PySem PySem.Spec PyProof.Rows
def u0 (X : Cx) (scope : Scope) (y : Str) (cl : List (Str × Addr)) (N' : List Str) (s₀ : Shared) (H₀ : Hp) (C : Addr) (pn : List (Addr × Obj)) (ex : List Addr) : Cx where
  prog := X.prog
  w := X.w
  K := X.K
  mg := X.mg
  base := X.base
  A := X.A
  N := N'
  s₀ := s₀
  H₀ := H₀
  env := compEnvC scope ((y, C + 1) :: cl) C X.env
  outer := X.stack
  stack := X.stack
  ex := ex
  fn := fun x => x == y
  calm := X.calm
  pn := pn
  xe := fun _ _ => False
structure CompOkC (X : Cx) (scope : Scope) (y : Str) (cl : List (Str × Addr)) (N' : List Str) (ix : List Nat) (nl : Nat) : Prop where
  clos : closureFor scope X.env = pure cl
  sub : ∀ z c, cl.lookup z = some c → X.env.cells.lookup z = some c
  has : ∀ p ∈ (relabel scope X.env).names, (p.2 = .cell ∨ p.2 = .free) → (((y, 0) :: cl).lookup p.1).isSome = true
  lay : ∀ n, cellsFrom n scope.names cl = (y, n) :: cl
  push : ∀ h : Heap, pushCells h scope.names = h.push { cls := .type "cell", data := .cell none }
  kind : scope.kind = .function
  names : ∀ z ∈ scope.names, z.2 = .local → scope.names.lookup z.1 = some .local
  len : N'.length = ix.length + nl
  out : ∀ (i j : Nat) (x : Str), ix[i]? = some j → N'[i]? = some x → (x == y) = false ∧ X.N[j]? = some x ∧ (X.env.kindOf x = some .cell ∨ X.env.kindOf x = some .free) ∧ ((relabel scope X.env).names.lookup x = some .cell ∨ (relabel scope X.env).names.lookup x = some .free)
def OutsOkC (X : Cx) (scope : Scope) (y : Str) : List Nat → List Str → Prop
  | [], _ => True
  | j :: r, x :: t => ((x == y) = false ∧ X.N[j]? = some x ∧ (X.env.kindOf x = some .cell ∨ X.env.kindOf x = some .free) ∧ ((relabel scope X.env).names.lookup x = some .cell ∨ (relabel scope X.env).names.lookup x = some .free)) ∧ OutsOkC X scope y r t
  | _ :: _, [] => False
theorem OutsOkC.at {X : Cx} {scope : Scope} {y : Str} : ∀ {ix : List Nat} {N : List Str}, OutsOkC X scope y ix N → ∀ (i j : Nat) (x : Str), ix[i]? = some j → N[i]? = some x → (x == y) = false ∧ X.N[j]? = some x ∧ (X.env.kindOf x = some .cell ∨ X.env.kindOf x = some .free) ∧ ((relabel scope X.env).names.lookup x = some .cell ∨ (relabel scope X.env).names.lookup x = some .free)
  | [], _, _, i, j, y, h1, _ => by simp at h1
  | _ :: _, [], h, _, _, _, _, _ => h.elim
  | _ :: _, _ :: _, h, 0, j, y, h1, h2 => by
    simp at h1 h2
    subst h1 h2
    exact h.1
  | _ :: _, _ :: _, h, i + 1, j, y, h1, h2 => OutsOkC.at h.2 i j y (by simpa using h1) (by simpa using h2)
theorem CompOkC.make {X : Cx} {scope : Scope} {y : Str} {cl : List (Str × Addr)} {N' : List Str} {ix : List Nat} {nl : Nat} (clos : closureFor scope X.env = pure cl) (sub : ∀ p ∈ cl, X.env.cells.lookup p.1 = some p.2)
    (has : ((relabel scope X.env).names.all fun p => !(p.2 == .cell || p.2 == .free) || (((y, 0) :: cl).lookup p.1).isSome) = true) (lay : ∀ n, cellsFrom n scope.names cl = (y, n) :: cl) (push : ∀ h : Heap, pushCells h scope.names = h.push { cls := .type "cell", data := .cell none }) (kind : scope.kind = .function)
    (names : ∀ z ∈ scope.names, z.2 = .local → scope.names.lookup z.1 = some .local) (len : N'.length = ix.length + nl) (out : OutsOkC X scope y ix N') : CompOkC X scope y cl N' ix nl :=
  ⟨clos, fun z c h => sub (z, c) (PySem.mem_of_lookup h), fun p hp hc => by
    have q := List.all_eq_true.mp has p hp
    rcases hc with e | e <;> (rw [e] at q; simpa using q), lay, push, kind, names, len, out.at⟩
theorem uX {y : Str} {n : Addr} {cl : List (Str × Addr)} {x : Str} {c : Addr} (h : ((y, n) :: cl).lookup x = some c) : ((x == y) = true ∧ c = n) ∨ ((x == y) = false ∧ cl.lookup x = some c) := by
  rw [List.lookup_cons] at h
  cases e : x == y with
  | true => rw [e] at h; exact .inl ⟨rfl, by simpa using h.symm⟩
  | false => rw [e] at h; exact .inr ⟨rfl, h⟩
theorem wz {M : Model} {A : Around} {E : Value → Shared → Prop} {s : Shared} {scope : Scope} {globals : Addr} {y : Str} {cl : List (Str × Addr)} {qual : Str} {func : Option Addr} {code : Value} {outer : Env} {builtins : Addr} {Q : Env → Shared → Prop}
    (lay : ∀ n, cellsFrom n scope.names cl = (y, n) :: cl) (push : ∀ h : Heap, pushCells h scope.names = h.push { cls := .type "cell", data := .cell none })
    (hQ : Q (newEnv scope s.heap.objs.size globals ((y, s.heap.objs.size + 1) :: cl) qual func code (some outer) builtins) { s with heap := (s.heap.push { cls := .type "dict", data := .dict #[] }).push { cls := .type "cell", data := .cell none } }) :
    wpAny M A (newFunctionEnv scope globals cl [] qual func code (some outer) builtins) Q E s := by
  simp only [newFunctionEnv, Option.isSome_some, if_true]
  refine wpAny_bind (wpAny_alloc ?_)
  refine wpAny_bind (wpAny_layCells _ (fun name kind cells => by cases hkc : kind == NameKind.cell <;> simp [hkc]) _ _ _ _ ?_)
  rw [lay, push, show ({ s with heap := s.heap.push { cls := .type "dict", data := .dict #[] } } : Shared).heap.objs.size = s.heap.objs.size + 1 from Heap.size_push ..]
  refine wpAny_bind ?_
  rw [List.forIn_nil]
  exact wpAny_pure (wpAny_pure hQ)
section
variable {X : Cx} {pins : List (Addr × Obj)} {σ : St} {H : Hp} {s : Shared}
theorem Cj {scope : Scope} {y : Str} {cl : List (Str × Addr)} {N' : List Str} {ix : List Nat} {nl : Nat} {C : Addr} {fp : List Addr} (O : CompOkC X scope y cl N' ix nl) (I : Inv X pins σ H s) (hC : s.heap.objs.size ≤ C) (f : ∀ b ∈ fp, FpOk X pins H b) (lt : ∀ b ∈ fp, b < s.heap.objs.size) :
    (u0 X scope y cl N' s H C (X.pn ++ pins) fp).Ok where
  mod := I.ok.mod
  kind := O.kind
  glob := I.ok.glob
  blt := I.ok.blt
  above := hC
  inj := fun x z c h1 h2 => by
    have cl' : ∀ x, cl.lookup x = some c → c < s.heap.objs.size := fun x h => by
      obtain ⟨v, o, ho, _⟩ := I.cell x c (O.sub x c h)
      exact Heap.lt_size ho
    rcases uX h1 with ⟨a1, b1⟩ | ⟨a1, b1⟩ <;> rcases uX h2 with ⟨a2, b2⟩ | ⟨a2, b2⟩
    · exact (by simpa using a1 : x = y).trans (by simpa using a2 : z = y).symm
    · exact absurd (b1 ▸ cl' _ b2 : C + 1 < s.heap.objs.size) (Nat.not_lt.mpr (Nat.le_trans hC (Nat.le_succ _)))
    · exact absurd (b2 ▸ cl' _ b1 : C + 1 < s.heap.objs.size) (Nat.not_lt.mpr (Nat.le_trans hC (Nat.le_succ _)))
    · exact I.ok.inj x z c (O.sub x c b1) (O.sub z c b2)
  has := fun x hx => by
    have hx' : (relabel scope X.env).names.lookup x = some .cell ∨ (relabel scope X.env).names.lookup x = some .free := hx
    have q : (((y, 0) :: cl).lookup x).isSome = true := by
      rcases hx' with h | h
      · exact O.has _ (PySem.mem_of_lookup h) (.inl rfl)
      · exact O.has _ (PySem.mem_of_lookup h) (.inr rfl)
    show ∃ c, ((y, C + 1) :: cl).lookup x = some c
    rw [List.lookup_cons] at q ⊢
    cases e : x == y with
    | true => exact ⟨_, rfl⟩
    | false =>
      rw [e] at q
      exact Option.isSome_iff_exists.mp q
  cab := fun x c h h2 => by
    have h : (x == y) = true := h
    rcases uX h2 with ⟨a1, b1⟩ | ⟨a1, b1⟩
    · show s.heap.objs.size ≤ c
      rw [b1]
      exact Nat.le_trans hC (Nat.le_succ _)
    · rw [h] at a1; cases a1
  hd := I.ok.hd
  frames := I.ok.frames
  stk := .inl rfl
  exf := fun b hb => ⟨Nat.ne_of_lt (Nat.lt_of_lt_of_le (lt b hb) hC), fun x c h => by
    rcases uX h with ⟨a1, b1⟩ | ⟨a1, b1⟩
    · exact fun z => absurd (lt b hb) (by rw [← z, b1]; exact Nat.not_lt.mpr (Nat.le_trans hC (Nat.le_succ _)))
    · exact (f b hb).2.2.2.2.1 x c (O.sub x c b1)⟩
  bs := I.bs
  bsz := Nat.le_trans I.ok.bsz I.sz
  noex := fun b o e hb => by
    rcases (f b hb).2.2.2.1 with z | z
    · exact I.ok.noex b o e z
    · exact absurd (Nat.lt_of_lt_of_le (Heap.lt_size e) (Nat.le_trans I.ok.bsz z)) (Nat.lt_irrefl _)
  exfs := fun b hb z => by
    rcases List.mem_cons.mp (I.stkSub b z) with e | e
    · exact (f b hb).2.1 e
    · exact (f b hb).2.2.1 e
  funs := I.stack
  frf := I.stkFree

theorem E3 {scope : Scope} {y : Str} {cl : List (Str × Addr)} {N' : List Str} {ix : List Nat} {nl : Nat} {C : Addr} {fp : List Addr} {h' : Heap} {t' : Nat} (O : CompOkC X scope y cl N' ix nl) (I : Inv X pins σ H s) (hC : s.heap.objs.size ≤ C) (f : ∀ b ∈ fp, FpOk X pins H b) (lt : ∀ b ∈ fp, b < s.heap.objs.size)
    (hn : h'.Ns C fun _ => none) (hcl : h'.IsCell (C + 1) none) (k : ∀ b o, s.heap.get? b = some o → h'.get? b = some o) :
    Inv (u0 X scope y cl N' s H C (X.pn ++ pins) fp) [] (slots ix σ ++ List.replicate nl none) H { s with heap := h', toks := t' } := by
  refine ⟨Cj O I hC f lt, rfl, I.bare, Un.kept k, ⟨_, hn, fun i x v e1 e2 e3 => ?_⟩, fun x c e => ?_, I.hok.fresh hC, fun x c e => ?_, fun p hp => ?_, I.hok.kept k, ?_⟩
  · have e1 : N'[i]? = some x := e1
    have hi : i < ix.length := by
      by_cases hi : i < ix.length
      · exact hi
      · rw [List.getElem?_append_right (by simpa [slots] using hi)] at e2
        rw [List.getElem?_replicate] at e2
        split at e2 <;> cases e2
    have e2' : (σ[ix[i]]?).getD none = some v := by
      rw [List.getElem?_append_left (by simpa [slots] using hi)] at e2
      simpa [slots, hi] using e2
    have e4 : σ[ix[i]]? = some (some v) := by
      cases q : σ[ix[i]]? with
      | none => rw [q] at e2'; cases e2'
      | some z => rw [q] at e2'; exact congrArg some e2'
    obtain ⟨o0, o1, o2, o3⟩ := O.out i ix[i] x (by simp [hi]) e1
    obtain ⟨m, hm, hl⟩ := I.loc
    have vis : Vis X.env.scope x := by
      rcases o2 with z | z
      · exact .inr (.inl z)
      · exact .inr (.inr z)
    obtain ⟨u, r, l⟩ := hl _ x v o1 e4 vis
    rcases l with ⟨z, _⟩ | ⟨_, c, hc, o, ho, hd⟩
    · rcases o2 with y | y <;> (rw [y] at z; cases z)
    · obtain ⟨c', hc'⟩ := (Cj O I hC f lt).has x o3
      have z := O.sub x c' (by
        rcases uX hc' with ⟨a1, _⟩ | ⟨_, b1⟩
        · rw [o0] at a1; cases a1
        · exact b1)
      rw [hc] at z
      cases z
      exact ⟨u, r, .inr ⟨o3, c, hc', o, k _ _ ho, hd⟩⟩
  · rcases uX e with ⟨_, b1⟩ | ⟨_, b1⟩
    · exact ⟨none, b1 ▸ hcl⟩
    · obtain ⟨v, q⟩ := I.cell x c (O.sub x c b1)
      exact ⟨v, by obtain ⟨o, ho, hd⟩ := q; exact ⟨o, k _ _ ho, hd⟩⟩
  · rcases uX e with ⟨_, b1⟩ | ⟨_, b1⟩
    · exact b1 ▸ I.hok.fresh (Nat.le_trans hC (Nat.le_succ _))
    · exact I.freeC x c (O.sub x c b1)
  · have hp' : p ∈ X.pn ++ pins := by
      have z : p ∈ (X.pn ++ pins) ++ [] := hp
      rwa [List.append_nil] at z
    obtain ⟨a1, a2, a3, a4, a5⟩ := I.pin p hp'
    refine ⟨k _ _ a1, a2, Nat.ne_of_lt (Nat.lt_of_lt_of_le (Heap.lt_size a1) hC), fun z => ?_, a5⟩
    rcases List.mem_cons.mp (I.stkSub p.1 z) with e | e
    · exact a3 e
    · exact a4 e
  · show (slots ix σ ++ List.replicate nl none).length = N'.length
    rw [List.length_append, List.length_replicate, O.len]
    simp [slots]

theorem DM {scope : Scope} {y : Str} {cl : List (Str × Addr)} {N' : List Str} {C : Addr} {fp : List Addr} {s' : Shared} {τ : St} {H' : Hp} (I : Inv X pins σ H s) (f : ∀ b ∈ fp, FpOk X pins H b)
    (J : Inv (u0 X scope y cl N' s H C (X.pn ++ pins) fp) [] τ H' s') : Inv X pins σ H' s' :=
  I.call' J.os J.base J.hok J.bare fun b hb => ⟨(f b hb).2.2.2.1, (f b hb).2.1, (f b hb).2.2.2.2.1, (f b hb).2.2.2.2.2⟩
theorem Ea {elt iter tg : Expr} {ifs : List Expr} {scope : Scope} {pos : Pos} {y : Str} {cl : List (Str × Addr)} {N' : List Str} {C D it : Addr} {fp : List Addr} {tn : Nat → Heap → Prop} {J : It} {g : TG} {tt : TT} {te : TE} {s₄ : Shared} {W : Nat → Nat → St → Hp → Prop} {Q : VK}
    {τ : St} {H₀ : Hp} {s₃ : Shared} {pn : List (Addr × Obj)} {m0 : Nat} {R : Result → Shared → Prop} (hc : X.calm = true) (T : Turn X.prog X.w X.K tg J fp it tn)
    (f : ∀ H', (∀ b ∈ fp, H' b = none) → ∀ b ∈ fp, FpOk (u0 X scope y cl N' s₃ H₀ C pn fp) [] H' b)
    (hg : PG (u0 X scope y cl N' s₃ H₀ C pn fp) tg g) (ht : xH (u0 X scope y cl N' s₃ H₀ C pn fp) ifs tt) (he : PE (u0 X scope y cl N' s₃ H₀ C pn fp) elt te)
    (I4 : Inv (u0 X scope y cl N' s₃ H₀ C pn fp) [] τ H s₄) (st : tn 0 s₄.heap) (fr : ∀ b ∈ fp, H b = none) (w0 : W 0 m0 τ H) (hW : yr D J g tt te Q W)
    (fin : ∀ τ' H' s', Inv (u0 X scope y cl N' s₃ H₀ C pn fp) [] τ' H' s' → Q (.ref D) H' → R (.ok .next) s') :
    codeAny (model X.prog X.w) X.A (.compLoop (.ListComp elt [⟨tg, iter, ifs, 0⟩] scope pos) 0 (.ref it) (.ref D) (compEnvC scope ((y, C + 1) :: cl) C X.env)) R s₄ := by
  refine yO (fun n s' => ∃ i τ' H', Inv (u0 X scope y cl N' s₃ H₀ C pn fp) [] τ' H' s' ∧ tn i s'.heap ∧ (∀ b ∈ fp, H' b = none) ∧ W i n τ' H') ?_ m0 ⟨0, τ, H, I4, st, fr, w0⟩
  rintro n s5 ⟨i, τ5, H5, I5, st5, fr5, w5⟩
  rcases hW i n τ5 H5 w5 with ⟨stop, q⟩ | ⟨go, step⟩
  · refine thn (T.done (u0 X scope y cl N' s₃ H₀ C pn fp) rfl rfl rfl hc i [] s5 τ5 H5 (fun _ _ => False) I5 (f H5 fr5) st5 stop) fun r s6 ⟨hr, I6⟩ => ?_
    subst hr
    exact fin τ5 H5 s6 I6 q
  · refine thn (T.item (u0 X scope y cl N' s₃ H₀ C pn fp) rfl rfl rfl hc i [] s5 τ5 H5 (fun _ _ => False) I5 (f H5 fr5) st5 go) fun r s6 ⟨u, hr, h6⟩ => ?_
    subst hr
    refine thn h6 fun _ s7 ⟨x, H7, I7, r7, y7, st7, fr7⟩ => ?_
    have I7' := I7.pinned (f H7 fr7) (T.obj _ _ st7)
    have keep : ∀ {τ8 : St} {H8 : Hp} {s8 : Shared}, Inv (u0 X scope y cl N' s₃ H₀ C pn fp) ([] ++ xw fp s7.heap) τ8 H8 s8 → Inv (u0 X scope y cl N' s₃ H₀ C pn fp) [] τ8 H8 s8 ∧ tn (i + 1) s8.heap ∧ ∀ b ∈ fp, H8 b = none := fun {τ8 H8 s8} I8 => by
      refine ⟨I8.unpinned, T.keep _ _ _ st7 fun b hb o e => (I8.pin (b, o) (List.mem_append_right _ (List.mem_append_right _ (vp hb e)))).1, fun b hb => ?_⟩
      obtain ⟨o, e, d⟩ := T.obj _ _ st7 b hb
      exact (I8.pin (b, o) (List.mem_append_right _ (List.mem_append_right _ (vp hb e)))).2.1
    refine thn (hg _ s7 τ5 H7 x u _ I7' r7 (step x H7 y7)) fun _ s8 ⟨τ8, H8, I8, q8⟩ => ?_
    refine thn (ht _ s8 τ8 H8 _ I8 q8) fun b s9 ⟨H9, I9, q9⟩ => ?_
    cases b with
    | false =>
      obtain ⟨m', hm, w'⟩ := q9
      obtain ⟨k1, k2, k3⟩ := keep I9
      exact ⟨m', hm, i + 1, τ8, H9, k1, k2, k3, w'⟩
    | true =>
      refine thn (he _ s9 τ8 H9 _ I9 q9) fun y s10 ⟨v, H10, I10, r10, ys, hD, hl, m', hm, w'⟩ => ?_
      refine thn (wM _ s10 τ8 H10 (.ref D) [v] (.ref D) [y] (fun _ H11 => W (i + 1) m' τ8 H11) I10 rfl (.cons r10 .nil) ⟨D, ys, v, rfl, rfl, hD, hl, w'⟩) fun z s11 ⟨_, H11, I11, _, w11⟩ => ?_
      obtain ⟨k1, k2, k3⟩ := keep I11
      exact ⟨m', hm, i + 1, τ8, H11, k1, k2, k3, w11⟩
end

section
variable {X : Cx} {elt iter tg : Expr} {ifs : List Expr} {scope : Scope} {pos : Pos} {y : Str} {cl : List (Str × Addr)} {N' : List Str} {ix : List Nat} {nl : Nat} {wi : TI} {g : TG} {tt : TT} {te : TE}
theorem DS {pins : List (Addr × Obj)} {σ : St} {H1 : Hp} {s2 : Shared} {Q : VK} {it : Addr} {fp : List Addr} {tn : Nat → Heap → Prop} {J : It} {RR : Value → Addr → Result → Shared → Prop} {E : Value → Shared → Prop}
    (hc : X.calm = true) (O : CompOkC X scope y cl N' ix nl) (hg : ∀ s₀ H₀ C pn ex, PG (u0 X scope y cl N' s₀ H₀ C pn ex) tg g) (ht : ∀ s₀ H₀ C pn ex, xH (u0 X scope y cl N' s₀ H₀ C pn ex) ifs tt)
    (he : ∀ s₀ H₀ C pn ex, PE (u0 X scope y cl N' s₀ H₀ C pn ex) elt te) (I1 : Inv X pins σ H1 s2) (T : Turn X.prog X.w X.K tg J fp it tn) (st : tn 0 s2.heap) (f1 : ∀ b ∈ fp, FpOk X pins H1 b)
    (q : ∀ D, H1 D = none → ∃ W : Nat → Nat → St → Hp → Prop, (∃ m, W 0 m (slots ix σ ++ List.replicate nl none) (upd H1 D (.lst []))) ∧ yr D J g tt te Q W)
    (fin : ∀ D C H' s', Left X pins σ C H' s' → Q (.ref D) H' → RR (.ref D) C (.ok .next) s') :
    wpAny (model X.prog X.w) X.A (newList []) (fun acc s₃ => wpAny (model X.prog X.w) X.A (newFunctionEnv scope X.env.globals cl [] X.env.qual none .none (some X.env)) (fun cenv s₄ =>
      codeAny (model X.prog X.w) X.A (.compStart (.ListComp elt [⟨tg, iter, ifs, 0⟩] scope pos) 0 (.ref it) acc { cenv with scope := relabel scope X.env }) (RR acc cenv.locals) s₄) E s₃) E s2 := by
  refine wpAny_newObj_type (wz O.lay O.push ?_)
  obtain ⟨h₁, hh₁⟩ : ∃ h₁ : Heap, h₁ = ((s2.heap.push { cls := .type "list", data := .seq ([] : List Value).toArray }).push { cls := .type "dict", data := .dict #[] }).push { cls := .type "cell", data := .cell none } := ⟨_, rfl⟩
  have hns₁ : h₁.Ns (s2.heap.push { cls := .type "list", data := .seq ([] : List Value).toArray }).objs.size fun _ => none := by
    rw [hh₁]
    exact (Heap.Ns.new _ _).keeps fun b o e => Heap.get?_push_of_some _ e
  have hcl₁ : h₁.IsCell ((s2.heap.push { cls := .type "list", data := .seq ([] : List Value).toArray }).objs.size + 1) none := by
    rw [hh₁]
    have e : (s2.heap.push { cls := .type "list", data := .seq ([] : List Value).toArray }).objs.size + 1 = ((s2.heap.push { cls := .type "list", data := .seq ([] : List Value).toArray }).push { cls := .type "dict", data := .dict #[] }).objs.size := (Heap.size_push ..).symm
    rw [e]
    exact ⟨{ cls := .type "cell", data := .cell none }, Heap.get?_push_size _ rfl, rfl⟩
  have hf : H1 s2.heap.objs.size = none := I1.hok.fresh (Nat.le_refl _)
  obtain ⟨W, ⟨m0, w0⟩, hW⟩ := q s2.heap.objs.size hf
  have lt : ∀ b ∈ fp, b < s2.heap.objs.size := fun b hb => by
    obtain ⟨o, e, _⟩ := T.obj _ _ st b hb
    exact Heap.lt_size e
  have I3 : Inv X pins σ (upd H1 s2.heap.objs.size (.lst [])) { s2 with heap := s2.heap.push { cls := .type "list", data := .seq ([] : List Value).toArray } } :=
    I1.laid (t' := s2.toks) (fun b u e => Heap.get?_push_of_some _ e) (Nat.le_refl _) ⟨Nat.zero_le _, [], 0, .nil, Heap.get?_push_size _ rfl⟩
  have f3 : ∀ b ∈ fp, FpOk X pins (upd H1 s2.heap.objs.size (.lst [])) b := fun b hb => ⟨by rw [tP (Nat.ne_of_lt (lt b hb))]; exact (f1 b hb).1, (f1 b hb).2⟩
  have sz : (s2.heap.push { cls := .type "list", data := .seq ([] : List Value).toArray }).objs.size = s2.heap.objs.size + 1 := Heap.size_push ..
  have lt3 : ∀ b ∈ fp, b < (s2.heap.push { cls := .type "list", data := .seq ([] : List Value).toArray }).objs.size := fun b hb => by rw [sz]; exact Nat.lt_succ_of_lt (lt b hb)
  have k3 : ∀ b o, (s2.heap.push { cls := .type "list", data := .seq ([] : List Value).toArray }).get? b = some o → h₁.get? b = some o := fun b o e => by rw [hh₁]; exact Heap.get?_push_of_some _ (Heap.get?_push_of_some _ e)
  have I4 := E3 (t' := s2.toks) O I3 (Nat.le_refl _) f3 lt3 hns₁ hcl₁ k3
  have st4 : tn 0 h₁ := T.keep _ _ _ st fun b hb o e => k3 b o (Heap.get?_push_of_some _ e)
  have fB : ∀ H', (∀ b ∈ fp, H' b = none) → ∀ b ∈ fp, FpOk (u0 X scope y cl N' { s2 with heap := s2.heap.push { cls := .type "list", data := .seq ([] : List Value).toArray } } (upd H1 s2.heap.objs.size (.lst [])) (s2.heap.push { cls := .type "list", data := .seq ([] : List Value).toArray }).objs.size (X.pn ++ pins) fp) [] H' b := fun H' hn b hb => by
    refine ⟨hn b hb, Nat.ne_of_lt (lt3 b hb), ?_, .inl hb, fun x c h => ?_, fun p hp => ?_⟩
    · intro z
      rcases List.mem_cons.mp (I3.stkSub b z) with e | e
      · exact (f1 b hb).2.1 e
      · exact (f1 b hb).2.2.1 e
    · rcases uX h with ⟨_, b1⟩ | ⟨_, b1⟩
      · exact fun z => absurd (lt3 b hb) (by rw [← z, b1]; exact Nat.not_lt.mpr (Nat.le_succ _))
      · exact (f1 b hb).2.2.2.2.1 x c (O.sub x c b1)
    · have hp' : p ∈ X.pn ++ pins := by
        have z : p ∈ (X.pn ++ pins) ++ [] := hp
        rwa [List.append_nil] at z
      exact (f1 b hb).2.2.2.2.2 p hp'
  have loop := Ea (pos := pos) (iter := iter) (R := RR (.ref s2.heap.objs.size) (s2.heap.push { cls := .type "list", data := .seq ([] : List Value).toArray }).objs.size) hc T fB (hg _ _ _ _ _) (ht _ _ _ _ _) (he _ _ _ _ _) I4 st4 (fun b hb => (f3 b hb).1) w0 hW (fun τ' H' s' J' qf => by
    obtain ⟨m, hm, _⟩ := J'.loc
    refine fin _ _ H' s' ⟨DM I3 f3 J', ⟨m, hm⟩, I3.sz, Nat.ne_of_gt I3.lt, fun x c e z => ?_, fun p hp z => ?_, J'.free⟩ qf
    · obtain ⟨v, o, ho, _⟩ := I3.cell x c e
      exact absurd (Heap.lt_size ho) (by rw [z]; exact Nat.lt_irrefl _)
    · exact absurd (Heap.lt_size (I3.pin p hp).1) (by rw [z]; exact Nat.lt_irrefl _))
  rw [← hh₁]
  exact codeAny_compStart_list loop (T.self _ 0 _ _ _ st4 loop)
theorem EG (hc : X.calm = true) (O : CompOkC X scope y cl N' ix nl) (hi : PI X tg iter wi) (hg : ∀ s₀ H₀ C pn ex, PG (u0 X scope y cl N' s₀ H₀ C pn ex) tg g) (ht : ∀ s₀ H₀ C pn ex, xH (u0 X scope y cl N' s₀ H₀ C pn ex) ifs tt)
    (he : ∀ s₀ H₀ C pn ex, PE (u0 X scope y cl N' s₀ H₀ C pn ex) elt te) (hs : ∀ x, foldedSetIterable iter X.env x = pure x := by intro _; rfl) :
    PE X (.ListComp elt [⟨tg, iter, ifs, 0⟩] scope pos) (AB ix nl wi g tt te) := by
  intro pins s σ H Q I h
  rw [eval_ListComp]
  refine wpAny_comprehension_free (use := none) rfl hs O.clos O.kind O.names (thn (hi pins s σ H _ I h) fun xv s1 h1 => thn h1 fun itv s2 h2 => ?_)
  obtain ⟨it, fp, tn, J, H1, rfl, I1, T, st, f1, q⟩ := h2
  refine DS (RR := fun acc C => compPost (model X.prog X.w) X.A X.xe none (EP X pins σ Q) acc C) hc O hg ht he I1 T st f1 q (fun D C H' s' L qf => ?_)
  obtain ⟨m, hm⟩ := L.ns
  exact ⟨m, hm, fun h' sb => ⟨.ref D, H', L.inv.letgo L.sz L.loc L.cel L.pin L.non sb, rfl, qf⟩⟩
end
end L2

set_option Elab.async false
set_option linter.all false
set_option maxRecDepth 100000
set_option maxHeartbeats 1000000
namespace L2
open PySem PySem.Spec PyProof.Rows
section
variable {prog : Program} {w : World} {A : Around} {s : Shared} {R : Result → Shared → Prop}
variable {I : Addr} {fp wr : List Addr} {G : Array GenState → Array GenState → Prop} {n : Nat} {P : Nat → Value → Prop} {St : Nat → Shared → Prop} {T : String}
def AE (prog : Program) (w : World) (A : Around) (I : Addr) (St : Nat → Shared → Prop) : Prop :=
  ∀ (s : Shared) (Q : Bool → Shared → Prop) (E : Value → Shared → Prop), St 0 s → (∀ b tk, s.toks ≤ tk → Q b { s with toks := tk }) → wpAny (model prog w) A (Builtin.List.listLengthHint (.ref I)) Q E s
theorem zu (W : WalksS prog w A.in1 I fp wr G n P St) (hT : ∀ i s, St i s → s.TypeIs (.ref I) T) (h2 : (Value.type T == Value.type "list") = false) (h3 : (Value.type T == Value.type "tuple") = false) (hint : AE prog w A.in1 I St)
    (S : Addr) (res : Value) (c₀ : Nat) (hst : St 0 s) (hSf : S ∉ fp) (hI : I ∈ fp)
    (hS : s.heap.get? S = some { cls := .type "list", data := .seq #[] c₀ })
    (hR : ∀ s' acc' c', Moved (S :: wr) G s s' → s'.heap.get? S = some { cls := .type "list", dict := none, data := .seq acc' c', slots := #[] } → ItemsOf P acc' n → R (.ok (.ret res)) s') (hn : n ≤ sizeLine) :
    wpAny (model prog w) A.in1 (Builtin.List.listExtendWith (.ref S) (.ref I) res)
      (fun fin s' => match fin with | .done f => R (.ok f) s' | .again c' => c'.quiet = true ∧ codeAny (model prog w) A c' R s') (fun e s' => R (.error e) s') s := by
  have hSI : S ≠ I := fun e => hSf (e ▸ hI)
  unfold Builtin.List.listExtendWith
  refine wpAny_bind (wpAny_typeOf (hT 0 _ hst) ?_)
  have h1 : Builtin.List.listSameRef (.ref S) (.ref I) = false := by simp [Builtin.List.listSameRef, hSI]
  simp only [h1, h2, h3, Bool.or_false, Bool.false_eq_true, if_false]
  refine wpAny_bind (W.self 0 _ _ _ hst ?_)
  refine wpAny_bind (wpAny_holding (hint _ _ _ hst fun b tk htk => ?_))
  have st1 : St 0 { s with toks := tk } := W.frame 0 s s.heap tk hst htk fun b hb o e => e
  have mv : Moved (S :: wr) G s { s with toks := tk } := ⟨fun b o hb e => e, W.grefl _, rfl, rfl, htk⟩
  refine wpAny_ite_split (fun _ => ?_) (fun _ => ?_)
  · refine wpAny_bind (wpAny_rule ?_)
    refine wpAny_bind ?_
    show wpAny _ A.in1 (updateSeq S (·.push .none) >>= fun _ => updateSeq S (·.pop)) _ _ _
    refine wpAny_bind (wpAny_updateSeq (s := { s with toks := tk }) hS rfl ?_)
    have hS₂ := Heap.get?_update_self (Obj.mapSeq (·.push Value.none)) hS rfl
    refine wpAny_updateSeq (hz := by seq_fits) hS₂ rfl ?_
    have hS₃ := Heap.get?_update_self (Obj.mapSeq (·.pop)) hS₂ rfl
    have oth : ∀ b o, b ≠ S → s.heap.get? b = some o → ((s.heap.update S (Obj.mapSeq (·.push Value.none))).update S (Obj.mapSeq (·.pop))).get? b = some o :=
      fun b o hb e => (Heap.get?_update_other _ _ (Ne.symm hb)).trans ((Heap.get?_update_other _ _ (Ne.symm hb)).trans e)
    refine wpAny_pure ⟨plainId_quiet F.plain_extend_loop _, codeAny_extend_loopS W hn _ hSf _ n 0 _ _ _ rfl (Nat.zero_le _)
      (W.frame 0 { s with toks := tk } _ tk st1 (Nat.le_refl _) fun b hb o e => oth b o (fun h => hSf (h ▸ hb)) e) hS₃ (ItemsOf.nil P) fun s' acc' c' hm hS' hacc => ?_⟩
    exact hR s' acc' c' (Moved.trans W.gtrans (mv.then_heap (Nat.le_refl _) fun b o hb e => oth b o (fun h => hb (h ▸ List.mem_cons_self)) e) hm) hS' hacc
  · refine wpAny_pure ⟨plainId_quiet F.plain_extend_loop _, codeAny_extend_loopS W hn _ hSf _ n 0 _ _ _ rfl (Nat.zero_le _) st1 hS (ItemsOf.nil P) fun s' acc' c' hm hS' hacc => ?_⟩
    exact hR s' acc' c' (Moved.trans W.gtrans mv hm) hS' hacc
theorem yb (W : WalksS prog w A.in1 I fp wr G n P St) (hT : ∀ i s, St i s → s.TypeIs (.ref I) T) (h2 : (Value.type T == Value.type "list") = false) (h3 : (Value.type T == Value.type "tuple") = false) (hint : AE prog w A.in1 I St)
    (S : Addr) (hst : St 0 s) (hSf : S ∉ fp) (hI : I ∈ fp)
    (hS : s.heap.get? S = some { cls := .type "list", data := .seq #[] })
    (hR : ∀ s' acc' c', Moved (S :: wr) G s s' → s'.heap.get? S = some { cls := .type "list", dict := none, data := .seq acc' c', slots := #[] } → ItemsOf P acc' n → R (.ok (.ret .none)) s') (hn : n ≤ sizeLine) :
    wpAny (model prog w) A.in1 (Builtin.«list.__init__» ⟨[.ref S, .ref I], []⟩)
      (fun fin s' => match fin with | .done f => R (.ok f) s' | .again c' => c'.quiet = true ∧ codeAny (model prog w) A c' R s') (fun e s' => R (.error e) s') s := by
  show wpAny _ A.in1 (do let old ← Builtin.List.listItems (.ref S); Builtin.List.listUpdate (.ref S) (fun _ => #[]); letGo old.toList.reverse; Builtin.List.listExtendWith (.ref S) (.ref I) .none) _ _ s
  refine wpAny_bind ?_
  unfold Builtin.List.listItems
  refine wpAny_bind (wpAny_seqItems hS rfl (wpAny_pure ?_))
  show wpAny _ A.in1 (updateSeq S (fun _ => #[]) >>= fun _ => letGo (#[] : Array Value).toList.reverse >>= fun _ => Builtin.List.listExtendWith (.ref S) (.ref I) .none) _ _ s
  refine wpAny_bind (wpAny_updateSeq hS rfl ?_)
  have hS₂ := Heap.get?_update_self (Obj.mapSeq (fun _ => (#[] : Array Value))) hS rfl
  have oth : ∀ b o, b ≠ S → s.heap.get? b = some o → (s.heap.update S (Obj.mapSeq (fun _ => (#[] : Array Value)))).get? b = some o :=
    fun b o hb e => (Heap.get?_update_other _ _ (Ne.symm hb)).trans e
  refine wpAny_bind (wpAny_letGo ?_)
  refine zu (hn := hn) W hT h2 h3 hint S .none _ (W.frame 0 s _ s.toks hst (Nat.le_refl _) fun b hb o e => oth b o (fun h => hSf (h ▸ hb)) e) hSf hI hS₂ fun s' acc' c' hm hS' hacc => ?_
  exact hR s' acc' c' (Moved.trans W.gtrans ((Moved.refl W.grefl).then_heap (Nat.le_refl _) fun b o hb e => oth b o (fun h => hb (h ▸ List.mem_cons_self)) e) hm) hS' hacc
end
section
variable {prog : Program} {w : World} {A : Around} {E : Value → Shared → Prop} {s : Shared}
variable {I : Addr} {fp wr : List Addr} {G : Array GenState → Array GenState → Prop} {n : Nat} {P : Nat → Value → Prop} {St : Nat → Shared → Prop} {T : String}
theorem A9 {Q : Value → Shared → Prop} (W : WalksS prog w A.in1.in1 I fp wr G n P St) (hT : ∀ i s, St i s → s.TypeIs (.ref I) T) (h2 : (Value.type T == Value.type "list") = false) (h3 : (Value.type T == Value.type "tuple") = false) (hint : AE prog w A.in1.in1 I St)
    (hst : St 0 s) (hfp : ∀ b ∈ fp, b < s.heap.objs.size) (hI : I ∈ fp)
    (hQ : ∀ s' acc' c', Moved (s.heap.objs.size :: wr) G { s with heap := s.heap.push { cls := .type "list", data := .seq #[] } } s' →
      s'.heap.get? s.heap.objs.size = some { cls := .type "list", dict := none, data := .seq acc' c', slots := #[] } → ItemsOf P acc' n → Q (.ref s.heap.objs.size) s') (hn : n ≤ sizeLine) :
    wpAny (model prog w) A (call (.type "list") [.ref I]) Q E s := by
  have hSf : s.heap.objs.size ∉ fp := fun hm => Nat.lt_irrefl _ (hfp _ hm)
  refine callType_codes (Q₁ := fun obj s₁ => obj = .ref s.heap.objs.size ∧ s₁ = { s with heap := s.heap.push { cls := .type "list", data := .seq #[] } }) F.called_list (F.typeCall_list_1 _) F.entry_list_init
    (code_list_new _ ⟨rfl, rfl⟩) fun obj s₁ h₁ => ?_
  obtain ⟨rfl, rfl⟩ := h₁
  have hS : (s.heap.push { cls := .type "list", data := .seq #[] }).get? s.heap.objs.size = some { cls := .type "list", data := .seq #[] } := Heap.get?_push_size _ rfl
  refine ⟨⟨_, hS, rfl⟩, F.args_list_init_2 _ _, yb (hn := hn) W hT h2 h3 hint _ (W.frame 0 s _ s.toks hst (Nat.le_refl _) fun b _ o e => Heap.get?_push_of_some _ e) hSf hI hS fun s' acc' c' hm hS' hacc => ?_⟩
  exact ⟨rfl, hQ s' acc' c' hm hS' hacc⟩
theorem CC : typeLookup (.type "list_reverseiterator") "__len__" = pure none := by rw [typeLookup_type, builtinLookup_eq_fast]; kernel_rfl
theorem EC : typeLookup (.type "list_reverseiterator") "__length_hint__" = pure (some (.builtin "list_reverseiterator.__length_hint__")) := by rw [typeLookup_type, builtinLookup_eq_fast]; kernel_rfl
theorem E9 {I l : Addr} {i : Int} {Q : Bool → Shared → Prop} (x : s.heap.IsRevIter I l i) (h : Q false s) : wpAny (model prog w) A (Builtin.List.listLengthHint (.ref I)) Q E s := by
  unfold Builtin.List.listLengthHint
  refine wpAny_bind (wpAny_specialOf x.typeIs CC ?_)
  show wpAny _ A (specialOf (Value.ref I) (Str.ofString "__length_hint__") >>= _) _ _ _
  refine wpAny_bind (wpAny_specialOf x.typeIs EC ?_)
  generalize hid : ("list_reverseiterator.__length_hint__" : String) = id0
  wp_delta
  rw [show splitId id0 = some ("list_reverseiterator", "__length_hint__") from by subst hid; decide +kernel]
  subst hid
  refine wpAny_bind (wpAny_isInstance (T := "list_reverseiterator") (b := true) x.typeIs (by rw [isSubtype_type]; kernel_rfl) ?_)
  refine wpAny_ite_split (fun hab => absurd hab (by decide)) (fun _ => ?_)
  refine wpAny_ite_split (fun _ => ?_) (fun hab => absurd (by decide +kernel) hab)
  refine wpAny_ite_split (fun hab => absurd hab (by decide +kernel)) (fun _ => ?_)
  exact wpAny_pure h
end
section
variable {X : Cx} {pins : List (Addr × Obj)} {σ : St} {H : Hp} {s : Shared}
theorem Inv.listed {it : Addr} {ys : List V} {acc : Array Value} {c : Nat} {s' : Shared} (I : Inv X pins σ H s) (hn : H it = none) (hL : it ≠ X.env.locals) (h1 : X.s₀.heap.objs.size ≤ it) (h2 : ∀ x c, X.env.cells.lookup x = some c → c ≠ it) (h3 : ∀ p ∈ X.pn ++ pins, p.1 ≠ it)
    (lt : it < s.heap.objs.size) (mv : Moved (s.heap.objs.size :: [it]) (fun a b => b = a) { s with heap := s.heap.push { cls := .type "list", data := .seq #[] } } s')
    (hS : s'.heap.get? s.heap.objs.size = some { cls := .type "list", dict := none, data := .seq acc c, slots := #[] }) (rv : Vals ys acc.toList) (hz : ys.length ≤ sizeLine) : Inv X pins σ (upd H s.heap.objs.size (.lst ys)) s' := by
  have hf : H s.heap.objs.size = none := I.hok.fresh (Nat.le_refl _)
  have I3 : Inv X pins σ (upd H s.heap.objs.size (.lst [])) { s with heap := s.heap.push { cls := .type "list", data := .seq #[] } } :=
    I.laid (t' := s.toks) (fun b u e => Heap.get?_push_of_some _ e) (Nat.le_refl _) ⟨Nat.zero_le _, [], 0, .nil, Heap.get?_push_size _ rfl⟩
  have neS : ∀ b, upd H s.heap.objs.size (.lst []) b = none → b ≠ s.heap.objs.size := fun b e z => by rw [z, ic] at e; cases e
  have kp : ∀ b o, b ≠ s.heap.objs.size → b ≠ it → (s.heap.push { cls := .type "list", data := .seq #[] }).get? b = some o → s'.heap.get? b = some o := fun b o n1 n2 e => mv.heap b o (fun z => by
    rcases List.mem_cons.mp z with z | z
    · exact n1 z
    · exact n2 (List.mem_singleton.mp z)) e
  have e' : s' = { s with heap := s'.heap, gens := s'.gens, drawn := s'.drawn, toks := s'.toks } := by
    have := mv.os
    obtain ⟨hp, g, d, tk, os⟩ := s'
    simp only at this ⊢
    rw [this]
  rw [e']
  have hsz : (s.heap.push { cls := .type "list", data := .seq #[] }).objs.size = s.heap.objs.size + 1 := Heap.size_push ..
  refine Inv.step (s := { s with heap := s.heap.push { cls := .type "list", data := .seq #[] } }) (ch := [it]) I3 (fun b hb => ?_) (fun b o _ _ hc e n => kp b o (neS b n) (fun z => hc (by simp [z])) e) (fun b o _ _ hc e n => ⟨o.slots, kp b o (neS b n) (fun z => hc (by simp [z])) e⟩)
    (fun b o hc e n => ?_) (fun b o hc e => ?_) (fun b xs e => ?_) (fun b o u e => ?_) (fun b ps e => ?_) (fun m hm => ?_) (fun b u e => ?_) ?_
  · have e : b = it := by simpa using hb
    subst e
    exact ⟨.inr h1, hL, h2, h3⟩
  · have ne := neS b n
    rw [tP ne] at n ⊢
    exact n
  · by_cases z : b = s.heap.objs.size
    · exact ⟨_, z ▸ hS⟩
    · exact ⟨o, kp b o z (fun z => hc (by simp [z])) e⟩
  · have ne : b ≠ s.heap.objs.size := fun z => by rw [z, ic] at e; cases e
    rw [tP ne] at e ⊢
    exact e
  · have ne : b ≠ s.heap.objs.size := fun z => by rw [z, ic] at e; cases e
    rw [tP ne] at e ⊢
    exact e
  · have ne : b ≠ s.heap.objs.size := fun z => by rw [z, ic] at e; cases e
    rw [tP ne] at e ⊢
    exact ⟨#[], by rw [e]; simp⟩
  · exact hm.at' fun o e => kp _ o (Nat.ne_of_lt I.lt) (Ne.symm hL) e
  · by_cases z : b = s.heap.objs.size
    · subst z
      rw [ic] at e
      cases e
      exact ⟨hz, acc.toList, c, rv, by simpa using hS⟩
    · rw [tP z] at e
      have e3 : upd H s.heap.objs.size (.lst []) b = some u := by rw [tP z]; exact e
      have nit : ∀ b u, H b = some u → b ≠ it := fun b u e z => by rw [z, hn] at e; cases e
      refine (I3.hok b u e3).stay (fun d w' hd q => ?_) (fun d q => ?_) (fun d xs q => ?_)
      · rcases hd with rfl | hd
        · exact kp _ _ z (nit _ _ e) q
        · have nd : d ≠ s.heap.objs.size := fun y => by rw [y, ic] at hd; cases hd
          rw [tP nd] at hd
          exact kp _ _ nd (nit _ _ hd) q
      · have nd : d ≠ s.heap.objs.size := fun y => by rw [y, ic] at q; cases q
        rw [tP nd] at q ⊢
        exact q
      · have nd : d ≠ s.heap.objs.size := fun y => by rw [y, ic] at q; cases q
        rw [tP nd] at q ⊢
        exact q
  · have := mv.gens
    rw [this]
    exact I.bare
end
def GO (K : PySem.W.Frag) (t : TA) : TE := fun σ H Q => t σ H fun vs H1 => ∃ (p : Addr) (ys : List V), vs = [.ref p] ∧ (SqL K H1 p ys ∨ SqT K H1 p ys) ∧ ∀ l, H1 l = none → Q (.ref l) (upd H1 l (.lst ys.reverse))
theorem C7 : bootBuiltins "reversed" = some (.type "reversed") := by decide +kernel
theorem FH {ys : List V} {us : List Value} (hl : us.length = ys.length) (h : ∀ (j : Nat) (y : V) (u : Value), ys[j]? = some y → us[j]? = some u → RelV y u) : Vals ys us := by
  induction ys generalizing us with
  | nil => cases us with
    | nil => exact .nil
    | cons _ _ => cases hl
  | cons y ys ih => cases us with
    | nil => cases hl
    | cons u us => exact .cons (h 0 y u rfl rfl) (ih (by simpa using hl) fun j y' u' e1 e2 => h (j + 1) y' u' (by simpa using e1) (by simpa using e2))
theorem EJ {ys : List V} {its : List Value} {acc : Array Value} (r : Vals ys its) (h : ItemsOf (fun i v => its.toArray[its.toArray.size - 1 - i]? = some v) acc its.toArray.size) : Vals ys.reverse acc.toList := by
  have hl := r.length
  have hs : acc.size = its.length := by simpa using h.1
  refine FH (by rw [Array.length_toList, List.length_reverse, hs, hl]) fun j y u e1 e2 => ?_
  have hj : j < ys.length := by
    have := (List.getElem?_eq_some_iff.mp e1).1
    simpa using this
  have q := h.2 j u (by simpa using e2)
  rw [List.getElem?_reverse (by omega)] at e1
  have q' : its[ys.length - 1 - j]? = some u := by rw [hl]; simpa using q
  obtain ⟨u', e', r'⟩ := r.get e1
  rw [q'] at e'
  cases e'
  exact r'
section
variable {X : Cx} {e : Expr} {t : TA} {p1 p2 pos1 pos2 : Pos}
theorem BX {pins : List (Addr × Obj)} {σ : St} {H1 : Hp} {s1 : Shared} {Q : VK} {ys : List V} {its : List Value} {o : Obj} {St : Nat → Shared → Prop} {T : String} {fp : List Addr} (I1 : Inv X pins σ H1 s1) (r' : Vals ys its) (hz : ys.length ≤ sizeLine)
    (W : WalksS X.prog X.w X.A.in1.in1 s1.heap.objs.size fp [s1.heap.objs.size] (fun a b => b = a) its.toArray.size (fun i v => its.toArray[its.toArray.size - 1 - i]? = some v) St) (hT : ∀ i s, St i s → s.TypeIs (.ref s1.heap.objs.size) T)
    (h2 : (Value.type T == Value.type "list") = false) (h3 : (Value.type T == Value.type "tuple") = false) (hint : AE X.prog X.w X.A.in1.in1 s1.heap.objs.size St) (hst : St 0 { s1 with heap := s1.heap.push o }) (ho : o.isFreed = false) (hfp : ∀ b ∈ fp, b < s1.heap.objs.size + 1) (hI : s1.heap.objs.size ∈ fp)
    (q : ∀ l, H1 l = none → Q (.ref l) (upd H1 l (.lst ys.reverse))) : wpAny (model X.prog X.w) X.A (call (.type "list") [.ref s1.heap.objs.size]) (EP X pins σ Q) X.xe { s1 with heap := s1.heap.push o } := by
  have hsz : (s1.heap.push o).objs.size = s1.heap.objs.size + 1 := Heap.size_push ..
  have I2 : Inv X pins σ H1 { s1 with heap := s1.heap.push o } := I1.kept (t' := s1.toks) fun b u e => Heap.get?_push_of_some _ e
  have hlen := r'.length
  refine A9 W hT h2 h3 hint hst (fun b hb => by show b < (s1.heap.push o).objs.size; rw [hsz]; exact hfp b hb) hI (fun s' acc c mv hS ha => ?_) (by rw [List.size_toArray]; omega)
  refine ⟨.ref _, _, Inv.listed I2 (I1.hok.fresh (Nat.le_refl _)) (Nat.ne_of_gt I1.lt) I1.sz (fun x c e z => ?_) (fun p hp z => ?_) (by show _ < (s1.heap.push o).objs.size; rw [hsz]; exact Nat.lt_succ_self _) mv hS (EJ r' ha) (by simpa using hz), rfl, q _ (I2.hok.fresh (Nat.le_refl _))⟩
  · obtain ⟨v, o', ho', _⟩ := I1.cell x c e
    exact absurd (Heap.lt_size ho') (by rw [z]; exact Nat.lt_irrefl _)
  · exact absurd (Heap.lt_size (I1.pin p hp).1) (by rw [z]; exact Nat.lt_irrefl _)
end
theorem CB : typeLookup (.type "tuple") "__reversed__" = pure none := by rw [typeLookup_type, builtinLookup_eq_fast]; kernel_rfl
theorem Ay : Slot "reversed" "__init__" "object.__init__" :=
  .of (owner := "object") (n := "__init__") (by rw [typeLookup_type, builtinLookup_eq_fast]; kernel_rfl) (by decide +kernel) (by decide +kernel) (by decide +kernel)
    (by first | exact .inl (by decide +kernel) | exact .inr (by decide +kernel)) (by rw [isSubtype_type]; kernel_rfl)
theorem slot_rvd_next : Slot "reversed" "__next__" "reversed.__next__" :=
  .of (owner := "reversed") (n := "__next__") (by rw [typeLookup_type, builtinLookup_eq_fast]; kernel_rfl) (by decide +kernel) (by decide +kernel) (by decide +kernel)
    (by first | exact .inl (by decide +kernel) | exact .inr (by decide +kernel)) (by rw [isSubtype_type]; kernel_rfl)
theorem x6 : Slot "reversed" "__iter__" "reversed.__iter__" :=
  .of (owner := "reversed") (n := "__iter__") (by rw [typeLookup_type, builtinLookup_eq_fast]; kernel_rfl) (by decide +kernel) (by decide +kernel) (by decide +kernel)
    (by first | exact .inl (by decide +kernel) | exact .inr (by decide +kernel)) (by rw [isSubtype_type]; kernel_rfl)
theorem slot_rvd_hint : Slot "reversed" "__length_hint__" "reversed.__length_hint__" :=
  .of (owner := "reversed") (n := "__length_hint__") (by rw [typeLookup_type, builtinLookup_eq_fast]; kernel_rfl) (by decide +kernel) (by decide +kernel) (by decide +kernel)
    (by first | exact .inl (by decide +kernel) | exact .inr (by decide +kernel)) (by rw [isSubtype_type]; kernel_rfl)
theorem C2 : typeLookup (.type "reversed") "__len__" = pure none := by rw [typeLookup_type, builtinLookup_eq_fast]; kernel_rfl
theorem Cw : TypeCalled "reversed" "reversed.__new__" "object.__init__" :=
  ⟨by decide +kernel, by decide +kernel, ⟨_, _, F.mro_reversed⟩, F.made_reversed, by decide +kernel, by rw [isSubtype_type]; kernel_rfl, Ay⟩
theorem yd : Manifest.owners.lookup (String.ofList ['d', 'e', 's', 'r', 'e', 'v', 'e', 'r'].reverse) = some Manifest.sig_reversed := by kernel_rfl
theorem xo : entryFor table "reversed.__next__" = some Builtin.«reversed.__next__» := entryFor_of_tree (by kernel_rfl)
theorem z5 : entryFor table "reversed.__length_hint__" = some Builtin.«reversed.__length_hint__» := entryFor_of_tree (by kernel_rfl)
theorem wL (a : Value) : argsOk "reversed.__next__" ⟨[a], []⟩ := by
  unfold argsOk; rw [signature?_of (id := "reversed.__next__") (n := ['_', '_', 't', 'x', 'e', 'n', '_', '_']) (o := ['d', 'e', 's', 'r', 'e', 'v', 'e', 'r']) (by kernel_rfl) yd]; kernel_rfl
theorem zA (a : Value) : argsOk "reversed.__iter__" ⟨[a], []⟩ := by
  unfold argsOk; rw [signature?_of (id := "reversed.__iter__") (n := ['_', '_', 'r', 'e', 't', 'i', '_', '_']) (o := ['d', 'e', 's', 'r', 'e', 'v', 'e', 'r']) (by kernel_rfl) yd]; kernel_rfl
theorem zI (a : Value) : argsOk "reversed.__length_hint__" ⟨[a], []⟩ := by
  unfold argsOk; rw [signature?_of (id := "reversed.__length_hint__") (n := ['_', '_', 't', 'n', 'i', 'h', '_', 'h', 't', 'g', 'n', 'e', 'l', '_', '_']) (o := ['d', 'e', 's', 'r', 'e', 'v', 'e', 'r']) (by kernel_rfl) yd]; kernel_rfl
theorem z4 : entryFor table "reversed.__iter__" = some Builtin.«dict_keyiterator.__iter__» :=
  entryFor_alias (id' := "dict_keyiterator.__iter__") (by kernel_rfl) (by first | rfl | decide +kernel | (unfold String.splitOn; simp +decide [String.splitOnAux])) (by decide +kernel) (by kernel_rfl)
def Dy (l : Addr) (i : Int) : Obj := { cls := .type "reversed", data := .fields #[.ref l, rawInt i] }
def IsRvd (h : Heap) (a l : Addr) (i : Int) : Prop := ∃ o, h.get? a = some o ∧ o.cls = .type "reversed" ∧ o.data = .fields #[.ref l, rawInt i]
end L2

set_option Elab.async false
set_option linter.all false
set_option maxRecDepth 100000
set_option maxHeartbeats 1000000
namespace L2
open PySem PySem.Spec PyProof.Rows
theorem sub_tuple_dict : isSubtype (.type "tuple") (.type "dict") = pure false := by rw [isSubtype_type]; kernel_rfl
open AutoSeq1 (wpAny_loadPart') in
theorem AA (l : Addr) (items : Array Value) (n : Nat) (dct : Option Addr) (sl : Array (Option Value)) :
    Meets (Builtin.«reversed.__new__» ⟨[.type "reversed", .ref l], []⟩) (fun _ R s => s.heap.get? l = some { cls := .type "tuple", dict := dct, data := .seq items n, slots := sl } ∧ items.size < 2 ^ 62 ∧
      ∀ tk, R (.ok (.ret (.ref s.heap.objs.size))) { s with heap := s.heap.push (Dy l ((items.size : Int) - 1)), toks := tk }) :=
  .of_wp fun prog w A R s h => by
    obtain ⟨hl, hz, h⟩ := h
    have ht : IsTup s.heap l items := ⟨_, hl, rfl, n, rfl⟩
    have hT : s.TypeIs (.ref l) "tuple" := ⟨_, hl, rfl⟩
    unfold Builtin.«reversed.__new__»
    refine wpAny_bind (wpAny_of_eq (newClass_reversed _) ?_)
    try dsimp only
    refine wpAny_bind (wpAny_of_eq (a := ()) (by first | rfl | kernel_rfl) ?_)
    refine wpAny_bind (wpAny_of_eq (a := ()) (by first | rfl | kernel_rfl) ?_)
    try dsimp only
    refine wpAny_bind (wpAny_specialOf hT CB ?_)
    try dsimp only
    have e1 := sub_tuple_dict
    refine wpAny_bind ?_
    wp_delta
    refine wpAny_bind (wpAny_isInstance (T := "tuple") (b := false) hT sub_tuple_dict ?_)
    try dsimp only
    refine wpAny_ite_split (fun hab => absurd hab (by decide)) (fun _ => ?_)
    refine wpAny_bind (wpAny_specialOf hT slot_tuple_getitem.lookup ?_)
    try dsimp only
    refine wpAny_ite_split (fun _ => ?_) (fun hab => absurd (by decide +kernel) hab)
    refine wpAny_pure ?_
    refine wpAny_ite_split (fun hab => absurd hab (by decide)) (fun _ => ?_)
    refine wpAny_bind (len_tuple ht (by omega) ?_)
    refine wpAny_bind (m := asInt? _) (wpAny_pure ?_)
    try dsimp only
    refine wpAny_bind ?_
    show wpAny _ _ (newObj (.type "reversed") (.fields #[.ref l, rawInt ((items.size : Int) - 1)])) _ _ _
    refine wpAny_newObj_type ?_ (by size_fits)
    exact wpAny_pure ⟨_, rfl, h _⟩
section
variable {prog : Program} {w : World} {A : Around} {E : Value → Shared → Prop} {s : Shared}
theorem IsRvd.typeIs {a l : Addr} {i : Int} (x : IsRvd s.heap a l i) : s.TypeIs (.ref a) "reversed" := let ⟨o, ho, hc, _⟩ := x; ⟨o, ho, hc⟩
theorem IsRvd.at {h h' : Heap} {a l : Addr} {i : Int} (x : IsRvd h a l i) (e : ∀ o, h.get? a = some o → h'.get? a = some o) : IsRvd h' a l i := let ⟨o, ho, r⟩ := x; ⟨o, e _ ho, r⟩
theorem yF {l : Addr} {items : Array Value} {Q : Value → Shared → Prop} (hl : IsTup s.heap l items) (hz : items.size < 2 ^ 62)
    (h : ∀ tk, Q (.ref s.heap.objs.size) { s with heap := s.heap.push (Dy l ((items.size : Int) - 1)), toks := tk }) : wpAny (model prog w) A (call (.type "reversed") [.ref l]) Q E s := by
  obtain ⟨⟨c, dct, dt, sl⟩, hl, hc, n, hd⟩ := hl
  replace hc : c = .type "tuple" := hc
  replace hd : dt = .seq items n := hd
  subst hc hd
  refine callType_new Cw (by decide) (F.typeCall_reversed_1 _) (F.newCall_reversed_1 _) (fun obj => F.args_object_init_2 obj _) F.entry_reversed_new
    (AA l items n dct sl) ⟨hl, hz, fun tk => ?_⟩
  exact ⟨⟨_, Heap.get?_push_size _ rfl, rfl⟩, h tk⟩
theorem xB {it l : Addr} {i : Nat} {items : Array Value} {x : Value} {Q : Option Value → Shared → Prop} (hit : IsRvd s.heap it l (i : Int)) (hl : IsTup s.heap l items) (hz : items.size < 2 ^ 62) (hx : items[i]? = some x)
    (hQ : ∀ h' tk, IsRvd h' it l ((i : Int) - 1) → Heap.SameBut it s.heap h' → Q (some x) { s with heap := h', toks := tk }) : wpAny (model prog w) A (pyNext (.ref it)) Q E s := by
  obtain ⟨o, ho, hc, hd⟩ := id hit
  obtain ⟨ol, hol, hcl, nl, hdl⟩ := id hl
  have hi : i < items.size := (Array.getElem?_eq_some_iff.mp hx).1
  unfold pyNext
  refine wpAny_bind (wpAny_attempt (wpAny_callSpecial?_slot (name := Str.ofString "__next__") hit.typeIs slot_rvd_next
    (wpAny_call_entry slot_rvd_next hit.typeIs xo ?_ (wL _))))
  unfold Builtin.«reversed.__next__»
  refine wpAny_bind (wpAny_of_eq (a := (Value.ref it, [])) rfl ?_)
  try dsimp only
  refine wpAny_bind (wpAny_field ho hd (x := .ref l) rfl ?_)
  refine wpAny_bind (wpAny_field ho hd (x := rawInt (i : Int)) rfl ?_)
  show wpAny _ _ (if (i : Int) < 0 then _ else _) _ _ s
  rw [if_neg (by omega)]
  refine wpAny_bind (wpAny_specialOf (T := "tuple") ⟨ol, hol, hcl⟩ slot_tuple_getitem.lookup ?_)
  refine wpAny_ite_split (fun hab => absurd hab (by decide)) (fun _ => ?_)
  refine wpAny_bind (wpAny_mkInt ?_)
  refine wpAny_bind (wpAny_attempt (getItem_tuple (s := { s with toks := s.toks + 1 }) (j := i) (x := x) hl (by omega) (by omega) ?_ hx ?_))
  · unfold seqIndex?
    have n0 : ¬ (i : Int) < 0 := by omega
    simp only [if_neg n0]
    rw [if_pos (by simp; omega)]
    simp
  · try dsimp only
    refine wpAny_bind (wpAny_field (s := { s with toks := s.toks + 1 }) ho hd (x := rawInt (i : Int)) rfl ?_)
    refine wpAny_bind (wpAny_setField (s := { s with toks := s.toks + 1 }) ho hd (by simp) ?_)
    first
    | refine wpAny_pure ⟨x, rfl, wpAny_pure (hQ _ _ ?_ (Heap.SameBut.update ..))⟩
    | refine wpAny_bind (wpAny_pure (wpAny_pure ⟨x, rfl, wpAny_pure (hQ _ _ ?_ (Heap.SameBut.update ..))⟩))
    exact ⟨_, Heap.get?_update_self _ ho (Obj.isFreed_of_fields (Obj.data_mapFields hd _)), (Obj.cls_mapFields ..).trans hc, by
      rw [Obj.data_mapFields hd]; simp⟩
theorem xE {it l : Addr} {Q : Option Value → Shared → Prop} (hh : A.handled = none) (hit : IsRvd s.heap it l (-1))
    (hQ : ∀ h', Heap.ExtBut it s.heap h' → Q none { s with heap := h' }) : wpAny (model prog w) A (pyNext (.ref it)) Q E s := by
  obtain ⟨o, ho, hc, hd⟩ := id hit
  unfold pyNext
  refine wpAny_bind (wpAny_attempt (wpAny_callSpecial?_slot (name := Str.ofString "__next__") hit.typeIs slot_rvd_next
    (wpAny_call_entry slot_rvd_next hit.typeIs xo ?_ (wL _))))
  unfold Builtin.«reversed.__next__»
  refine wpAny_bind (wpAny_of_eq (a := (Value.ref it, [])) rfl ?_)
  try dsimp only
  refine wpAny_bind (wpAny_field ho hd (x := .ref l) rfl ?_)
  refine wpAny_bind (wpAny_field ho hd (x := rawInt (-1)) rfl ?_)
  show wpAny _ _ (if (-1 : Int) < 0 then _ else _) _ _ s
  rw [if_pos (by decide)]
  refine wpAny_bind (wpAny_rule ?_)
  refine wpAny_bind ?_
  show wpAny _ _ (setField (.ref it) 1 (rawInt (-1)) >>= fun _ => setField (.ref it) 0 .none) _ _ _
  refine wpAny_bind (wpAny_setField ho hd (by simp) ?_)
  have hS := Heap.get?_update_self (Obj.mapFields fun a => a.setIfInBounds 1 (rawInt (-1))) ho (Obj.isFreed_of_fields (Obj.data_mapFields hd _))
  have hd2 := Obj.data_mapFields hd fun a => a.setIfInBounds 1 (rawInt (-1))
  refine wpAny_setField (s := { s with heap := s.heap.update it (Obj.mapFields fun x => x.setIfInBounds 1 (rawInt (-1))) }) hS hd2 (by simp) ?_
  first
  | show wpAny _ _ (newExc (.type "StopIteration") [] >>= _) _ _ _
  | (refine wpAny_bind ?_; show wpAny _ _ (newExc (.type "StopIteration") [] >>= _) _ _ _)
  refine wpAny_bind ?_
  simp only [newExc, newTuple]
  refine wpAny_bind (wpAny_newObj_type ?_ (by size_fits))
  refine wpAny_bind (m := firstArgMember _ _) (wpAny_of_eq (a := Value.none) (by first | rfl | (simp only [firstArgMember]; rfl)) ?_)
  refine wpAny_newObj_type ?_ (by size_fits)
  simp only [raiseNew]
  refine wpAny_bind (wpAny_handled ?_)
  first | rw [show A.in1.handled = none from hh] | rw [hh]
  refine wpAny_bind (wpAny_pure (wpAny_throw ?_))
  refine wpAny_bind (wpAny_isInstance (T := "StopIteration") (b := true) ⟨_, Heap.get?_push_size _ rfl, rfl⟩ isSubtype_stop ?_)
  refine wpAny_pure (hQ _ ((Heap.ExtBut.push (Heap.ExtBut.push (fun b o hb e => ?_) _) _)))
  exact (Heap.get?_update_other _ _ (Ne.symm hb)).trans ((Heap.get?_update_other _ _ (Ne.symm hb)).trans e)
theorem yV {it l : Addr} {i : Int} {Q : Value → Shared → Prop} (hit : IsRvd s.heap it l i) (h : Q (.ref it) s) : wpAny (model prog w) A (pyIter (.ref it)) Q E s := by
  refine wpAny_pyIter_slot hit.typeIs x6 (wpAny_call_entry x6 hit.typeIs z4 ?_ (zA _))
  show wpAny _ _ (ret (.ref it)) _ _ s
  exact wpAny_pure ⟨_, rfl, "reversed", _, hit.typeIs, slot_rvd_next.lookup, h⟩
theorem EO {I l : Addr} {items : Array Value} {Q : Bool → Shared → Prop} (x : IsRvd s.heap I l ((items.size : Int) - 1)) (hl : IsTup s.heap l items) (hz : items.size ≤ sizeLine) (h : ∀ b tk, s.toks ≤ tk → Q b { s with toks := tk }) : wpAny (model prog w) A (Builtin.List.listLengthHint (.ref I)) Q E s := by
  obtain ⟨o, ho, hc, hd⟩ := id x
  have hn := vI
  have hlt : items.size < 2 ^ 62 := by rw [sizeLine_eq] at hz; omega
  unfold Builtin.List.listLengthHint
  refine wpAny_bind (wpAny_specialOf x.typeIs C2 ?_)
  show wpAny _ A (specialOf (Value.ref I) (Str.ofString "__length_hint__") >>= _) _ _ _
  refine wpAny_bind (wpAny_specialOf x.typeIs slot_rvd_hint.lookup ?_)
  generalize hid : ("reversed.__length_hint__" : String) = id0
  wp_delta
  rw [show splitId id0 = some ("reversed", "__length_hint__") from by subst hid; decide +kernel]
  subst hid
  refine wpAny_bind (wpAny_isInstance (T := "reversed") (b := true) x.typeIs (by rw [isSubtype_type]; kernel_rfl) ?_)
  refine wpAny_ite_split (fun hab => absurd hab (by decide)) (fun _ => ?_)
  refine wpAny_ite_split (fun hab => absurd hab (by decide +kernel)) (fun _ => ?_)
  refine wpAny_bind (wpAny_rule ?_)
  refine wpAny_bind (wpAny_of_eq (slot_rvd_hint.bind _) ?_)
  try dsimp only
  refine wpAny_bind (wpAny_attempt (wpAny_call_entry slot_rvd_hint x.typeIs z5 ?_ (zI _)))
  unfold Builtin.«reversed.__length_hint__»
  refine wpAny_bind (wpAny_of_eq (a := Value.ref I) rfl ?_)
  refine wpAny_bind (wpAny_field ho hd (x := .ref l) rfl ?_)
  refine wpAny_ite_split (fun hab => absurd hab (show ¬ ((Value.ref l == Value.none) = true) from Bool.false_ne_true)) (fun _ => ?_)
  refine wpAny_bind (len_tuple hl (by omega) ?_)
  refine wpAny_bind (m := asInt? _) (wpAny_pure ?_)
  try dsimp only
  refine wpAny_bind (wpAny_field (s := { s with toks := s.toks + 1 + 1 }) ho hd (x := rawInt ((items.size : Int) - 1)) rfl ?_)
  show wpAny _ _ (if (items.size : Int) < (items.size : Int) - 1 + 1 then _ else _) _ _ _
  rw [if_neg (by omega)]
  show wpAny _ _ (mkInt ((items.size : Int) - 1 + 1) >>= fun v => ret v) _ _ _
  refine wpAny_bind (wpAny_mkInt (wpAny_pure ⟨_, rfl, ?_⟩))
  show wpAny _ _ (asInt? (.int ((items.size : Int) - 1 + 1) _) >>= _) _ _ _
  refine wpAny_bind (m := asInt? _) (wpAny_pure ?_)
  rw [show (items.size : Int) - 1 + 1 = (items.size : Int) by omega]
  try dsimp only
  have htl : Builtin.List.listTooLong ((items.size : Int).toNat) = false := by
    show decide ((items.size : Int).toNat > sizeLine) = false
    rw [Int.toNat_natCast]
    exact decide_eq_false (by omega)
  have hfi : ¬ ((!Builtin.List.listFitsIndex (items.size : Int)) = true) := by
    have : Builtin.List.listFitsIndex (items.size : Int) = true := by
      unfold Builtin.List.listFitsIndex
      rw [Bool.and_eq_true]
      exact ⟨decide_eq_true (by omega), decide_eq_true (by omega)⟩
    rw [this]
    decide
  rw [if_neg hfi, if_neg (show ¬ ((items.size : Int) < 0) by omega), if_neg (show ¬ (Builtin.List.listTooLong (items.size : Int).toNat = true) by rw [htl]; decide)]
  exact wpAny_pure (h _ _ (by show s.toks ≤ s.toks + 1 + 1 + 1; omega))
end
theorem Walks.tupRev {prog : Program} {w : World} {A : Around} (hh : A.handled = none) (I l : Addr) (hne : l ≠ I) (items : Array Value) (hz : items.size ≤ sizeLine) :
    Walks prog w A I [I, l] [I] items.size (fun i v => items[items.size - 1 - i]? = some v) (fun i h => i ≤ items.size ∧ IsRvd h I l ((items.size : Int) - 1 - (i : Int)) ∧ IsTup h l items) where
  sub := fun b hb => by simp at hb; simp [hb]
  frame := fun _ _ _ x hk => ⟨x.1, x.2.1.at fun o e => hk I (by simp) o e, let ⟨o, ho, r⟩ := x.2.2; ⟨o, hk l (by simp) o ho, r⟩⟩
  item := fun i s Q E hi x hQ => by
    have e : (items.size : Int) - 1 - (i : Int) = ((items.size - 1 - i : Nat) : Int) := by omega
    have hit := x.2.1
    rw [e] at hit
    have hx : items[items.size - 1 - i]? = some (items[items.size - 1 - i]'(by omega)) := Array.getElem?_eq_getElem (by omega)
    refine xB hit x.2.2 (by rw [sizeLine_eq] at hz; omega) hx fun h' tk hit' hs' => ?_
    have e2 : ((items.size - 1 - i : Nat) : Int) - 1 = (items.size : Int) - 1 - ((i + 1 : Nat) : Int) := by omega
    rw [e2] at hit'
    exact hQ _ h' tk hx ⟨hi, hit', let ⟨o, ho, r⟩ := x.2.2; ⟨o, (hs'.2 l hne).trans ho, r⟩⟩ fun b o hb eo => hs'.extBut b o (fun h => hb (by simp [h])) eo
  done := fun s Q E x hQ => by
    have e : (items.size : Int) - 1 - (items.size : Int) = -1 := by omega
    have hit := x.2.1
    rw [e] at hit
    exact xE hh hit fun h' he' => hQ h' s.toks fun b o hb eo => he' b o (fun h => hb (by simp [h])) eo
  self := fun _ _ _ _ x hQ => yV x.2.1 hQ
section
variable {X : Cx} {e : Expr} {t : TA} {p1 p2 pos1 pos2 : Pos}
theorem zG (hc : X.calm = true) (hg1 : Gl X "list") (hm1 : X.mg "list" = none) (hg2 : Gl X "reversed") (hm2 : X.mg "reversed" = none) (ha : PA X [e] t)
    (hst : starEach [e] X.env = (false, eval e X.env) :: starEach [] X.env := by rfl)
    (hst2 : starEach [.Call (.Name "reversed" p2) [e] [] pos2] X.env = (false, eval (.Call (.Name "reversed" p2) [e] [] pos2) X.env) :: starEach [] X.env := by rfl)
    (pl : ∀ pos, (backTo pos (starEach [] X.env)).any (·.1) = false := by intro _; rfl) : PE X (.Call (.Name "list" p1) [.Call (.Name "reversed" p2) [e] [] pos2] [] pos1) (GO X.K t) := by
  intro pins s σ H Q I h
  refine wpAny_Call_Name_kw (vN I hg1 hm1 zq ?_)
  refine PyProof.Rows.callWith_type1 ?_ hst2 (pl _)
  rw [hst2]
  show wpAny _ _ (spliced ((false, eval (.Call (.Name "reversed" p2) [e] [] pos2) X.env) :: backTo pos1 (starEach [] X.env))) _ _ s
  refine Calls.spliced_cons ?_
  refine wpAny_Call_Name_kw (vN I hg2 hm2 C7 ?_)
  refine PyProof.Rows.callWith_type1 (thn (ha pos2 pins s σ H _ I h) fun us s1 ⟨vs, H1, I1, r1, p, ys, e1, hq, q⟩ => ?_) hst (pl _)
  subst e1
  obtain ⟨u, rfl, rx⟩ := vals1 r1
  cases rx
  have hh : X.A.handled = none := I1.ok.hd hc
  have hn := vI
  rcases hq with hq | hq
  · obtain ⟨its, r', pl', hz⟩ := I1.list hq
    have hlen := r'.length
    have hp : p < s1.heap.objs.size := let ⟨_, e, _⟩ := pl'.isList; Heap.lt_size e
    refine call_reversed_list pl'.isList ?_
    refine Calls.spliced_nil ?_
    have W := (Walks.listRev (prog := X.prog) (w := X.w) (A := X.A.in1.in1) hh s1.heap.objs.size p (Nat.ne_of_lt hp) its.toArray).toS
    refine BX (T := "list_reverseiterator") I1 r' hz W (fun i s x => x.2.1.typeIs) (by decide) (by decide) (fun s2 Q2 E2 x k => E9 x.2.1 (k _ _ (Nat.le_refl _))) ⟨Nat.zero_le _, ⟨_, Heap.get?_push_size _ rfl, rfl, ?_⟩, pl'.isList.push _⟩ rfl (fun b hb => ?_) (by simp) q
    · show Data.fields #[.ref p, rawInt (((its.toArray.size : Nat) : Int) - 1)] = _
      simp
    · rcases List.mem_cons.mp hb with z | z
      · rw [z]; exact Nat.lt_succ_self _
      · rw [List.mem_singleton.mp z]; exact Nat.lt_succ_of_lt hp
  · obtain ⟨its, r', pl', hz⟩ := I1.tuple hq
    have hlen := r'.length
    have hz' : its.toArray.size ≤ sizeLine := by rw [List.size_toArray]; omega
    have hp : p < s1.heap.objs.size := let ⟨_, e, _⟩ := pl'; Heap.lt_size e
    refine yF pl' (by rw [sizeLine_eq] at hz'; omega) fun tk => ?_
    refine Calls.spliced_nil ?_
    have W := (Walks.tupRev (prog := X.prog) (w := X.w) (A := X.A.in1.in1) hh s1.heap.objs.size p (Nat.ne_of_lt hp) its.toArray hz').toS
    refine BX (s1 := { s1 with toks := tk }) (T := "reversed") (I1.tok _) r' hz W (fun i s x => x.2.1.typeIs) (by decide) (by decide) (fun s2 Q2 E2 x k => EO (items := its.toArray) (by simpa using x.2.1) x.2.2 hz' k) ⟨Nat.zero_le _, ⟨_, Heap.get?_push_size _ rfl, rfl, ?_⟩, let ⟨o, ho, r⟩ := pl'; ⟨o, Heap.get?_push_of_some _ ho, r⟩⟩ rfl (fun b hb => ?_) (by simp) q
    · show Data.fields #[.ref p, rawInt (((its.toArray.size : Nat) : Int) - 1)] = _
      simp
    · rcases List.mem_cons.mp hb with z | z
      · rw [z]; exact Nat.lt_succ_self _
      · rw [List.mem_singleton.mp z]; exact Nat.lt_succ_of_lt hp
end
end L2

set_option Elab.async false
set_option linter.all false
set_option maxRecDepth 100000
set_option maxHeartbeats 1000000
namespace L2
open PySem PySem.Spec PyProof.Rows
def FW (K : PySem.W.Frag) : V → List V → Hp → VK → Prop := fun x vs H Q => ∃ (l : Addr) (y : V) (d : PyData) (ds : List PyData) (j : Nat), x = .ref l ∧ vs = [y] ∧ j < 1000 ∧ Rep K H y d ∧ Rep K H (.ref l) (.list ds) ∧ xG d ∧ xG (.list ds) ∧
  (∃ z, ds[j]? = some z ∧ PyData.eqv z d = true) ∧ (∀ m z, m < j → ds[m]? = some z → PyData.eqv z d = false) ∧ Q (.int j) H
theorem DV {X : Cx} {K : PySem.W.Frag} (hK : X.K = K) (hu : X.A.units + 60 < cLine) : MtR X "list.index" (FW K) := by
  subst hK
  intro pins s σ H x vs v us Q I rx rv h
  obtain ⟨l, y, d, ds, j, rfl, rfl, hj9, hd, he, fd, fe, ⟨z0, hz0, ez0⟩, hno, q⟩ := h
  cases rx
  cases rv with
  | @cons _ u1 _ _ r1 rv =>
    cases rv
    obtain ⟨as, R1⟩ := hd.reads I r1
    obtain ⟨bs, R2⟩ := he.reads I (show RelV (.ref l) (.ref l) from rfl)
    have dp : PyData.depthAll ds + 1 ≤ 40 := fe.2
    have fe1 : PyData.canLayAll0 ds = true := fe.1
    cases R2 with
    | @list _ o its n _ as' e1 e2 e3 e4 =>
      have emap := SeqAt.readsAll_map ds its.toList as' fe1 e4
      have at_ : ∀ (m : Nat) (hm : m < its.size), ds[m]? = some (SeqAt.readOf s.heap its[m]) := fun m hm => by
        rw [← emap, List.getElem?_map]
        simp [hm]
      have hj : j < its.size := by
        have := (List.getElem?_eq_some_iff.mp hz0).1
        have hl : ds.length = its.size := by rw [← emap]; simp
        omega
      have M := SeqAt.list_indexAt l its n o.dict o.slots u1 (fun z => PyData.eqv (SeqAt.readOf s.heap z) d) j hj (by omega) (by
        have := at_ j hj
        rw [hz0] at this
        cases this
        exact ez0) (fun m hm hlt => hno m _ hlt (at_ m hm))
      have eo : s.heap.get? l = some { cls := .type "list", dict := o.dict, data := .seq its n, slots := o.slots } := by
        rw [e1, ← e2, ← e3]
      refine call_meets F.slot_list_index ⟨_, e1, e2⟩ F.entry_list_index (F.args_list_index_2 _ _) M ⟨eo, fun z hz => ?_, ?_⟩
      · obtain ⟨d', as2, R3, c3, dp3⟩ := SeqAt.readsAll_mem ds its.toList as' fe1 e4 z (by simpa using hz)
        have er : SeqAt.readOf s.heap z = d' := by
          have := SeqAt.readsAll_map [d'] [z] _ (by show (PyData.canLay0 d' && true) = true; rw [c3]; rfl) (.cons R3 .nil)
          simpa using this
        rw [er]
        refine SeqAt.eqAt_reads d' d _ s z u1 as2 as R3 R1 c3 fd.1 ?_
        have := fd.2
        show X.A.units + 1 + min d'.depth d.depth < cLine
        omega
      · exact ⟨.int _, H, I.tok _, ⟨_, rfl⟩, q⟩
theorem DA {X : Cx} {K : PySem.W.Frag} (h : X.K = K) (hc : X.calm = true) : uS X (.type "set") (fun xs H Q => ∃ (p : Addr) (ns : List Int), xs = [.ref p] ∧ SqL K H p (ns.map V.int) ∧ ns.length < 1000 ∧ ∀ l S m, H l = none → Q (.ref l) (upd H l (.set S m))) := by
  subst h
  intro pins s σ H xs us Q I r q
  obtain ⟨p, ns, e, a, b, q⟩ := q
  exact BQ hc pins s σ H xs us Q I r ⟨p, ns, e, a, b, fun l hl => q l _ _ hl⟩
end L2

set_option Elab.async false
set_option linter.all false
set_option maxRecDepth 100000
set_option maxHeartbeats 1000000
namespace L2
open PySem PySem.Spec PyProof.Rows
section
variable {κ : Type} [DecidableEq κ]
def vo (kvs : List (κ × V)) (k : κ) : Option V := (kvs.find? fun kv => decide (kv.1 = k)).map (·.2)
def putK (kvs : List (κ × V)) (k : κ) (v : V) : List (κ × V) :=
  if (kvs.any fun kv => decide (kv.1 = k)) = true then kvs.map (fun kv => if kv.1 = k then (kv.1, v) else kv) else kvs ++ [(k, v)]
def Fw (kvs : List (κ × V)) (k : κ) : List (κ × V) := kvs.filter fun kv => decide (kv.1 ≠ k)

theorem za {p : κ × V} {r : List (κ × V)} {k : κ} (e : p.1 = k) : vo (p :: r) k = some p.2 := by simp [vo, List.find?_cons, e]
theorem vO {p : κ × V} {r : List (κ × V)} {k : κ} (e : ¬ p.1 = k) : vo (p :: r) k = vo r k := by simp [vo, List.find?_cons, e]
theorem RelO.isSome_eq {o : Option V} {u : Option Value} (r : RelO o u) : o.isSome = u.isSome := by
  cases o with
  | none => cases u with
    | none => rfl
    | some _ => exact (show False from r).elim
  | some _ => cases u with
    | none => exact (show False from r).elim
    | some _ => rfl
theorem RelO.getD {o : Option V} {u : Option Value} {d : V} {d' : Value} (r : RelO o u) (rd : RelV d d') : RelV (o.getD d) (u.getD d') := by
  cases o with
  | none => cases u with
    | none => exact rd
    | some _ => exact (show False from r).elim
  | some _ => cases u with
    | none => exact (show False from r).elim
    | some _ => exact r

theorem KV.val {kvs : List (κ × V)} {vs : List (κ × Value)} (r : KV kvs vs) (k : κ) : RelO (vo kvs k) (valueAt vs k) := by
  unfold KV at r
  induction r with
  | nil => exact True.intro
  | @cons p q ps qs h t ih =>
    obtain ⟨h1, h2⟩ := h
    by_cases e : p.1 = k
    · have e' : q.1 = k := h1.symm.trans e
      have b : valueAt (q :: qs) k = some q.2 := by simp [valueAt, List.find?_cons, e']
      rw [za e, b]; exact h2
    · have e' : ¬ q.1 = k := fun z => e (h1.trans z)
      have b : valueAt (q :: qs) k = valueAt qs k := by simp [valueAt, List.find?_cons, e']
      rw [vO e, b]; exact ih
theorem KV.any {kvs : List (κ × V)} {vs : List (κ × Value)} (r : KV kvs vs) (k : κ) : (kvs.any fun kv => decide (kv.1 = k)) = vs.any fun kv => decide (kv.1 = k) := by
  unfold KV at r
  induction r with
  | nil => rfl
  | cons h t ih => rw [List.any_cons, List.any_cons, ih, h.1]
theorem KV.drop {kvs : List (κ × V)} {vs : List (κ × Value)} (r : KV kvs vs) (k : κ) : KV (Fw kvs k) (without vs k) := by
  unfold KV at r ⊢
  unfold Fw without
  induction r with
  | nil => exact .nil
  | @cons p q ps qs h t ih =>
    obtain ⟨h1, h2⟩ := h
    rw [List.filter_cons, List.filter_cons]
    by_cases e : p.1 = k
    · have a : ¬ decide (p.1 ≠ k) = true := by simp [e]
      have b : ¬ decide (q.1 ≠ k) = true := by simp [h1.symm.trans e]
      rw [if_neg a, if_neg b]; exact ih
    · have e' : ¬ q.1 = k := fun z => e (h1.trans z)
      have a : decide (p.1 ≠ k) = true := by simp [e]
      have b : decide (q.1 ≠ k) = true := by simp [e']
      rw [if_pos a, if_pos b]; exact .cons ⟨h1, h2⟩ ih
theorem KV.keys {kvs : List (κ × V)} {vs : List (κ × Value)} (r : KV kvs vs) : kvs.map (·.1) = vs.map (·.1) := by
  unfold KV at r
  induction r with
  | nil => rfl
  | cons h t ih => rw [List.map_cons, List.map_cons, ih, h.1]
theorem KV.length {kvs : List (κ × V)} {vs : List (κ × Value)} (r : KV kvs vs) : kvs.length = vs.length := Paired.length r
end


theorem CZ {P : Program} {w : World} {k : Key} {u : Value} (r : RelV (kV k) u) : (vd P w).is k u = true := by
  cases k with
  | inl i => obtain ⟨t, e⟩ := (show ∃ t, u = Value.int i t from r); subst e; exact Bt P w i t
  | inr x => obtain ⟨t, e⟩ := (show ∃ t, u = Value.str x t from r); subst e; exact BE P w x t
section
variable {P : Program} {w : World} {H : Hp} {h : Heap} {a : Addr}
end

def DGet (H : Hp) (a : Addr) (y : V) (r : Option V) : Prop :=
  (∃ kvs k, Rd H a (.dK kvs) ∧ y = kV k ∧ r = vo kvs k) ∨ ∃ kvs k b, Rd H a (.dT kvs) ∧ y = .ref b ∧ H b = some (.tup (k.map kV)) ∧ r = vo kvs k
def DPut (H : Hp) (a : Addr) (y v : V) (H' : Hp) : Prop :=
  (∃ kvs k, H a = some (.dK kvs) ∧ y = kV k ∧ kvs.length < sizeLine ∧ H' = upd H a (.dK (putK kvs k v))) ∨
  ∃ kvs k b, H a = some (.dT kvs) ∧ y = .ref b ∧ H b = some (.tup (k.map kV)) ∧ kvs.length < sizeLine ∧ H' = upd H a (.dT (putK kvs k v))
theorem DGet.k {H : Hp} {a : Addr} {kvs : List (Key × V)} {k : Key} (e : H a = some (.dK kvs)) : DGet H a (kV k) (vo kvs k) := .inl ⟨kvs, k, .inl e, rfl, rfl⟩
theorem DGet.t {H : Hp} {a b : Addr} {kvs : List (List Key × V)} {k : List Key} (e : H a = some (.dT kvs)) (eb : H b = some (.tup (k.map kV))) : DGet H a (.ref b) (vo kvs k) := .inr ⟨kvs, k, b, .inl e, rfl, eb, rfl⟩
theorem DPut.k {H : Hp} {a : Addr} {kvs : List (Key × V)} {k : Key} {v : V} (e : H a = some (.dK kvs)) (hl : kvs.length < sizeLine) : DPut H a (kV k) v (upd H a (.dK (putK kvs k v))) := .inl ⟨kvs, k, e, rfl, hl, rfl⟩
theorem DPut.t {H : Hp} {a b : Addr} {kvs : List (List Key × V)} {k : List Key} {v : V} (e : H a = some (.dT kvs)) (eb : H b = some (.tup (k.map kV))) (hl : kvs.length < sizeLine) :
    DPut H a (.ref b) v (upd H a (.dT (putK kvs k v))) := .inr ⟨kvs, k, b, e, rfl, eb, hl, rfl⟩


section
variable {X : Cx} {pins : List (Addr × Obj)} {σ : St} {H : Hp} {s : Shared} {a : Addr} {y v : V} {u r : Value} {o : Option V} {A : Around} {E : Value → Shared → Prop}

end

section
variable {X : Cx} {pins : List (Addr × Obj)} {σ : St} {H : Hp} {s : Shared} {a : Addr} {kvs : List (Key × V)} {k : Key} {u : Value} {A : Around} {E : Value → Shared → Prop}
end


def GX (i : Expr) : Prop := ∀ ov iv, subscripted i false ov iv = operate [ov, iv] (getItem ov iv)
theorem Gc {prog : Program} {w : World} {A : Around} {E : Value → Shared → Prop} {s : Shared} {env : Env} {value slice : Expr} {pos : Pos} {T id : String} {Q : Value → Shared → Prop}
    (hl : typeLookup (.type T) "__getitem__" = pure (some (.builtin id))) (hs : GX slice)
    (h : wpAny (model prog w) A (eval value env) (fun o s₁ => wpAny (model prog w) A (eval slice env) (fun i s₂ => s₂.TypeIs o T ∧ wpAny (model prog w) A (getItem o i) Q E s₂) E s₁) E s) :
    wpAny (model prog w) A (eval (.Subscript value slice pos) env) Q E s := by
  refine Subscript_ (wpAny_mono h (fun o s₁ h₁ => wpAny_mono h₁ (fun i s₂ h₂ => ?_) fun _ _ x => x) fun _ _ x => x)
  obtain ⟨hT, h₂⟩ := h₂
  unfold subscriptTail
  refine wpAny_bind ?_
  rw [getitemInPython_of_ne hT.not_modules]
  refine wpAny_bind (wpAny_specialOf hT hl ?_)
  have fin : wpAny (model prog w) A (subscripted slice false o i) (fun r s₃ => wpAny (model prog w) A (letTemporaryGo value o r >>= fun _ => pure r) Q E s₃) E s₂ := by
    rw [hs o i]
    exact wpAny_operating (wpAny_mono h₂ (fun r s₃ h₃ => wpAny_bind (wpAny_letTemporaryGo (wpAny_pure h₃))) fun _ _ x => x)
  first
    | exact wpAny_pure (wpAny_bind fin)
    | exact wpAny_bind (wpAny_pure (wpAny_bind fin))
    | exact wpAny_bind fin

section
variable {X : Cx} {o i e value : Expr} {pos pos' tpos : Pos} {td ty tv : TE}
end


section
variable {X : Cx} {pos : Pos}
end

structure M1 (X : Cx) (o : Expr) (m : Str) (apos : Pos) (e : Expr) (cpos : Pos) : Prop where
  base : attributeBase o m X.env (eval o X.env) = eval o X.env
  few : ((backTo cpos (starEach [e] X.env)).all (fun x => !x.1) && (backToKw cpos (keywordEach [] X.env)).all (fun x => x.1.isSome)
    && decide (([e] : List Expr).length + ([] : List Keyword).length + (if ([] : List Keyword).isEmpty then 0 else 1) < 30)) = true
  line : (apos.endLine == cpos.line) = true
  trees : backTo cpos (starEach [e] X.env) = [(false, eval e X.env)]
structure M2 (X : Cx) (o : Expr) (m : Str) (apos : Pos) (e f : Expr) (cpos : Pos) : Prop where
  base : attributeBase o m X.env (eval o X.env) = eval o X.env
  few : ((backTo cpos (starEach [e, f] X.env)).all (fun x => !x.1) && (backToKw cpos (keywordEach [] X.env)).all (fun x => x.1.isSome)
    && decide (([e, f] : List Expr).length + ([] : List Keyword).length + (if ([] : List Keyword).isEmpty then 0 else 1) < 30)) = true
  line : (apos.endLine == cpos.line) = true
  trees : backTo cpos (starEach [e, f] X.env) = [(false, eval e X.env), (false, eval f X.env)]

section
variable {X : Cx} {pins : List (Addr × Obj)} {σ : St} {H : Hp} {s : Shared} {a : Addr} {y d : V} {u r : Value} {o : Option V} {A : Around} {E : Value → Shared → Prop}
end

section
variable {X : Cx} {o e f : Expr} {apos cpos : Pos} {td ty tx : TE}
end

section
variable {X : Cx} {pins : List (Addr × Obj)} {σ : St} {H : Hp} {s : Shared} {a : Addr} {kvs : List (Key × V)} {A : Around} {E : Value → Shared → Prop}
end


section
variable {X : Cx} {pins : List (Addr × Obj)} {σ : St} {H : Hp} {s : Shared} {a : Addr} {y : V} {u : Value} {A : Around} {E : Value → Shared → Prop}
end
end L2
namespace L2
open PySem PySem.Spec PyProof.Rows
section
variable {κ : Type} [DecidableEq κ]
end
end L2

set_option Elab.async false
set_option linter.all false
set_option maxRecDepth 100000
set_option maxHeartbeats 1000000
namespace L2
open PySem PySem.Spec PyProof.Rows
def KEnt (P : Params) : List DictEntry → List (Str × V) → Prop
  | [], [] => True
  | e :: es, kv :: r => (∃ t, e.key = .str kv.1 t) ∧ e.hash = PyData.keyHash P kv.1 ∧ RelV kv.2 e.val ∧ KEnt P es r
  | _, _ => False
structure KDct (P : Params) (K : PySem.W.Frag) (a : Addr) (kvs : List (Str × V)) : Prop where
  sm : (a == sysModules) = false
  nd : (kvs.map (·.1)).Nodup
  ob : ∃ es ep, K.lookup a = some ⟨.type "dict", none, .dict es ep, #[]⟩ ∧ KEnt P es.toList kvs
def kvK (kvs : List (Str × V)) : List (Key × V) := kvs.map fun kv => (.inr kv.1, kv.2)
theorem zd (k : Str) : ∀ kvs : List (Str × V), vo (kvK kvs) (.inr k) = vo kvs k
  | [] => rfl
  | p :: r => by
    by_cases e : p.1 = k
    · rw [za e]
      exact za (show (Sum.inr p.1 : Key) = Sum.inr k by rw [e])
    · rw [vO e, ← zd k r]
      exact vO fun z => e (by injection z)
theorem KEnt.pairs {prog : Program} {w : World} : ∀ {es : List DictEntry} {kvs : List (Str × V)}, KEnt w.params es kvs → ∃ vs : List (Key × Value), KV (kvK kvs) vs ∧ Pairs (vd prog w) es vs ∧ ∀ e ∈ es, ∃ k, (vd prog w).is k e.key = true ∧ e.hash = (vd prog w).hash k
  | [], [], _ => ⟨[], .nil, .nil, fun e h => by cases h⟩
  | e :: es, kv :: r, ⟨⟨t, hk⟩, hh, rv, t2⟩ => by
    obtain ⟨vs, h1, h2, h3⟩ := KEnt.pairs (prog := prog) t2
    have is : (vd prog w).is (.inr kv.1) e.key = true := by rw [hk]; exact CZ (k := .inr kv.1) (u := .str kv.1 t) ⟨t, rfl⟩
    refine ⟨(.inr kv.1, e.val) :: vs, .cons ⟨rfl, rv⟩ h1, .cons is rfl h2, fun e' he => ?_⟩
    rcases List.mem_cons.mp he with rfl | he
    · exact ⟨_, is, hh⟩
    · exact h3 e' he
  | [], _ :: _, h => h.elim
  | _ :: _, [], h => h.elim
theorem Al : ∀ {l : List Str}, l.Nodup → (l.map (Sum.inr : Str → Key)).Nodup
  | [], _ => .nil
  | a :: l, h => by
    rw [List.nodup_cons] at h
    rw [List.map_cons, List.nodup_cons]
    refine ⟨fun m => ?_, Al h.2⟩
    obtain ⟨b, hb, e⟩ := List.mem_map.mp m
    injection e with e
    exact h.1 (e ▸ hb)
section
variable {X : Cx} {pins : List (Addr × Obj)} {σ : St} {H : Hp} {s : Shared} {a : Addr} {k : Str} {v : V} {u : Value} {A : Around} {E : Value → Shared → Prop} {kvs : List (Str × V)}
theorem KDct.dict (I : Inv X pins σ H s) (D : KDct X.w.params X.K a kvs) : ∃ vs : List (Key × Value), KV (kvK kvs) vs ∧ s.heap.DictOf (vd X.prog X.w) a vs := by
  obtain ⟨sm, nd, es, ep, hl, he⟩ := D
  obtain ⟨vs, h1, h2, h3⟩ := he.pairs (prog := X.prog) (w := X.w)
  refine ⟨vs, h1, _, es, ep, I.kIn a _ hl, ⟨rfl, rfl, rfl⟩, rfl, fun e m => h3 e (by simpa using m), h2, ?_⟩
  rw [← h1.keys]
  have : (kvK kvs).map (·.1) = (kvs.map (·.1)).map (Sum.inr : Str → Key) := by
    unfold kvK
    rw [List.map_map, List.map_map]
    rfl
  rw [this]
  exact Al nd
def Fp (P : Params) (K : PySem.W.Frag) (td ty : TE) : TE := fun σ H Q => td σ H fun x H1 => ty σ H1 fun y H2 => ∃ a kvs k v, x = .ref a ∧ KDct P K a kvs ∧ y = .str k ∧ vo kvs k = some v ∧ Q v H2
def G1 (P : Params) (K : PySem.W.Frag) (ty td : TE) : TE := fun σ H Q => ty σ H fun y H1 => td σ H1 fun x H2 => ∃ a kvs k, x = .ref a ∧ KDct P K a kvs ∧ y = .str k ∧ Q (.bl (vo kvs k).isSome) H2
end
section
variable {X : Cx} {o i : Expr} {pos : Pos} {td ty : TE}
theorem FQ (ho : PE X o td) (hi : PE X i ty) (hs : GX i) : PE X (.Subscript o i pos) (Fp X.w.params X.K td ty) := by
  intro pins s σ H Q I h
  refine Gc PySem.F.slot_dict_getitem.lookup hs (thn (ho pins s σ H _ I h) fun u s1 ⟨x, H1, I1, rx, q1⟩ => thn (hi pins s1 σ H1 _ I1 q1) fun iv s2 ⟨y, H2, I2, ry, a, kvs, k, v, ex, D, ey, l, q2⟩ => ?_)
  subst ex
  subst ey
  obtain rfl : u = Value.ref a := rx
  obtain ⟨vs, rel, dd⟩ := D.dict I2
  obtain ⟨w', hw, rw'⟩ := RelO.some_of (v := v) (o := valueAt vs (.inr k)) (by rw [← l, ← zd]; exact rel.val _)
  exact ⟨dd.typeIs, wpAny_getItem_of (CZ (k := .inr k) ry) dd.mapOf hw ⟨v, H2, I2.tok _, rw', q2⟩⟩
theorem Gz (hi : PE X i ty) (ho : PE X o td) : PC X .In i o (G1 X.w.params X.K ty td) := by
  intro pins s σ H Q I h
  refine thn (hi pins s σ H _ I h) fun iv s1 ⟨y, H1, I1, ry, q1⟩ => thn (ho pins s1 σ H1 _ I1 q1) fun u s2 ⟨x, H2, I2, rx, a, kvs, k, ex, D, ey, q2⟩ => ?_
  subst ex
  subst ey
  obtain rfl : u = Value.ref a := rx
  obtain ⟨vs, rel, dd⟩ := D.dict I2
  refine wpAny_in_of (CZ (k := .inr k) ry) D.sm dd.mapOf ?_
  rw [← (rel.val (.inr k)).isSome_eq, zd]
  exact ⟨.bl (vo kvs k).isSome, H2, I2.tok _, rfl, q2⟩
end
end L2

set_option linter.all false
namespace MthL
def pk (ws : List Int) (w : Int) (i : Nat) : Bool := decide (0 < ws.getD i 0 ∧ ws.getD i 0 ≤ w ∧ ∀ j, j < i → ws.getD j 0 ≠ ws.getD i 0)
def rk (ws : List Int) (w : Int) : Nat := ((List.range ws.length).filter (pk ws w)).length
theorem first {ws : List Int} {w : Int} (h : w ∈ ws) : ∃ i, i < ws.length ∧ ws.getD i 0 = w ∧ ∀ j, j < i → ws.getD j 0 ≠ w := by
  induction ws with
  | nil => cases h
  | cons a ws ih =>
    by_cases e : a = w
    · exact ⟨0, Nat.zero_lt_succ _, e, fun j hj => absurd hj (Nat.not_lt_zero _)⟩
    · obtain ⟨i, h1, h2, h3⟩ := ih ((List.mem_cons.mp h).resolve_left fun z => e z.symm)
      refine ⟨i + 1, Nat.succ_lt_succ h1, h2, fun j hj => ?_⟩
      cases j with
      | zero => exact e
      | succ j => exact h3 j (Nat.lt_of_succ_lt_succ hj)
theorem below {ws : List Int} (w : Int) : (∀ o ∈ ws, 0 < o → w ≤ o) ∨ ∃ v ∈ ws, 0 < v ∧ v < w ∧ ∀ o ∈ ws, o < w → o ≤ v := by
  induction ws with
  | nil => exact .inl fun o ho => by cases ho
  | cons a ws ih =>
    by_cases ha : 0 < a ∧ a < w
    · rcases ih with ih | ⟨v, h1, h2, h3, h4⟩
      · refine .inr ⟨a, List.mem_cons_self .., ha.1, ha.2, fun o ho hl => ?_⟩
        rcases List.mem_cons.mp ho with rfl | ho
        · exact Int.le_refl _
        · by_cases h0 : 0 < o
          · have := ih o ho h0
            omega
          · omega
      · by_cases hv : a ≤ v
        · refine .inr ⟨v, List.mem_cons_of_mem _ h1, h2, h3, fun o ho hl => ?_⟩
          rcases List.mem_cons.mp ho with rfl | ho
          · exact hv
          · exact h4 o ho hl
        · refine .inr ⟨a, List.mem_cons_self .., ha.1, ha.2, fun o ho hl => ?_⟩
          rcases List.mem_cons.mp ho with rfl | ho
          · exact Int.le_refl _
          · have := h4 o ho hl
            omega
    · rcases ih with ih | ⟨v, h1, h2, h3, h4⟩
      · refine .inl fun o ho h0 => ?_
        rcases List.mem_cons.mp ho with rfl | ho
        · omega
        · exact ih o ho h0
      · refine .inr ⟨v, List.mem_cons_of_mem _ h1, h2, h3, fun o ho hl => ?_⟩
        rcases List.mem_cons.mp ho with rfl | ho
        · omega
        · exact h4 o ho hl
def look (ws : List Int) : List Int := ws.map fun w => (rk ws w : Int)
end MthL

set_option linter.all false
namespace Mth
def cell (ns : List Int) (k : Int) : Int :=
  if k < (ns.length : Int) then ns.getD k.toNat 0 % 10 ^ 60
  else (if 0 < (ns.length : Int) then ns.getD (k * 7 % (ns.length : Int)).toNat 0 % 10 ^ 60 * 48271 + k * k * 69621 else 7919 * k + 5) % 2147483647 * 16807 % 2147483629
theorem cell_in (ns : List Int) (k : Int) : 0 ≤ cell ns k ∧ cell ns k < 10 ^ 60 := by
  unfold cell
  split
  · have h1 := Int.emod_nonneg (ns.getD k.toNat 0) (show (10 ^ 60 : Int) ≠ 0 by decide)
    have h2 := Int.emod_lt_of_pos (ns.getD k.toNat 0) (show (0 : Int) < 10 ^ 60 by decide)
    exact ⟨h1, h2⟩
  · generalize (if 0 < (ns.length : Int) then ns.getD (k * 7 % (ns.length : Int)).toNat 0 % 10 ^ 60 * 48271 + k * k * 69621 else 7919 * k + 5) % 2147483647 * 16807 = z
    have h1 := Int.emod_nonneg z (show (2147483629 : Int) ≠ 0 by decide)
    have h2 := Int.emod_lt_of_pos z (show (0 : Int) < 2147483629 by decide)
    have h3 : (2147483629 : Int) ≤ 10 ^ 60 := by decide
    exact ⟨h1, by omega⟩

def gcd (a b : Int) : Int := (Int.gcd a b : Nat)
structure IsShare (t b x y : Int) : Prop where
  pos : 0 < y
  low : gcd x y = 1
  eq : x * b = t * y
  le1 : x.natAbs ≤ t.natAbs
  le2 : y.natAbs ≤ b.natAbs
def tot (s r : Int × Int) : Int × Int := (s.1 * r.2 + r.1 * s.2, s.2 * r.2)
structure Low (T : Int × Int) (x y : Int) : Prop where
  pos : 0 < y
  low : gcd x y = 1
  eq : x * T.2 = T.1 * y
end Mth

set_option Elab.async false
set_option linter.all false
set_option maxRecDepth 100000
set_option maxHeartbeats 4000000
namespace My
open PySem L2
def AF (K : PySem.W.Frag) : Sp := fun vs H Q _ => ∃ (a : Addr) (ns : List Int), vs = [.ref a] ∧ SqL K H a (ns.map V.int) ∧ ns.length ≤ 63 ∧ ∀ H', Q (.bl true) H'
theorem Ci {ns : List Int} {k : Int} (h0 : 0 ≤ k) (h1 : k < ns.length) : atI (ns.map V.int) k = some (.int (ns.getD k.toNat 0)) := by
  have e : k = ((k.toNat : Nat) : Int) := by omega
  have h2 : k.toNat < ns.length := by omega
  have q : (ns.map V.int)[k.toNat]? = some (.int (ns.getD k.toNat 0)) := by
    rw [List.getElem?_map, List.getElem?_eq_getElem h2]
    simp [List.getD, h2]
  have := uw q
  rw [← e] at this
  exact this
theorem Cr {n : Nat} {i : Int} (lo : -(10 ^ 61) ≤ i) (hi : i ≤ 10 ^ 61) (hn : 204 ≤ n := by decide) : Bits n i := (Bits.of (n := 204) (b := 10 ^ 61) lo hi (by decide)).mono hn
theorem p5 {H : Hp} {p : Addr} (h : H p = none) (o : HO) : Same H (upd H p o) := fun b u q => by rw [tP (tU q h)]; exact q
theorem Same.tup {K : PySem.W.Frag} {H H' : Hp} {a : Addr} {xs : List V} (e : Same H H') (h : SqT K H a xs) : SqT K H' a xs := by
  rcases h with (h | ⟨o, h⟩) | h
  · exact .inl (.inl (e _ _ h))
  · exact .inl (.inr ⟨o, e _ _ h⟩)
  · exact .inr h
theorem Gp {n : Int} (h0 : 0 ≤ n := by decide) (h1 : n ≤ 1000000 := by decide) : Gk 10 n := ⟨h0, h1, by decide⟩
theorem B0 (n : Nat) : (0 : Int) < 10 ^ n := Int.pow_pos (by decide)
theorem vJ {i j : Int} (a : -(10 ^ 61) ≤ i) (b : i ≤ 10 ^ 61) (c : -(10 ^ 61) ≤ j) (d : j ≤ 10 ^ 61) : CMulB i j := ⟨Cr a b, Cr c d⟩
theorem cdiv {i j : Int} (a : 0 < j) (b : j ≤ 10 ^ 61) : CDivB i j := ⟨a, Cr (by omega) b⟩
theorem FU {n j : Nat} (h : j < n) : ixN n (j : Int) = some j := by
  unfold ixN
  rw [if_pos (by omega), if_pos (by omega)]
  rfl
theorem tY {K : PySem.W.Frag} {H : Hp} {p : Addr} (h : H p = none) (xs : List V) : ∃ H1, H1 = upd H p (.tup xs) ∧ Same H H1 ∧ SqT K H1 p xs := ⟨_, rfl, p5 h _, SqT.of ic⟩
theorem uv {H H' : Hp} {l : Addr} (e : Same H H') (h : H l = none) (o : HO) : Same H (upd H' l o) := fun b u hb => by rw [tP (tU hb h)]; exact e _ _ hb


local macro_rules | `(tactic| trivial) => `(tactic| simp only [Fp, G1, GO, Gr, GZ, Dp, Dz, DI, Ft, DZ, DN, iOr, Gn, GK, rJoin, ED, wW, slots, Option.getD_some, Option.getD_none, GV, Gw, C4, zo, tOp, tUn, tC, yi, tCB, yD, EM, zE, rI, rI0, rU, GD, GA, Dj, tB, GG, tOr, GC, Fo, Gx, Fd, AM, Fi, FA, Ge, Gi, Fz, DC, EV, Fx, GB, Gs, Fq, tBM, Cd, rEq, rNe, Gg, EI, EZ, GE, Cz, BP, Bs, Bv, Bw, Ed, CM, Cv, C1, CL, Ds, Bh, Bj, BJ, Bm, Dd, Bg, BV, Bk, Bx, Dq, BR, BF, BN, Bo, Dl, Bl, BO, BU, BG, CP, BW, BC, Bq, BK, Gy, G7, Gm, G0, Cs, C6, CF, Er, D4, CA, CT, CI, EK, C3, CN, CU, DJ, DU, decide_true, decide_false, F0, CS, Fl, Fe, FP, Ey, FS, EE, Ec, L2.start, cxK, Int.reduceToNat, List.map_cons, List.map_nil, List.length_cons, List.length_nil, Nat.reduceAdd, Nat.reduceSub, Nat.zero_add, List.replicate_succ, List.replicate_zero, List.cons_append, List.nil_append, List.append_nil, List.getElem?_cons_zero, List.getElem?_cons_succ, List.set_cons_zero, List.set_cons_succ, Option.some.injEq, V.int.injEq, V.bl.injEq, V.ref.injEq, V.str.injEq, V.ty.injEq, List.cons.injEq, exists_eq_left', exists_eq_left, exists_eq_right, exists_and_left, exists_and_right, and_true, true_and, and_assoc, exists_const, decide_eq_true_eq, Bool.not_eq_true', Bool.not_true, Bool.not_false, Bool.not_not, decide_eq_false_iff_not, ite_not, Bool.false_eq_true, if_true, if_false, reduceCtorEq, and_false, false_and, exists_false, or_false, false_or, ↓reduceIte, eq_self, reduceIte])
local macro_rules | `(tactic| decreasing_trivial) => `(tactic| first | exact Or.inl rfl | exact Or.inr (Or.inl rfl) | exact Or.inr (Or.inr rfl))
def top (i : Nat) : Stmt := PySem.Challenge.pw_tariffgate_k35_reasons_hold_up.main.body.getD i (.Pass ⟨0, 0, 0, 0⟩)
def inner : Stmt → Nat → Stmt
  | .ClassDef _ _ _ b _ _ _ _ _ _ _, j => b.getD j (.Pass ⟨0, 0, 0, 0⟩)
  | st, _ => st
theorem dL : (("thing" : Str) == ("__debug__" : Str)) = false := by decide
theorem dM : (("thing" : Str) == ("__classdict__" : Str)) = false := by decide
theorem sZ : (("all" : Str) == ("__debug__" : Str)) = false := by decide
theorem tf : ("all" : Str) ≠ "__name__" := by decide
theorem aV : (("isinstance" : Str) == ("__debug__" : Str)) = false := by decide
theorem aW : ("isinstance" : Str) ≠ "__name__" := by decide
theorem sA : (("str" : Str) == ("__debug__" : Str)) = false := by decide
theorem sB : ("str" : Str) ≠ "__name__" := by decide
theorem bf : (("len" : Str) == ("__debug__" : Str)) = false := by decide
theorem bg : ("len" : Str) ≠ "__name__" := by decide
theorem jZ : (("is_name" : Str) == ("__debug__" : Str)) = false := by decide
theorem fD : (("tuple" : Str) == ("__debug__" : Str)) = false := by decide
theorem fE : ("tuple" : Str) ≠ "__name__" := by decide
theorem bO : (("_law_script" : Str) == ("__debug__" : Str)) = false := by decide
theorem bP : (("_law_script" : Str) == ("__classdict__" : Str)) = false := by decide
theorem bG : (("_law_k" : Str) == ("__debug__" : Str)) = false := by decide
theorem bH : (("_law_k" : Str) == ("__classdict__" : Str)) = false := by decide
theorem bh : (("_law_number" : Str) == ("__debug__" : Str)) = false := by decide
theorem bi : (("_law_number" : Str) == ("__classdict__" : Str)) = false := by decide
theorem d9 : (("_law_many" : Str) == ("__debug__" : Str)) = false := by decide
theorem ee : (("_law_many" : Str) == ("__classdict__" : Str)) = false := by decide
theorem aF : (("_law_cell_here" : Str) == ("__debug__" : Str)) = false := by decide
theorem aG : (("_law_cell_here" : Str) == ("__classdict__" : Str)) = false := by decide
theorem m7 : (("_law_letters" : Str) == ("__debug__" : Str)) = false := by decide
theorem ng : (("_law_letters" : Str) == ("__classdict__" : Str)) = false := by decide
theorem qE : (("_law_base" : Str) == ("__debug__" : Str)) = false := by decide
theorem qF : (("_law_base" : Str) == ("__classdict__" : Str)) = false := by decide
theorem ln : (("_law_size" : Str) == ("__debug__" : Str)) = false := by decide
theorem lq : (("_law_size" : Str) == ("__classdict__" : Str)) = false := by decide
theorem eM : (("_law_at" : Str) == ("__debug__" : Str)) = false := by decide
theorem eN : (("_law_at" : Str) == ("__classdict__" : Str)) = false := by decide
theorem aH : (("_law_words_here" : Str) == ("__debug__" : Str)) = false := by decide
theorem aI : (("_law_words_here" : Str) == ("__classdict__" : Str)) = false := by decide
theorem eg : (("_law_word" : Str) == ("__debug__" : Str)) = false := by decide
theorem eh : (("_law_word" : Str) == ("__classdict__" : Str)) = false := by decide
theorem ph : (("_law_j" : Str) == ("__debug__" : Str)) = false := by decide
theorem pj : (("_law_j" : Str) == ("__classdict__" : Str)) = false := by decide
theorem nh : (("int" : Str) == ("__debug__" : Str)) = false := by decide
theorem nq : ("int" : Str) ≠ "__name__" := by decide
theorem qG : (("_law_step" : Str) == ("__debug__" : Str)) = false := by decide
theorem qH : (("_law_step" : Str) == ("__classdict__" : Str)) = false := by decide
theorem pw : (("_law_shift" : Str) == ("__debug__" : Str)) = false := by decide
theorem pz : (("_law_shift" : Str) == ("__classdict__" : Str)) = false := by decide
theorem aa : (("_law_kinds_here" : Str) == ("__debug__" : Str)) = false := by decide
theorem ae : (("_law_kinds_here" : Str) == ("__classdict__" : Str)) = false := by decide
theorem ka : (("_law_place" : Str) == ("__debug__" : Str)) = false := by decide
theorem ke : (("_law_place" : Str) == ("__classdict__" : Str)) = false := by decide
theorem mr : (("_law_way" : Str) == ("__debug__" : Str)) = false := by decide
theorem mt : (("_law_way" : Str) == ("__classdict__" : Str)) = false := by decide
theorem ei : (("_law_name" : Str) == ("__debug__" : Str)) = false := by decide
theorem et : (("_law_name" : Str) == ("__classdict__" : Str)) = false := by decide
theorem fP : (("_law_some" : Str) == ("__debug__" : Str)) = false := by decide
theorem fQ : (("_law_some" : Str) == ("__classdict__" : Str)) = false := by decide
theorem dy : (("_law_one" : Str) == ("__debug__" : Str)) = false := by decide
theorem dz : (("_law_one" : Str) == ("__classdict__" : Str)) = false := by decide
theorem b0 : (("_law_mix" : Str) == ("__debug__" : Str)) = false := by decide
theorem ir : (("_law_deep" : Str) == ("__debug__" : Str)) = false := by decide
theorem iu : (("_law_deep" : Str) == ("__classdict__" : Str)) = false := by decide
theorem ck : (("_law_other" : Str) == ("__debug__" : Str)) = false := by decide
theorem cm : (("_law_other" : Str) == ("__classdict__" : Str)) = false := by decide
theorem iw : (("_law_note" : Str) == ("__debug__" : Str)) = false := by decide
theorem pA : (("_law_plain" : Str) == ("__debug__" : Str)) = false := by decide
theorem bU : (("self" : Str) == ("__debug__" : Str)) = false := by decide
theorem bV : (("self" : Str) == ("__classdict__" : Str)) = false := by decide
theorem qI : (("stuff" : Str) == ("__debug__" : Str)) = false := by decide
theorem qJ : (("stuff" : Str) == ("__classdict__" : Str)) = false := by decide
theorem tj : (("use" : Str) == ("__debug__" : Str)) = false := by decide
theorem tm : (("use" : Str) == ("__classdict__" : Str)) = false := by decide
theorem iy : (("one" : Str) == ("__debug__" : Str)) = false := by decide
theorem iA : (("one" : Str) == ("__classdict__" : Str)) = false := by decide
theorem fF : (("other" : Str) == ("__debug__" : Str)) = false := by decide
theorem fG : (("other" : Str) == ("__classdict__" : Str)) = false := by decide
theorem ju : (("word" : Str) == ("__debug__" : Str)) = false := by decide
theorem jv : (("word" : Str) == ("__classdict__" : Str)) = false := by decide
theorem ot : (("name" : Str) == ("__debug__" : Str)) = false := by decide
theorem ou : (("name" : Str) == ("__classdict__" : Str)) = false := by decide
theorem rX : (("Made" : Str) == ("__debug__" : Str)) = false := by decide
theorem rY : (("Used" : Str) == ("__debug__" : Str)) = false := by decide
theorem qK : (("Chief" : Str) == ("__debug__" : Str)) = false := by decide
theorem sC : (("But" : Str) == ("__debug__" : Str)) = false := by decide
theorem rZ : (("Both" : Str) == ("__debug__" : Str)) = false := by decide
theorem pp : (("Either" : Str) == ("__debug__" : Str)) = false := by decide
theorem av : (("told" : Str) == ("__debug__" : Str)) = false := by decide
theorem aw : (("told" : Str) == ("__classdict__" : Str)) = false := by decide
theorem mw : (("Anything" : Str) == ("__debug__" : Str)) = false := by decide
theorem nr : (("note_of_name" : Str) == ("__debug__" : Str)) = false := by decide
theorem nu : (("is_kind" : Str) == ("__debug__" : Str)) = false := by decide
theorem sd : (("Over" : Str) == ("__debug__" : Str)) = false := by decide
theorem ow : (("left" : Str) == ("__debug__" : Str)) = false := by decide
theorem oy : (("left" : Str) == ("__classdict__" : Str)) = false := by decide
theorem oz : (("note_of_one" : Str) == ("__debug__" : Str)) = false := by decide
theorem gp : (("note_within" : Str) == ("__debug__" : Str)) = false := by decide
theorem mJ : (("note_of_notes" : Str) == ("__debug__" : Str)) = false := by decide
theorem aC : (("kinds" : Str) == ("__debug__" : Str)) = false := by decide
theorem aD : (("kinds" : Str) == ("__classdict__" : Str)) = false := by decide
theorem aT : (("look" : Str) == ("__debug__" : Str)) = false := by decide
theorem aU : (("look" : Str) == ("__classdict__" : Str)) = false := by decide
theorem se : (("kind" : Str) == ("__debug__" : Str)) = false := by decide
theorem sg : (("kind" : Str) == ("__classdict__" : Str)) = false := by decide
theorem nv : (("max" : Str) == ("__debug__" : Str)) = false := by decide
theorem ny : ("max" : Str) ≠ "__name__" := by decide
theorem lr : (("number_in" : Str) == ("__debug__" : Str)) = false := by decide
theorem fR : (("_law_weights" : Str) == ("__debug__" : Str)) = false := by decide
theorem fS : (("_law_weights" : Str) == ("__classdict__" : Str)) = false := by decide
theorem tq : (("set" : Str) == ("__debug__" : Str)) = false := by decide
theorem tu : ("set" : Str) ≠ "__name__" := by decide
theorem ah : (("_law_look_here" : Str) == ("__debug__" : Str)) = false := by decide
theorem ai : (("_law_look_here" : Str) == ("__classdict__" : Str)) = false := by decide
theorem qL : (("_law_kind" : Str) == ("__debug__" : Str)) = false := by decide
theorem qM : (("_law_kind" : Str) == ("__classdict__" : Str)) = false := by decide
theorem af : (("_law_told" : Str) == ("__debug__" : Str)) = false := by decide
theorem ag : (("_law_told" : Str) == ("__classdict__" : Str)) = false := by decide
theorem pB : (("_law_least" : Str) == ("__debug__" : Str)) = false := by decide
theorem pC : (("_law_least" : Str) == ("__classdict__" : Str)) = false := by decide
theorem jx : (("_law_weighs" : Str) == ("__debug__" : Str)) = false := by decide
theorem gN : (("_law_shows" : Str) == ("__debug__" : Str)) = false := by decide
theorem dN : (("_law_plain_claims" : Str) == ("__debug__" : Str)) = false := by decide
theorem bY : (("_law_claims" : Str) == ("__debug__" : Str)) = false := by decide
theorem jy : (("bool" : Str) == ("__debug__" : Str)) = false := by decide
theorem jz : ("bool" : Str) ≠ "__name__" := by decide
theorem fk : (("_law_found" : Str) == ("__debug__" : Str)) = false := by decide
theorem fm : (("_law_found" : Str) == ("__classdict__" : Str)) = false := by decide
theorem iV : (("chief_places" : Str) == ("__debug__" : Str)) = false := by decide
theorem jA : (("made_places" : Str) == ("__debug__" : Str)) = false := by decide
theorem jB : (("used_places" : Str) == ("__debug__" : Str)) = false := by decide
theorem aJ : (("reason" : Str) == ("__debug__" : Str)) = false := by decide
theorem aK : (("reason" : Str) == ("__classdict__" : Str)) = false := by decide
theorem iW : (("places" : Str) == ("__debug__" : Str)) = false := by decide
theorem iX : (("places" : Str) == ("__classdict__" : Str)) = false := by decide
theorem pD : (("places_for" : Str) == ("__debug__" : Str)) = false := by decide
theorem my : (("is_whole" : Str) == ("__debug__" : Str)) = false := by decide
theorem oA : (("place_holds" : Str) == ("__debug__" : Str)) = false := by decide
theorem nz : (("is_over" : Str) == ("__debug__" : Str)) = false := by decide
theorem sF : (("truth" : Str) == ("__debug__" : Str)) = false := by decide
theorem sG : (("truth" : Str) == ("__classdict__" : Str)) = false := by decide
theorem mz : (("holds_up" : Str) == ("__debug__" : Str)) = false := by decide
theorem iY : (("wanted" : Str) == ("__debug__" : Str)) = false := by decide
theorem iZ : (("wanted" : Str) == ("__classdict__" : Str)) = false := by decide
theorem lW : (("side" : Str) == ("__debug__" : Str)) = false := by decide
theorem lX : (("side" : Str) == ("__classdict__" : Str)) = false := by decide
theorem nA : (("OF_BOTH" : Str) == ("__debug__" : Str)) = false := by decide
theorem dA : (("first" : Str) == ("__debug__" : Str)) = false := by decide
theorem dB : (("first" : Str) == ("__classdict__" : Str)) = false := by decide
theorem oB : (("says" : Str) == ("__debug__" : Str)) = false := by decide
theorem qN : (("one_holds" : Str) == ("__debug__" : Str)) = false := by decide
theorem rL : (("two_hold" : Str) == ("__debug__" : Str)) = false := by decide
theorem ak : (("_law_reason_here" : Str) == ("__debug__" : Str)) = false := by decide
theorem al : (("_law_reason_here" : Str) == ("__classdict__" : Str)) = false := by decide
theorem cN : (("_law_due" : Str) == ("__debug__" : Str)) = false := by decide
theorem cO : (("_law_due" : Str) == ("__classdict__" : Str)) = false := by decide
theorem kf : (("_law_whole" : Str) == ("__debug__" : Str)) = false := by decide
theorem bp : (("_law_pair_here" : Str) == ("__debug__" : Str)) = false := by decide
theorem bq : (("_law_pair_here" : Str) == ("__classdict__" : Str)) = false := by decide
theorem eA : (("_law_side" : Str) == ("__debug__" : Str)) = false := by decide
theorem eB : (("_law_side" : Str) == ("__classdict__" : Str)) = false := by decide
theorem kg : (("_law_shown" : Str) == ("__debug__" : Str)) = false := by decide
theorem kh : (("_law_shown" : Str) == ("__classdict__" : Str)) = false := by decide
theorem lu : (("_law_pair" : Str) == ("__debug__" : Str)) = false := by decide
theorem dR : (("_law_reads" : Str) == ("__debug__" : Str)) = false := by decide
theorem kR : (("_law_reads_plain" : Str) == ("__debug__" : Str)) = false := by decide
theorem jC : (("_law_places" : Str) == ("__debug__" : Str)) = false := by decide
theorem jD : (("_law_places" : Str) == ("__classdict__" : Str)) = false := by decide
theorem gq : (("_law_reason" : Str) == ("__debug__" : Str)) = false := by decide
theorem fT : (("place_reason" : Str) == ("__debug__" : Str)) = false := by decide
theorem dq : (("second" : Str) == ("__debug__" : Str)) = false := by decide
theorem du : (("second" : Str) == ("__classdict__" : Str)) = false := by decide
theorem ly : (("_law_made_plain" : Str) == ("__debug__" : Str)) = false := by decide
theorem cV : (("_law_made" : Str) == ("__debug__" : Str)) = false := by decide
theorem eO : (("_law_handed" : Str) == ("__debug__" : Str)) = false := by decide
theorem eP : (("_law_handed" : Str) == ("__classdict__" : Str)) = false := by decide
theorem oC : (("list" : Str) == ("__debug__" : Str)) = false := by decide
theorem oE : ("list" : Str) ≠ "__name__" := by decide
theorem rM : (("truth_of" : Str) == ("__debug__" : Str)) = false := by decide
theorem pE : (("_law_words" : Str) == ("__debug__" : Str)) = false := by decide
theorem pF : (("_law_kinds" : Str) == ("__debug__" : Str)) = false := by decide
theorem gY : (("_law_note_here" : Str) == ("__debug__" : Str)) = false := by decide
theorem gZ : (("_law_note_here" : Str) == ("__classdict__" : Str)) = false := by decide
theorem jE : (("_law_turned" : Str) == ("__debug__" : Str)) = false := by decide
theorem jF : (("_law_turned" : Str) == ("__classdict__" : Str)) = false := by decide
theorem lz : (("_law_back" : Str) == ("__debug__" : Str)) = false := by decide
theorem lA : (("_law_back" : Str) == ("__classdict__" : Str)) = false := by decide
theorem iB : (("_law_cell" : Str) == ("__debug__" : Str)) = false := by decide
theorem lB : (("_law_look" : Str) == ("__debug__" : Str)) = false := by decide
theorem ss : (("note_of" : Str) == ("__debug__" : Str)) = false := by decide
theorem tD : (("min" : Str) == ("__debug__" : Str)) = false := by decide
theorem tE : ("min" : Str) ≠ "__name__" := by decide
theorem lC : (("_law_says" : Str) == ("__debug__" : Str)) = false := by decide
abbrev cF : Stmt := top 7
theorem su : FnScope ["thing"] ["thing"] (defScope cF) := ⟨rfl, rfl, rfl, by decide +kernel, rfl, by decide +kernel, by decide +kernel⟩
theorem jj : Vis (defScope cF) "thing" := by decreasing_trivial
theorem j0 : (defScope cF).names.lookup ("isinstance" : Str) = some .globalImplicit := by rfl
theorem pG : (defScope cF).names.lookup ("str" : Str) = some .globalImplicit := by rfl
theorem pH : (defScope cF).names.lookup ("len" : Str) = some .globalImplicit := by rfl
theorem pI : (defScope cF).names.lookup ("all" : Str) = some .globalImplicit := by rfl
abbrev cG : Stmt := top 9
theorem sv : FnScope ["thing"] ["thing"] (defScope cG) := ⟨rfl, rfl, rfl, by decide +kernel, rfl, by decide +kernel, by decide +kernel⟩
theorem gG : Vis (defScope cG) "thing" := by decreasing_trivial
theorem j5 : (defScope cG).names.lookup ("isinstance" : Str) = some .globalImplicit := by rfl
theorem nB : (defScope cG).names.lookup ("tuple" : Str) = some .globalImplicit := by rfl
theorem pJ : (defScope cG).names.lookup ("len" : Str) = some .globalImplicit := by rfl
theorem g0 : (defScope cG).names.lookup ("is_name" : Str) = some .globalImplicit := by rfl
abbrev cc : Stmt := top 42
theorem jk : FnScope ["_law_script", "_law_k", "_law_number"] ["_law_script", "_law_k"] (defScope cc) := ⟨rfl, rfl, rfl, by decide +kernel, rfl, by decide +kernel, by decide +kernel⟩
theorem eC : Vis (defScope cc) "_law_script" := by decreasing_trivial
theorem dE : Vis (defScope cc) "_law_k" := by decreasing_trivial
theorem qO : Vis (defScope cc) "_law_number" := by decreasing_trivial
theorem lD : Loc (defScope cc) "_law_number" := by first | exact Or.inl rfl | exact Or.inr rfl
theorem gs : (defScope cc).names.lookup ("len" : Str) = some .globalImplicit := by rfl
abbrev cP : Stmt := top 43
theorem nC : FnScope ["_law_number", "_law_k", "_law_many"] ["_law_number", "_law_k", "_law_many"] (defScope cP) := ⟨rfl, rfl, rfl, by decide +kernel, rfl, by decide +kernel, by decide +kernel⟩
theorem mB : Vis (defScope cP) "_law_number" := by decreasing_trivial
theorem rN : Loc (defScope cP) "_law_number" := by first | exact Or.inl rfl | exact Or.inr rfl
theorem mC : Vis (defScope cP) "_law_k" := by decreasing_trivial
theorem rO : Vis (defScope cP) "_law_many" := by decreasing_trivial
abbrev ax : Stmt := top 45
theorem bJ : FnScope ["_law_cell_here", "_law_many", "_law_letters", "_law_base", "_law_size", "_law_at", "_law_words_here", "_law_k", "_law_word", "_law_j"] ["_law_cell_here", "_law_many"] (defScope ax) := ⟨rfl, rfl, rfl, by decide +kernel, rfl, by decide +kernel, by decide +kernel⟩
theorem gO : Vis (defScope ax) "_law_cell_here" := by decreasing_trivial
theorem pK : Vis (defScope ax) "_law_many" := by decreasing_trivial
theorem pL : Vis (defScope ax) "_law_letters" := by decreasing_trivial
theorem pM : Loc (defScope ax) "_law_letters" := by first | exact Or.inl rfl | exact Or.inr rfl
theorem pN : Vis (defScope ax) "_law_base" := by decreasing_trivial
theorem pO : Loc (defScope ax) "_law_base" := by first | exact Or.inl rfl | exact Or.inr rfl
theorem kj : Vis (defScope ax) "_law_size" := by decreasing_trivial
theorem pP : Loc (defScope ax) "_law_size" := by first | exact Or.inl rfl | exact Or.inr rfl
theorem pQ : Vis (defScope ax) "_law_at" := by decreasing_trivial
theorem pR : Loc (defScope ax) "_law_at" := by first | exact Or.inl rfl | exact Or.inr rfl
theorem km : Vis (defScope ax) "_law_words_here" := by decreasing_trivial
theorem pS : Loc (defScope ax) "_law_words_here" := by first | exact Or.inl rfl | exact Or.inr rfl
theorem ko : Vis (defScope ax) "_law_k" := by decreasing_trivial
theorem pT : Loc (defScope ax) "_law_k" := by first | exact Or.inl rfl | exact Or.inr rfl
theorem kq : Vis (defScope ax) "_law_word" := by decreasing_trivial
theorem gP : Loc (defScope ax) "_law_word" := by first | exact Or.inl rfl | exact Or.inr rfl
theorem kr : Vis (defScope ax) "_law_j" := by decreasing_trivial
theorem pU : Loc (defScope ax) "_law_j" := by first | exact Or.inl rfl | exact Or.inr rfl
theorem dD : (defScope ax).names.lookup ("range" : Str) = some .globalImplicit := by rfl
theorem nD : (defScope ax).names.lookup ("int" : Str) = some .globalImplicit := by rfl
abbrev aE : Stmt := top 46
theorem cW : FnScope ["_law_cell_here", "_law_words_here", "_law_many", "_law_step", "_law_shift", "_law_kinds_here", "_law_k", "_law_place"] ["_law_cell_here", "_law_words_here"] (defScope aE) := ⟨rfl, rfl, rfl, by decide +kernel, rfl, by decide +kernel, by decide +kernel⟩
theorem fo : Vis (defScope aE) "_law_cell_here" := by decreasing_trivial
theorem ku : Vis (defScope aE) "_law_words_here" := by decreasing_trivial
theorem pV : Vis (defScope aE) "_law_many" := by decreasing_trivial
theorem pW : Loc (defScope aE) "_law_many" := by first | exact Or.inl rfl | exact Or.inr rfl
theorem pX : Vis (defScope aE) "_law_step" := by decreasing_trivial
theorem pY : Loc (defScope aE) "_law_step" := by first | exact Or.inl rfl | exact Or.inr rfl
theorem pZ : Vis (defScope aE) "_law_shift" := by decreasing_trivial
theorem p6 : Loc (defScope aE) "_law_shift" := by first | exact Or.inl rfl | exact Or.inr rfl
theorem kz : Vis (defScope aE) "_law_kinds_here" := by decreasing_trivial
theorem p7 : Loc (defScope aE) "_law_kinds_here" := by first | exact Or.inl rfl | exact Or.inr rfl
theorem p8 : Vis (defScope aE) "_law_k" := by decreasing_trivial
theorem qa : Loc (defScope aE) "_law_k" := by first | exact Or.inl rfl | exact Or.inr rfl
theorem kA : Vis (defScope aE) "_law_place" := by decreasing_trivial
theorem qb : Loc (defScope aE) "_law_place" := by first | exact Or.inl rfl | exact Or.inr rfl
theorem lZ : (defScope aE).names.lookup ("range" : Str) = some .globalImplicit := by rfl
abbrev aN : Stmt := top 48
theorem eD : FnScope ["_law_number", "_law_kinds_here", "_law_words_here", "_law_way", "_law_name", "_law_some", "_law_one"] ["_law_number", "_law_kinds_here", "_law_words_here"] (defScope aN) := ⟨rfl, rfl, rfl, by decide +kernel, rfl, by decide +kernel, by decide +kernel⟩
theorem fq : Vis (defScope aN) "_law_number" := by decreasing_trivial
theorem qc : Vis (defScope aN) "_law_kinds_here" := by decreasing_trivial
theorem gQ : Vis (defScope aN) "_law_words_here" := by decreasing_trivial
theorem kB : Vis (defScope aN) "_law_way" := by decreasing_trivial
theorem qd : Loc (defScope aN) "_law_way" := by first | exact Or.inl rfl | exact Or.inr rfl
theorem dS : Vis (defScope aN) "_law_name" := by decreasing_trivial
theorem qe : Loc (defScope aN) "_law_name" := by first | exact Or.inl rfl | exact Or.inr rfl
theorem ft : Vis (defScope aN) "_law_some" := by decreasing_trivial
theorem qg : Loc (defScope aN) "_law_some" := by first | exact Or.inl rfl | exact Or.inr rfl
theorem qh : Vis (defScope aN) "_law_one" := by decreasing_trivial
theorem qi : Loc (defScope aN) "_law_one" := by first | exact Or.inl rfl | exact Or.inr rfl
theorem cK : (defScope aN).names.lookup ("_law_mix" : Str) = some .globalImplicit := by rfl
theorem i0 : (defScope aN).names.lookup ("len" : Str) = some .globalImplicit := by rfl
abbrev bb : Stmt := top 49
theorem gH : FnScope ["_law_number", "_law_deep", "_law_kinds_here", "_law_words_here", "_law_one", "_law_other"] ["_law_number", "_law_deep", "_law_kinds_here", "_law_words_here"] (defScope bb) := ⟨rfl, rfl, rfl, by decide +kernel, rfl, by decide +kernel, by decide +kernel⟩
theorem eE : Vis (defScope bb) "_law_number" := by decreasing_trivial
theorem iC : Vis (defScope bb) "_law_deep" := by decreasing_trivial
theorem iD : Vis (defScope bb) "_law_kinds_here" := by decreasing_trivial
theorem iE : Vis (defScope bb) "_law_words_here" := by decreasing_trivial
theorem qP : Vis (defScope bb) "_law_one" := by decreasing_trivial
theorem qQ : Loc (defScope bb) "_law_one" := by first | exact Or.inl rfl | exact Or.inr rfl
theorem qR : Vis (defScope bb) "_law_other" := by decreasing_trivial
theorem qS : Loc (defScope bb) "_law_other" := by first | exact Or.inl rfl | exact Or.inr rfl
theorem da : (defScope bb).names.lookup ("_law_mix" : Str) = some .globalImplicit := by rfl
theorem jG : (defScope bb).names.lookup ("_law_plain" : Str) = some .globalImplicit := by rfl
theorem fU : (defScope bb).names.lookup ("_law_note" : Str) = some .globalImplicit := by rfl
abbrev cQ : Stmt := inner (top 19) 0
theorem qT : FnScope ["self", "stuff"] ["self", "stuff"] (defScope cQ) := ⟨rfl, rfl, rfl, by decide +kernel, rfl, by decide +kernel, by decide +kernel⟩
theorem qj : Vis (defScope cQ) "self" := by decreasing_trivial
theorem qk : Vis (defScope cQ) "stuff" := by decreasing_trivial
abbrev cR : Stmt := inner (top 20) 0
theorem qU : FnScope ["self", "use"] ["self", "use"] (defScope cR) := ⟨rfl, rfl, rfl, by decide +kernel, rfl, by decide +kernel, by decide +kernel⟩
theorem ql : Vis (defScope cR) "self" := by decreasing_trivial
theorem qm : Vis (defScope cR) "use" := by decreasing_trivial
abbrev cH : Stmt := inner (top 21) 0
theorem qo : FnScope ["self", "stuff"] ["self", "stuff"] (defScope cH) := ⟨rfl, rfl, rfl, by decide +kernel, rfl, by decide +kernel, by decide +kernel⟩
theorem oF : Vis (defScope cH) "self" := by decreasing_trivial
theorem oG : Vis (defScope cH) "stuff" := by decreasing_trivial
abbrev cA : Stmt := inner (top 22) 0
theorem qV : FnScope ["self", "one", "other"] ["self", "one", "other"] (defScope cA) := ⟨rfl, rfl, rfl, by decide +kernel, rfl, by decide +kernel, by decide +kernel⟩
theorem kC : Vis (defScope cA) "self" := by decreasing_trivial
theorem qp : Vis (defScope cA) "one" := by decreasing_trivial
theorem qr : Vis (defScope cA) "other" := by decreasing_trivial
abbrev ce : Stmt := inner (top 23) 0
theorem qt : FnScope ["self", "one", "other"] ["self", "one", "other"] (defScope ce) := ⟨rfl, rfl, rfl, by decide +kernel, rfl, by decide +kernel, by decide +kernel⟩
theorem jH : Vis (defScope ce) "self" := by decreasing_trivial
theorem oH : Vis (defScope ce) "one" := by decreasing_trivial
theorem oI : Vis (defScope ce) "other" := by decreasing_trivial
abbrev bt : Stmt := top 27
theorem nE : FnScope ["word", "name"] ["word", "name"] (defScope bt) := ⟨rfl, rfl, rfl, by decide +kernel, rfl, by decide +kernel, by decide +kernel⟩
theorem fH : Vis (defScope bt) "word" := by decreasing_trivial
theorem fJ : Vis (defScope bt) "name" := by decreasing_trivial
theorem kS : (defScope bt).names.lookup ("Made" : Str) = some .globalImplicit := by rfl
theorem kT : (defScope bt).names.lookup ("Used" : Str) = some .globalImplicit := by rfl
theorem j6 : (defScope bt).names.lookup ("Chief" : Str) = some .globalImplicit := by rfl
abbrev aX : Stmt := top 28
theorem mK : FnScope ["word", "one", "other"] ["word", "one", "other"] (defScope aX) := ⟨rfl, rfl, rfl, by decide +kernel, rfl, by decide +kernel, by decide +kernel⟩
theorem hG : Vis (defScope aX) "word" := by decreasing_trivial
theorem eY : Vis (defScope aX) "one" := by decreasing_trivial
theorem eZ : Vis (defScope aX) "other" := by decreasing_trivial
theorem j7 : (defScope aX).names.lookup ("Both" : Str) = some .globalImplicit := by rfl
theorem jl : (defScope aX).names.lookup ("Either" : Str) = some .globalImplicit := by rfl
theorem kU : (defScope aX).names.lookup ("But" : Str) = some .globalImplicit := by rfl
abbrev bj : Stmt := top 29
theorem oJ : FnScope ["told"] ["told"] (defScope bj) := ⟨rfl, rfl, rfl, by decide +kernel, rfl, by decide +kernel, by decide +kernel⟩
theorem aY : Vis (defScope bj) "told" := by decreasing_trivial
theorem fb : (defScope bj).names.lookup ("len" : Str) = some .globalImplicit := by rfl
theorem jm : (defScope bj).names.lookup ("Anything" : Str) = some .globalImplicit := by rfl
theorem jI : (defScope bj).names.lookup ("is_name" : Str) = some .globalImplicit := by rfl
theorem gR : (defScope bj).names.lookup ("note_of_name" : Str) = some .globalImplicit := by rfl
theorem fK : (defScope bj).names.lookup ("is_kind" : Str) = some .globalImplicit := by rfl
theorem lE : (defScope bj).names.lookup ("Over" : Str) = some .globalImplicit := by rfl
abbrev aB : Stmt := top 30
theorem eQ : FnScope ["left", "told", "one", "other"] ["left", "told"] (defScope aB) := ⟨rfl, rfl, rfl, by decide +kernel, rfl, by decide +kernel, by decide +kernel⟩
theorem fV : Vis (defScope aB) "left" := by decreasing_trivial
theorem bI : Vis (defScope aB) "told" := by decreasing_trivial
theorem nF : Vis (defScope aB) "one" := by decreasing_trivial
theorem nG : Loc (defScope aB) "one" := by first | exact Or.inl rfl | exact Or.inr rfl
theorem nH : Vis (defScope aB) "other" := by decreasing_trivial
theorem nI : Loc (defScope aB) "other" := by first | exact Or.inl rfl | exact Or.inr rfl
theorem eF : (defScope aB).names.lookup ("isinstance" : Str) = some .globalImplicit := by rfl
theorem kW : (defScope aB).names.lookup ("tuple" : Str) = some .globalImplicit := by rfl
theorem hU : (defScope aB).names.lookup ("len" : Str) = some .globalImplicit := by rfl
theorem ma : (defScope aB).names.lookup ("str" : Str) = some .globalImplicit := by rfl
theorem d7 : (defScope aB).names.lookup ("note_within" : Str) = some .globalImplicit := by rfl
theorem gK : (defScope aB).names.lookup ("note_of_notes" : Str) = some .globalImplicit := by rfl
theorem ig : (defScope aB).names.lookup ("note_of_one" : Str) = some .globalImplicit := by rfl
abbrev dJ : Stmt := top 31
theorem sw : FnScope ["told"] ["told"] (defScope dJ) := ⟨rfl, rfl, rfl, by decide +kernel, rfl, by decide +kernel, by decide +kernel⟩
theorem rP : Vis (defScope dJ) "told" := by decreasing_trivial
theorem jJ : (defScope dJ).names.lookup ("note_within" : Str) = some .globalImplicit := by rfl
abbrev cq : Stmt := top 11
theorem oK : FnScope ["kinds", "look", "stuff"] ["kinds", "look", "stuff"] (defScope cq) := ⟨rfl, rfl, rfl, by decide +kernel, rfl, by decide +kernel, by decide +kernel⟩
theorem i4 : Vis (defScope cq) "kinds" := by decreasing_trivial
theorem eW : (defScope cq).names.lookup ("enumerate" : Str) = some .globalImplicit := by rfl
abbrev cr : Stmt := top 12
theorem oM : FnScope ["kinds", "look", "use"] ["kinds", "look", "use"] (defScope cr) := ⟨rfl, rfl, rfl, by decide +kernel, rfl, by decide +kernel, by decide +kernel⟩
theorem i5 : Vis (defScope cr) "kinds" := by decreasing_trivial
theorem eX : (defScope cr).names.lookup ("enumerate" : Str) = some .globalImplicit := by rfl
abbrev bu : Stmt := top 13
theorem i6 : FnScope ["kinds", "look", "stuff", "greatest"] ["kinds", "look", "stuff"] (defScope bu) := ⟨rfl, rfl, rfl, by decide +kernel, rfl, by decide +kernel, by decide +kernel⟩
theorem iF : Vis (defScope bu) "kinds" := by decreasing_trivial
theorem mL : Vis (defScope bu) "look" := by decreasing_trivial
theorem mM : Loc (defScope bu) "greatest" := by first | exact Or.inl rfl | exact Or.inr rfl
theorem lF : (defScope bu).names.lookup ("max" : Str) = some .globalImplicit := by rfl
theorem eG : (defScope bu).names.lookup ("enumerate" : Str) = some .globalImplicit := by rfl
abbrev cB : Stmt := top 14
theorem qW : FnScope ["kinds", "look", "kind"] ["kinds", "look", "kind"] (defScope cB) := ⟨rfl, rfl, rfl, by decide +kernel, rfl, by decide +kernel, by decide +kernel⟩
theorem kE : Vis (defScope cB) "kinds" := by decreasing_trivial
theorem qu : Vis (defScope cB) "look" := by decreasing_trivial
theorem kF : Vis (defScope cB) "kind" := by decreasing_trivial
abbrev cI : Stmt := top 15
theorem sx : FnScope ["kinds", "look", "one", "other"] ["kinds", "look", "one", "other"] (defScope cI) := ⟨rfl, rfl, rfl, by decide +kernel, rfl, by decide +kernel, by decide +kernel⟩
theorem mD : Vis (defScope cI) "kinds" := by decreasing_trivial
theorem mE : Vis (defScope cI) "look" := by decreasing_trivial
theorem rQ : Vis (defScope cI) "one" := by decreasing_trivial
theorem rR : Vis (defScope cI) "other" := by decreasing_trivial
theorem gm : (defScope cI).names.lookup ("number_in" : Str) = some .globalImplicit := by rfl
abbrev bQ : Stmt := top 47
theorem mF : FnScope ["_law_cell_here", "_law_many", "_law_weights"] ["_law_cell_here", "_law_many"] (defScope bQ) := ⟨rfl, rfl, rfl, by decide +kernel, rfl, by decide +kernel, by decide +kernel⟩
theorem qX : Vis (defScope bQ) "_law_cell_here" := by decreasing_trivial
theorem lG : Vis (defScope bQ) "_law_many" := by decreasing_trivial
theorem iG : Vis (defScope bQ) "_law_weights" := by decreasing_trivial
theorem qY : Loc (defScope bQ) "_law_weights" := by first | exact Or.inl rfl | exact Or.inr rfl
theorem mO : (defScope bQ).names.lookup ("range" : Str) = some .globalImplicit := by rfl
theorem oN : (defScope bQ).names.lookup ("max" : Str) = some .globalImplicit := by rfl
theorem mP : (defScope bQ).names.lookup ("tuple" : Str) = some .globalImplicit := by rfl
abbrev bw : Stmt := top 50
theorem kG : FnScope ["_law_kinds_here", "_law_look_here", "_law_kind", "_law_k"] ["_law_kinds_here", "_law_look_here", "_law_kind"] (defScope bw) := ⟨rfl, rfl, rfl, by decide +kernel, rfl, by decide +kernel, by decide +kernel⟩
theorem jK : Vis (defScope bw) "_law_kinds_here" := by decreasing_trivial
theorem oO : Vis (defScope bw) "_law_look_here" := by decreasing_trivial
theorem oP : Vis (defScope bw) "_law_kind" := by decreasing_trivial
theorem jL : Vis (defScope bw) "_law_k" := by decreasing_trivial
theorem oQ : Loc (defScope bw) "_law_k" := by first | exact Or.inl rfl | exact Or.inr rfl
theorem lH : (defScope bw).names.lookup ("range" : Str) = some .globalImplicit := by rfl
theorem mQ : (defScope bw).names.lookup ("len" : Str) = some .globalImplicit := by rfl
abbrev bA : Stmt := top 51
theorem iH : FnScope ["_law_told", "_law_kinds_here", "_law_look_here", "_law_k", "_law_least"] ["_law_told", "_law_kinds_here", "_law_look_here", "_law_k"] (defScope bA) := ⟨rfl, rfl, rfl, by decide +kernel, rfl, by decide +kernel, by decide +kernel⟩
theorem gS : Vis (defScope bA) "_law_told" := by decreasing_trivial
theorem qv : Vis (defScope bA) "_law_kinds_here" := by decreasing_trivial
theorem kH : Vis (defScope bA) "_law_look_here" := by decreasing_trivial
theorem kI : Vis (defScope bA) "_law_k" := by decreasing_trivial
theorem qw : Vis (defScope bA) "_law_least" := by decreasing_trivial
theorem kJ : Loc (defScope bA) "_law_least" := by first | exact Or.inl rfl | exact Or.inr rfl
theorem nJ : (defScope bA).names.lookup ("max" : Str) = some .globalImplicit := by rfl
theorem nK : (defScope bA).names.lookup ("int" : Str) = some .globalImplicit := by rfl
abbrev aL : Stmt := top 52
theorem kX : FnScope ["_law_told", "_law_kinds_here", "_law_look_here"] ["_law_told", "_law_kinds_here", "_law_look_here"] (defScope aL) := ⟨rfl, rfl, rfl, by decide +kernel, rfl, by decide +kernel, by decide +kernel⟩
theorem cL : Vis (defScope aL) "_law_told" := by decreasing_trivial
theorem dO : Vis (defScope aL) "_law_kinds_here" := by decreasing_trivial
theorem fW : Vis (defScope aL) "_law_look_here" := by decreasing_trivial
theorem dv : (defScope aL).names.lookup ("_law_weighs" : Str) = some .globalImplicit := by rfl
theorem fh : (defScope aL).names.lookup ("len" : Str) = some .globalImplicit := by rfl
theorem iI : (defScope aL).names.lookup ("range" : Str) = some .globalImplicit := by rfl
abbrev bB : Stmt := top 53
theorem kK : FnScope ["_law_told", "_law_kinds_here", "_law_look_here"] ["_law_told", "_law_kinds_here", "_law_look_here"] (defScope bB) := ⟨rfl, rfl, rfl, by decide +kernel, rfl, by decide +kernel, by decide +kernel⟩
theorem bF : Vis (defScope bB) "_law_told" := by decreasing_trivial
theorem cv : Vis (defScope bB) "_law_kinds_here" := by decreasing_trivial
theorem cw : Vis (defScope bB) "_law_look_here" := by decreasing_trivial
theorem bx : (defScope bB).names.lookup ("_law_claims" : Str) = some .globalImplicit := by rfl
theorem fX : (defScope bB).names.lookup ("_law_plain_claims" : Str) = some .globalImplicit := by rfl
abbrev cC : Stmt := top 5
theorem rS : FnScope ["thing"] ["thing"] (defScope cC) := ⟨rfl, rfl, rfl, by decide +kernel, rfl, by decide +kernel, by decide +kernel⟩
theorem lI : Vis (defScope cC) "thing" := by decreasing_trivial
theorem fL : (defScope cC).names.lookup ("isinstance" : Str) = some .globalImplicit := by rfl
theorem oR : (defScope cC).names.lookup ("int" : Str) = some .globalImplicit := by rfl
theorem nL : (defScope cC).names.lookup ("bool" : Str) = some .globalImplicit := by rfl
abbrev cb : Stmt := top 44
theorem qZ : FnScope ["_law_found"] ["_law_found"] (defScope cb) := ⟨rfl, rfl, rfl, by decide +kernel, rfl, by decide +kernel, by decide +kernel⟩
theorem kL : Vis (defScope cb) "_law_found" := by decreasing_trivial
theorem fi : (defScope cb).names.lookup ("isinstance" : Str) = some .globalImplicit := by rfl
theorem nM : (defScope cb).names.lookup ("int" : Str) = some .globalImplicit := by rfl
theorem mR : (defScope cb).names.lookup ("bool" : Str) = some .globalImplicit := by rfl
abbrev bC : Stmt := top 34
theorem qx : FnScope ["told", "kinds", "look"] ["told", "kinds", "look"] (defScope bC) := ⟨rfl, rfl, rfl, by decide +kernel, rfl, by decide +kernel, by decide +kernel⟩
theorem dF : Vis (defScope bC) "told" := by decreasing_trivial
theorem gu : Vis (defScope bC) "kinds" := by decreasing_trivial
theorem gv : Vis (defScope bC) "look" := by decreasing_trivial
theorem iJ : (defScope bC).names.lookup ("made_places" : Str) = some .globalImplicit := by rfl
theorem iK : (defScope bC).names.lookup ("used_places" : Str) = some .globalImplicit := by rfl
theorem ii : (defScope bC).names.lookup ("chief_places" : Str) = some .globalImplicit := by rfl
abbrev aP : Stmt := top 35
theorem jM : FnScope ["told", "kinds", "look", "reason", "places"] ["told", "kinds", "look", "reason"] (defScope aP) := ⟨rfl, rfl, rfl, by decide +kernel, rfl, by decide +kernel, by decide +kernel⟩
theorem nN : Vis (defScope aP) "told" := by decreasing_trivial
theorem nO : Vis (defScope aP) "kinds" := by decreasing_trivial
theorem nP : Vis (defScope aP) "look" := by decreasing_trivial
theorem d8 : Vis (defScope aP) "reason" := by decreasing_trivial
theorem ja : Vis (defScope aP) "places" := by decreasing_trivial
theorem nQ : Loc (defScope aP) "places" := by first | exact Or.inl rfl | exact Or.inr rfl
theorem iL : (defScope aP).names.lookup ("places_for" : Str) = some .globalImplicit := by rfl
theorem jn : (defScope aP).names.lookup ("is_whole" : Str) = some .globalImplicit := by rfl
theorem md : (defScope aP).names.lookup ("len" : Str) = some .globalImplicit := by rfl
abbrev bL : Stmt := top 36
theorem re : FnScope ["told", "kinds", "look", "reason"] ["told", "kinds", "look", "reason"] (defScope bL) := ⟨rfl, rfl, rfl, by decide +kernel, rfl, by decide +kernel, by decide +kernel⟩
theorem dU : Vis (defScope bL) "told" := by decreasing_trivial
theorem kM : Vis (defScope bL) "kinds" := by decreasing_trivial
theorem kN : Vis (defScope bL) "look" := by decreasing_trivial
theorem dW : Vis (defScope bL) "reason" := by decreasing_trivial
theorem kY : (defScope bL).names.lookup ("is_over" : Str) = some .globalImplicit := by rfl
theorem iU : (defScope bL).names.lookup ("place_holds" : Str) = some .globalImplicit := by rfl
abbrev dG : Stmt := top 37
theorem sP : FnScope ["truth", "told", "kinds", "look", "reason"] ["truth", "told", "kinds", "look", "reason"] (defScope dG) := ⟨rfl, rfl, rfl, by decide +kernel, rfl, by decide +kernel, by decide +kernel⟩
theorem sH : Vis (defScope dG) "truth" := by decreasing_trivial
theorem sI : Vis (defScope dG) "told" := by decreasing_trivial
theorem sJ : Vis (defScope dG) "kinds" := by decreasing_trivial
theorem sK : Vis (defScope dG) "look" := by decreasing_trivial
theorem rf : Vis (defScope dG) "reason" := by decreasing_trivial
theorem nR : (defScope dG).names.lookup ("holds_up" : Str) = some .globalImplicit := by rfl
abbrev aO : Stmt := top 38
theorem gI : FnScope ["told", "kinds", "look", "reason", "wanted", "first", "side"] ["told", "kinds", "look", "reason"] (defScope aO) := ⟨rfl, rfl, rfl, by decide +kernel, rfl, by decide +kernel, by decide +kernel⟩
theorem fY : Vis (defScope aO) "told" := by decreasing_trivial
theorem iM : Vis (defScope aO) "kinds" := by decreasing_trivial
theorem iN : Vis (defScope aO) "look" := by decreasing_trivial
theorem eI : Vis (defScope aO) "reason" := by decreasing_trivial
theorem fZ : Vis (defScope aO) "wanted" := by decreasing_trivial
theorem rg : Loc (defScope aO) "wanted" := by first | exact Or.inl rfl | exact Or.inr rfl
theorem rh : Vis (defScope aO) "first" := by decreasing_trivial
theorem rj : Loc (defScope aO) "first" := by first | exact Or.inl rfl | exact Or.inr rfl
theorem gb : Vis (defScope aO) "side" := by decreasing_trivial
theorem rm : Loc (defScope aO) "side" := by first | exact Or.inl rfl | exact Or.inr rfl
theorem lJ : (defScope aO).names.lookup ("OF_BOTH" : Str) = some .globalImplicit := by rfl
theorem gc : (defScope aO).names.lookup ("says" : Str) = some .globalImplicit := by rfl
theorem kZ : (defScope aO).names.lookup ("is_whole" : Str) = some .globalImplicit := by rfl
abbrev bc : Stmt := top 39
theorem mG : FnScope ["told", "kinds", "look", "reason"] ["told", "kinds", "look", "reason"] (defScope bc) := ⟨rfl, rfl, rfl, by decide +kernel, rfl, by decide +kernel, by decide +kernel⟩
theorem iO : Vis (defScope bc) "told" := by decreasing_trivial
theorem lK : Vis (defScope bc) "kinds" := by decreasing_trivial
theorem lL : Vis (defScope bc) "look" := by decreasing_trivial
theorem cX : Vis (defScope bc) "reason" := by decreasing_trivial
theorem fM : (defScope bc).names.lookup ("isinstance" : Str) = some .globalImplicit := by rfl
theorem mS : (defScope bc).names.lookup ("tuple" : Str) = some .globalImplicit := by rfl
theorem gw : (defScope bc).names.lookup ("len" : Str) = some .globalImplicit := by rfl
theorem nS : (defScope bc).names.lookup ("bool" : Str) = some .globalImplicit := by rfl
theorem lM : (defScope bc).names.lookup ("OF_BOTH" : Str) = some .globalImplicit := by rfl
theorem la : (defScope bc).names.lookup ("two_hold" : Str) = some .globalImplicit := by rfl
theorem j8 : (defScope bc).names.lookup ("one_holds" : Str) = some .globalImplicit := by rfl
abbrev cf : Stmt := top 40
theorem rT : FnScope ["told", "kinds", "look", "reason"] ["told", "kinds", "look", "reason"] (defScope cf) := ⟨rfl, rfl, rfl, by decide +kernel, rfl, by decide +kernel, by decide +kernel⟩
theorem rn : Vis (defScope cf) "told" := by decreasing_trivial
theorem rp : Vis (defScope cf) "kinds" := by decreasing_trivial
theorem rq : Vis (defScope cf) "look" := by decreasing_trivial
theorem lN : Vis (defScope cf) "reason" := by decreasing_trivial
theorem lf : (defScope cf).names.lookup ("holds_up" : Str) = some .globalImplicit := by rfl
abbrev dP : Stmt := top 54
theorem rV : FnScope ["_law_word"] ["_law_word"] (defScope dP) := ⟨rfl, rfl, rfl, by decide +kernel, rfl, by decide +kernel, by decide +kernel⟩
theorem iP : Vis (defScope dP) "_law_word" := by decreasing_trivial
abbrev au : Stmt := top 55
theorem eJ : FnScope ["_law_told", "_law_kinds_here", "_law_look_here", "_law_reason_here", "_law_due", "_law_at"] ["_law_told", "_law_kinds_here", "_law_look_here", "_law_reason_here"] (defScope au) := ⟨rfl, rfl, rfl, by decide +kernel, rfl, by decide +kernel, by decide +kernel⟩
theorem db : Vis (defScope au) "_law_told" := by decreasing_trivial
theorem d0 : Vis (defScope au) "_law_kinds_here" := by decreasing_trivial
theorem gn : Vis (defScope au) "_law_look_here" := by decreasing_trivial
theorem d6 : Vis (defScope au) "_law_reason_here" := by decreasing_trivial
theorem dc : Vis (defScope au) "_law_due" := by decreasing_trivial
theorem lg : Loc (defScope au) "_law_due" := by first | exact Or.inl rfl | exact Or.inr rfl
theorem cu : Vis (defScope au) "_law_at" := by decreasing_trivial
theorem lh : Loc (defScope au) "_law_at" := by first | exact Or.inl rfl | exact Or.inr rfl
theorem eR : (defScope au).names.lookup ("_law_plain_claims" : Str) = some .globalImplicit := by rfl
theorem fN : (defScope au).names.lookup ("len" : Str) = some .globalImplicit := by rfl
theorem gx : (defScope au).names.lookup ("_law_whole" : Str) = some .globalImplicit := by rfl
theorem gy : (defScope au).names.lookup ("_law_shows" : Str) = some .globalImplicit := by rfl
abbrev aq : Stmt := top 56
theorem cY : FnScope ["_law_told", "_law_kinds_here", "_law_look_here", "_law_reason_here", "_law_pair_here", "_law_one", "_law_other", "_law_side", "_law_shown"] ["_law_told", "_law_kinds_here", "_law_look_here", "_law_reason_here"] (defScope aq) := ⟨rfl, rfl, rfl, by decide +kernel, rfl, by decide +kernel, by decide +kernel⟩
theorem de : Vis (defScope aq) "_law_told" := by decreasing_trivial
theorem fu : Vis (defScope aq) "_law_kinds_here" := by decreasing_trivial
theorem fw : Vis (defScope aq) "_law_look_here" := by decreasing_trivial
theorem br : Vis (defScope aq) "_law_reason_here" := by decreasing_trivial
theorem fA : Vis (defScope aq) "_law_pair_here" := by decreasing_trivial
theorem qy : Loc (defScope aq) "_law_pair_here" := by first | exact Or.inl rfl | exact Or.inr rfl
theorem kO : Vis (defScope aq) "_law_one" := by decreasing_trivial
theorem qz : Loc (defScope aq) "_law_one" := by first | exact Or.inl rfl | exact Or.inr rfl
theorem kP : Vis (defScope aq) "_law_other" := by decreasing_trivial
theorem qA : Loc (defScope aq) "_law_other" := by first | exact Or.inl rfl | exact Or.inr rfl
theorem dX : Vis (defScope aq) "_law_side" := by decreasing_trivial
theorem qB : Loc (defScope aq) "_law_side" := by first | exact Or.inl rfl | exact Or.inr rfl
theorem kQ : Vis (defScope aq) "_law_shown" := by decreasing_trivial
theorem qC : Loc (defScope aq) "_law_shown" := by first | exact Or.inl rfl | exact Or.inr rfl
theorem fj : (defScope aq).names.lookup ("isinstance" : Str) = some .globalImplicit := by rfl
theorem me : (defScope aq).names.lookup ("tuple" : Str) = some .globalImplicit := by rfl
theorem jb : (defScope aq).names.lookup ("len" : Str) = some .globalImplicit := by rfl
theorem mT : (defScope aq).names.lookup ("bool" : Str) = some .globalImplicit := by rfl
theorem gz : (defScope aq).names.lookup ("_law_reads_plain" : Str) = some .globalImplicit := by rfl
theorem jN : (defScope aq).names.lookup ("_law_pair" : Str) = some .globalImplicit := by rfl
theorem dC : (defScope aq).names.lookup ("_law_reads" : Str) = some .globalImplicit := by rfl
theorem jo : (defScope aq).names.lookup ("_law_whole" : Str) = some .globalImplicit := by rfl
abbrev ay : Stmt := top 57
theorem df : FnScope ["_law_told", "_law_kinds_here", "_law_look_here", "_law_places", "_law_one", "_law_other", "_law_pair_here"] ["_law_told", "_law_kinds_here", "_law_look_here"] (defScope ay) := ⟨rfl, rfl, rfl, by decide +kernel, rfl, by decide +kernel, by decide +kernel⟩
theorem cT : Vis (defScope ay) "_law_told" := by decreasing_trivial
theorem eS : Vis (defScope ay) "_law_kinds_here" := by decreasing_trivial
theorem gA : Vis (defScope ay) "_law_look_here" := by decreasing_trivial
theorem jO : Vis (defScope ay) "_law_places" := by decreasing_trivial
theorem oS : Loc (defScope ay) "_law_places" := by first | exact Or.inl rfl | exact Or.inr rfl
theorem gB : Vis (defScope ay) "_law_one" := by decreasing_trivial
theorem oT : Loc (defScope ay) "_law_one" := by first | exact Or.inl rfl | exact Or.inr rfl
theorem gC : Vis (defScope ay) "_law_other" := by decreasing_trivial
theorem oU : Loc (defScope ay) "_law_other" := by first | exact Or.inl rfl | exact Or.inr rfl
theorem dH : Vis (defScope ay) "_law_pair_here" := by decreasing_trivial
theorem oV : Loc (defScope ay) "_law_pair_here" := by first | exact Or.inl rfl | exact Or.inr rfl
theorem gd : (defScope ay).names.lookup ("_law_plain_claims" : Str) = some .globalImplicit := by rfl
theorem lO : (defScope ay).names.lookup ("range" : Str) = some .globalImplicit := by rfl
theorem iQ : (defScope ay).names.lookup ("len" : Str) = some .globalImplicit := by rfl
theorem eK : (defScope ay).names.lookup ("_law_reason" : Str) = some .globalImplicit := by rfl
theorem jp : (defScope ay).names.lookup ("_law_pair" : Str) = some .globalImplicit := by rfl
abbrev bZ : Stmt := top 16
theorem nT : FnScope ["places"] ["places"] (defScope bZ) := ⟨rfl, rfl, rfl, by decide +kernel, rfl, by decide +kernel, by decide +kernel⟩
theorem iR : Vis (defScope bZ) "places" := by decreasing_trivial
theorem lP : (defScope bZ).names.lookup ("len" : Str) = some .globalImplicit := by rfl
abbrev ci : Stmt := inner (top 18) 1
theorem lQ : FnScope ["self", "kinds", "look"] ["self", "kinds", "look"] (defScope ci) := ⟨rfl, rfl, rfl, by decide +kernel, rfl, by decide +kernel, by decide +kernel⟩
abbrev bD : Stmt := inner (top 19) 2
theorem oW : FnScope ["self", "kinds", "look"] ["self", "kinds", "look"] (defScope bD) := ⟨rfl, rfl, rfl, by decide +kernel, rfl, by decide +kernel, by decide +kernel⟩
theorem nU : Vis (defScope bD) "self" := by decreasing_trivial
theorem nV : Vis (defScope bD) "kinds" := by decreasing_trivial
theorem nW : Vis (defScope bD) "look" := by decreasing_trivial
theorem gT : (defScope bD).names.lookup ("place_reason" : Str) = some .globalImplicit := by rfl
theorem ij : (defScope bD).names.lookup ("made_places" : Str) = some .globalImplicit := by rfl
abbrev bE : Stmt := inner (top 20) 2
theorem oX : FnScope ["self", "kinds", "look"] ["self", "kinds", "look"] (defScope bE) := ⟨rfl, rfl, rfl, by decide +kernel, rfl, by decide +kernel, by decide +kernel⟩
theorem nX : Vis (defScope bE) "self" := by decreasing_trivial
theorem nY : Vis (defScope bE) "kinds" := by decreasing_trivial
theorem nZ : Vis (defScope bE) "look" := by decreasing_trivial
theorem gU : (defScope bE).names.lookup ("place_reason" : Str) = some .globalImplicit := by rfl
theorem ik : (defScope bE).names.lookup ("used_places" : Str) = some .globalImplicit := by rfl
abbrev bz : Stmt := inner (top 21) 2
theorem n5 : FnScope ["self", "kinds", "look"] ["self", "kinds", "look"] (defScope bz) := ⟨rfl, rfl, rfl, by decide +kernel, rfl, by decide +kernel, by decide +kernel⟩
theorem mU : Vis (defScope bz) "self" := by decreasing_trivial
theorem mV : Vis (defScope bz) "kinds" := by decreasing_trivial
theorem mW : Vis (defScope bz) "look" := by decreasing_trivial
theorem gL : (defScope bz).names.lookup ("place_reason" : Str) = some .globalImplicit := by rfl
theorem gM : (defScope bz).names.lookup ("chief_places" : Str) = some .globalImplicit := by rfl
abbrev bM : Stmt := inner (top 22) 2
theorem oY : FnScope ["self", "kinds", "look"] ["self", "kinds", "look"] (defScope bM) := ⟨rfl, rfl, rfl, by decide +kernel, rfl, by decide +kernel, by decide +kernel⟩
theorem jc : Vis (defScope bM) "self" := by decreasing_trivial
theorem n8 : Vis (defScope bM) "kinds" := by decreasing_trivial
theorem n9 : Vis (defScope bM) "look" := by decreasing_trivial
theorem jP : (defScope bM).names.lookup ("is_over" : Str) = some .globalImplicit := by rfl
abbrev aZ : Stmt := inner (top 24) 1
theorem eT : FnScope ["self", "kinds", "look", "first", "second"] ["self", "kinds", "look"] (defScope aZ) := ⟨rfl, rfl, rfl, by decide +kernel, rfl, by decide +kernel, by decide +kernel⟩
theorem jd : Vis (defScope aZ) "self" := by decreasing_trivial
theorem je : Vis (defScope aZ) "kinds" := by decreasing_trivial
theorem jf : Vis (defScope aZ) "look" := by decreasing_trivial
theorem gf : Vis (defScope aZ) "first" := by decreasing_trivial
theorem og : Loc (defScope aZ) "first" := by first | exact Or.inl rfl | exact Or.inr rfl
theorem gg : Vis (defScope aZ) "second" := by decreasing_trivial
theorem oh : Loc (defScope aZ) "second" := by first | exact Or.inl rfl | exact Or.inr rfl
abbrev aM : Stmt := inner (top 25) 1
theorem dQ : FnScope ["self", "kinds", "look", "first", "second"] ["self", "kinds", "look"] (defScope aM) := ⟨rfl, rfl, rfl, by decide +kernel, rfl, by decide +kernel, by decide +kernel⟩
theorem hV : Vis (defScope aM) "self" := by decreasing_trivial
theorem hX : Vis (defScope aM) "kinds" := by decreasing_trivial
theorem h8 : Vis (defScope aM) "look" := by decreasing_trivial
theorem fc : Vis (defScope aM) "first" := by decreasing_trivial
theorem mf : Loc (defScope aM) "first" := by first | exact Or.inl rfl | exact Or.inr rfl
theorem fg : Vis (defScope aM) "second" := by decreasing_trivial
theorem mh : Loc (defScope aM) "second" := by first | exact Or.inl rfl | exact Or.inr rfl
abbrev bn : Stmt := inner (top 26) 1
theorem fC : FnScope ["self", "kinds", "look", "first", "second"] ["self", "kinds", "look"] (defScope bn) := ⟨rfl, rfl, rfl, by decide +kernel, rfl, by decide +kernel, by decide +kernel⟩
theorem jQ : Vis (defScope bn) "self" := by decreasing_trivial
theorem jR : Vis (defScope bn) "kinds" := by decreasing_trivial
theorem jS : Vis (defScope bn) "look" := by decreasing_trivial
theorem gD : Vis (defScope bn) "first" := by decreasing_trivial
theorem oZ : Loc (defScope bn) "first" := by first | exact Or.inl rfl | exact Or.inr rfl
theorem gE : Vis (defScope bn) "second" := by decreasing_trivial
theorem pc : Loc (defScope bn) "second" := by first | exact Or.inl rfl | exact Or.inr rfl
abbrev aQ : Stmt := top 58
theorem ml : FnScope ["_law_told"] ["_law_told"] (defScope aQ) := ⟨rfl, rfl, rfl, by decide +kernel, rfl, by decide +kernel, by decide +kernel⟩
theorem bo : Vis (defScope aQ) "_law_told" := by decreasing_trivial
theorem il : (defScope aQ).names.lookup ("Anything" : Str) = some .globalImplicit := by rfl
theorem jT : (defScope aQ).names.lookup ("Over" : Str) = some .globalImplicit := by rfl
theorem jU : (defScope aQ).names.lookup ("Made" : Str) = some .globalImplicit := by rfl
theorem jV : (defScope aQ).names.lookup ("Used" : Str) = some .globalImplicit := by rfl
theorem jq : (defScope aQ).names.lookup ("Chief" : Str) = some .globalImplicit := by rfl
abbrev bR : Stmt := top 59
theorem mH : FnScope ["_law_told"] ["_law_told"] (defScope bR) := ⟨rfl, rfl, rfl, by decide +kernel, rfl, by decide +kernel, by decide +kernel⟩
theorem bW : Vis (defScope bR) "_law_told" := by decreasing_trivial
theorem oi : (defScope bR).names.lookup ("Both" : Str) = some .globalImplicit := by rfl
theorem bS : (defScope bR).names.lookup ("_law_made" : Str) = some .globalImplicit := by rfl
theorem mn : (defScope bR).names.lookup ("Either" : Str) = some .globalImplicit := by rfl
theorem pd : (defScope bR).names.lookup ("But" : Str) = some .globalImplicit := by rfl
theorem gW : (defScope bR).names.lookup ("_law_made_plain" : Str) = some .globalImplicit := by rfl
abbrev aR : Stmt := top 60
theorem jr : FnScope ["_law_told", "_law_kinds_here", "_law_look_here", "_law_reason_here", "_law_due", "_law_handed", "_law_found"] ["_law_told", "_law_kinds_here", "_law_look_here", "_law_reason_here", "_law_due"] (defScope aR) := ⟨rfl, rfl, rfl, by decide +kernel, rfl, by decide +kernel, by decide +kernel⟩
theorem rA : Vis (defScope aR) "_law_told" := by decreasing_trivial
theorem lR : Vis (defScope aR) "_law_kinds_here" := by decreasing_trivial
theorem rB : Vis (defScope aR) "_law_look_here" := by decreasing_trivial
theorem rC : Vis (defScope aR) "_law_reason_here" := by decreasing_trivial
theorem rD : Vis (defScope aR) "_law_due" := by decreasing_trivial
theorem lS : Vis (defScope aR) "_law_handed" := by decreasing_trivial
theorem rE : Loc (defScope aR) "_law_handed" := by first | exact Or.inl rfl | exact Or.inr rfl
theorem lT : Vis (defScope aR) "_law_found" := by decreasing_trivial
theorem rF : Loc (defScope aR) "_law_found" := by first | exact Or.inl rfl | exact Or.inr rfl
theorem oj : (defScope aR).names.lookup ("list" : Str) = some .globalImplicit := by rfl
theorem lm : (defScope aR).names.lookup ("truth_of" : Str) = some .globalImplicit := by rfl
theorem jW : (defScope aR).names.lookup ("isinstance" : Str) = some .globalImplicit := by rfl
theorem om : (defScope aR).names.lookup ("bool" : Str) = some .globalImplicit := by rfl
abbrev aA : Stmt := top 61
theorem cZ : FnScope ["_law_script", "_law_words_here", "_law_kinds_here", "_law_k", "_law_cell_here", "_law_told", "_law_look_here", "_law_due", "_law_note_here", "_law_handed", "_law_reason_here", "_law_other", "_law_turned", "_law_back"] ["_law_script"] (defScope aA) := ⟨rfl, rfl, rfl, by decide +kernel, rfl, by decide +kernel, by decide +kernel⟩
theorem lY : Vis (defScope aA) "_law_script" := by decreasing_trivial
theorem sh : Vis (defScope aA) "_law_words_here" := by decreasing_trivial
theorem sQ : Loc (defScope aA) "_law_words_here" := by first | exact Or.inl rfl | exact Or.inr rfl
theorem dg : Vis (defScope aA) "_law_kinds_here" := by decreasing_trivial
theorem sR : Loc (defScope aA) "_law_kinds_here" := by first | exact Or.inl rfl | exact Or.inr rfl
theorem sS : Vis (defScope aA) "_law_k" := by decreasing_trivial
theorem sT : Loc (defScope aA) "_law_k" := by first | exact Or.inl rfl | exact Or.inr rfl
theorem jX : Vis (defScope aA) "_law_cell_here" := by decreasing_trivial
theorem sU : Loc (defScope aA) "_law_cell_here" := by first | exact Or.inl rfl | exact Or.inr rfl
theorem eU : Vis (defScope aA) "_law_told" := by decreasing_trivial
theorem sV : Loc (defScope aA) "_law_told" := by first | exact Or.inl rfl | exact Or.inr rfl
theorem iq : Vis (defScope aA) "_law_look_here" := by decreasing_trivial
theorem sW : Loc (defScope aA) "_law_look_here" := by first | exact Or.inl rfl | exact Or.inr rfl
theorem pe : Vis (defScope aA) "_law_due" := by decreasing_trivial
theorem sX : Loc (defScope aA) "_law_due" := by first | exact Or.inl rfl | exact Or.inr rfl
theorem si : Vis (defScope aA) "_law_note_here" := by decreasing_trivial
theorem sj : Loc (defScope aA) "_law_note_here" := by first | exact Or.inl rfl | exact Or.inr rfl
theorem sr : Vis (defScope aA) "_law_handed" := by decreasing_trivial
theorem sY : Loc (defScope aA) "_law_handed" := by first | exact Or.inl rfl | exact Or.inr rfl
theorem mX : Vis (defScope aA) "_law_reason_here" := by decreasing_trivial
theorem sL : Loc (defScope aA) "_law_reason_here" := by first | exact Or.inl rfl | exact Or.inr rfl
theorem rG : Vis (defScope aA) "_law_other" := by decreasing_trivial
theorem sM : Loc (defScope aA) "_law_other" := by first | exact Or.inl rfl | exact Or.inr rfl
theorem rH : Vis (defScope aA) "_law_turned" := by decreasing_trivial
theorem sN : Loc (defScope aA) "_law_turned" := by first | exact Or.inl rfl | exact Or.inr rfl
theorem rJ : Vis (defScope aA) "_law_back" := by decreasing_trivial
theorem sO : Loc (defScope aA) "_law_back" := by first | exact Or.inl rfl | exact Or.inr rfl
theorem mY : (defScope aA).names.lookup ("_law_words" : Str) = some .globalImplicit := by rfl
theorem gh : (defScope aA).names.lookup ("_law_cell" : Str) = some .globalImplicit := by rfl
theorem mZ : (defScope aA).names.lookup ("_law_kinds" : Str) = some .globalImplicit := by rfl
theorem rW : (defScope aA).names.lookup ("range" : Str) = some .globalImplicit := by rfl
theorem sD : (defScope aA).names.lookup ("max" : Str) = some .globalImplicit := by rfl
theorem sE : (defScope aA).names.lookup ("min" : Str) = some .globalImplicit := by rfl
theorem lU : (defScope aA).names.lookup ("len" : Str) = some .globalImplicit := by rfl
theorem oo : (defScope aA).names.lookup ("_law_note" : Str) = some .globalImplicit := by rfl
theorem pf : (defScope aA).names.lookup ("_law_mix" : Str) = some .globalImplicit := by rfl
theorem jg : (defScope aA).names.lookup ("_law_look" : Str) = some .globalImplicit := by rfl
theorem ie : (defScope aA).names.lookup ("_law_claims" : Str) = some .globalImplicit := by rfl
theorem qD : (defScope aA).names.lookup ("note_of" : Str) = some .globalImplicit := by rfl
theorem oq : (defScope aA).names.lookup ("_law_made" : Str) = some .globalImplicit := by rfl
theorem im : (defScope aA).names.lookup ("list" : Str) = some .globalImplicit := by rfl
theorem iS : (defScope aA).names.lookup ("_law_reads" : Str) = some .globalImplicit := by rfl
theorem m6 : (defScope aA).names.lookup ("isinstance" : Str) = some .globalImplicit := by rfl
theorem mI : (defScope aA).names.lookup ("tuple" : Str) = some .globalImplicit := by rfl
theorem jh : (defScope aA).names.lookup ("_law_says" : Str) = some .globalImplicit := by rfl
theorem mq : (defScope aA).names.lookup ("_law_reason" : Str) = some .globalImplicit := by rfl
theorem jY : (defScope aA).names.lookup ("reversed" : Str) = some .globalImplicit := by rfl

def zp (K : PySem.W.Frag) : Sp := fun vs H Q _ => ∃ (a : Addr) (ns : List Int) (k : Int), vs = [.ref a, .int k] ∧ SqL K H a (ns.map V.int) ∧ ns.length ≤ 63 ∧ 0 ≤ k ∧ k ≤ 1000 ∧ Q (.int (Mth.cell ns k)) H
theorem yk {K : PySem.W.Frag} {H : Hp} {a : Addr} {ns : List Int} {k : Int} {Q : VK} {E : XK} (h : SqL K H a (ns.map V.int)) (hl : ns.length ≤ 63) (h0 : 0 ≤ k) (h1 : k ≤ 1000) (q : Q (.int (Mth.cell ns k)) H) : zp K [.ref a, .int k] H Q E := ⟨a, ns, k, rfl, h, hl, h0, h1, q⟩
section
variable {P : Program} {w : World} {K : PySem.W.Frag} {mg : Str → Option Value} {base : Heap} {f : Addr} {fd : FuncData}
theorem BH (F : Fun K "_law_cell" "_law_cell" cc f fd) (M : Mg mg) : FnOk P w K mg base CX0 1 f fd ["_law_script", "_law_k"] (zp K) := by
  refine F.ok jk (fun vs H Q E h => ?_) (fun cdv A outer s H vs Q E hr h => ?_)
  · obtain ⟨a, ns, k, rfl, _⟩ := h
    rfl
  obtain ⟨a, ns, k, rfl, hS, hl, h0, h1, q⟩ := h
  refine ⟨_, (@fz _ _ _ _ _ (@tL _ _ _ _ _ _ _ _ (@qq _ _ _ _ _ _ _ _ (@xY _) (@eu _ 1 _ _ rfl dE bG bH) (@tH _ _ _ _ _ _ _ _ _ tO gs M.m_len uo (@cg _ _ _ _ _ (@eu _ 0 _ _ rfl eC bO bP) (@ff _) (ef rfl)) bg bf (ef rfl) mj) (r8 _)) (@ki _ _ _ (@nt _ _ _ _ (@tQ _ _ _ _ _ _ _ _ (@ux _) (@m9 _ _ _ _ _ _ _ (@ue _) (@eu _ 0 _ _ rfl eC bO bP) (@eu _ 1 _ _ rfl dE bG bH) (fun _ _ => rfl)) (@tQ _ _ _ _ _ _ _ _ (@Em _) (@eH _ _ _ _) (@eH _ _ _ _))))) (@tF _)) (@fz _ _ _ _ _ (@tK _ _ 2 _ _ _ _ jk.nd rfl lD (@tQ _ _ _ _ _ _ _ _ (@uQ _) (@tQ _ _ _ _ _ _ _ _ (@uP _) (@eH _ _ _ _) (@eu _ 1 _ _ rfl dE bG bH)) (@eH _ _ _ _)) (tM rfl) (.inl rfl)) (@fz _ _ _ _ _ (@tL _ _ _ _ _ _ _ _ (@qq _ _ _ _ _ _ _ _ (@yz _) (@tH _ _ _ _ _ _ _ _ _ tO gs M.m_len uo (@cg _ _ _ _ _ (@eu _ 0 _ _ rfl eC bO bP) (@ff _) (ef rfl)) bg bf (ef rfl) mj) (@eH _ _ _ _) (r8 _)) (@ki _ _ _ (@tK _ _ 2 _ _ _ _ jk.nd rfl lD (@tQ _ _ _ _ _ _ _ _ (@uQ _) (@tQ _ _ _ _ _ _ _ _ (@uP _) (@tQ _ _ _ _ _ _ _ _ (@ux _) (@m9 _ _ _ _ _ _ _ (@ue _) (@eu _ 0 _ _ rfl eC bO bP) (@tQ _ _ _ _ _ _ _ _ (@ux _) (@tQ _ _ _ _ _ _ _ _ (@uP _) (@eu _ 1 _ _ rfl dE bG bH) (@eH _ _ _ _)) (@tH _ _ _ _ _ _ _ _ _ tO gs M.m_len uo (@cg _ _ _ _ _ (@eu _ 0 _ _ rfl eC bO bP) (@ff _) (ef rfl)) bg bf (ef rfl) mj)) (fun _ _ => rfl)) (@tQ _ _ _ _ _ _ _ _ (@Em _) (@eH _ _ _ _) (@eH _ _ _ _))) (@eH _ _ _ _)) (@tQ _ _ _ _ _ _ _ _ (@uP _) (@tQ _ _ _ _ _ _ _ _ (@uP _) (@eu _ 1 _ _ rfl dE bG bH) (@eu _ 1 _ _ rfl dE bG bH)) (@eH _ _ _ _))) (tM rfl) (.inl rfl))) (@tF _)) (@ki _ _ _ (@nt _ _ _ _ (@tQ _ _ _ _ _ _ _ _ (@ux _) (@tQ _ _ _ _ _ _ _ _ (@uP _) (@tQ _ _ _ _ _ _ _ _ (@ux _) (@eu _ 2 _ _ rfl qO bh bi) (@eH _ _ _ _)) (@eH _ _ _ _)) (@eH _ _ _ _))))))), ?_⟩
  unfold Mth.cell at q
  trivial
  refine ⟨_, .inl hS, ?_⟩
  rw [List.length_map]
  by_cases hk : k < (ns.length : Int)
  · rw [if_pos hk]
    rw [if_pos hk] at q
    refine ⟨_, hS, _, Ci h0 hk, Gp, _, rfl, B0 _, q⟩
  · rw [if_neg hk]
    rw [if_neg hk] at q
    have kk : 0 ≤ k * k ∧ k * k ≤ 1000 * 1000 := ⟨Int.mul_nonneg h0 h0, Int.mul_le_mul h1 h1 h0 (by decide)⟩
    refine ⟨vJ (by decide) (by decide) (by omega) (by omega), _, .inl hS, ?_⟩
    rw [List.length_map]
    by_cases hp : 0 < (ns.length : Int)
    · rw [if_pos hp]
      rw [if_pos hp] at q
      have hm := Int.emod_nonneg (k * 7) (show (ns.length : Int) ≠ 0 by omega)
      have hm2 := Int.emod_lt_of_pos (k * 7) hp
      have e1 := Int.emod_nonneg (ns.getD (k * 7 % (ns.length : Int)).toNat 0) (show (10 ^ 60 : Int) ≠ 0 by decide)
      have e2 := Int.emod_lt_of_pos (ns.getD (k * 7 % (ns.length : Int)).toNat 0) (show (0 : Int) < 10 ^ 60 by decide)
      have f1 := Int.emod_nonneg (ns.getD (k * 7 % (ns.length : Int)).toNat 0 % 10 ^ 60 * 48271 + k * k * 69621) (show (2147483647 : Int) ≠ 0 by decide)
      have f2 := Int.emod_lt_of_pos (ns.getD (k * 7 % (ns.length : Int)).toNat 0 % 10 ^ 60 * 48271 + k * k * 69621) (show (0 : Int) < 2147483647 by decide)
      refine ⟨vJ (by omega) (by omega) (by decide) (by decide), _, .inl hS, by rw [List.length_map]; exact hp, _, hS, _, by rw [List.length_map]; exact Ci hm hm2, Gp, _, rfl, B0 _, vJ (by omega) (by omega) (by decide) (by decide), vJ (by omega) (by omega) (by omega) (by omega), vJ (by omega) (by omega) (by decide) (by decide), by decide, vJ (by omega) (by omega) (by decide) (by decide), by decide, q⟩
    · rw [if_neg hp]
      rw [if_neg hp] at q
      have e1 := Int.emod_nonneg (7919 * k + 5) (show (2147483647 : Int) ≠ 0 by decide)
      have e2 := Int.emod_lt_of_pos (7919 * k + 5) (show (0 : Int) < 2147483647 by decide)
      exact ⟨by decide, vJ (by omega) (by omega) (by decide) (by decide), by decide, q⟩
end

theorem FF {K : PySem.W.Frag} {H H' : Hp} {v : V} {k : Kn} (e : Same H H') (h : Kd K H v k) : Kd K H' v k := by
  cases v with
  | ref a =>
    rcases h with ⟨z, xs, h⟩ | ⟨z, xs, h⟩ | ⟨z, h⟩
    · exact .inl ⟨z, xs, e.seq h⟩
    · exact .inr (.inl ⟨z, xs, Same.tup e h⟩)
    · exact .inr (.inr ⟨z, e _ _ h⟩)
  | _ => exact h

def nameB (cs : List Nat) : Bool := decide (1 ≤ cs.length ∧ cs.length ≤ 8) && cs.all vU
abbrev asc (cs : List Nat) : Prop := cs.all (fun c => decide (c < 128)) = true
inductive NameV (K : PySem.W.Frag) (H : Hp) : V → Bool → Prop
  | no {v : V} {k : Kn} : Kd K H v k → k ≠ .str → NameV K H v false
  | txt {cs : List Nat} : asc cs → cs.length ≤ 1000 → NameV K H (.str (txt cs)) (nameB cs)
def xK (K : PySem.W.Frag) : Sp := fun vs H Q _ => ∃ v b, vs = [v] ∧ NameV K H v b ∧ ∀ H', Same H H' → Q (.bl b) H'
theorem De {k : Kn} (h : k ≠ .str) : uf k .str = false := by
  cases k <;> first | rfl | exact absurd rfl h
theorem Gb (cs : List Nat) : (txt cs).length = cs.length := List.size_toArray ..
section
variable {P : Program} {w : World} {K : PySem.W.Frag} {mg : Str → Option Value} {base : Heap} {f : Addr} {fd : FuncData}
theorem Ct (F : Fun K "is_name" "is_name" cF f fd) (M : Mg mg) : FnOk P w K mg base CX0 1 f fd ["thing"] (xK K) := by
  refine F.ok su (fun vs H Q E h => ?_) (fun cdv A outer s H vs Q E hr h => ?_)
  · obtain ⟨v, b, rfl, _⟩ := h
    rfl
  obtain ⟨v, b, rfl, N, q⟩ := h
  refine ⟨_, (@fz _ _ _ _ _ (@tL _ _ _ _ _ _ _ _ (@PW.pt _ _ _ (@uF _ _ _ _ _ _ _ (@uz _ _ _ _ (@ua _ _ _ (@tH _ _ _ _ _ _ _ _ _ uH j0 M.m_isinstance uc (@cg _ _ _ _ _ (@eu _ 0 _ _ rfl jj dL dM) (@cg _ _ _ _ _ (@uK _ _ (.ty "str") _ _ pG M.m_str Fy rfl sB sA) (@ff _) (ef rfl)) (ef rfl)) aW aV (ef rfl) (ia rfl mj)) (um rfl))) (@uU _ _ _ _ (@uz _ _ _ _ (@zf _ _ _ _ _ _ _ _ _ _ _ _ zv zv (@eH _ _ _ _) (@tH _ _ _ _ _ _ _ _ _ AK pH M.m_len uo (@cg _ _ _ _ _ (@eu _ 0 _ _ rfl jj dL dM) (@ff _) (ef rfl)) bg bf (ef rfl) mj) (@eH _ _ _ _) (by with_unfolding_all rfl)))))) (@ki _ _ _ (@nt _ _ _ _ (@uA _ _ _ _))) (@tF _)) (@ki _ _ _ (@nt _ _ _ _ (@tH _ _ _ _ _ _ _ _ _ (DK rfl) pI M.m_all G6 (@cg _ _ _ _ _ (@vt _ _ _ _ _ _ _ _ _ _ _ _ _ _ _ rfl (CompOk.make (N' := ["letter"]) (ix := []) (nl := 1) (by rfl) fm0 (by rfl) (by decide +kernel) rfl (by decide +kernel) rfl True.intro) (@GQ _ _ _ _ (@eu _ 0 _ _ rfl jj dL dM)) (fun _ _ _ _ _ => (@uu _ _ 0 _ (show List.Nodup (["letter"] : List Str) from by decide) rfl (Or.inl rfl) (by first | exact .inl rfl | exact .inr rfl | assumption))) (fun _ _ _ _ _ => (@xj _)) (fun _ _ _ _ _ => (@EX _ _ _ _ _ _ _ _ _ _ _ _ Ef Ef (@tN _ _ _ _) (@pv _ 0 _ _ (by rfl) (by first | exact Or.inl rfl | exact Or.inr (Or.inl rfl) | exact Or.inr (Or.inr rfl)) (by decide) (by decide)) (@tN _ _ _ _) (by with_unfolding_all rfl))) (by intro _; rfl)) (@ff _) (ef rfl)) tf sZ (ef rfl) mj)))), ?_⟩
  cases N with
  | no kd hk =>
    trivial
    refine ⟨_, kd, ?_⟩
    rw [if_pos (De hk)]
    exact q _ (Same.refl _)
  | @txt cs ha hn =>
    trivial
    rw [Gb]
    have sl : cs.length ≤ sizeLine := Nat.le_trans hn (by decide)
    refine ⟨sl, ?_⟩
    by_cases h1 : 1 ≤ (cs.length : Int)
    · rw [if_pos h1]
      by_cases h2 : (cs.length : Int) ≤ 8
      · rw [if_pos h2]
        refine ⟨_, rfl, ha, fun D hD => ?_⟩
        obtain ⟨Pc, hC⟩ : ∃ Pc : Nat → St → Hp → Prop, Pc = fun i τ H' => ∃ z, H' D = some (.lst (((cs.map vU).take i).map V.bl)) ∧ Same H H' ∧ τ = [z] := ⟨_, rfl⟩
        refine DW cs Pc ?_ ?_ ?_
        · rw [hC]
          exact ⟨_, ic, p5 hD _, rfl⟩
        · intro i c τ H' R hc h next
          rw [hC] at h
          obtain ⟨z, d1, d2, rfl⟩ := h
          have li : i < cs.length := (List.getElem?_eq_some_iff.mp hc).1
          have key : ∃ ys, H' D = some (.lst ys) ∧ ys.length < sizeLine ∧ R [some (sgn c)] (upd H' D (.lst (ys ++ [.bl (vU c)]))) := by
            refine ⟨_, d1, ?_, next _ _ ?_⟩
            · rw [List.length_map, List.length_take, List.length_map]
              exact Nat.lt_of_lt_of_le (m := 64) (by omega) (by decide)
            · rw [hC]
              refine ⟨_, ?_, fun b o hb => by rw [tP (tU hb hD)]; exact d2 _ _ hb, rfl⟩
              rw [ic, List.take_add_one, List.getElem?_map, hc, List.map_append]
              rfl
          trivial
          refine ⟨97, rfl, _, rfl, ?_⟩
          unfold vU at key
          by_cases hc1 : 97 ≤ c
          · rw [decide_eq_true hc1, Bool.true_and] at key
            rw [if_pos hc1]
            exact ⟨_, rfl, 122, rfl, key⟩
          · rw [decide_eq_false hc1, Bool.false_and] at key
            rw [if_neg hc1]
            exact key
        · intro τ H' h
          rw [hC] at h
          obtain ⟨z, d1, d2, rfl⟩ := h
          rw [List.take_of_length_le (by rw [List.length_map]; exact Nat.le_refl _)] at d1
          refine ⟨_, rfl, _, SqL.of d1, ?_⟩
          have e : nameB cs = (cs.map vU).all id := by
            unfold nameB
            rw [decide_eq_true ⟨by omega, by omega⟩, Bool.true_and, List.all_map]
            rfl
          rw [← e]
          exact q _ d2
      · rw [if_neg h2]
        have e : nameB cs = false := by
          unfold nameB
          rw [decide_eq_false (by omega)]
          rfl
        rw [← e]
        exact q _ (Same.refl _)
    · rw [if_neg h1]
      have e : nameB cs = false := by
        unfold nameB
        rw [decide_eq_false (by omega)]
        rfl
      rw [← e]
      exact q _ (Same.refl _)
end

inductive KindV (K : PySem.W.Frag) (H : Hp) : V → Bool → Prop
  | no {v : V} {k : Kn} : Kd K H v k → k ≠ .tup → KindV K H v false
  | len {p : Addr} {xs : List V} : SqT K H p xs → xs.length ≠ 2 → KindV K H (.ref p) false
  | two {p : Addr} {x y : V} {b c : Bool} : SqT K H p [x, y] → NameV K H x b → NameV K H y c → KindV K H (.ref p) (b && c)
theorem NameV.same {K : PySem.W.Frag} {H H' : Hp} {v : V} {b : Bool} (h : NameV K H v b) (e : Same H H') : NameV K H' v b := by
  cases h with
  | no a c => exact .no (FF e a) c
  | txt a c => exact .txt a c
def yW (K : PySem.W.Frag) : Sp := fun vs H Q _ => ∃ v b, vs = [v] ∧ KindV K H v b ∧ ∀ H', Same H H' → Q (.bl b) H'
theorem Bu {k : Kn} (h : k ≠ .tup) : uf k .tup = false := by
  cases k <;> first | rfl | exact absurd rfl h
section
variable {P : Program} {w : World} {K : PySem.W.Frag} {mg : Str → Option Value} {base : Heap} {f : Addr} {fd : FuncData}
theorem Dk (F : Fun K "is_kind" "is_kind" cG f fd) (M : Mg mg) (eL : Cal P w K mg base CX0 "is_name" 1 ["thing"] (xK K)) : FnOk P w K mg base CX0 2 f fd ["thing"] (yW K) := by
  refine F.ok sv (fun vs H Q E h => ?_) (fun cdv A outer s H vs Q E hr h => ?_)
  · obtain ⟨v, b, rfl, _⟩ := h
    rfl
  obtain ⟨v, b, rfl, N, q⟩ := h
  refine ⟨_, (@fz _ _ _ _ _ (@tL _ _ _ _ _ _ _ _ (@PW.pt _ _ _ (@uF _ _ _ _ _ _ _ (@uz _ _ _ _ (@ua _ _ _ (@tH _ _ _ _ _ _ _ _ _ uH j5 M.m_isinstance uc (@cg _ _ _ _ _ (@eu _ 0 _ _ rfl gG dL dM) (@cg _ _ _ _ _ (@uK _ _ (.ty "tuple") _ _ nB M.m_tuple vS rfl fE fD) (@ff _) (ef rfl)) (ef rfl)) aW aV (ef rfl) (ia rfl mj)) (um rfl))) (@uU _ _ _ _ (@qq _ _ _ _ _ _ _ _ (@vh _) (@tH _ _ _ _ _ _ _ _ _ tO pJ M.m_len uo (@cg _ _ _ _ _ (@eu _ 0 _ _ rfl gG dL dM) (@ff _) (ef rfl)) bg bf (ef rfl) mj) (@eH _ _ _ _) (r8 _))))) (@ki _ _ _ (@nt _ _ _ _ (@uA _ _ _ _))) (@tF _)) (@ki _ _ _ (@nt _ _ _ _ (@uM _ _ _ _ _ _ _ (@m8 _ _ _ _ _ _ _ _ _ _ _ eL hr g0 (@cg _ _ _ _ _ (@m9 _ _ _ _ _ _ _ (@ni _) (@eu _ 0 _ _ rfl gG dL dM) (@eH _ _ _ _) (fun _ _ => rfl)) (@ff _) (ef rfl)) (by decide) jZ (ef rfl) mj) (@uN _ _ _ _ _ (@m8 _ _ _ _ _ _ _ _ _ _ _ eL hr g0 (@cg _ _ _ _ _ (@m9 _ _ _ _ _ _ _ (@ni _) (@eu _ 0 _ _ rfl gG dL dM) (@eH _ _ _ _) (fun _ _ => rfl)) (@ff _) (ef rfl)) (by decide) jZ (ef rfl) mj)))))), ?_⟩
  trivial
  cases N with
  | no kd hk =>
    refine ⟨_, kd, ?_⟩
    rw [if_pos (Bu hk)]
    exact q _ (Same.refl _)
  | len T hl =>
    refine ⟨_, Kd.tup T, ?_⟩
    rw [if_neg (by decide)]
    refine ⟨_, rfl, _, .inr T, ?_⟩
    rw [if_neg (by omega)]
    exact q _ (Same.refl _)
  | @two p x y b c T n1 n2 =>
    refine ⟨_, Kd.tup T, ?_⟩
    rw [if_neg (by decide)]
    refine ⟨_, rfl, _, .inr T, ?_⟩
    rw [if_pos (show (([x, y].length : Nat) : Int) = 2 from rfl)]
    refine ⟨_, rfl, _, T, _, rfl, _, _, rfl, n1, fun H1 e1 => ⟨_, rfl, ?_⟩⟩
    cases b with
    | true =>
      rw [if_pos rfl]
      exact ⟨_, rfl, _, Same.tup e1 T, _, rfl, _, _, rfl, n2.same e1, fun H2 e2 => q _ (e1.trans e2)⟩
    | false =>
      rw [if_neg (by decide)]
      exact q _ e1
end

inductive TpD (H : Hp) : List V → List (List V) → Prop
  | nil : TpD H [] []
  | cons {p : Addr} {r : List V} {xs : List V} {rs : List (List V)} : H p = some (.tup r) → TpD H xs rs → TpD H (.ref p :: xs) (r :: rs)
theorem TpD.same {H H' : Hp} {xs : List V} {rs : List (List V)} (h : TpD H xs rs) (e : Same H H') : TpD H' xs rs := by
  induction h with
  | nil => exact .nil
  | cons a _ ih => exact .cons (e _ _ a) ih
theorem TpD.upd {H : Hp} {l : Addr} {ys zs : List V} {xs : List V} {rs : List (List V)} (h : TpD H xs rs) (hl : H l = some (.lst ys)) : TpD (upd H l (.lst zs)) xs rs := by
  induction h with
  | nil => exact .nil
  | @cons p r xs rs a _ ih =>
    refine .cons ?_ ih
    have n : p ≠ l := fun e => by rw [e, hl] at a; cases a
    rw [tP n]
    exact a
theorem TpD.snoc {H : Hp} {xs : List V} {rs : List (List V)} {p : Addr} {r : List V} (h : TpD H xs rs) (e : H p = some (.tup r)) : TpD H (xs ++ [.ref p]) (rs ++ [r]) := by
  induction h with
  | nil => exact .cons e .nil
  | cons a _ ih => exact .cons a ih
theorem TpD.length {H : Hp} {xs : List V} {rs : List (List V)} (h : TpD H xs rs) : xs.length = rs.length := by
  induction h with
  | nil => rfl
  | cons _ _ ih => rw [List.length_cons, List.length_cons, ih]
theorem TpD.at {H : Hp} {xs : List V} {rs : List (List V)} (h : TpD H xs rs) : ∀ {i : Nat} {r : List V}, rs[i]? = some r → ∃ p, xs[i]? = some (.ref p) ∧ H p = some (.tup r) := by
  induction h with
  | nil => intro i x e; simp at e
  | cons a _ ih =>
    intro i x e
    cases i with
    | zero => cases e; exact ⟨_, rfl, a⟩
    | succ i => exact ih e
abbrev Kd2 : Type := List Nat × List Nat
def kRow (k : Kd2) : List V := [.str (txt k.1), .str (txt k.2)]

abbrev lettersS : Str := "abcdefghijklmnopqrstuvwxyz"
theorem zJ : ∀ r : Nat, r < 26 → lettersS.cps.toList[r]? = some (97 + r) := by decide +kernel
theorem Et {r : Nat} (h : r < 26) : vU (97 + r) = true := by
  unfold vU
  rw [decide_eq_true (by omega), decide_eq_true (by omega)]
  rfl
def vL (n k m : Int) : Int := (n % 2147483647 + 1) * (16807 + 48271 * k * k) % 2147483629 * 69621 % 2147483587 % m
theorem wk (n k : Int) {m : Int} (h : 0 < m) : 0 ≤ vL n k m ∧ vL n k m < m := ⟨Int.emod_nonneg _ (by omega), Int.emod_lt_of_pos _ h⟩
def wG : Sp := fun vs H Q _ => ∃ n k m : Int, vs = [.int n, .int k, .int m] ∧ 0 ≤ k ∧ k ≤ 200 ∧ 0 < m ∧ Q (.int (vL n k m)) H
def Dis {α : Type} (l : List α) : Prop := ∀ (i j : Nat) (x : α), l[i]? = some x → l[j]? = some x → i = j
theorem z8 {α : Type} {l : List α} {x y : α} {i : Nat} (h : (l ++ [x])[i]? = some y) : (i < l.length ∧ l[i]? = some y) ∨ (i = l.length ∧ y = x) := by
  by_cases hi : i < l.length
  · rw [List.getElem?_append_left hi] at h
    exact .inl ⟨hi, h⟩
  · rw [List.getElem?_append_right (by omega)] at h
    by_cases e : i - l.length = 0
    · rw [e] at h
      injection h with h
      exact .inr ⟨by omega, h.symm⟩
    · rw [List.getElem?_eq_none (by show 1 ≤ _; omega)] at h
      cases h
def zX (K : PySem.W.Frag) : Sp := fun vs H Q _ => ∃ c : Int, vs = [.int c, .int 7] ∧ 0 ≤ c ∧ ∀ (l : Addr) (H' : Hp) (ws : List (List Nat)), Same H H' → H l = none → H' l = some (.lst (ws.map fun w => V.str (txt w))) → ws.length = 7 → (∀ w ∈ ws, nameB w = true) → Dis ws → Q (.ref l) H'
def zg (K : PySem.W.Frag) : Sp := fun vs H Q _ => ∃ (c : Int) (wl : Addr) (ws : List (List Nat)), vs = [.int c, .ref wl] ∧ 0 ≤ c ∧ H wl = some (.lst (ws.map fun w => V.str (txt w))) ∧ ws.length = 7 ∧ (∀ w ∈ ws, nameB w = true) ∧ Dis ws ∧
  ∀ (l : Addr) (xs : List V) (ks : List Kd2) (H' : Hp), Same H H' → H l = none → H' l = some (.lst xs) → TpD H' xs (ks.map kRow) → 1 ≤ ks.length → ks.length ≤ 4 → (∀ k ∈ ks, nameB k.1 = true ∧ nameB k.2 = true) → Dis ks → Q (.ref l) H'
section
variable {P : Program} {w : World} {K : PySem.W.Frag} {mg : Str → Option Value} {base : Heap} {f : Addr} {fd : FuncData}
theorem Dn (F : Fun K "_law_mix" "_law_mix" cP f fd) (M : Mg mg) : FnOk P w K mg base CX0 1 f fd ["_law_number", "_law_k", "_law_many"] wG := by
  refine F.ok nC (fun vs H Q E h => ?_) (fun cdv A outer s H vs Q E hr h => ?_)
  · obtain ⟨n, k, m, rfl, _⟩ := h
    rfl
  obtain ⟨n, k, m, rfl, k0, k1, m0, q⟩ := h
  refine ⟨_, (@fz _ _ _ _ _ (@tK _ _ 0 _ _ _ _ nC.nd rfl rN (@tQ _ _ _ _ _ _ _ _ (@ux _) (@tQ _ _ _ _ _ _ _ _ (@uP _) (@tQ _ _ _ _ _ _ _ _ (@uQ _) (@tQ _ _ _ _ _ _ _ _ (@ux _) (@eu _ 0 _ _ rfl mB bh bi) (@eH _ _ _ _)) (@eH _ _ _ _)) (@tQ _ _ _ _ _ _ _ _ (@uQ _) (@eH _ _ _ _) (@tQ _ _ _ _ _ _ _ _ (@uP _) (@tQ _ _ _ _ _ _ _ _ (@uP _) (@eH _ _ _ _) (@eu _ 1 _ _ rfl mC bG bH)) (@eu _ 1 _ _ rfl mC bG bH)))) (@eH _ _ _ _)) (tM rfl) (.inl rfl)) (@ki _ _ _ (@nt _ _ _ _ (@tQ _ _ _ _ _ _ _ _ (@ux _) (@tQ _ _ _ _ _ _ _ _ (@ux _) (@tQ _ _ _ _ _ _ _ _ (@uP _) (@eu _ 0 _ _ rfl mB bh bi) (@eH _ _ _ _)) (@eH _ _ _ _)) (@eu _ 2 _ _ rfl rO d9 ee))))), ?_⟩
  trivial
  have kk : 0 ≤ 48271 * k * k ∧ 48271 * k * k ≤ 48271 * 200 * 200 := ⟨Int.mul_nonneg (by omega) k0, Int.mul_le_mul (by omega) k1 k0 (by omega)⟩
  have e1 := Int.emod_nonneg n (show (2147483647 : Int) ≠ 0 by decide)
  have e2 := Int.emod_lt_of_pos n (show (0 : Int) < 2147483647 by decide)
  have f1 := Int.emod_nonneg ((n % 2147483647 + 1) * (16807 + 48271 * k * k)) (show (2147483629 : Int) ≠ 0 by decide)
  have f2 := Int.emod_lt_of_pos ((n % 2147483647 + 1) * (16807 + 48271 * k * k)) (show (0 : Int) < 2147483629 by decide)
  have big : (48271 * 200 * 200 + 2147483647 + 16807 : Int) ≤ 10 ^ 61 := by decide
  exact ⟨by decide, vJ (by decide) (by decide) (by omega) (by omega), vJ (by omega) (by omega) (by omega) (by omega), vJ (by omega) (by omega) (by omega) (by omega), by decide, vJ (by omega) (by omega) (by decide) (by decide), by decide, m0, q⟩
theorem Be (F : Fun K "_law_words" "_law_words" ax f fd) (M : Mg mg) : FnOk P w K mg base CX0 1 f fd ["_law_cell_here", "_law_many"] (zX K) := by
  refine F.ok bJ (fun vs H Q E h => ?_) (fun cdv A outer s H vs Q E hr h => ?_)
  · obtain ⟨c, rfl, _⟩ := h
    rfl
  obtain ⟨c, rfl, c0, q⟩ := h
  refine ⟨_, (@fz _ _ _ _ _ (@tK _ _ 2 _ _ _ _ bJ.nd rfl pM (@tN _ _ _ _) (tM rfl) (.inl rfl)) (@fz _ _ _ _ _ (@tK _ _ 3 _ _ _ _ bJ.nd rfl pO (@vt _ _ _ _ _ _ _ _ _ _ _ _ _ _ _ rfl (CompOk.make (N' := ["_law_cell_here", "_law_k"]) (ix := [0]) (nl := 1) (by rfl) (fm1 rfl fm0) (by rfl) (by decide +kernel) rfl (by decide +kernel) rfl (And.intro ⟨rfl, .inl rfl, .inl rfl⟩ True.intro)) (@uT _ _ _ _ _ _ dD M.m_range (@cg _ _ _ _ _ (@eH _ _ _ _) (@ff _) (ef rfl)) (star1' rfl)) (fun _ _ _ _ _ => (@uu _ _ 1 _ (show List.Nodup (["_law_cell_here", "_law_k"] : List Str) from by decide) rfl (Or.inl rfl) (by first | exact .inl rfl | exact .inr rfl | assumption))) (fun _ _ _ _ _ => (@xj _)) (fun _ _ _ _ _ => (@tQ _ _ _ _ _ _ _ _ (@ux _) (@tQ _ _ _ _ _ _ _ _ (@uQ _) (@tQ _ _ _ _ _ _ _ _ (@uZ _) (@tQ _ _ _ _ _ _ _ _ (@uZ _) (@pv _ 0 _ _ (by rfl) (by first | exact Or.inl rfl | exact Or.inr (Or.inl rfl) | exact Or.inr (Or.inr rfl)) (by decide) (by decide)) (@eH _ _ _ _)) (@tQ _ _ _ _ _ _ _ _ (@uQ _) (@pv _ 1 _ _ (by rfl) (by first | exact Or.inl rfl | exact Or.inr (Or.inl rfl) | exact Or.inr (Or.inr rfl)) (by decide) (by decide)) (@eH _ _ _ _))) (@tQ _ _ _ _ _ _ _ _ (@uP _) (@pv _ 1 _ _ (by rfl) (by first | exact Or.inl rfl | exact Or.inr (Or.inl rfl) | exact Or.inr (Or.inr rfl)) (by decide) (by decide)) (@pv _ 1 _ _ (by rfl) (by first | exact Or.inl rfl | exact Or.inr (Or.inl rfl) | exact Or.inr (Or.inr rfl)) (by decide) (by decide)))) (@eH _ _ _ _))) (by intro _; rfl)) (by rfl) (.inl rfl)) (@fz _ _ _ _ _ (@tK _ _ 4 _ _ _ _ bJ.nd rfl pP (@tQ _ _ _ _ _ _ _ _ (@uQ _) (@eH _ _ _ _) (@tQ _ _ _ _ _ _ _ _ (@ux _) (@eu _ 0 _ _ rfl gO aF aG) (@eH _ _ _ _))) (tM rfl) (.inl rfl)) (@fz _ _ _ _ _ (@tK _ _ 5 _ _ _ _ bJ.nd rfl pR (@tQ _ _ _ _ _ _ _ _ (@ux _) (@tQ _ _ _ _ _ _ _ _ (@uZ _) (@eu _ 0 _ _ rfl gO aF aG) (@eH _ _ _ _)) (@eu _ 4 _ _ rfl kj ln lq)) (tM rfl) (.inl rfl)) (@fz _ _ _ _ _ (@tK _ _ 6 _ _ _ _ bJ.nd rfl pS (@zj _ _ _ _ (@ff _)) (tM rfl) (.inl rfl)) (@fz _ _ _ _ _ (@yh _ _ _ _ _ _ _ _ PassesOwn.never rfl (@uT _ _ _ _ _ _ dD M.m_range (@cg _ _ _ _ _ (@eu _ 1 _ _ rfl pK d9 ee) (@ff _) (ef rfl)) (star1' rfl)) (@uu _ _ 7 _ bJ.nd rfl pT (.inl rfl)) (@fz _ _ _ _ _ (@tK _ _ 8 _ _ _ _ bJ.nd rfl gP (@tN _ _ _ _) (tM rfl) (.inl rfl)) (@fz _ _ _ _ _ (@yh _ _ _ _ _ _ _ _ PassesOwn.never rfl (@uT _ _ _ _ _ _ dD M.m_range (@cg _ _ _ _ _ (@eu _ 4 _ _ rfl kj ln lq) (@ff _) (ef rfl)) (star1' rfl)) (@uu _ _ 9 _ bJ.nd rfl pU (.inl rfl)) (@ki _ _ _ (@tK _ _ 8 _ _ _ _ bJ.nd rfl gP (@tQ _ _ _ _ _ _ _ _ FD (@eu _ 8 _ _ rfl kq eg eh) (@m9 _ _ _ _ _ _ _ Dv (@eu _ 2 _ _ rfl pL m7 ng) (@tQ _ _ _ _ _ _ _ _ (@ux _) (@tQ _ _ _ _ _ _ _ _ (@uQ _) (@m9 _ _ _ _ _ _ _ (@ue _) (@eu _ 3 _ _ rfl pN qE qF) (@eu _ 9 _ _ rfl kr ph pj) (fun _ _ => rfl)) (@tQ _ _ _ _ _ _ _ _ (@uP _) (@eu _ 7 _ _ rfl ko bG bH) (@u6 _ _ _ _ _ _ _ _ _ yK nD M.m_int AG (@cg _ _ _ _ _ (@uq _ _ _ _ _ _ _ _ (@tT _) (@eu _ 9 _ _ rfl kr ph pj) (@eu _ 5 _ _ rfl pQ eM eN) (r8 _)) (@ff _) (ef rfl)) nq nh (ef rfl) mj))) (@eH _ _ _ _)) (fun _ _ => rfl))) (tM rfl) (.inl rfl))) (by intro _; rfl)) (@fz _ _ _ _ _ (@tL _ _ _ _ _ _ _ _ (@qq _ _ _ _ _ _ _ _ (@tT _) (@tQ _ _ _ _ _ _ _ _ (@ux _) (@tQ _ _ _ _ _ _ _ _ (@uZ _) (@eu _ 0 _ _ rfl gO aF aG) (@eH _ _ _ _)) (@eH _ _ _ _)) (@eH _ _ _ _) (r8 _)) (@ki _ _ _ (@tK _ _ 8 _ _ _ _ bJ.nd rfl gP (@AC _ _ _ _ _ _ _ _ _ _ _ _ PySem.F.plainAttrs_str PySem.F.slot_str_join PySem.F.type_str_join FE (@tN _ _ _ _) (@cg _ _ _ _ _ (@vt _ _ _ _ _ _ _ _ _ _ _ _ _ _ _ rfl (CompOk.make (N' := ["_law_letters", "_law_base", "_law_j"]) (ix := [2, 3]) (nl := 1) (by rfl) (fm1 rfl (fm1 rfl fm0)) (by rfl) (by decide +kernel) rfl (by decide +kernel) rfl (And.intro ⟨rfl, .inl rfl, .inl rfl⟩ (And.intro ⟨rfl, .inl rfl, .inl rfl⟩ True.intro))) (@uT _ _ _ _ _ _ dD M.m_range (@cg _ _ _ _ _ (@tQ _ _ _ _ _ _ _ _ (@uQ _) (@eu _ 7 _ _ rfl ko bG bH) (@eH _ _ _ _)) (@ff _) (ef rfl)) (star1' rfl)) (fun _ _ _ _ _ => (@uu _ _ 2 _ (show List.Nodup (["_law_letters", "_law_base", "_law_j"] : List Str) from by decide) rfl (Or.inl rfl) (by first | exact .inl rfl | exact .inr rfl | assumption))) (fun _ _ _ _ _ => (@xj _)) (fun _ _ _ _ _ => (@m9 _ _ _ _ _ _ _ Dv (@pv _ 0 _ _ (by rfl) (by first | exact Or.inl rfl | exact Or.inr (Or.inl rfl) | exact Or.inr (Or.inr rfl)) (by decide) (by decide)) (@m9 _ _ _ _ _ _ _ (@Ez _ K rfl) (@pv _ 1 _ _ (by rfl) (by first | exact Or.inl rfl | exact Or.inr (Or.inl rfl) | exact Or.inr (Or.inr rfl)) (by decide) (by decide)) (@pv _ 2 _ _ (by rfl) (by first | exact Or.inl rfl | exact Or.inr (Or.inl rfl) | exact Or.inr (Or.inr rfl)) (by decide) (by decide)) (fun _ _ => rfl)) (fun _ _ => rfl))) (by intro _; rfl)) (@ff _) (ef rfl)) (by rfl) (by rfl) (by rfl) (by rfl) (by rfl)) (tM rfl) (.inl rfl))) (@tF _)) (@ki _ _ _ (@B4 _ _ _ _ (@AC _ _ _ _ _ _ _ _ _ _ _ _ PySem.F.plainAttrs_list PySem.F.slot_list_append PySem.F.type_list_append wM (@eu _ 6 _ _ rfl km aH aI) (@cg _ _ _ _ _ (@eu _ 8 _ _ rfl kq eg eh) (@ff _) (ef rfl)) (by rfl) (by rfl) (by rfl) (by rfl) (by rfl)) (tM rfl)))))) (by intro _; rfl)) (@ki _ _ _ (@nt _ _ _ _ (@eu _ 6 _ _ rfl km aH aI))))))))), ?_⟩
  trivial
  refine ⟨by decide, by decide, fun D hD => ?_⟩
  obtain ⟨Pc, hC⟩ : ∃ Pc : Nat → St → Hp → Prop, Pc = fun i τ H' => ∃ (z : Option V) (bs : List Int), H' D = some (.lst (bs.map V.int)) ∧ bs.length = i ∧ (∀ b ∈ bs, 0 ≤ b ∧ b < 26) ∧ Same H H' ∧ τ = [some (.int c), z] := ⟨_, rfl⟩
  refine vC Pc ?_ ?_ ?_
  · rw [hC]
    exact ⟨_, [], ic, rfl, (fun b hb => by cases hb), p5 hD _, rfl⟩
  · intro i τ H' R' hi h next
    rw [hC] at h
    obtain ⟨z, bs, d1, lb, b26, d2, rfl⟩ := h
    trivial
    have hi' : i < 8 := hi
    have e61 : (100 : Int) ≤ 10 ^ 61 := by decide
    refine ⟨cdiv (by decide) (by decide), cdiv (by omega) (by omega), vJ (by omega) (by omega) (by omega) (by omega), by decide, _, d1, by rw [List.length_map]; exact Nat.lt_of_lt_of_le (m := 64) (by omega) (by decide), next _ _ ?_⟩
    rw [hC]
    have r0 := Int.emod_nonneg (c / 8 / (0 + (i : Int) + 1) + (0 + (i : Int)) * (0 + (i : Int))) (show (26 : Int) ≠ 0 by decide)
    have r1 := Int.emod_lt_of_pos (c / 8 / (0 + (i : Int) + 1) + (0 + (i : Int)) * (0 + (i : Int))) (show (0 : Int) < 26 by decide)
    obtain ⟨bv, hbv⟩ : ∃ bv : Int, (c / 8 / (0 + (i : Int) + 1) + (0 + (i : Int)) * (0 + (i : Int))) % 26 = bv := ⟨_, rfl⟩
    rw [hbv] at r0 r1 ⊢
    refine ⟨_, bs ++ [bv], by rw [ic, List.map_append]; rfl, by rw [List.length_append, lb]; rfl, fun b hb => ?_, uv d2 hD _, rfl⟩
    rcases List.mem_append.mp hb with h | h
    · exact b26 b h
    · rw [List.mem_singleton.mp h]
      exact ⟨r0, r1⟩
  intro τ H1 h
  rw [hC] at h
  obtain ⟨z, bs, LB, lb, b26, S1, rfl⟩ := h
  clear hC Pc
  have lb8 : bs.length = 8 := lb
  obtain ⟨sz, hsz, sz1, sz8⟩ : ∃ sz : Nat, 1 + c % 8 = sz ∧ 1 ≤ sz ∧ sz ≤ 8 := ⟨(1 + c % 8).toNat, by omega, by omega, by omega⟩
  refine ⟨by decide, cdiv (by decide) (by decide), by omega, by decide, fun l hl => ⟨by decide, by decide, ?_⟩⟩
  rw [hsz]
  obtain ⟨at', hat⟩ : ∃ at' : Int, c / 8 % (sz : Int) = at' := ⟨_, rfl⟩
  rw [hat]
  obtain ⟨H2, g2, S2, LL⟩ : ∃ H2, H2 = upd H1 l (.lst []) ∧ Same H1 H2 ∧ H2 l = some (.lst []) := ⟨_, rfl, p5 hl _, ic⟩
  rw [← g2]
  clear g2
  have B : ∀ j : Nat, j < 8 → ∃ b : Nat, bs[j]? = some (b : Int) ∧ b < 26 := fun j hj => by
    have e := List.getElem?_eq_getElem (show j < bs.length by omega)
    have := b26 _ (List.getElem_mem (show j < bs.length by omega))
    exact ⟨(bs[j]'(by omega)).toNat, by rw [e]; congr 1; omega, by omega⟩
  have ha0 : 0 ≤ at' ∧ at' < sz := by
    rw [← hat]
    exact ⟨Int.emod_nonneg _ (by omega), Int.emod_lt_of_pos _ (by omega)⟩
  obtain ⟨an, han⟩ : ∃ an : Nat, at' = an := ⟨at'.toNat, by omega⟩
  obtain ⟨ba, hba, ba6⟩ := B an (by omega)
  obtain ⟨ky, kv, inj, kp, kn⟩ : ∃ (ky : List Nat → Nat) (kv : Nat → Nat), (∀ i j, i < 7 → j < 7 → kv i = kv j → i = j) ∧ (c / 64 % 4 = 1 → (∀ w, ky w = w.length) ∧ ∀ i, kv i = i + 1) ∧ (¬ c / 64 % 4 = 1 → (∀ w, ky w = (w[an]?).getD 0) ∧ ∀ i, kv i = 97 + (ba + i) % 26) := by
    by_cases h64 : c / 64 % 4 = 1
    · exact ⟨fun w => w.length, fun i => i + 1, fun i j _ _ h => by have h1 : i + 1 = j + 1 := h; omega, fun _ => ⟨fun _ => rfl, fun _ => rfl⟩, fun h => absurd h64 h⟩
    · exact ⟨fun w => (w[an]?).getD 0, fun i => 97 + (ba + i) % 26, fun i j _ _ h => by have h' : 97 + (ba + i) % 26 = 97 + (ba + j) % 26 := h; omega, fun h => absurd h h64, fun _ => ⟨fun _ => rfl, fun _ => rfl⟩⟩
  obtain ⟨Pv, hP⟩ : ∃ Pv : Nat → St → Hp → Prop, Pv = fun k σ H' => ∃ (ws : List (List Nat)) (y7 y8 y9 : Option V), H' l = some (.lst (ws.map fun w => V.str (txt w))) ∧ ws.length = k ∧ (∀ w ∈ ws, nameB w = true) ∧ (∀ (i : Nat) (w : List Nat), ws[i]? = some w → ky w = kv i) ∧ Same H1 H' ∧ σ = [some (V.int c), some (V.int 7), some (V.str lettersS), some (V.ref D), some (V.int sz), some (V.int at'), some (V.ref l), y7, y8, y9] := ⟨_, rfl⟩
  refine vM Pv ?_ ?_ ?_
  · rw [hP]
    exact ⟨[], _, _, _, LL, rfl, (fun w hw => by cases hw), (fun i w h => by cases h), S2, rfl⟩
  · intro k σ H' hk h
    rw [hP] at h
    obtain ⟨ws, y7, y8, y9, dl, lw, nw, kw, e, rfl⟩ := h
    have hk' : k < 7 := hk
    trivial
    refine ⟨by omega, by omega, ?_⟩
    rw [Int.toNat_natCast]
    obtain ⟨Pw, hW⟩ : ∃ Pw : Nat → St → Hp → Prop, Pw = fun j σ H2 => ∃ (cs : List Nat) (y9 : Option V), cs.length = j ∧ cs.all vU = true ∧ (an < cs.length → cs[an]? = some (97 + (ba + k) % 26)) ∧ Same H' H2 ∧ σ = [some (V.int c), some (V.int 7), some (V.str lettersS), some (V.ref D), some (V.int sz), some (V.int at'), some (V.ref l), some (V.int (0 + k)), some (V.str (txt cs)), y9] := ⟨_, rfl⟩
    refine vM Pw ?_ ?_ ?_
    · rw [hW]
      exact ⟨[], _, rfl, rfl, (fun h => by cases h), Same.refl _, rfl⟩
    · intro j σ H2 hj h
      rw [hW] at h
      obtain ⟨cs, y9, lc, ac, kc, e2, rfl⟩ := h
      obtain ⟨b, hb, b6⟩ := B j (by omega)
      trivial
      have LB2 := (e.trans e2) _ _ LB
      have aj : atI (bs.map V.int) (0 + (j : Int)) = some (.int (b : Int)) := by
        rw [Int.zero_add]
        exact uw (by rw [List.getElem?_map, hb]; rfl)
      have e61 : (100 : Int) ≤ 10 ^ 61 := by decide
      have m0 := Int.emod_nonneg ((b : Int) + (0 + (k : Int)) * if 0 + (j : Int) = at' then 1 else 0) (show (26 : Int) ≠ 0 by decide)
      have m1 := Int.emod_lt_of_pos ((b : Int) + (0 + (k : Int)) * if 0 + (j : Int) = at' then 1 else 0) (show (0 : Int) < 26 by decide)
      obtain ⟨r, hr', r6⟩ : ∃ r : Nat, ((b : Int) + (0 + (k : Int)) * if 0 + (j : Int) = at' then 1 else 0) % 26 = r ∧ r < 26 := ⟨(((b : Int) + (0 + (k : Int)) * if 0 + (j : Int) = at' then 1 else 0) % 26).toNat, by omega, by omega⟩
      refine ⟨_, SqL.of LB2, _, aj, vJ (by omega) (by omega) (by split <;> omega) (by split <;> omega), _, rfl, by decide, by decide, 97 + r, (by rw [hr']; exact uw (zJ r r6)), _, rfl, [97 + r], rfl, by show _ + 1 ≤ 1000; omega, ?_⟩
      rw [hW]
      refine ⟨cs ++ [97 + r], _, by rw [List.length_append, lc]; rfl, ?_, fun ha => ?_, e2, rfl⟩
      rotate_left
      · by_cases ej : an < cs.length
        · rw [List.getElem?_append_left ej]
          exact kc ej
        · rw [List.length_append, List.length_cons, List.length_nil] at ha
          have ej2 : an = j := by omega
          rw [List.getElem?_append_right (by omega), show an - cs.length = 0 by omega]
          subst ej2
          rw [hba] at hb
          injection hb with hb
          have hb2 : ba = b := by omega
          rw [if_pos (by omega)] at hr'
          show some (97 + r) = _
          congr 1
          omega
      rw [List.all_append, ac, List.all_cons, Et r6]
      rfl
    intro σ H2 h
    rw [hW] at h
    obtain ⟨cs, y9, lc, ac, kc, e2, rfl⟩ := h
    clear hW Pw
    have nn : nameB cs = true := by
      unfold nameB
      rw [decide_eq_true (by omega), ac]
      rfl
    trivial
    refine ⟨cdiv (by decide) (by decide), by decide, ?_⟩
    have dl2 := e2 _ _ dl
    have lenw : (ws.map fun w => V.str (txt w)).length < sizeLine := by
      rw [List.length_map]
      exact Nat.lt_of_lt_of_le (m := 64) (by omega) (by decide)
    by_cases h64 : c / 64 % 4 = 1
    · rw [if_pos h64]
      refine ⟨rfl, by omega, by omega, fun D2 hD2 => ?_⟩
      have ek : (0 + (k : Int) + 1).toNat = k + 1 := by omega
      rw [ek]
      obtain ⟨Pd, hQ⟩ : ∃ Pd : Nat → St → Hp → Prop, Pd = fun j τ H3 => ∃ (z : Option V) (ds : List Nat), H3 D2 = some (.lst (ds.map sgn)) ∧ ds.length = j ∧ ds.all vU = true ∧ Same H2 H3 ∧ τ = [some (.str lettersS), some (.ref D), z] := ⟨_, rfl⟩
      refine vC Pd ?_ ?_ ?_
      · rw [hQ]
        exact ⟨_, [], ic, rfl, rfl, p5 hD2 _, rfl⟩
      · intro j τ H3 R' hj h next
        rw [hQ] at h
        obtain ⟨z, ds, c1, ld, ad, c2, rfl⟩ := h
        obtain ⟨b, hb, b6⟩ := B j (by omega)
        have LB3 := (e.trans (e2.trans c2)) _ _ LB
        have aj : atI (bs.map V.int) (0 + (j : Int)) = some (.int (b : Int)) := by
          rw [Int.zero_add]
          exact uw (by rw [List.getElem?_map, hb]; rfl)
        trivial
        refine ⟨_, SqL.of LB3, _, aj, _, rfl, by decide, 97 + b, uw (zJ b b6), _, c1, by rw [List.length_map]; exact Nat.lt_of_lt_of_le (m := 64) (by omega) (by decide), next _ _ ?_⟩
        rw [hQ]
        refine ⟨_, ds ++ [97 + b], ?_, by rw [List.length_append, ld]; rfl, ?_, uv c2 hD2 _, rfl⟩
        · rw [ic, List.map_append]
          rfl
        · rw [List.all_append, ad, List.all_cons, Et b6]
          rfl
      intro τ H3 h
      rw [hQ] at h
      obtain ⟨z, ds, c1, ld, ad, c2, rfl⟩ := h
      have nd : nameB ds = true := by
        unfold nameB
        rw [decide_eq_true (by omega), ad]
        rfl
      refine ⟨_, rfl, ds, SqL.of c1, by omega, .inl ⟨rfl, _, SqL.of (c2 _ _ dl2)⟩, _, c2 _ _ dl2, lenw, ?_⟩
      rw [hP]
      refine ⟨ws ++ [ds], _, _, _, by rw [ic, List.map_append]; rfl, by rw [List.length_append, lw]; rfl, fun w hw => ?_, fun i w h => (z8 h).elim (fun h => kw i w h.2) (fun h => by rw [h.1, h.2, (kp h64).1, (kp h64).2]; omega), uv (e.trans (e2.trans c2)) hl _, rfl⟩
      rcases List.mem_append.mp hw with h | h
      · exact nw w h
      · rw [List.mem_singleton.mp h]
        exact nd
    · rw [if_neg h64]
      refine ⟨.inl ⟨rfl, _, SqL.of dl2⟩, _, dl2, lenw, ?_⟩
      rw [hP]
      refine ⟨ws ++ [cs], _, _, _, by rw [ic, List.map_append]; rfl, by rw [List.length_append, lw]; rfl, fun w hw => ?_, fun i w h => (z8 h).elim (fun h => kw i w h.2) (fun h => by rw [h.1, h.2, (kn h64).1, (kn h64).2, kc (by omega), lw]; rfl), uv (e.trans e2) hl _, rfl⟩
      rcases List.mem_append.mp hw with h | h
      · exact nw w h
      · rw [List.mem_singleton.mp h]
        exact nn
  · intro σ H' h
    rw [hP] at h
    obtain ⟨ws, y7, y8, y9, dl, lw, nw, kw, e, rfl⟩ := h
    trivial
    have lw7 : ws.length = 7 := lw
    exact q _ _ ws (S1.trans e) (S1.free hl) dl lw nw fun i j x hi hj => inj i j (by have := (List.getElem?_eq_some_iff.mp hi).1; omega) (by have := (List.getElem?_eq_some_iff.mp hj).1; omega) (by rw [← kw i x hi, ← kw j x hj])
theorem AH (F : Fun K "_law_kinds" "_law_kinds" aE f fd) (M : Mg mg) : FnOk P w K mg base CX0 1 f fd ["_law_cell_here", "_law_words_here"] (zg K) := by
  refine F.ok cW (fun vs H Q E h => ?_) (fun cdv A outer s H vs Q E hr h => ?_)
  · obtain ⟨c, wl, ws, rfl, _⟩ := h
    rfl
  obtain ⟨c, wl, ws, rfl, c0, LW, lw, nw, dw, q⟩ := h
  refine ⟨_, (@fz _ _ _ _ _ (@tK _ _ 2 _ _ _ _ cW.nd rfl pW (@wg _ _ _ _ _ _ _ (@cg _ _ _ _ _ (@eH _ _ _ _) (@cg _ _ _ _ _ (@eH _ _ _ _) (@cg _ _ _ _ _ (@eH _ _ _ _) (@cg _ _ _ _ _ (@eH _ _ _ _) (@cg _ _ _ _ _ (@eH _ _ _ _) (@cg _ _ _ _ _ (@eH _ _ _ _) (@cg _ _ _ _ _ (@eH _ _ _ _) (@cg _ _ _ _ _ (@eH _ _ _ _) (@cg _ _ _ _ _ (@eH _ _ _ _) (@cg _ _ _ _ _ (@eH _ _ _ _) (@cg _ _ _ _ _ (@eH _ _ _ _) (@ff _) (ef rfl)) (ef rfl)) (ef rfl)) (ef rfl)) (ef rfl)) (ef rfl)) (ef rfl)) (ef rfl)) (ef rfl)) (ef rfl)) (ef rfl)) (@tQ _ _ _ _ _ _ _ _ (@ux _) (@eu _ 0 _ _ rfl fo aF aG) (@eH _ _ _ _)) (fun _ _ => rfl)) (tM rfl) (.inl rfl)) (@fz _ _ _ _ _ (@tK _ _ 3 _ _ _ _ cW.nd rfl pY (@wg _ _ _ _ _ _ _ (@cg _ _ _ _ _ (@eH _ _ _ _) (@cg _ _ _ _ _ (@eH _ _ _ _) (@cg _ _ _ _ _ (@eH _ _ _ _) (@cg _ _ _ _ _ (@eH _ _ _ _) (@cg _ _ _ _ _ (@eH _ _ _ _) (@cg _ _ _ _ _ (@eH _ _ _ _) (@ff _) (ef rfl)) (ef rfl)) (ef rfl)) (ef rfl)) (ef rfl)) (ef rfl)) (@tQ _ _ _ _ _ _ _ _ (@ux _) (@tQ _ _ _ _ _ _ _ _ (@uZ _) (@eu _ 0 _ _ rfl fo aF aG) (@eH _ _ _ _)) (@eH _ _ _ _)) (fun _ _ => rfl)) (tM rfl) (.inl rfl)) (@fz _ _ _ _ _ (@tK _ _ 4 _ _ _ _ cW.nd rfl p6 (@wg _ _ _ _ _ _ _ (@cg _ _ _ _ _ (@eH _ _ _ _) (@cg _ _ _ _ _ (@eH _ _ _ _) (@cg _ _ _ _ _ (@eH _ _ _ _) (@ff _) (ef rfl)) (ef rfl)) (ef rfl)) (@tQ _ _ _ _ _ _ _ _ (@ux _) (@tQ _ _ _ _ _ _ _ _ (@uZ _) (@eu _ 0 _ _ rfl fo aF aG) (@eH _ _ _ _)) (@eH _ _ _ _)) (fun _ _ => rfl)) (tM rfl) (.inl rfl)) (@fz _ _ _ _ _ (@tK _ _ 5 _ _ _ _ cW.nd rfl p7 (@zj _ _ _ _ (@ff _)) (tM rfl) (.inl rfl)) (@fz _ _ _ _ _ (@yh _ _ _ _ _ _ _ _ PassesOwn.never rfl (@uT _ _ _ _ _ _ lZ M.m_range (@cg _ _ _ _ _ (@eu _ 2 _ _ rfl pV d9 ee) (@ff _) (ef rfl)) (star1' rfl)) (@uu _ _ 6 _ cW.nd rfl qa (.inl rfl)) (@fz _ _ _ _ _ (@tK _ _ 7 _ _ _ _ cW.nd rfl qb (@tQ _ _ _ _ _ _ _ _ (@ux _) (@tQ _ _ _ _ _ _ _ _ (@uQ _) (@tQ _ _ _ _ _ _ _ _ (@uZ _) (@eu _ 0 _ _ rfl fo aF aG) (@eH _ _ _ _)) (@tQ _ _ _ _ _ _ _ _ (@uP _) (@eu _ 6 _ _ rfl p8 bG bH) (@eu _ 3 _ _ rfl pX qG qH))) (@eH _ _ _ _)) (tM rfl) (.inl rfl)) (@ki _ _ _ (@B4 _ _ _ _ (@AC _ _ _ _ _ _ _ _ _ _ _ _ PySem.F.plainAttrs_list PySem.F.slot_list_append PySem.F.type_list_append wM (@eu _ 5 _ _ rfl kz aa ae) (@cg _ _ _ _ _ (@tX _ _ _ _ _ (@cg _ _ _ _ _ (@m9 _ _ _ _ _ _ _ (@ue _) (@eu _ 1 _ _ rfl ku aH aI) (@tQ _ _ _ _ _ _ _ _ (@ux _) (@eu _ 7 _ _ rfl kA ka ke) (@eH _ _ _ _)) (fun _ _ => rfl)) (@cg _ _ _ _ _ (@m9 _ _ _ _ _ _ _ (@ue _) (@eu _ 1 _ _ rfl ku aH aI) (@tQ _ _ _ _ _ _ _ _ (@uQ _) (@eu _ 4 _ _ rfl pZ pw pz) (@tQ _ _ _ _ _ _ _ _ (@uZ _) (@eu _ 7 _ _ rfl kA ka ke) (@eH _ _ _ _))) (fun _ _ => rfl)) (@ff _) (ef rfl)) (ef rfl))) (@ff _) (ef rfl)) (by rfl) (by rfl) (by rfl) (by rfl) (by rfl)) (tM rfl)))) (by intro _; rfl)) (@ki _ _ _ (@nt _ _ _ _ (@eu _ 5 _ _ rfl kz aa ae)))))))), ?_⟩
  trivial
  obtain ⟨mv, hmv, m1, m4⟩ : ∃ mv : Nat, [V.int 2, V.int 3, V.int 1, V.int 2, V.int 3, V.int 2, V.int 3, V.int 2, V.int 3, V.int 4, V.int 3][(c % 11).toNat]? = some (.int (mv : Int)) ∧ 1 ≤ mv ∧ mv ≤ 4 := by
    have : c % 11 = 0 ∨ c % 11 = 1 ∨ c % 11 = 2 ∨ c % 11 = 3 ∨ c % 11 = 4 ∨ c % 11 = 5 ∨ c % 11 = 6 ∨ c % 11 = 7 ∨ c % 11 = 8 ∨ c % 11 = 9 ∨ c % 11 = 10 := by omega
    rcases this with e | e | e | e | e | e | e | e | e | e | e <;> rw [e]
    · exact ⟨2, rfl, by decide, by decide⟩
    · exact ⟨3, rfl, by decide, by decide⟩
    · exact ⟨1, rfl, by decide, by decide⟩
    · exact ⟨2, rfl, by decide, by decide⟩
    · exact ⟨3, rfl, by decide, by decide⟩
    · exact ⟨2, rfl, by decide, by decide⟩
    · exact ⟨3, rfl, by decide, by decide⟩
    · exact ⟨2, rfl, by decide, by decide⟩
    · exact ⟨3, rfl, by decide, by decide⟩
    · exact ⟨4, rfl, by decide, by decide⟩
    · exact ⟨3, rfl, by decide, by decide⟩
  obtain ⟨st, hst, s1, s8, st6⟩ : ∃ st : Int, [V.int 1, V.int 2, V.int 4, V.int 5, V.int 7, V.int 8][(c / 11 % 6).toNat]? = some (.int st) ∧ 1 ≤ st ∧ st ≤ 8 ∧ (st = 1 ∨ st = 2 ∨ st = 4 ∨ st = 5 ∨ st = 7 ∨ st = 8) := by
    have : c / 11 % 6 = 0 ∨ c / 11 % 6 = 1 ∨ c / 11 % 6 = 2 ∨ c / 11 % 6 = 3 ∨ c / 11 % 6 = 4 ∨ c / 11 % 6 = 5 := by omega
    rcases this with e | e | e | e | e | e <;> rw [e]
    · exact ⟨1, rfl, by decide, by decide, by decide⟩
    · exact ⟨2, rfl, by decide, by decide, by decide⟩
    · exact ⟨4, rfl, by decide, by decide, by decide⟩
    · exact ⟨5, rfl, by decide, by decide, by decide⟩
    · exact ⟨7, rfl, by decide, by decide, by decide⟩
    · exact ⟨8, rfl, by decide, by decide, by decide⟩
  obtain ⟨sf, hsf, f0, f3⟩ : ∃ sf : Int, [V.int 3, V.int 3, V.int 0][(c / 66 % 3).toNat]? = some (.int sf) ∧ 0 ≤ sf ∧ sf ≤ 3 := by
    have : c / 66 % 3 = 0 ∨ c / 66 % 3 = 1 ∨ c / 66 % 3 = 2 := by omega
    rcases this with e | e | e <;> rw [e]
    · exact ⟨3, rfl, by decide, by decide⟩
    · exact ⟨3, rfl, by decide, by decide⟩
    · exact ⟨0, rfl, by decide, by decide⟩
  refine ⟨by decide, by decide, by omega, _, hmv, by decide, cdiv (by decide) (by decide), by decide, by omega, _, hst, by decide, cdiv (by decide) (by decide), by decide, by omega, _, hsf, by decide, fun l hl => ⟨_, rfl, by omega, by omega, ?_⟩⟩
  rw [Int.toNat_natCast]
  have wat : ∀ j : Nat, j < 7 → ∃ u : List Nat, ws[j]? = some u ∧ nameB u = true := fun j hj => ⟨ws[j]'(by omega), List.getElem?_eq_getElem _, nw _ (List.getElem_mem _)⟩
  obtain ⟨Pv, hP⟩ : ∃ Pv : Nat → St → Hp → Prop, Pv = fun i σ H' => ∃ (xs : List V) (ks : List Kd2) (y6 y7 : Option V), H' l = some (.lst xs) ∧ TpD H' xs (ks.map kRow) ∧ ks.length = i ∧ (∀ k ∈ ks, nameB k.1 = true ∧ nameB k.2 = true) ∧ (∀ (j : Nat) (k : Kd2), ks[j]? = some k → ws[((c / 198 + (j : Int) * st) % 9 % 3).toNat]? = some k.1 ∧ ws[(sf + (c / 198 + (j : Int) * st) % 9 / 3).toNat]? = some k.2) ∧ Same H H' ∧ σ = [some (V.int c), some (V.ref wl), some (V.int mv), some (V.int st), some (V.int sf), some (V.ref l), y6, y7] := ⟨_, rfl⟩
  refine vM Pv ?_ ?_ ?_
  · rw [hP]
    exact ⟨[], [], _, _, ic, .nil, rfl, (fun k hk => by cases hk), (fun j k h => by cases h), p5 hl _, rfl⟩
  · intro i σ H' hi h
    rw [hP] at h
    obtain ⟨xs, ks, y6, y7, dl, td, lks, nk, kk, e, rfl⟩ := h
    trivial
    have p0 := Int.emod_nonneg (c / 198 + (0 + (i : Int)) * st) (show (9 : Int) ≠ 0 by decide)
    have p1 := Int.emod_lt_of_pos (c / 198 + (0 + (i : Int)) * st) (show (0 : Int) < 9 by decide)
    obtain ⟨pl, hpl⟩ : ∃ pl : Int, (c / 198 + (0 + (i : Int)) * st) % 9 = pl := ⟨_, rfl⟩
    have e61 : (100 : Int) ≤ 10 ^ 61 := by decide
    refine ⟨cdiv (by decide) (by decide), vJ (by omega) (by omega) (by omega) (by omega), by decide, ?_⟩
    rw [hpl] at p0 p1 ⊢
    obtain ⟨a1, h1⟩ : ∃ a1 : Nat, pl % 3 = a1 := ⟨(pl % 3).toNat, by omega⟩
    obtain ⟨a2, h2⟩ : ∃ a2 : Nat, sf + pl / 3 = a2 := ⟨(sf + pl / 3).toNat, by omega⟩
    obtain ⟨u1, hu1, n1⟩ := wat a1 (by omega)
    obtain ⟨u2, hu2, n2⟩ := wat a2 (by omega)
    have LW' := e _ _ LW
    have len := td.length
    rw [List.length_map] at len
    refine ⟨.inl ⟨rfl, _, SqL.of dl⟩, by decide, _, SqL.of LW', _, (by rw [h1]; exact uw (by rw [List.getElem?_map, hu1]; rfl)), cdiv (by decide) (by decide), _, SqL.of LW', _, (by rw [h2]; exact uw (by rw [List.getElem?_map, hu2]; rfl)), by decide, fun t ht => ?_⟩
    obtain ⟨H2, g2, S2, T2⟩ : ∃ H2, H2 = upd H' t (.tup (kRow (u1, u2))) ∧ Same H' H2 ∧ H2 t = some (.tup (kRow (u1, u2))) := ⟨_, rfl, p5 ht _, ic⟩
    have g2' : H2 = upd H' t (.tup [V.str (txt u1), V.str (txt u2)]) := g2
    rw [← g2']
    clear g2 g2'
    refine ⟨_, S2 _ _ dl, Nat.lt_of_lt_of_le (m := 64) (by omega) (by decide), ?_⟩
    rw [hP]
    refine ⟨_, ks ++ [(u1, u2)], _, _, ic, ?_, by rw [List.length_append, lks]; rfl, fun k hk => ?_, fun j k h => ?_, uv (e.trans S2) hl _, rfl⟩
    rotate_right
    · rcases z8 h with h | h
      · exact kk j k h.2
      · rw [h.1, h.2, lks, ← Int.zero_add (i : Int), hpl, h1, h2, Int.toNat_natCast, Int.toNat_natCast]
        exact ⟨hu1, hu2⟩
    · rw [List.map_append]
      exact ((td.same S2).snoc T2).upd (S2 _ _ dl)
    · rcases List.mem_append.mp hk with h | h
      · exact nk k h
      · rw [List.mem_singleton.mp h]
        exact ⟨n1, n2⟩
  · intro σ H' h
    rw [hP] at h
    obtain ⟨xs, ks, y6, y7, dl, td, lks, nk, kk, e, rfl⟩ := h
    trivial
    refine q _ _ _ _ e hl dl td (by omega) (by omega) nk fun i j x hi hj => ?_
    have li := (List.getElem?_eq_some_iff.mp hi).1
    have lj := (List.getElem?_eq_some_iff.mp hj).1
    have e1 := dw _ _ _ (kk i x hi).1 (kk j x hj).1
    have e2 := dw _ _ _ (kk i x hi).2 (kk j x hj).2
    rcases st6 with rfl | rfl | rfl | rfl | rfl | rfl <;> omega
end

abbrev okKind (k : Kd2) : Prop := nameB k.1 = true ∧ nameB k.2 = true
theorem AS {cs : List Nat} (h : nameB cs = true) : asc cs ∧ cs.length ≤ 8 := by
  unfold nameB at h
  rw [Bool.and_eq_true, decide_eq_true_iff] at h
  refine ⟨List.all_eq_true.mpr fun c hc => decide_eq_true ?_, h.1.2⟩
  have := List.all_eq_true.mp h.2 c hc
  unfold vU at this
  rw [Bool.and_eq_true, decide_eq_true_iff, decide_eq_true_iff] at this
  omega
theorem wF {K : PySem.W.Frag} {H : Hp} {cs : List Nat} (h : nameB cs = true) : NameV K H (.str (txt cs)) true := by
  have a := AS h
  have := NameV.txt (K := K) (H := H) a.1 (show cs.length ≤ 1000 by omega)
  rwa [h] at this
def kD (k : Kd2) : PyData := .tuple [.str (txt k.1), .str (txt k.2)]
theorem vE {K : PySem.W.Frag} {H : Hp} {p : Addr} {k : Kd2} (h : SqT K H p (kRow k)) : Rep K H (.ref p) (kD k) := .tup h (.cons (.str _) (.cons (.str _) .nil))
theorem vZ {k : Kd2} (h : okKind k) : xG (kD k) := by
  have sk : ∀ {cs : List Nat}, nameB cs = true → PyData.canLay0 (.str (txt cs)) = true := fun {cs} hn => by
    have a := (AS hn).1
    show (txt cs).cps.all (· < 0x110000) = true
    rw [List.all_toArray, List.all_eq_true]
    intro c hc
    have := of_decide_eq_true (List.all_eq_true.mp a c hc)
    exact decide_eq_true (by omega)
  refine ⟨?_, by show max 0 (max 0 0) + 1 ≤ 40; decide⟩
  show (PyData.canLay0 (.str (txt k.1)) && (PyData.canLay0 (.str (txt k.2)) && true)) = true
  rw [sk h.1, sk h.2]
  rfl
theorem zK {a b : List Nat} : (txt a == txt b) = decide (a = b) := by
  by_cases h : a = b
  · subst h
    rw [decide_eq_true rfl]
    exact beq_self_eq_true _
  · rw [decide_eq_false h]
    refine beq_false_of_ne fun e => h ?_
    have := congrArg (fun s : Str => s.cps.toList) e
    simpa using this
theorem xR (k k' : Kd2) : PyData.eqv (kD k) (kD k') = decide (k = k') := by
  obtain ⟨a, b⟩ := k
  obtain ⟨c, d⟩ := k'
  show ((txt a == txt c) && ((txt b == txt d) && true)) = _
  rw [zK, zK]
  by_cases h1 : a = c <;> by_cases h2 : b = d <;> simp [h1, h2]
theorem D8 {K : PySem.W.Frag} {H : Hp} {p q : Addr} {k k' : Kd2} {neg : Bool} {Q : VK} (h1 : SqT K H p (kRow k)) (h2 : SqT K H q (kRow k')) (o1 : okKind k) (o2 : okKind k') (hq : Q (.bl (if neg then !decide (k = k') else decide (k = k'))) H) : G3 K neg (.ref p) (.ref q) H Q :=
  ⟨_, _, vE h1, vE h2, vZ o1, vZ o2, by rw [xR]; exact hq⟩

inductive KnA (K : PySem.W.Frag) (H : Hp) : List V → List Kd2 → Prop
  | nil : KnA K H [] []
  | cons {p : Addr} {k : Kd2} {xs : List V} {ks : List Kd2} : SqT K H p (kRow k) → KnA K H xs ks → KnA K H (.ref p :: xs) (k :: ks)
theorem KnA.same {K : PySem.W.Frag} {H H' : Hp} {xs : List V} {ks : List Kd2} (h : KnA K H xs ks) (e : Same H H') : KnA K H' xs ks := by
  induction h with
  | nil => exact .nil
  | cons a _ ih => exact .cons (Same.tup e a) ih
theorem KnA.length {K : PySem.W.Frag} {H : Hp} {xs : List V} {ks : List Kd2} (h : KnA K H xs ks) : xs.length = ks.length := by
  induction h with
  | nil => rfl
  | cons _ _ ih => rw [List.length_cons, List.length_cons, ih]
theorem KnA.at {K : PySem.W.Frag} {H : Hp} {xs : List V} {ks : List Kd2} (h : KnA K H xs ks) : ∀ {i : Nat} {x : V}, xs[i]? = some x → ∃ p k, x = .ref p ∧ ks[i]? = some k ∧ SqT K H p (kRow k) := by
  induction h with
  | nil => intro i x e; simp at e
  | cons a _ ih =>
    intro i x e
    cases i with
    | zero => cases e; exact ⟨_, _, rfl, rfl, a⟩
    | succ i => exact ih e
theorem KnA.rep {K : PySem.W.Frag} {H : Hp} {xs : List V} {ks : List Kd2} (h : KnA K H xs ks) : RepAll K H xs (ks.map kD) := by
  induction h with
  | nil => exact .nil
  | cons a _ ih => exact .cons (vE a) ih
theorem TpD.kna {K : PySem.W.Frag} {H : Hp} : ∀ {ks : List Kd2} {xs : List V}, TpD H xs (ks.map kRow) → KnA K H xs ks
  | [], _, .nil => .nil
  | k :: ks, _, .cons a t => .cons (SqT.of a) (TpD.kna t)
theorem xN : ∀ {ks : List Kd2}, (∀ k ∈ ks, okKind k) → PyData.canLayAll0 (ks.map kD) = true ∧ PyData.depthAll (ks.map kD) ≤ 1
  | [], _ => ⟨rfl, by decide⟩
  | k :: ks, h => by
    obtain ⟨a, b⟩ := xN fun k' hk => h k' (List.mem_cons_of_mem _ hk)
    have f := vZ (h k (List.mem_cons_self ..))
    refine ⟨?_, ?_⟩
    · show (PyData.canLay0 (kD k) && PyData.canLayAll0 (ks.map kD)) = true
      rw [f.1, a]
      rfl
    · show max (max 0 (max 0 0) + 1) (PyData.depthAll (ks.map kD)) ≤ 1
      omega
theorem A3 (k : Kd2) : ∀ ks : List Kd2, ((ks.map kD).any fun y => PyData.eqv y (kD k)) = decide (k ∈ ks)
  | [] => rfl
  | c :: ks => by
    rw [List.map_cons, List.any_cons, A3 k ks, xR]
    by_cases h : c = k
    · subst h
      simp
    · rw [decide_eq_false h, Bool.false_or]
      by_cases h2 : k ∈ ks
      · rw [decide_eq_true h2, decide_eq_true (List.mem_cons_of_mem _ h2)]
      · rw [decide_eq_false h2, decide_eq_false (by simp only [List.mem_cons, not_or]; exact ⟨fun e => h e.symm, h2⟩)]
theorem DL {K : PySem.W.Frag} {H : Hp} {p l : Addr} {k : Kd2} {xs : List V} {ks : List Kd2} {neg : Bool} {Q : VK} (h1 : SqT K H p (kRow k)) (o1 : okKind k) (L : SqL K H l xs) (A : KnA K H xs ks) (ok : ∀ k ∈ ks, okKind k) (hq : Q (.bl (if neg then !decide (k ∈ ks) else decide (k ∈ ks))) H) : E1 K neg (.ref p) (.ref l) H Q := by
  obtain ⟨f1, f2⟩ := xN ok
  refine ⟨l, kD k, ks.map kD, rfl, vE h1, .inl (.lst L A.rep), vZ o1, ⟨f1, ?_⟩, ?_⟩
  · show PyData.depthAll (ks.map kD) + 1 ≤ 40
    omega
  · rw [A3]
    exact hq

inductive Nt where
  | any
  | made (s : List Nat)
  | used (s : List Nat)
  | chief (s : List Nat)
  | over (a b : Kd2)
  | both (x y : Nt)
  | either (x y : Nt)
  | but (x y : Nt)
def Nt.dp : Nt → Nat
  | .both x y => max x.dp y.dp + 1
  | .either x y => max x.dp y.dp + 1
  | .but x y => max x.dp y.dp + 1
  | _ => 1
def Nt.ok : Nt → Prop
  | .any => True
  | .made s => nameB s = true
  | .used s => nameB s = true
  | .chief s => nameB s = true
  | .over a b => okKind a ∧ okKind b
  | .both x y => x.ok ∧ y.ok
  | .either x y => x.ok ∧ y.ok
  | .but x y => x.ok ∧ y.ok
def Nt.data : Nt → PyData
  | .any => .tuple [.str "any"]
  | .made s => .tuple [.str "made", .str (txt s)]
  | .used s => .tuple [.str "used", .str (txt s)]
  | .chief s => .tuple [.str "chief", .str (txt s)]
  | .over a b => .tuple [.str "over", kD a, kD b]
  | .both x y => .tuple [.str "both", x.data, y.data]
  | .either x y => .tuple [.str "either", x.data, y.data]
  | .but x y => .tuple [.str "but", x.data, y.data]
theorem Nt.dp_pos (n : Nt) : 1 ≤ n.dp := by
  cases n <;> (unfold Nt.dp; omega)
abbrev ud (K : PySem.W.Frag) (H : Hp) (v : V) (n : Nt) : Prop := Rep K H v n.data
theorem AO {K : PySem.W.Frag} {H : Hp} {xs : List V} {ks : List Kd2} {p : Addr} {k : Kd2} (h : KnA K H xs ks) (T : SqT K H p (kRow k)) : KnA K H (xs ++ [.ref p]) (ks ++ [k]) := by
  induction h with
  | nil => exact .cons T .nil
  | cons a _ ih => exact .cons a ih
def xA (K : PySem.W.Frag) : Sp := fun vs H Q _ => ∃ (c : Int) (kl wl : Addr) (kx : List V) (ks : List Kd2) (ws : List (List Nat)), vs = [.int c, .ref kl, .ref wl] ∧ H kl = some (.lst kx) ∧ KnA K H kx ks ∧ 1 ≤ ks.length ∧ ks.length ≤ 4 ∧ (∀ k ∈ ks, okKind k) ∧ H wl = some (.lst (ws.map fun w => V.str (txt w))) ∧ ws.length = 7 ∧ (∀ w ∈ ws, nameB w = true) ∧
  ∀ (p : Addr) (H' : Hp) (n : Nt), Same H H' → ud K H' (.ref p) n → n.ok → n.dp = 1 → Q (.ref p) H'
section
variable {P : Program} {w : World} {K : PySem.W.Frag} {mg : Str → Option Value} {base : Heap} {f : Addr} {fd : FuncData}
theorem AL (F : Fun K "_law_plain" "_law_plain" aN f fd) (M : Mg mg) (aS : Cal P w K mg base CX0 "_law_mix" 1 ["_law_number", "_law_k", "_law_many"] wG) : FnOk P w K mg base CX0 2 f fd ["_law_number", "_law_kinds_here", "_law_words_here"] (xA K) := by
  refine F.ok eD (fun vs H Q E h => ?_) (fun cdv A outer s H vs Q E hr h => ?_)
  · obtain ⟨c, kl, wl, kx, ks, ws, rfl, _⟩ := h
    rfl
  obtain ⟨c, kl, wl, kx, ks, ws, rfl, LK, KA, k1, k4, okk, LW, lw, nw, q⟩ := h
  have lk := KA.length
  refine ⟨_, (@fz _ _ _ _ _ (@tK _ _ 3 _ _ _ _ eD.nd rfl qd (@m8 _ _ _ _ _ _ _ _ _ _ _ aS hr cK (@cg _ _ _ _ _ (@eu _ 0 _ _ rfl fq bh bi) (@cg _ _ _ _ _ (@eH _ _ _ _) (@cg _ _ _ _ _ (@eH _ _ _ _) (@ff _) (ef rfl)) (ef rfl)) (ef rfl)) (by decide) b0 (ef rfl) (ia rfl (ia rfl mj))) (tM rfl) (.inl rfl)) (@fz _ _ _ _ _ (@tK _ _ 4 _ _ _ _ eD.nd rfl qe (@m9 _ _ _ _ _ _ _ (@ue _) (@eu _ 2 _ _ rfl gQ aH aI) (@m8 _ _ _ _ _ _ _ _ _ _ _ aS hr cK (@cg _ _ _ _ _ (@eu _ 0 _ _ rfl fq bh bi) (@cg _ _ _ _ _ (@eH _ _ _ _) (@cg _ _ _ _ _ (@eH _ _ _ _) (@ff _) (ef rfl)) (ef rfl)) (ef rfl)) (by decide) b0 (ef rfl) (ia rfl (ia rfl mj))) (fun _ _ => rfl)) (tM rfl) (.inl rfl)) (@fz _ _ _ _ _ (@tK _ _ 5 _ _ _ _ eD.nd rfl qg (@tQ _ _ _ _ _ _ _ _ (@GY _) (@eu _ 1 _ _ rfl qc aa ae) (@zj _ _ _ _ (@cg _ _ _ _ _ (@tX _ _ _ _ _ (@cg _ _ _ _ _ (@m9 _ _ _ _ _ _ _ (@ue _) (@eu _ 2 _ _ rfl gQ aH aI) (@eH _ _ _ _) (fun _ _ => rfl)) (@cg _ _ _ _ _ (@m9 _ _ _ _ _ _ _ (@ue _) (@eu _ 2 _ _ rfl gQ aH aI) (@eH _ _ _ _) (fun _ _ => rfl)) (@ff _) (ef rfl)) (ef rfl))) (@ff _) (ef rfl)))) (tM rfl) (.inl rfl)) (@fz _ _ _ _ _ (@tL _ _ _ _ _ _ _ _ (@qq _ _ _ _ _ _ _ _ (@xY _) (@eu _ 3 _ _ rfl kB mr mt) (@eH _ _ _ _) (r8 _)) (@ki _ _ _ (@nt _ _ _ _ (@wg _ _ _ _ _ _ _ (@cg _ _ _ _ _ (@tX _ _ _ _ _ (@cg _ _ _ _ _ (@tN _ _ _ _) (@ff _) (ef rfl))) (@cg _ _ _ _ _ (@tX _ _ _ _ _ (@cg _ _ _ _ _ (@tN _ _ _ _) (@cg _ _ _ _ _ (@eu _ 4 _ _ rfl dS ei et) (@ff _) (ef rfl)) (ef rfl))) (@cg _ _ _ _ _ (@tX _ _ _ _ _ (@cg _ _ _ _ _ (@tN _ _ _ _) (@cg _ _ _ _ _ (@eu _ 4 _ _ rfl dS ei et) (@ff _) (ef rfl)) (ef rfl))) (@cg _ _ _ _ _ (@tX _ _ _ _ _ (@cg _ _ _ _ _ (@tN _ _ _ _) (@cg _ _ _ _ _ (@eu _ 4 _ _ rfl dS ei et) (@ff _) (ef rfl)) (ef rfl))) (@cg _ _ _ _ _ (@tX _ _ _ _ _ (@cg _ _ _ _ _ (@tN _ _ _ _) (@cg _ _ _ _ _ (@eu _ 4 _ _ rfl dS ei et) (@ff _) (ef rfl)) (ef rfl))) (@cg _ _ _ _ _ (@tX _ _ _ _ _ (@cg _ _ _ _ _ (@tN _ _ _ _) (@cg _ _ _ _ _ (@eu _ 4 _ _ rfl dS ei et) (@ff _) (ef rfl)) (ef rfl))) (@ff _) (ef rfl)) (ef rfl)) (ef rfl)) (ef rfl)) (ef rfl)) (ef rfl)) (@eu _ 3 _ _ rfl kB mr mt) (fun _ _ => rfl)))) (@tF _)) (@fz _ _ _ _ _ (@tK _ _ 6 _ _ _ _ eD.nd rfl qi (@m9 _ _ _ _ _ _ _ (@ue _) (@eu _ 5 _ _ rfl ft fP fQ) (@m8 _ _ _ _ _ _ _ _ _ _ _ aS hr cK (@cg _ _ _ _ _ (@eu _ 0 _ _ rfl fq bh bi) (@cg _ _ _ _ _ (@eH _ _ _ _) (@cg _ _ _ _ _ (@tH _ _ _ _ _ _ _ _ _ tO i0 M.m_len uo (@cg _ _ _ _ _ (@eu _ 5 _ _ rfl ft fP fQ) (@ff _) (ef rfl)) bg bf (ef rfl) mj) (@ff _) (ef rfl)) (ef rfl)) (ef rfl)) (by decide) b0 (ef rfl) (ia rfl (ia rfl mj))) (fun _ _ => rfl)) (tM rfl) (.inl rfl)) (@ki _ _ _ (@nt _ _ _ _ (@tX _ _ _ _ _ (@cg _ _ _ _ _ (@tN _ _ _ _) (@cg _ _ _ _ _ (@eu _ 6 _ _ rfl qh dy dz) (@cg _ _ _ _ _ (@m9 _ _ _ _ _ _ _ (@ue _) (@eu _ 5 _ _ rfl ft fP fQ) (@m8 _ _ _ _ _ _ _ _ _ _ _ aS hr cK (@cg _ _ _ _ _ (@eu _ 0 _ _ rfl fq bh bi) (@cg _ _ _ _ _ (@eH _ _ _ _) (@cg _ _ _ _ _ (@tH _ _ _ _ _ _ _ _ _ tO i0 M.m_len uo (@cg _ _ _ _ _ (@eu _ 5 _ _ rfl ft fP fQ) (@ff _) (ef rfl)) bg bf (ef rfl) mj) (@ff _) (ef rfl)) (ef rfl)) (ef rfl)) (by decide) b0 (ef rfl) (ia rfl (ia rfl mj))) (fun _ _ => rfl)) (@ff _) (ef rfl)) (ef rfl)) (ef rfl)))))))))), ?_⟩
  trivial
  have i9 := wk c 1 (show (0 : Int) < 9 by decide)
  have i7 := wk c 2 (show (0 : Int) < 7 by decide)
  refine ⟨_, _, _, rfl, by decide, by decide, by decide, _, _, _, rfl, by decide, by decide, by decide, ?_⟩
  obtain ⟨wy, hwy⟩ : ∃ wy : Int, vL c 1 9 = wy := ⟨_, rfl⟩
  rw [hwy] at i9 ⊢
  obtain ⟨j, hj⟩ : ∃ j : Nat, vL c 2 7 = j := ⟨(vL c 2 7).toNat, by omega⟩
  rw [hj] at i7 ⊢
  have wat : ∀ j : Nat, j < 7 → ∃ u : List Nat, (ws.map fun w => V.str (txt w))[j]? = some (V.str (txt u)) ∧ nameB u = true := fun j hj => ⟨ws[j]'(by omega), by rw [List.getElem?_map, List.getElem?_eq_getElem (by omega)]; rfl, nw _ (List.getElem_mem _)⟩
  obtain ⟨nm, hnm, nn⟩ := wat j (by omega)
  obtain ⟨w6, h6, n6⟩ := wat 6 (by decide)
  obtain ⟨w0, h0, n0⟩ := wat 0 (by decide)
  refine ⟨_, _, rfl, SqL.of LW, _, uw hnm, _, SqL.of LW, _, (show atI _ ((6 : Nat) : Int) = some _ from uw h6), _, SqL.of LW, _, (show atI _ ((0 : Nat) : Int) = some _ from uw h0), by decide, fun p hp => ?_⟩
  obtain ⟨H3, g3, S3, T3⟩ := tY (K := K) hp (kRow (w6, w0))
  have g3' : H3 = upd H p (.tup [V.str (txt w6), V.str (txt w0)]) := g3
  rw [← g3']
  clear g3 g3'
  refine ⟨by decide, fun p1 hp1 => ?_⟩
  obtain ⟨H4, g4, S4, L4⟩ : ∃ H4, H4 = upd H3 p1 (.lst [V.ref p]) ∧ Same H3 H4 ∧ H4 p1 = some (.lst [V.ref p]) := ⟨_, rfl, p5 hp1 _, ic⟩
  rw [← g4]
  clear g4
  refine ⟨kl, p1, kx, [V.ref p], rfl, rfl, S4 _ _ (S3 _ _ LK), L4, Nat.le_trans (m := 64) (by show kx.length + 1 ≤ 64; omega) (by decide), fun sl hsl => ?_⟩
  obtain ⟨H5, g5, S5, L5⟩ : ∃ H5, H5 = upd H4 sl (.lst (kx ++ [V.ref p])) ∧ Same H4 H5 ∧ H5 sl = some (.lst (kx ++ [V.ref p])) := ⟨_, rfl, p5 hsl _, ic⟩
  rw [← g5]
  clear g5
  have S05 := S3.trans (S4.trans S5)
  have KA5 : KnA K H5 (kx ++ [V.ref p]) (ks ++ [(w6, w0)]) := AO (KA.same S05) (Same.tup (S4.trans S5) T3)
  have ok5 : ∀ k ∈ ks ++ [(w6, w0)], okKind k := fun k hk => by
    rcases List.mem_append.mp hk with h | h
    · exact okk k h
    · rw [List.mem_singleton.mp h]
      exact ⟨n6, n0⟩
  refine ⟨_, rfl, ?_⟩
  by_cases h6' : wy < 6
  · rw [if_pos h6']
    refine ⟨by decide, fun t0 ht0 => ?_⟩
    obtain ⟨H6, g6, S6, T6⟩ := tY (K := K) ht0 [V.str (Str.ofString "any")]
    rw [← g6]
    clear g6
    refine ⟨by decide, fun t1 ht1 => ?_⟩
    obtain ⟨H7, g7, S7, T7⟩ := tY (K := K) ht1 [V.str (Str.ofString "made"), V.str (txt nm)]
    rw [← g7]
    clear g7
    refine ⟨by decide, fun t2 ht2 => ?_⟩
    obtain ⟨H8, g8, S8, T8⟩ := tY (K := K) ht2 [V.str (Str.ofString "used"), V.str (txt nm)]
    rw [← g8]
    clear g8
    refine ⟨by decide, fun t3 ht3 => ?_⟩
    obtain ⟨H9, g9, S9, T9⟩ := tY (K := K) ht3 [V.str (Str.ofString "chief"), V.str (txt nm)]
    rw [← g9]
    clear g9
    refine ⟨by decide, fun t4 ht4 => ?_⟩
    obtain ⟨H10, g10, S10, T10⟩ := tY (K := K) ht4 [V.str (Str.ofString "made"), V.str (txt nm)]
    rw [← g10]
    clear g10
    refine ⟨by decide, fun t5 ht5 => ?_⟩
    obtain ⟨H11, g11, S11, T11⟩ := tY (K := K) ht5 [V.str (Str.ofString "used"), V.str (txt nm)]
    rw [← g11]
    clear g11
    obtain ⟨i, hi, li⟩ : ∃ i : Nat, wy = i ∧ i < 6 := ⟨wy.toNat, by omega, by omega⟩
    have S511 : Same H5 H11 := S6.trans (S7.trans (S8.trans (S9.trans (S10.trans (S11)))))
    have all : ∀ v ∈ [V.ref t0, V.ref t1, V.ref t2, V.ref t3, V.ref t4, V.ref t5], ∃ (t : Addr) (n : Nt), v = .ref t ∧ ud K H11 (.ref t) n ∧ n.ok ∧ n.dp = 1 := by
      simp only [List.forall_mem_cons]
      exact ⟨⟨_, .any, rfl, .tup (Same.tup (S7.trans (S8.trans (S9.trans (S10.trans (S11))))) T6) (.cons (.str _) .nil), trivial, rfl⟩,
        ⟨_, .made nm, rfl, .tup (Same.tup (S8.trans (S9.trans (S10.trans (S11)))) T7) (.cons (.str _) (.cons (.str _) .nil)), nn, rfl⟩,
        ⟨_, .used nm, rfl, .tup (Same.tup (S9.trans (S10.trans (S11))) T8) (.cons (.str _) (.cons (.str _) .nil)), nn, rfl⟩,
        ⟨_, .chief nm, rfl, .tup (Same.tup (S10.trans (S11)) T9) (.cons (.str _) (.cons (.str _) .nil)), nn, rfl⟩,
        ⟨_, .made nm, rfl, .tup (Same.tup (S11) T10) (.cons (.str _) (.cons (.str _) .nil)), nn, rfl⟩,
        ⟨_, .used nm, rfl, .tup (Same.tup (Same.refl _) T11) (.cons (.str _) (.cons (.str _) .nil)), nn, rfl⟩, fun _ h => by cases h⟩
    obtain ⟨v, hv⟩ : ∃ v, ([V.ref t0, V.ref t1, V.ref t2, V.ref t3, V.ref t4, V.ref t5] : List V)[i]? = some v := ⟨_, List.getElem?_eq_getElem (by show i < 6; omega)⟩
    obtain ⟨t, n, rfl, R, o, d⟩ := all v (List.mem_of_getElem? hv)
    exact ⟨by decide, _, rfl, by omega, _, (by rw [hi, Int.toNat_natCast]; exact hv), q _ _ n (S05.trans S511) R o d⟩
  · rw [if_neg h6']
    have ll : (kx ++ [V.ref p]).length = kx.length + 1 := by rw [List.length_append]; rfl
    have j3 := wk c 3 (show (0 : Int) < ((kx ++ [V.ref p]).length : Int) by omega)
    have j4 := wk c 4 (show (0 : Int) < ((kx ++ [V.ref p]).length : Int) by omega)
    obtain ⟨m3, hm3⟩ : ∃ m : Nat, vL c 3 ((kx ++ [V.ref p]).length : Int) = m := ⟨(vL c 3 ((kx ++ [V.ref p]).length : Int)).toNat, by omega⟩
    obtain ⟨m4, hm4⟩ : ∃ m : Nat, vL c 4 ((kx ++ [V.ref p]).length : Int) = m := ⟨(vL c 4 ((kx ++ [V.ref p]).length : Int)).toNat, by omega⟩
    obtain ⟨x3, hx3⟩ : ∃ x, (kx ++ [V.ref p])[m3]? = some x := ⟨_, List.getElem?_eq_getElem (by omega)⟩
    obtain ⟨x4, hx4⟩ : ∃ x, (kx ++ [V.ref p])[m4]? = some x := ⟨_, List.getElem?_eq_getElem (by omega)⟩
    obtain ⟨a3, c3, rfl, hc3, Tc3⟩ := KA5.at hx3
    obtain ⟨a4, c4, rfl, hc4, Tc4⟩ := KA5.at hx4
    refine ⟨_, rfl, _, .inl (SqL.of L5), _, _, _, rfl, by decide, by decide, by omega, _, rfl, _, _, rfl, SqL.of L5, _, (by rw [hm3]; exact uw hx3), _, rfl, _, .inl (SqL.of L5), _, _, _, rfl, by decide, by decide, by omega, _, rfl, _, _, rfl, SqL.of L5, _, (by rw [hm4]; exact uw hx4), by decide, fun t ht => ?_⟩
    exact q _ _ (.over c3 c4) (S05.trans (p5 ht _)) (.tup (SqT.of ic) (.cons (.str _) (.cons (vE (Same.tup (p5 ht _) Tc3)) (.cons (vE (Same.tup (p5 ht _) Tc4)) .nil)))) ⟨ok5 _ (List.mem_of_getElem? hc3), ok5 _ (List.mem_of_getElem? hc4)⟩ rfl
def yw (K : PySem.W.Frag) (d : Nat) : Sp := fun vs H Q _ => ∃ (c : Int) (kl wl : Addr) (kx : List V) (ks : List Kd2) (ws : List (List Nat)), vs = [.int c, .int (d : Int), .ref kl, .ref wl] ∧ 1 ≤ d ∧ H kl = some (.lst kx) ∧ KnA K H kx ks ∧ 1 ≤ ks.length ∧ ks.length ≤ 4 ∧ (∀ k ∈ ks, okKind k) ∧ H wl = some (.lst (ws.map fun w => V.str (txt w))) ∧ ws.length = 7 ∧ (∀ w ∈ ws, nameB w = true) ∧
  ∀ (p : Addr) (H' : Hp) (n : Nt), Same H H' → ud K H' (.ref p) n → n.ok → n.dp ≤ d → Q (.ref p) H'
theorem DX {d : Nat} (F : Fun K "_law_note" "_law_note" bb f fd) (M : Mg mg) (aS : Cal P w K mg base CX0 "_law_mix" 1 ["_law_number", "_law_k", "_law_many"] wG) (dY : Cal P w K mg base CX0 "_law_plain" 2 ["_law_number", "_law_kinds_here", "_law_words_here"] (xA K))
    (eV : Cal P w K mg base CX0 "_law_note" (3 + d) ["_law_number", "_law_deep", "_law_kinds_here", "_law_words_here"] (yw K d)) : FnOk P w K mg base CX0 (3 + d + 1) f fd ["_law_number", "_law_deep", "_law_kinds_here", "_law_words_here"] (yw K (d + 1)) := by
  refine F.ok gH (fun vs H Q E h => ?_) (fun cdv A outer s H vs Q E hr h => ?_)
  · obtain ⟨c, kl, wl, kx, ks, ws, rfl, _⟩ := h
    rfl
  obtain ⟨c, kl, wl, kx, ks, ws, rfl, d1, LK, KA, k1, k4, okk, LW, lw, nw, q⟩ := h
  refine ⟨_, (@fz _ _ _ _ _ (@tL _ _ _ _ _ _ _ _ (@PW.pt _ _ _ (@uF _ _ _ _ _ _ _ (@qq _ _ _ _ _ _ _ _ (@xY _) (@eu _ 1 _ _ rfl iC ir iu) (@eH _ _ _ _) (r8 _)) (@uU _ _ _ _ (@qq _ _ _ _ _ _ _ _ (@tT _) (@m8 _ _ _ _ _ _ _ _ _ _ _ aS hr da (@cg _ _ _ _ _ (@eu _ 0 _ _ rfl eE bh bi) (@cg _ _ _ _ _ (@eH _ _ _ _) (@cg _ _ _ _ _ (@eH _ _ _ _) (@ff _) (ef rfl)) (ef rfl)) (ef rfl)) (by omega) b0 (ef rfl) (ia rfl (ia rfl mj))) (@eH _ _ _ _) (r8 _))))) (@ki _ _ _ (@nt _ _ _ _ (@m8 _ _ _ _ _ _ _ _ _ _ _ dY hr jG (@cg _ _ _ _ _ (@eu _ 0 _ _ rfl eE bh bi) (@cg _ _ _ _ _ (@eu _ 2 _ _ rfl iD aa ae) (@cg _ _ _ _ _ (@eu _ 3 _ _ rfl iE aH aI) (@ff _) (ef rfl)) (ef rfl)) (ef rfl)) (by omega) pA (ef rfl) (ia rfl (ia rfl mj))))) (@tF _)) (@fz _ _ _ _ _ (@tK _ _ 4 _ _ _ _ gH.nd rfl qQ (@m8 _ _ _ _ _ _ _ _ _ _ _ eV hr fU (@cg _ _ _ _ _ (@m8 _ _ _ _ _ _ _ _ _ _ _ aS hr da (@cg _ _ _ _ _ (@eu _ 0 _ _ rfl eE bh bi) (@cg _ _ _ _ _ (@eH _ _ _ _) (@cg _ _ _ _ _ (@eH _ _ _ _) (@ff _) (ef rfl)) (ef rfl)) (ef rfl)) (by omega) b0 (ef rfl) (ia rfl (ia rfl mj))) (@cg _ _ _ _ _ (@tQ _ _ _ _ _ _ _ _ (@zH _) (@eu _ 1 _ _ rfl iC ir iu) (@eH _ _ _ _)) (@cg _ _ _ _ _ (@eu _ 2 _ _ rfl iD aa ae) (@cg _ _ _ _ _ (@eu _ 3 _ _ rfl iE aH aI) (@ff _) (ef rfl)) (ef rfl)) (ef rfl)) (ef rfl)) (by omega) iw (ef rfl) (ia rfl (ia rfl (ia rfl mj)))) (tM rfl) (.inl rfl)) (@fz _ _ _ _ _ (@tK _ _ 5 _ _ _ _ gH.nd rfl qS (@m8 _ _ _ _ _ _ _ _ _ _ _ eV hr fU (@cg _ _ _ _ _ (@m8 _ _ _ _ _ _ _ _ _ _ _ aS hr da (@cg _ _ _ _ _ (@eu _ 0 _ _ rfl eE bh bi) (@cg _ _ _ _ _ (@eH _ _ _ _) (@cg _ _ _ _ _ (@eH _ _ _ _) (@ff _) (ef rfl)) (ef rfl)) (ef rfl)) (by omega) b0 (ef rfl) (ia rfl (ia rfl mj))) (@cg _ _ _ _ _ (@tQ _ _ _ _ _ _ _ _ (@zH _) (@eu _ 1 _ _ rfl iC ir iu) (@eH _ _ _ _)) (@cg _ _ _ _ _ (@eu _ 2 _ _ rfl iD aa ae) (@cg _ _ _ _ _ (@eu _ 3 _ _ rfl iE aH aI) (@ff _) (ef rfl)) (ef rfl)) (ef rfl)) (ef rfl)) (by omega) iw (ef rfl) (ia rfl (ia rfl (ia rfl mj)))) (tM rfl) (.inl rfl)) (@ki _ _ _ (@nt _ _ _ _ (@tX _ _ _ _ _ (@cg _ _ _ _ _ (@wg _ _ _ _ _ _ _ (@cg _ _ _ _ _ (@tN _ _ _ _) (@cg _ _ _ _ _ (@tN _ _ _ _) (@cg _ _ _ _ _ (@tN _ _ _ _) (@ff _) (ef rfl)) (ef rfl)) (ef rfl)) (@m8 _ _ _ _ _ _ _ _ _ _ _ aS hr da (@cg _ _ _ _ _ (@eu _ 0 _ _ rfl eE bh bi) (@cg _ _ _ _ _ (@eH _ _ _ _) (@cg _ _ _ _ _ (@eH _ _ _ _) (@ff _) (ef rfl)) (ef rfl)) (ef rfl)) (by omega) b0 (ef rfl) (ia rfl (ia rfl mj))) (fun _ _ => rfl)) (@cg _ _ _ _ _ (@eu _ 4 _ _ rfl qP dy dz) (@cg _ _ _ _ _ (@eu _ 5 _ _ rfl qR ck cm) (@ff _) (ef rfl)) (ef rfl)) (ef rfl)))))))), ?_⟩
  trivial
  have plain : xA K [V.int c, V.ref kl, V.ref wl] H Q E0 := ⟨c, kl, wl, kx, ks, ws, rfl, LK, KA, k1, k4, okk, LW, lw, nw, fun p H' n e R o dd => q p H' n e R o (by omega)⟩
  by_cases h2 : ((d + 1 : Nat) : Int) < 2
  · rw [if_pos h2]
    exact plain
  · rw [if_neg h2]
    refine ⟨_, _, _, rfl, by decide, by decide, by decide, rfl, ?_⟩
    by_cases hm : V.int (vL c 5 5) = V.int 0
    · rw [if_pos hm]
      exact plain
    · rw [if_neg hm]
      have ed : ((d + 1 : Nat) : Int) - 1 = (d : Int) := by omega
      rw [ed]
      refine ⟨_, _, _, rfl, by decide, by decide, by decide, _, kl, wl, kx, ks, ws, rfl, by omega, LK, KA, k1, k4, okk, LW, lw, nw, fun p1 H1 x S1 R1 o1 dp1 => ?_⟩
      refine ⟨_, _, _, rfl, by decide, by decide, by decide, _, kl, wl, kx, ks, ws, rfl, by omega, S1 _ _ LK, KA.same S1, k1, k4, okk, S1 _ _ LW, lw, nw, fun p2 H2 y S2 R2 o2 dp2 => ?_⟩
      have i3 := wk c 6 (show (0 : Int) < 3 by decide)
      obtain ⟨j, hj⟩ : ∃ j : Int, vL c 6 3 = j := ⟨_, rfl⟩
      refine ⟨by decide, _, _, _, rfl, by decide, by decide, by decide, _, rfl, i3.1, ?_⟩
      rw [hj] at i3 ⊢
      have R1' := R1.same S2
      have : j = 0 ∨ j = 1 ∨ j = 2 := by omega
      rcases this with e | e | e <;> subst e
      · refine ⟨_, rfl, by decide, fun t ht => q _ _ (.both x y) (S1.trans (S2.trans (p5 ht _))) (.tup (SqT.of ic) (.cons (.str _) (.cons (R1'.same (p5 ht _)) (.cons (R2.same (p5 ht _)) .nil)))) ⟨o1, o2⟩ ?_⟩
        show max x.dp y.dp + 1 ≤ d + 1
        omega
      · refine ⟨_, rfl, by decide, fun t ht => q _ _ (.either x y) (S1.trans (S2.trans (p5 ht _))) (.tup (SqT.of ic) (.cons (.str _) (.cons (R1'.same (p5 ht _)) (.cons (R2.same (p5 ht _)) .nil)))) ⟨o1, o2⟩ ?_⟩
        show max x.dp y.dp + 1 ≤ d + 1
        omega
      · refine ⟨_, rfl, by decide, fun t ht => q _ _ (.but x y) (S1.trans (S2.trans (p5 ht _))) (.tup (SqT.of ic) (.cons (.str _) (.cons (R1'.same (p5 ht _)) (.cons (R2.same (p5 ht _)) .nil)))) ⟨o1, o2⟩ ?_⟩
        show max x.dp y.dp + 1 ≤ d + 1
        omega
theorem yJ (F : Fun K "_law_note" "_law_note" bb f fd) (M : Mg mg) (aS : Cal P w K mg base CX0 "_law_mix" 1 ["_law_number", "_law_k", "_law_many"] wG) (dY : Cal P w K mg base CX0 "_law_plain" 2 ["_law_number", "_law_kinds_here", "_law_words_here"] (xA K))
    (b : Binds K fd ["_law_number", "_law_deep", "_law_kinds_here", "_law_words_here"] []) (kp : PySem.W.keepIn K (.ref f) = true) (m : mg "_law_note" = some (.ref f)) : ∀ d : Nat, FnOk P w K mg base CX0 (3 + d) f fd ["_law_number", "_law_deep", "_law_kinds_here", "_law_words_here"] (yw K d)
  | 0 => by
    refine F.ok gH (fun vs H Q E h => ?_) (fun cdv A outer s H vs Q E hr h => ?_)
    · obtain ⟨c, kl, wl, kx, ks, ws, rfl, _⟩ := h
      rfl
    obtain ⟨c, kl, wl, kx, ks, ws, rfl, d1, _⟩ := h
    exact absurd d1 (by decide)
  | d + 1 => DX F M aS dY ⟨⟨f, fd, yJ F M aS dY b kp m d, b, kp, m⟩⟩
end

structure NC where
  any : Addr
  made : Addr
  used : Addr
  chief : Addr
  over : Addr
  both : Addr
  either : Addr
  but : Addr
def ObjN (K : PySem.W.Frag) (cs : NC) (H : Hp) (a : Addr) : Nt → Prop
  | .any => ∃ dx, H a = some (.ins cs.any dx [])
  | .made s => ∃ dx, H a = some (.ins cs.made dx [("stuff", .str (txt s))])
  | .used s => ∃ dx, H a = some (.ins cs.used dx [("use", .str (txt s))])
  | .chief s => ∃ dx, H a = some (.ins cs.chief dx [("stuff", .str (txt s))])
  | .over k1 k2 => ∃ dx p1 p2, H a = some (.ins cs.over dx [("one", .ref p1), ("other", .ref p2)]) ∧ SqT K H p1 (kRow k1) ∧ SqT K H p2 (kRow k2)
  | .both x y => ∃ dx a1 a2, H a = some (.ins cs.both dx [("one", .ref a1), ("other", .ref a2)]) ∧ ObjN K cs H a1 x ∧ ObjN K cs H a2 y
  | .either x y => ∃ dx a1 a2, H a = some (.ins cs.either dx [("one", .ref a1), ("other", .ref a2)]) ∧ ObjN K cs H a1 x ∧ ObjN K cs H a2 y
  | .but x y => ∃ dx a1 a2, H a = some (.ins cs.but dx [("one", .ref a1), ("other", .ref a2)]) ∧ ObjN K cs H a1 x ∧ ObjN K cs H a2 y
theorem ObjN.same {K : PySem.W.Frag} {cs : NC} {H H' : Hp} (e : Same H H') : ∀ {n : Nt} {a : Addr}, ObjN K cs H a n → ObjN K cs H' a n
  | .any, _, ⟨dx, h⟩ => ⟨dx, e _ _ h⟩
  | .made _, _, ⟨dx, h⟩ => ⟨dx, e _ _ h⟩
  | .used _, _, ⟨dx, h⟩ => ⟨dx, e _ _ h⟩
  | .chief _, _, ⟨dx, h⟩ => ⟨dx, e _ _ h⟩
  | .over _ _, _, ⟨dx, p1, p2, h, t1, t2⟩ => ⟨dx, p1, p2, e _ _ h, Same.tup e t1, Same.tup e t2⟩
  | .both _ _, _, ⟨dx, p1, p2, h, t1, t2⟩ => ⟨dx, p1, p2, e _ _ h, ObjN.same e t1, ObjN.same e t2⟩
  | .either _ _, _, ⟨dx, p1, p2, h, t1, t2⟩ => ⟨dx, p1, p2, e _ _ h, ObjN.same e t1, ObjN.same e t2⟩
  | .but _ _, _, ⟨dx, p1, p2, h, t1, t2⟩ => ⟨dx, p1, p2, e _ _ h, ObjN.same e t1, ObjN.same e t2⟩
def uR (K : PySem.W.Frag) (C : Addr) (fld : Str) : Sp := fun vs H Q _ => ∃ x dx v, vs = [.ref x, v] ∧ H x = some (.ins C dx []) ∧ Q .non (upd H x (.ins C dx [(fld, v)]))
def uD (K : PySem.W.Frag) : Sp := fun vs H Q _ => ∃ x C dx v1 v2, vs = [.ref x, v1, v2] ∧ H x = some (.ins C dx []) ∧ Cls K C ∧ NoAttr K C "one" ∧ NoAttr K C "other" ∧ ∀ H', H' x = some (.ins C dx [("one", v1), ("other", v2)]) → (∀ b, b ≠ x → H' b = H b) → Q .non H'
theorem uE {H H' : Hp} {C x dx : Addr} (hx : H x = none) (hd : H dx = none) (e : ∀ b, b ≠ x → H' b = upd (upd H dx (.own x)) x (.ins C dx []) b) : Same H H' := fun b u q => by
  rw [e b (tU q hx), tP (tU q hx), tP (tU q hd)]
  exact q
theorem make1' {H : Hp} {C x dx : Addr} {fld : Str} {v : V} (hx : H x = none) (hd : H dx = none) : Same H (upd (upd (upd H dx (.own x)) x (.ins C dx [])) x (.ins C dx [(fld, v)])) :=
  fun b u q => by rw [tP (tU q hx), tP (tU q hx), tP (tU q hd)]; exact q
section
variable {P : Program} {w : World} {K : PySem.W.Frag} {mg : Str → Option Value} {base : Heap} {f : Addr} {fd : FuncData} {cs : NC}
theorem AN (F : Fun K "__init__" "Made.__init__" cQ f fd) (M : Mg mg) (cl : Cls K cs.made) (na : NoAttr K cs.made "stuff") : FnOk P w K mg base CX0 1 f fd ["self", "stuff"] (uR K cs.made "stuff") := by
  refine F.ok qT (fun vs H Q E h => ?_) (fun cdv A outer s H vs Q E hr h => ?_)
  · obtain ⟨x, dx, v, rfl, _⟩ := h
    rfl
  obtain ⟨x, dx, v, rfl, hx, q⟩ := h
  refine ⟨_, (@ki _ _ _ (@wJ _ _ _ _ _ _ _ _ (@eu _ 0 _ _ rfl qj bU bV) (@eu _ 1 _ _ rfl qk qI qJ) (tM rfl))), ?_⟩
  trivial
  exact ⟨_, _, _, hx, cl, na, by decide, q⟩
theorem Bd (F : Fun K "__init__" "Used.__init__" cR f fd) (M : Mg mg) (cl : Cls K cs.used) (na : NoAttr K cs.used "use") : FnOk P w K mg base CX0 1 f fd ["self", "use"] (uR K cs.used "use") := by
  refine F.ok qU (fun vs H Q E h => ?_) (fun cdv A outer s H vs Q E hr h => ?_)
  · obtain ⟨x, dx, v, rfl, _⟩ := h
    rfl
  obtain ⟨x, dx, v, rfl, hx, q⟩ := h
  refine ⟨_, (@ki _ _ _ (@wJ _ _ _ _ _ _ _ _ (@eu _ 0 _ _ rfl ql bU bV) (@eu _ 1 _ _ rfl qm tj tm) (tM rfl))), ?_⟩
  trivial
  exact ⟨_, _, _, hx, cl, na, by decide, q⟩
theorem Au (F : Fun K "__init__" "Chief.__init__" cH f fd) (M : Mg mg) (cl : Cls K cs.chief) (na : NoAttr K cs.chief "stuff") : FnOk P w K mg base CX0 1 f fd ["self", "stuff"] (uR K cs.chief "stuff") := by
  refine F.ok qo (fun vs H Q E h => ?_) (fun cdv A outer s H vs Q E hr h => ?_)
  · obtain ⟨x, dx, v, rfl, _⟩ := h
    rfl
  obtain ⟨x, dx, v, rfl, hx, q⟩ := h
  refine ⟨_, (@ki _ _ _ (@wJ _ _ _ _ _ _ _ _ (@eu _ 0 _ _ rfl oF bU bV) (@eu _ 1 _ _ rfl oG qI qJ) (tM rfl))), ?_⟩
  trivial
  exact ⟨_, _, _, hx, cl, na, by decide, q⟩
theorem AY (F : Fun K "__init__" "Over.__init__" cA f fd) (M : Mg mg) : FnOk P w K mg base CX0 1 f fd ["self", "one", "other"] (uD K) := by
  refine F.ok qV (fun vs H Q E h => ?_) (fun cdv A outer s H vs Q E hr h => ?_)
  · obtain ⟨x, C, dx, v1, v2, rfl, _⟩ := h
    rfl
  obtain ⟨x, C, dx, v1, v2, rfl, hx, cl, n1, n2, q⟩ := h
  refine ⟨_, (@fz _ _ _ _ _ (@wJ _ _ _ _ _ _ _ _ (@eu _ 0 _ _ rfl kC bU bV) (@eu _ 1 _ _ rfl qp iy iA) (tM rfl)) (@ki _ _ _ (@wJ _ _ _ _ _ _ _ _ (@eu _ 0 _ _ rfl kC bU bV) (@eu _ 2 _ _ rfl qr fF fG) (tM rfl)))), ?_⟩
  trivial
  exact ⟨_, _, _, hx, cl, n1, by decide, _, _, _, ic, cl, n2, (show 1 < 1000 by decide), q _ ic fun b hb => by rw [tP hb, tP hb]⟩
theorem v9 (F : Fun K "__init__" "OfTwo.__init__" ce f fd) (M : Mg mg) : FnOk P w K mg base CX0 1 f fd ["self", "one", "other"] (uD K) := by
  refine F.ok qt (fun vs H Q E h => ?_) (fun cdv A outer s H vs Q E hr h => ?_)
  · obtain ⟨x, C, dx, v1, v2, rfl, _⟩ := h
    rfl
  obtain ⟨x, C, dx, v1, v2, rfl, hx, cl, n1, n2, q⟩ := h
  refine ⟨_, (@fz _ _ _ _ _ (@wJ _ _ _ _ _ _ _ _ (@eu _ 0 _ _ rfl jH bU bV) (@eu _ 1 _ _ rfl oH iy iA) (tM rfl)) (@ki _ _ _ (@wJ _ _ _ _ _ _ _ _ (@eu _ 0 _ _ rfl jH bU bV) (@eu _ 2 _ _ rfl oI fF fG) (tM rfl)))), ?_⟩
  trivial
  exact ⟨_, _, _, hx, cl, n1, by decide, _, _, _, ic, cl, n2, (show 1 < 1000 by decide), q _ ic fun b hb => by rw [tP hb, tP hb]⟩
end

theorem yx {K : PySem.W.Frag} {H : Hp} {p : Addr} {ds : List PyData} (R : Rep K H (.ref p) (.tuple ds)) : ∃ xs, SqT K H p xs ∧ RepAll K H xs ds := by
  cases R with
  | tup T A => exact ⟨_, T, A⟩
theorem uB {K : PySem.W.Frag} {H : Hp} {xs : List V} {d : PyData} {ds : List PyData} (R : RepAll K H xs (d :: ds)) : ∃ x ys, xs = x :: ys ∧ Rep K H x d ∧ RepAll K H ys ds := by
  cases R with
  | cons a b => exact ⟨_, _, rfl, a, b⟩
theorem yE {K : PySem.W.Frag} {H : Hp} {xs : List V} (R : RepAll K H xs []) : xs = [] := by
  cases R
  rfl
theorem nj {K : PySem.W.Frag} {H : Hp} {x : V} {z : Str} (R : Rep K H x (.str z)) : x = .str z := by
  cases R
  rfl
theorem vc {K : PySem.W.Frag} {H : Hp} {p : Addr} {d : PyData} (R : Rep K H (.ref p) (.tuple [d])) : ∃ x, SqT K H p [x] ∧ Rep K H x d := by
  obtain ⟨xs, T, A⟩ := yx R
  obtain ⟨x, ys, rfl, a, b⟩ := uB A
  rw [yE b] at T
  exact ⟨x, T, a⟩
theorem tS {K : PySem.W.Frag} {H : Hp} {p : Addr} {d e : PyData} (R : Rep K H (.ref p) (.tuple [d, e])) : ∃ x y, SqT K H p [x, y] ∧ Rep K H x d ∧ Rep K H y e := by
  obtain ⟨xs, T, A⟩ := yx R
  obtain ⟨x, ys, rfl, a, b⟩ := uB A
  obtain ⟨y, zs, rfl, c, d⟩ := uB b
  rw [yE d] at T
  exact ⟨x, y, T, a, c⟩
theorem tW {K : PySem.W.Frag} {H : Hp} {p : Addr} {d e g : PyData} (R : Rep K H (.ref p) (.tuple [d, e, g])) : ∃ x y z, SqT K H p [x, y, z] ∧ Rep K H x d ∧ Rep K H y e ∧ Rep K H z g := by
  obtain ⟨xs, T, A⟩ := yx R
  obtain ⟨x, ys, rfl, a, b⟩ := uB A
  obtain ⟨y, zs, rfl, c, d⟩ := uB b
  obtain ⟨z, us, rfl, e, f⟩ := uB d
  rw [yE f] at T
  exact ⟨x, y, z, T, a, c, e⟩
theorem vm {K : PySem.W.Frag} {H : Hp} {v : V} {k : Kd2} (R : Rep K H v (kD k)) : ∃ p, v = .ref p ∧ SqT K H p (kRow k) := by
  unfold kD at R
  cases R with
  | tup T A =>
    obtain ⟨x, ys, rfl, a, b⟩ := uB A
    obtain ⟨y, zs, rfl, c, d⟩ := uB b
    rw [yE d, nj a, nj c] at T
    exact ⟨_, rfl, T⟩
theorem tV {K : PySem.W.Frag} {H : Hp} {v : V} {n : Nt} (R : ud K H v n) : ∃ a, v = .ref a := by
  unfold ud at R
  cases n <;> (unfold Nt.data at R; cases R; exact ⟨_, rfl⟩)
def yP (K : PySem.W.Frag) (cs : NC) : Sp := fun vs H Q _ => ∃ (wd : Str) (s : List Nat) (n : Nt), vs = [.str wd, .str (txt s)] ∧ ((wd = "made" ∧ n = .made s) ∨ (wd = "used" ∧ n = .used s) ∨ (wd = "chief" ∧ n = .chief s)) ∧ ∀ a H', Same H H' → ObjN K cs H' a n → Q (.ref a) H'
def wQ (K : PySem.W.Frag) (cs : NC) : Sp := fun vs H Q _ => ∃ (wd : Str) (a1 a2 : Addr) (x y n : Nt), vs = [.str wd, .ref a1, .ref a2] ∧ ((wd = "both" ∧ n = .both x y) ∨ (wd = "either" ∧ n = .either x y) ∨ (wd = "but" ∧ n = .but x y)) ∧ ObjN K cs H a1 x ∧ ObjN K cs H a2 y ∧ ∀ a H', Same H H' → ObjN K cs H' a n → Q (.ref a) H'
def xy (K : PySem.W.Frag) (cs : NC) : Sp := fun vs H Q _ => ∃ (p : Addr) (n : Nt), vs = [.ref p] ∧ ud K H (.ref p) n ∧ n.ok ∧ n.dp = 1 ∧ ∀ a H', Same H H' → ObjN K cs H' a n → Q (.ref a) H'
def vX (K : PySem.W.Frag) (cs : NC) (d : Nat) : Sp := fun vs H Q _ => ∃ (l : Int) (p : Addr) (n : Nt), vs = [.int l, .ref p] ∧ (d : Int) ≤ l ∧ ud K H (.ref p) n ∧ n.ok ∧ n.dp ≤ d ∧ ∀ a H', Same H H' → ObjN K cs H' a n → Q (.ref a) H'
def yY (K : PySem.W.Frag) (cs : NC) : Sp := fun vs H Q _ => ∃ (p : Addr) (n : Nt), vs = [.ref p] ∧ ud K H (.ref p) n ∧ n.ok ∧ n.dp ≤ 5 ∧ ∀ a H', Same H H' → ObjN K cs H' a n → Q (.ref a) H'
structure TwoC (K : PySem.W.Frag) (C : Addr) : Prop where
  cl : Cls K C
  n1 : NoAttr K C "one"
  n2 : NoAttr K C "other"
section
variable {P : Program} {w : World} {K : PySem.W.Frag} {mg : Str → Option Value} {base : Heap} {f : Addr} {fd : FuncData} {cs : NC}
theorem zh (F : Fun K "note_of_name" "note_of_name" bt f fd) (M : Mg mg) (Z_Made : MkC P w K mg base "Made" cs.made 1 ["self", "stuff"] (uR K cs.made "stuff")) (Z_Used : MkC P w K mg base "Used" cs.used 1 ["self", "use"] (uR K cs.used "use")) (Z_Chief : MkC P w K mg base "Chief" cs.chief 1 ["self", "stuff"] (uR K cs.chief "stuff")) : FnOk P w K mg base CX0 3 f fd ["word", "name"] (yP K cs) := by
  refine F.ok nE (fun vs H Q E h => ?_) (fun cdv A outer s H vs Q E hr h => ?_)
  · obtain ⟨wd, s, n, rfl, _⟩ := h
    rfl
  obtain ⟨wd, s, n, rfl, hw, q⟩ := h
  refine ⟨_, (@fz _ _ _ _ _ (@tL _ _ _ _ _ _ _ _ (@qq _ _ _ _ _ _ _ _ (@tT _) (@eu _ 0 _ _ rfl fH ju jv) (@tN _ _ _ _) (r8 _)) (@ki _ _ _ (@nt _ _ _ _ (@uG _ _ _ _ _ _ _ _ _ _ _ _ Z_Made hr kS (@cg _ _ _ _ _ (@eu _ 1 _ _ rfl fJ ot ou) (@ff _) (ef rfl)) (by decide) rX (ef rfl) mj))) (@tF _)) (@fz _ _ _ _ _ (@tL _ _ _ _ _ _ _ _ (@qq _ _ _ _ _ _ _ _ (@tT _) (@eu _ 0 _ _ rfl fH ju jv) (@tN _ _ _ _) (r8 _)) (@ki _ _ _ (@nt _ _ _ _ (@uG _ _ _ _ _ _ _ _ _ _ _ _ Z_Used hr kT (@cg _ _ _ _ _ (@eu _ 1 _ _ rfl fJ ot ou) (@ff _) (ef rfl)) (by decide) rY (ef rfl) mj))) (@tF _)) (@fz _ _ _ _ _ (@tL _ _ _ _ _ _ _ _ (@qq _ _ _ _ _ _ _ _ (@tT _) (@eu _ 0 _ _ rfl fH ju jv) (@tN _ _ _ _) (r8 _)) (@ki _ _ _ (@nt _ _ _ _ (@uG _ _ _ _ _ _ _ _ _ _ _ _ Z_Chief hr j6 (@cg _ _ _ _ _ (@eu _ 1 _ _ rfl fJ ot ou) (@ff _) (ef rfl)) (by decide) qK (ef rfl) mj))) (@tF _)) (@ki _ _ _ (@xV _ _))))), ?_⟩
  trivial
  rcases hw with ⟨rfl, rfl⟩ | ⟨rfl, rfl⟩ | ⟨rfl, rfl⟩
  · rw [if_pos rfl]
    exact fun x dx hx hd ne => ⟨x, dx, _, rfl, ic, rfl, q _ _ (make1' hx hd) ⟨dx, ic⟩⟩
  · rw [if_neg (by decide), if_pos rfl]
    exact fun x dx hx hd ne => ⟨x, dx, _, rfl, ic, rfl, q _ _ (make1' hx hd) ⟨dx, ic⟩⟩
  · rw [if_neg (by decide), if_neg (by decide), if_pos rfl]
    exact fun x dx hx hd ne => ⟨x, dx, _, rfl, ic, rfl, q _ _ (make1' hx hd) ⟨dx, ic⟩⟩
theorem yU (F : Fun K "note_of_notes" "note_of_notes" aX f fd) (M : Mg mg) (Z_Both : MkC P w K mg base "Both" cs.both 1 ["self", "one", "other"] (uD K)) (Z_Either : MkC P w K mg base "Either" cs.either 1 ["self", "one", "other"] (uD K)) (Z_But : MkC P w K mg base "But" cs.but 1 ["self", "one", "other"] (uD K))
    (t1 : TwoC K cs.both) (t2 : TwoC K cs.either) (t3 : TwoC K cs.but) : FnOk P w K mg base CX0 3 f fd ["word", "one", "other"] (wQ K cs) := by
  refine F.ok mK (fun vs H Q E h => ?_) (fun cdv A outer s H vs Q E hr h => ?_)
  · obtain ⟨wd, a1, a2, x, y, n, rfl, _⟩ := h
    rfl
  obtain ⟨wd, a1, a2, x, y, n, rfl, hw, O1, O2, q⟩ := h
  refine ⟨_, (@fz _ _ _ _ _ (@tL _ _ _ _ _ _ _ _ (@qq _ _ _ _ _ _ _ _ (@tT _) (@eu _ 0 _ _ rfl hG ju jv) (@tN _ _ _ _) (r8 _)) (@ki _ _ _ (@nt _ _ _ _ (@uG _ _ _ _ _ _ _ _ _ _ _ _ Z_Both hr j7 (@cg _ _ _ _ _ (@eu _ 1 _ _ rfl eY iy iA) (@cg _ _ _ _ _ (@eu _ 2 _ _ rfl eZ fF fG) (@ff _) (ef rfl)) (ef rfl)) (by decide) rZ (ef rfl) (ia rfl mj)))) (@tF _)) (@fz _ _ _ _ _ (@tL _ _ _ _ _ _ _ _ (@qq _ _ _ _ _ _ _ _ (@tT _) (@eu _ 0 _ _ rfl hG ju jv) (@tN _ _ _ _) (r8 _)) (@ki _ _ _ (@nt _ _ _ _ (@uG _ _ _ _ _ _ _ _ _ _ _ _ Z_Either hr jl (@cg _ _ _ _ _ (@eu _ 1 _ _ rfl eY iy iA) (@cg _ _ _ _ _ (@eu _ 2 _ _ rfl eZ fF fG) (@ff _) (ef rfl)) (ef rfl)) (by decide) pp (ef rfl) (ia rfl mj)))) (@tF _)) (@ki _ _ _ (@nt _ _ _ _ (@uG _ _ _ _ _ _ _ _ _ _ _ _ Z_But hr kU (@cg _ _ _ _ _ (@eu _ 1 _ _ rfl eY iy iA) (@cg _ _ _ _ _ (@eu _ 2 _ _ rfl eZ fF fG) (@ff _) (ef rfl)) (ef rfl)) (by decide) sC (ef rfl) (ia rfl mj)))))), ?_⟩
  trivial
  rcases hw with ⟨rfl, rfl⟩ | ⟨rfl, rfl⟩ | ⟨rfl, rfl⟩
  · rw [if_pos rfl]
    exact fun x dx hx hd ne => ⟨x, _, dx, _, _, rfl, ic, t1.cl, t1.n1, t1.n2, fun H' h1 h2 => ⟨rfl, q _ _ (uE hx hd h2) ⟨dx, _, _, h1, ObjN.same (uE hx hd h2) O1, ObjN.same (uE hx hd h2) O2⟩⟩⟩
  · rw [if_neg (by decide), if_pos rfl]
    exact fun x dx hx hd ne => ⟨x, _, dx, _, _, rfl, ic, t2.cl, t2.n1, t2.n2, fun H' h1 h2 => ⟨rfl, q _ _ (uE hx hd h2) ⟨dx, _, _, h1, ObjN.same (uE hx hd h2) O1, ObjN.same (uE hx hd h2) O2⟩⟩⟩
  · rw [if_neg (by decide), if_neg (by decide)]
    exact fun x dx hx hd ne => ⟨x, _, dx, _, _, rfl, ic, t3.cl, t3.n1, t3.n2, fun H' h1 h2 => ⟨rfl, q _ _ (uE hx hd h2) ⟨dx, _, _, h1, ObjN.same (uE hx hd h2) O1, ObjN.same (uE hx hd h2) O2⟩⟩⟩
theorem z7 (F : Fun K "note_of_one" "note_of_one" bj f fd) (M : Mg mg) (eL : Cal P w K mg base CX0 "is_name" 1 ["thing"] (xK K)) (ji : Cal P w K mg base CX0 "is_kind" 2 ["thing"] (yW K)) (gF : Cal P w K mg base CX0 "note_of_name" 3 ["word", "name"] (yP K cs))
    (Z_Anything : Mk0 K cs.any) (A_Anything : mg "Anything" = some (.ref cs.any)) (Z_Over : MkC P w K mg base "Over" cs.over 1 ["self", "one", "other"] (uD K)) (t4 : TwoC K cs.over) : FnOk P w K mg base CX0 4 f fd ["told"] (xy K cs) := by
  refine F.ok oJ (fun vs H Q E h => ?_) (fun cdv A outer s H vs Q E hr h => ?_)
  · obtain ⟨p, n, rfl, _⟩ := h
    rfl
  obtain ⟨p, n, rfl, R, ok, dp, q⟩ := h
  refine ⟨_, (@fz _ _ _ _ _ (@tL _ _ _ _ _ _ _ _ (@PW.pt _ _ _ (@vB _ _ _ _ _ _ _ (@qq _ _ _ _ _ _ _ _ (@tT _) (@tH _ _ _ _ _ _ _ _ _ tO fb M.m_len uo (@cg _ _ _ _ _ (@eu _ 0 _ _ rfl aY av aw) (@ff _) (ef rfl)) bg bf (ef rfl) mj) (@eH _ _ _ _) (r8 _)) (@vG _ _ _ _ (@qq _ _ _ _ _ _ _ _ (@tT _) (@m9 _ _ _ _ _ _ _ (@ni _) (@eu _ 0 _ _ rfl aY av aw) (@eH _ _ _ _) (fun _ _ => rfl)) (@tN _ _ _ _) (r8 _))))) (@ki _ _ _ (@nt _ _ _ _ (@A4 _ _ _ _ _ Z_Anything jm A_Anything mw))) (@tF _)) (@fz _ _ _ _ _ (@tL _ _ _ _ _ _ _ _ (@PW.pt _ _ _ (@vB _ _ _ _ _ _ _ (@qq _ _ _ _ _ _ _ _ (@tT _) (@tH _ _ _ _ _ _ _ _ _ tO fb M.m_len uo (@cg _ _ _ _ _ (@eu _ 0 _ _ rfl aY av aw) (@ff _) (ef rfl)) bg bf (ef rfl) mj) (@eH _ _ _ _) (r8 _)) (@vG _ _ _ _ (@ua _ _ _ (@m8 _ _ _ _ _ _ _ _ _ _ _ eL hr jI (@cg _ _ _ _ _ (@m9 _ _ _ _ _ _ _ (@ni _) (@eu _ 0 _ _ rfl aY av aw) (@eH _ _ _ _) (fun _ _ => rfl)) (@ff _) (ef rfl)) (by decide) jZ (ef rfl) mj) (um rfl))))) (@ki _ _ _ (@nt _ _ _ _ (@m8 _ _ _ _ _ _ _ _ _ _ _ gF hr gR (@cg _ _ _ _ _ (@m9 _ _ _ _ _ _ _ (@ni _) (@eu _ 0 _ _ rfl aY av aw) (@eH _ _ _ _) (fun _ _ => rfl)) (@cg _ _ _ _ _ (@m9 _ _ _ _ _ _ _ (@ni _) (@eu _ 0 _ _ rfl aY av aw) (@eH _ _ _ _) (fun _ _ => rfl)) (@ff _) (ef rfl)) (ef rfl)) (by decide) nr (ef rfl) (ia rfl mj)))) (@tF _)) (@fz _ _ _ _ _ (@tL _ _ _ _ _ _ _ _ (@PW.pt _ _ _ (@vB _ _ _ _ _ _ _ (@qq _ _ _ _ _ _ _ _ (@tT _) (@tH _ _ _ _ _ _ _ _ _ tO fb M.m_len uo (@cg _ _ _ _ _ (@eu _ 0 _ _ rfl aY av aw) (@ff _) (ef rfl)) bg bf (ef rfl) mj) (@eH _ _ _ _) (r8 _)) (@vB _ _ _ _ _ _ _ (@qq _ _ _ _ _ _ _ _ (@tT _) (@m9 _ _ _ _ _ _ _ (@ni _) (@eu _ 0 _ _ rfl aY av aw) (@eH _ _ _ _) (fun _ _ => rfl)) (@tN _ _ _ _) (r8 _)) (@vB _ _ _ _ _ _ _ (@ua _ _ _ (@m8 _ _ _ _ _ _ _ _ _ _ _ ji hr fK (@cg _ _ _ _ _ (@m9 _ _ _ _ _ _ _ (@ni _) (@eu _ 0 _ _ rfl aY av aw) (@eH _ _ _ _) (fun _ _ => rfl)) (@ff _) (ef rfl)) (by decide) nu (ef rfl) mj) (um rfl)) (@vG _ _ _ _ (@ua _ _ _ (@m8 _ _ _ _ _ _ _ _ _ _ _ ji hr fK (@cg _ _ _ _ _ (@m9 _ _ _ _ _ _ _ (@ni _) (@eu _ 0 _ _ rfl aY av aw) (@eH _ _ _ _) (fun _ _ => rfl)) (@ff _) (ef rfl)) (by decide) nu (ef rfl) mj) (um rfl))))))) (@ki _ _ _ (@nt _ _ _ _ (@uG _ _ _ _ _ _ _ _ _ _ _ _ Z_Over hr lE (@cg _ _ _ _ _ (@m9 _ _ _ _ _ _ _ (@ni _) (@eu _ 0 _ _ rfl aY av aw) (@eH _ _ _ _) (fun _ _ => rfl)) (@cg _ _ _ _ _ (@m9 _ _ _ _ _ _ _ (@ni _) (@eu _ 0 _ _ rfl aY av aw) (@eH _ _ _ _) (fun _ _ => rfl)) (@ff _) (ef rfl)) (ef rfl)) (by decide) sd (ef rfl) (ia rfl mj)))) (@tF _)) (@ki _ _ _ (@xV _ _))))), ?_⟩
  trivial
  cases n with
  | any =>
    obtain ⟨x, T, a⟩ := vc R
    rw [nj a] at T
    refine ⟨_, .inr T, ?_⟩
    rw [if_pos (by rfl)]
    refine ⟨_, T, _, rfl, rfl, ?_⟩
    rw [if_pos rfl]
    intro x dx hx hd ne
    refine q _ _ (fun b u z => ?_) ⟨dx, ic⟩
    rw [tP (tU z hx), tP (tU z hd)]
    exact z
  | made s =>
    obtain ⟨x, y, T, a, b⟩ := tS R
    rw [nj a, nj b] at T
    refine ⟨_, .inr T, ?_⟩
    rw [if_neg (by simp)]
    refine ⟨_, .inr T, ?_⟩
    rw [if_pos (by simp)]
    refine ⟨_, T, _, rfl, _, true, rfl, wF ok, fun H1 S1 => ⟨_, rfl, ?_⟩⟩
    rw [if_pos rfl]
    exact ⟨_, Same.tup S1 T, _, rfl, _, Same.tup S1 T, _, rfl, _, s, _, rfl, .inl ⟨rfl, rfl⟩, fun a H' e => q a H' (S1.trans e)⟩
  | used s =>
    obtain ⟨x, y, T, a, b⟩ := tS R
    rw [nj a, nj b] at T
    refine ⟨_, .inr T, ?_⟩
    rw [if_neg (by simp)]
    refine ⟨_, .inr T, ?_⟩
    rw [if_pos (by simp)]
    refine ⟨_, T, _, rfl, _, true, rfl, wF ok, fun H1 S1 => ⟨_, rfl, ?_⟩⟩
    rw [if_pos rfl]
    exact ⟨_, Same.tup S1 T, _, rfl, _, Same.tup S1 T, _, rfl, _, s, _, rfl, .inr (.inl ⟨rfl, rfl⟩), fun a H' e => q a H' (S1.trans e)⟩
  | chief s =>
    obtain ⟨x, y, T, a, b⟩ := tS R
    rw [nj a, nj b] at T
    refine ⟨_, .inr T, ?_⟩
    rw [if_neg (by simp)]
    refine ⟨_, .inr T, ?_⟩
    rw [if_pos (by simp)]
    refine ⟨_, T, _, rfl, _, true, rfl, wF ok, fun H1 S1 => ⟨_, rfl, ?_⟩⟩
    rw [if_pos rfl]
    exact ⟨_, Same.tup S1 T, _, rfl, _, Same.tup S1 T, _, rfl, _, s, _, rfl, .inr (.inr ⟨rfl, rfl⟩), fun a H' e => q a H' (S1.trans e)⟩
  | over k1 k2 =>
    obtain ⟨x, y, z, T, a, b, c⟩ := tW R
    rw [nj a] at T
    obtain ⟨p1, rfl, T1⟩ := vm b
    obtain ⟨p2, rfl, T2⟩ := vm c
    obtain ⟨ok1, ok2⟩ := ok
    refine ⟨_, .inr T, ?_⟩
    rw [if_neg (by simp)]
    refine ⟨_, .inr T, ?_⟩
    rw [if_neg (by simp)]
    refine ⟨_, .inr T, ?_⟩
    rw [if_pos (by simp)]
    refine ⟨_, T, _, rfl, rfl, ?_⟩
    rw [if_pos rfl]
    refine ⟨_, T, _, rfl, _, true, rfl, KindV.two T1 (wF ok1.1) (wF ok1.2), fun H1 S1 => ⟨_, rfl, ?_⟩⟩
    rw [if_pos rfl]
    refine ⟨_, Same.tup S1 T, _, rfl, _, true, rfl, KindV.two (Same.tup S1 T2) (wF ok2.1) (wF ok2.2), fun H2 S2 => ⟨_, rfl, ?_⟩⟩
    rw [if_pos rfl]
    have S12 := S1.trans S2
    refine ⟨_, Same.tup S12 T, _, rfl, _, Same.tup S12 T, _, rfl, fun x dx hx hd ne => ⟨x, _, dx, _, _, rfl, ic, t4.cl, t4.n1, t4.n2, fun H' h1 h2 => ⟨rfl, q _ _ (S12.trans (uE hx hd h2)) ⟨dx, _, _, h1, Same.tup (S12.trans (uE hx hd h2)) T1, Same.tup (S12.trans (uE hx hd h2)) T2⟩⟩⟩⟩
  | both x y => exact absurd dp (by have := Nt.dp_pos x; show ¬(max x.dp y.dp + 1 = 1); omega)
  | either x y => exact absurd dp (by have := Nt.dp_pos x; show ¬(max x.dp y.dp + 1 = 1); omega)
  | but x y => exact absurd dp (by have := Nt.dp_pos x; show ¬(max x.dp y.dp + 1 = 1); omega)
theorem By {d : Nat} (F : Fun K "note_within" "note_within" aB f fd) (M : Mg mg) (dh : Cal P w K mg base CX0 "note_of_one" 4 ["told"] (xy K cs)) (cJ : Cal P w K mg base CX0 "note_of_notes" 3 ["word", "one", "other"] (wQ K cs)) (di : Cal P w K mg base CX0 "note_within" (5 + d) ["left", "told"] (vX K cs d)) : FnOk P w K mg base CX0 (5 + d + 1) f fd ["left", "told"] (vX K cs (d + 1)) := by
  refine F.ok eQ (fun vs H Q E h => ?_) (fun cdv A outer s H vs Q E hr h => ?_)
  · obtain ⟨l, p, n, rfl, _⟩ := h
    rfl
  obtain ⟨l, p, n, rfl, hl, R, ok, dp, q⟩ := h
  refine ⟨_, (@fz _ _ _ _ _ (@tL _ _ _ _ _ _ _ _ (@qq _ _ _ _ _ _ _ _ (@tT _) (@eu _ 0 _ _ rfl fV ow oy) (@eH _ _ _ _) (r8 _)) (@ki _ _ _ (@xV _ _)) (@tF _)) (@fz _ _ _ _ _ (@tL _ _ _ _ _ _ _ _ (@PW.pt _ _ _ (@uF _ _ _ _ _ _ _ (@uz _ _ _ _ (@ua _ _ _ (@tH _ _ _ _ _ _ _ _ _ uH eF M.m_isinstance uc (@cg _ _ _ _ _ (@eu _ 1 _ _ rfl bI av aw) (@cg _ _ _ _ _ (@uK _ _ (.ty "tuple") _ _ kW M.m_tuple vS rfl fE fD) (@ff _) (ef rfl)) (ef rfl)) aW aV (ef rfl) (ia rfl mj)) (um rfl))) (@uF _ _ _ _ _ _ _ (@qq _ _ _ _ _ _ _ _ (@tT _) (@tH _ _ _ _ _ _ _ _ _ tO hU M.m_len uo (@cg _ _ _ _ _ (@eu _ 1 _ _ rfl bI av aw) (@ff _) (ef rfl)) bg bf (ef rfl) mj) (@eH _ _ _ _) (r8 _)) (@uU _ _ _ _ (@uz _ _ _ _ (@ua _ _ _ (@tH _ _ _ _ _ _ _ _ _ uH eF M.m_isinstance uc (@cg _ _ _ _ _ (@m9 _ _ _ _ _ _ _ (@ni _) (@eu _ 1 _ _ rfl bI av aw) (@eH _ _ _ _) (fun _ _ => rfl)) (@cg _ _ _ _ _ (@uK _ _ (.ty "str") _ _ ma M.m_str Fy rfl sB sA) (@ff _) (ef rfl)) (ef rfl)) aW aV (ef rfl) (ia rfl mj)) (um rfl))))))) (@ki _ _ _ (@xV _ _)) (@tF _)) (@fz _ _ _ _ _ (@tL _ _ _ _ _ _ _ _ (@PW.pt _ _ _ (@vB _ _ _ _ _ _ _ (@qq _ _ _ _ _ _ _ _ (@tT _) (@tH _ _ _ _ _ _ _ _ _ tO hU M.m_len uo (@cg _ _ _ _ _ (@eu _ 1 _ _ rfl bI av aw) (@ff _) (ef rfl)) bg bf (ef rfl) mj) (@eH _ _ _ _) (r8 _)) (@vG _ _ _ _ (@qq _ _ _ _ _ _ _ _ vW (@m9 _ _ _ _ _ _ _ (@ni _) (@eu _ 1 _ _ rfl bI av aw) (@eH _ _ _ _) (fun _ _ => rfl)) (@tX _ _ _ _ _ (@cg _ _ _ _ _ (@tN _ _ _ _) (@cg _ _ _ _ _ (@tN _ _ _ _) (@cg _ _ _ _ _ (@tN _ _ _ _) (@ff _) (ef rfl)) (ef rfl)) (ef rfl))) (by with_unfolding_all rfl))))) (@fz _ _ _ _ _ (@tK _ _ 2 _ _ _ _ eQ.nd rfl nG (@m8 _ _ _ _ _ _ _ _ _ _ _ di hr d7 (@cg _ _ _ _ _ (@tQ _ _ _ _ _ _ _ _ (@zH _) (@eu _ 0 _ _ rfl fV ow oy) (@eH _ _ _ _)) (@cg _ _ _ _ _ (@m9 _ _ _ _ _ _ _ (@ni _) (@eu _ 1 _ _ rfl bI av aw) (@eH _ _ _ _) (fun _ _ => rfl)) (@ff _) (ef rfl)) (ef rfl)) (by omega) gp (ef rfl) (ia rfl mj)) (tM rfl) (.inl rfl)) (@fz _ _ _ _ _ (@tK _ _ 3 _ _ _ _ eQ.nd rfl nI (@m8 _ _ _ _ _ _ _ _ _ _ _ di hr d7 (@cg _ _ _ _ _ (@tQ _ _ _ _ _ _ _ _ (@zH _) (@eu _ 0 _ _ rfl fV ow oy) (@eH _ _ _ _)) (@cg _ _ _ _ _ (@m9 _ _ _ _ _ _ _ (@ni _) (@eu _ 1 _ _ rfl bI av aw) (@eH _ _ _ _) (fun _ _ => rfl)) (@ff _) (ef rfl)) (ef rfl)) (by omega) gp (ef rfl) (ia rfl mj)) (tM rfl) (.inl rfl)) (@ki _ _ _ (@nt _ _ _ _ (@m8 _ _ _ _ _ _ _ _ _ _ _ cJ hr gK (@cg _ _ _ _ _ (@m9 _ _ _ _ _ _ _ (@ni _) (@eu _ 1 _ _ rfl bI av aw) (@eH _ _ _ _) (fun _ _ => rfl)) (@cg _ _ _ _ _ (@eu _ 2 _ _ rfl nF iy iA) (@cg _ _ _ _ _ (@eu _ 3 _ _ rfl nH fF fG) (@ff _) (ef rfl)) (ef rfl)) (ef rfl)) (by omega) mJ (ef rfl) (ia rfl (ia rfl mj))))))) (@tF _)) (@ki _ _ _ (@nt _ _ _ _ (@m8 _ _ _ _ _ _ _ _ _ _ _ dh hr ig (@cg _ _ _ _ _ (@eu _ 1 _ _ rfl bI av aw) (@ff _) (ef rfl)) (by omega) oz (ef rfl) mj)))))), ?_⟩
  trivial
  have one : n.dp = 1 → ∀ H', Same H H' → xy K cs [V.ref p] H' Q E0 := fun h H' e => ⟨p, n, rfl, R.same e, ok, h, fun a H2 e2 => q a H2 (e.trans e2)⟩
  rw [if_neg (by omega)]
  cases n with
  | any =>
    obtain ⟨x, T, a⟩ := vc R
    rw [nj a] at T
    refine ⟨_, Kd.tup T, ?_⟩
    rw [if_neg (by decide)]
    refine ⟨_, .inr T, ?_⟩
    rw [if_neg (by simp)]
    refine ⟨_, T, _, rfl, _, (show Kd K H (.str _) .str from rfl), ?_⟩
    rw [if_neg (by decide)]
    refine ⟨_, .inr T, ?_⟩
    rw [if_neg (by simp)]
    exact one rfl _ (Same.refl _)
  | made s =>
    obtain ⟨x, y, T, a, b⟩ := tS R
    rw [nj a, nj b] at T
    refine ⟨_, Kd.tup T, ?_⟩
    rw [if_neg (by decide)]
    refine ⟨_, .inr T, ?_⟩
    rw [if_neg (by simp)]
    refine ⟨_, T, _, rfl, _, (show Kd K H (.str _) .str from rfl), ?_⟩
    rw [if_neg (by decide)]
    refine ⟨_, .inr T, ?_⟩
    rw [if_neg (by simp)]
    exact one rfl _ (Same.refl _)
  | used s =>
    obtain ⟨x, y, T, a, b⟩ := tS R
    rw [nj a, nj b] at T
    refine ⟨_, Kd.tup T, ?_⟩
    rw [if_neg (by decide)]
    refine ⟨_, .inr T, ?_⟩
    rw [if_neg (by simp)]
    refine ⟨_, T, _, rfl, _, (show Kd K H (.str _) .str from rfl), ?_⟩
    rw [if_neg (by decide)]
    refine ⟨_, .inr T, ?_⟩
    rw [if_neg (by simp)]
    exact one rfl _ (Same.refl _)
  | chief s =>
    obtain ⟨x, y, T, a, b⟩ := tS R
    rw [nj a, nj b] at T
    refine ⟨_, Kd.tup T, ?_⟩
    rw [if_neg (by decide)]
    refine ⟨_, .inr T, ?_⟩
    rw [if_neg (by simp)]
    refine ⟨_, T, _, rfl, _, (show Kd K H (.str _) .str from rfl), ?_⟩
    rw [if_neg (by decide)]
    refine ⟨_, .inr T, ?_⟩
    rw [if_neg (by simp)]
    exact one rfl _ (Same.refl _)
  | over k1 k2 =>
    obtain ⟨x, y, z, T, a, b, c⟩ := tW R
    rw [nj a] at T
    refine ⟨_, Kd.tup T, ?_⟩
    rw [if_neg (by decide)]
    refine ⟨_, .inr T, ?_⟩
    rw [if_neg (by simp)]
    refine ⟨_, T, _, rfl, _, (show Kd K H (.str _) .str from rfl), ?_⟩
    rw [if_neg (by decide)]
    refine ⟨_, .inr T, ?_⟩
    rw [if_pos (by simp)]
    refine ⟨_, T, _, rfl, by decide, fun p1 hp1 => ?_⟩
    obtain ⟨H1, g1, S1, T1⟩ := tY (K := K) hp1 [V.str (Str.ofString "both"), V.str (Str.ofString "either"), V.str (Str.ofString "but")]
    rw [← g1]
    clear g1
    refine ⟨p1, _, rfl, .inr T1, rfl, rfl, _, rfl, ?_⟩
    rw [if_neg (by decide)]
    exact one rfl _ S1
  | both x y =>
    obtain ⟨x1, v1, v2, T, a, b, c⟩ := tW R
    rw [nj a] at T
    obtain ⟨a1, rfl⟩ := tV b
    obtain ⟨a2, rfl⟩ := tV c
    obtain ⟨ok1, ok2⟩ := ok
    refine ⟨_, Kd.tup T, ?_⟩
    rw [if_neg (by decide)]
    refine ⟨_, .inr T, ?_⟩
    rw [if_neg (by simp)]
    refine ⟨_, T, _, rfl, _, (show Kd K H (.str _) .str from rfl), ?_⟩
    rw [if_neg (by decide)]
    refine ⟨_, .inr T, ?_⟩
    rw [if_pos (by simp)]
    refine ⟨_, T, _, rfl, by decide, fun p1 hp1 => ?_⟩
    obtain ⟨H1, g1, S1, T1⟩ := tY (K := K) hp1 [V.str (Str.ofString "both"), V.str (Str.ofString "either"), V.str (Str.ofString "but")]
    rw [← g1]
    clear g1
    refine ⟨p1, _, rfl, .inr T1, rfl, rfl, _, rfl, ?_⟩
    rw [if_pos (by decide)]
    have dd : max x.dp y.dp + 1 ≤ d + 1 := dp
    refine ⟨_, Same.tup S1 T, _, rfl, _, a1, x, rfl, by omega, b.same S1, ok1, by omega, fun o1 H2 S2 O1 => ?_⟩
    have S12 := S1.trans S2
    refine ⟨_, Same.tup S12 T, _, rfl, _, a2, y, rfl, by omega, c.same S12, ok2, by omega, fun o2 H3 S3 O2 => ?_⟩
    have S13 := S12.trans S3
    exact ⟨_, Same.tup S13 T, _, rfl, _, o1, o2, x, y, _, rfl, (.inl ⟨rfl, rfl⟩), ObjN.same S3 O1, O2, fun a H' e => q a H' (S13.trans e)⟩
  | either x y =>
    obtain ⟨x1, v1, v2, T, a, b, c⟩ := tW R
    rw [nj a] at T
    obtain ⟨a1, rfl⟩ := tV b
    obtain ⟨a2, rfl⟩ := tV c
    obtain ⟨ok1, ok2⟩ := ok
    refine ⟨_, Kd.tup T, ?_⟩
    rw [if_neg (by decide)]
    refine ⟨_, .inr T, ?_⟩
    rw [if_neg (by simp)]
    refine ⟨_, T, _, rfl, _, (show Kd K H (.str _) .str from rfl), ?_⟩
    rw [if_neg (by decide)]
    refine ⟨_, .inr T, ?_⟩
    rw [if_pos (by simp)]
    refine ⟨_, T, _, rfl, by decide, fun p1 hp1 => ?_⟩
    obtain ⟨H1, g1, S1, T1⟩ := tY (K := K) hp1 [V.str (Str.ofString "both"), V.str (Str.ofString "either"), V.str (Str.ofString "but")]
    rw [← g1]
    clear g1
    refine ⟨p1, _, rfl, .inr T1, rfl, rfl, _, rfl, ?_⟩
    rw [if_pos (by decide)]
    have dd : max x.dp y.dp + 1 ≤ d + 1 := dp
    refine ⟨_, Same.tup S1 T, _, rfl, _, a1, x, rfl, by omega, b.same S1, ok1, by omega, fun o1 H2 S2 O1 => ?_⟩
    have S12 := S1.trans S2
    refine ⟨_, Same.tup S12 T, _, rfl, _, a2, y, rfl, by omega, c.same S12, ok2, by omega, fun o2 H3 S3 O2 => ?_⟩
    have S13 := S12.trans S3
    exact ⟨_, Same.tup S13 T, _, rfl, _, o1, o2, x, y, _, rfl, (.inr (.inl ⟨rfl, rfl⟩)), ObjN.same S3 O1, O2, fun a H' e => q a H' (S13.trans e)⟩
  | but x y =>
    obtain ⟨x1, v1, v2, T, a, b, c⟩ := tW R
    rw [nj a] at T
    obtain ⟨a1, rfl⟩ := tV b
    obtain ⟨a2, rfl⟩ := tV c
    obtain ⟨ok1, ok2⟩ := ok
    refine ⟨_, Kd.tup T, ?_⟩
    rw [if_neg (by decide)]
    refine ⟨_, .inr T, ?_⟩
    rw [if_neg (by simp)]
    refine ⟨_, T, _, rfl, _, (show Kd K H (.str _) .str from rfl), ?_⟩
    rw [if_neg (by decide)]
    refine ⟨_, .inr T, ?_⟩
    rw [if_pos (by simp)]
    refine ⟨_, T, _, rfl, by decide, fun p1 hp1 => ?_⟩
    obtain ⟨H1, g1, S1, T1⟩ := tY (K := K) hp1 [V.str (Str.ofString "both"), V.str (Str.ofString "either"), V.str (Str.ofString "but")]
    rw [← g1]
    clear g1
    refine ⟨p1, _, rfl, .inr T1, rfl, rfl, _, rfl, ?_⟩
    rw [if_pos (by decide)]
    have dd : max x.dp y.dp + 1 ≤ d + 1 := dp
    refine ⟨_, Same.tup S1 T, _, rfl, _, a1, x, rfl, by omega, b.same S1, ok1, by omega, fun o1 H2 S2 O1 => ?_⟩
    have S12 := S1.trans S2
    refine ⟨_, Same.tup S12 T, _, rfl, _, a2, y, rfl, by omega, c.same S12, ok2, by omega, fun o2 H3 S3 O2 => ?_⟩
    have S13 := S12.trans S3
    exact ⟨_, Same.tup S13 T, _, rfl, _, o1, o2, x, y, _, rfl, (.inr (.inr ⟨rfl, rfl⟩)), ObjN.same S3 O1, O2, fun a H' e => q a H' (S13.trans e)⟩
theorem xr (F : Fun K "note_within" "note_within" aB f fd) (M : Mg mg) (dh : Cal P w K mg base CX0 "note_of_one" 4 ["told"] (xy K cs)) (cJ : Cal P w K mg base CX0 "note_of_notes" 3 ["word", "one", "other"] (wQ K cs)) (b : Binds K fd ["left", "told"] []) (kp : PySem.W.keepIn K (.ref f) = true) (m : mg "note_within" = some (.ref f)) : ∀ d : Nat, FnOk P w K mg base CX0 (5 + d) f fd ["left", "told"] (vX K cs d)
  | 0 => by
    refine F.ok eQ (fun vs H Q E h => ?_) (fun cdv A outer s H vs Q E hr h => ?_)
    · obtain ⟨l, p, n, rfl, _⟩ := h
      rfl
    obtain ⟨l, p, n, rfl, hl, R, ok, dp, q⟩ := h
    have := Nt.dp_pos n
    omega
  | d + 1 => By F M dh cJ ⟨⟨f, fd, xr F M dh cJ b kp m d, b, kp, m⟩⟩
theorem Cq (F : Fun K "note_of" "note_of" dJ f fd) (M : Mg mg) (di : Cal P w K mg base CX0 "note_within" 10 ["left", "told"] (vX K cs 5)) : FnOk P w K mg base CX0 11 f fd ["told"] (yY K cs) := by
  refine F.ok sw (fun vs H Q E h => ?_) (fun cdv A outer s H vs Q E hr h => ?_)
  · obtain ⟨p, n, rfl, _⟩ := h
    rfl
  obtain ⟨p, n, rfl, R, ok, dp, q⟩ := h
  refine ⟨_, (@ki _ _ _ (@nt _ _ _ _ (@m8 _ _ _ _ _ _ _ _ _ _ _ di hr jJ (@cg _ _ _ _ _ (@eH _ _ _ _) (@cg _ _ _ _ _ (@eu _ 0 _ _ rfl rP av aw) (@ff _) (ef rfl)) (ef rfl)) (by decide) gp (ef rfl) (ia rfl mj)))), ?_⟩
  trivial
  exact ⟨5, p, n, rfl, by decide, R, ok, dp, q⟩
end

structure Ground (K : PySem.W.Frag) (H : Hp) (kl lt : Addr) (ks : List Kd2) (lk : List Int) : Prop where
  kx : ∃ xs, SqL K H kl xs ∧ KnA K H xs ks
  look : SqT K H lt (lk.map V.int)
  len : lk.length = ks.length
  pos : 1 ≤ ks.length
  le : ks.length ≤ 4
  ok : ∀ k ∈ ks, okKind k
  nn : ∀ x ∈ lk, 0 ≤ x
theorem Ground.same {K : PySem.W.Frag} {H H' : Hp} {kl lt : Addr} {ks : List Kd2} {lk : List Int} (G : Ground K H kl lt ks lk) (e : Same H H') : Ground K H' kl lt ks lk :=
  ⟨let ⟨xs, a, b⟩ := G.kx; ⟨xs, e.seq a, b.same e⟩, Same.tup e G.look, G.len, G.pos, G.le, G.ok, G.nn⟩
theorem Ground.at {K : PySem.W.Frag} {H : Hp} {kl lt : Addr} {ks : List Kd2} {lk : List Int} (G : Ground K H kl lt ks lk) {i : Nat} {k : Kd2} (h : ks[i]? = some k) : ∃ x, lk[i]? = some x ∧ atI (lk.map V.int) (i : Int) = some (.int x) ∧ x ∈ lk ∧ 0 ≤ x := by
  have hi := (List.getElem?_eq_some_iff.mp h).1
  have hj : i < lk.length := by rw [G.len]; exact hi
  have e : lk[i]? = some lk[i] := List.getElem?_eq_getElem hj
  have m : lk[i] ∈ lk := List.getElem_mem _
  exact ⟨_, e, uw (by rw [List.getElem?_map, e]; rfl), m, G.nn _ m⟩
def ur (ks : List Kd2) (lk : List Int) (p : Kd2 → Int → Bool) : Bool := (ks.zip lk).any fun q => p q.1 q.2
def wc (ks : List Kd2) (lk : List Int) (p : Kd2 → Int → Bool) (i : Nat) : Bool := ((ks.zip lk).take i).any fun q => p q.1 q.2
theorem zw {ks : List Kd2} {lk : List Int} {p : Kd2 → Int → Bool} {i : Nat} {k : Kd2} {x : Int} (h1 : ks[i]? = some k) (h2 : lk[i]? = some x) : wc ks lk p (i + 1) = (wc ks lk p i || p k x) := by
  unfold wc
  have e : (ks.zip lk)[i]? = some (k, x) := by
    rw [List.getElem?_zip_eq_some]
    exact ⟨h1, h2⟩
  rw [List.take_succ, e, List.any_append]
  simp
theorem Ae {ks : List Kd2} {lk : List Int} {p : Kd2 → Int → Bool} (h : lk.length = ks.length) : wc ks lk p ks.length = ur ks lk p := by
  unfold wc ur
  rw [List.take_of_length_le (by rw [List.length_zip]; omega)]
def uh (ks : List Kd2) (lk : List Int) (p : Kd2 → Int → Bool) : Nat → List V
  | 0 => []
  | i + 1 => uh ks lk p i ++ (match ks[i]?, lk[i]? with | some k, some x => if p k x then [.int (i : Int)] else [] | _, _ => [])
theorem vK {ks : List Kd2} {lk : List Int} {p : Kd2 → Int → Bool} {i : Nat} {k : Kd2} {x : Int} (h1 : ks[i]? = some k) (h2 : lk[i]? = some x) : uh ks lk p (i + 1) = uh ks lk p i ++ if p k x then [.int (i : Int)] else [] := by
  show uh ks lk p i ++ _ = _
  rw [h1, h2]
theorem yL {ks : List Kd2} {lk : List Int} {p : Kd2 → Int → Bool} (h : lk.length = ks.length) : ∀ i, i ≤ ks.length → (uh ks lk p i).isEmpty = !(wc ks lk p i)
  | 0, _ => rfl
  | i + 1, hi => by
    have h1 : ks[i]? = some ks[i] := List.getElem?_eq_getElem (by omega)
    have h2 : lk[i]? = some lk[i] := List.getElem?_eq_getElem (by omega)
    have ih := yL (p := p) h i (by omega)
    rw [vK h1 h2, zw h1 h2]
    cases e : p ks[i] lk[i] with
    | true => simp
    | false => simp [ih]
def vf (lk : List Int) (s : List Nat) (k : Kd2) (x : Int) : Bool := decide (x ≠ 0) && decide (k.1 = s)
def vg (lk : List Int) (s : List Nat) (k : Kd2) (x : Int) : Bool := decide (x ≠ 0) && decide (k.2 = s)
def uC (lk : List Int) (s : List Nat) (k : Kd2) (x : Int) : Bool := decide (∀ y ∈ lk, y ≤ x) && decide (k.1 = s)
def uL (K : PySem.W.Frag) (p : List Int → List Nat → Kd2 → Int → Bool) : Sp := fun vs H Q _ => ∃ (kl lt : Addr) (s : List Nat) (ks : List Kd2) (lk : List Int), vs = [.ref kl, .ref lt, .str (txt s)] ∧ Ground K H kl lt ks lk ∧
  ∀ l xs H', Same H H' → H' l = some (.lst xs) → xs.length ≤ 4 → xs = uh ks lk (p lk s) ks.length → Q (.ref l) H'
def uI (ks : List Kd2) (lk : List Int) (k : Kd2) : Int := (((ks.zip lk).find? fun q => decide (q.1 = k)).map (·.2)).getD 0
def wj (K : PySem.W.Frag) : Sp := fun vs H Q _ => ∃ (kl lt p : Addr) (ks : List Kd2) (lk : List Int) (k : Kd2), vs = [.ref kl, .ref lt, .ref p] ∧ Ground K H kl lt ks lk ∧ SqT K H p (kRow k) ∧ okKind k ∧ ∀ H', Same H H' → Q (.int (uI ks lk k)) H'
def zm (K : PySem.W.Frag) : Sp := fun vs H Q _ => ∃ (kl lt p1 p2 : Addr) (ks : List Kd2) (lk : List Int) (k1 k2 : Kd2), vs = [.ref kl, .ref lt, .ref p1, .ref p2] ∧ Ground K H kl lt ks lk ∧ SqT K H p1 (kRow k1) ∧ okKind k1 ∧ SqT K H p2 (kRow k2) ∧ okKind k2 ∧ ∀ H', Same H H' → Q (.bl (decide (uI ks lk k1 > uI ks lk k2))) H'
theorem E7 {ks : List Kd2} {k : Kd2} (h : k ∈ ks) : ∃ j : Nat, ks[j]? = some k ∧ ∀ (m : Nat) (z : Kd2), m < j → ks[m]? = some z → z ≠ k := by
  induction ks with
  | nil => cases h
  | cons c ks ih =>
    by_cases e : c = k
    · exact ⟨0, by rw [e]; rfl, fun m z hm => absurd hm (by omega)⟩
    · have h' : k ∈ ks := by
        rcases List.mem_cons.mp h with z | z
        · exact absurd z.symm e
        · exact z
      obtain ⟨j, h1, h2⟩ := ih h'
      refine ⟨j + 1, by simpa using h1, fun m z hm hz => ?_⟩
      cases m with
      | zero => simp at hz; rw [← hz]; exact e
      | succ m => exact h2 m z (by omega) (by simpa using hz)
theorem xT {k : Kd2} {x : Int} : ∀ {j : Nat} {ks : List Kd2} {lk : List Int}, ks[j]? = some k → (∀ (m : Nat) (z : Kd2), m < j → ks[m]? = some z → z ≠ k) → lk[j]? = some x → uI ks lk k = x
  | _, [], _, h, _, _ => by simp at h
  | _, _ :: _, [], _, _, h => by simp at h
  | 0, c :: ks, y :: lk, h, _, h2 => by
    simp at h h2
    subst h h2
    unfold uI
    simp
  | j + 1, c :: ks, y :: lk, h, hno, h2 => by
    have e : c ≠ k := hno 0 c (by omega) rfl
    have ih := xT (j := j) (ks := ks) (lk := lk) (k := k) (x := x) (by simpa using h) (fun m z hm hz => hno (m + 1) z (by omega) (by simpa using hz)) (by simpa using h2)
    unfold uI at ih ⊢
    rw [List.zip_cons_cons, List.find?_cons_of_neg (by simpa using e)]
    exact ih
theorem vY {k : Kd2} : ∀ {ks : List Kd2} {lk : List Int}, k ∉ ks → uI ks lk k = 0
  | [], _, _ => rfl
  | _ :: _, [], _ => rfl
  | c :: ks, y :: lk, h => by
    have e : c ≠ k := fun z => h (by rw [z]; exact List.mem_cons_self)
    have ih := vY (ks := ks) (lk := lk) (k := k) fun z => h (List.mem_cons_of_mem _ z)
    unfold uI at ih ⊢
    rw [List.zip_cons_cons, List.find?_cons_of_neg (by simpa using e)]
    exact ih
theorem txtV {a b : List Nat} : V.str (txt a) = V.str (txt b) ↔ a = b := by
  constructor
  · intro e
    have e2 : txt a = txt b := by injection e
    refine of_decide_eq_true ?_
    rw [← zK, e2]
    exact beq_self_eq_true _
  · intro e
    rw [e]
section
variable {P : Program} {w : World} {K : PySem.W.Frag} {mg : Str → Option Value} {base : Heap} {f : Addr} {fd : FuncData}
theorem zM (F : Fun K "made_places" "made_places" cq f fd) (M : Mg mg) : FnOk P w K mg base CX0 1 f fd ["kinds", "look", "stuff"] (uL K vf) := by
  refine F.ok oK (fun vs H Q E h => ?_) (fun cdv A outer s H vs Q E hr h => ?_)
  · obtain ⟨kl, lt, s, ks, lk, rfl, _⟩ := h
    rfl
  obtain ⟨kl, lt, st, ks, lk, rfl, G, q⟩ := h
  obtain ⟨kx, L, A⟩ := G.kx
  have lx := A.length
  refine ⟨_, (@ki _ _ _ (@nt _ _ _ _ (@vt _ _ _ _ _ _ _ _ _ _ _ _ _ _ _ rfl (CompOk.make (N' := ["stuff", "look", "place", "kind"]) (ix := [2, 1]) (nl := 2) (by rfl) (fm1 rfl (fm1 rfl fm0)) (by rfl) (by decide +kernel) rfl (by decide +kernel) rfl (And.intro ⟨rfl, .inl rfl, .inl rfl⟩ (And.intro ⟨rfl, .inl rfl, .inl rfl⟩ True.intro))) (@C9 _ _ _ _ _ (@zc _ _ _ _ _ _ _ _ eW M.m_enumerate (@cg _ _ _ _ _ (@eu _ 0 _ _ rfl i4 aC aD) (@ff _) (ef rfl)) (by rfl)) (@yX _ _ _ _ _ _ _ _ eW M.m_enumerate (@cg _ _ _ _ _ (@eu _ 0 _ _ rfl i4 aC aD) (@ff _) (ef rfl)) (by rfl))) (fun _ _ _ _ _ => (@Aa _ K _ _ 2 _ _ rfl rfl (@vP _ _ _ _ _ (@uu _ _ 2 _ (show List.Nodup (["stuff", "look", "place", "kind"] : List Str) from by decide) rfl (Or.inl rfl) (by first | exact .inl rfl | exact .inr rfl | assumption)) (@vP _ _ _ _ _ (@uu _ _ 3 _ (show List.Nodup (["stuff", "look", "place", "kind"] : List Str) from by decide) rfl (Or.inl rfl) (by first | exact .inl rfl | exact .inr rfl | assumption)) (@zS _) (by rfl)) (by rfl)) (by rfl) (by rfl))) (fun _ _ _ _ _ => (@wo _ _ _ (@PW.pt _ _ _ (@vB _ _ _ _ _ _ _ (@qq _ _ _ _ _ _ _ _ (@vh _) (@m9 _ _ _ _ _ _ _ (wm (K := K) rfl) (@pv _ 1 _ _ (by rfl) (by first | exact Or.inl rfl | exact Or.inr (Or.inl rfl) | exact Or.inr (Or.inr rfl)) (by decide) (by decide)) (@pv _ 2 _ _ (by rfl) (by first | exact Or.inl rfl | exact Or.inr (Or.inl rfl) | exact Or.inr (Or.inr rfl)) (by decide) (by decide)) (fun _ _ => rfl)) (@eH _ _ _ _) (r8 _)) (@vG _ _ _ _ (@qq _ _ _ _ _ _ _ _ (@tT _) (@m9 _ _ _ _ _ _ _ (wm (K := K) rfl) (@pv _ 3 _ _ (by rfl) (by first | exact Or.inl rfl | exact Or.inr (Or.inl rfl) | exact Or.inr (Or.inr rfl)) (by decide) (by decide)) (@eH _ _ _ _) (fun _ _ => rfl)) (@pv _ 0 _ _ (by rfl) (by first | exact Or.inl rfl | exact Or.inr (Or.inl rfl) | exact Or.inr (Or.inr rfl)) (by decide) (by decide)) (r8 _))))))) (fun _ _ _ _ _ => (@pv _ 2 _ _ (by rfl) (by first | exact Or.inl rfl | exact Or.inr (Or.inl rfl) | exact Or.inr (Or.inr rfl)) (by decide) (by decide))) (by intro _; rfl)))), ?_⟩
  trivial
  obtain ⟨Pc, hC⟩ : ∃ Pc : Addr → Nat → St → Hp → Prop, Pc = fun D i τ H' => ∃ y z xs, H' D = some (.lst xs) ∧ xs.length ≤ i ∧ xs = uh ks lk (vf lk st) i ∧ Same H H' ∧ τ = [some (.str (txt st)), some (.ref lt), y, z] := ⟨_, rfl⟩
  refine wV kx (.inl L) _ Pc ?_ (fun D i τ H' hD h => by rw [hC] at h; obtain ⟨y, z, xs, _, _, _, e, _⟩ := h; exact e) ?_ ?_
  · intro D hD
    rw [hC]
    exact ⟨_, _, _, ic, Nat.le_refl _, rfl, p5 hD _, rfl⟩
  · intro D i x T τ H' R' hD hx h hT next
    rw [hC] at h
    obtain ⟨y, z, xs, d1, d3, d4, d2, rfl⟩ := h
    obtain ⟨p, k, rfl, hk, hp⟩ := A.at hx
    obtain ⟨x, e1, e2, m, nn⟩ := G.at hk
    have li := (List.getElem?_eq_some_iff.mp hk).1
    have l4 := G.le
    obtain ⟨H2, g2, S2, T2⟩ := tY (K := K) hT [.int i, .ref p]
    rw [← g2]
    clear g2
    replace d1 := S2 _ _ d1
    replace d2 := d2.trans S2
    trivial
    refine ⟨_, T2, rfl, ?_⟩
    trivial
    refine ⟨_, Same.tup d2 G.look, _, e2, rfl, ?_⟩
    have stp := vK (p := vf lk st) hk e1
    have nx : ∀ (xs' : List V) (H3 : Hp), H3 D = some (.lst xs') → xs'.length ≤ i + 1 → xs' = uh ks lk (vf lk st) (i + 1) → Same H H3 → R' [some (.str (txt st)), some (.ref lt), some (.int i), some (.ref p)] H3 := fun xs' H3 a1 a2 a3 a4 => next _ _ (by rw [hC]; exact ⟨_, _, _, a1, a2, a3, a4, rfl⟩)
    by_cases hz : x = 0
    · rw [if_pos (by rw [hz])]
      exact nx _ _ d1 (by omega) (by rw [stp, d4]; simp [vf, hz]) d2
    · rw [if_neg (fun e => hz (by injection e))]
      refine ⟨_, Same.tup d2 hp, _, rfl, rfl, ?_⟩
      by_cases hs : k.1 = st
      · rw [if_pos (txtV.mpr hs)]
        refine ⟨_, d1, Nat.lt_of_le_of_lt d3 (Nat.lt_of_lt_of_le (m := 64) (by omega) (by decide)), nx _ _ ic (by rw [List.length_append]; simp; omega) (by rw [stp, d4]; simp [vf, hz, hs]) (uv d2 hD _)⟩
      · rw [if_neg fun e => hs (txtV.mp e)]
        exact nx _ _ d1 (by omega) (by rw [stp, d4]; simp [vf, hs]) d2
  · intro D τ H' hD h
    rw [hC] at h
    obtain ⟨y, z, xs, d1, d3, d4, d2, rfl⟩ := h
    have l4 := G.le
    rw [lx] at d3 d4
    exact q _ _ _ d2 d1 (by omega) d4
theorem Ac (F : Fun K "used_places" "used_places" cr f fd) (M : Mg mg) : FnOk P w K mg base CX0 1 f fd ["kinds", "look", "use"] (uL K vg) := by
  refine F.ok oM (fun vs H Q E h => ?_) (fun cdv A outer s H vs Q E hr h => ?_)
  · obtain ⟨kl, lt, s, ks, lk, rfl, _⟩ := h
    rfl
  obtain ⟨kl, lt, st, ks, lk, rfl, G, q⟩ := h
  obtain ⟨kx, L, A⟩ := G.kx
  have lx := A.length
  refine ⟨_, (@ki _ _ _ (@nt _ _ _ _ (@vt _ _ _ _ _ _ _ _ _ _ _ _ _ _ _ rfl (CompOk.make (N' := ["use", "look", "place", "kind"]) (ix := [2, 1]) (nl := 2) (by rfl) (fm1 rfl (fm1 rfl fm0)) (by rfl) (by decide +kernel) rfl (by decide +kernel) rfl (And.intro ⟨rfl, .inl rfl, .inl rfl⟩ (And.intro ⟨rfl, .inl rfl, .inl rfl⟩ True.intro))) (@C9 _ _ _ _ _ (@zc _ _ _ _ _ _ _ _ eX M.m_enumerate (@cg _ _ _ _ _ (@eu _ 0 _ _ rfl i5 aC aD) (@ff _) (ef rfl)) (by rfl)) (@yX _ _ _ _ _ _ _ _ eX M.m_enumerate (@cg _ _ _ _ _ (@eu _ 0 _ _ rfl i5 aC aD) (@ff _) (ef rfl)) (by rfl))) (fun _ _ _ _ _ => (@Aa _ K _ _ 2 _ _ rfl rfl (@vP _ _ _ _ _ (@uu _ _ 2 _ (show List.Nodup (["use", "look", "place", "kind"] : List Str) from by decide) rfl (Or.inl rfl) (by first | exact .inl rfl | exact .inr rfl | assumption)) (@vP _ _ _ _ _ (@uu _ _ 3 _ (show List.Nodup (["use", "look", "place", "kind"] : List Str) from by decide) rfl (Or.inl rfl) (by first | exact .inl rfl | exact .inr rfl | assumption)) (@zS _) (by rfl)) (by rfl)) (by rfl) (by rfl))) (fun _ _ _ _ _ => (@wo _ _ _ (@PW.pt _ _ _ (@vB _ _ _ _ _ _ _ (@qq _ _ _ _ _ _ _ _ (@vh _) (@m9 _ _ _ _ _ _ _ (wm (K := K) rfl) (@pv _ 1 _ _ (by rfl) (by first | exact Or.inl rfl | exact Or.inr (Or.inl rfl) | exact Or.inr (Or.inr rfl)) (by decide) (by decide)) (@pv _ 2 _ _ (by rfl) (by first | exact Or.inl rfl | exact Or.inr (Or.inl rfl) | exact Or.inr (Or.inr rfl)) (by decide) (by decide)) (fun _ _ => rfl)) (@eH _ _ _ _) (r8 _)) (@vG _ _ _ _ (@qq _ _ _ _ _ _ _ _ (@tT _) (@m9 _ _ _ _ _ _ _ (wm (K := K) rfl) (@pv _ 3 _ _ (by rfl) (by first | exact Or.inl rfl | exact Or.inr (Or.inl rfl) | exact Or.inr (Or.inr rfl)) (by decide) (by decide)) (@eH _ _ _ _) (fun _ _ => rfl)) (@pv _ 0 _ _ (by rfl) (by first | exact Or.inl rfl | exact Or.inr (Or.inl rfl) | exact Or.inr (Or.inr rfl)) (by decide) (by decide)) (r8 _))))))) (fun _ _ _ _ _ => (@pv _ 2 _ _ (by rfl) (by first | exact Or.inl rfl | exact Or.inr (Or.inl rfl) | exact Or.inr (Or.inr rfl)) (by decide) (by decide))) (by intro _; rfl)))), ?_⟩
  trivial
  obtain ⟨Pc, hC⟩ : ∃ Pc : Addr → Nat → St → Hp → Prop, Pc = fun D i τ H' => ∃ y z xs, H' D = some (.lst xs) ∧ xs.length ≤ i ∧ xs = uh ks lk (vg lk st) i ∧ Same H H' ∧ τ = [some (.str (txt st)), some (.ref lt), y, z] := ⟨_, rfl⟩
  refine wV kx (.inl L) _ Pc ?_ (fun D i τ H' hD h => by rw [hC] at h; obtain ⟨y, z, xs, _, _, _, e, _⟩ := h; exact e) ?_ ?_
  · intro D hD
    rw [hC]
    exact ⟨_, _, _, ic, Nat.le_refl _, rfl, p5 hD _, rfl⟩
  · intro D i x T τ H' R' hD hx h hT next
    rw [hC] at h
    obtain ⟨y, z, xs, d1, d3, d4, d2, rfl⟩ := h
    obtain ⟨p, k, rfl, hk, hp⟩ := A.at hx
    obtain ⟨x, e1, e2, m, nn⟩ := G.at hk
    have li := (List.getElem?_eq_some_iff.mp hk).1
    have l4 := G.le
    obtain ⟨H2, g2, S2, T2⟩ := tY (K := K) hT [.int i, .ref p]
    rw [← g2]
    clear g2
    replace d1 := S2 _ _ d1
    replace d2 := d2.trans S2
    trivial
    refine ⟨_, T2, rfl, ?_⟩
    trivial
    refine ⟨_, Same.tup d2 G.look, _, e2, rfl, ?_⟩
    have stp := vK (p := vg lk st) hk e1
    have nx : ∀ (xs' : List V) (H3 : Hp), H3 D = some (.lst xs') → xs'.length ≤ i + 1 → xs' = uh ks lk (vg lk st) (i + 1) → Same H H3 → R' [some (.str (txt st)), some (.ref lt), some (.int i), some (.ref p)] H3 := fun xs' H3 a1 a2 a3 a4 => next _ _ (by rw [hC]; exact ⟨_, _, _, a1, a2, a3, a4, rfl⟩)
    by_cases hz : x = 0
    · rw [if_pos (by rw [hz])]
      exact nx _ _ d1 (by omega) (by rw [stp, d4]; simp [vg, hz]) d2
    · rw [if_neg (fun e => hz (by injection e))]
      refine ⟨_, Same.tup d2 hp, _, rfl, rfl, ?_⟩
      by_cases hs : k.2 = st
      · rw [if_pos (txtV.mpr hs)]
        refine ⟨_, d1, Nat.lt_of_le_of_lt d3 (Nat.lt_of_lt_of_le (m := 64) (by omega) (by decide)), nx _ _ ic (by rw [List.length_append]; simp; omega) (by rw [stp, d4]; simp [vg, hz, hs]) (uv d2 hD _)⟩
      · rw [if_neg fun e => hs (txtV.mp e)]
        exact nx _ _ d1 (by omega) (by rw [stp, d4]; simp [vg, hs]) d2
  · intro D τ H' hD h
    rw [hC] at h
    obtain ⟨y, z, xs, d1, d3, d4, d2, rfl⟩ := h
    have l4 := G.le
    rw [lx] at d3 d4
    exact q _ _ _ d2 d1 (by omega) d4
theorem zF (F : Fun K "chief_places" "chief_places" bu f fd) (M : Mg mg) : FnOk P w K mg base CX0 1 f fd ["kinds", "look", "stuff"] (uL K uC) := by
  refine F.ok i6 (fun vs H Q E h => ?_) (fun cdv A outer s H vs Q E hr h => ?_)
  · obtain ⟨kl, lt, s, ks, lk, rfl, _⟩ := h
    rfl
  obtain ⟨kl, lt, st, ks, lk, rfl, G, q⟩ := h
  obtain ⟨kx, L, A⟩ := G.kx
  have lx := A.length
  refine ⟨_, (@fz _ _ _ _ _ (@tK _ _ 3 _ _ _ _ i6.nd rfl mM (@tH _ _ _ _ _ _ _ _ _ (yc rfl) lF M.m_max AD (@cg _ _ _ _ _ (@eu _ 1 _ _ rfl mL aT aU) (@ff _) (ef rfl)) ny nv (ef rfl) mj) (tM rfl) (.inl rfl)) (@ki _ _ _ (@nt _ _ _ _ (@vt _ _ _ _ _ _ _ _ _ _ _ _ _ _ _ rfl (CompOk.make (N' := ["greatest", "stuff", "look", "place", "kind"]) (ix := [3, 2, 1]) (nl := 2) (by rfl) (fm1 rfl (fm1 rfl (fm1 rfl fm0))) (by rfl) (by decide +kernel) rfl (by decide +kernel) rfl (And.intro ⟨rfl, .inl rfl, .inl rfl⟩ (And.intro ⟨rfl, .inl rfl, .inl rfl⟩ (And.intro ⟨rfl, .inl rfl, .inl rfl⟩ True.intro)))) (@C9 _ _ _ _ _ (@zc _ _ _ _ _ _ _ _ eG M.m_enumerate (@cg _ _ _ _ _ (@eu _ 0 _ _ rfl iF aC aD) (@ff _) (ef rfl)) (by rfl)) (@yX _ _ _ _ _ _ _ _ eG M.m_enumerate (@cg _ _ _ _ _ (@eu _ 0 _ _ rfl iF aC aD) (@ff _) (ef rfl)) (by rfl))) (fun _ _ _ _ _ => (@Aa _ K _ _ 2 _ _ rfl rfl (@vP _ _ _ _ _ (@uu _ _ 3 _ (show List.Nodup (["greatest", "stuff", "look", "place", "kind"] : List Str) from by decide) rfl (Or.inl rfl) (by first | exact .inl rfl | exact .inr rfl | assumption)) (@vP _ _ _ _ _ (@uu _ _ 4 _ (show List.Nodup (["greatest", "stuff", "look", "place", "kind"] : List Str) from by decide) rfl (Or.inl rfl) (by first | exact .inl rfl | exact .inr rfl | assumption)) (@zS _) (by rfl)) (by rfl)) (by rfl) (by rfl))) (fun _ _ _ _ _ => (@wo _ _ _ (@PW.pt _ _ _ (@vB _ _ _ _ _ _ _ (@qq _ _ _ _ _ _ _ _ (@tT _) (@m9 _ _ _ _ _ _ _ (wm (K := K) rfl) (@pv _ 2 _ _ (by rfl) (by first | exact Or.inl rfl | exact Or.inr (Or.inl rfl) | exact Or.inr (Or.inr rfl)) (by decide) (by decide)) (@pv _ 3 _ _ (by rfl) (by first | exact Or.inl rfl | exact Or.inr (Or.inl rfl) | exact Or.inr (Or.inr rfl)) (by decide) (by decide)) (fun _ _ => rfl)) (@pv _ 0 _ _ (by rfl) (by first | exact Or.inl rfl | exact Or.inr (Or.inl rfl) | exact Or.inr (Or.inr rfl)) (by decide) (by decide)) (r8 _)) (@vG _ _ _ _ (@qq _ _ _ _ _ _ _ _ (@tT _) (@m9 _ _ _ _ _ _ _ (wm (K := K) rfl) (@pv _ 4 _ _ (by rfl) (by first | exact Or.inl rfl | exact Or.inr (Or.inl rfl) | exact Or.inr (Or.inr rfl)) (by decide) (by decide)) (@eH _ _ _ _) (fun _ _ => rfl)) (@pv _ 1 _ _ (by rfl) (by first | exact Or.inl rfl | exact Or.inr (Or.inl rfl) | exact Or.inr (Or.inr rfl)) (by decide) (by decide)) (r8 _))))))) (fun _ _ _ _ _ => (@pv _ 3 _ _ (by rfl) (by first | exact Or.inl rfl | exact Or.inr (Or.inl rfl) | exact Or.inr (Or.inr rfl)) (by decide) (by decide))) (by intro _; rfl))))), ?_⟩
  trivial
  refine ⟨lk, .inr G.look, by rw [G.len]; exact G.pos, fun mx hm htop => ?_⟩
  obtain ⟨Pc, hC⟩ : ∃ Pc : Addr → Nat → St → Hp → Prop, Pc = fun D i τ H' => ∃ y z xs, H' D = some (.lst xs) ∧ xs.length ≤ i ∧ xs = uh ks lk (uC lk st) i ∧ Same H H' ∧ τ = [some (.int mx), some (.str (txt st)), some (.ref lt), y, z] := ⟨_, rfl⟩
  refine wV kx (.inl L) _ Pc ?_ (fun D i τ H' hD h => by rw [hC] at h; obtain ⟨y, z, xs, _, _, _, e, _⟩ := h; exact e) ?_ ?_
  · intro D hD
    rw [hC]
    exact ⟨_, _, _, ic, Nat.le_refl _, rfl, p5 hD _, rfl⟩
  · intro D i x T τ H' R' hD hx h hT next
    rw [hC] at h
    obtain ⟨y, z, xs, d1, d3, d4, d2, rfl⟩ := h
    obtain ⟨p, k, rfl, hk, hp⟩ := A.at hx
    obtain ⟨x, e1, e2, m, nn⟩ := G.at hk
    have li := (List.getElem?_eq_some_iff.mp hk).1
    have l4 := G.le
    obtain ⟨H2, g2, S2, T2⟩ := tY (K := K) hT [.int i, .ref p]
    rw [← g2]
    clear g2
    replace d1 := S2 _ _ d1
    replace d2 := d2.trans S2
    trivial
    refine ⟨_, T2, rfl, ?_⟩
    trivial
    refine ⟨_, Same.tup d2 G.look, _, e2, rfl, ?_⟩
    have stp := vK (p := uC lk st) hk e1
    have nx : ∀ (xs' : List V) (H3 : Hp), H3 D = some (.lst xs') → xs'.length ≤ i + 1 → xs' = uh ks lk (uC lk st) (i + 1) → Same H H3 → R' [some (.int mx), some (.str (txt st)), some (.ref lt), some (.int i), some (.ref p)] H3 := fun xs' H3 a1 a2 a3 a4 => next _ _ (by rw [hC]; exact ⟨_, _, _, a1, a2, a3, a4, rfl⟩)
    have hz' : x = mx ↔ ∀ y ∈ lk, y ≤ x := ⟨fun e y hy => e ▸ htop y hy, fun h => by
      have a := htop x m
      have b := h mx hm
      omega⟩
    by_cases hz : ¬ ∀ y ∈ lk, y ≤ x
    · rw [if_neg (fun e => hz (hz'.mp (by injection e)))]
      exact nx _ _ d1 (by omega) (by rw [stp, d4]; simp [uC, hz]) d2
    · rw [if_pos (by rw [hz'.mpr (Decidable.not_not.mp hz)])]
      refine ⟨_, Same.tup d2 hp, _, rfl, rfl, ?_⟩
      by_cases hs : k.1 = st
      · rw [if_pos (txtV.mpr hs)]
        refine ⟨_, d1, Nat.lt_of_le_of_lt d3 (Nat.lt_of_lt_of_le (m := 64) (by omega) (by decide)), nx _ _ ic (by rw [List.length_append]; simp; omega) (by rw [stp, show uC lk st k x = true from by unfold uC; rw [decide_eq_true (Decidable.not_not.mp hz), decide_eq_true hs]; rfl, d4]; simp) (uv d2 hD _)⟩
      · rw [if_neg fun e => hs (txtV.mp e)]
        exact nx _ _ d1 (by omega) (by rw [stp, d4]; simp [uC, hs]) d2
  · intro D τ H' hD h
    rw [hC] at h
    obtain ⟨y, z, xs, d1, d3, d4, d2, rfl⟩ := h
    have l4 := G.le
    rw [lx] at d3 d4
    exact q _ _ _ d2 d1 (by omega) d4
theorem Ba (F : Fun K "number_in" "number_in" cB f fd) (M : Mg mg) : FnOk P w K mg base CX0 1 f fd ["kinds", "look", "kind"] (wj K) := by
  refine F.ok qW (fun vs H Q E h => ?_) (fun cdv A outer s H vs Q E hr h => ?_)
  · obtain ⟨kl, lt, p, ks, lk, k, rfl, _⟩ := h
    rfl
  obtain ⟨kl, lt, p, ks, lk, k, rfl, G, hp, ok, q⟩ := h
  obtain ⟨kx, L, A⟩ := G.kx
  have lx := A.length
  refine ⟨_, (@fz _ _ _ _ _ (@tL _ _ _ _ _ _ _ _ (@qq _ _ _ _ _ _ _ _ (DO (EY hr)) (@eu _ 2 _ _ rfl kF se sg) (@eu _ 0 _ _ rfl kE aC aD) (by with_unfolding_all rfl)) (@ki _ _ _ (@nt _ _ _ _ (@eH _ _ _ _))) (@tF _)) (@ki _ _ _ (@nt _ _ _ _ (@m9 _ _ _ _ _ _ _ (@ni _) (@eu _ 1 _ _ rfl qu aT aU) (@AC _ _ _ _ _ _ _ _ _ _ _ _ PySem.F.plainAttrs_list PySem.F.slot_list_index PySem.F.type_list_index (DV (K := K) rfl (EY hr)) (@eu _ 0 _ _ rfl kE aC aD) (@cg _ _ _ _ _ (@eu _ 2 _ _ rfl kF se sg) (@ff _) (ef rfl)) (by rfl) (by rfl) (by rfl) (by rfl) (by rfl)) (fun _ _ => rfl))))), ?_⟩
  trivial
  refine DL hp ok L A G.ok ⟨_, rfl, ?_⟩
  by_cases hk : k ∈ ks
  · rw [if_neg (by simp [hk])]
    refine ⟨.inl ⟨rfl, _, L⟩, ?_⟩
    obtain ⟨j, hj, hno⟩ := E7 hk
    have lj := (List.getElem?_eq_some_iff.mp hj).1
    have l4 := G.le
    obtain ⟨x, e1, e2, _, _⟩ := G.at hj
    obtain ⟨f1, f2⟩ := xN G.ok
    refine ⟨kl, .ref p, kD k, ks.map kD, j, rfl, rfl, by omega, vE hp, .lst L A.rep, vZ ok, ⟨f1, ?_⟩, ⟨kD k, by rw [List.getElem?_map, hj]; rfl, by rw [xR]; exact decide_eq_true rfl⟩, fun m z hm hz => ?_, ?_⟩
    · show PyData.depthAll (ks.map kD) + 1 ≤ 40
      omega
    · rw [List.getElem?_map] at hz
      obtain ⟨z', ez, rfl⟩ := Option.map_eq_some_iff.mp hz
      rw [xR]
      exact decide_eq_false (hno m z' hm ez)
    · refine ⟨_, _, rfl, G.look, _, e2, ?_⟩
      rw [← xT hj hno e1]
      exact q _ (Same.refl _)
  · rw [if_pos (by simp [hk])]
    rw [← vY (lk := lk) hk]
    exact q _ (Same.refl _)
theorem CH (F : Fun K "is_over" "is_over" cI f fd) (M : Mg mg) (gJ : Cal P w K mg base CX0 "number_in" 1 ["kinds", "look", "kind"] (wj K)) : FnOk P w K mg base CX0 2 f fd ["kinds", "look", "one", "other"] (zm K) := by
  refine F.ok sx (fun vs H Q E h => ?_) (fun cdv A outer s H vs Q E hr h => ?_)
  · obtain ⟨kl, lt, p1, p2, ks, lk, k1, k2, rfl, _⟩ := h
    rfl
  obtain ⟨kl, lt, p1, p2, ks, lk, k1, k2, rfl, G, h1, o1, h2, o2, q⟩ := h
  refine ⟨_, (@ki _ _ _ (@nt _ _ _ _ (@uq _ _ _ _ _ _ _ _ (@yz _) (@m8 _ _ _ _ _ _ _ _ _ _ _ gJ hr gm (@cg _ _ _ _ _ (@eu _ 0 _ _ rfl mD aC aD) (@cg _ _ _ _ _ (@eu _ 1 _ _ rfl mE aT aU) (@cg _ _ _ _ _ (@eu _ 2 _ _ rfl rQ iy iA) (@ff _) (ef rfl)) (ef rfl)) (ef rfl)) (by decide) lr (ef rfl) (ia rfl (ia rfl mj))) (@m8 _ _ _ _ _ _ _ _ _ _ _ gJ hr gm (@cg _ _ _ _ _ (@eu _ 0 _ _ rfl mD aC aD) (@cg _ _ _ _ _ (@eu _ 1 _ _ rfl mE aT aU) (@cg _ _ _ _ _ (@eu _ 3 _ _ rfl rR fF fG) (@ff _) (ef rfl)) (ef rfl)) (ef rfl)) (by decide) lr (ef rfl) (ia rfl (ia rfl mj))) (r8 _)))), ?_⟩
  trivial
  refine ⟨_, _, _, ks, lk, k1, rfl, G, h1, o1, fun H1 S1 => ?_⟩
  trivial
  refine ⟨_, _, _, ks, lk, k2, rfl, G.same S1, Same.tup S1 h2, o2, fun H2 S2 => ?_⟩
  trivial
  exact q _ (S1.trans S2)
end

theorem at0 {v : V} {xs : List V} : atI (v :: xs) 0 = some v := (uw (j := 0) rfl : atI (v :: xs) ((0 : Nat) : Int) = some v)
def tG (ks : List Kd2) (lk : List Int) : Nt → Bool
  | .any => true
  | .made s => ur ks lk (vf lk s)
  | .used s => ur ks lk (vg lk s)
  | .chief s => ur ks lk (uC lk s)
  | .over a b => decide (uI ks lk a > uI ks lk b)
  | .both x y => tG ks lk x && tG ks lk y
  | .either x y => tG ks lk x || tG ks lk y
  | .but x y => tG ks lk x && !tG ks lk y
def A5 (K : PySem.W.Frag) : Sp := fun vs H Q _ => ∃ (c : Int) (n : Nat), vs = [.int c, .int (n : Int)] ∧ 1 ≤ n ∧ n ≤ 4 ∧ ∀ p lk H', Same H H' → SqT K H' p ((lk : List Int).map V.int) → lk.length = n → (∀ x ∈ lk, 0 ≤ x) → Q (.ref p) H'
def tZ (lk : List Int) : Nt → Kd2 → Int → Bool
  | .made s => vf lk s
  | .used s => vg lk s
  | .chief s => uC lk s
  | _ => fun _ _ => false
def vQ : Nt → Prop
  | .made _ => True
  | .used _ => True
  | .chief _ => True
  | _ => False
def vR (K : PySem.W.Frag) : Sp := fun vs H Q _ => ∃ (t kl lt : Addr) (i : Nat) (n : Nt) (ks : List Kd2) (lk : List Int) (k : Kd2) (x : Int), vs = [.ref t, .ref kl, .ref lt, .int (i : Int)] ∧ ud K H (.ref t) n ∧ vQ n ∧ Ground K H kl lt ks lk ∧ ks[i]? = some k ∧ lk[i]? = some x ∧ ∀ H', Same H H' → Q (.bl (tZ lk n k x)) H'
def vF (K : PySem.W.Frag) : Sp := fun vs H Q _ => ∃ (t kl lt : Addr) (n : Nt) (ks : List Kd2) (lk : List Int), vs = [.ref t, .ref kl, .ref lt] ∧ ud K H (.ref t) n ∧ n.ok ∧ n.dp = 1 ∧ Ground K H kl lt ks lk ∧ ∀ H', Same H H' → Q (.bl (tG ks lk n)) H'
theorem at1 {u v : V} {xs : List V} : atI (u :: v :: xs) 1 = some v := (uw (j := 1) rfl : atI (u :: v :: xs) ((1 : Nat) : Int) = some v)
theorem at2 {u v x : V} {xs : List V} : atI (u :: v :: x :: xs) 2 = some x := (uw (j := 2) rfl : atI (u :: v :: x :: xs) ((2 : Nat) : Int) = some x)
section
variable {P : Program} {w : World} {K : PySem.W.Frag} {mg : Str → Option Value} {base : Heap} {f : Addr} {fd : FuncData}
theorem As (F : Fun K "_law_weighs" "_law_weighs" bw f fd) (M : Mg mg) : FnOk P w K mg base CX0 1 f fd ["_law_kinds_here", "_law_look_here", "_law_kind"] (wj K) := by
  refine F.ok kG (fun vs H Q E h => ?_) (fun cdv A outer s H vs Q E hr h => ?_)
  · obtain ⟨kl, lt, p, ks, lk, k, rfl, _⟩ := h
    rfl
  obtain ⟨kl, lt, p, ks, lk, k, rfl, G, hp, ok, q⟩ := h
  obtain ⟨kx, L, A⟩ := G.kx
  have lx := A.length
  have l4 := G.le
  refine ⟨_, (@fz _ _ _ _ _ (@yh _ _ _ _ _ _ _ _ PassesOwn.never rfl (@uT _ _ _ _ _ _ lH M.m_range (@cg _ _ _ _ _ (@tH _ _ _ _ _ _ _ _ _ tO mQ M.m_len uo (@cg _ _ _ _ _ (@eu _ 0 _ _ rfl jK aa ae) (@ff _) (ef rfl)) bg bf (ef rfl) mj) (@ff _) (ef rfl)) (star1' rfl)) (@uu _ _ 3 _ kG.nd rfl oQ (.inl rfl)) (@ki _ _ _ (@tL _ _ _ _ _ _ _ _ (@qq _ _ _ _ _ _ _ _ (GS (EY hr)) (@m9 _ _ _ _ _ _ _ (@ue _) (@eu _ 0 _ _ rfl jK aa ae) (@eu _ 3 _ _ rfl jL bG bH) (fun _ _ => rfl)) (@eu _ 2 _ _ rfl oP qL qM) (r8 _)) (@ki _ _ _ (@nt _ _ _ _ (@m9 _ _ _ _ _ _ _ (@ni _) (@eu _ 1 _ _ rfl oO ah ai) (@eu _ 3 _ _ rfl jL bG bH) (fun _ _ => rfl)))) (@tF _))) (by intro _; rfl)) (@ki _ _ _ (@nt _ _ _ _ (@eH _ _ _ _)))), ?_⟩
  trivial
  refine ⟨_, .inl L, by omega, by omega, ?_⟩
  obtain ⟨Pv, hP⟩ : ∃ Pv : Nat → St → Hp → Prop, Pv = fun i σ H' => Same H H' ∧ (∃ y, σ = [some (.ref kl), some (.ref lt), some (.ref p), y]) ∧ ∀ (m : Nat) (z : Kd2), m < i → ks[m]? = some z → z ≠ k := ⟨_, rfl⟩
  refine vM Pv ?_ ?_ ?_
  · rw [hP]
    exact ⟨Same.refl _, ⟨_, rfl⟩, fun m z hm => absurd hm (by omega)⟩
  · intro i σ H' hi h
    rw [hP] at h
    obtain ⟨e, ⟨y, rfl⟩, hno⟩ := h
    have hik : i < ks.length := by omega
    have ek : ks[i]? = some ks[i] := List.getElem?_eq_getElem hik
    obtain ⟨x, e1, e2, m, nn⟩ := G.at ek
    have ex : kx[i]? = some kx[i] := List.getElem?_eq_getElem (by omega)
    obtain ⟨p', k', ep, ek', hp'⟩ := A.at ex
    rw [ek] at ek'
    have ek2 : ks[i] = k' := by injection ek'
    trivial
    refine ⟨_, e.seq L, .ref p', by rw [Int.zero_add, ← ep]; exact uw ex, ?_⟩
    refine D8 (Same.tup e hp') (Same.tup e hp) (ek2 ▸ G.ok _ (List.getElem_mem hik)) ok ⟨_, rfl, ?_⟩
    by_cases hk : k' = k
    · rw [if_pos (by simp [hk])]
      refine ⟨_, Same.tup e G.look, _, by rw [Int.zero_add]; exact e2, ?_⟩
      rw [← xT (k := k) (by rw [ek, ek2, hk]) hno e1]
      exact q _ e
    · rw [if_neg (by simp [hk]), hP]
      refine ⟨e, ⟨_, rfl⟩, fun m z hm hz => ?_⟩
      by_cases hmi : m = i
      · subst hmi
        rw [ek, ek2] at hz
        injection hz with hz
        exact hz ▸ hk
      · exact hno m z (by omega) hz
  · intro σ H' h
    rw [hP] at h
    obtain ⟨e, ⟨y, rfl⟩, hno⟩ := h
    trivial
    have : k ∉ ks := fun hk => by
      obtain ⟨j, hj, _⟩ := List.mem_iff_getElem.mp hk
      exact hno j k (by omega) (by rw [List.getElem?_eq_getElem hj]; congr) rfl
    rw [← vY (lk := lk) this]
    exact q _ e
theorem AQ (F : Fun K "_law_shows" "_law_shows" bA f fd) (M : Mg mg) : FnOk P w K mg base CX0 1 f fd ["_law_told", "_law_kinds_here", "_law_look_here", "_law_k"] (vR K) := by
  refine F.ok iH (fun vs H Q E h => ?_) (fun cdv A outer s H vs Q E hr h => ?_)
  · obtain ⟨t, kl, lt, i, n, ks, lk, k, x, rfl, _⟩ := h
    rfl
  obtain ⟨t, kl, lt, i, n, ks, lk, k, x, rfl, R, on, G, ek, ex, q⟩ := h
  obtain ⟨kx, L, A⟩ := G.kx
  have lx := A.length
  have l4 := G.le
  refine ⟨_, (@fz _ _ _ _ _ (@tK _ _ 4 _ _ _ _ iH.nd rfl kJ (@eH _ _ _ _) (tM rfl) (.inl rfl)) (@fz _ _ _ _ _ (@tL _ _ _ _ _ _ _ _ (@qq _ _ _ _ _ _ _ _ (@tT _) (@m9 _ _ _ _ _ _ _ (@ni _) (@eu _ 0 _ _ rfl gS af ag) (@eH _ _ _ _) (fun _ _ => rfl)) (@tN _ _ _ _) (r8 _)) (@ki _ _ _ (@tK _ _ 4 _ _ _ _ iH.nd rfl kJ (@tH _ _ _ _ _ _ _ _ _ (yc rfl) nJ M.m_max AD (@cg _ _ _ _ _ (@eu _ 2 _ _ rfl kH ah ai) (@ff _) (ef rfl)) ny nv (ef rfl) mj) (tM rfl) (.inl rfl))) (@tF _)) (@ki _ _ _ (@nt _ _ _ _ (@uM _ _ _ _ _ _ _ (@uq _ _ _ _ _ _ _ _ (@Fv _) (@m9 _ _ _ _ _ _ _ (@ni _) (@eu _ 2 _ _ rfl kH ah ai) (@eu _ 3 _ _ rfl kI bG bH) (fun _ _ => rfl)) (@eu _ 4 _ _ rfl qw pB pC) (r8 _)) (@uN _ _ _ _ _ (@uq _ _ _ _ _ _ _ _ (@tT _) (@m9 _ _ _ _ _ _ _ (@ni _) (@m9 _ _ _ _ _ _ _ (@ue _) (@eu _ 1 _ _ rfl qv aa ae) (@eu _ 3 _ _ rfl kI bG bH) (fun _ _ => rfl)) (@u6 _ _ _ _ _ _ _ _ _ yK nK M.m_int AG (@cg _ _ _ _ _ (@uq _ _ _ _ _ _ _ _ (@tT _) (@m9 _ _ _ _ _ _ _ (@ni _) (@eu _ 0 _ _ rfl gS af ag) (@eH _ _ _ _) (fun _ _ => rfl)) (@tN _ _ _ _) (r8 _)) (@ff _) (ef rfl)) nq nh (ef rfl) mj) (fun _ _ => rfl)) (@m9 _ _ _ _ _ _ _ (@ni _) (@eu _ 0 _ _ rfl gS af ag) (@eH _ _ _ _) (fun _ _ => rfl)) (r8 _)))))))), ?_⟩
  trivial
  obtain ⟨x', e1, e2, mm, nn⟩ := G.at ek
  rw [ex] at e1
  injection e1 with e1
  subst e1
  have li := (List.getElem?_eq_some_iff.mp ek).1
  have exx : kx[i]? = some kx[i] := List.getElem?_eq_getElem (by omega)
  obtain ⟨p', k', ep, ek', hp'⟩ := A.at exx
  rw [ek] at ek'
  injection ek' with ek'
  subst ek'
  have akx : atI kx (i : Int) = some (.ref p') := by rw [← ep]; exact uw exx
  cases n with
  | any => exact on.elim
  | made s =>
    obtain ⟨x0, y0, T, r0, r1⟩ := tS R
    cases nj r0
    cases nj r1
    refine ⟨_, T, _, at0, rfl, ?_⟩
    rw [if_neg (by decide)]
    refine ⟨_, G.look, _, e2, _, rfl, ?_⟩
    by_cases hx : 1 ≤ x
    · rw [if_pos hx]
      have e9 : tZ lk (.made s) k x = decide (V.str (txt k.1) = V.str (txt s)) := by
        show (decide (x ≠ 0) && decide (k.1 = s)) = _
        rw [decide_eq_true (show x ≠ 0 by omega), Bool.true_and]
        exact decide_eq_decide.mpr txtV.symm
      refine ⟨_, L, .ref p', akx, _, T, _, at0, rfl, _, rfl, _, hp', .str (txt k.1), by rw [if_neg (by decide)]; exact at0, _, T, _, at1, rfl, ?_⟩
      rw [← e9]
      exact q _ (Same.refl _)
    · rw [if_neg hx]
      have e9 : tZ lk (.made s) k x = false := by
        show (decide (x ≠ 0) && decide (k.1 = s)) = _
        rw [decide_eq_false (show ¬ (x ≠ 0) by omega), Bool.false_and]
      rw [← e9]
      exact q _ (Same.refl _)
  | used s =>
    obtain ⟨x0, y0, T, r0, r1⟩ := tS R
    cases nj r0
    cases nj r1
    refine ⟨_, T, _, at0, rfl, ?_⟩
    rw [if_neg (by decide)]
    refine ⟨_, G.look, _, e2, _, rfl, ?_⟩
    by_cases hx : 1 ≤ x
    · rw [if_pos hx]
      have e9 : tZ lk (.used s) k x = decide (V.str (txt k.2) = V.str (txt s)) := by
        show (decide (x ≠ 0) && decide (k.2 = s)) = _
        rw [decide_eq_true (show x ≠ 0 by omega), Bool.true_and]
        exact decide_eq_decide.mpr txtV.symm
      refine ⟨_, L, .ref p', akx, _, T, _, at0, rfl, _, rfl, _, hp', .str (txt k.2), by rw [if_pos (by decide)]; exact at1, _, T, _, at1, rfl, ?_⟩
      rw [← e9]
      exact q _ (Same.refl _)
    · rw [if_neg hx]
      have e9 : tZ lk (.used s) k x = false := by
        show (decide (x ≠ 0) && decide (k.2 = s)) = _
        rw [decide_eq_false (show ¬ (x ≠ 0) by omega), Bool.false_and]
      rw [← e9]
      exact q _ (Same.refl _)
  | chief s =>
    obtain ⟨x0, y0, T, r0, r1⟩ := tS R
    cases nj r0
    cases nj r1
    refine ⟨_, T, _, at0, rfl, ?_⟩
    rw [if_pos (by decide)]
    refine ⟨lk, .inr G.look, by have := G.len; have := G.pos; omega, fun mx hm htop => ?_⟩
    refine ⟨_, G.look, _, e2, _, rfl, ?_⟩
    by_cases hx : mx ≤ x
    · rw [if_pos hx]
      have e9 : tZ lk (.chief s) k x = decide (V.str (txt k.1) = V.str (txt s)) := by
        show (decide (∀ y ∈ lk, y ≤ x) && decide (k.1 = s)) = _
        rw [decide_eq_true (show ∀ y ∈ lk, y ≤ x from fun y hy => Int.le_trans (htop y hy) hx), Bool.true_and]
        exact decide_eq_decide.mpr txtV.symm
      refine ⟨_, L, .ref p', akx, _, T, _, at0, rfl, _, rfl, _, hp', .str (txt k.1), by rw [if_neg (by decide)]; exact at0, _, T, _, at1, rfl, ?_⟩
      rw [← e9]
      exact q _ (Same.refl _)
    · rw [if_neg hx]
      have e9 : tZ lk (.chief s) k x = false := by
        show (decide (∀ y ∈ lk, y ≤ x) && decide (k.1 = s)) = _
        rw [decide_eq_false (show ¬ ∀ y ∈ lk, y ≤ x from fun h => hx (h mx hm)), Bool.false_and]
      rw [← e9]
      exact q _ (Same.refl _)
  | over a b => exact on.elim
  | both a b => exact on.elim
  | either a b => exact on.elim
  | but a b => exact on.elim
theorem x9 (F : Fun K "_law_plain_claims" "_law_plain_claims" aL f fd) (M : Mg mg) (gi : Cal P w K mg base CX0 "_law_weighs" 1 ["_law_kinds_here", "_law_look_here", "_law_kind"] (wj K)) (bN : Cal P w K mg base CX0 "_law_shows" 1 ["_law_told", "_law_kinds_here", "_law_look_here", "_law_k"] (vR K)) : FnOk P w K mg base CX0 2 f fd ["_law_told", "_law_kinds_here", "_law_look_here"] (vF K) := by
  refine F.ok kX (fun vs H Q E h => ?_) (fun cdv A outer s H vs Q E hr h => ?_)
  · obtain ⟨t, kl, lt, n, ks, lk, rfl, _⟩ := h
    rfl
  obtain ⟨t, kl, lt, n, ks, lk, rfl, R, ok, dp, G, q⟩ := h
  obtain ⟨kx, L, A⟩ := G.kx
  have lx := A.length
  have l4 := G.le
  refine ⟨_, (@fz _ _ _ _ _ (@tL _ _ _ _ _ _ _ _ (@qq _ _ _ _ _ _ _ _ (@tT _) (@m9 _ _ _ _ _ _ _ (@ni _) (@eu _ 0 _ _ rfl cL af ag) (@eH _ _ _ _) (fun _ _ => rfl)) (@tN _ _ _ _) (r8 _)) (@ki _ _ _ (@nt _ _ _ _ (@uA _ _ _ _))) (@tF _)) (@fz _ _ _ _ _ (@tL _ _ _ _ _ _ _ _ (@qq _ _ _ _ _ _ _ _ (@tT _) (@m9 _ _ _ _ _ _ _ (@ni _) (@eu _ 0 _ _ rfl cL af ag) (@eH _ _ _ _) (fun _ _ => rfl)) (@tN _ _ _ _) (r8 _)) (@ki _ _ _ (@nt _ _ _ _ (@uq _ _ _ _ _ _ _ _ (@yz _) (@m8 _ _ _ _ _ _ _ _ _ _ _ gi hr dv (@cg _ _ _ _ _ (@eu _ 1 _ _ rfl dO aa ae) (@cg _ _ _ _ _ (@eu _ 2 _ _ rfl fW ah ai) (@cg _ _ _ _ _ (@m9 _ _ _ _ _ _ _ (@ni _) (@eu _ 0 _ _ rfl cL af ag) (@eH _ _ _ _) (fun _ _ => rfl)) (@ff _) (ef rfl)) (ef rfl)) (ef rfl)) (by decide) jx (ef rfl) (ia rfl (ia rfl mj))) (@m8 _ _ _ _ _ _ _ _ _ _ _ gi hr dv (@cg _ _ _ _ _ (@eu _ 1 _ _ rfl dO aa ae) (@cg _ _ _ _ _ (@eu _ 2 _ _ rfl fW ah ai) (@cg _ _ _ _ _ (@m9 _ _ _ _ _ _ _ (@ni _) (@eu _ 0 _ _ rfl cL af ag) (@eH _ _ _ _) (fun _ _ => rfl)) (@ff _) (ef rfl)) (ef rfl)) (ef rfl)) (by decide) jx (ef rfl) (ia rfl (ia rfl mj))) (r8 _)))) (@tF _)) (@ki _ _ _ (@nt _ _ _ _ (@uq _ _ _ _ _ _ _ _ (@yz _) (@tH _ _ _ _ _ _ _ _ _ tO fh M.m_len uo (@cg _ _ _ _ _ (@vt _ _ _ _ _ _ _ _ _ _ _ _ _ _ _ rfl (CompOk.make (N' := ["_law_told", "_law_kinds_here", "_law_look_here", "_law_k"]) (ix := [0, 1, 2]) (nl := 1) (by rfl) (fm1 rfl (fm1 rfl (fm1 rfl fm0))) (by rfl) (by decide +kernel) rfl (by decide +kernel) rfl (And.intro ⟨rfl, .inl rfl, .inl rfl⟩ (And.intro ⟨rfl, .inl rfl, .inl rfl⟩ (And.intro ⟨rfl, .inl rfl, .inl rfl⟩ True.intro)))) (@uT _ _ _ _ _ _ iI M.m_range (@cg _ _ _ _ _ (@tH _ _ _ _ _ _ _ _ _ tO fh M.m_len uo (@cg _ _ _ _ _ (@eu _ 1 _ _ rfl dO aa ae) (@ff _) (ef rfl)) bg bf (ef rfl) mj) (@ff _) (ef rfl)) (star1' rfl)) (fun _ _ _ _ _ => (@uu _ _ 3 _ (show List.Nodup (["_law_told", "_law_kinds_here", "_law_look_here", "_law_k"] : List Str) from by decide) rfl (Or.inl rfl) (by first | exact .inl rfl | exact .inr rfl | assumption))) (fun _ _ _ _ _ => (@wo _ _ _ (@ua _ _ _ (@m8 _ _ _ _ _ _ _ _ _ _ _ bN hr rfl (@cg _ _ _ _ _ (@pv _ 0 _ _ (by rfl) (by first | exact Or.inl rfl | exact Or.inr (Or.inl rfl) | exact Or.inr (Or.inr rfl)) (by decide) (by decide)) (@cg _ _ _ _ _ (@pv _ 1 _ _ (by rfl) (by first | exact Or.inl rfl | exact Or.inr (Or.inl rfl) | exact Or.inr (Or.inr rfl)) (by decide) (by decide)) (@cg _ _ _ _ _ (@pv _ 2 _ _ (by rfl) (by first | exact Or.inl rfl | exact Or.inr (Or.inl rfl) | exact Or.inr (Or.inr rfl)) (by decide) (by decide)) (@cg _ _ _ _ _ (@pv _ 3 _ _ (by rfl) (by first | exact Or.inl rfl | exact Or.inr (Or.inl rfl) | exact Or.inr (Or.inr rfl)) (by decide) (by decide)) (@ff _) (ef rfl)) (ef rfl)) (ef rfl)) (ef rfl)) (by decide) gN (ef rfl) (ia rfl (ia rfl (ia rfl mj)))) (um rfl)))) (fun _ _ _ _ _ => (@pv _ 3 _ _ (by rfl) (by first | exact Or.inl rfl | exact Or.inr (Or.inl rfl) | exact Or.inr (Or.inr rfl)) (by decide) (by decide))) (by intro _; rfl)) (@ff _) (ef rfl)) bg bf (ef rfl) mj) (@eH _ _ _ _) (r8 _)))))), ?_⟩
  trivial
  have fin : vQ n → tG ks lk n = ur ks lk (tZ lk n) → ∃ x, (SqL K H kl x ∨ SqT K H kl x) ∧ -2 ^ 62 ≤ ((x.length : Nat) : Int) ∧ ((x.length : Nat) : Int) < 2 ^ 62 ∧ ∀ D, H D = none → wU D (Itr 0 ((x.length : Nat) : Int).toNat) (zo 3) (tB (zE (vR K) [] E0 (yD (yi 0) (yD (yi 1) (yD (yi 2) (yD (yi 3) EM)))))) (yi 3)
      (fun x H1 => ∃ p, x = V.ref p ∧ ∃ x, (SqL K H1 p x ∨ SqT K H1 p x) ∧ Q (V.bl (decide (0 < ((x.length : Nat) : Int)))) H1) [some (V.ref t), some (V.ref kl), some (V.ref lt), none] (upd H D (HO.lst [])) := by
    intro on ec
    refine ⟨kx, .inl L, by omega, by omega, fun D hD => ?_⟩
    obtain ⟨Pc, hC⟩ : ∃ Pc : Nat → St → Hp → Prop, Pc = fun i τ H' => ∃ (z : Option V) (xs : List V), H' D = some (.lst xs) ∧ xs.length ≤ i ∧ xs.isEmpty = !(wc ks lk (tZ lk n) i) ∧ Same H H' ∧ τ = [some (V.ref t), some (V.ref kl), some (V.ref lt), z] := ⟨_, rfl⟩
    refine vC Pc ?_ ?_ ?_
    · rw [hC]
      exact ⟨_, [], ic, Nat.le_refl _, rfl, p5 hD _, rfl⟩
    · intro i τ H' R' hi h next
      rw [hC] at h
      obtain ⟨z, xs, d1, d2, d3, d4, rfl⟩ := h
      have hik : i < ks.length := by omega
      have ek : ks[i]? = some ks[i] := List.getElem?_eq_getElem hik
      obtain ⟨x, e1, e2, mm, nn⟩ := G.at ek
      have stp := zw (p := tZ lk n) ek e1
      trivial
      refine ⟨t, kl, lt, i, n, ks, lk, ks[i], x, by rw [Int.zero_add], R.same d4, on, G.same d4, ek, e1, fun H2 S2 => ?_⟩
      have nx : ∀ (xs' : List V) (H3 : Hp), H3 D = some (.lst xs') → xs'.length ≤ i + 1 → xs'.isEmpty = !(wc ks lk (tZ lk n) (i + 1)) → Same H H3 → R' [some (V.ref t), some (V.ref kl), some (V.ref lt), some (.int (0 + (i : Int)))] H3 := fun xs' H3 a1 a2 a3 a4 => next _ _ (by rw [hC]; exact ⟨_, _, a1, a2, a3, a4, rfl⟩)
      trivial
      have d1' := S2 _ _ d1
      have d4' := d4.trans S2
      by_cases hs : tZ lk n ks[i] x = true
      · rw [if_pos hs]
        exact ⟨_, d1', Nat.lt_of_le_of_lt d2 (Nat.lt_of_lt_of_le (m := 64) (by omega) (by decide)), nx _ _ ic (by rw [List.length_append]; simp; omega) (by rw [stp, hs]; simp) (uv d4' hD _)⟩
      · rw [if_neg hs]
        exact nx _ _ d1' (by omega) (by rw [stp, d3]; simp [hs]) d4'
    · intro τ H' h
      rw [hC] at h
      obtain ⟨z, xs, d1, d2, d3, d4, rfl⟩ := h
      refine ⟨_, rfl, xs, .inl (SqL.of d1), ?_⟩
      have en : wc ks lk (tZ lk n) ((kx.length : Nat) : Int).toNat = tG ks lk n := by rw [ec, ← Ae G.len, show ((kx.length : Nat) : Int).toNat = ks.length by omega]
      rw [en] at d3
      have e9 : decide (0 < ((xs.length : Nat) : Int)) = tG ks lk n := by
        cases xs with
        | nil => simp at d3; rw [d3]; rfl
        | cons a b => simp at d3; rw [d3]; simp
      rw [e9]
      exact q _ d4
  cases n with
  | any =>
    obtain ⟨x0, T, r0⟩ := vc R
    cases nj r0
    refine ⟨_, T, _, at0, rfl, ?_⟩
    rw [if_pos (by decide)]
    exact q _ (Same.refl _)
  | made s =>
    obtain ⟨x0, y0, T, r0, r1⟩ := tS R
    cases nj r0
    cases nj r1
    refine ⟨_, T, _, at0, rfl, ?_⟩
    rw [if_neg (by decide)]
    refine ⟨_, T, _, at0, rfl, ?_⟩
    rw [if_neg (by decide)]
    exact fin trivial rfl
  | used s =>
    obtain ⟨x0, y0, T, r0, r1⟩ := tS R
    cases nj r0
    cases nj r1
    refine ⟨_, T, _, at0, rfl, ?_⟩
    rw [if_neg (by decide)]
    refine ⟨_, T, _, at0, rfl, ?_⟩
    rw [if_neg (by decide)]
    exact fin trivial rfl
  | chief s =>
    obtain ⟨x0, y0, T, r0, r1⟩ := tS R
    cases nj r0
    cases nj r1
    refine ⟨_, T, _, at0, rfl, ?_⟩
    rw [if_neg (by decide)]
    refine ⟨_, T, _, at0, rfl, ?_⟩
    rw [if_neg (by decide)]
    exact fin trivial rfl
  | over a b =>
    obtain ⟨x0, y0, z0, T, r0, r1, r2⟩ := tW R
    cases nj r0
    obtain ⟨p1, rfl, T1⟩ := vm r1
    obtain ⟨p2, rfl, T2⟩ := vm r2
    refine ⟨_, T, _, at0, rfl, ?_⟩
    rw [if_neg (by decide)]
    refine ⟨_, T, _, at0, rfl, ?_⟩
    rw [if_pos (by decide)]
    refine ⟨_, T, _, at1, _, _, _, ks, lk, a, rfl, G, T1, ok.1, fun H1 S1 => ?_⟩
    refine ⟨_, Same.tup S1 T, _, at2, _, _, _, ks, lk, b, rfl, G.same S1, Same.tup S1 T2, ok.2, fun H2 S2 => ?_⟩
    exact ⟨_, rfl, _, rfl, q _ (S1.trans S2)⟩
  | both a b =>
    have h1 := Nt.dp_pos a
    have h2 : max a.dp b.dp + 1 = 1 := dp
    omega
  | either a b =>
    have h1 := Nt.dp_pos a
    have h2 : max a.dp b.dp + 1 = 1 := dp
    omega
  | but a b =>
    have h1 := Nt.dp_pos a
    have h2 : max a.dp b.dp + 1 = 1 := dp
    omega
end

def v5 (K : PySem.W.Frag) (d : Nat) : Sp := fun vs H Q _ => ∃ (t kl lt : Addr) (n : Nt) (ks : List Kd2) (lk : List Int), vs = [.ref t, .ref kl, .ref lt] ∧ ud K H (.ref t) n ∧ n.ok ∧ n.dp ≤ d ∧ Ground K H kl lt ks lk ∧ ∀ H', Same H H' → Q (.bl (tG ks lk n)) H'
section
variable {P : Program} {w : World} {K : PySem.W.Frag} {mg : Str → Option Value} {base : Heap} {f : Addr} {fd : FuncData}
theorem Bp (F : Fun K "_law_look" "_law_look" bQ f fd) (M : Mg mg) (aS : Cal P w K mg base CX0 "_law_mix" 1 ["_law_number", "_law_k", "_law_many"] wG) : FnOk P w K mg base CX0 2 f fd ["_law_cell_here", "_law_many"] (A5 K) := by
  refine F.ok mF (fun vs H Q E h => ?_) (fun cdv A outer s H vs Q E hr h => ?_)
  · obtain ⟨c, n, rfl, _⟩ := h
    rfl
  obtain ⟨c, n, rfl, n1, n4, q⟩ := h
  refine ⟨_, (@fz _ _ _ _ _ (@tK _ _ 2 _ _ _ _ mF.nd rfl qY (@vt _ _ _ _ _ _ _ _ _ _ _ _ _ _ _ rfl (CompOk.make (N' := ["_law_cell_here", "_law_k"]) (ix := [0]) (nl := 1) (by rfl) (fm1 rfl fm0) (by rfl) (by decide +kernel) rfl (by decide +kernel) rfl (And.intro ⟨rfl, .inl rfl, .inl rfl⟩ True.intro)) (@uT _ _ _ _ _ _ mO M.m_range (@cg _ _ _ _ _ (@eu _ 1 _ _ rfl lG d9 ee) (@ff _) (ef rfl)) (star1' rfl)) (fun _ _ _ _ _ => (@uu _ _ 1 _ (show List.Nodup (["_law_cell_here", "_law_k"] : List Str) from by decide) rfl (Or.inl rfl) (by first | exact .inl rfl | exact .inr rfl | assumption))) (fun _ _ _ _ _ => (@xj _)) (fun _ _ _ _ _ => (@m8 _ _ _ _ _ _ _ _ _ _ _ aS hr rfl (@cg _ _ _ _ _ (@pv _ 0 _ _ (by rfl) (by first | exact Or.inl rfl | exact Or.inr (Or.inl rfl) | exact Or.inr (Or.inr rfl)) (by decide) (by decide)) (@cg _ _ _ _ _ (@pv _ 1 _ _ (by rfl) (by first | exact Or.inl rfl | exact Or.inr (Or.inl rfl) | exact Or.inr (Or.inr rfl)) (by decide) (by decide)) (@cg _ _ _ _ _ (@eH _ _ _ _) (@ff _) (ef rfl)) (ef rfl)) (ef rfl)) (by decide) b0 (ef rfl) (ia rfl (ia rfl mj)))) (by intro _; rfl)) (by rfl) (.inl rfl)) (@fz _ _ _ _ _ (@tL _ _ _ _ _ _ _ _ (@qq _ _ _ _ _ _ _ _ (@tT _) (@tH _ _ _ _ _ _ _ _ _ (yc rfl) oN M.m_max AD (@cg _ _ _ _ _ (@eu _ 2 _ _ rfl iG fR fS) (@ff _) (ef rfl)) ny nv (ef rfl) mj) (@eH _ _ _ _) (r8 _)) (@ki _ _ _ (@GW _ _ _ _ _ _ (@eH _ _ _ _) (@GU _ _ _ _ _ _ _ (@eu _ 2 _ _ rfl iG fR fS) (@tQ _ _ _ _ _ _ _ _ (@ux _) (@eu _ 0 _ _ rfl qX aF aG) (@eu _ 1 _ _ rfl lG d9 ee)) set_list (by intro _; rfl)) (by rfl) (by rfl) (by rfl))) (@tF _)) (@ki _ _ _ (@nt _ _ _ _ (@u6 _ _ _ _ _ _ _ _ _ yH mP M.m_tuple vS (@cg _ _ _ _ _ (EG rfl (CompOkC.make (y := "_law_weight") (N' := ["_law_weights", "_law_weight"]) (ix := [2]) (nl := 1) (by rfl) (fm1 rfl fm0) (by rfl) (fun _ => rfl) (fun _ => rfl) rfl (by decide +kernel) rfl (And.intro ⟨rfl, rfl, .inl rfl, .inl rfl⟩ True.intro)) (@Ca _ _ _ _ (@eu _ 2 _ _ rfl iG fR fS)) (fun _ _ _ _ _ => (@uu _ _ 1 _ (show List.Nodup (["_law_weights", "_law_weight"] : List Str) from by decide) rfl (Or.inr rfl) (by first | exact .inl rfl | exact .inr rfl | assumption))) (fun _ _ _ _ _ => (@xj _)) (fun _ _ _ _ _ => (@tH _ _ _ _ _ _ _ _ _ Ao rfl M.m_len uo (@cg _ _ _ _ _ (@u6 _ _ _ _ _ _ _ _ _ (DA (K := K) rfl rfl) rfl M.m_set G5 (@cg _ _ _ _ _ (@vt _ _ _ _ _ _ _ _ _ _ _ _ _ _ _ rfl (CompOk.make (N' := ["_law_weight", "_law_w"]) (ix := [1]) (nl := 1) (by rfl) (fm1 rfl fm0) (by rfl) (by decide +kernel) rfl (by decide +kernel) rfl (And.intro ⟨rfl, (by first | exact .inl rfl | exact .inr rfl), (by first | exact .inl rfl | exact .inr rfl)⟩ True.intro)) (@Fc _ K _ _ _ rfl (@pv _ 0 _ _ (by rfl) (by first | exact Or.inl rfl | exact Or.inr (Or.inl rfl) | exact Or.inr (Or.inr rfl)) (by decide) (by decide))) (fun _ _ _ _ _ => (@uu _ _ 1 _ (show List.Nodup (["_law_weight", "_law_w"] : List Str) from by decide) rfl (Or.inl rfl) (by first | exact .inl rfl | exact .inr rfl | assumption))) (fun _ _ _ _ _ => (@wo _ _ _ (@zf _ _ _ _ _ _ _ _ _ _ _ _ (@xY _) zv (@eH _ _ _ _) (@pv _ 1 _ _ (by rfl) (by first | exact Or.inl rfl | exact Or.inr (Or.inl rfl) | exact Or.inr (Or.inr rfl)) (by decide) (by decide)) (@pv _ 0 _ _ (by rfl) (by first | exact Or.inl rfl | exact Or.inr (Or.inl rfl) | exact Or.inr (Or.inr rfl)) (by decide) (by decide)) (by with_unfolding_all rfl)))) (fun _ _ _ _ _ => (@pv _ 1 _ _ (by rfl) (by first | exact Or.inl rfl | exact Or.inr (Or.inl rfl) | exact Or.inr (Or.inr rfl)) (by decide) (by decide))) (by intro _; rfl)) (@ff _) (ef rfl)) tu tq (ef rfl) mj) (@ff _) (ef rfl)) bg bf (ef rfl) mj))) (@ff _) (ef rfl)) fE fD (ef rfl) mj))))), ?_⟩
  trivial
  refine ⟨by omega, by omega, fun D0 hD0 => ?_⟩
  obtain ⟨Pc, hC⟩ : ∃ Pc : Nat → St → Hp → Prop, Pc = fun i τ H' => ∃ (z : Option V) (ws : List Int), H' D0 = some (.lst (ws.map V.int)) ∧ ws.length = i ∧ Same H H' ∧ τ = [some (.int c), z] := ⟨_, rfl⟩
  refine vC Pc ?_ ?_ ?_
  · rw [hC]
    exact ⟨_, [], ic, rfl, p5 hD0 _, rfl⟩
  · intro i τ H' R' hi h next
    rw [hC] at h
    obtain ⟨z, ws, d1, d2, d3, rfl⟩ := h
    trivial
    refine ⟨_, _, _, rfl, by omega, by omega, by decide, ?_⟩
    trivial
    refine ⟨_, d1, by rw [List.length_map]; exact Nat.lt_of_lt_of_le (m := 64) (by omega) (by decide), next _ _ ?_⟩
    rw [hC]
    exact ⟨_, ws ++ [vL c (0 + (i : Int)) 5], by rw [ic, List.map_append]; rfl, by rw [List.length_append, d2]; rfl, uv d3 hD0 _, rfl⟩
  · intro τ H1 h
    rw [hC] at h
    obtain ⟨z, ws, d1, d2, d3, rfl⟩ := h
    have lw : ws.length = n := by omega
    refine ⟨_, rfl, ws, .inl (SqL.of d1), by omega, fun m hm htop => ?_⟩
    by_cases hm0 : m = 0
    · rw [if_pos hm0]
      have lc : (c % (n : Int)) < n := Int.emod_lt_of_pos _ (by omega)
      have l0 : 0 ≤ c % (n : Int) := Int.emod_nonneg _ (by omega)
      obtain ⟨j, hj⟩ : ∃ j : Nat, c % (n : Int) = j := ⟨(c % (n : Int)).toNat, by omega⟩
      refine ⟨by omega, _, rfl, _, d1, j, by rw [hj, List.length_map, lw]; exact FU (by omega), ?_⟩
      have hw : upd H1 D0 (.lst ((ws.map V.int).set j (.int 1))) D0 = some (.lst ((ws.set j 1).map V.int)) := by rw [ic, List.map_set]
      obtain ⟨H2, hH2⟩ : ∃ H2, H2 = upd H1 D0 (.lst ((ws.map V.int).set j (.int 1))) := ⟨_, rfl⟩
      rw [← hH2] at hw ⊢
      have S2 : Same H H2 := by rw [hH2]; exact uv d3 hD0 _
      obtain ⟨vs, hvs⟩ : ∃ vs, vs = ws.set j 1 := ⟨_, rfl⟩
      rw [← hvs] at hw
      have lv : vs.length = n := by rw [hvs, List.length_set]; exact lw
      refine ⟨_, rfl, ⟨_, SqL.of hw⟩, fun E2 hE => ?_⟩
      obtain ⟨Pe, hPe⟩ : ∃ Pe : Nat → St → Hp → Prop, Pe = fun i τ H' => ∃ (z : Option V) (ls : List Int), H' E2 = some (.lst (ls.map V.int)) ∧ ls.length = i ∧ (∀ x ∈ ls, 0 ≤ x) ∧ Same H2 H' ∧ τ = [some (.ref D0), z] := ⟨_, rfl⟩
      refine we (vs.map V.int) Pe ?_ (fun i τ H' _ h => by rw [hPe] at h; obtain ⟨_, _, _, _, _, e, _⟩ := h; exact SqL.of (e _ _ hw)) ?_ ?_
      · rw [hPe]
        exact ⟨_, [], ic, rfl, (fun x hx => absurd hx List.not_mem_nil), p5 hE _, rfl⟩
      · intro i x τ H' R' hx h next
        rw [hPe] at h
        obtain ⟨z, ls, e1, e2, e3, e4, rfl⟩ := h
        rw [List.getElem?_map] at hx
        obtain ⟨o, ho, rfl⟩ := Option.map_eq_some_iff.mp hx
        have li := (List.getElem?_eq_some_iff.mp ho).1
        trivial
        have hw' := e4 _ _ hw
        refine ⟨⟨_, SqL.of hw'⟩, fun F2 hF => ?_⟩
        obtain ⟨Pf, hPf⟩ : ∃ Pf : Nat → St → Hp → Prop, Pf = fun j τ H3 => ∃ (z : Option V) (us : List Int), H3 F2 = some (.lst (us.map V.int)) ∧ us.length ≤ j ∧ Same H' H3 ∧ τ = [some (.int o), z] := ⟨_, rfl⟩
        refine we (vs.map V.int) Pf ?_ (fun i τ H' _ h => by rw [hPf] at h; obtain ⟨_, _, _, _, e, _⟩ := h; exact SqL.of (e _ _ hw')) ?_ ?_
        · rw [hPf]
          exact ⟨_, [], ic, Nat.le_refl _, p5 hF _, rfl⟩
        · intro j y τ H3 R3 hy h next3
          rw [hPf] at h
          obtain ⟨z3, us, f1, f2, f3, rfl⟩ := h
          rw [List.getElem?_map] at hy
          obtain ⟨o3, ho3, rfl⟩ := Option.map_eq_some_iff.mp hy
          have lj := (List.getElem?_eq_some_iff.mp ho3).1
          trivial
          have stay : R3 [some (.int o), some (.int o3)] H3 := next3 _ _ (by rw [hPf]; exact ⟨_, us, f1, by omega, f3, rfl⟩)
          have grow : ∃ ys, H3 F2 = some (.lst ys) ∧ ys.length < sizeLine ∧ R3 [some (.int o), some (.int o3)] (upd H3 F2 (.lst (ys ++ [.int o3]))) :=
            ⟨_, f1, by rw [List.length_map]; exact Nat.lt_of_lt_of_le (m := 64) (by omega) (by decide), next3 _ _ (by rw [hPf]; exact ⟨_, us ++ [o3], by rw [ic, List.map_append]; rfl, by rw [List.length_append]; simp; omega, uv f3 hF _, rfl⟩)⟩
          split
          · split
            · exact grow
            · exact stay
          · exact stay
        · intro τ H3 h
          rw [hPf] at h
          obtain ⟨z3, us, f1, f2, f3, rfl⟩ := h
          rw [List.length_map] at f2
          refine ⟨_, rfl, us, SqL.of f1, by omega, fun l S m' hl => ?_⟩
          have el : upd H3 l (.set S m') E2 = some (.lst (ls.map V.int)) := by rw [tP (tU (f3 _ _ e1) hl)]; exact f3 _ _ e1
          refine ⟨_, _, ic, _, el, by rw [List.length_map]; exact Nat.lt_of_lt_of_le (m := 64) (by omega) (by decide), next _ _ ?_⟩
          rw [hPe]
          refine ⟨_, ls ++ [(m' : Int)], by rw [ic, List.map_append]; rfl, by rw [List.length_append, e2]; rfl, fun x hx => ?_, uv (e4.trans (f3.trans (p5 hl _))) hE _, rfl⟩
          rcases List.mem_append.mp hx with hx | hx
          · exact e3 x hx
          · rw [List.mem_singleton.mp hx]; omega
      · intro τ H' h
        rw [hPe] at h
        obtain ⟨z, ls, e1, e2, e3, e4, rfl⟩ := h
        rw [List.length_map] at e2
        exact ⟨_, rfl, _, SqL.of e1, fun l hl => q _ ls _ (S2.trans (e4.trans (p5 hl _))) (SqT.of ic) (by omega) e3⟩
    · rw [if_neg hm0]
      have hw := d1
      obtain ⟨H2, hH2⟩ : ∃ H2, H2 = H1 := ⟨_, rfl⟩
      rw [← hH2] at hw d3 ⊢
      have S2 := d3
      obtain ⟨vs, hvs⟩ : ∃ vs, vs = ws := ⟨_, rfl⟩
      rw [← hvs] at hw
      have lv : vs.length = n := by rw [hvs]; exact lw
      refine ⟨_, rfl, ⟨_, SqL.of hw⟩, fun E2 hE => ?_⟩
      obtain ⟨Pe, hPe⟩ : ∃ Pe : Nat → St → Hp → Prop, Pe = fun i τ H' => ∃ (z : Option V) (ls : List Int), H' E2 = some (.lst (ls.map V.int)) ∧ ls.length = i ∧ (∀ x ∈ ls, 0 ≤ x) ∧ Same H2 H' ∧ τ = [some (.ref D0), z] := ⟨_, rfl⟩
      refine we (vs.map V.int) Pe ?_ (fun i τ H' _ h => by rw [hPe] at h; obtain ⟨_, _, _, _, _, e, _⟩ := h; exact SqL.of (e _ _ hw)) ?_ ?_
      · rw [hPe]
        exact ⟨_, [], ic, rfl, (fun x hx => absurd hx List.not_mem_nil), p5 hE _, rfl⟩
      · intro i x τ H' R' hx h next
        rw [hPe] at h
        obtain ⟨z, ls, e1, e2, e3, e4, rfl⟩ := h
        rw [List.getElem?_map] at hx
        obtain ⟨o, ho, rfl⟩ := Option.map_eq_some_iff.mp hx
        have li := (List.getElem?_eq_some_iff.mp ho).1
        trivial
        have hw' := e4 _ _ hw
        refine ⟨⟨_, SqL.of hw'⟩, fun F2 hF => ?_⟩
        obtain ⟨Pf, hPf⟩ : ∃ Pf : Nat → St → Hp → Prop, Pf = fun j τ H3 => ∃ (z : Option V) (us : List Int), H3 F2 = some (.lst (us.map V.int)) ∧ us.length ≤ j ∧ Same H' H3 ∧ τ = [some (.int o), z] := ⟨_, rfl⟩
        refine we (vs.map V.int) Pf ?_ (fun i τ H' _ h => by rw [hPf] at h; obtain ⟨_, _, _, _, e, _⟩ := h; exact SqL.of (e _ _ hw')) ?_ ?_
        · rw [hPf]
          exact ⟨_, [], ic, Nat.le_refl _, p5 hF _, rfl⟩
        · intro j y τ H3 R3 hy h next3
          rw [hPf] at h
          obtain ⟨z3, us, f1, f2, f3, rfl⟩ := h
          rw [List.getElem?_map] at hy
          obtain ⟨o3, ho3, rfl⟩ := Option.map_eq_some_iff.mp hy
          have lj := (List.getElem?_eq_some_iff.mp ho3).1
          trivial
          have stay : R3 [some (.int o), some (.int o3)] H3 := next3 _ _ (by rw [hPf]; exact ⟨_, us, f1, by omega, f3, rfl⟩)
          have grow : ∃ ys, H3 F2 = some (.lst ys) ∧ ys.length < sizeLine ∧ R3 [some (.int o), some (.int o3)] (upd H3 F2 (.lst (ys ++ [.int o3]))) :=
            ⟨_, f1, by rw [List.length_map]; exact Nat.lt_of_lt_of_le (m := 64) (by omega) (by decide), next3 _ _ (by rw [hPf]; exact ⟨_, us ++ [o3], by rw [ic, List.map_append]; rfl, by rw [List.length_append]; simp; omega, uv f3 hF _, rfl⟩)⟩
          split
          · split
            · exact grow
            · exact stay
          · exact stay
        · intro τ H3 h
          rw [hPf] at h
          obtain ⟨z3, us, f1, f2, f3, rfl⟩ := h
          rw [List.length_map] at f2
          refine ⟨_, rfl, us, SqL.of f1, by omega, fun l S m' hl => ?_⟩
          have el : upd H3 l (.set S m') E2 = some (.lst (ls.map V.int)) := by rw [tP (tU (f3 _ _ e1) hl)]; exact f3 _ _ e1
          refine ⟨_, _, ic, _, el, by rw [List.length_map]; exact Nat.lt_of_lt_of_le (m := 64) (by omega) (by decide), next _ _ ?_⟩
          rw [hPe]
          refine ⟨_, ls ++ [(m' : Int)], by rw [ic, List.map_append]; rfl, by rw [List.length_append, e2]; rfl, fun x hx => ?_, uv (e4.trans (f3.trans (p5 hl _))) hE _, rfl⟩
          rcases List.mem_append.mp hx with hx | hx
          · exact e3 x hx
          · rw [List.mem_singleton.mp hx]; omega
      · intro τ H' h
        rw [hPe] at h
        obtain ⟨z, ls, e1, e2, e3, e4, rfl⟩ := h
        rw [List.length_map] at e2
        exact ⟨_, rfl, _, SqL.of e1, fun l hl => q _ ls _ (S2.trans (e4.trans (p5 hl _))) (SqT.of ic) (by omega) e3⟩
theorem BI {d : Nat} (F : Fun K "_law_claims" "_law_claims" bB f fd) (M : Mg mg) (az : Cal P w K mg base CX0 "_law_plain_claims" 2 ["_law_told", "_law_kinds_here", "_law_look_here"] (vF K)) (bK : Cal P w K mg base CX0 "_law_claims" (3 + d) ["_law_told", "_law_kinds_here", "_law_look_here"] (v5 K d)) : FnOk P w K mg base CX0 (3 + d + 1) f fd ["_law_told", "_law_kinds_here", "_law_look_here"] (v5 K (d + 1)) := by
  refine F.ok kK (fun vs H Q E h => ?_) (fun cdv A outer s H vs Q E hr h => ?_)
  · obtain ⟨t, kl, lt, n, ks, lk, rfl, _⟩ := h
    rfl
  obtain ⟨t, kl, lt, n, ks, lk, rfl, R, ok, dp, G, q⟩ := h
  refine ⟨_, (@fz _ _ _ _ _ (@tL _ _ _ _ _ _ _ _ (@qq _ _ _ _ _ _ _ _ (@tT _) (@m9 _ _ _ _ _ _ _ (@ni _) (@eu _ 0 _ _ rfl bF af ag) (@eH _ _ _ _) (fun _ _ => rfl)) (@tN _ _ _ _) (r8 _)) (@ki _ _ _ (@nt _ _ _ _ (@uM _ _ _ _ _ _ _ (@m8 _ _ _ _ _ _ _ _ _ _ _ bK hr bx (@cg _ _ _ _ _ (@m9 _ _ _ _ _ _ _ (@ni _) (@eu _ 0 _ _ rfl bF af ag) (@eH _ _ _ _) (fun _ _ => rfl)) (@cg _ _ _ _ _ (@eu _ 1 _ _ rfl cv aa ae) (@cg _ _ _ _ _ (@eu _ 2 _ _ rfl cw ah ai) (@ff _) (ef rfl)) (ef rfl)) (ef rfl)) (by omega) bY (ef rfl) (ia rfl (ia rfl mj))) (@uN _ _ _ _ _ (@m8 _ _ _ _ _ _ _ _ _ _ _ bK hr bx (@cg _ _ _ _ _ (@m9 _ _ _ _ _ _ _ (@ni _) (@eu _ 0 _ _ rfl bF af ag) (@eH _ _ _ _) (fun _ _ => rfl)) (@cg _ _ _ _ _ (@eu _ 1 _ _ rfl cv aa ae) (@cg _ _ _ _ _ (@eu _ 2 _ _ rfl cw ah ai) (@ff _) (ef rfl)) (ef rfl)) (ef rfl)) (by omega) bY (ef rfl) (ia rfl (ia rfl mj))))))) (@tF _)) (@fz _ _ _ _ _ (@tL _ _ _ _ _ _ _ _ (@qq _ _ _ _ _ _ _ _ (@tT _) (@m9 _ _ _ _ _ _ _ (@ni _) (@eu _ 0 _ _ rfl bF af ag) (@eH _ _ _ _) (fun _ _ => rfl)) (@tN _ _ _ _) (r8 _)) (@ki _ _ _ (@nt _ _ _ _ (@Hh _ _ _ _ _ _ _ (@m8 _ _ _ _ _ _ _ _ _ _ _ bK hr bx (@cg _ _ _ _ _ (@m9 _ _ _ _ _ _ _ (@ni _) (@eu _ 0 _ _ rfl bF af ag) (@eH _ _ _ _) (fun _ _ => rfl)) (@cg _ _ _ _ _ (@eu _ 1 _ _ rfl cv aa ae) (@cg _ _ _ _ _ (@eu _ 2 _ _ rfl cw ah ai) (@ff _) (ef rfl)) (ef rfl)) (ef rfl)) (by omega) bY (ef rfl) (ia rfl (ia rfl mj))) (@uN _ _ _ _ _ (@m8 _ _ _ _ _ _ _ _ _ _ _ bK hr bx (@cg _ _ _ _ _ (@m9 _ _ _ _ _ _ _ (@ni _) (@eu _ 0 _ _ rfl bF af ag) (@eH _ _ _ _) (fun _ _ => rfl)) (@cg _ _ _ _ _ (@eu _ 1 _ _ rfl cv aa ae) (@cg _ _ _ _ _ (@eu _ 2 _ _ rfl cw ah ai) (@ff _) (ef rfl)) (ef rfl)) (ef rfl)) (by omega) bY (ef rfl) (ia rfl (ia rfl mj))))))) (@tF _)) (@fz _ _ _ _ _ (@tL _ _ _ _ _ _ _ _ (@qq _ _ _ _ _ _ _ _ (@tT _) (@m9 _ _ _ _ _ _ _ (@ni _) (@eu _ 0 _ _ rfl bF af ag) (@eH _ _ _ _) (fun _ _ => rfl)) (@tN _ _ _ _) (r8 _)) (@ki _ _ _ (@nt _ _ _ _ (@uM _ _ _ _ _ _ _ (@m8 _ _ _ _ _ _ _ _ _ _ _ bK hr bx (@cg _ _ _ _ _ (@m9 _ _ _ _ _ _ _ (@ni _) (@eu _ 0 _ _ rfl bF af ag) (@eH _ _ _ _) (fun _ _ => rfl)) (@cg _ _ _ _ _ (@eu _ 1 _ _ rfl cv aa ae) (@cg _ _ _ _ _ (@eu _ 2 _ _ rfl cw ah ai) (@ff _) (ef rfl)) (ef rfl)) (ef rfl)) (by omega) bY (ef rfl) (ia rfl (ia rfl mj))) (@uN _ _ _ _ _ (@wZ _ _ _ _ (@m8 _ _ _ _ _ _ _ _ _ _ _ bK hr bx (@cg _ _ _ _ _ (@m9 _ _ _ _ _ _ _ (@ni _) (@eu _ 0 _ _ rfl bF af ag) (@eH _ _ _ _) (fun _ _ => rfl)) (@cg _ _ _ _ _ (@eu _ 1 _ _ rfl cv aa ae) (@cg _ _ _ _ _ (@eu _ 2 _ _ rfl cw ah ai) (@ff _) (ef rfl)) (ef rfl)) (ef rfl)) (by omega) bY (ef rfl) (ia rfl (ia rfl mj)))))))) (@tF _)) (@ki _ _ _ (@nt _ _ _ _ (@m8 _ _ _ _ _ _ _ _ _ _ _ az hr fX (@cg _ _ _ _ _ (@eu _ 0 _ _ rfl bF af ag) (@cg _ _ _ _ _ (@eu _ 1 _ _ rfl cv aa ae) (@cg _ _ _ _ _ (@eu _ 2 _ _ rfl cw ah ai) (@ff _) (ef rfl)) (ef rfl)) (ef rfl)) (by omega) dN (ef rfl) (ia rfl (ia rfl mj)))))))), ?_⟩
  trivial
  cases n with
  | any =>
    obtain ⟨x0, T, r0⟩ := vc R
    cases nj r0
    refine ⟨_, T, _, at0, rfl, ?_⟩
    rw [if_neg (by decide)]
    refine ⟨_, T, _, at0, rfl, ?_⟩
    rw [if_neg (by decide)]
    refine ⟨_, T, _, at0, rfl, ?_⟩
    rw [if_neg (by decide)]
    exact ⟨t, kl, lt, _, ks, lk, rfl, R, ok, rfl, G, q⟩
  | made s =>
    obtain ⟨x0, y0, T, r0, r1⟩ := tS R
    cases nj r0
    cases nj r1
    refine ⟨_, T, _, at0, rfl, ?_⟩
    rw [if_neg (by decide)]
    refine ⟨_, T, _, at0, rfl, ?_⟩
    rw [if_neg (by decide)]
    refine ⟨_, T, _, at0, rfl, ?_⟩
    rw [if_neg (by decide)]
    exact ⟨t, kl, lt, _, ks, lk, rfl, R, ok, rfl, G, q⟩
  | used s =>
    obtain ⟨x0, y0, T, r0, r1⟩ := tS R
    cases nj r0
    cases nj r1
    refine ⟨_, T, _, at0, rfl, ?_⟩
    rw [if_neg (by decide)]
    refine ⟨_, T, _, at0, rfl, ?_⟩
    rw [if_neg (by decide)]
    refine ⟨_, T, _, at0, rfl, ?_⟩
    rw [if_neg (by decide)]
    exact ⟨t, kl, lt, _, ks, lk, rfl, R, ok, rfl, G, q⟩
  | chief s =>
    obtain ⟨x0, y0, T, r0, r1⟩ := tS R
    cases nj r0
    cases nj r1
    refine ⟨_, T, _, at0, rfl, ?_⟩
    rw [if_neg (by decide)]
    refine ⟨_, T, _, at0, rfl, ?_⟩
    rw [if_neg (by decide)]
    refine ⟨_, T, _, at0, rfl, ?_⟩
    rw [if_neg (by decide)]
    exact ⟨t, kl, lt, _, ks, lk, rfl, R, ok, rfl, G, q⟩
  | over a b =>
    obtain ⟨x0, y0, z0, T, r0, r1, r2⟩ := tW R
    cases nj r0
    refine ⟨_, T, _, at0, rfl, ?_⟩
    rw [if_neg (by decide)]
    refine ⟨_, T, _, at0, rfl, ?_⟩
    rw [if_neg (by decide)]
    refine ⟨_, T, _, at0, rfl, ?_⟩
    rw [if_neg (by decide)]
    exact ⟨t, kl, lt, _, ks, lk, rfl, R, ok, rfl, G, q⟩
  | both x y =>
    obtain ⟨x0, y0, z0, T, r0, r1, r2⟩ := tW R
    cases nj r0
    obtain ⟨t1, rfl⟩ := tV r1
    obtain ⟨t2, rfl⟩ := tV r2
    have dd : max x.dp y.dp + 1 ≤ d + 1 := dp
    refine ⟨_, T, _, at0, rfl, ?_⟩
    rw [if_pos (by decide)]
    refine ⟨_, T, _, at1, t1, kl, lt, x, ks, lk, rfl, r1, ok.1, (by omega), G, fun H1 S1 => ?_⟩
    refine ⟨_, rfl, ?_⟩
    by_cases hx : tG ks lk x = true
    · rw [if_pos hx]
      refine ⟨_, Same.tup S1 T, _, at2, t2, kl, lt, y, ks, lk, rfl, r2.same S1, ok.2, (by omega), G.same S1, fun H2 S2 => ?_⟩
      have e9 : tG ks lk (.both x y) = tG ks lk y := by simp [tG, hx]
      rw [← e9]
      exact q _ (S1.trans S2)
    · rw [if_neg hx]
      have e9 : tG ks lk (.both x y) = false := by simp [tG, hx]
      rw [← e9]
      exact q _ S1
  | either x y =>
    obtain ⟨x0, y0, z0, T, r0, r1, r2⟩ := tW R
    cases nj r0
    obtain ⟨t1, rfl⟩ := tV r1
    obtain ⟨t2, rfl⟩ := tV r2
    have dd : max x.dp y.dp + 1 ≤ d + 1 := dp
    refine ⟨_, T, _, at0, rfl, ?_⟩
    rw [if_neg (by decide)]
    refine ⟨_, T, _, at0, rfl, ?_⟩
    rw [if_pos (by decide)]
    refine ⟨_, T, _, at1, t1, kl, lt, x, ks, lk, rfl, r1, ok.1, (by omega), G, fun H1 S1 => ?_⟩
    refine ⟨_, rfl, ?_⟩
    by_cases hx : tG ks lk x = true
    · rw [if_pos hx]
      have e9 : tG ks lk (.either x y) = true := by simp [tG, hx]
      rw [← e9]
      exact q _ S1
    · rw [if_neg hx]
      refine ⟨_, Same.tup S1 T, _, at2, t2, kl, lt, y, ks, lk, rfl, r2.same S1, ok.2, (by omega), G.same S1, fun H2 S2 => ?_⟩
      have e9 : tG ks lk (.either x y) = tG ks lk y := by simp [tG, hx]
      rw [← e9]
      exact q _ (S1.trans S2)
  | but x y =>
    obtain ⟨x0, y0, z0, T, r0, r1, r2⟩ := tW R
    cases nj r0
    obtain ⟨t1, rfl⟩ := tV r1
    obtain ⟨t2, rfl⟩ := tV r2
    have dd : max x.dp y.dp + 1 ≤ d + 1 := dp
    refine ⟨_, T, _, at0, rfl, ?_⟩
    rw [if_neg (by decide)]
    refine ⟨_, T, _, at0, rfl, ?_⟩
    rw [if_neg (by decide)]
    refine ⟨_, T, _, at0, rfl, ?_⟩
    rw [if_pos (by decide)]
    refine ⟨_, T, _, at1, t1, kl, lt, x, ks, lk, rfl, r1, ok.1, (by omega), G, fun H1 S1 => ?_⟩
    refine ⟨_, rfl, ?_⟩
    by_cases hx : tG ks lk x = true
    · rw [if_pos hx]
      refine ⟨_, Same.tup S1 T, _, at2, t2, kl, lt, y, ks, lk, rfl, r2.same S1, ok.2, (by omega), G.same S1, fun H2 S2 => ?_⟩
      have e9 : tG ks lk (.but x y) = !tG ks lk y := by simp [tG, hx]
      refine ⟨_, rfl, ?_⟩
      rw [← e9]
      exact q _ (S1.trans S2)
    · rw [if_neg hx]
      have e9 : tG ks lk (.but x y) = false := by simp [tG, hx]
      rw [← e9]
      exact q _ S1
theorem x8 (F : Fun K "_law_claims" "_law_claims" bB f fd) (M : Mg mg) (az : Cal P w K mg base CX0 "_law_plain_claims" 2 ["_law_told", "_law_kinds_here", "_law_look_here"] (vF K)) (b : Binds K fd ["_law_told", "_law_kinds_here", "_law_look_here"] []) (kp : PySem.W.keepIn K (.ref f) = true) (m : mg "_law_claims" = some (.ref f)) : ∀ d : Nat, FnOk P w K mg base CX0 (3 + d) f fd ["_law_told", "_law_kinds_here", "_law_look_here"] (v5 K d)
  | 0 => by
    refine F.ok kK (fun vs H Q E h => ?_) (fun cdv A outer s H vs Q E hr h => ?_)
    · obtain ⟨t, kl, lt, n, ks, lk, rfl, _⟩ := h
      rfl
    obtain ⟨t, kl, lt, n, ks, lk, rfl, R, ok, dp, G, q⟩ := h
    have := Nt.dp_pos n
    omega
  | d + 1 => BI F M az ⟨⟨f, fd, x8 F M az b kp m d, b, kp, m⟩⟩
end
theorem Do {P : Program} {w : World} {K : PySem.W.Frag} {mg : Str → Option Value} {base : Heap} {f : Addr} {fd : FuncData} {ps : List Str} {spd : Nat → Sp} {L n : Nat} (h : ∀ d, FnOk P w K mg base CX0 (L + d) f fd ps (spd d)) : FnOk P w K mg base CX0 (L + n) f fd ps (fun vs H Q E => ∃ d, d ≤ n ∧ spd d vs H Q E) := by
  refine ⟨fun vs H Q E ⟨d, hd, s⟩ => (h d).len _ _ _ _ s, fun A st s H bd us vs Q E hr I hb r ⟨d, hd, sp⟩ => ?_⟩
  exact (h d).run A st s H bd us vs Q E (hr.mono (by omega)) I hb r sp
def Cf (K : PySem.W.Frag) : Sp := fun vs H Q E => ∃ d, d ≤ 5 ∧ yw K d vs H Q E

def yl : Kn → Bool
  | .int => true
  | _ => false
def uO (K : PySem.W.Frag) : Sp := fun vs H Q _ => ∃ v k, vs = [v] ∧ Kd K H v k ∧ Q (.bl (yl k)) H
section
variable {P : Program} {w : World} {K : PySem.W.Frag} {mg : Str → Option Value} {base : Heap} {f : Addr} {fd : FuncData}
theorem BA (F : Fun K "is_whole" "is_whole" cC f fd) (M : Mg mg) : FnOk P w K mg base CX0 1 f fd ["thing"] (uO K) := by
  refine F.ok rS (fun vs H Q E h => ?_) (fun cdv A outer s H vs Q E hr h => ?_)
  · obtain ⟨v, k, rfl, _⟩ := h
    rfl
  obtain ⟨v, k, rfl, hk, q⟩ := h
  refine ⟨_, (@ki _ _ _ (@nt _ _ _ _ (@uM _ _ _ _ _ _ _ (@tH _ _ _ _ _ _ _ _ _ uH fL M.m_isinstance uc (@cg _ _ _ _ _ (@eu _ 0 _ _ rfl lI dL dM) (@cg _ _ _ _ _ (@uK _ _ (.ty "int") _ _ oR M.m_int AG rfl nq nh) (@ff _) (ef rfl)) (ef rfl)) aW aV (ef rfl) (ia rfl mj)) (@uN _ _ _ _ _ (@wZ _ _ _ _ (@tH _ _ _ _ _ _ _ _ _ uH fL M.m_isinstance uc (@cg _ _ _ _ _ (@eu _ 0 _ _ rfl lI dL dM) (@cg _ _ _ _ _ (@uK _ _ (.ty "bool") _ _ nL M.m_bool yq rfl jz jy) (@ff _) (ef rfl)) (ef rfl)) aW aV (ef rfl) (ia rfl mj))))))), ?_⟩
  trivial
  refine ⟨_, hk, ?_⟩
  cases k with
  | int => exact ⟨_, hk, q⟩
  | bl => exact ⟨_, hk, q⟩
  | _ => exact q
end

section
variable {P : Program} {w : World} {K : PySem.W.Frag} {mg : Str → Option Value} {base : Heap} {f : Addr} {fd : FuncData}
theorem AR (F : Fun K "_law_whole" "_law_whole" cb f fd) (M : Mg mg) : FnOk P w K mg base CX0 1 f fd ["_law_found"] (uO K) := by
  refine F.ok qZ (fun vs H Q E h => ?_) (fun cdv A outer s H vs Q E hr h => ?_)
  · obtain ⟨v, k, rfl, _⟩ := h
    rfl
  obtain ⟨v, k, rfl, hk, q⟩ := h
  refine ⟨_, (@ki _ _ _ (@nt _ _ _ _ (@uM _ _ _ _ _ _ _ (@tH _ _ _ _ _ _ _ _ _ uH fi M.m_isinstance uc (@cg _ _ _ _ _ (@eu _ 0 _ _ rfl kL fk fm) (@cg _ _ _ _ _ (@uK _ _ (.ty "int") _ _ nM M.m_int AG rfl nq nh) (@ff _) (ef rfl)) (ef rfl)) aW aV (ef rfl) (ia rfl mj)) (@uN _ _ _ _ _ (@wZ _ _ _ _ (@tH _ _ _ _ _ _ _ _ _ uH fi M.m_isinstance uc (@cg _ _ _ _ _ (@eu _ 0 _ _ rfl kL fk fm) (@cg _ _ _ _ _ (@uK _ _ (.ty "bool") _ _ mR M.m_bool yq rfl jz jy) (@ff _) (ef rfl)) (ef rfl)) aW aV (ef rfl) (ia rfl mj))))))), ?_⟩
  trivial
  refine ⟨_, hk, ?_⟩
  cases k with
  | int => exact ⟨_, hk, q⟩
  | bl => exact ⟨_, hk, q⟩
  | _ => exact q
end

def dkn : PyData → Kn
  | .none => .non
  | .bool _ => .bl
  | .int _ => .int
  | .str _ => .str
  | .list _ => .lst
  | .tuple _ => .tup
  | _ => .dct
theorem v7 {K : PySem.W.Frag} {H : Hp} {v : V} {d : PyData} (R : Rep K H v d) : Kd K H v (dkn d) := by
  cases R with
  | non => exact rfl
  | bl b => exact rfl
  | int i => exact rfl
  | str z => exact rfl
  | lst h _ => exact .inl ⟨rfl, _, h⟩
  | tup h _ => exact .inr (.inl ⟨rfl, _, h⟩)
def ve : PyData → Bool
  | .none => true
  | _ => false
def xJ (ks : List Kd2) (lk : List Int) (p : Kd2 → Int → Bool) : PyData → Bool
  | .int i => inV (.int i) (uh ks lk p ks.length)
  | _ => false
def plB (ks : List Kd2) (lk : List Int) (p : Kd2 → Int → Bool) (b : Bool) (x : PyData) : Bool := if b then xJ ks lk p x else ve x && !(ur ks lk p)
def uY (f : Bool → List PyData → Bool) (t : Bool) : PyData → Bool
  | .tuple (.bool b :: r) => f b r && decide (b = t)
  | _ => false
def v8 (f : PyData → Bool) : List PyData → Bool
  | [x] => f x
  | _ => false
def wN (w1 w2 : Bool) (f g : Bool → List PyData → Bool) (v : PyData) : PyData → Bool
  | .int i => if i = 0 then uY f (!w1) v else if i = 1 then uY g (!w2) v else false
  | _ => false
def twoB (w0 w1 w2 : Bool) (f g : Bool → List PyData → Bool) (b : Bool) : List PyData → Bool
  | [u, v] => if b = w0 then uY f w1 u && uY g w2 v else wN w1 w2 f g v u
  | _ => false
def rdB (ks : List Kd2) (lk : List Int) : Nt → Bool → List PyData → Bool
  | .any => fun b => v8 fun x => b && ve x
  | .made s => fun b => v8 (plB ks lk (vf lk s) b)
  | .used s => fun b => v8 (plB ks lk (vg lk s) b)
  | .chief s => fun b => v8 (plB ks lk (uC lk s) b)
  | .over k1 k2 => fun b => v8 fun x => decide (b = decide (uI ks lk k1 > uI ks lk k2)) && ve x
  | .both x y => twoB true true true (rdB ks lk x) (rdB ks lk y)
  | .either x y => twoB false false false (rdB ks lk x) (rdB ks lk y)
  | .but x y => twoB true true false (rdB ks lk x) (rdB ks lk y)
def rdD (ks : List Kd2) (lk : List Int) (n : Nt) : PyData → Bool
  | .tuple (.bool b :: r) => rdB ks lk n b r
  | _ => false
def rdV (ks : List Kd2) (lk : List Int) (n : Nt) : PyData → V
  | .tuple (.bool b :: r) => if rdB ks lk n b r then .bl b else .non
  | _ => .non
theorem u7 {K : PySem.W.Frag} {H : Hp} {x : V} {b : Bool} (R : Rep K H x (.bool b)) : x = .bl b := by
  cases R
  rfl
theorem wD {K : PySem.W.Frag} {H : Hp} {v : V} {ds : List PyData} (R : Rep K H v (.tuple ds)) : ∃ a xs, v = .ref a ∧ SqT K H a xs ∧ RepAll K H xs ds := by
  cases R with
  | tup h r => exact ⟨_, _, rfl, h, r⟩
theorem zY {K : PySem.W.Frag} {H : Hp} {v : V} {d : PyData} (R : Rep K H v d) : v = .non ↔ ve d = true := by
  cases R <;> simp [ve]
theorem BZ {K : PySem.W.Frag} {H : Hp} {v : V} {d : PyData} (R : Rep K H v d) : decide (v = .non) = ve d := by
  cases R <;> simp [ve]
theorem A7 {ks : List Kd2} {lk : List Int} {p : Kd2 → Int → Bool} : ∀ i, (uh ks lk p i).all vD = true
  | 0 => rfl
  | i + 1 => by
    show (uh ks lk p i ++ _).all vD = true
    rw [List.all_append, A7 i, Bool.true_and]
    split
    · split <;> rfl
    · rfl
theorem Ad {ks : List Kd2} {lk : List Int} {p : Kd2 → Int → Bool} (h : lk.length = ks.length) : decide (((uh ks lk p ks.length).length : Int) = 0) = !(ur ks lk p) := by
  rw [← Ae h, ← yL h _ (Nat.le_refl _)]
  cases uh ks lk p ks.length with
  | nil => rfl
  | cons a b => simp; omega
theorem AI {ks : List Kd2} {lk : List Int} {n : Nt} {d : PyData} (h : rdD ks lk n d = true) : ∃ b r, d = .tuple (.bool b :: r) ∧ rdB ks lk n b r = true := by
  unfold rdD at h
  split at h
  · exact ⟨_, _, rfl, h⟩
  · cases h
theorem En {ks : List Kd2} {lk : List Int} {n : Nt} {d : PyData} {t : Bool} (h : rdD ks lk n d = false) : uY (rdB ks lk n) t d = false := by
  unfold rdD at h
  unfold uY
  split at h
  · rw [h]; rfl
  · rfl
theorem DT {ks : List Kd2} {lk : List Int} {n : Nt} {d : PyData} (h : rdD ks lk n d = false) : rdV ks lk n d = .non := by
  unfold rdD at h
  unfold rdV
  split at h
  · rw [h]; rfl
  · rfl
theorem ze {K : PySem.W.Frag} {H : Hp} {xs : List V} {ds : List PyData} (R : RepAll K H xs ds) : (∃ u z xu xz, ds = [u, z] ∧ xs = [xu, xz] ∧ Rep K H xu u ∧ Rep K H xz z) ∨ (xs.length ≠ 2 ∧ ∀ w0 w1 w2 f g b, twoB w0 w1 w2 f g b ds = false) := by
  cases R with
  | nil => exact .inr ⟨by decide, fun _ _ _ _ _ _ => rfl⟩
  | cons a R =>
    cases R with
    | nil => exact .inr ⟨by simp, fun _ _ _ _ _ _ => rfl⟩
    | cons b R =>
      cases R with
      | nil => exact .inl ⟨_, _, _, _, rfl, rfl, a, b⟩
      | cons c R => exact .inr ⟨by simp, fun _ _ _ _ _ _ => rfl⟩
theorem wI {K : PySem.W.Frag} {H : Hp} {xs : List V} {ds : List PyData} (R : RepAll K H xs ds) : (∃ u xu, ds = [u] ∧ xs = [xu] ∧ Rep K H xu u) ∨ (xs.length ≠ 1 ∧ ∀ f, v8 f ds = false) := by
  cases R with
  | nil => exact .inr ⟨by decide, fun _ => rfl⟩
  | cons a R =>
    cases R with
    | nil => exact .inl ⟨_, _, rfl, rfl, a⟩
    | cons b R => exact .inr ⟨by simp, fun _ => rfl⟩
def wR (wd : Str) (w0 w1 w2 : Bool) : Prop := (wd = "both" ∧ w0 = true ∧ w1 = true ∧ w2 = true) ∨ (wd = "either" ∧ w0 = false ∧ w1 = false ∧ w2 = false) ∨ (wd = "but" ∧ w0 = true ∧ w1 = true ∧ w2 = false)
structure OBok (P : Params) (K : PySem.W.Frag) (c : Addr) : Prop where
  ex : ∃ d1 d2 d3, KDct P K c [("both", .ref d1), ("either", .ref d2), ("but", .ref d3)] ∧ (∀ H, SqT K H d1 [.bl true, .bl true, .bl true]) ∧ (∀ H, SqT K H d2 [.bl false, .bl false, .bl false]) ∧ ∀ H, SqT K H d3 [.bl true, .bl true, .bl false]
theorem OBok.at {P : Params} {K : PySem.W.Frag} {c : Addr} {wd : Str} {w0 w1 w2 : Bool} (O : OBok P K c) (j : wR wd w0 w1 w2) : ∃ kvs dw, KDct P K c kvs ∧ vo kvs wd = some (.ref dw) ∧ ∀ H, SqT K H dw [.bl w0, .bl w1, .bl w2] := by
  obtain ⟨d1, d2, d3, D, h1, h2, h3⟩ := O.ex
  rcases j with ⟨rfl, rfl, rfl, rfl⟩ | ⟨rfl, rfl, rfl, rfl⟩ | ⟨rfl, rfl, rfl, rfl⟩
  · exact ⟨_, d1, D, rfl, h1⟩
  · exact ⟨_, d2, D, rfl, h2⟩
  · exact ⟨_, d3, D, rfl, h3⟩
theorem OBok.no {P : Params} {K : PySem.W.Frag} {c : Addr} {wd : Str} (O : OBok P K c) (h : (wd == "both") = false ∧ (wd == "either") = false ∧ (wd == "but") = false) : ∃ kvs, KDct P K c kvs ∧ vo kvs wd = none := by
  obtain ⟨d1, d2, d3, D, _⟩ := O.ex
  have ne : ∀ {a b : Str}, (a == b) = false → ¬ b = a := fun h e => by rw [e] at h; simp at h
  exact ⟨_, D, by rw [vO (ne h.1), vO (ne h.2.1), vO (ne h.2.2)]; rfl⟩
theorem G8 {P : Params} {K : PySem.W.Frag} {c d1 d2 d3 : Addr} {k1 k2 k3 : Tok} {ep n1 n2 n3 : Nat} {o1 o2 o3 : Option Addr} {s1 s2 s3 : Array (Option Value)} (sm : (c == sysModules) = false)
    (ob : K.lookup c = some ⟨.type "dict", none, .dict #[⟨PyData.keyHash P "both", .str "both" k1, .ref d1⟩, ⟨PyData.keyHash P "either", .str "either" k2, .ref d2⟩, ⟨PyData.keyHash P "but", .str "but" k3, .ref d3⟩] ep, #[]⟩)
    (h1 : K.lookup d1 = some ⟨.type "tuple", o1, .seq #[.bool true, .bool true, .bool true] n1, s1⟩) (h2 : K.lookup d2 = some ⟨.type "tuple", o2, .seq #[.bool false, .bool false, .bool false] n2, s2⟩) (h3 : K.lookup d3 = some ⟨.type "tuple", o3, .seq #[.bool true, .bool true, .bool false] n3, s3⟩) : OBok P K c :=
  ⟨d1, d2, d3, ⟨sm, (by show List.Nodup [("both" : Str), "either", "but"]; decide), _, _, ob, ⟨_, rfl⟩, rfl, rfl, ⟨_, rfl⟩, rfl, rfl, ⟨_, rfl⟩, rfl, rfl, trivial⟩,
    fun H => .inr ⟨_, _, _, h1, rfl, rfl, by decide, .cons rfl (.cons rfl (.cons rfl .nil))⟩, fun H => .inr ⟨_, _, _, h2, rfl, rfl, by decide, .cons rfl (.cons rfl (.cons rfl .nil))⟩, fun H => .inr ⟨_, _, _, h3, rfl, rfl, by decide, .cons rfl (.cons rfl (.cons rfl .nil))⟩⟩
def C8 (K : PySem.W.Frag) : Sp := fun vs H Q _ => ∃ (t kl lt : Addr) (n : Nt) (ks : List Kd2) (lk : List Int), vs = [.ref t, .ref kl, .ref lt] ∧ ud K H (.ref t) n ∧ vQ n ∧ Ground K H kl lt ks lk ∧ ∀ l H', Same H H' → H' l = some (.lst (uh ks lk (tZ lk n) ks.length)) → Q (.ref l) H'
def Cp (K : PySem.W.Frag) : Sp := fun vs H Q _ => ∃ (t kl lt v : Addr) (n : Nt) (ks : List Kd2) (lk : List Int) (b : Bool) (x : PyData), vs = [.ref t, .ref kl, .ref lt, .ref v] ∧ ud K H (.ref t) n ∧ vQ n ∧ Ground K H kl lt ks lk ∧ Rep K H (.ref v) (.tuple [.bool b, x]) ∧ ∀ H', Same H H' → Q (.bl (plB ks lk (tZ lk n) b x)) H'
def zl (K : PySem.W.Frag) : Sp := fun vs H Q _ => ∃ (t kl lt v : Addr) (n : Nt) (ks : List Kd2) (lk : List Int) (b : Bool) (x : PyData), vs = [.ref t, .ref kl, .ref lt, .ref v] ∧ ud K H (.ref t) n ∧ n.ok ∧ n.dp = 1 ∧ Ground K H kl lt ks lk ∧ Rep K H (.ref v) (.tuple [.bool b, x]) ∧ ∀ H', Same H H' → Q (.bl (rdB ks lk n b [x])) H'
def xm (K : PySem.W.Frag) (d : Nat) : Sp := fun vs H Q _ => ∃ (t kl lt : Addr) (v : V) (n : Nt) (ks : List Kd2) (lk : List Int) (dt : PyData), vs = [.ref t, .ref kl, .ref lt, v] ∧ ud K H (.ref t) n ∧ n.ok ∧ n.dp ≤ d ∧ Ground K H kl lt ks lk ∧ Rep K H v dt ∧ ∀ H', Same H H' → Q (.bl (rdD ks lk n dt)) H'
def DH (K : PySem.W.Frag) (d : Nat) : Sp := fun vs H Q _ => ∃ (tr : Bool) (t kl lt : Addr) (v : V) (n : Nt) (ks : List Kd2) (lk : List Int) (dt : PyData), vs = [.bl tr, .ref t, .ref kl, .ref lt, v] ∧ ud K H (.ref t) n ∧ n.ok ∧ n.dp ≤ d ∧ Ground K H kl lt ks lk ∧ Rep K H v dt ∧ ∀ H', Same H H' → Q (.bl (uY (rdB ks lk n) tr dt)) H'
def Ff (K : PySem.W.Frag) (d : Nat) : Sp := fun vs H Q _ => ∃ (t kl lt v : Addr) (wd : Str) (w0 w1 w2 : Bool) (t1 t2 : Addr) (x y : Nt) (ks : List Kd2) (lk : List Int) (b : Bool) (u z : PyData), vs = [.ref t, .ref kl, .ref lt, .ref v] ∧ SqT K H t [.str wd, .ref t1, .ref t2] ∧ wR wd w0 w1 w2 ∧ ud K H (.ref t1) x ∧ ud K H (.ref t2) y ∧ x.ok ∧ y.ok ∧ x.dp ≤ d ∧ y.dp ≤ d ∧ Ground K H kl lt ks lk ∧ Rep K H (.ref v) (.tuple [.bool b, u, z]) ∧ ∀ H', Same H H' → Q (.bl (twoB w0 w1 w2 (rdB ks lk x) (rdB ks lk y) b [u, z])) H'
def Ab (K : PySem.W.Frag) : Sp := fun vs H Q _ => ∃ (t kl lt : Addr) (v : V) (n : Nt) (ks : List Kd2) (lk : List Int) (dt : PyData), vs = [.ref t, .ref kl, .ref lt, v] ∧ ud K H (.ref t) n ∧ n.ok ∧ n.dp ≤ 5 ∧ Ground K H kl lt ks lk ∧ Rep K H v dt ∧ ∀ H', Same H H' → Q (rdV ks lk n dt) H'
section
variable {P : Program} {w : World} {K : PySem.W.Frag} {mg : Str → Option Value} {base : Heap} {f : Addr} {fd : FuncData}
theorem Av (F : Fun K "places_for" "places_for" bC f fd) (M : Mg mg) (dj : Cal P w K mg base CX0 "made_places" 1 ["kinds", "look", "stuff"] (uL K vf)) (dm : Cal P w K mg base CX0 "used_places" 1 ["kinds", "look", "use"] (uL K vg)) (cU : Cal P w K mg base CX0 "chief_places" 1 ["kinds", "look", "stuff"] (uL K uC)) : FnOk P w K mg base CX0 2 f fd ["told", "kinds", "look"] (C8 K) := by
  refine F.ok qx (fun vs H Q E h => ?_) (fun cdv A outer s H vs Q E hr h => ?_)
  · obtain ⟨t, kl, lt, n, ks, lk, rfl, _⟩ := h
    rfl
  obtain ⟨t, kl, lt, n, ks, lk, rfl, R, on, G, q⟩ := h
  refine ⟨_, (@fz _ _ _ _ _ (@tL _ _ _ _ _ _ _ _ (@qq _ _ _ _ _ _ _ _ (@tT _) (@m9 _ _ _ _ _ _ _ (@ni _) (@eu _ 0 _ _ rfl dF av aw) (@eH _ _ _ _) (fun _ _ => rfl)) (@tN _ _ _ _) (r8 _)) (@ki _ _ _ (@nt _ _ _ _ (@m8 _ _ _ _ _ _ _ _ _ _ _ dj hr iJ (@cg _ _ _ _ _ (@eu _ 1 _ _ rfl gu aC aD) (@cg _ _ _ _ _ (@eu _ 2 _ _ rfl gv aT aU) (@cg _ _ _ _ _ (@m9 _ _ _ _ _ _ _ (@ni _) (@eu _ 0 _ _ rfl dF av aw) (@eH _ _ _ _) (fun _ _ => rfl)) (@ff _) (ef rfl)) (ef rfl)) (ef rfl)) (by decide) jA (ef rfl) (ia rfl (ia rfl mj))))) (@tF _)) (@fz _ _ _ _ _ (@tL _ _ _ _ _ _ _ _ (@qq _ _ _ _ _ _ _ _ (@tT _) (@m9 _ _ _ _ _ _ _ (@ni _) (@eu _ 0 _ _ rfl dF av aw) (@eH _ _ _ _) (fun _ _ => rfl)) (@tN _ _ _ _) (r8 _)) (@ki _ _ _ (@nt _ _ _ _ (@m8 _ _ _ _ _ _ _ _ _ _ _ dm hr iK (@cg _ _ _ _ _ (@eu _ 1 _ _ rfl gu aC aD) (@cg _ _ _ _ _ (@eu _ 2 _ _ rfl gv aT aU) (@cg _ _ _ _ _ (@m9 _ _ _ _ _ _ _ (@ni _) (@eu _ 0 _ _ rfl dF av aw) (@eH _ _ _ _) (fun _ _ => rfl)) (@ff _) (ef rfl)) (ef rfl)) (ef rfl)) (by decide) jB (ef rfl) (ia rfl (ia rfl mj))))) (@tF _)) (@ki _ _ _ (@nt _ _ _ _ (@m8 _ _ _ _ _ _ _ _ _ _ _ cU hr ii (@cg _ _ _ _ _ (@eu _ 1 _ _ rfl gu aC aD) (@cg _ _ _ _ _ (@eu _ 2 _ _ rfl gv aT aU) (@cg _ _ _ _ _ (@m9 _ _ _ _ _ _ _ (@ni _) (@eu _ 0 _ _ rfl dF av aw) (@eH _ _ _ _) (fun _ _ => rfl)) (@ff _) (ef rfl)) (ef rfl)) (ef rfl)) (by decide) iV (ef rfl) (ia rfl (ia rfl mj))))))), ?_⟩
  trivial
  cases n with
  | any => exact on.elim
  | made s =>
    obtain ⟨x0, y0, T, r0, r1⟩ := tS R
    cases nj r0
    cases nj r1
    refine ⟨_, T, _, at0, rfl, ?_⟩
    rw [if_pos (by decide)]
    exact ⟨_, T, _, at1, _, _, s, ks, lk, rfl, G, fun l xs H1 S1 hl _ he => q l H1 S1 (by rw [hl, he]; rfl)⟩
  | used s =>
    obtain ⟨x0, y0, T, r0, r1⟩ := tS R
    cases nj r0
    cases nj r1
    refine ⟨_, T, _, at0, rfl, ?_⟩
    rw [if_neg (by decide)]
    refine ⟨_, T, _, at0, rfl, ?_⟩
    rw [if_pos (by decide)]
    exact ⟨_, T, _, at1, _, _, s, ks, lk, rfl, G, fun l xs H1 S1 hl _ he => q l H1 S1 (by rw [hl, he]; rfl)⟩
  | chief s =>
    obtain ⟨x0, y0, T, r0, r1⟩ := tS R
    cases nj r0
    cases nj r1
    refine ⟨_, T, _, at0, rfl, ?_⟩
    rw [if_neg (by decide)]
    refine ⟨_, T, _, at0, rfl, ?_⟩
    rw [if_neg (by decide)]
    exact ⟨_, T, _, at1, _, _, s, ks, lk, rfl, G, fun l xs H1 S1 hl _ he => q l H1 S1 (by rw [hl, he]; rfl)⟩
  | over a b => exact on.elim
  | both a b => exact on.elim
  | either a b => exact on.elim
  | but a b => exact on.elim
theorem z6 (F : Fun K "place_holds" "place_holds" aP f fd) (M : Mg mg) (cM : Cal P w K mg base CX0 "is_whole" 1 ["thing"] (uO K)) (iT : Cal P w K mg base CX0 "places_for" 2 ["told", "kinds", "look"] (C8 K)) : FnOk P w K mg base CX0 3 f fd ["told", "kinds", "look", "reason"] (Cp K) := by
  refine F.ok jM (fun vs H Q E h => ?_) (fun cdv A outer s H vs Q E hr h => ?_)
  · obtain ⟨t, kl, lt, v, n, ks, lk, b, x, rfl, _⟩ := h
    rfl
  obtain ⟨t, kl, lt, v, n, ks, lk, b, x, rfl, R, on, G, Rv, q⟩ := h
  refine ⟨_, (@fz _ _ _ _ _ (@tK _ _ 4 _ _ _ _ jM.nd rfl nQ (@m8 _ _ _ _ _ _ _ _ _ _ _ iT hr iL (@cg _ _ _ _ _ (@eu _ 0 _ _ rfl nN av aw) (@cg _ _ _ _ _ (@eu _ 1 _ _ rfl nO aC aD) (@cg _ _ _ _ _ (@eu _ 2 _ _ rfl nP aT aU) (@ff _) (ef rfl)) (ef rfl)) (ef rfl)) (by decide) pD (ef rfl) (ia rfl (ia rfl mj))) (tM rfl) (.inl rfl)) (@fz _ _ _ _ _ (@tL _ _ _ _ _ _ _ _ (@ua _ _ _ (@m9 _ _ _ _ _ _ _ (@ni _) (@eu _ 3 _ _ rfl d8 aJ aK) (@eH _ _ _ _) (fun _ _ => rfl)) (um rfl)) (@ki _ _ _ (@nt _ _ _ _ (@uM _ _ _ _ _ _ _ (@m8 _ _ _ _ _ _ _ _ _ _ _ cM hr jn (@cg _ _ _ _ _ (@m9 _ _ _ _ _ _ _ (@ni _) (@eu _ 3 _ _ rfl d8 aJ aK) (@eH _ _ _ _) (fun _ _ => rfl)) (@ff _) (ef rfl)) (by decide) my (ef rfl) mj) (@uN _ _ _ _ _ (@uq _ _ _ _ _ _ _ _ vW (@m9 _ _ _ _ _ _ _ (@ni _) (@eu _ 3 _ _ rfl d8 aJ aK) (@eH _ _ _ _) (fun _ _ => rfl)) (@eu _ 4 _ _ rfl ja iW iX) (by with_unfolding_all rfl)))))) (@tF _)) (@ki _ _ _ (@nt _ _ _ _ (@uM _ _ _ _ _ _ _ (@uq _ _ _ _ _ _ _ _ (@wu _) (@m9 _ _ _ _ _ _ _ (@ni _) (@eu _ 3 _ _ rfl d8 aJ aK) (@eH _ _ _ _) (fun _ _ => rfl)) (@uy _ _ _) (r8 _)) (@uN _ _ _ _ _ (@uq _ _ _ _ _ _ _ _ (@tT _) (@tH _ _ _ _ _ _ _ _ _ tO md M.m_len uo (@cg _ _ _ _ _ (@eu _ 4 _ _ rfl ja iW iX) (@ff _) (ef rfl)) bg bf (ef rfl) mj) (@eH _ _ _ _) (r8 _)))))))), ?_⟩
  trivial
  refine ⟨t, kl, lt, n, ks, lk, rfl, R, on, G, fun l H1 S1 hl => ?_⟩
  obtain ⟨x0, y0, T, r0, r1⟩ := tS Rv
  cases u7 r0
  have T1 := Same.tup S1 T
  refine ⟨_, T1, _, at0, b, rfl, ?_⟩
  cases b with
  | true =>
    rw [if_pos rfl]
    refine ⟨_, T1, _, at1, _, _, rfl, v7 (Rep.same S1 r1), _, rfl, ?_⟩
    cases r1 with
    | int i =>
      rw [if_pos (show yl (dkn (.int i)) = true from rfl)]
      exact ⟨_, T1, _, at1, l, _, rfl, .inl (SqL.of hl), rfl, A7 _, q _ S1⟩
    | non => exact q _ S1
    | bl b => exact q _ S1
    | str z => exact q _ S1
    | lst a b => exact q _ S1
    | tup a b => exact q _ S1
  | false =>
    rw [if_neg (by decide)]
    refine ⟨_, T1, _, at1, ?_⟩
    have e9 : plB ks lk (tZ lk n) false x = (ve x && !(ur ks lk (tZ lk n))) := rfl
    by_cases hn : y0 = .non
    · rw [if_pos hn]
      refine ⟨_, rfl, _, .inl (SqL.of hl), ?_⟩
      rw [Ad G.len]
      rw [(zY r1).mp hn, Bool.true_and] at e9
      rw [← e9]
      exact q _ S1
    · rw [if_neg hn]
      have : ve x = false := by
        cases e : ve x with
        | true => exact absurd ((zY r1).mpr e) hn
        | false => rfl
      rw [this, Bool.false_and] at e9
      rw [← e9]
      exact q _ S1
theorem A2 (F : Fun K "one_holds" "one_holds" bL f fd) (M : Mg mg) (fO : Cal P w K mg base CX0 "is_over" 2 ["kinds", "look", "one", "other"] (zm K)) (gX : Cal P w K mg base CX0 "place_holds" 3 ["told", "kinds", "look", "reason"] (Cp K)) : FnOk P w K mg base CX0 4 f fd ["told", "kinds", "look", "reason"] (zl K) := by
  refine F.ok re (fun vs H Q E h => ?_) (fun cdv A outer s H vs Q E hr h => ?_)
  · obtain ⟨t, kl, lt, v, n, ks, lk, b, x, rfl, _⟩ := h
    rfl
  obtain ⟨t, kl, lt, v, n, ks, lk, b, x, rfl, R, ok, dp, G, Rv, q⟩ := h
  refine ⟨_, (@fz _ _ _ _ _ (@tL _ _ _ _ _ _ _ _ (@qq _ _ _ _ _ _ _ _ (@tT _) (@m9 _ _ _ _ _ _ _ (@ni _) (@eu _ 0 _ _ rfl dU av aw) (@eH _ _ _ _) (fun _ _ => rfl)) (@tN _ _ _ _) (r8 _)) (@ki _ _ _ (@nt _ _ _ _ (@uM _ _ _ _ _ _ _ (@m9 _ _ _ _ _ _ _ (@ni _) (@eu _ 3 _ _ rfl dW aJ aK) (@eH _ _ _ _) (fun _ _ => rfl)) (@uN _ _ _ _ _ (@uq _ _ _ _ _ _ _ _ (@wu _) (@m9 _ _ _ _ _ _ _ (@ni _) (@eu _ 3 _ _ rfl dW aJ aK) (@eH _ _ _ _) (fun _ _ => rfl)) (@uy _ _ _) (r8 _)))))) (@tF _)) (@fz _ _ _ _ _ (@tL _ _ _ _ _ _ _ _ (@qq _ _ _ _ _ _ _ _ (@tT _) (@m9 _ _ _ _ _ _ _ (@ni _) (@eu _ 0 _ _ rfl dU av aw) (@eH _ _ _ _) (fun _ _ => rfl)) (@tN _ _ _ _) (r8 _)) (@ki _ _ _ (@nt _ _ _ _ (@uM _ _ _ _ _ _ _ (@uq _ _ _ _ _ _ _ _ (@tT _) (@m9 _ _ _ _ _ _ _ (@ni _) (@eu _ 3 _ _ rfl dW aJ aK) (@eH _ _ _ _) (fun _ _ => rfl)) (@m8 _ _ _ _ _ _ _ _ _ _ _ fO hr kY (@cg _ _ _ _ _ (@eu _ 1 _ _ rfl kM aC aD) (@cg _ _ _ _ _ (@eu _ 2 _ _ rfl kN aT aU) (@cg _ _ _ _ _ (@m9 _ _ _ _ _ _ _ (@ni _) (@eu _ 0 _ _ rfl dU av aw) (@eH _ _ _ _) (fun _ _ => rfl)) (@cg _ _ _ _ _ (@m9 _ _ _ _ _ _ _ (@ni _) (@eu _ 0 _ _ rfl dU av aw) (@eH _ _ _ _) (fun _ _ => rfl)) (@ff _) (ef rfl)) (ef rfl)) (ef rfl)) (ef rfl)) (by decide) nz (ef rfl) (ia rfl (ia rfl (ia rfl mj)))) (r8 _)) (@uN _ _ _ _ _ (@uq _ _ _ _ _ _ _ _ (@wu _) (@m9 _ _ _ _ _ _ _ (@ni _) (@eu _ 3 _ _ rfl dW aJ aK) (@eH _ _ _ _) (fun _ _ => rfl)) (@uy _ _ _) (r8 _)))))) (@tF _)) (@ki _ _ _ (@nt _ _ _ _ (@m8 _ _ _ _ _ _ _ _ _ _ _ gX hr iU (@cg _ _ _ _ _ (@eu _ 0 _ _ rfl dU av aw) (@cg _ _ _ _ _ (@eu _ 1 _ _ rfl kM aC aD) (@cg _ _ _ _ _ (@eu _ 2 _ _ rfl kN aT aU) (@cg _ _ _ _ _ (@eu _ 3 _ _ rfl dW aJ aK) (@ff _) (ef rfl)) (ef rfl)) (ef rfl)) (ef rfl)) (by decide) oA (ef rfl) (ia rfl (ia rfl (ia rfl mj)))))))), ?_⟩
  trivial
  obtain ⟨v0, v1, Tv, r0, r1⟩ := tS Rv
  cases u7 r0
  cases n with
  | any =>
    obtain ⟨x0, T, s0⟩ := vc R
    cases nj s0
    refine ⟨_, T, _, at0, rfl, ?_⟩
    rw [if_pos (by decide)]
    refine ⟨_, Tv, _, at0, b, rfl, ?_⟩
    cases b with
    | true =>
      rw [if_pos rfl]
      refine ⟨_, Tv, _, at1, ?_⟩
      rw [BZ r1]
      exact q _ (Same.refl _)
    | false => exact q _ (Same.refl _)
  | made s =>
    obtain ⟨x0, y0, T, s0, s1⟩ := tS R
    cases nj s0
    refine ⟨_, T, _, at0, rfl, ?_⟩
    rw [if_neg (by decide)]
    refine ⟨_, T, _, at0, rfl, ?_⟩
    rw [if_neg (by decide)]
    exact ⟨t, kl, lt, v, _, ks, lk, b, x, rfl, R, trivial, G, Rv, q⟩
  | used s =>
    obtain ⟨x0, y0, T, s0, s1⟩ := tS R
    cases nj s0
    refine ⟨_, T, _, at0, rfl, ?_⟩
    rw [if_neg (by decide)]
    refine ⟨_, T, _, at0, rfl, ?_⟩
    rw [if_neg (by decide)]
    exact ⟨t, kl, lt, v, _, ks, lk, b, x, rfl, R, trivial, G, Rv, q⟩
  | chief s =>
    obtain ⟨x0, y0, T, s0, s1⟩ := tS R
    cases nj s0
    refine ⟨_, T, _, at0, rfl, ?_⟩
    rw [if_neg (by decide)]
    refine ⟨_, T, _, at0, rfl, ?_⟩
    rw [if_neg (by decide)]
    exact ⟨t, kl, lt, v, _, ks, lk, b, x, rfl, R, trivial, G, Rv, q⟩
  | over k1 k2 =>
    obtain ⟨x0, y0, z0, T, s0, s1, s2⟩ := tW R
    cases nj s0
    obtain ⟨p1, rfl, T1⟩ := vm s1
    obtain ⟨p2, rfl, T2⟩ := vm s2
    refine ⟨_, T, _, at0, rfl, ?_⟩
    rw [if_neg (by decide)]
    refine ⟨_, T, _, at0, rfl, ?_⟩
    rw [if_pos (by decide)]
    refine ⟨_, Tv, _, at0, _, T, _, at1, _, T, _, at2, _, _, _, _, ks, lk, k1, k2, rfl, G, T1, ok.1, T2, ok.2, fun H1 S1 => ⟨rfl, ?_⟩⟩
    have e9 : rdB ks lk (.over k1 k2) b [x] = (decide (b = decide (uI ks lk k1 > uI ks lk k2)) && ve x) := rfl
    by_cases e : b = decide (uI ks lk k1 > uI ks lk k2)
    · rw [if_pos (by rw [e])]
      refine ⟨_, Same.tup S1 Tv, _, at1, ?_⟩
      rw [BZ r1]
      rw [decide_eq_true e, Bool.true_and] at e9
      rw [← e9]
      exact q _ S1
    · rw [if_neg fun z => e (by injection z)]
      rw [decide_eq_false e, Bool.false_and] at e9
      rw [← e9]
      exact q _ S1
  | both a b => exact absurd dp (by have := Nt.dp_pos a; show ¬(max a.dp b.dp + 1 = 1); omega)
  | either a b => exact absurd dp (by have := Nt.dp_pos a; show ¬(max a.dp b.dp + 1 = 1); omega)
  | but a b => exact absurd dp (by have := Nt.dp_pos a; show ¬(max a.dp b.dp + 1 = 1); omega)
theorem DP {L d : Nat} (F : Fun K "says" "says" dG f fd) (M : Mg mg) (gj : Cal P w K mg base CX0 "holds_up" L ["told", "kinds", "look", "reason"] (xm K d)) : FnOk P w K mg base CX0 (L + 1) f fd ["truth", "told", "kinds", "look", "reason"] (DH K d) := by
  refine F.ok sP (fun vs H Q E h => ?_) (fun cdv A outer s H vs Q E hr h => ?_)
  · obtain ⟨tr, t, kl, lt, v, n, ks, lk, dt, rfl, _⟩ := h
    rfl
  obtain ⟨tr, t, kl, lt, v, n, ks, lk, dt, rfl, R, ok, dp, G, Rv, q⟩ := h
  refine ⟨_, (@ki _ _ _ (@nt _ _ _ _ (@uM _ _ _ _ _ _ _ (@m8 _ _ _ _ _ _ _ _ _ _ _ gj hr nR (@cg _ _ _ _ _ (@eu _ 1 _ _ rfl sI av aw) (@cg _ _ _ _ _ (@eu _ 2 _ _ rfl sJ aC aD) (@cg _ _ _ _ _ (@eu _ 3 _ _ rfl sK aT aU) (@cg _ _ _ _ _ (@eu _ 4 _ _ rfl rf aJ aK) (@ff _) (ef rfl)) (ef rfl)) (ef rfl)) (ef rfl)) (by omega) mz (ef rfl) (ia rfl (ia rfl (ia rfl mj)))) (@uN _ _ _ _ _ (@uq _ _ _ _ _ _ _ _ (@tT _) (@m9 _ _ _ _ _ _ _ (@ni _) (@eu _ 4 _ _ rfl rf aJ aK) (@eH _ _ _ _) (fun _ _ => rfl)) (@eu _ 0 _ _ rfl sH sF sG) (r8 _)))))), ?_⟩
  trivial
  refine ⟨t, kl, lt, v, n, ks, lk, dt, rfl, R, ok, dp, G, Rv, fun H1 S1 => ?_⟩
  refine ⟨_, rfl, ?_⟩
  cases e : rdD ks lk n dt with
  | false =>
    rw [if_neg (by decide), ← En (t := tr) e]
    exact q _ S1
  | true =>
    rw [if_pos rfl]
    obtain ⟨b, r, rfl, hb⟩ := AI e
    obtain ⟨a, xs, rfl, T, ra⟩ := wD Rv
    obtain ⟨x0, ys, rfl, r0, _⟩ := uB ra
    cases u7 r0
    have e9 : uY (rdB ks lk n) tr (.tuple (.bool b :: r)) = decide (V.bl b = V.bl tr) := by
      show (rdB ks lk n b r && decide (b = tr)) = _
      rw [hb, Bool.true_and]
      exact decide_eq_decide.mpr ⟨fun z => by rw [z], fun z => by injection z⟩
    refine ⟨_, rfl, _, Same.tup S1 T, _, at0, rfl, ?_⟩
    rw [← e9]
    exact q _ S1
theorem E4 {L d : Nat} {c_OF_BOTH : Addr} (F : Fun K "two_hold" "two_hold" aO f fd) (M : Mg mg) (A_OF_BOTH : mg "OF_BOTH" = some (.ref c_OF_BOTH)) (O : OBok w.params K c_OF_BOTH) (cM : Cal P w K mg base CX0 "is_whole" 1 ["thing"] (uO K)) (rK : Cal P w K mg base CX0 "says" (L + 1) ["truth", "told", "kinds", "look", "reason"] (DH K d)) : FnOk P w K mg base CX0 (L + 2) f fd ["told", "kinds", "look", "reason"] (Ff K d) := by
  refine F.ok gI (fun vs H Q E h => ?_) (fun cdv A outer s H vs Q E hr h => ?_)
  · obtain ⟨t, kl, lt, v, wd, w0, w1, w2, t1, t2, x, y, ks, lk, b, u, z, rfl, _⟩ := h
    rfl
  obtain ⟨t, kl, lt, v, wd, w0, w1, w2, t1, t2, x, y, ks, lk, b, u, z, rfl, T, j, R1, R2, ok1, ok2, d1, d2, G, Rv, q⟩ := h
  refine ⟨_, (@fz _ _ _ _ _ (@tK _ _ 4 _ _ _ _ gI.nd rfl rg (@FQ _ _ _ _ _ _ (@Ck _ _ _ _ _ lJ A_OF_BOTH (show RelV (.ref c_OF_BOTH) _ from rfl) nA) (@m9 _ _ _ _ _ _ _ (@ni _) (@eu _ 0 _ _ rfl fY av aw) (@eH _ _ _ _) (fun _ _ => rfl)) (fun _ _ => rfl)) (tM rfl) (.inl rfl)) (@fz _ _ _ _ _ (@tL _ _ _ _ _ _ _ _ (@qq _ _ _ _ _ _ _ _ (@tT _) (@m9 _ _ _ _ _ _ _ (@ni _) (@eu _ 3 _ _ rfl eI aJ aK) (@eH _ _ _ _) (fun _ _ => rfl)) (@m9 _ _ _ _ _ _ _ (@ni _) (@eu _ 4 _ _ rfl fZ iY iZ) (@eH _ _ _ _) (fun _ _ => rfl)) (r8 _)) (@fz _ _ _ _ _ (@tK _ _ 5 _ _ _ _ gI.nd rfl rj (@m8 _ _ _ _ _ _ _ _ _ _ _ rK hr gc (@cg _ _ _ _ _ (@m9 _ _ _ _ _ _ _ (@ni _) (@eu _ 4 _ _ rfl fZ iY iZ) (@eH _ _ _ _) (fun _ _ => rfl)) (@cg _ _ _ _ _ (@m9 _ _ _ _ _ _ _ (@ni _) (@eu _ 0 _ _ rfl fY av aw) (@eH _ _ _ _) (fun _ _ => rfl)) (@cg _ _ _ _ _ (@eu _ 1 _ _ rfl iM aC aD) (@cg _ _ _ _ _ (@eu _ 2 _ _ rfl iN aT aU) (@cg _ _ _ _ _ (@m9 _ _ _ _ _ _ _ (@ni _) (@eu _ 3 _ _ rfl eI aJ aK) (@eH _ _ _ _) (fun _ _ => rfl)) (@ff _) (ef rfl)) (ef rfl)) (ef rfl)) (ef rfl)) (ef rfl)) (by omega) oB (ef rfl) (ia rfl (ia rfl (ia rfl (ia rfl mj))))) (tM rfl) (.inl rfl)) (@ki _ _ _ (@nt _ _ _ _ (@uM _ _ _ _ _ _ _ (@eu _ 5 _ _ rfl rh dA dB) (@uN _ _ _ _ _ (@m8 _ _ _ _ _ _ _ _ _ _ _ rK hr gc (@cg _ _ _ _ _ (@m9 _ _ _ _ _ _ _ (@ni _) (@eu _ 4 _ _ rfl fZ iY iZ) (@eH _ _ _ _) (fun _ _ => rfl)) (@cg _ _ _ _ _ (@m9 _ _ _ _ _ _ _ (@ni _) (@eu _ 0 _ _ rfl fY av aw) (@eH _ _ _ _) (fun _ _ => rfl)) (@cg _ _ _ _ _ (@eu _ 1 _ _ rfl iM aC aD) (@cg _ _ _ _ _ (@eu _ 2 _ _ rfl iN aT aU) (@cg _ _ _ _ _ (@m9 _ _ _ _ _ _ _ (@ni _) (@eu _ 3 _ _ rfl eI aJ aK) (@eH _ _ _ _) (fun _ _ => rfl)) (@ff _) (ef rfl)) (ef rfl)) (ef rfl)) (ef rfl)) (ef rfl)) (by omega) oB (ef rfl) (ia rfl (ia rfl (ia rfl (ia rfl mj)))))))))) (@tF _)) (@fz _ _ _ _ _ (@tK _ _ 6 _ _ _ _ gI.nd rfl rm (@m9 _ _ _ _ _ _ _ (@ni _) (@eu _ 3 _ _ rfl eI aJ aK) (@eH _ _ _ _) (fun _ _ => rfl)) (tM rfl) (.inl rfl)) (@fz _ _ _ _ _ (@tL _ _ _ _ _ _ _ _ (@PW.pt _ _ _ (@uF _ _ _ _ _ _ _ (@uz _ _ _ _ (@ua _ _ _ (@m8 _ _ _ _ _ _ _ _ _ _ _ cM hr kZ (@cg _ _ _ _ _ (@eu _ 6 _ _ rfl gb lW lX) (@ff _) (ef rfl)) (by omega) my (ef rfl) mj) (um rfl))) (@uU _ _ _ _ (@uz _ _ _ _ (@zf _ _ _ _ _ _ _ _ _ _ _ _ zv zv (@eH _ _ _ _) (@eu _ 6 _ _ rfl gb lW lX) (@eH _ _ _ _) (by with_unfolding_all rfl)))))) (@ki _ _ _ (@nt _ _ _ _ (@uA _ _ _ _))) (@tF _)) (@ki _ _ _ (@nt _ _ _ _ (@m8 _ _ _ _ _ _ _ _ _ _ _ rK hr gc (@cg _ _ _ _ _ (@wZ _ _ _ _ (@m9 _ _ _ _ _ _ _ (@ni _) (@eu _ 4 _ _ rfl fZ iY iZ) (@tQ _ _ _ _ _ _ _ _ (@uQ _) (@eH _ _ _ _) (@eu _ 6 _ _ rfl gb lW lX)) (fun _ _ => rfl))) (@cg _ _ _ _ _ (@m9 _ _ _ _ _ _ _ (@ni _) (@eu _ 0 _ _ rfl fY av aw) (@tQ _ _ _ _ _ _ _ _ (@uQ _) (@eH _ _ _ _) (@eu _ 6 _ _ rfl gb lW lX)) (fun _ _ => rfl)) (@cg _ _ _ _ _ (@eu _ 1 _ _ rfl iM aC aD) (@cg _ _ _ _ _ (@eu _ 2 _ _ rfl iN aT aU) (@cg _ _ _ _ _ (@m9 _ _ _ _ _ _ _ (@ni _) (@eu _ 3 _ _ rfl eI aJ aK) (@eH _ _ _ _) (fun _ _ => rfl)) (@ff _) (ef rfl)) (ef rfl)) (ef rfl)) (ef rfl)) (ef rfl)) (by omega) oB (ef rfl) (ia rfl (ia rfl (ia rfl (ia rfl mj))))))))))), ?_⟩
  trivial
  obtain ⟨kvs, dw, D, hv, TW⟩ := O.at j
  obtain ⟨v0, v1, v2, Tv, r0, r1, r2⟩ := tW Rv
  cases u7 r0
  refine ⟨_, T, _, at0, _, D, _, rfl, _, hv, _, Tv, _, at0, _, rfl, _, TW H, _, at0, rfl, ?_⟩
  by_cases e : b = w0
  · have e8 : twoB w0 w1 w2 (rdB ks lk x) (rdB ks lk y) b [u, z] = (uY (rdB ks lk x) w1 u && uY (rdB ks lk y) w2 z) := if_pos e
    rw [if_pos (by rw [e])]
    refine ⟨_, rfl, _, TW H, _, at1, _, T, _, at1, _, Tv, _, at1, ?_⟩
    refine ⟨w1, t1, kl, lt, v1, x, ks, lk, u, rfl, R1, ok1, d1, G, r1, fun H1 S1 => ?_⟩
    refine ⟨_, rfl, ?_⟩
    cases e1 : uY (rdB ks lk x) w1 u with
    | false =>
      rw [if_neg (by decide)]
      rw [e1, Bool.false_and] at e8
      rw [← e8]
      exact q _ S1
    | true =>
      rw [if_pos rfl]
      rw [e1, Bool.true_and] at e8
      refine ⟨_, rfl, _, TW H1, _, at2, _, Same.tup S1 T, _, at2, _, Same.tup S1 Tv, _, at2, ?_⟩
      refine ⟨w2, t2, kl, lt, v2, y, ks, lk, z, rfl, R2.same S1, ok2, d2, G.same S1, r2.same S1, fun H2 S2 => ?_⟩
      rw [← e8]
      exact q _ (S1.trans S2)
  · have e8 : twoB w0 w1 w2 (rdB ks lk x) (rdB ks lk y) b [u, z] = wN w1 w2 (rdB ks lk x) (rdB ks lk y) z u := if_neg e
    rw [if_neg fun c => e (by injection c)]
    rw [e8] at q
    refine ⟨_, Tv, _, at1, _, _, rfl, v7 r1, _, rfl, ?_⟩
    cases r1 with
    | int i =>
      rw [if_neg (show ¬ yl (dkn (.int i)) = false by show ¬ true = false; decide)]
      refine ⟨i, rfl, ?_⟩
      have no : ¬ (i = 0 ∨ i = 1) → wN w1 w2 (rdB ks lk x) (rdB ks lk y) z (.int i) = false := fun h => by
        show (if i = 0 then _ else if i = 1 then _ else false) = false
        rw [if_neg (fun c => h (.inl c)), if_neg (fun c => h (.inr c))]
      by_cases h0 : 0 ≤ i
      · rw [if_pos h0]
        refine ⟨i, rfl, ?_⟩
        by_cases h1 : i ≤ 1
        · rw [if_pos h1]
          rcases (show i = 0 ∨ i = 1 by omega) with rfl | rfl
          · exact ⟨0, rfl, dw, rfl, _, TW H, _, (show atI [V.bl w0, .bl w1, .bl w2] (1 + 0) = some (.bl w1) from at1), w1, rfl, 0, rfl, _, T, _, (show atI [V.str wd, .ref t1, .ref t2] (1 + 0) = some (.ref t1) from at1), _, Tv, _, at2, !w1, t1, kl, lt, v2, x, ks, lk, z, rfl, R1, ok1, d1, G, r2, q⟩
          · exact ⟨1, rfl, dw, rfl, _, TW H, _, (show atI [V.bl w0, .bl w1, .bl w2] (1 + 1) = some (.bl w2) from at2), w2, rfl, 1, rfl, _, T, _, (show atI [V.str wd, .ref t1, .ref t2] (1 + 1) = some (.ref t2) from at2), _, Tv, _, at2, !w2, t2, kl, lt, v2, y, ks, lk, z, rfl, R2, ok2, d2, G, r2, q⟩
        · rw [if_neg h1]
          rw [no (by omega)] at q
          exact q _ (Same.refl _)
      · rw [if_neg h0]
        rw [no (by omega)] at q
        exact q _ (Same.refl _)
    | non => exact q _ (Same.refl _)
    | bl b => exact q _ (Same.refl _)
    | str z => exact q _ (Same.refl _)
    | lst a b => exact q _ (Same.refl _)
    | tup a b => exact q _ (Same.refl _)
theorem CV {L d : Nat} {c_OF_BOTH : Addr} (F : Fun K "holds_up" "holds_up" bc f fd) (M : Mg mg) (A_OF_BOTH : mg "OF_BOTH" = some (.ref c_OF_BOTH)) (O : OBok w.params K c_OF_BOTH) (dZ : Cal P w K mg base CX0 "one_holds" 4 ["told", "kinds", "look", "reason"] (zl K)) (sy : Cal P w K mg base CX0 "two_hold" (L + 6) ["told", "kinds", "look", "reason"] (Ff K d)) : FnOk P w K mg base CX0 (L + 7) f fd ["told", "kinds", "look", "reason"] (xm K (d + 1)) := by
  refine F.ok mG (fun vs H Q E h => ?_) (fun cdv A outer s H vs Q E hr h => ?_)
  · obtain ⟨t, kl, lt, v, n, ks, lk, dt, rfl, _⟩ := h
    rfl
  obtain ⟨t, kl, lt, v, n, ks, lk, dt, rfl, R, ok, dp, G, Rv, q⟩ := h
  refine ⟨_, (@fz _ _ _ _ _ (@tL _ _ _ _ _ _ _ _ (@PW.pt _ _ _ (@uF _ _ _ _ _ _ _ (@uz _ _ _ _ (@ua _ _ _ (@tH _ _ _ _ _ _ _ _ _ uH fM M.m_isinstance uc (@cg _ _ _ _ _ (@eu _ 3 _ _ rfl cX aJ aK) (@cg _ _ _ _ _ (@uK _ _ (.ty "tuple") _ _ mS M.m_tuple vS rfl fE fD) (@ff _) (ef rfl)) (ef rfl)) aW aV (ef rfl) (ia rfl mj)) (um rfl))) (@uF _ _ _ _ _ _ _ (@qq _ _ _ _ _ _ _ _ (@tT _) (@tH _ _ _ _ _ _ _ _ _ tO gw M.m_len uo (@cg _ _ _ _ _ (@eu _ 3 _ _ rfl cX aJ aK) (@ff _) (ef rfl)) bg bf (ef rfl) mj) (@eH _ _ _ _) (r8 _)) (@uU _ _ _ _ (@uz _ _ _ _ (@ua _ _ _ (@tH _ _ _ _ _ _ _ _ _ uH fM M.m_isinstance uc (@cg _ _ _ _ _ (@m9 _ _ _ _ _ _ _ (@ni _) (@eu _ 3 _ _ rfl cX aJ aK) (@eH _ _ _ _) (fun _ _ => rfl)) (@cg _ _ _ _ _ (@uK _ _ (.ty "bool") _ _ nS M.m_bool yq rfl jz jy) (@ff _) (ef rfl)) (ef rfl)) aW aV (ef rfl) (ia rfl mj)) (um rfl))))))) (@ki _ _ _ (@nt _ _ _ _ (@uA _ _ _ _))) (@tF _)) (@fz _ _ _ _ _ (@tL _ _ _ _ _ _ _ _ (Gu (@Gz _ _ _ _ _ (@m9 _ _ _ _ _ _ _ (@ni _) (@eu _ 0 _ _ rfl iO av aw) (@eH _ _ _ _) (fun _ _ => rfl)) (@Ck _ _ _ _ _ lM A_OF_BOTH (show RelV (.ref c_OF_BOTH) _ from rfl) nA)) (by rfl)) (@ki _ _ _ (@nt _ _ _ _ (@uM _ _ _ _ _ _ _ (@uq _ _ _ _ _ _ _ _ (@tT _) (@tH _ _ _ _ _ _ _ _ _ tO gw M.m_len uo (@cg _ _ _ _ _ (@eu _ 3 _ _ rfl cX aJ aK) (@ff _) (ef rfl)) bg bf (ef rfl) mj) (@eH _ _ _ _) (r8 _)) (@uN _ _ _ _ _ (@m8 _ _ _ _ _ _ _ _ _ _ _ sy hr la (@cg _ _ _ _ _ (@eu _ 0 _ _ rfl iO av aw) (@cg _ _ _ _ _ (@eu _ 1 _ _ rfl lK aC aD) (@cg _ _ _ _ _ (@eu _ 2 _ _ rfl lL aT aU) (@cg _ _ _ _ _ (@eu _ 3 _ _ rfl cX aJ aK) (@ff _) (ef rfl)) (ef rfl)) (ef rfl)) (ef rfl)) (by omega) rL (ef rfl) (ia rfl (ia rfl (ia rfl mj)))))))) (@tF _)) (@ki _ _ _ (@nt _ _ _ _ (@uM _ _ _ _ _ _ _ (@uq _ _ _ _ _ _ _ _ (@tT _) (@tH _ _ _ _ _ _ _ _ _ tO gw M.m_len uo (@cg _ _ _ _ _ (@eu _ 3 _ _ rfl cX aJ aK) (@ff _) (ef rfl)) bg bf (ef rfl) mj) (@eH _ _ _ _) (r8 _)) (@uN _ _ _ _ _ (@m8 _ _ _ _ _ _ _ _ _ _ _ dZ hr j8 (@cg _ _ _ _ _ (@eu _ 0 _ _ rfl iO av aw) (@cg _ _ _ _ _ (@eu _ 1 _ _ rfl lK aC aD) (@cg _ _ _ _ _ (@eu _ 2 _ _ rfl lL aT aU) (@cg _ _ _ _ _ (@eu _ 3 _ _ rfl cX aJ aK) (@ff _) (ef rfl)) (ef rfl)) (ef rfl)) (ef rfl)) (by omega) qN (ef rfl) (ia rfl (ia rfl (ia rfl mj)))))))))), ?_⟩
  trivial
  cases Rv with
  | non => exact ⟨.non, rfl, q _ (Same.refl _)⟩
  | bl b => exact ⟨.bl, rfl, q _ (Same.refl _)⟩
  | int i => exact ⟨.int, rfl, q _ (Same.refl _)⟩
  | str z => exact ⟨.str, rfl, q _ (Same.refl _)⟩
  | lst T ra => exact ⟨.lst, .inl ⟨rfl, _, T⟩, q _ (Same.refl _)⟩
  | tup T ra =>
    refine ⟨.tup, .inr (.inl ⟨rfl, _, T⟩), ?_⟩
    rw [if_neg (by decide)]
    refine ⟨_, rfl, _, .inr T, ?_⟩
    cases ra with
    | nil => exact q _ (Same.refl _)
    | cons r0 rr =>
      rw [if_neg (by rw [List.length_cons]; omega)]
      refine ⟨_, rfl, _, T, _, at0, _, v7 r0, ?_⟩
      cases r0 with
      | non => exact q _ (Same.refl _)
      | int i => exact q _ (Same.refl _)
      | str z => exact q _ (Same.refl _)
      | lst T ra => exact q _ (Same.refl _)
      | tup T ra => exact q _ (Same.refl _)
      | bl b =>
        rw [if_neg (show ¬ uf (dkn (.bool b)) .bl = false by show ¬ true = false; decide)]
        cases n with
        | any =>
          obtain ⟨x0, T', s0⟩ := vc R
          cases nj s0
          obtain ⟨kvs, D, hv⟩ := O.no (wd := "any") (by decide)
          refine ⟨_, T', _, at0, kvs, D, _, rfl, ?_⟩
          rw [hv, if_neg (by decide)]
          refine ⟨_, rfl, _, .inr T, ?_⟩
          rcases wI rr with ⟨u, xu, rfl, rfl, ru⟩ | ⟨hl, hne⟩
          · rw [if_pos (by rfl)]
            exact ⟨t, kl, lt, _, _, ks, lk, b, u, rfl, R, ok, rfl, G, .tup T (.cons (.bl b) (.cons ru .nil)), q⟩
          · rw [if_neg (by rw [List.length_cons]; omega)]
            have e9 := q _ (Same.refl _)
            exact cast (congrArg (fun z => Q (V.bl z) H) (hne _)) e9
        | made s =>
          obtain ⟨x0, y0, T', s0, s1⟩ := tS R
          cases nj s0
          obtain ⟨kvs, D, hv⟩ := O.no (wd := "made") (by decide)
          refine ⟨_, T', _, at0, kvs, D, _, rfl, ?_⟩
          rw [hv, if_neg (by decide)]
          refine ⟨_, rfl, _, .inr T, ?_⟩
          rcases wI rr with ⟨u, xu, rfl, rfl, ru⟩ | ⟨hl, hne⟩
          · rw [if_pos (by rfl)]
            exact ⟨t, kl, lt, _, _, ks, lk, b, u, rfl, R, ok, rfl, G, .tup T (.cons (.bl b) (.cons ru .nil)), q⟩
          · rw [if_neg (by rw [List.length_cons]; omega)]
            have e9 := q _ (Same.refl _)
            exact cast (congrArg (fun z => Q (V.bl z) H) (hne _)) e9
        | used s =>
          obtain ⟨x0, y0, T', s0, s1⟩ := tS R
          cases nj s0
          obtain ⟨kvs, D, hv⟩ := O.no (wd := "used") (by decide)
          refine ⟨_, T', _, at0, kvs, D, _, rfl, ?_⟩
          rw [hv, if_neg (by decide)]
          refine ⟨_, rfl, _, .inr T, ?_⟩
          rcases wI rr with ⟨u, xu, rfl, rfl, ru⟩ | ⟨hl, hne⟩
          · rw [if_pos (by rfl)]
            exact ⟨t, kl, lt, _, _, ks, lk, b, u, rfl, R, ok, rfl, G, .tup T (.cons (.bl b) (.cons ru .nil)), q⟩
          · rw [if_neg (by rw [List.length_cons]; omega)]
            have e9 := q _ (Same.refl _)
            exact cast (congrArg (fun z => Q (V.bl z) H) (hne _)) e9
        | chief s =>
          obtain ⟨x0, y0, T', s0, s1⟩ := tS R
          cases nj s0
          obtain ⟨kvs, D, hv⟩ := O.no (wd := "chief") (by decide)
          refine ⟨_, T', _, at0, kvs, D, _, rfl, ?_⟩
          rw [hv, if_neg (by decide)]
          refine ⟨_, rfl, _, .inr T, ?_⟩
          rcases wI rr with ⟨u, xu, rfl, rfl, ru⟩ | ⟨hl, hne⟩
          · rw [if_pos (by rfl)]
            exact ⟨t, kl, lt, _, _, ks, lk, b, u, rfl, R, ok, rfl, G, .tup T (.cons (.bl b) (.cons ru .nil)), q⟩
          · rw [if_neg (by rw [List.length_cons]; omega)]
            have e9 := q _ (Same.refl _)
            exact cast (congrArg (fun z => Q (V.bl z) H) (hne _)) e9
        | over k1 k2 =>
          obtain ⟨x0, y0, z0, T', s0, s1, s2⟩ := tW R
          cases nj s0
          obtain ⟨kvs, D, hv⟩ := O.no (wd := "over") (by decide)
          refine ⟨_, T', _, at0, kvs, D, _, rfl, ?_⟩
          rw [hv, if_neg (by decide)]
          refine ⟨_, rfl, _, .inr T, ?_⟩
          rcases wI rr with ⟨u, xu, rfl, rfl, ru⟩ | ⟨hl, hne⟩
          · rw [if_pos (by rfl)]
            exact ⟨t, kl, lt, _, _, ks, lk, b, u, rfl, R, ok, rfl, G, .tup T (.cons (.bl b) (.cons ru .nil)), q⟩
          · rw [if_neg (by rw [List.length_cons]; omega)]
            have e9 := q _ (Same.refl _)
            exact cast (congrArg (fun z => Q (V.bl z) H) (hne _)) e9
        | both x y =>
          obtain ⟨x0, y0, z0, T', s0, s1, s2⟩ := tW R
          cases nj s0
          obtain ⟨t1, rfl⟩ := tV s1
          obtain ⟨t2, rfl⟩ := tV s2
          have dd : max x.dp y.dp + 1 ≤ d + 1 := dp
          have jw : wR _ _ _ _ := (.inl ⟨rfl, rfl, rfl, rfl⟩)
          obtain ⟨kvs, dw, D, hv, _⟩ := O.at jw
          refine ⟨_, T', _, at0, kvs, D, _, rfl, ?_⟩
          rw [hv, if_pos (by rfl)]
          refine ⟨_, rfl, _, .inr T, ?_⟩
          rcases ze rr with ⟨u, z, xu, xz, rfl, rfl, ru, rz⟩ | ⟨hl, hne⟩
          · rw [if_pos (by rfl)]
            exact ⟨t, kl, lt, _, _, _, _, _, t1, t2, x, y, ks, lk, b, u, z, rfl, T', jw, s1, s2, ok.1, ok.2, (by omega), (by omega), G, .tup T (.cons (.bl b) (.cons ru (.cons rz .nil))), q⟩
          · rw [if_neg (by rw [List.length_cons]; omega)]
            have e9 := q _ (Same.refl _)
            exact cast (congrArg (fun z => Q (V.bl z) H) (hne _ _ _ _ _ _)) e9
        | either x y =>
          obtain ⟨x0, y0, z0, T', s0, s1, s2⟩ := tW R
          cases nj s0
          obtain ⟨t1, rfl⟩ := tV s1
          obtain ⟨t2, rfl⟩ := tV s2
          have dd : max x.dp y.dp + 1 ≤ d + 1 := dp
          have jw : wR _ _ _ _ := (.inr (.inl ⟨rfl, rfl, rfl, rfl⟩))
          obtain ⟨kvs, dw, D, hv, _⟩ := O.at jw
          refine ⟨_, T', _, at0, kvs, D, _, rfl, ?_⟩
          rw [hv, if_pos (by rfl)]
          refine ⟨_, rfl, _, .inr T, ?_⟩
          rcases ze rr with ⟨u, z, xu, xz, rfl, rfl, ru, rz⟩ | ⟨hl, hne⟩
          · rw [if_pos (by rfl)]
            exact ⟨t, kl, lt, _, _, _, _, _, t1, t2, x, y, ks, lk, b, u, z, rfl, T', jw, s1, s2, ok.1, ok.2, (by omega), (by omega), G, .tup T (.cons (.bl b) (.cons ru (.cons rz .nil))), q⟩
          · rw [if_neg (by rw [List.length_cons]; omega)]
            have e9 := q _ (Same.refl _)
            exact cast (congrArg (fun z => Q (V.bl z) H) (hne _ _ _ _ _ _)) e9
        | but x y =>
          obtain ⟨x0, y0, z0, T', s0, s1, s2⟩ := tW R
          cases nj s0
          obtain ⟨t1, rfl⟩ := tV s1
          obtain ⟨t2, rfl⟩ := tV s2
          have dd : max x.dp y.dp + 1 ≤ d + 1 := dp
          have jw : wR _ _ _ _ := (.inr (.inr ⟨rfl, rfl, rfl, rfl⟩))
          obtain ⟨kvs, dw, D, hv, _⟩ := O.at jw
          refine ⟨_, T', _, at0, kvs, D, _, rfl, ?_⟩
          rw [hv, if_pos (by rfl)]
          refine ⟨_, rfl, _, .inr T, ?_⟩
          rcases ze rr with ⟨u, z, xu, xz, rfl, rfl, ru, rz⟩ | ⟨hl, hne⟩
          · rw [if_pos (by rfl)]
            exact ⟨t, kl, lt, _, _, _, _, _, t1, t2, x, y, ks, lk, b, u, z, rfl, T', jw, s1, s2, ok.1, ok.2, (by omega), (by omega), G, .tup T (.cons (.bl b) (.cons ru (.cons rz .nil))), q⟩
          · rw [if_neg (by rw [List.length_cons]; omega)]
            have e9 := q _ (Same.refl _)
            exact cast (congrArg (fun z => Q (V.bl z) H) (hne _ _ _ _ _ _)) e9
theorem A6 {c_OF_BOTH f2 f3 : Addr} {fd2 fd3 : FuncData} (F : Fun K "holds_up" "holds_up" bc f fd) (F2 : Fun K "two_hold" "two_hold" aO f2 fd2) (F3 : Fun K "says" "says" dG f3 fd3) (M : Mg mg) (A_OF_BOTH : mg "OF_BOTH" = some (.ref c_OF_BOTH)) (O : OBok w.params K c_OF_BOTH) (cM : Cal P w K mg base CX0 "is_whole" 1 ["thing"] (uO K)) (dZ : Cal P w K mg base CX0 "one_holds" 4 ["told", "kinds", "look", "reason"] (zl K))
    (b : Binds K fd ["told", "kinds", "look", "reason"] []) (kp : PySem.W.keepIn K (.ref f) = true) (m : mg "holds_up" = some (.ref f))
    (b2 : Binds K fd2 ["told", "kinds", "look", "reason"] []) (kp2 : PySem.W.keepIn K (.ref f2) = true) (m2 : mg "two_hold" = some (.ref f2))
    (b3 : Binds K fd3 ["truth", "told", "kinds", "look", "reason"] []) (kp3 : PySem.W.keepIn K (.ref f3) = true) (m3 : mg "says" = some (.ref f3)) : ∀ d : Nat, FnOk P w K mg base CX0 (3 * d + 4) f fd ["told", "kinds", "look", "reason"] (xm K d)
  | 0 => by
    refine F.ok mG (fun vs H Q E h => ?_) (fun cdv A outer s H vs Q E hr h => ?_)
    · obtain ⟨t, kl, lt, v, n, ks, lk, dt, rfl, _⟩ := h
      rfl
    obtain ⟨t, kl, lt, v, n, ks, lk, dt, rfl, R, ok, dp, G, Rv, q⟩ := h
    have := Nt.dp_pos n
    omega
  | d + 1 => CV (L := 3 * d) F M A_OF_BOTH O dZ ⟨⟨f2, fd2, E4 (L := 3 * d + 4) F2 M A_OF_BOTH O cM ⟨⟨f3, fd3, DP (L := 3 * d + 4) F3 M ⟨⟨f, fd, A6 F F2 F3 M A_OF_BOTH O cM dZ b kp m b2 kp2 m2 b3 kp3 m3 d, b, kp, m⟩⟩, b3, kp3, m3⟩⟩, b2, kp2, m2⟩⟩
theorem BS (F : Fun K "truth_of" "truth_of" cf f fd) (M : Mg mg) (gj : Cal P w K mg base CX0 "holds_up" 19 ["told", "kinds", "look", "reason"] (xm K 5)) : FnOk P w K mg base CX0 20 f fd ["told", "kinds", "look", "reason"] (Ab K) := by
  refine F.ok rT (fun vs H Q E h => ?_) (fun cdv A outer s H vs Q E hr h => ?_)
  · obtain ⟨t, kl, lt, v, n, ks, lk, dt, rfl, _⟩ := h
    rfl
  obtain ⟨t, kl, lt, v, n, ks, lk, dt, rfl, R, ok, dp, G, Rv, q⟩ := h
  refine ⟨_, (@fz _ _ _ _ _ (@tL _ _ _ _ _ _ _ _ (@ua _ _ _ (@m8 _ _ _ _ _ _ _ _ _ _ _ gj hr lf (@cg _ _ _ _ _ (@eu _ 0 _ _ rfl rn av aw) (@cg _ _ _ _ _ (@eu _ 1 _ _ rfl rp aC aD) (@cg _ _ _ _ _ (@eu _ 2 _ _ rfl rq aT aU) (@cg _ _ _ _ _ (@eu _ 3 _ _ rfl lN aJ aK) (@ff _) (ef rfl)) (ef rfl)) (ef rfl)) (ef rfl)) (by decide) mz (ef rfl) (ia rfl (ia rfl (ia rfl mj)))) (um rfl)) (@ki _ _ _ (@nt _ _ _ _ (@m9 _ _ _ _ _ _ _ (@ni _) (@eu _ 3 _ _ rfl lN aJ aK) (@eH _ _ _ _) (fun _ _ => rfl)))) (@tF _)) (@ki _ _ _ (@nt _ _ _ _ (@uy _ _ _)))), ?_⟩
  trivial
  refine ⟨t, kl, lt, v, n, ks, lk, dt, rfl, R, ok, dp, G, Rv, fun H1 S1 => ?_⟩
  refine ⟨_, rfl, ?_⟩
  cases e : rdD ks lk n dt with
  | false =>
    rw [if_neg (by decide), ← DT e]
    exact q _ S1
  | true =>
    rw [if_pos rfl]
    obtain ⟨b, r, rfl, hb⟩ := AI e
    obtain ⟨a, xs, rfl, T, ra⟩ := wD Rv
    obtain ⟨x0, ys, rfl, r0, _⟩ := uB ra
    cases u7 r0
    have e9 : rdV ks lk n (.tuple (.bool b :: r)) = .bl b := if_pos hb
    rw [e9] at q
    exact ⟨_, rfl, _, Same.tup S1 T, _, at0, q _ S1⟩
end

theorem xW {f : Bool → List PyData → Bool} {t : Bool} {d : PyData} (h : uY f t d = true) : ∃ r, d = .tuple (.bool t :: r) ∧ f t r = true := by
  unfold uY at h
  split at h
  · rw [Bool.and_eq_true] at h
    have e := of_decide_eq_true h.2
    subst e
    exact ⟨_, rfl, h.1⟩
  · cases h
theorem zT {ks : List Kd2} {lk : List Int} {p : Kd2 → Int → Bool} {i : Int} : ∀ n : Nat, inV (.int i) (uh ks lk p n) = true ↔ ∃ (j : Nat) (k : Kd2) (x : Int), j < n ∧ i = j ∧ ks[j]? = some k ∧ lk[j]? = some x ∧ p k x = true
  | 0 => by
    constructor
    · intro h; cases h
    · rintro ⟨j, _, _, h, _⟩; omega
  | n + 1 => by
    have ih := zT (ks := ks) (lk := lk) (p := p) (i := i) n
    have e : inV (.int i) (uh ks lk p (n + 1)) = (inV (.int i) (uh ks lk p n) || inV (.int i) (match ks[n]?, lk[n]? with | some k, some x => if p k x then [.int (n : Int)] else [] | _, _ => [])) := List.any_append
    rw [e, Bool.or_eq_true, ih]
    constructor
    · rintro (⟨j, k, x, h1, h2⟩ | h)
      · exact ⟨j, k, x, by omega, h2⟩
      · split at h
        · rename_i k x e1 e2
          split at h
          · rename_i hp
            have : i = n := by
              simp only [inV, List.any_cons, List.any_nil, Bool.or_false, eqV, decide_eq_true_eq, beq_iff_eq] at h
              exact h.symm
            exact ⟨n, k, x, by omega, this, e1, e2, hp⟩
          · cases h
        · cases h
    · rintro ⟨j, k, x, h1, h2, h3, h4, h5⟩
      by_cases hj : j = n
      · subst hj
        right
        rw [h3, h4]
        simp [h5, inV, eqV, h2]
      · exact .inl ⟨j, k, x, by omega, h2, h3, h4, h5⟩
theorem atPl_iff {ks : List Kd2} {lk : List Int} {p : Kd2 → Int → Bool} {d : PyData} : xJ ks lk p d = true ↔ ∃ (j : Nat) (k : Kd2) (x : Int), d = .int j ∧ ks[j]? = some k ∧ lk[j]? = some x ∧ p k x = true := by
  constructor
  · intro h
    unfold xJ at h
    split at h
    · obtain ⟨j, k, x, _, rfl, h1, h2, h3⟩ := (zT _).mp h
      exact ⟨j, k, x, rfl, h1, h2, h3⟩
    · cases h
  · rintro ⟨j, k, x, rfl, h1, h2, h3⟩
    exact (zT _).mpr ⟨j, k, x, (List.getElem?_eq_some_iff.mp h1).1, rfl, h1, h2, h3⟩
theorem Ek {ks : List Kd2} {lk : List Int} {p : Kd2 → Int → Bool} {d : PyData} (hl : lk.length = ks.length) (h : xJ ks lk p d = true) : ur ks lk p = true := by
  obtain ⟨j, k, x, rfl, h1, h2, h3⟩ := atPl_iff.mp h
  have hz : (ks.zip lk)[j]? = some (k, x) := by rw [List.getElem?_zip_eq_some]; exact ⟨h1, h2⟩
  exact List.any_eq_true.mpr ⟨_, List.mem_of_getElem? hz, h3⟩
theorem yf {ks : List Kd2} {lk : List Int} {p : Kd2 → Int → Bool} {b : Bool} {r : List PyData} (hl : lk.length = ks.length) (h : v8 (plB ks lk p b) r = true) : b = ur ks lk p := by
  unfold v8 at h
  split at h
  · cases b with
    | true => exact (Ek hl h).symm
    | false =>
      have h2 : (ve _ && !(ur ks lk p)) = true := h
      rw [Bool.and_eq_true] at h2
      simpa using h2.2
  · cases h
theorem two_claims {w0 w1 w2 cx cy c b : Bool} {f g : Bool → List PyData → Bool} {r : List PyData} (hx : ∀ b r, f b r = true → b = cx) (hy : ∀ b r, g b r = true → b = cy) (h1 : cx = w1 → cy = w2 → c = w0) (h2 : cx = !w1 → c = !w0) (h3 : cy = !w2 → c = !w0) (h : twoB w0 w1 w2 f g b r = true) : b = c := by
  unfold twoB at h
  split at h
  · split at h
    · rename_i e
      rw [Bool.and_eq_true] at h
      obtain ⟨r1, _, a⟩ := xW h.1
      obtain ⟨r2, _, d⟩ := xW h.2
      rw [e, h1 (hx _ _ a).symm (hy _ _ d).symm]
    · rename_i e
      have e' : b = !w0 := by cases b <;> cases w0 <;> simp_all
      unfold wN at h
      split at h
      · split at h
        · obtain ⟨r1, _, a⟩ := xW h
          rw [e', h2 (hx _ _ a).symm]
        · split at h
          · obtain ⟨r1, _, a⟩ := xW h
            rw [e', h3 (hy _ _ a).symm]
          · cases h
      · cases h
  · cases h
theorem u5 {ks : List Kd2} {lk : List Int} (hl : lk.length = ks.length) : ∀ {n : Nt} {b : Bool} {r : List PyData}, rdB ks lk n b r = true → b = tG ks lk n
  | .any, b, r, h => by
    have h' : v8 (fun x => b && ve x) r = true := h
    unfold v8 at h'
    split at h'
    · rw [Bool.and_eq_true] at h'
      exact h'.1
    · cases h'
  | .made s, b, r, h => yf hl h
  | .used s, b, r, h => yf hl h
  | .chief s, b, r, h => yf hl h
  | .over k1 k2, b, r, h => by
    have h' : v8 (fun x => decide (b = decide (uI ks lk k1 > uI ks lk k2)) && ve x) r = true := h
    unfold v8 at h'
    split at h'
    · rw [Bool.and_eq_true] at h'
      exact of_decide_eq_true h'.1
    · cases h'
  | .both x y, b, r, h => two_claims (fun _ _ => u5 hl) (fun _ _ => u5 hl) (fun a d => by show (tG ks lk x && tG ks lk y) = _; rw [a, d]; rfl) (fun a => by show (tG ks lk x && tG ks lk y) = _; rw [a]; rfl) (fun a => by show (tG ks lk x && tG ks lk y) = _; rw [a]; simp) h
  | .either x y, b, r, h => two_claims (fun _ _ => u5 hl) (fun _ _ => u5 hl) (fun a d => by show (tG ks lk x || tG ks lk y) = _; rw [a, d]; rfl) (fun a => by show (tG ks lk x || tG ks lk y) = _; rw [a]; rfl) (fun a => by show (tG ks lk x || tG ks lk y) = _; rw [a]; simp) h
  | .but x y, b, r, h => two_claims (fun _ _ => u5 hl) (fun _ _ => u5 hl) (fun a d => by show (tG ks lk x && !tG ks lk y) = _; rw [a, d]; rfl) (fun a => by show (tG ks lk x && !tG ks lk y) = _; rw [a]; rfl) (fun a => by show (tG ks lk x && !tG ks lk y) = _; rw [a]; simp) h
def Ce : Nt → Prop
  | .any => True
  | .over _ _ => True
  | _ => False
theorem B5 {K : PySem.W.Frag} {H : Hp} {t : Addr} {n : Nt} (R : ud K H (.ref t) n) (dp : n.dp = 1) : ∃ wd us, SqT K H t (.str wd :: us) ∧ ((Ce n ∧ inV (.str wd) [V.str (Str.ofString "any"), V.str (Str.ofString "over")] = true) ∨ (vQ n ∧ inV (.str wd) [V.str (Str.ofString "any"), V.str (Str.ofString "over")] = false)) := by
  cases n with
  | any => obtain ⟨x0, T, s0⟩ := vc R; cases nj s0; exact ⟨_, _, T, .inl ⟨trivial, by decide⟩⟩
  | made s => obtain ⟨x0, y0, T, s0, s1⟩ := tS R; cases nj s0; exact ⟨_, _, T, .inr ⟨trivial, by decide⟩⟩
  | used s => obtain ⟨x0, y0, T, s0, s1⟩ := tS R; cases nj s0; exact ⟨_, _, T, .inr ⟨trivial, by decide⟩⟩
  | chief s => obtain ⟨x0, y0, T, s0, s1⟩ := tS R; cases nj s0; exact ⟨_, _, T, .inr ⟨trivial, by decide⟩⟩
  | over a b => obtain ⟨x0, y0, z0, T, s0, _⟩ := tW R; cases nj s0; exact ⟨_, _, T, .inl ⟨trivial, by decide⟩⟩
  | both a b => exact absurd dp (by have := Nt.dp_pos a; show ¬(max a.dp b.dp + 1 = 1); omega)
  | either a b => exact absurd dp (by have := Nt.dp_pos a; show ¬(max a.dp b.dp + 1 = 1); omega)
  | but a b => exact absurd dp (by have := Nt.dp_pos a; show ¬(max a.dp b.dp + 1 = 1); omega)
theorem vq {ks : List Kd2} {lk : List Int} {n : Nt} {b : Bool} {d : PyData} : rdV ks lk n (.tuple [.bool b, d]) = if rdB ks lk n b [d] then .bl b else .non := rfl
theorem FN {ks : List Kd2} {lk : List Int} {n : Nt} {b : Bool} {d e : PyData} {r : List PyData} (dp : n.dp = 1) : rdV ks lk n (.tuple (.bool b :: d :: e :: r)) = .non := by
  cases n with
  | both a b => exact absurd dp (by have := Nt.dp_pos a; show ¬(max a.dp b.dp + 1 = 1); omega)
  | either a b => exact absurd dp (by have := Nt.dp_pos a; show ¬(max a.dp b.dp + 1 = 1); omega)
  | but a b => exact absurd dp (by have := Nt.dp_pos a; show ¬(max a.dp b.dp + 1 = 1); omega)
  | _ => rfl
theorem Dg {ks : List Kd2} {lk : List Int} {n : Nt} {b : Bool} {d : PyData} (h : Ce n) : rdB ks lk n b [d] = (decide (b = tG ks lk n) && ve d) := by
  cases n with
  | any => cases b <;> rfl
  | over k1 k2 => rfl
  | _ => exact h.elim
theorem xF {ks : List Kd2} {lk : List Int} {n : Nt} {b : Bool} {d : PyData} (h : vQ n) : rdB ks lk n b [d] = plB ks lk (tZ lk n) b d := by
  cases n with
  | made s => rfl
  | used s => rfl
  | chief s => rfl
  | _ => exact h.elim
theorem D3 {ks : List Kd2} {lk : List Int} {n : Nt} (h : vQ n) : tG ks lk n = ur ks lk (tZ lk n) := by
  cases n with
  | made s => rfl
  | used s => rfl
  | chief s => rfl
  | _ => exact h.elim
def w4 (K : PySem.W.Frag) : Sp := fun vs H Q _ => ∃ (wd : Str) (w0 w1 w2 : Bool), vs = [.str wd] ∧ wR wd w0 w1 w2 ∧ ∀ l H', Same H H' → H' l = some (.lst [.bl w0, .bl w1, .bl w2]) → Q (.ref l) H'
def xM (K : PySem.W.Frag) : Sp := fun vs H Q _ => ∃ (t kl lt v : Addr) (n : Nt) (ks : List Kd2) (lk : List Int) (b : Bool) (d : PyData) (r : List PyData), vs = [.ref t, .ref kl, .ref lt, .ref v] ∧ ud K H (.ref t) n ∧ n.ok ∧ n.dp = 1 ∧ Ground K H kl lt ks lk ∧ Rep K H (.ref v) (.tuple (.bool b :: d :: r)) ∧ ∀ H', Same H H' → Q (rdV ks lk n (.tuple (.bool b :: d :: r))) H'
def xD (K : PySem.W.Frag) (d : Nat) : Sp := fun vs H Q _ => ∃ (t kl lt : Addr) (v : V) (n : Nt) (ks : List Kd2) (lk : List Int) (dt : PyData), vs = [.ref t, .ref kl, .ref lt, v] ∧ ud K H (.ref t) n ∧ n.ok ∧ n.dp ≤ d ∧ Ground K H kl lt ks lk ∧ Rep K H v dt ∧ ∀ H', Same H H' → Q (rdV ks lk n dt) H'
theorem wK (ks : List Kd2) (lk : List Int) (n : Nt) (d : PyData) : (rdV ks lk n d = .non ∧ ∀ t, uY (rdB ks lk n) t d = false) ∨ ∃ b, rdV ks lk n d = .bl b ∧ ∀ t, uY (rdB ks lk n) t d = decide (b = t) := by
  cases e : rdD ks lk n d with
  | false => exact .inl ⟨DT e, fun t => En e⟩
  | true =>
    obtain ⟨b, r, rfl, hb⟩ := AI e
    refine .inr ⟨b, if_pos hb, fun t => ?_⟩
    show (rdB ks lk n b r && decide (b = t)) = _
    rw [hb, Bool.true_and]
theorem DY {ks : List Kd2} {lk : List Int} {n : Nt} {d : PyData} : rdV ks lk n (.tuple [d]) = .non := by
  cases d with
  | bool b => cases n <;> rfl
  | _ => rfl
theorem Cg {K : PySem.W.Frag} {H : Hp} {t : Addr} {n : Nt} (R : ud K H (.ref t) n) : (n.dp = 1 ∧ ∃ wd us, SqT K H t (.str wd :: us) ∧ inV (.str wd) [V.str (Str.ofString "both"), V.str (Str.ofString "either"), V.str (Str.ofString "but")] = false) ∨
    ∃ wd w0 w1 w2 t1 t2 x y, SqT K H t [.str wd, .ref t1, .ref t2] ∧ wR wd w0 w1 w2 ∧ inV (.str wd) [V.str (Str.ofString "both"), V.str (Str.ofString "either"), V.str (Str.ofString "but")] = true ∧ ud K H (.ref t1) x ∧ ud K H (.ref t2) y ∧ (n.ok → x.ok ∧ y.ok) ∧ n.dp = max x.dp y.dp + 1 ∧ ∀ ks lk, rdB ks lk n = twoB w0 w1 w2 (rdB ks lk x) (rdB ks lk y) := by
  cases n with
  | any => obtain ⟨x0, T, s0⟩ := vc R; cases nj s0; exact .inl ⟨rfl, _, _, T, by decide⟩
  | made s => obtain ⟨x0, y0, T, s0, s1⟩ := tS R; cases nj s0; exact .inl ⟨rfl, _, _, T, by decide⟩
  | used s => obtain ⟨x0, y0, T, s0, s1⟩ := tS R; cases nj s0; exact .inl ⟨rfl, _, _, T, by decide⟩
  | chief s => obtain ⟨x0, y0, T, s0, s1⟩ := tS R; cases nj s0; exact .inl ⟨rfl, _, _, T, by decide⟩
  | over a b => obtain ⟨x0, y0, z0, T, s0, _⟩ := tW R; cases nj s0; exact .inl ⟨rfl, _, _, T, by decide⟩
  | both a b =>
    obtain ⟨x0, y0, z0, T, s0, s1, s2⟩ := tW R
    cases nj s0
    obtain ⟨t1, rfl⟩ := tV s1
    obtain ⟨t2, rfl⟩ := tV s2
    exact .inr ⟨_, _, _, _, t1, t2, a, b, T, .inl ⟨rfl, rfl, rfl, rfl⟩, by decide, s1, s2, fun h => h, rfl, fun _ _ => rfl⟩
  | either a b =>
    obtain ⟨x0, y0, z0, T, s0, s1, s2⟩ := tW R
    cases nj s0
    obtain ⟨t1, rfl⟩ := tV s1
    obtain ⟨t2, rfl⟩ := tV s2
    exact .inr ⟨_, _, _, _, t1, t2, a, b, T, .inr (.inl ⟨rfl, rfl, rfl, rfl⟩), by decide, s1, s2, fun h => h, rfl, fun _ _ => rfl⟩
  | but a b =>
    obtain ⟨x0, y0, z0, T, s0, s1, s2⟩ := tW R
    cases nj s0
    obtain ⟨t1, rfl⟩ := tV s1
    obtain ⟨t2, rfl⟩ := tV s2
    exact .inr ⟨_, _, _, _, t1, t2, a, b, T, .inr (.inr ⟨rfl, rfl, rfl, rfl⟩), by decide, s1, s2, fun h => h, rfl, fun _ _ => rfl⟩
theorem Hg {wd : Str} {w0 w1 w2 : Bool} (j : wR wd w0 w1 w2) : inV (.str wd) [V.str (Str.ofString "any"), V.str (Str.ofString "over")] = false := by
  rcases j with ⟨rfl, _⟩ | ⟨rfl, _⟩ | ⟨rfl, _⟩ <;> decide
theorem zZ {ks : List Kd2} {lk : List Int} {p : Kd2 → Int → Bool} : ∀ {n : Nat} {v : V}, v ∈ uh ks lk p n → ∃ (j : Nat) (k : Kd2) (x : Int), v = .int j ∧ ks[j]? = some k ∧ lk[j]? = some x ∧ p k x = true
  | 0, v, h => by cases h
  | n + 1, v, h => by
    rcases List.mem_append.mp h with h | h
    · exact zZ h
    · split at h
      · rename_i k x e1 e2
        split at h
        · rename_i hp
          exact ⟨n, k, x, List.mem_singleton.mp h, e1, e2, hp⟩
        · cases h
      · cases h
theorem Bb {xs : List V} (h : 0 < xs.length) : ∃ v ∈ xs, atI xs (-1) = some v := by
  refine ⟨xs[xs.length - 1], List.getElem_mem _, ?_⟩
  unfold atI
  have e : ixN xs.length (-1) = some (xs.length - 1) := by
    unfold ixN
    simp
    omega
  rw [e]
  exact List.getElem?_eq_getElem _
theorem EA {ks : List Kd2} {lk : List Int} {p : Kd2 → Int → Bool} {n : Nat} (h : 0 < (uh ks lk p n).length) : ∃ (j : Nat) (k : Kd2) (x : Int), atI (uh ks lk p n) (-1) = some (.int j) ∧ ks[j]? = some k ∧ lk[j]? = some x ∧ p k x = true := by
  obtain ⟨v, m, e⟩ := Bb h
  obtain ⟨j, k, x, rfl, h1, h2, h3⟩ := zZ m
  exact ⟨j, k, x, e, h1, h2, h3⟩
def lfOk (x : PyData) : Prop := x = .none ∨ ∃ i : Int, x = .int i ∧ 0 ≤ i ∧ i ≤ 4
inductive RsOk : PyData → Nat → Prop
  | two {b : Bool} {x : PyData} {d : Nat} : lfOk x → RsOk (.tuple [.bool b, x]) (d + 1)
  | side {b : Bool} {i : Int} {y : PyData} {d : Nat} : 0 ≤ i → i ≤ 1 → RsOk y d → RsOk (.tuple [.bool b, .int i, y]) (d + 1)
  | both {b : Bool} {x y : PyData} {d : Nat} : RsOk x d → RsOk y d → RsOk (.tuple [.bool b, x, y]) (d + 1)
def wH (K : PySem.W.Frag) (d : Nat) : Sp := fun vs H Q _ => ∃ (t kl lt : Addr) (n : Nt) (ks : List Kd2) (lk : List Int), vs = [.ref t, .ref kl, .ref lt] ∧ ud K H (.ref t) n ∧ n.ok ∧ n.dp ≤ d ∧ Ground K H kl lt ks lk ∧ ∀ p H' b r, Same H H' → Rep K H' (.ref p) (.tuple (.bool b :: r)) → rdB ks lk n b r = true → RsOk (.tuple (.bool b :: r)) d → Q (.ref p) H'
section
variable {P : Program} {w : World} {K : PySem.W.Frag} {mg : Str → Option Value} {base : Heap} {f : Addr} {fd : FuncData}
theorem Bf (F : Fun K "_law_pair" "_law_pair" dP f fd) (M : Mg mg) : FnOk P w K mg base CX0 1 f fd ["_law_word"] (w4 K) := by
  refine F.ok rV (fun vs H Q E h => ?_) (fun cdv A outer s H vs Q E hr h => ?_)
  · obtain ⟨wd, w0, w1, w2, rfl, _⟩ := h
    rfl
  obtain ⟨wd, w0, w1, w2, rfl, j, q⟩ := h
  refine ⟨_, (@ki _ _ _ (@nt _ _ _ _ (@zj _ _ _ _ (@cg _ _ _ _ _ (@uq _ _ _ _ _ _ _ _ (@vh _) (@eu _ 0 _ _ rfl iP eg eh) (@tN _ _ _ _) (r8 _)) (@cg _ _ _ _ _ (@uq _ _ _ _ _ _ _ _ (@vh _) (@eu _ 0 _ _ rfl iP eg eh) (@tN _ _ _ _) (r8 _)) (@cg _ _ _ _ _ (@uq _ _ _ _ _ _ _ _ (@tT _) (@eu _ 0 _ _ rfl iP eg eh) (@tN _ _ _ _) (r8 _)) (@ff _) (ef rfl)) (ef rfl)) (ef rfl))))), ?_⟩
  trivial
  refine ⟨by decide, fun p hp => ?_⟩
  have e : [V.bl !decide (wd = Str.ofString "either"), V.bl !decide (wd = Str.ofString "either"), V.bl (decide (wd = Str.ofString "both"))] = [V.bl w0, V.bl w1, V.bl w2] := by
    rcases j with ⟨rfl, rfl, rfl, rfl⟩ | ⟨rfl, rfl, rfl, rfl⟩ | ⟨rfl, rfl, rfl, rfl⟩ <;> rfl
  rw [e]
  exact q _ _ (p5 hp _) ic
theorem yo (F : Fun K "_law_reads_plain" "_law_reads_plain" au f fd) (M : Mg mg) (cD : Cal P w K mg base CX0 "_law_whole" 1 ["_law_found"] (uO K)) (bN : Cal P w K mg base CX0 "_law_shows" 1 ["_law_told", "_law_kinds_here", "_law_look_here", "_law_k"] (vR K)) (az : Cal P w K mg base CX0 "_law_plain_claims" 2 ["_law_told", "_law_kinds_here", "_law_look_here"] (vF K)) : FnOk P w K mg base CX0 3 f fd ["_law_told", "_law_kinds_here", "_law_look_here", "_law_reason_here"] (xM K) := by
  refine F.ok eJ (fun vs H Q E h => ?_) (fun cdv A outer s H vs Q E hr h => ?_)
  · obtain ⟨t, kl, lt, v, n, ks, lk, b, d, r, rfl, _⟩ := h
    rfl
  obtain ⟨t, kl, lt, v, n, ks, lk, b, d, r, rfl, R, ok, dp, G, Rv, q⟩ := h
  refine ⟨_, (@fz _ _ _ _ _ (@tK _ _ 4 _ _ _ _ eJ.nd rfl lg (@m8 _ _ _ _ _ _ _ _ _ _ _ az hr eR (@cg _ _ _ _ _ (@eu _ 0 _ _ rfl db af ag) (@cg _ _ _ _ _ (@eu _ 1 _ _ rfl d0 aa ae) (@cg _ _ _ _ _ (@eu _ 2 _ _ rfl gn ah ai) (@ff _) (ef rfl)) (ef rfl)) (ef rfl)) (by decide) dN (ef rfl) (ia rfl (ia rfl mj))) (tM rfl) (.inl rfl)) (@fz _ _ _ _ _ (@tL _ _ _ _ _ _ _ _ (@PW.pt _ _ _ (@uF _ _ _ _ _ _ _ (@qq _ _ _ _ _ _ _ _ (@vh _) (@tH _ _ _ _ _ _ _ _ _ tO fN M.m_len uo (@cg _ _ _ _ _ (@eu _ 3 _ _ rfl d6 ak al) (@ff _) (ef rfl)) bg bf (ef rfl) mj) (@eH _ _ _ _) (r8 _)) (@uU _ _ _ _ (@qq _ _ _ _ _ _ _ _ (@vh _) (@m9 _ _ _ _ _ _ _ (@ni _) (@eu _ 3 _ _ rfl d6 ak al) (@eH _ _ _ _) (fun _ _ => rfl)) (@eu _ 4 _ _ rfl dc cN cO) (r8 _))))) (@ki _ _ _ (@nt _ _ _ _ (@uy _ _ _))) (@tF _)) (@fz _ _ _ _ _ (@tK _ _ 5 _ _ _ _ eJ.nd rfl lh (@m9 _ _ _ _ _ _ _ (@ni _) (@eu _ 3 _ _ rfl d6 ak al) (@eH _ _ _ _) (fun _ _ => rfl)) (tM rfl) (.inl rfl)) (@fz _ _ _ _ _ (@tL _ _ _ _ _ _ _ _ (@PW.pt _ _ _ (@vB _ _ _ _ _ _ _ (@qq _ _ _ _ _ _ _ _ (@wu _) (@eu _ 5 _ _ rfl cu eM eN) (@uy _ _ _) (r8 _)) (@vG _ _ _ _ (@PW.pt _ _ _ (@uF _ _ _ _ _ _ _ (@qq _ _ _ _ _ _ _ _ vW (@m9 _ _ _ _ _ _ _ (@ni _) (@eu _ 0 _ _ rfl db af ag) (@eH _ _ _ _) (fun _ _ => rfl)) (@tX _ _ _ _ _ (@cg _ _ _ _ _ (@tN _ _ _ _) (@cg _ _ _ _ _ (@tN _ _ _ _) (@ff _) (ef rfl)) (ef rfl))) (by with_unfolding_all rfl)) (@uU _ _ _ _ (@uz _ _ _ _ (@ua _ _ _ (@eu _ 4 _ _ rfl dc cN cO) (um rfl))))))))) (@ki _ _ _ (@nt _ _ _ _ (@eu _ 4 _ _ rfl dc cN cO))) (@tF _)) (@fz _ _ _ _ _ (@tL _ _ _ _ _ _ _ _ (@PW.pt _ _ _ (@uF _ _ _ _ _ _ _ (@qq _ _ _ _ _ _ _ _ vW (@m9 _ _ _ _ _ _ _ (@ni _) (@eu _ 0 _ _ rfl db af ag) (@eH _ _ _ _) (fun _ _ => rfl)) (@tX _ _ _ _ _ (@cg _ _ _ _ _ (@tN _ _ _ _) (@cg _ _ _ _ _ (@tN _ _ _ _) (@ff _) (ef rfl)) (ef rfl))) (by with_unfolding_all rfl)) (@uF _ _ _ _ _ _ _ (@uz _ _ _ _ (@ua _ _ _ (@eu _ 4 _ _ rfl dc cN cO) (um rfl))) (@uF _ _ _ _ _ _ _ (@uz _ _ _ _ (@ua _ _ _ (@m8 _ _ _ _ _ _ _ _ _ _ _ cD hr gx (@cg _ _ _ _ _ (@eu _ 5 _ _ rfl cu eM eN) (@ff _) (ef rfl)) (by decide) kf (ef rfl) mj) (um rfl))) (@uF _ _ _ _ _ _ _ (@qq _ _ _ _ _ _ _ _ (@xY _) (@eu _ 5 _ _ rfl cu eM eN) (@eH _ _ _ _) (r8 _)) (@uU _ _ _ _ (@qq _ _ _ _ _ _ _ _ (@Fv _) (@eu _ 5 _ _ rfl cu eM eN) (@tH _ _ _ _ _ _ _ _ _ tO fN M.m_len uo (@cg _ _ _ _ _ (@eu _ 1 _ _ rfl d0 aa ae) (@ff _) (ef rfl)) bg bf (ef rfl) mj) (r8 _)))))))) (@ki _ _ _ (@nt _ _ _ _ (@uy _ _ _))) (@tF _)) (@fz _ _ _ _ _ (@tL _ _ _ _ _ _ _ _ (@ua _ _ _ (@m8 _ _ _ _ _ _ _ _ _ _ _ bN hr gy (@cg _ _ _ _ _ (@eu _ 0 _ _ rfl db af ag) (@cg _ _ _ _ _ (@eu _ 1 _ _ rfl d0 aa ae) (@cg _ _ _ _ _ (@eu _ 2 _ _ rfl gn ah ai) (@cg _ _ _ _ _ (@eu _ 5 _ _ rfl cu eM eN) (@ff _) (ef rfl)) (ef rfl)) (ef rfl)) (ef rfl)) (by decide) gN (ef rfl) (ia rfl (ia rfl (ia rfl mj)))) (um rfl)) (@ki _ _ _ (@nt _ _ _ _ (@uA _ _ _ _))) (@tF _)) (@ki _ _ _ (@nt _ _ _ _ (@uy _ _ _))))))))), ?_⟩
  trivial
  refine ⟨t, kl, lt, n, ks, lk, rfl, R, ok, dp, G, fun H1 S1 => ?_⟩
  obtain ⟨a, xs, ea, Tv, ra⟩ := wD Rv
  cases ea
  obtain ⟨x0, ys1, rfl, r0, ra1⟩ := uB ra
  obtain ⟨y, ys2, rfl, r1, ra2⟩ := uB ra1
  cases u7 r0
  have Tv1 := Same.tup S1 Tv
  refine ⟨_, .inr Tv1, ?_⟩
  clear ra ra1 Rv
  cases ra2 with
  | cons z ra =>
    rw [if_neg (by rw [List.length_cons, List.length_cons, List.length_cons]; omega)]
    rw [FN dp] at q
    exact q _ S1
  | nil =>
    rw [if_pos (by rfl)]
    refine ⟨_, Tv1, _, at0, rfl, ?_⟩
    by_cases hb : b = tG ks lk n
    · rw [if_pos (by rw [hb])]
      refine ⟨_, Tv1, _, at1, ?_⟩
      obtain ⟨wd, us, T, hw⟩ := B5 R dp
      have T1 := Same.tup S1 T
      by_cases hy : y = .non
      · rw [if_pos hy]
        cases (show d = .none by subst hy; cases r1; rfl)
        refine ⟨_, T1, _, at0, by decide, fun p1 hp1 => ?_⟩
        obtain ⟨H2, g2, S2, T2⟩ := tY (K := K) hp1 [V.str (Str.ofString "any"), V.str (Str.ofString "over")]
        rw [← g2]
        clear g2
        refine ⟨p1, _, rfl, .inr T2, rfl, rfl, _, rfl, ?_⟩
        rcases hw with ⟨ao, hin⟩ | ⟨on, hin⟩
        · rw [if_pos (by exact hin)]
          rw [show rdV ks lk n (.tuple [.bool b, .none]) = .bl (tG ks lk n) from by rw [vq, Dg ao, decide_eq_true hb]; rw [hb]; rfl] at q
          exact q _ (S1.trans S2)
        · rw [if_neg (by rw [show (if false = true then _ else inV (V.str wd) _) = false from hin]; decide)]
          refine ⟨_, rfl, ?_⟩
          cases hc : tG ks lk n with
          | false =>
            rw [if_pos rfl]
            rw [hc] at hb
            rw [show rdV ks lk n (.tuple [.bool b, .none]) = .bl false from by rw [vq, xF on, hb]; show (if (true && !(ur ks lk (tZ lk n))) = true then V.bl false else .non) = _; rw [← D3 on, hc]; rfl] at q
            exact q _ (S1.trans S2)
          | true =>
            rw [if_neg (by decide)]
            rw [hc] at hb
            refine ⟨_, (Same.tup S2 T1), _, at0, by decide, fun p1 hp1 => ?_⟩
            obtain ⟨H2, g2, S2, T2⟩ := tY (K := K) hp1 [V.str (Str.ofString "any"), V.str (Str.ofString "over")]
            rw [← g2]
            clear g2
            refine ⟨p1, _, rfl, .inr T2, rfl, rfl, _, rfl, ?_⟩
            rw [if_neg (by rw [show (if false = true then _ else inV (V.str wd) _) = false from hin]; decide)]
            refine ⟨_, rfl, ?_⟩
            rw [if_neg (by decide)]
            refine ⟨_, .non, rfl, (by rw [hy]; rfl), _, rfl, ?_⟩
            rw [if_pos (by rfl)]
            rw [show rdV ks lk n (.tuple [.bool b, .none]) = .non from by rw [vq, xF on, hb]; rfl] at q
            exact q _ (S1.trans (‹Same H1 _›.trans ‹Same _ _›))
      · rw [if_neg hy]
        have nn : ve d = false := by
          cases e : ve d with
          | true => exact absurd ((zY r1).mpr e) hy
          | false => rfl
        refine ⟨_, T1, _, at0, by decide, fun p1 hp1 => ?_⟩
        obtain ⟨H2, g2, S2, T2⟩ := tY (K := K) hp1 [V.str (Str.ofString "any"), V.str (Str.ofString "over")]
        rw [← g2]
        clear g2
        refine ⟨p1, _, rfl, .inr T2, rfl, rfl, _, rfl, ?_⟩
        rcases hw with ⟨ao, hin⟩ | ⟨on, hin⟩
        · rw [if_pos (by exact hin)]
          rw [show rdV ks lk n (.tuple [.bool b, d]) = .non from by rw [vq, Dg ao, nn, Bool.and_false]; rfl] at q
          exact q _ (S1.trans S2)
        · rw [if_neg (by rw [show (if false = true then _ else inV (V.str wd) _) = false from hin]; decide)]
          refine ⟨_, rfl, ?_⟩
          cases hc : tG ks lk n with
          | false =>
            rw [if_pos rfl]
            rw [hc] at hb
            rw [show rdV ks lk n (.tuple [.bool b, d]) = .non from by rw [vq, xF on, hb]; show (if (ve d && !(ur ks lk (tZ lk n))) = true then V.bl false else .non) = _; rw [nn]; rfl] at q
            exact q _ (S1.trans S2)
          | true =>
            rw [if_neg (by decide)]
            rw [hc] at hb
            have S12 := S1.trans S2
            have qn : xJ ks lk (tZ lk n) d = false → ∀ H3, Same H2 H3 → Q .non H3 := fun h H3 e => by
              rw [show rdV ks lk n (.tuple [.bool b, d]) = .non from by rw [vq, xF on, hb]; show (if xJ ks lk (tZ lk n) d = true then V.bl true else .non) = _; rw [h]; rfl] at q
              exact q _ (S12.trans e)
            refine ⟨_, _, rfl, v7 (Rep.same S12 r1), _, rfl, ?_⟩
            cases r1 with
            | non => exact absurd rfl hy
            | bl b => exact qn rfl _ (Same.refl _)
            | str z => exact qn rfl _ (Same.refl _)
            | lst a b => exact qn rfl _ (Same.refl _)
            | tup a b => exact qn rfl _ (Same.refl _)
            | int i =>
              rw [if_neg (show ¬ yl (dkn (.int i)) = false by show ¬ true = false; decide)]
              refine ⟨i, rfl, ?_⟩
              have out : ¬ (0 ≤ i ∧ i < ks.length) → xJ ks lk (tZ lk n) (.int i) = false := fun h => by
                cases e : xJ ks lk (tZ lk n) (.int i) with
                | false => rfl
                | true =>
                  obtain ⟨j, k, x, ej, h1, _⟩ := atPl_iff.mp e
                  injection ej with ej
                  have := (List.getElem?_eq_some_iff.mp h1).1
                  exact absurd ⟨by omega, by omega⟩ h
              by_cases h0 : i < 0
              · rw [if_pos h0]
                exact qn (out (by omega)) _ (Same.refl _)
              rw [if_neg h0]
              obtain ⟨kx, L, A⟩ := G.kx
              have lx := A.length
              refine ⟨_, .inl (S12.seq L), i, rfl, ?_⟩
              by_cases h1 : (kx.length : Int) ≤ i
              · rw [if_pos h1]
                exact qn (out (by omega)) _ (Same.refl _)
              rw [if_neg h1]
              obtain ⟨j, rfl⟩ : ∃ j : Nat, i = j := ⟨i.toNat, by omega⟩
              have ek : ks[j]? = some ks[j] := List.getElem?_eq_getElem (by omega)
              obtain ⟨x, e1, e2, mm, nn⟩ := G.at ek
              refine ⟨t, kl, lt, j, n, ks, lk, ks[j], x, rfl, R.same S12, on, G.same S12, ek, e1, fun H3 S3 => ⟨_, rfl, ?_⟩⟩
              cases e : tZ lk n ks[j] x with
              | true =>
                rw [if_pos rfl]
                rw [show rdV ks lk n (.tuple [.bool b, .int j]) = .bl true from by rw [vq, xF on, hb]; exact if_pos (atPl_iff.mpr ⟨j, _, _, rfl, ek, e1, e⟩)] at q
                exact q _ (S12.trans S3)
              | false =>
                rw [if_neg (by decide)]
                refine qn ?_ _ S3
                cases e' : xJ ks lk (tZ lk n) (.int j) with
                | false => rfl
                | true =>
                  obtain ⟨j', k, x', ej, h1, h2, h3⟩ := atPl_iff.mp e'
                  injection ej with ej
                  have ej2 : j = j' := by omega
                  subst ej2
                  rw [ek] at h1
                  rw [e1] at h2
                  injection h1 with h1
                  injection h2 with h2
                  subst h1 h2
                  rw [h3] at e
                  cases e
    · rw [if_neg fun z => hb (by injection z)]
      have : rdB ks lk n b [d] = false := by
        cases e : rdB ks lk n b [d] with
        | false => rfl
        | true => exact absurd (u5 G.len e) hb
      rw [vq, this] at q
      exact q _ S1
theorem Dm {L d : Nat} (F : Fun K "_law_reads" "_law_reads" aq f fd) (M : Mg mg) (cD : Cal P w K mg base CX0 "_law_whole" 1 ["_law_found"] (uO K)) (bX : Cal P w K mg base CX0 "_law_pair" 1 ["_law_word"] (w4 K)) (cj : Cal P w K mg base CX0 "_law_reads_plain" 3 ["_law_told", "_law_kinds_here", "_law_look_here", "_law_reason_here"] (xM K)) (cS : Cal P w K mg base CX0 "_law_reads" (L + 3) ["_law_told", "_law_kinds_here", "_law_look_here", "_law_reason_here"] (xD K d)) : FnOk P w K mg base CX0 (L + 4) f fd ["_law_told", "_law_kinds_here", "_law_look_here", "_law_reason_here"] (xD K (d + 1)) := by
  refine F.ok cY (fun vs H Q E h => ?_) (fun cdv A outer s H vs Q E hr h => ?_)
  · obtain ⟨t, kl, lt, v, n, ks, lk, dt, rfl, _⟩ := h
    rfl
  obtain ⟨t, kl, lt, v, n, ks, lk, dt, rfl, R, ok, dp, G, Rv, q⟩ := h
  refine ⟨_, (@fz _ _ _ _ _ (@tL _ _ _ _ _ _ _ _ (@PW.pt _ _ _ (@uF _ _ _ _ _ _ _ (@uz _ _ _ _ (@ua _ _ _ (@tH _ _ _ _ _ _ _ _ _ uH fj M.m_isinstance uc (@cg _ _ _ _ _ (@eu _ 3 _ _ rfl br ak al) (@cg _ _ _ _ _ (@uK _ _ (.ty "tuple") _ _ me M.m_tuple vS rfl fE fD) (@ff _) (ef rfl)) (ef rfl)) aW aV (ef rfl) (ia rfl mj)) (um rfl))) (@uF _ _ _ _ _ _ _ (@qq _ _ _ _ _ _ _ _ (@xY _) (@tH _ _ _ _ _ _ _ _ _ tO jb M.m_len uo (@cg _ _ _ _ _ (@eu _ 3 _ _ rfl br ak al) (@ff _) (ef rfl)) bg bf (ef rfl) mj) (@eH _ _ _ _) (r8 _)) (@uU _ _ _ _ (@uz _ _ _ _ (@ua _ _ _ (@tH _ _ _ _ _ _ _ _ _ uH fj M.m_isinstance uc (@cg _ _ _ _ _ (@m9 _ _ _ _ _ _ _ (@ni _) (@eu _ 3 _ _ rfl br ak al) (@eH _ _ _ _) (fun _ _ => rfl)) (@cg _ _ _ _ _ (@uK _ _ (.ty "bool") _ _ mT M.m_bool yq rfl jz jy) (@ff _) (ef rfl)) (ef rfl)) aW aV (ef rfl) (ia rfl mj)) (um rfl))))))) (@ki _ _ _ (@nt _ _ _ _ (@uy _ _ _))) (@tF _)) (@fz _ _ _ _ _ (@tL _ _ _ _ _ _ _ _ (@qq _ _ _ _ _ _ _ _ (@yg _) (@m9 _ _ _ _ _ _ _ (@ni _) (@eu _ 0 _ _ rfl de af ag) (@eH _ _ _ _) (fun _ _ => rfl)) (@tX _ _ _ _ _ (@cg _ _ _ _ _ (@tN _ _ _ _) (@cg _ _ _ _ _ (@tN _ _ _ _) (@cg _ _ _ _ _ (@tN _ _ _ _) (@ff _) (ef rfl)) (ef rfl)) (ef rfl))) (by with_unfolding_all rfl)) (@ki _ _ _ (@nt _ _ _ _ (@m8 _ _ _ _ _ _ _ _ _ _ _ cj hr gz (@cg _ _ _ _ _ (@eu _ 0 _ _ rfl de af ag) (@cg _ _ _ _ _ (@eu _ 1 _ _ rfl fu aa ae) (@cg _ _ _ _ _ (@eu _ 2 _ _ rfl fw ah ai) (@cg _ _ _ _ _ (@eu _ 3 _ _ rfl br ak al) (@ff _) (ef rfl)) (ef rfl)) (ef rfl)) (ef rfl)) (by omega) kR (ef rfl) (ia rfl (ia rfl (ia rfl mj)))))) (@tF _)) (@fz _ _ _ _ _ (@tL _ _ _ _ _ _ _ _ (@qq _ _ _ _ _ _ _ _ (@vh _) (@tH _ _ _ _ _ _ _ _ _ tO jb M.m_len uo (@cg _ _ _ _ _ (@eu _ 3 _ _ rfl br ak al) (@ff _) (ef rfl)) bg bf (ef rfl) mj) (@eH _ _ _ _) (r8 _)) (@ki _ _ _ (@nt _ _ _ _ (@uy _ _ _))) (@tF _)) (@fz _ _ _ _ _ (@tK _ _ 4 _ _ _ _ cY.nd rfl qy (@m8 _ _ _ _ _ _ _ _ _ _ _ bX hr jN (@cg _ _ _ _ _ (@m9 _ _ _ _ _ _ _ (@ni _) (@eu _ 0 _ _ rfl de af ag) (@eH _ _ _ _) (fun _ _ => rfl)) (@ff _) (ef rfl)) (by omega) lu (ef rfl) mj) (tM rfl) (.inl rfl)) (@fz _ _ _ _ _ (@tL _ _ _ _ _ _ _ _ (@qq _ _ _ _ _ _ _ _ (@tT _) (@m9 _ _ _ _ _ _ _ (@ni _) (@eu _ 3 _ _ rfl br ak al) (@eH _ _ _ _) (fun _ _ => rfl)) (@m9 _ _ _ _ _ _ _ (@ue _) (@eu _ 4 _ _ rfl fA bp bq) (@eH _ _ _ _) (fun _ _ => rfl)) (r8 _)) (@fz _ _ _ _ _ (@tK _ _ 5 _ _ _ _ cY.nd rfl qz (@m8 _ _ _ _ _ _ _ _ _ _ _ cS hr dC (@cg _ _ _ _ _ (@m9 _ _ _ _ _ _ _ (@ni _) (@eu _ 0 _ _ rfl de af ag) (@eH _ _ _ _) (fun _ _ => rfl)) (@cg _ _ _ _ _ (@eu _ 1 _ _ rfl fu aa ae) (@cg _ _ _ _ _ (@eu _ 2 _ _ rfl fw ah ai) (@cg _ _ _ _ _ (@m9 _ _ _ _ _ _ _ (@ni _) (@eu _ 3 _ _ rfl br ak al) (@eH _ _ _ _) (fun _ _ => rfl)) (@ff _) (ef rfl)) (ef rfl)) (ef rfl)) (ef rfl)) (by omega) dR (ef rfl) (ia rfl (ia rfl (ia rfl mj)))) (tM rfl) (.inl rfl)) (@fz _ _ _ _ _ (@tK _ _ 6 _ _ _ _ cY.nd rfl qA (@m8 _ _ _ _ _ _ _ _ _ _ _ cS hr dC (@cg _ _ _ _ _ (@m9 _ _ _ _ _ _ _ (@ni _) (@eu _ 0 _ _ rfl de af ag) (@eH _ _ _ _) (fun _ _ => rfl)) (@cg _ _ _ _ _ (@eu _ 1 _ _ rfl fu aa ae) (@cg _ _ _ _ _ (@eu _ 2 _ _ rfl fw ah ai) (@cg _ _ _ _ _ (@m9 _ _ _ _ _ _ _ (@ni _) (@eu _ 3 _ _ rfl br ak al) (@eH _ _ _ _) (fun _ _ => rfl)) (@ff _) (ef rfl)) (ef rfl)) (ef rfl)) (ef rfl)) (by omega) dR (ef rfl) (ia rfl (ia rfl (ia rfl mj)))) (tM rfl) (.inl rfl)) (@fz _ _ _ _ _ (@tL _ _ _ _ _ _ _ _ (@PW.pt _ _ _ (@uF _ _ _ _ _ _ _ (@qq _ _ _ _ _ _ _ _ (@wu _) (@eu _ 5 _ _ rfl kO dy dz) (@uy _ _ _) (r8 _)) (@uF _ _ _ _ _ _ _ (@qq _ _ _ _ _ _ _ _ (@wu _) (@eu _ 6 _ _ rfl kP ck cm) (@uy _ _ _) (r8 _)) (@uF _ _ _ _ _ _ _ (@qq _ _ _ _ _ _ _ _ (@vh _) (@eu _ 5 _ _ rfl kO dy dz) (@m9 _ _ _ _ _ _ _ (@ue _) (@eu _ 4 _ _ rfl fA bp bq) (@eH _ _ _ _) (fun _ _ => rfl)) (r8 _)) (@uU _ _ _ _ (@qq _ _ _ _ _ _ _ _ (@vh _) (@eu _ 6 _ _ rfl kP ck cm) (@m9 _ _ _ _ _ _ _ (@ue _) (@eu _ 4 _ _ rfl fA bp bq) (@eH _ _ _ _) (fun _ _ => rfl)) (r8 _))))))) (@ki _ _ _ (@nt _ _ _ _ (@uy _ _ _))) (@tF _)) (@ki _ _ _ (@nt _ _ _ _ (@m9 _ _ _ _ _ _ _ (@ni _) (@eu _ 3 _ _ rfl br ak al) (@eH _ _ _ _) (fun _ _ => rfl))))))) (@tF _)) (@fz _ _ _ _ _ (@tK _ _ 7 _ _ _ _ cY.nd rfl qB (@m9 _ _ _ _ _ _ _ (@ni _) (@eu _ 3 _ _ rfl br ak al) (@eH _ _ _ _) (fun _ _ => rfl)) (tM rfl) (.inl rfl)) (@fz _ _ _ _ _ (@tL _ _ _ _ _ _ _ _ (@PW.pt _ _ _ (@uF _ _ _ _ _ _ _ (@uz _ _ _ _ (@ua _ _ _ (@m8 _ _ _ _ _ _ _ _ _ _ _ cD hr jo (@cg _ _ _ _ _ (@eu _ 7 _ _ rfl dX eA eB) (@ff _) (ef rfl)) (by omega) kf (ef rfl) mj) (um rfl))) (@uF _ _ _ _ _ _ _ (@qq _ _ _ _ _ _ _ _ (@xY _) (@eu _ 7 _ _ rfl dX eA eB) (@eH _ _ _ _) (r8 _)) (@uU _ _ _ _ (@qq _ _ _ _ _ _ _ _ (@yz _) (@eu _ 7 _ _ rfl dX eA eB) (@eH _ _ _ _) (r8 _)))))) (@ki _ _ _ (@nt _ _ _ _ (@uy _ _ _))) (@tF _)) (@fz _ _ _ _ _ (@tK _ _ 8 _ _ _ _ cY.nd rfl qC (@m8 _ _ _ _ _ _ _ _ _ _ _ cS hr dC (@cg _ _ _ _ _ (@m9 _ _ _ _ _ _ _ (@ni _) (@eu _ 0 _ _ rfl de af ag) (@tQ _ _ _ _ _ _ _ _ (@uQ _) (@eH _ _ _ _) (@eu _ 7 _ _ rfl dX eA eB)) (fun _ _ => rfl)) (@cg _ _ _ _ _ (@eu _ 1 _ _ rfl fu aa ae) (@cg _ _ _ _ _ (@eu _ 2 _ _ rfl fw ah ai) (@cg _ _ _ _ _ (@m9 _ _ _ _ _ _ _ (@ni _) (@eu _ 3 _ _ rfl br ak al) (@eH _ _ _ _) (fun _ _ => rfl)) (@ff _) (ef rfl)) (ef rfl)) (ef rfl)) (ef rfl)) (by omega) dR (ef rfl) (ia rfl (ia rfl (ia rfl mj)))) (tM rfl) (.inl rfl)) (@fz _ _ _ _ _ (@tL _ _ _ _ _ _ _ _ (@PW.pt _ _ _ (@uF _ _ _ _ _ _ _ (@qq _ _ _ _ _ _ _ _ (@wu _) (@eu _ 8 _ _ rfl kQ kg kh) (@uy _ _ _) (r8 _)) (@uU _ _ _ _ (@qq _ _ _ _ _ _ _ _ (@tT _) (@eu _ 8 _ _ rfl kQ kg kh) (@m9 _ _ _ _ _ _ _ (@ue _) (@eu _ 4 _ _ rfl fA bp bq) (@tQ _ _ _ _ _ _ _ _ (@uQ _) (@eH _ _ _ _) (@eu _ 7 _ _ rfl dX eA eB)) (fun _ _ => rfl)) (r8 _))))) (@ki _ _ _ (@nt _ _ _ _ (@uy _ _ _))) (@tF _)) (@ki _ _ _ (@nt _ _ _ _ (@m9 _ _ _ _ _ _ _ (@ni _) (@eu _ 3 _ _ rfl br ak al) (@eH _ _ _ _) (fun _ _ => rfl))))))))))))), ?_⟩
  trivial
  cases Rv with
  | non => exact ⟨.non, rfl, q _ (Same.refl _)⟩
  | bl b => exact ⟨.bl, rfl, q _ (Same.refl _)⟩
  | int i => exact ⟨.int, rfl, q _ (Same.refl _)⟩
  | str z => exact ⟨.str, rfl, q _ (Same.refl _)⟩
  | lst T ra => exact ⟨.lst, .inl ⟨rfl, _, T⟩, q _ (Same.refl _)⟩
  | tup T ra =>
    refine ⟨.tup, .inr (.inl ⟨rfl, _, T⟩), ?_⟩
    rw [if_neg (by decide)]
    refine ⟨_, rfl, _, .inr T, ?_⟩
    cases ra with
    | nil => exact q _ (Same.refl _)
    | cons r0 rr =>
      cases rr with
      | nil =>
        rw [if_pos (by show (1 : Int) < 2; decide)]
        rw [DY] at q
        exact q _ (Same.refl _)
      | cons r1 rr =>
        rw [if_neg (by rw [List.length_cons, List.length_cons]; omega)]
        refine ⟨_, rfl, _, T, _, at0, _, v7 r0, ?_⟩
        cases r0 with
        | non => exact q _ (Same.refl _)
        | int i => exact q _ (Same.refl _)
        | str z => exact q _ (Same.refl _)
        | lst T ra => exact q _ (Same.refl _)
        | tup T ra => exact q _ (Same.refl _)
        | bl b =>
          rw [if_neg (show ¬ uf (dkn (.bool b)) .bl = false by show ¬ true = false; decide)]
          rcases Cg R with ⟨dp1, wd, us, T', hin⟩ | ⟨wd, w0, w1, w2, t1, t2, x, y, T', jw, hin, s1, s2, okj, dpj, hrd⟩
          · have hin' := hin
            refine ⟨_, T', _, at0, by decide, fun p1 hp1 => ?_⟩
            obtain ⟨H2, g2, S2, T2⟩ := tY (K := K) hp1 [V.str (Str.ofString "both"), V.str (Str.ofString "either"), V.str (Str.ofString "but")]
            rw [← g2]
            clear g2
            refine ⟨p1, _, rfl, .inr T2, rfl, rfl, _, rfl, ?_⟩
            rw [if_pos (by rw [show (if true = true then !inV (V.str wd) _ else inV (V.str wd) _) = !false from congrArg Bool.not hin]; rfl)]
            exact ⟨t, kl, lt, _, n, ks, lk, b, _, _, rfl, R.same S2, ok, dp1, G.same S2, Rep.same S2 (.tup T (.cons (.bl b) (.cons r1 rr))), fun H' e => q H' (S2.trans e)⟩
          · obtain ⟨ok1, ok2⟩ := okj ok
            refine ⟨_, T', _, at0, by decide, fun p1 hp1 => ?_⟩
            obtain ⟨H2, g2, S2, T2⟩ := tY (K := K) hp1 [V.str (Str.ofString "both"), V.str (Str.ofString "either"), V.str (Str.ofString "but")]
            rw [← g2]
            clear g2
            refine ⟨p1, _, rfl, .inr T2, rfl, rfl, _, rfl, ?_⟩
            rw [if_neg (by rw [show (if true = true then !inV (V.str wd) _ else inV (V.str wd) _) = !true from congrArg Bool.not hin]; decide)]
            refine ⟨_, rfl, _, .inr (Same.tup S2 T), ?_⟩
            cases rr with
            | nil =>
              rw [if_neg (by show ¬ (2 : Int) = 3; decide)]
              rw [show rdV ks lk n (.tuple [.bool b, _]) = .non from by rw [vq, hrd]; rfl] at q
              exact q _ S2
            | cons r2 rr =>
              cases rr with
              | cons r3 rr =>
                rw [if_neg (by rw [List.length_cons, List.length_cons, List.length_cons, List.length_cons]; omega)]
                rw [show rdV ks lk n (.tuple (.bool b :: _ :: _ :: _ :: _)) = .non from by show (if rdB ks lk n b _ = true then V.bl b else .non) = _; rw [hrd]; rfl] at q
                exact q _ S2
              | nil =>
                rename_i v1 u v2 z
                rw [if_pos (by rfl)]
                refine ⟨_, Same.tup S2 T', _, at0, wd, w0, w1, w2, rfl, jw, fun l H3 S3 hl => ?_⟩
                have S23 := S2.trans S3
                refine ⟨_, rfl, _, Same.tup S23 T, _, at0, _, rfl, _, SqL.of hl, _, at0, rfl, ?_⟩
                by_cases e : b = w0
                · rw [if_pos (by rw [e])]
                  have e8 : rdV ks lk n (.tuple [.bool b, u, z]) = if (uY (rdB ks lk x) w1 u && uY (rdB ks lk y) w2 z) = true then .bl b else .non := by
                    show (if rdB ks lk n b [u, z] = true then V.bl b else .non) = _
                    rw [hrd]
                    show (if (if b = w0 then _ else _) = true then V.bl b else .non) = _
                    rw [if_pos e]
                  rw [e8] at q
                  refine ⟨_, Same.tup S23 T', _, at1, _, rfl, _, Same.tup S23 T, _, at1, t1, kl, lt, _, x, ks, lk, u, rfl, s1.same S23, ok1, (by omega), G.same S23, r1.same S23, fun H4 S4 => ?_⟩
                  have S24 := S23.trans S4
                  refine ⟨_, Same.tup S24 T', _, at2, _, rfl, _, Same.tup S24 T, _, at2, t2, kl, lt, _, y, ks, lk, z, rfl, s2.same S24, ok2, (by omega), G.same S24, r2.same S24, fun H5 S5 => ?_⟩
                  have S25 := S24.trans S5
                  have hl5 := S5 _ _ (S4 _ _ hl)
                  dsimp only
                  rcases wK ks lk x u with ⟨a1, a2⟩ | ⟨c, a1, a2⟩
                  · rw [if_pos a1]
                    rw [a2, Bool.false_and] at q
                    exact q _ S25
                  rw [if_neg (by rw [a1]; exact fun z => by cases z)]
                  rcases wK ks lk y z with ⟨c1, c2⟩ | ⟨c', c1, c2⟩
                  · rw [if_pos c1]
                    rw [c2, Bool.and_false] at q
                    exact q _ S25
                  rw [if_neg (by rw [c1]; exact fun z => by cases z)]
                  refine ⟨_, rfl, _, SqL.of hl5, _, at1, (by rw [a1]; rfl), ?_⟩
                  by_cases h1 : c = w1
                  · rw [if_pos (by rw [a1, h1])]
                    refine ⟨_, rfl, _, SqL.of hl5, _, at2, (by rw [c1]; rfl), ?_⟩
                    by_cases h2 : c' = w2
                    · rw [if_pos (by rw [c1, h2])]
                      rw [a2, c2, decide_eq_true h1, decide_eq_true h2, if_pos (show (true && true) = true from rfl)] at q
                      exact ⟨_, rfl, _, Same.tup S25 T, _, at0, q _ S25⟩
                    · rw [if_neg (by rw [c1]; exact fun z => h2 (by injection z))]
                      rw [c2, decide_eq_false h2, Bool.and_false] at q
                      exact q _ S25
                  · rw [if_neg (by rw [a1]; exact fun z => h1 (by injection z))]
                    rw [a2, decide_eq_false h1, Bool.false_and] at q
                    exact q _ S25
                · rw [if_neg fun c => e (by injection c)]
                  have e8 : rdV ks lk n (.tuple [.bool b, u, z]) = if wN w1 w2 (rdB ks lk x) (rdB ks lk y) z u = true then .bl b else .non := by
                    show (if rdB ks lk n b [u, z] = true then V.bl b else .non) = _
                    rw [hrd]
                    show (if (if b = w0 then _ else _) = true then V.bl b else .non) = _
                    rw [if_neg e]
                  rw [e8] at q
                  refine ⟨_, rfl, _, Same.tup S23 T, _, at1, _, _, rfl, v7 (r1.same S23), _, rfl, ?_⟩
                  cases r1 with
                  | non => exact q _ S23
                  | bl b => exact q _ S23
                  | str z => exact q _ S23
                  | lst a b => exact q _ S23
                  | tup a b => exact q _ S23
                  | int i =>
                    rw [if_neg (show ¬ yl (dkn (.int i)) = false by show ¬ true = false; decide)]
                    have no : ¬ (i = 0 ∨ i = 1) → wN w1 w2 (rdB ks lk x) (rdB ks lk y) z (.int i) = false := fun h => by
                      show (if i = 0 then _ else if i = 1 then _ else false) = false
                      rw [if_neg (fun c => h (.inl c)), if_neg (fun c => h (.inr c))]
                    refine ⟨i, rfl, ?_⟩
                    by_cases h0 : i < 0
                    · rw [if_pos h0]
                      rw [no (by omega)] at q
                      exact q _ S23
                    rw [if_neg h0]
                    refine ⟨i, rfl, ?_⟩
                    by_cases h1 : 1 < i
                    · rw [if_pos h1]
                      rw [no (by omega)] at q
                      exact q _ S23
                    rw [if_neg h1]
                    rcases (show i = 0 ∨ i = 1 by omega) with rfl | rfl
                    · have e7 : wN w1 w2 (rdB ks lk x) (rdB ks lk y) z (.int 0) = uY (rdB ks lk x) (!w1) z := rfl
                      rw [e7] at q
                      refine ⟨0, rfl, _, Same.tup S23 T', _, (show atI [V.str wd, .ref t1, .ref t2] (1 + 0) = some (.ref t1) from at1), _, rfl, _, Same.tup S23 T, _, at2, t1, kl, lt, _, x, ks, lk, z, rfl, s1.same S23, ok1, (by omega), G.same S23, r2.same S23, fun H4 S4 => ?_⟩
                      have S24 := S23.trans S4
                      dsimp only
                      rcases wK ks lk x z with ⟨a1, a2⟩ | ⟨c, a1, a2⟩
                      · rw [if_pos a1]
                        rw [a2] at q
                        exact q _ S24
                      rw [if_neg (by rw [a1]; exact fun z => by cases z)]
                      refine ⟨0, rfl, _, rfl, _, SqL.of (S4 _ _ hl), _, (show atI [V.bl w0, .bl w1, .bl w2] (1 + 0) = some (.bl w1) from at1), (by rw [a1]; rfl), ?_⟩
                      by_cases hc : c = w1
                      · rw [if_pos (by rw [a1, hc])]
                        rw [a2, decide_eq_false (fun z => by rw [hc] at z; cases w1 <;> cases z)] at q
                        exact q _ S24
                      · rw [if_neg (by rw [a1]; exact fun z => hc (by injection z))]
                        rw [a2, decide_eq_true (show c = !w1 by cases c <;> cases w1 <;> first | rfl | exact absurd rfl hc), if_pos rfl] at q
                        exact ⟨_, rfl, _, Same.tup S24 T, _, at0, q _ S24⟩
                    · have e7 : wN w1 w2 (rdB ks lk x) (rdB ks lk y) z (.int 1) = uY (rdB ks lk y) (!w2) z := rfl
                      rw [e7] at q
                      refine ⟨1, rfl, _, Same.tup S23 T', _, (show atI [V.str wd, .ref t1, .ref t2] (1 + 1) = some (.ref t2) from at2), _, rfl, _, Same.tup S23 T, _, at2, t2, kl, lt, _, y, ks, lk, z, rfl, s2.same S23, ok2, (by omega), G.same S23, r2.same S23, fun H4 S4 => ?_⟩
                      have S24 := S23.trans S4
                      dsimp only
                      rcases wK ks lk y z with ⟨a1, a2⟩ | ⟨c, a1, a2⟩
                      · rw [if_pos a1]
                        rw [a2] at q
                        exact q _ S24
                      rw [if_neg (by rw [a1]; exact fun z => by cases z)]
                      refine ⟨1, rfl, _, rfl, _, SqL.of (S4 _ _ hl), _, (show atI [V.bl w0, .bl w1, .bl w2] (1 + 1) = some (.bl w2) from at2), (by rw [a1]; rfl), ?_⟩
                      by_cases hc : c = w2
                      · rw [if_pos (by rw [a1, hc])]
                        rw [a2, decide_eq_false (fun z => by rw [hc] at z; cases w2 <;> cases z)] at q
                        exact q _ S24
                      · rw [if_neg (by rw [a1]; exact fun z => hc (by injection z))]
                        rw [a2, decide_eq_true (show c = !w2 by cases c <;> cases w2 <;> first | rfl | exact absurd rfl hc), if_pos rfl] at q
                        exact ⟨_, rfl, _, Same.tup S24 T, _, at0, q _ S24⟩
theorem ym (F : Fun K "_law_reads" "_law_reads" aq f fd) (M : Mg mg) (cD : Cal P w K mg base CX0 "_law_whole" 1 ["_law_found"] (uO K)) (bX : Cal P w K mg base CX0 "_law_pair" 1 ["_law_word"] (w4 K)) (cj : Cal P w K mg base CX0 "_law_reads_plain" 3 ["_law_told", "_law_kinds_here", "_law_look_here", "_law_reason_here"] (xM K)) (b : Binds K fd ["_law_told", "_law_kinds_here", "_law_look_here", "_law_reason_here"] []) (kp : PySem.W.keepIn K (.ref f) = true) (m : mg "_law_reads" = some (.ref f)) : ∀ d : Nat, FnOk P w K mg base CX0 (d + 3) f fd ["_law_told", "_law_kinds_here", "_law_look_here", "_law_reason_here"] (xD K d)
  | 0 => by
    refine F.ok cY (fun vs H Q E h => ?_) (fun cdv A outer s H vs Q E hr h => ?_)
    · obtain ⟨t, kl, lt, v, n, ks, lk, dt, rfl, _⟩ := h
      rfl
    obtain ⟨t, kl, lt, v, n, ks, lk, dt, rfl, R, ok, dp, G, Rv, q⟩ := h
    have := Nt.dp_pos n
    omega
  | d + 1 => Dm (L := d) F M cD bX cj ⟨⟨f, fd, ym F M cD bX cj b kp m d, b, kp, m⟩⟩
theorem Br {L d : Nat} (F : Fun K "_law_reason" "_law_reason" ay f fd) (M : Mg mg) (az : Cal P w K mg base CX0 "_law_plain_claims" 2 ["_law_told", "_law_kinds_here", "_law_look_here"] (vF K)) (bN : Cal P w K mg base CX0 "_law_shows" 1 ["_law_told", "_law_kinds_here", "_law_look_here", "_law_k"] (vR K)) (bX : Cal P w K mg base CX0 "_law_pair" 1 ["_law_word"] (w4 K)) (dI : Cal P w K mg base CX0 "_law_reason" (L + 3) ["_law_told", "_law_kinds_here", "_law_look_here"] (wH K d)) : FnOk P w K mg base CX0 (L + 4) f fd ["_law_told", "_law_kinds_here", "_law_look_here"] (wH K (d + 1)) := by
  refine F.ok df (fun vs H Q E h => ?_) (fun cdv A outer s H vs Q E hr h => ?_)
  · obtain ⟨t, kl, lt, n, ks, lk, rfl, _⟩ := h
    rfl
  obtain ⟨t, kl, lt, n, ks, lk, rfl, R, ok, dp, G, q⟩ := h
  refine ⟨_, (@fz _ _ _ _ _ (@tL _ _ _ _ _ _ _ _ (@qq _ _ _ _ _ _ _ _ vW (@m9 _ _ _ _ _ _ _ (@ni _) (@eu _ 0 _ _ rfl cT af ag) (@eH _ _ _ _) (fun _ _ => rfl)) (@tX _ _ _ _ _ (@cg _ _ _ _ _ (@tN _ _ _ _) (@cg _ _ _ _ _ (@tN _ _ _ _) (@ff _) (ef rfl)) (ef rfl))) (by with_unfolding_all rfl)) (@ki _ _ _ (@nt _ _ _ _ (@tX _ _ _ _ _ (@cg _ _ _ _ _ (@m8 _ _ _ _ _ _ _ _ _ _ _ az hr gd (@cg _ _ _ _ _ (@eu _ 0 _ _ rfl cT af ag) (@cg _ _ _ _ _ (@eu _ 1 _ _ rfl eS aa ae) (@cg _ _ _ _ _ (@eu _ 2 _ _ rfl gA ah ai) (@ff _) (ef rfl)) (ef rfl)) (ef rfl)) (by omega) dN (ef rfl) (ia rfl (ia rfl mj))) (@cg _ _ _ _ _ (@uy _ _ _) (@ff _) (ef rfl)) (ef rfl))))) (@tF _)) (@fz _ _ _ _ _ (@tL _ _ _ _ _ _ _ _ (@qq _ _ _ _ _ _ _ _ (@yg _) (@m9 _ _ _ _ _ _ _ (@ni _) (@eu _ 0 _ _ rfl cT af ag) (@eH _ _ _ _) (fun _ _ => rfl)) (@tX _ _ _ _ _ (@cg _ _ _ _ _ (@tN _ _ _ _) (@cg _ _ _ _ _ (@tN _ _ _ _) (@cg _ _ _ _ _ (@tN _ _ _ _) (@ff _) (ef rfl)) (ef rfl)) (ef rfl))) (by with_unfolding_all rfl)) (@fz _ _ _ _ _ (@CY _ _ _ _ _ _ _ _ _ _ _ _ _ _ _ 3 _ _ _ df.nd rfl oS rfl (CompOk.make (N' := ["_law_told", "_law_kinds_here", "_law_look_here", "_law_k"]) (ix := [0, 1, 2]) (nl := 1) (by rfl) (fm1 rfl (fm1 rfl (fm1 rfl fm0))) (by rfl) (by decide +kernel) rfl (by decide +kernel) rfl (And.intro ⟨rfl, .inl rfl, .inl rfl⟩ (And.intro ⟨rfl, .inl rfl, .inl rfl⟩ (And.intro ⟨rfl, .inl rfl, .inl rfl⟩ True.intro)))) (@uT _ _ _ _ _ _ lO M.m_range (@cg _ _ _ _ _ (@tH _ _ _ _ _ _ _ _ _ tO iQ M.m_len uo (@cg _ _ _ _ _ (@eu _ 1 _ _ rfl eS aa ae) (@ff _) (ef rfl)) bg bf (ef rfl) mj) (@ff _) (ef rfl)) (star1' rfl)) (fun _ _ _ _ _ => (@uu _ _ 3 _ (show List.Nodup (["_law_told", "_law_kinds_here", "_law_look_here", "_law_k"] : List Str) from by decide) rfl (Or.inl rfl) (by first | exact .inl rfl | exact .inr rfl | assumption))) (fun _ _ _ _ _ => (@wo _ _ _ (@ua _ _ _ (@m8 _ _ _ _ _ _ _ _ _ _ _ bN hr rfl (@cg _ _ _ _ _ (@pv _ 0 _ _ (by rfl) (by first | exact Or.inl rfl | exact Or.inr (Or.inl rfl) | exact Or.inr (Or.inr rfl)) (by decide) (by decide)) (@cg _ _ _ _ _ (@pv _ 1 _ _ (by rfl) (by first | exact Or.inl rfl | exact Or.inr (Or.inl rfl) | exact Or.inr (Or.inr rfl)) (by decide) (by decide)) (@cg _ _ _ _ _ (@pv _ 2 _ _ (by rfl) (by first | exact Or.inl rfl | exact Or.inr (Or.inl rfl) | exact Or.inr (Or.inr rfl)) (by decide) (by decide)) (@cg _ _ _ _ _ (@pv _ 3 _ _ (by rfl) (by first | exact Or.inl rfl | exact Or.inr (Or.inl rfl) | exact Or.inr (Or.inr rfl)) (by decide) (by decide)) (@ff _) (ef rfl)) (ef rfl)) (ef rfl)) (ef rfl)) (by omega) gN (ef rfl) (ia rfl (ia rfl (ia rfl mj)))) (um rfl)))) (fun _ _ _ _ _ => (@pv _ 3 _ _ (by rfl) (by first | exact Or.inl rfl | exact Or.inr (Or.inl rfl) | exact Or.inr (Or.inr rfl)) (by decide) (by decide))) (by rfl) (by intro _; rfl) (by first | exact .inl rfl | exact .inr rfl | assumption)) (@fz _ _ _ _ _ (@tL _ _ _ _ _ _ _ _ (@qq _ _ _ _ _ _ _ _ (@yz _) (@tH _ _ _ _ _ _ _ _ _ tO iQ M.m_len uo (@cg _ _ _ _ _ (@eu _ 3 _ _ rfl jO jC jD) (@ff _) (ef rfl)) bg bf (ef rfl) mj) (@eH _ _ _ _) (r8 _)) (@ki _ _ _ (@nt _ _ _ _ (@tX _ _ _ _ _ (@cg _ _ _ _ _ (@uA _ _ _ _) (@cg _ _ _ _ _ (@m9 _ _ _ _ _ _ _ (@ue _) (@eu _ 3 _ _ rfl jO jC jD) (@G9 _ _ _ _ _ _ (@G2 _) (@eH _ _ _ _)) (fun _ _ => rfl)) (@ff _) (ef rfl)) (ef rfl))))) (@tF _)) (@ki _ _ _ (@nt _ _ _ _ (@tX _ _ _ _ _ (@cg _ _ _ _ _ (@uA _ _ _ _) (@cg _ _ _ _ _ (@uy _ _ _) (@ff _) (ef rfl)) (ef rfl))))))) (@tF _)) (@fz _ _ _ _ _ (@tK _ _ 4 _ _ _ _ df.nd rfl oT (@m8 _ _ _ _ _ _ _ _ _ _ _ dI hr eK (@cg _ _ _ _ _ (@m9 _ _ _ _ _ _ _ (@ni _) (@eu _ 0 _ _ rfl cT af ag) (@eH _ _ _ _) (fun _ _ => rfl)) (@cg _ _ _ _ _ (@eu _ 1 _ _ rfl eS aa ae) (@cg _ _ _ _ _ (@eu _ 2 _ _ rfl gA ah ai) (@ff _) (ef rfl)) (ef rfl)) (ef rfl)) (by omega) gq (ef rfl) (ia rfl (ia rfl mj))) (tM rfl) (.inl rfl)) (@fz _ _ _ _ _ (@tK _ _ 5 _ _ _ _ df.nd rfl oU (@m8 _ _ _ _ _ _ _ _ _ _ _ dI hr eK (@cg _ _ _ _ _ (@m9 _ _ _ _ _ _ _ (@ni _) (@eu _ 0 _ _ rfl cT af ag) (@eH _ _ _ _) (fun _ _ => rfl)) (@cg _ _ _ _ _ (@eu _ 1 _ _ rfl eS aa ae) (@cg _ _ _ _ _ (@eu _ 2 _ _ rfl gA ah ai) (@ff _) (ef rfl)) (ef rfl)) (ef rfl)) (by omega) gq (ef rfl) (ia rfl (ia rfl mj))) (tM rfl) (.inl rfl)) (@fz _ _ _ _ _ (@tK _ _ 6 _ _ _ _ df.nd rfl oV (@m8 _ _ _ _ _ _ _ _ _ _ _ bX hr jp (@cg _ _ _ _ _ (@m9 _ _ _ _ _ _ _ (@ni _) (@eu _ 0 _ _ rfl cT af ag) (@eH _ _ _ _) (fun _ _ => rfl)) (@ff _) (ef rfl)) (by omega) lu (ef rfl) mj) (tM rfl) (.inl rfl)) (@fz _ _ _ _ _ (@tL _ _ _ _ _ _ _ _ (@qq _ _ _ _ _ _ _ _ (@vh _) (@m9 _ _ _ _ _ _ _ (@ni _) (@eu _ 5 _ _ rfl gC ck cm) (@eH _ _ _ _) (fun _ _ => rfl)) (@m9 _ _ _ _ _ _ _ (@ue _) (@eu _ 6 _ _ rfl dH bp bq) (@eH _ _ _ _) (fun _ _ => rfl)) (r8 _)) (@ki _ _ _ (@nt _ _ _ _ (@tX _ _ _ _ _ (@cg _ _ _ _ _ (@wZ _ _ _ _ (@m9 _ _ _ _ _ _ _ (@ue _) (@eu _ 6 _ _ rfl dH bp bq) (@eH _ _ _ _) (fun _ _ => rfl))) (@cg _ _ _ _ _ (@eH _ _ _ _) (@cg _ _ _ _ _ (@eu _ 5 _ _ rfl gC ck cm) (@ff _) (ef rfl)) (ef rfl)) (ef rfl))))) (@tF _)) (@fz _ _ _ _ _ (@tL _ _ _ _ _ _ _ _ (@qq _ _ _ _ _ _ _ _ (@vh _) (@m9 _ _ _ _ _ _ _ (@ni _) (@eu _ 4 _ _ rfl gB dy dz) (@eH _ _ _ _) (fun _ _ => rfl)) (@m9 _ _ _ _ _ _ _ (@ue _) (@eu _ 6 _ _ rfl dH bp bq) (@eH _ _ _ _) (fun _ _ => rfl)) (r8 _)) (@ki _ _ _ (@nt _ _ _ _ (@tX _ _ _ _ _ (@cg _ _ _ _ _ (@wZ _ _ _ _ (@m9 _ _ _ _ _ _ _ (@ue _) (@eu _ 6 _ _ rfl dH bp bq) (@eH _ _ _ _) (fun _ _ => rfl))) (@cg _ _ _ _ _ (@eH _ _ _ _) (@cg _ _ _ _ _ (@eu _ 4 _ _ rfl gB dy dz) (@ff _) (ef rfl)) (ef rfl)) (ef rfl))))) (@tF _)) (@ki _ _ _ (@nt _ _ _ _ (@tX _ _ _ _ _ (@cg _ _ _ _ _ (@m9 _ _ _ _ _ _ _ (@ue _) (@eu _ 6 _ _ rfl dH bp bq) (@eH _ _ _ _) (fun _ _ => rfl)) (@cg _ _ _ _ _ (@eu _ 4 _ _ rfl gB dy dz) (@cg _ _ _ _ _ (@eu _ 5 _ _ rfl gC ck cm) (@ff _) (ef rfl)) (ef rfl)) (ef rfl)))))))))))), ?_⟩
  trivial
  rcases Cg R with ⟨dp1, wd', us', T', hin3⟩ | ⟨wd, w0, w1, w2, t1, t2, x, y, T', jw, hin, s1, s2, okj, dpj, hrd⟩
  · obtain ⟨wd, us, T, hw⟩ := B5 R dp1
    refine ⟨_, T, _, at0, by decide, fun p1 hp1 => ?_⟩
    obtain ⟨H2, g2, S2, T2⟩ := tY (K := K) hp1 [V.str (Str.ofString "any"), V.str (Str.ofString "over")]
    rw [← g2]
    clear g2
    refine ⟨p1, _, rfl, .inr T2, rfl, rfl, _, rfl, ?_⟩
    rcases hw with ⟨ao, hin⟩ | ⟨on, hin⟩
    · rw [if_pos (by exact hin)]
      exact ⟨t, kl, lt, n, ks, lk, rfl, R.same S2, ok, dp1, G.same S2, fun H3 S3 => ⟨by decide, fun p hp => q p _ (tG ks lk n) [.none] (S2.trans (S3.trans (p5 hp _))) (.tup (SqT.of ic) (.cons (.bl _) (.cons .non .nil))) (by rw [Dg ao, decide_eq_true rfl]; rfl) (.two (.inl rfl))⟩⟩
    · rw [if_neg (by rw [show (if false = true then _ else inV (V.str wd) _) = false from hin]; decide)]
      have SA := S2
      refine ⟨_, (Same.tup SA T'), _, at0, by decide, fun p1 hp1 => ?_⟩
      obtain ⟨H2, g2, S2, T2⟩ := tY (K := K) hp1 [V.str (Str.ofString "both"), V.str (Str.ofString "either"), V.str (Str.ofString "but")]
      rw [← g2]
      clear g2
      refine ⟨p1, _, rfl, .inr T2, rfl, rfl, _, rfl, ?_⟩
      rw [if_pos (by rw [show (if true = true then !inV (V.str wd') _ else inV (V.str wd') _) = !false from congrArg Bool.not hin3]; rfl)]
      have S02 := SA.trans S2
      obtain ⟨kx, L, A⟩ := G.kx
      have lx := A.length
      have l4 := G.le
      refine ⟨kx, .inl (S02.seq L), by omega, by omega, fun D hD => ?_⟩
      obtain ⟨Pc, hC⟩ : ∃ Pc : Nat → St → Hp → Prop, Pc = fun i τ H' => ∃ (z : Option V) (xs : List V), H' D = some (.lst xs) ∧ xs.length ≤ i ∧ xs = uh ks lk (tZ lk n) i ∧ Same H2 H' ∧ τ = [some (V.ref t), some (V.ref kl), some (V.ref lt), z] := ⟨_, rfl⟩
      refine vC Pc ?_ ?_ ?_
      · rw [hC]
        exact ⟨_, [], ic, Nat.le_refl _, rfl, p5 hD _, rfl⟩
      · intro i τ H' R' hi h next
        rw [hC] at h
        obtain ⟨z, xs, d1, d2, d3, d4, rfl⟩ := h
        have hik : i < ks.length := by omega
        have ek : ks[i]? = some ks[i] := List.getElem?_eq_getElem hik
        obtain ⟨x, e1, e2, mm, nn⟩ := G.at ek
        have stp := vK (p := tZ lk n) ek e1
        trivial
        have S04 := S02.trans d4
        refine ⟨t, kl, lt, i, n, ks, lk, ks[i], x, by rw [Int.zero_add], R.same S04, on, G.same S04, ek, e1, fun H3 S3 => ?_⟩
        have nx : ∀ (xs' : List V) (H4 : Hp), H4 D = some (.lst xs') → xs'.length ≤ i + 1 → xs' = uh ks lk (tZ lk n) (i + 1) → Same H2 H4 → R' [some (V.ref t), some (V.ref kl), some (V.ref lt), some (.int (0 + (i : Int)))] H4 := fun xs' H4 a1 a2 a3 a4 => next _ _ (by rw [hC]; exact ⟨_, _, a1, a2, a3, a4, rfl⟩)
        trivial
        have d1' := S3 _ _ d1
        have d4' := d4.trans S3
        by_cases hs : tZ lk n ks[i] x = true
        · rw [if_pos hs]
          exact ⟨_, d1', Nat.lt_of_le_of_lt d2 (Nat.lt_of_lt_of_le (m := 64) (by omega) (by decide)), nx _ _ ic (by rw [List.length_append]; simp; omega) (by rw [stp, if_pos hs, d3, Int.zero_add]) (uv d4' hD _)⟩
        · rw [if_neg hs]
          exact nx _ _ d1' (by omega) (by rw [stp, if_neg hs, d3, List.append_nil]) d4'
      · intro τ H' h
        rw [hC] at h
        obtain ⟨z, xs, d1, d2, d3, d4, rfl⟩ := h
        rw [show ((kx.length : Nat) : Int).toNat = ks.length by omega] at d3
        have S04 := S02.trans d4
        refine ⟨_, rfl, xs, .inl (SqL.of d1), ?_⟩
        by_cases h0 : 0 < ((xs.length : Nat) : Int)
        · rw [if_pos h0]
          obtain ⟨j, k, x, e1, e2, e3, e4⟩ := EA (ks := ks) (lk := lk) (p := tZ lk n) (n := ks.length) (by rw [← d3]; omega)
          rw [← d3] at e1
          exact ⟨_, rfl, _, SqL.of d1, _, e1, by decide, fun p hp => q p _ true [.int j] (S04.trans (p5 hp _)) (.tup (SqT.of ic) (.cons (.bl _) (.cons (.int _) .nil))) (by rw [xF on]; exact atPl_iff.mpr ⟨j, k, x, rfl, e2, e3, e4⟩) (.two (.inr ⟨j, rfl, by omega, by have := (List.getElem?_eq_some_iff.mp e2).1; omega⟩))⟩
        · rw [if_neg h0]
          have em : ur ks lk (tZ lk n) = false := by
            have := Ad (ks := ks) (lk := lk) (p := tZ lk n) G.len
            rw [← d3, decide_eq_true (by omega)] at this
            simpa using this.symm
          exact ⟨by decide, fun p hp => q p _ false [.none] (S04.trans (p5 hp _)) (.tup (SqT.of ic) (.cons (.bl _) (.cons .non .nil))) (by rw [xF on]; show (true && !(ur ks lk (tZ lk n))) = true; rw [em]; rfl) (.two (.inl rfl))⟩
  · obtain ⟨ok1, ok2⟩ := okj ok
    refine ⟨_, T', _, at0, by decide, fun p1 hp1 => ?_⟩
    obtain ⟨H2, g2, S2, T2⟩ := tY (K := K) hp1 [V.str (Str.ofString "any"), V.str (Str.ofString "over")]
    rw [← g2]
    clear g2
    refine ⟨p1, _, rfl, .inr T2, rfl, rfl, _, rfl, ?_⟩
    rw [if_neg (by rw [show (if false = true then _ else inV (V.str wd) _) = false from Hg jw]; decide)]
    have SA := S2
    refine ⟨_, (Same.tup SA T'), _, at0, by decide, fun p1 hp1 => ?_⟩
    obtain ⟨H2, g2, S2, T2⟩ := tY (K := K) hp1 [V.str (Str.ofString "both"), V.str (Str.ofString "either"), V.str (Str.ofString "but")]
    rw [← g2]
    clear g2
    refine ⟨p1, _, rfl, .inr T2, rfl, rfl, _, rfl, ?_⟩
    rw [if_neg (by rw [show (if true = true then !inV (V.str wd) _ else inV (V.str wd) _) = !true from congrArg Bool.not hin]; decide)]
    have S02 := SA.trans S2
    refine ⟨_, Same.tup S02 T', _, at1, t1, kl, lt, x, ks, lk, rfl, s1.same S02, ok1, (by omega), G.same S02, fun p3 H3 b3 r3 S3 R3 h3 o3 => ?_⟩
    have S03 := S02.trans S3
    refine ⟨_, Same.tup S03 T', _, at2, t2, kl, lt, y, ks, lk, rfl, s2.same S03, ok2, (by omega), G.same S03, fun p4 H4 b4 r4 S4 R4 h4 o4 => ?_⟩
    have S04 := S03.trans S4
    refine ⟨_, Same.tup S04 T', _, at0, wd, w0, w1, w2, rfl, jw, fun l H5 S5 hl => ?_⟩
    have S05 := S04.trans S5
    have R3' := R3.same (S4.trans S5)
    have R4' := R4.same S5
    obtain ⟨a3, xs3, ea3, T3, ra3⟩ := wD R3'
    obtain ⟨v3, ys3, rfl, q3, _⟩ := uB ra3
    cases u7 q3
    obtain ⟨a4, xs4, ea4, T4, ra4⟩ := wD R4'
    obtain ⟨v4, ys4, rfl, q4, _⟩ := uB ra4
    cases u7 q4
    cases ea3
    cases ea4
    refine ⟨_, rfl, _, T4, _, at0, _, rfl, _, SqL.of hl, _, at2, rfl, ?_⟩
    by_cases e4 : b4 = w2
    · rw [if_pos (by rw [e4])]
      refine ⟨_, rfl, _, T3, _, at0, _, rfl, _, SqL.of hl, _, at1, rfl, ?_⟩
      by_cases e3 : b3 = w1
      · rw [if_pos (by rw [e3])]
        refine ⟨_, rfl, _, SqL.of hl, _, at0, by decide, fun p hp => q p _ w0 [_, _] (S05.trans (p5 hp _)) (.tup (SqT.of ic) (.cons (.bl _) (.cons (R3'.same (p5 hp _)) (.cons (R4'.same (p5 hp _)) .nil)))) ?_ (.both o3 o4)⟩
        rw [hrd]
        show (if w0 = w0 then _ else _) = true
        rw [if_pos rfl]
        show ((rdB ks lk x b3 r3 && decide (b3 = w1)) && (rdB ks lk y b4 r4 && decide (b4 = w2))) = true
        rw [h3, h4, decide_eq_true e3, decide_eq_true e4]
        rfl
      · rw [if_neg fun z => e3 (by injection z)]
        refine ⟨_, rfl, _, SqL.of hl, _, at0, w0, rfl, by decide, fun p hp => q p _ (!w0) [.int 0, _] (S05.trans (p5 hp _)) (.tup (SqT.of ic) (.cons (.bl _) (.cons (.int _) (.cons (R3'.same (p5 hp _)) .nil)))) ?_ (.side (by decide) (by decide) o3)⟩
        rw [hrd]
        show (if (!w0) = w0 then _ else uY (rdB ks lk x) (!w1) (.tuple (.bool b3 :: r3))) = true
        rw [if_neg (by cases w0 <;> decide)]
        show (rdB ks lk x b3 r3 && decide (b3 = !w1)) = true
        rw [h3, decide_eq_true (show b3 = !w1 by cases b3 <;> cases w1 <;> first | rfl | exact absurd rfl e3)]
        rfl
    · rw [if_neg fun z => e4 (by injection z)]
      refine ⟨_, rfl, _, SqL.of hl, _, at0, w0, rfl, by decide, fun p hp => q p _ (!w0) [.int 1, _] (S05.trans (p5 hp _)) (.tup (SqT.of ic) (.cons (.bl _) (.cons (.int _) (.cons (R4'.same (p5 hp _)) .nil)))) ?_ (.side (by decide) (by decide) o4)⟩
      rw [hrd]
      show (if (!w0) = w0 then _ else uY (rdB ks lk y) (!w2) (.tuple (.bool b4 :: r4))) = true
      rw [if_neg (by cases w0 <;> decide)]
      show (rdB ks lk y b4 r4 && decide (b4 = !w2)) = true
      rw [h4, decide_eq_true (show b4 = !w2 by cases b4 <;> cases w2 <;> first | rfl | exact absurd rfl e4)]
      rfl
theorem xZ (F : Fun K "_law_reason" "_law_reason" ay f fd) (M : Mg mg) (az : Cal P w K mg base CX0 "_law_plain_claims" 2 ["_law_told", "_law_kinds_here", "_law_look_here"] (vF K)) (bN : Cal P w K mg base CX0 "_law_shows" 1 ["_law_told", "_law_kinds_here", "_law_look_here", "_law_k"] (vR K)) (bX : Cal P w K mg base CX0 "_law_pair" 1 ["_law_word"] (w4 K)) (b : Binds K fd ["_law_told", "_law_kinds_here", "_law_look_here"] []) (kp : PySem.W.keepIn K (.ref f) = true) (m : mg "_law_reason" = some (.ref f)) : ∀ d : Nat, FnOk P w K mg base CX0 (d + 3) f fd ["_law_told", "_law_kinds_here", "_law_look_here"] (wH K d)
  | 0 => by
    refine F.ok df (fun vs H Q E h => ?_) (fun cdv A outer s H vs Q E hr h => ?_)
    · obtain ⟨t, kl, lt, n, ks, lk, rfl, _⟩ := h
      rfl
    obtain ⟨t, kl, lt, n, ks, lk, rfl, R, ok, dp, G, q⟩ := h
    have := Nt.dp_pos n
    omega
  | d + 1 => Br (L := d) F M az bN bX ⟨⟨f, fd, xZ F M az bN bX b kp m d, b, kp, m⟩⟩
end

def wA : Nt → Nat
  | .any => 0
  | .made _ => 1
  | .used _ => 2
  | .chief _ => 3
  | .over _ _ => 4
  | .both _ _ => 5
  | .either _ _ => 6
  | .but _ _ => 7
def yt (cs : NC) : Nat → Addr
  | 0 => cs.any
  | 1 => cs.made
  | 2 => cs.used
  | 3 => cs.chief
  | 4 => cs.over
  | 5 => cs.both
  | 6 => cs.either
  | _ => cs.but
theorem w9 {K : PySem.W.Frag} {H : Hp} {p : Addr} {b : Bool} {r : List PyData} (R : Rep K H (.ref p) (.tuple (.bool b :: r))) : ∃ ys, SqT K H p (.bl b :: ys) := by
  obtain ⟨xs, T, ra⟩ := yx R
  obtain ⟨x, ys, rfl, r0, _⟩ := uB ra
  cases u7 r0
  exact ⟨ys, T⟩
section
variable {w0 w1 w2 b1 b2 : Bool} {f g : Bool → List PyData → Bool} {r1 r2 : List PyData}
theorem yT (h : f b1 r1 = true) (e : b1 = !w1) : twoB w0 w1 w2 f g (!w0) [.int 0, .tuple (.bool b1 :: r1)] = true := by
  show (if (!w0) = w0 then _ else (f b1 r1 && decide (b1 = !w1))) = true
  rw [if_neg (by cases w0 <;> decide), h, decide_eq_true e]
  rfl
theorem yZ (h : g b2 r2 = true) (e : b2 = !w2) : twoB w0 w1 w2 f g (!w0) [.int 1, .tuple (.bool b2 :: r2)] = true := by
  show (if (!w0) = w0 then _ else (g b2 r2 && decide (b2 = !w2))) = true
  rw [if_neg (by cases w0 <;> decide), h, decide_eq_true e]
  rfl
theorem zR (h1 : f b1 r1 = true) (e1 : b1 = w1) (h2 : g b2 r2 = true) (e2 : b2 = w2) : twoB w0 w1 w2 f g w0 [.tuple (.bool b1 :: r1), .tuple (.bool b2 :: r2)] = true := by
  show (if w0 = w0 then ((f b1 r1 && decide (b1 = w1)) && (g b2 r2 && decide (b2 = w2))) else _) = true
  rw [if_pos rfl, h1, h2, decide_eq_true e1, decide_eq_true e2]
  rfl
end
def wB (K : PySem.W.Frag) : Sp := fun vs H Q _ => ∃ (l : Addr) (ks : List Kd2) (lk : List Int) (p : Kd2 → Int → Bool), vs = [.ref l] ∧ H l = some (.lst (uh ks lk p ks.length)) ∧ lk.length = ks.length ∧ ∀ t H' b x, Same H H' → Rep K H' (.ref t) (.tuple [.bool b, x]) → plB ks lk p b x = true → Q (.ref t) H'
def ug (K : PySem.W.Frag) (cs : NC) (d j : Nat) : Sp := fun vs H Q _ => ∃ (a kl lt : Addr) (n : Nt) (ks : List Kd2) (lk : List Int), vs = [.ref a, .ref kl, .ref lt] ∧ wA n = j ∧ ObjN K cs H a n ∧ n.ok ∧ n.dp ≤ d ∧ Ground K H kl lt ks lk ∧ ∀ p H' b r, Same H H' → Rep K H' (.ref p) (.tuple (.bool b :: r)) → rdB ks lk n b r = true → Q (.ref p) H'
def u9 (K : PySem.W.Frag) (cs : NC) (d : Nat) (C : Addr) (sp : Sp) : Prop := ∃ j, j < 8 ∧ C = yt cs j ∧ sp = ug K cs d j
theorem uV {K : PySem.W.Frag} {cs : NC} {H : Hp} {a kl lt : Addr} {n : Nt} {ks : List Kd2} {lk : List Int} {d : Nat} {Q : VK} (O : ObjN K cs H a n) (ok : n.ok) (dp : n.dp ≤ d) (G : Ground K H kl lt ks lk) (q : ∀ p H' b r, Same H H' → Rep K H' (.ref p) (.tuple (.bool b :: r)) → rdB ks lk n b r = true → Q (.ref p) H') : ∃ C dx fs, H a = some (.ins C dx fs) ∧ fs.lookup ("reason" : Str) = none ∧ ∃ sp, u9 K cs d C sp ∧ sp [.ref a, .ref kl, .ref lt] H Q E0 := by
  have fin : ug K cs d (wA n) [.ref a, .ref kl, .ref lt] H Q E0 := ⟨a, kl, lt, n, ks, lk, rfl, rfl, O, ok, dp, G, q⟩
  cases n with
  | any => obtain ⟨dx, h⟩ := O; exact ⟨_, _, _, h, rfl, _, ⟨0, by decide, rfl, rfl⟩, fin⟩
  | made s => obtain ⟨dx, h⟩ := O; exact ⟨_, _, _, h, rfl, _, ⟨1, by decide, rfl, rfl⟩, fin⟩
  | used s => obtain ⟨dx, h⟩ := O; exact ⟨_, _, _, h, rfl, _, ⟨2, by decide, rfl, rfl⟩, fin⟩
  | chief s => obtain ⟨dx, h⟩ := O; exact ⟨_, _, _, h, rfl, _, ⟨3, by decide, rfl, rfl⟩, fin⟩
  | over k1 k2 => obtain ⟨dx, _, _, h, _⟩ := O; exact ⟨_, _, _, h, rfl, _, ⟨4, by decide, rfl, rfl⟩, fin⟩
  | both x y => obtain ⟨dx, _, _, h, _⟩ := O; exact ⟨_, _, _, h, rfl, _, ⟨5, by decide, rfl, rfl⟩, fin⟩
  | either x y => obtain ⟨dx, _, _, h, _⟩ := O; exact ⟨_, _, _, h, rfl, _, ⟨6, by decide, rfl, rfl⟩, fin⟩
  | but x y => obtain ⟨dx, _, _, h, _⟩ := O; exact ⟨_, _, _, h, rfl, _, ⟨7, by decide, rfl, rfl⟩, fin⟩
theorem D9 {ks : List Kd2} {lk : List Int} {p : Kd2 → Int → Bool} {n : Nat} (h : (uh ks lk p n) ≠ []) : ∃ (j : Nat) (k : Kd2) (x : Int), atI (uh ks lk p n) 0 = some (.int j) ∧ ks[j]? = some k ∧ lk[j]? = some x ∧ p k x = true := by
  cases e : uh ks lk p n with
  | nil => exact absurd e h
  | cons v vs =>
    obtain ⟨j, k, x, rfl, h1⟩ := zZ (v := v) (by rw [e]; exact List.mem_cons_self)
    exact ⟨j, k, x, at0, h1⟩
section
variable {P : Program} {w : World} {K : PySem.W.Frag} {mg : Str → Option Value} {base : Heap} {f : Addr} {fd : FuncData} {cs : NC}
theorem zk (F : Fun K "place_reason" "place_reason" bZ f fd) (M : Mg mg) : FnOk P w K mg base CX0 1 f fd ["places"] (wB K) := by
  refine F.ok nT (fun vs H Q E h => ?_) (fun cdv A outer s H vs Q E hr h => ?_)
  · obtain ⟨l, ks, lk, p, rfl, _⟩ := h
    rfl
  obtain ⟨l, ks, lk, p, rfl, hl, ll, q⟩ := h
  refine ⟨_, (@fz _ _ _ _ _ (@tL _ _ _ _ _ _ _ _ (@qq _ _ _ _ _ _ _ _ (@tT _) (@tH _ _ _ _ _ _ _ _ _ tO lP M.m_len uo (@cg _ _ _ _ _ (@eu _ 0 _ _ rfl iR iW iX) (@ff _) (ef rfl)) bg bf (ef rfl) mj) (@eH _ _ _ _) (r8 _)) (@ki _ _ _ (@nt _ _ _ _ (@tX _ _ _ _ _ (@cg _ _ _ _ _ (@uA _ _ _ _) (@cg _ _ _ _ _ (@uy _ _ _) (@ff _) (ef rfl)) (ef rfl))))) (@tF _)) (@ki _ _ _ (@nt _ _ _ _ (@tX _ _ _ _ _ (@cg _ _ _ _ _ (@uA _ _ _ _) (@cg _ _ _ _ _ (@m9 _ _ _ _ _ _ _ (@ue _) (@eu _ 0 _ _ rfl iR iW iX) (@eH _ _ _ _) (fun _ _ => rfl)) (@ff _) (ef rfl)) (ef rfl)))))), ?_⟩
  trivial
  refine ⟨_, .inl (SqL.of hl), ?_⟩
  by_cases h0 : (((uh ks lk p ks.length).length : Nat) : Int) = 0
  · rw [if_pos h0]
    have e := Ad (p := p) ll
    rw [decide_eq_true h0] at e
    exact ⟨by decide, fun t ht => q _ _ false .none (p5 ht _) (.tup (SqT.of ic) (.cons (.bl _) (.cons .non .nil))) (by show (true && !(ur ks lk p)) = true; rw [← e]; rfl)⟩
  · rw [if_neg h0]
    obtain ⟨j, k, x, e1, e2, e3, e4⟩ := D9 (ks := ks) (lk := lk) (p := p) (n := ks.length) (fun z => h0 (by rw [z]; rfl))
    exact ⟨_, SqL.of hl, _, e1, by decide, fun t ht => q _ _ true (.int j) (p5 ht _) (.tup (SqT.of ic) (.cons (.bl _) (.cons (.int _) .nil))) (atPl_iff.mpr ⟨j, k, x, rfl, e2, e3, e4⟩)⟩
theorem ye {k d : Nat} (F : Fun K "reason" "Anything.reason" ci f fd) (M : Mg mg) : FnOk P w K mg base CX0 (k + 3) f fd ["self", "kinds", "look"] (ug K cs d 0) := by
  refine F.ok lQ (fun vs H Q E h => ?_) (fun cdv A outer s H vs Q E hr h => ?_)
  · obtain ⟨a, kl, lt, n, ks, lk, rfl, _⟩ := h
    rfl
  obtain ⟨a, kl, lt, n, ks, lk, rfl, hk, O, ok, dp, G, q⟩ := h
  refine ⟨_, (@ki _ _ _ (@nt _ _ _ _ (@tX _ _ _ _ _ (@cg _ _ _ _ _ (@uA _ _ _ _) (@cg _ _ _ _ _ (@uy _ _ _) (@ff _) (ef rfl)) (ef rfl))))), ?_⟩
  trivial
  cases n with
  | any => exact ⟨by decide, fun p hp => q _ _ true [.none] (p5 hp _) (.tup (SqT.of ic) (.cons (.bl _) (.cons .non .nil))) rfl⟩
  | _ => simp [wA] at hk
theorem zP {k d : Nat} (F : Fun K "reason" "Made.reason" bD f fd) (M : Mg mg) (cl : Cls K cs.made) (na : NoAttr K cs.made "stuff") (dj : Cal P w K mg base CX0 "made_places" 1 ["kinds", "look", "stuff"] (uL K vf)) (bT : Cal P w K mg base CX0 "place_reason" 1 ["places"] (wB K)) : FnOk P w K mg base CX0 (k + 3) f fd ["self", "kinds", "look"] (ug K cs d 1) := by
  refine F.ok oW (fun vs H Q E h => ?_) (fun cdv A outer s H vs Q E hr h => ?_)
  · obtain ⟨a, kl, lt, n, ks, lk, rfl, _⟩ := h
    rfl
  obtain ⟨a, kl, lt, n, ks, lk, rfl, hk, O, ok, dp, G, q⟩ := h
  refine ⟨_, (@ki _ _ _ (@nt _ _ _ _ (@m8 _ _ _ _ _ _ _ _ _ _ _ bT hr gT (@cg _ _ _ _ _ (@m8 _ _ _ _ _ _ _ _ _ _ _ dj hr ij (@cg _ _ _ _ _ (@eu _ 1 _ _ rfl nV aC aD) (@cg _ _ _ _ _ (@eu _ 2 _ _ rfl nW aT aU) (@cg _ _ _ _ _ (@vj _ _ _ _ _ (@eu _ 0 _ _ rfl nU bU bV) (by rfl)) (@ff _) (ef rfl)) (ef rfl)) (ef rfl)) (by omega) jA (ef rfl) (ia rfl (ia rfl mj))) (@ff _) (ef rfl)) (by omega) fT (ef rfl) mj))), ?_⟩
  trivial
  cases n with
  | made s =>
    obtain ⟨dx, h⟩ := O
    refine ⟨_, _, _, h, cl, na, _, rfl, ?_⟩
    refine ⟨_, _, _, ks, lk, rfl, G, fun l xs H1 S1 hl l4 he => ?_⟩
    exact ⟨l, ks, lk, vf lk s, rfl, by rw [hl, he], G.len, fun p H2 b x S2 R hp => q _ _ _ _ (S1.trans S2) R hp⟩
  | _ => simp [wA] at hk
theorem zV {k d : Nat} (F : Fun K "reason" "Used.reason" bE f fd) (M : Mg mg) (cl : Cls K cs.used) (na : NoAttr K cs.used "use") (dm : Cal P w K mg base CX0 "used_places" 1 ["kinds", "look", "use"] (uL K vg)) (bT : Cal P w K mg base CX0 "place_reason" 1 ["places"] (wB K)) : FnOk P w K mg base CX0 (k + 3) f fd ["self", "kinds", "look"] (ug K cs d 2) := by
  refine F.ok oX (fun vs H Q E h => ?_) (fun cdv A outer s H vs Q E hr h => ?_)
  · obtain ⟨a, kl, lt, n, ks, lk, rfl, _⟩ := h
    rfl
  obtain ⟨a, kl, lt, n, ks, lk, rfl, hk, O, ok, dp, G, q⟩ := h
  refine ⟨_, (@ki _ _ _ (@nt _ _ _ _ (@m8 _ _ _ _ _ _ _ _ _ _ _ bT hr gU (@cg _ _ _ _ _ (@m8 _ _ _ _ _ _ _ _ _ _ _ dm hr ik (@cg _ _ _ _ _ (@eu _ 1 _ _ rfl nY aC aD) (@cg _ _ _ _ _ (@eu _ 2 _ _ rfl nZ aT aU) (@cg _ _ _ _ _ (@vj _ _ _ _ _ (@eu _ 0 _ _ rfl nX bU bV) (by rfl)) (@ff _) (ef rfl)) (ef rfl)) (ef rfl)) (by omega) jB (ef rfl) (ia rfl (ia rfl mj))) (@ff _) (ef rfl)) (by omega) fT (ef rfl) mj))), ?_⟩
  trivial
  cases n with
  | used s =>
    obtain ⟨dx, h⟩ := O
    refine ⟨_, _, _, h, cl, na, _, rfl, ?_⟩
    refine ⟨_, _, _, ks, lk, rfl, G, fun l xs H1 S1 hl l4 he => ?_⟩
    exact ⟨l, ks, lk, vg lk s, rfl, by rw [hl, he], G.len, fun p H2 b x S2 R hp => q _ _ _ _ (S1.trans S2) R hp⟩
  | _ => simp [wA] at hk
theorem zy {k d : Nat} (F : Fun K "reason" "Chief.reason" bz f fd) (M : Mg mg) (cl : Cls K cs.chief) (na : NoAttr K cs.chief "stuff") (cU : Cal P w K mg base CX0 "chief_places" 1 ["kinds", "look", "stuff"] (uL K uC)) (bT : Cal P w K mg base CX0 "place_reason" 1 ["places"] (wB K)) : FnOk P w K mg base CX0 (k + 3) f fd ["self", "kinds", "look"] (ug K cs d 3) := by
  refine F.ok n5 (fun vs H Q E h => ?_) (fun cdv A outer s H vs Q E hr h => ?_)
  · obtain ⟨a, kl, lt, n, ks, lk, rfl, _⟩ := h
    rfl
  obtain ⟨a, kl, lt, n, ks, lk, rfl, hk, O, ok, dp, G, q⟩ := h
  refine ⟨_, (@ki _ _ _ (@nt _ _ _ _ (@m8 _ _ _ _ _ _ _ _ _ _ _ bT hr gL (@cg _ _ _ _ _ (@m8 _ _ _ _ _ _ _ _ _ _ _ cU hr gM (@cg _ _ _ _ _ (@eu _ 1 _ _ rfl mV aC aD) (@cg _ _ _ _ _ (@eu _ 2 _ _ rfl mW aT aU) (@cg _ _ _ _ _ (@vj _ _ _ _ _ (@eu _ 0 _ _ rfl mU bU bV) (by rfl)) (@ff _) (ef rfl)) (ef rfl)) (ef rfl)) (by omega) iV (ef rfl) (ia rfl (ia rfl mj))) (@ff _) (ef rfl)) (by omega) fT (ef rfl) mj))), ?_⟩
  trivial
  cases n with
  | chief s =>
    obtain ⟨dx, h⟩ := O
    refine ⟨_, _, _, h, cl, na, _, rfl, ?_⟩
    refine ⟨_, _, _, ks, lk, rfl, G, fun l xs H1 S1 hl l4 he => ?_⟩
    exact ⟨l, ks, lk, uC lk s, rfl, by rw [hl, he], G.len, fun p H2 b x S2 R hp => q _ _ _ _ (S1.trans S2) R hp⟩
  | _ => simp [wA] at hk
theorem zW {k d : Nat} (F : Fun K "reason" "Over.reason" bM f fd) (M : Mg mg) (t4 : TwoC K cs.over) (fO : Cal P w K mg base CX0 "is_over" 2 ["kinds", "look", "one", "other"] (zm K)) : FnOk P w K mg base CX0 (k + 3) f fd ["self", "kinds", "look"] (ug K cs d 4) := by
  refine F.ok oY (fun vs H Q E h => ?_) (fun cdv A outer s H vs Q E hr h => ?_)
  · obtain ⟨a, kl, lt, n, ks, lk, rfl, _⟩ := h
    rfl
  obtain ⟨a, kl, lt, n, ks, lk, rfl, hk, O, ok, dp, G, q⟩ := h
  refine ⟨_, (@ki _ _ _ (@nt _ _ _ _ (@tX _ _ _ _ _ (@cg _ _ _ _ _ (@m8 _ _ _ _ _ _ _ _ _ _ _ fO hr jP (@cg _ _ _ _ _ (@eu _ 1 _ _ rfl n8 aC aD) (@cg _ _ _ _ _ (@eu _ 2 _ _ rfl n9 aT aU) (@cg _ _ _ _ _ (@vj _ _ _ _ _ (@eu _ 0 _ _ rfl jc bU bV) (by rfl)) (@cg _ _ _ _ _ (@vj _ _ _ _ _ (@eu _ 0 _ _ rfl jc bU bV) (by rfl)) (@ff _) (ef rfl)) (ef rfl)) (ef rfl)) (ef rfl)) (by omega) nz (ef rfl) (ia rfl (ia rfl (ia rfl mj)))) (@cg _ _ _ _ _ (@uy _ _ _) (@ff _) (ef rfl)) (ef rfl))))), ?_⟩
  trivial
  cases n with
  | over k1 k2 =>
    obtain ⟨dx, p1, p2, h, T1, T2⟩ := O
    refine ⟨_, _, _, h, t4.cl, t4.n1, _, rfl, _, _, _, h, t4.cl, t4.n2, _, rfl, ?_⟩
    refine ⟨_, _, _, _, ks, lk, k1, k2, rfl, G, T1, ok.1, T2, ok.2, fun H1 S1 => ?_⟩
    exact ⟨by decide, fun p hp => q _ _ _ [.none] (S1.trans (p5 hp _)) (.tup (SqT.of ic) (.cons (.bl _) (.cons .non .nil))) (by show (decide (_ = _) && true) = true; rw [decide_eq_true rfl]; rfl)⟩
  | _ => simp [wA] at hk
theorem zL {d : Nat} (F : Fun K "reason" "Both.reason" aZ f fd) (M : Mg mg) (tt : TwoC K cs.both) (D_reason : ∀ C sp, u9 K cs d C sp → Disp P w K mg base "reason" (3 + d) ["self", "kinds", "look"] C sp) : FnOk P w K mg base CX0 (3 + d + 1) f fd ["self", "kinds", "look"] (ug K cs (d + 1) 5) := by
  refine F.ok eT (fun vs H Q E h => ?_) (fun cdv A outer s H vs Q E hr h => ?_)
  · obtain ⟨a, kl, lt, n, ks, lk, rfl, _⟩ := h
    rfl
  obtain ⟨a, kl, lt, n, ks, lk, rfl, hk, O, ok, dp, G, q⟩ := h
  refine ⟨_, (@fz _ _ _ _ _ (@tK _ _ 3 _ _ _ _ eT.nd rfl og (@vn _ _ _ _ _ _ _ _ _ _ _ _ _ _ (@vj _ _ _ _ _ (@eu _ 0 _ _ rfl jd bU bV) (by rfl)) D_reason hr (@cg _ _ _ _ _ (@eu _ 1 _ _ rfl je aC aD) (@cg _ _ _ _ _ (@eu _ 2 _ _ rfl jf aT aU) (@ff _) (ef rfl)) (ef rfl)) (by omega) (ef rfl) (ia rfl mj) (by rfl)) (tM rfl) (.inl rfl)) (@fz _ _ _ _ _ (@tK _ _ 4 _ _ _ _ eT.nd rfl oh (@vn _ _ _ _ _ _ _ _ _ _ _ _ _ _ (@vj _ _ _ _ _ (@eu _ 0 _ _ rfl jd bU bV) (by rfl)) D_reason hr (@cg _ _ _ _ _ (@eu _ 1 _ _ rfl je aC aD) (@cg _ _ _ _ _ (@eu _ 2 _ _ rfl jf aT aU) (@ff _) (ef rfl)) (ef rfl)) (by omega) (ef rfl) (ia rfl mj) (by rfl)) (tM rfl) (.inl rfl)) (@fz _ _ _ _ _ (@tL _ _ _ _ _ _ _ _ (@uz _ _ _ _ (@ua _ _ _ (@m9 _ _ _ _ _ _ _ (@ni _) (@eu _ 3 _ _ rfl gf dA dB) (@eH _ _ _ _) (fun _ _ => rfl)) (um rfl))) (@ki _ _ _ (@nt _ _ _ _ (@tX _ _ _ _ _ (@cg _ _ _ _ _ (@uA _ _ _ _) (@cg _ _ _ _ _ (@eH _ _ _ _) (@cg _ _ _ _ _ (@eu _ 3 _ _ rfl gf dA dB) (@ff _) (ef rfl)) (ef rfl)) (ef rfl))))) (@tF _)) (@fz _ _ _ _ _ (@tL _ _ _ _ _ _ _ _ (@uz _ _ _ _ (@ua _ _ _ (@m9 _ _ _ _ _ _ _ (@ni _) (@eu _ 4 _ _ rfl gg dq du) (@eH _ _ _ _) (fun _ _ => rfl)) (um rfl))) (@ki _ _ _ (@nt _ _ _ _ (@tX _ _ _ _ _ (@cg _ _ _ _ _ (@uA _ _ _ _) (@cg _ _ _ _ _ (@eH _ _ _ _) (@cg _ _ _ _ _ (@eu _ 4 _ _ rfl gg dq du) (@ff _) (ef rfl)) (ef rfl)) (ef rfl))))) (@tF _)) (@ki _ _ _ (@nt _ _ _ _ (@tX _ _ _ _ _ (@cg _ _ _ _ _ (@uA _ _ _ _) (@cg _ _ _ _ _ (@eu _ 3 _ _ rfl gf dA dB) (@cg _ _ _ _ _ (@eu _ 4 _ _ rfl gg dq du) (@ff _) (ef rfl)) (ef rfl)) (ef rfl))))))))), ?_⟩
  trivial
  cases n with
  | both x y =>
    obtain ⟨dx, a1, a2, h, O1, O2⟩ := O
    have dd : max x.dp y.dp + 1 ≤ d + 1 := dp
    refine ⟨_, _, _, h, tt.cl, tt.n1, _, rfl, _, rfl, ?_⟩
    refine uV O1 ok.1 (show x.dp ≤ d by omega) G fun p1 H1 b1 r1 S1 R1 h1 => ?_
    refine ⟨_, _, _, S1 _ _ h, tt.cl, tt.n2, _, rfl, _, rfl, ?_⟩
    refine uV (ObjN.same S1 O2) ok.2 (show y.dp ≤ d by omega) (G.same S1) fun p2 H2 b2 r2 S2 R2 h2 => ?_
    have R1' := R1.same S2
    obtain ⟨y1, T1⟩ := w9 R1'
    obtain ⟨y2, T2⟩ := w9 R2
    have S3 := S1.trans S2
    refine ⟨_, rfl, _, T1, _, at0, _, rfl, ?_⟩
    by_cases e1 : b1 = false
    · rw [if_pos e1]
      exact ⟨by decide, fun p hp => q p _ false [.int 0, _] (S3.trans (p5 hp _)) (.tup (SqT.of ic) (.cons (.bl _) (.cons (.int _) (.cons (R1'.same (p5 hp _)) .nil)))) (yT (w0 := true) (w1 := true) (w2 := true) h1 e1)⟩
    · rw [if_neg e1]
      refine ⟨_, rfl, _, T2, _, at0, _, rfl, ?_⟩
      by_cases e2 : b2 = false
      · rw [if_pos e2]
        exact ⟨by decide, fun p hp => q p _ false [.int 1, _] (S3.trans (p5 hp _)) (.tup (SqT.of ic) (.cons (.bl _) (.cons (.int _) (.cons (R2.same (p5 hp _)) .nil)))) (yZ (w0 := true) (w1 := true) (w2 := true) h2 e2)⟩
      · rw [if_neg e2]
        exact ⟨by decide, fun p hp => q p _ true [_, _] (S3.trans (p5 hp _)) (.tup (SqT.of ic) (.cons (.bl _) (.cons (R1'.same (p5 hp _)) (.cons (R2.same (p5 hp _)) .nil)))) (zR (w0 := true) (w1 := true) (w2 := true) h1 (by cases b1 <;> simp_all) h2 (by cases b2 <;> simp_all))⟩
  | _ => simp [wA] at hk
theorem zQ {k j : Nat} (F : Fun K "reason" "Both.reason" aZ f fd) : FnOk P w K mg base CX0 (k + 3) f fd ["self", "kinds", "look"] (ug K cs 0 j) := by
  refine F.ok eT (fun vs H Q E h => ?_) (fun cdv A outer s H vs Q E hr h => ?_)
  · obtain ⟨a, kl, lt, n, ks, lk, rfl, _⟩ := h
    rfl
  obtain ⟨a, kl, lt, n, ks, lk, rfl, hk, O, ok, dp, G, q⟩ := h
  have := Nt.dp_pos n
  omega
theorem yQ {d : Nat} (F : Fun K "reason" "Either.reason" aM f fd) (M : Mg mg) (tt : TwoC K cs.either) (D_reason : ∀ C sp, u9 K cs d C sp → Disp P w K mg base "reason" (3 + d) ["self", "kinds", "look"] C sp) : FnOk P w K mg base CX0 (3 + d + 1) f fd ["self", "kinds", "look"] (ug K cs (d + 1) 6) := by
  refine F.ok dQ (fun vs H Q E h => ?_) (fun cdv A outer s H vs Q E hr h => ?_)
  · obtain ⟨a, kl, lt, n, ks, lk, rfl, _⟩ := h
    rfl
  obtain ⟨a, kl, lt, n, ks, lk, rfl, hk, O, ok, dp, G, q⟩ := h
  refine ⟨_, (@fz _ _ _ _ _ (@tK _ _ 3 _ _ _ _ dQ.nd rfl mf (@vn _ _ _ _ _ _ _ _ _ _ _ _ _ _ (@vj _ _ _ _ _ (@eu _ 0 _ _ rfl hV bU bV) (by rfl)) D_reason hr (@cg _ _ _ _ _ (@eu _ 1 _ _ rfl hX aC aD) (@cg _ _ _ _ _ (@eu _ 2 _ _ rfl h8 aT aU) (@ff _) (ef rfl)) (ef rfl)) (by omega) (ef rfl) (ia rfl mj) (by rfl)) (tM rfl) (.inl rfl)) (@fz _ _ _ _ _ (@tK _ _ 4 _ _ _ _ dQ.nd rfl mh (@vn _ _ _ _ _ _ _ _ _ _ _ _ _ _ (@vj _ _ _ _ _ (@eu _ 0 _ _ rfl hV bU bV) (by rfl)) D_reason hr (@cg _ _ _ _ _ (@eu _ 1 _ _ rfl hX aC aD) (@cg _ _ _ _ _ (@eu _ 2 _ _ rfl h8 aT aU) (@ff _) (ef rfl)) (ef rfl)) (by omega) (ef rfl) (ia rfl mj) (by rfl)) (tM rfl) (.inl rfl)) (@fz _ _ _ _ _ (@tL _ _ _ _ _ _ _ _ (@ua _ _ _ (@m9 _ _ _ _ _ _ _ (@ni _) (@eu _ 3 _ _ rfl fc dA dB) (@eH _ _ _ _) (fun _ _ => rfl)) (um rfl)) (@ki _ _ _ (@nt _ _ _ _ (@tX _ _ _ _ _ (@cg _ _ _ _ _ (@uA _ _ _ _) (@cg _ _ _ _ _ (@eH _ _ _ _) (@cg _ _ _ _ _ (@eu _ 3 _ _ rfl fc dA dB) (@ff _) (ef rfl)) (ef rfl)) (ef rfl))))) (@tF _)) (@fz _ _ _ _ _ (@tL _ _ _ _ _ _ _ _ (@ua _ _ _ (@m9 _ _ _ _ _ _ _ (@ni _) (@eu _ 4 _ _ rfl fg dq du) (@eH _ _ _ _) (fun _ _ => rfl)) (um rfl)) (@ki _ _ _ (@nt _ _ _ _ (@tX _ _ _ _ _ (@cg _ _ _ _ _ (@uA _ _ _ _) (@cg _ _ _ _ _ (@eH _ _ _ _) (@cg _ _ _ _ _ (@eu _ 4 _ _ rfl fg dq du) (@ff _) (ef rfl)) (ef rfl)) (ef rfl))))) (@tF _)) (@ki _ _ _ (@nt _ _ _ _ (@tX _ _ _ _ _ (@cg _ _ _ _ _ (@uA _ _ _ _) (@cg _ _ _ _ _ (@eu _ 3 _ _ rfl fc dA dB) (@cg _ _ _ _ _ (@eu _ 4 _ _ rfl fg dq du) (@ff _) (ef rfl)) (ef rfl)) (ef rfl))))))))), ?_⟩
  trivial
  cases n with
  | either x y =>
    obtain ⟨dx, a1, a2, h, O1, O2⟩ := O
    have dd : max x.dp y.dp + 1 ≤ d + 1 := dp
    refine ⟨_, _, _, h, tt.cl, tt.n1, _, rfl, _, rfl, ?_⟩
    refine uV O1 ok.1 (show x.dp ≤ d by omega) G fun p1 H1 b1 r1 S1 R1 h1 => ?_
    refine ⟨_, _, _, S1 _ _ h, tt.cl, tt.n2, _, rfl, _, rfl, ?_⟩
    refine uV (ObjN.same S1 O2) ok.2 (show y.dp ≤ d by omega) (G.same S1) fun p2 H2 b2 r2 S2 R2 h2 => ?_
    have R1' := R1.same S2
    obtain ⟨y1, T1⟩ := w9 R1'
    obtain ⟨y2, T2⟩ := w9 R2
    have S3 := S1.trans S2
    refine ⟨_, rfl, _, T1, _, at0, _, rfl, ?_⟩
    by_cases e1 : b1 = true
    · rw [if_pos e1]
      exact ⟨by decide, fun p hp => q p _ true [.int 0, _] (S3.trans (p5 hp _)) (.tup (SqT.of ic) (.cons (.bl _) (.cons (.int _) (.cons (R1'.same (p5 hp _)) .nil)))) (yT (w0 := false) (w1 := false) (w2 := false) h1 e1)⟩
    · rw [if_neg e1]
      refine ⟨_, rfl, _, T2, _, at0, _, rfl, ?_⟩
      by_cases e2 : b2 = true
      · rw [if_pos e2]
        exact ⟨by decide, fun p hp => q p _ true [.int 1, _] (S3.trans (p5 hp _)) (.tup (SqT.of ic) (.cons (.bl _) (.cons (.int _) (.cons (R2.same (p5 hp _)) .nil)))) (yZ (w0 := false) (w1 := false) (w2 := false) h2 e2)⟩
      · rw [if_neg e2]
        exact ⟨by decide, fun p hp => q p _ false [_, _] (S3.trans (p5 hp _)) (.tup (SqT.of ic) (.cons (.bl _) (.cons (R1'.same (p5 hp _)) (.cons (R2.same (p5 hp _)) .nil)))) (zR (w0 := false) (w1 := false) (w2 := false) h1 (by cases b1 <;> simp_all) h2 (by cases b2 <;> simp_all))⟩
  | _ => simp [wA] at hk
theorem yS {k j : Nat} (F : Fun K "reason" "Either.reason" aM f fd) : FnOk P w K mg base CX0 (k + 3) f fd ["self", "kinds", "look"] (ug K cs 0 j) := by
  refine F.ok dQ (fun vs H Q E h => ?_) (fun cdv A outer s H vs Q E hr h => ?_)
  · obtain ⟨a, kl, lt, n, ks, lk, rfl, _⟩ := h
    rfl
  obtain ⟨a, kl, lt, n, ks, lk, rfl, hk, O, ok, dp, G, q⟩ := h
  have := Nt.dp_pos n
  omega
theorem Az {d : Nat} (F : Fun K "reason" "But.reason" bn f fd) (M : Mg mg) (tt : TwoC K cs.but) (D_reason : ∀ C sp, u9 K cs d C sp → Disp P w K mg base "reason" (3 + d) ["self", "kinds", "look"] C sp) : FnOk P w K mg base CX0 (3 + d + 1) f fd ["self", "kinds", "look"] (ug K cs (d + 1) 7) := by
  refine F.ok fC (fun vs H Q E h => ?_) (fun cdv A outer s H vs Q E hr h => ?_)
  · obtain ⟨a, kl, lt, n, ks, lk, rfl, _⟩ := h
    rfl
  obtain ⟨a, kl, lt, n, ks, lk, rfl, hk, O, ok, dp, G, q⟩ := h
  refine ⟨_, (@fz _ _ _ _ _ (@tK _ _ 3 _ _ _ _ fC.nd rfl oZ (@vn _ _ _ _ _ _ _ _ _ _ _ _ _ _ (@vj _ _ _ _ _ (@eu _ 0 _ _ rfl jQ bU bV) (by rfl)) D_reason hr (@cg _ _ _ _ _ (@eu _ 1 _ _ rfl jR aC aD) (@cg _ _ _ _ _ (@eu _ 2 _ _ rfl jS aT aU) (@ff _) (ef rfl)) (ef rfl)) (by omega) (ef rfl) (ia rfl mj) (by rfl)) (tM rfl) (.inl rfl)) (@fz _ _ _ _ _ (@tK _ _ 4 _ _ _ _ fC.nd rfl pc (@vn _ _ _ _ _ _ _ _ _ _ _ _ _ _ (@vj _ _ _ _ _ (@eu _ 0 _ _ rfl jQ bU bV) (by rfl)) D_reason hr (@cg _ _ _ _ _ (@eu _ 1 _ _ rfl jR aC aD) (@cg _ _ _ _ _ (@eu _ 2 _ _ rfl jS aT aU) (@ff _) (ef rfl)) (ef rfl)) (by omega) (ef rfl) (ia rfl mj) (by rfl)) (tM rfl) (.inl rfl)) (@fz _ _ _ _ _ (@tL _ _ _ _ _ _ _ _ (@uz _ _ _ _ (@ua _ _ _ (@m9 _ _ _ _ _ _ _ (@ni _) (@eu _ 3 _ _ rfl gD dA dB) (@eH _ _ _ _) (fun _ _ => rfl)) (um rfl))) (@ki _ _ _ (@nt _ _ _ _ (@tX _ _ _ _ _ (@cg _ _ _ _ _ (@uA _ _ _ _) (@cg _ _ _ _ _ (@eH _ _ _ _) (@cg _ _ _ _ _ (@eu _ 3 _ _ rfl gD dA dB) (@ff _) (ef rfl)) (ef rfl)) (ef rfl))))) (@tF _)) (@fz _ _ _ _ _ (@tL _ _ _ _ _ _ _ _ (@ua _ _ _ (@m9 _ _ _ _ _ _ _ (@ni _) (@eu _ 4 _ _ rfl gE dq du) (@eH _ _ _ _) (fun _ _ => rfl)) (um rfl)) (@ki _ _ _ (@nt _ _ _ _ (@tX _ _ _ _ _ (@cg _ _ _ _ _ (@uA _ _ _ _) (@cg _ _ _ _ _ (@eH _ _ _ _) (@cg _ _ _ _ _ (@eu _ 4 _ _ rfl gE dq du) (@ff _) (ef rfl)) (ef rfl)) (ef rfl))))) (@tF _)) (@ki _ _ _ (@nt _ _ _ _ (@tX _ _ _ _ _ (@cg _ _ _ _ _ (@uA _ _ _ _) (@cg _ _ _ _ _ (@eu _ 3 _ _ rfl gD dA dB) (@cg _ _ _ _ _ (@eu _ 4 _ _ rfl gE dq du) (@ff _) (ef rfl)) (ef rfl)) (ef rfl))))))))), ?_⟩
  trivial
  cases n with
  | but x y =>
    obtain ⟨dx, a1, a2, h, O1, O2⟩ := O
    have dd : max x.dp y.dp + 1 ≤ d + 1 := dp
    refine ⟨_, _, _, h, tt.cl, tt.n1, _, rfl, _, rfl, ?_⟩
    refine uV O1 ok.1 (show x.dp ≤ d by omega) G fun p1 H1 b1 r1 S1 R1 h1 => ?_
    refine ⟨_, _, _, S1 _ _ h, tt.cl, tt.n2, _, rfl, _, rfl, ?_⟩
    refine uV (ObjN.same S1 O2) ok.2 (show y.dp ≤ d by omega) (G.same S1) fun p2 H2 b2 r2 S2 R2 h2 => ?_
    have R1' := R1.same S2
    obtain ⟨y1, T1⟩ := w9 R1'
    obtain ⟨y2, T2⟩ := w9 R2
    have S3 := S1.trans S2
    refine ⟨_, rfl, _, T1, _, at0, _, rfl, ?_⟩
    by_cases e1 : b1 = false
    · rw [if_pos e1]
      exact ⟨by decide, fun p hp => q p _ false [.int 0, _] (S3.trans (p5 hp _)) (.tup (SqT.of ic) (.cons (.bl _) (.cons (.int _) (.cons (R1'.same (p5 hp _)) .nil)))) (yT (w0 := true) (w1 := true) (w2 := false) h1 e1)⟩
    · rw [if_neg e1]
      refine ⟨_, rfl, _, T2, _, at0, _, rfl, ?_⟩
      by_cases e2 : b2 = true
      · rw [if_pos e2]
        exact ⟨by decide, fun p hp => q p _ false [.int 1, _] (S3.trans (p5 hp _)) (.tup (SqT.of ic) (.cons (.bl _) (.cons (.int _) (.cons (R2.same (p5 hp _)) .nil)))) (yZ (w0 := true) (w1 := true) (w2 := false) h2 e2)⟩
      · rw [if_neg e2]
        exact ⟨by decide, fun p hp => q p _ true [_, _] (S3.trans (p5 hp _)) (.tup (SqT.of ic) (.cons (.bl _) (.cons (R1'.same (p5 hp _)) (.cons (R2.same (p5 hp _)) .nil)))) (zR (w0 := true) (w1 := true) (w2 := false) h1 (by cases b1 <;> simp_all) h2 (by cases b2 <;> simp_all))⟩
  | _ => simp [wA] at hk
theorem Aq {k j : Nat} (F : Fun K "reason" "But.reason" bn f fd) : FnOk P w K mg base CX0 (k + 3) f fd ["self", "kinds", "look"] (ug K cs 0 j) := by
  refine F.ok fC (fun vs H Q E h => ?_) (fun cdv A outer s H vs Q E hr h => ?_)
  · obtain ⟨a, kl, lt, n, ks, lk, rfl, _⟩ := h
    rfl
  obtain ⟨a, kl, lt, n, ks, lk, rfl, hk, O, ok, dp, G, q⟩ := h
  have := Nt.dp_pos n
  omega
abbrev vV (P : Program) (w : World) (K : PySem.W.Frag) (mg : Str → Option Value) (base : Heap) (cs : NC) (j : Nat) : Prop := ∀ k d, ∃ f fd, Meth K (yt cs j) "reason" f ∧ FnOk P w K mg base CX0 (k + 3) f fd ["self", "kinds", "look"] (ug K cs d j) ∧ Binds K fd ["self", "kinds", "look"] []
abbrev yu (P : Program) (w : World) (K : PySem.W.Frag) (mg : Str → Option Value) (base : Heap) (cs : NC) (j : Nat) : Prop := (∀ k, ∃ f fd, Meth K (yt cs j) "reason" f ∧ FnOk P w K mg base CX0 (k + 3) f fd ["self", "kinds", "look"] (ug K cs 0 j) ∧ Binds K fd ["self", "kinds", "look"] []) ∧
  ∀ d, (∀ C sp, u9 K cs d C sp → Disp P w K mg base "reason" (3 + d) ["self", "kinds", "look"] C sp) → ∃ f fd, Meth K (yt cs j) "reason" f ∧ FnOk P w K mg base CX0 (3 + d + 1) f fd ["self", "kinds", "look"] (ug K cs (d + 1) j) ∧ Binds K fd ["self", "kinds", "look"] []
theorem Dc (cl : ∀ j, j < 8 → Cls K (yt cs j)) (h0 : vV P w K mg base cs 0) (h1 : vV P w K mg base cs 1) (h2 : vV P w K mg base cs 2) (h3 : vV P w K mg base cs 3) (h4 : vV P w K mg base cs 4) (h5 : yu P w K mg base cs 5) (h6 : yu P w K mg base cs 6) (h7 : yu P w K mg base cs 7) :
    ∀ d C sp, u9 K cs d C sp → Disp P w K mg base "reason" (3 + d) ["self", "kinds", "look"] C sp := by
  intro d
  induction d with
  | zero =>
    rintro C sp ⟨j, hj, rfl, rfl⟩
    refine ⟨cl j hj, ?_⟩
    have : j = 0 ∨ j = 1 ∨ j = 2 ∨ j = 3 ∨ j = 4 ∨ j = 5 ∨ j = 6 ∨ j = 7 := by omega
    rcases this with e | e | e | e | e | e | e | e <;> subst e
    · exact h0 0 0
    · exact h1 0 0
    · exact h2 0 0
    · exact h3 0 0
    · exact h4 0 0
    · exact h5.1 0
    · exact h6.1 0
    · exact h7.1 0
  | succ d ih =>
    rintro C sp ⟨j, hj, rfl, rfl⟩
    refine ⟨cl j hj, ?_⟩
    have : j = 0 ∨ j = 1 ∨ j = 2 ∨ j = 3 ∨ j = 4 ∨ j = 5 ∨ j = 6 ∨ j = 7 := by omega
    rcases this with e | e | e | e | e | e | e | e <;> subst e
    · have := h0 (d + 1) (d + 1)
      rwa [show d + 1 + 3 = 3 + (d + 1) by omega] at this
    · have := h1 (d + 1) (d + 1)
      rwa [show d + 1 + 3 = 3 + (d + 1) by omega] at this
    · have := h2 (d + 1) (d + 1)
      rwa [show d + 1 + 3 = 3 + (d + 1) by omega] at this
    · have := h3 (d + 1) (d + 1)
      rwa [show d + 1 + 3 = 3 + (d + 1) by omega] at this
    · have := h4 (d + 1) (d + 1)
      rwa [show d + 1 + 3 = 3 + (d + 1) by omega] at this
    · exact h5.2 d ih
    · exact h6.2 d ih
    · exact h7.2 d ih
end

theorem Gd {α : Type} {l : List α} (h : Dis l) : Dis l.reverse := fun i j x hi hj => by
  have li := (List.getElem?_eq_some_iff.mp hi).1
  have lj := (List.getElem?_eq_some_iff.mp hj).1
  rw [List.length_reverse] at li lj
  rw [List.getElem?_reverse li] at hi
  rw [List.getElem?_reverse lj] at hj
  have := h _ _ _ hi hj
  omega
theorem Aj {ks : List Kd2} {lk : List Int} {k : Kd2} {j : Nat} {x : Int} (D : Dis ks) (h1 : ks[j]? = some k) (h2 : lk[j]? = some x) : uI ks lk k = x :=
  xT h1 (fun m z hm hz e => by subst e; have := D _ _ _ hz h1; omega) h2
theorem Am {ks : List Kd2} {lk : List Int} {k : Kd2} (hl : lk.length = ks.length) (D : Dis ks) : uI ks.reverse lk.reverse k = uI ks lk k := by
  by_cases hk : k ∈ ks
  · obtain ⟨j, hj⟩ := List.mem_iff_getElem?.mp hk
    have lj := (List.getElem?_eq_some_iff.mp hj).1
    have e1 : lk[j]? = some lk[j] := List.getElem?_eq_getElem (by omega)
    rw [Aj D hj e1]
    refine Aj (Gd D) (j := ks.length - 1 - j) ?_ ?_
    · rw [List.getElem?_reverse (by omega), show ks.length - 1 - (ks.length - 1 - j) = j by omega]
      exact hj
    · rw [List.getElem?_reverse (by omega), show lk.length - 1 - (ks.length - 1 - j) = j by omega]
      exact e1
  · rw [vY hk, vY (by rw [List.mem_reverse]; exact hk)]
theorem any_iff {ks : List Kd2} {lk : List Int} {p : Kd2 → Int → Bool} : ur ks lk p = true ↔ ∃ (j : Nat) (k : Kd2) (x : Int), ks[j]? = some k ∧ lk[j]? = some x ∧ p k x = true := by
  unfold ur
  rw [List.any_eq_true]
  constructor
  · rintro ⟨⟨k, x⟩, m, h⟩
    obtain ⟨j, hj⟩ := List.mem_iff_getElem?.mp m
    rw [List.getElem?_zip_eq_some] at hj
    exact ⟨j, k, x, hj.1, hj.2, h⟩
  · rintro ⟨j, k, x, h1, h2, h⟩
    exact ⟨(k, x), List.mem_of_getElem? (List.getElem?_zip_eq_some.mpr ⟨h1, h2⟩), h⟩
theorem zO {ks : List Kd2} {lk : List Int} {p : Kd2 → Int → Bool} (hl : lk.length = ks.length) : ur ks.reverse lk.reverse p = ur ks lk p := by
  have one : ∀ {ks : List Kd2} {lk : List Int}, lk.length = ks.length → ur ks lk p = true → ur ks.reverse lk.reverse p = true := fun {ks lk} hl h => by
    obtain ⟨j, k, x, h1, h2, h3⟩ := any_iff.mp h
    have lj := (List.getElem?_eq_some_iff.mp h1).1
    refine any_iff.mpr ⟨ks.length - 1 - j, k, x, ?_, ?_, h3⟩
    · rw [List.getElem?_reverse (by omega), show ks.length - 1 - (ks.length - 1 - j) = j by omega]
      exact h1
    · rw [List.getElem?_reverse (by omega), show lk.length - 1 - (ks.length - 1 - j) = j by omega]
      exact h2
  cases e : ur ks lk p with
  | true => exact one hl e
  | false =>
    cases e2 : ur ks.reverse lk.reverse p with
    | false => rfl
    | true =>
      have := one (by rw [List.length_reverse, List.length_reverse]; exact hl) e2
      rw [List.reverse_reverse, List.reverse_reverse, e] at this
      cases this
theorem uW {ks : List Kd2} {lk : List Int} (hl : lk.length = ks.length) (D : Dis ks) : ∀ n : Nt, tG ks.reverse lk.reverse n = tG ks lk n
  | .any => rfl
  | .made s => zO hl
  | .used s => zO hl
  | .chief s => by
    show ur ks.reverse lk.reverse (uC lk.reverse s) = ur ks lk (uC lk s)
    rw [show uC lk.reverse s = uC lk s from by funext k x; unfold uC; simp only [List.mem_reverse]]
    exact zO hl
  | .over a b => by
    show decide (uI ks.reverse lk.reverse a > uI ks.reverse lk.reverse b) = _
    rw [Am hl D, Am hl D]
    rfl
  | .both x y => by
    show (tG ks.reverse lk.reverse x && tG ks.reverse lk.reverse y) = _
    rw [uW hl D x, uW hl D y]
    rfl
  | .either x y => by
    show (tG ks.reverse lk.reverse x || tG ks.reverse lk.reverse y) = _
    rw [uW hl D x, uW hl D y]
    rfl
  | .but x y => by
    show (tG ks.reverse lk.reverse x && !tG ks.reverse lk.reverse y) = _
    rw [uW hl D x, uW hl D y]
    rfl
theorem vv {ks : List Kd2} {lk : List Int} {n : Nt} {b : Bool} {r : List PyData} (hl : lk.length = ks.length) (h : rdB ks lk n b r = true) : rdV ks lk n (.tuple (.bool b :: r)) = .bl (tG ks lk n) := by
  rw [← u5 hl h]
  exact if_pos h
theorem KnA.rev {K : PySem.W.Frag} {H : Hp} {xs : List V} {ks : List Kd2} (h : KnA K H xs ks) : KnA K H xs.reverse ks.reverse := by
  induction h with
  | nil => exact .nil
  | cons a _ ih =>
    rw [List.reverse_cons, List.reverse_cons]
    exact AO ih a
theorem CD {K : PySem.W.Frag} {H : Hp} {xs : List V} {ks : List Kd2} (h : KnA K H xs ks) : xs.all okV = true := by
  induction h with
  | nil => rfl
  | cons a _ ih =>
    rw [List.all_cons, ih]
    rfl
def yv (K : PySem.W.Frag) (cs : NC) : Sp := fun vs H Q _ => ∃ (t : Addr) (n : Nt), vs = [.ref t] ∧ ud K H (.ref t) n ∧ n.dp = 1 ∧ ∀ a H', Same H H' → ObjN K cs H' a n → Q (.ref a) H'
def wX (K : PySem.W.Frag) (cs : NC) (d : Nat) : Sp := fun vs H Q _ => ∃ (t : Addr) (n : Nt), vs = [.ref t] ∧ ud K H (.ref t) n ∧ n.dp ≤ d ∧ ∀ a H', Same H H' → ObjN K cs H' a n → Q (.ref a) H'
def zU (K : PySem.W.Frag) : Sp := fun vs H Q _ => ∃ (t kl lt : Addr) (v : V) (n : Nt) (ks : List Kd2) (lk : List Int) (dt : PyData) (due : Bool), vs = [.ref t, .ref kl, .ref lt, v, .bl due] ∧ ud K H (.ref t) n ∧ n.ok ∧ n.dp ≤ 5 ∧ Ground K H kl lt ks lk ∧ Rep K H v dt ∧ rdV ks lk n dt = .bl due ∧ ∀ H', Same H H' → Q (.bl true) H'
theorem zz {K : PySem.W.Frag} {cs : NC} {H : Hp} {a : Addr} {n : Nt} {d : Nat} (O : ObjN K cs H a n) : ∃ C dx fs, H a = some (.ins C dx fs) ∧ fs.lookup ("reason" : Str) = none ∧ u9 K cs d C (ug K cs d (wA n)) := by
  cases n with
  | any => obtain ⟨dx, h⟩ := O; exact ⟨_, _, _, h, rfl, 0, by decide, rfl, rfl⟩
  | made s => obtain ⟨dx, h⟩ := O; exact ⟨_, _, _, h, rfl, 1, by decide, rfl, rfl⟩
  | used s => obtain ⟨dx, h⟩ := O; exact ⟨_, _, _, h, rfl, 2, by decide, rfl, rfl⟩
  | chief s => obtain ⟨dx, h⟩ := O; exact ⟨_, _, _, h, rfl, 3, by decide, rfl, rfl⟩
  | over k1 k2 => obtain ⟨dx, _, _, h, _⟩ := O; exact ⟨_, _, _, h, rfl, 4, by decide, rfl, rfl⟩
  | both x y => obtain ⟨dx, _, _, h, _⟩ := O; exact ⟨_, _, _, h, rfl, 5, by decide, rfl, rfl⟩
  | either x y => obtain ⟨dx, _, _, h, _⟩ := O; exact ⟨_, _, _, h, rfl, 6, by decide, rfl, rfl⟩
  | but x y => obtain ⟨dx, _, _, h, _⟩ := O; exact ⟨_, _, _, h, rfl, 7, by decide, rfl, rfl⟩
section
variable {P : Program} {w : World} {K : PySem.W.Frag} {mg : Str → Option Value} {base : Heap} {f : Addr} {fd : FuncData} {cs : NC}
theorem yG (F : Fun K "_law_made_plain" "_law_made_plain" aQ f fd) (M : Mg mg) (Z_Made : MkC P w K mg base "Made" cs.made 1 ["self", "stuff"] (uR K cs.made "stuff")) (Z_Used : MkC P w K mg base "Used" cs.used 1 ["self", "use"] (uR K cs.used "use")) (Z_Chief : MkC P w K mg base "Chief" cs.chief 1 ["self", "stuff"] (uR K cs.chief "stuff")) (Z_Anything : Mk0 K cs.any) (A_Anything : mg "Anything" = some (.ref cs.any)) (Z_Over : MkC P w K mg base "Over" cs.over 1 ["self", "one", "other"] (uD K)) (t4 : TwoC K cs.over) : FnOk P w K mg base CX0 3 f fd ["_law_told"] (yv K cs) := by
  refine F.ok ml (fun vs H Q E h => ?_) (fun cdv A outer s H vs Q E hr h => ?_)
  · obtain ⟨t, n, rfl, _⟩ := h
    rfl
  obtain ⟨t, n, rfl, R, dp, q⟩ := h
  refine ⟨_, (@fz _ _ _ _ _ (@tL _ _ _ _ _ _ _ _ (@qq _ _ _ _ _ _ _ _ (@tT _) (@m9 _ _ _ _ _ _ _ (@ni _) (@eu _ 0 _ _ rfl bo af ag) (@eH _ _ _ _) (fun _ _ => rfl)) (@tN _ _ _ _) (r8 _)) (@ki _ _ _ (@nt _ _ _ _ (@A4 _ _ _ _ _ Z_Anything il A_Anything mw))) (@tF _)) (@fz _ _ _ _ _ (@tL _ _ _ _ _ _ _ _ (@qq _ _ _ _ _ _ _ _ (@tT _) (@m9 _ _ _ _ _ _ _ (@ni _) (@eu _ 0 _ _ rfl bo af ag) (@eH _ _ _ _) (fun _ _ => rfl)) (@tN _ _ _ _) (r8 _)) (@ki _ _ _ (@nt _ _ _ _ (@uG _ _ _ _ _ _ _ _ _ _ _ _ Z_Over hr jT (@cg _ _ _ _ _ (@m9 _ _ _ _ _ _ _ (@ni _) (@eu _ 0 _ _ rfl bo af ag) (@eH _ _ _ _) (fun _ _ => rfl)) (@cg _ _ _ _ _ (@m9 _ _ _ _ _ _ _ (@ni _) (@eu _ 0 _ _ rfl bo af ag) (@eH _ _ _ _) (fun _ _ => rfl)) (@ff _) (ef rfl)) (ef rfl)) (by decide) sd (ef rfl) (ia rfl mj)))) (@tF _)) (@fz _ _ _ _ _ (@tL _ _ _ _ _ _ _ _ (@qq _ _ _ _ _ _ _ _ (@tT _) (@m9 _ _ _ _ _ _ _ (@ni _) (@eu _ 0 _ _ rfl bo af ag) (@eH _ _ _ _) (fun _ _ => rfl)) (@tN _ _ _ _) (r8 _)) (@ki _ _ _ (@nt _ _ _ _ (@uG _ _ _ _ _ _ _ _ _ _ _ _ Z_Made hr jU (@cg _ _ _ _ _ (@m9 _ _ _ _ _ _ _ (@ni _) (@eu _ 0 _ _ rfl bo af ag) (@eH _ _ _ _) (fun _ _ => rfl)) (@ff _) (ef rfl)) (by decide) rX (ef rfl) mj))) (@tF _)) (@fz _ _ _ _ _ (@tL _ _ _ _ _ _ _ _ (@qq _ _ _ _ _ _ _ _ (@tT _) (@m9 _ _ _ _ _ _ _ (@ni _) (@eu _ 0 _ _ rfl bo af ag) (@eH _ _ _ _) (fun _ _ => rfl)) (@tN _ _ _ _) (r8 _)) (@ki _ _ _ (@nt _ _ _ _ (@uG _ _ _ _ _ _ _ _ _ _ _ _ Z_Used hr jV (@cg _ _ _ _ _ (@m9 _ _ _ _ _ _ _ (@ni _) (@eu _ 0 _ _ rfl bo af ag) (@eH _ _ _ _) (fun _ _ => rfl)) (@ff _) (ef rfl)) (by decide) rY (ef rfl) mj))) (@tF _)) (@ki _ _ _ (@nt _ _ _ _ (@uG _ _ _ _ _ _ _ _ _ _ _ _ Z_Chief hr jq (@cg _ _ _ _ _ (@m9 _ _ _ _ _ _ _ (@ni _) (@eu _ 0 _ _ rfl bo af ag) (@eH _ _ _ _) (fun _ _ => rfl)) (@ff _) (ef rfl)) (by decide) qK (ef rfl) mj))))))), ?_⟩
  trivial
  cases n with
  | any =>
    obtain ⟨x0, T, s0⟩ := vc R
    cases nj s0
    refine ⟨_, T, _, at0, rfl, ?_⟩
    rw [if_pos (by decide)]
    intro x dx hx hd ne
    refine q _ _ (fun b u z => ?_) ⟨dx, ic⟩
    rw [tP (tU z hx), tP (tU z hd)]
    exact z
  | made s =>
    obtain ⟨x0, y0, T, s0, s1⟩ := tS R
    cases nj s0
    cases nj s1
    refine ⟨_, T, _, at0, rfl, ?_⟩
    rw [if_neg (by decide)]
    refine ⟨_, T, _, at0, rfl, ?_⟩
    rw [if_neg (by decide)]
    refine ⟨_, T, _, at0, rfl, ?_⟩
    rw [if_pos (by decide)]
    exact ⟨_, T, _, at1, fun x dx hx hd ne => ⟨x, dx, _, rfl, ic, rfl, q _ _ (make1' hx hd) ⟨dx, ic⟩⟩⟩
  | used s =>
    obtain ⟨x0, y0, T, s0, s1⟩ := tS R
    cases nj s0
    cases nj s1
    refine ⟨_, T, _, at0, rfl, ?_⟩
    rw [if_neg (by decide)]
    refine ⟨_, T, _, at0, rfl, ?_⟩
    rw [if_neg (by decide)]
    refine ⟨_, T, _, at0, rfl, ?_⟩
    rw [if_neg (by decide)]
    refine ⟨_, T, _, at0, rfl, ?_⟩
    rw [if_pos (by decide)]
    exact ⟨_, T, _, at1, fun x dx hx hd ne => ⟨x, dx, _, rfl, ic, rfl, q _ _ (make1' hx hd) ⟨dx, ic⟩⟩⟩
  | chief s =>
    obtain ⟨x0, y0, T, s0, s1⟩ := tS R
    cases nj s0
    cases nj s1
    refine ⟨_, T, _, at0, rfl, ?_⟩
    rw [if_neg (by decide)]
    refine ⟨_, T, _, at0, rfl, ?_⟩
    rw [if_neg (by decide)]
    refine ⟨_, T, _, at0, rfl, ?_⟩
    rw [if_neg (by decide)]
    refine ⟨_, T, _, at0, rfl, ?_⟩
    rw [if_neg (by decide)]
    exact ⟨_, T, _, at1, fun x dx hx hd ne => ⟨x, dx, _, rfl, ic, rfl, q _ _ (make1' hx hd) ⟨dx, ic⟩⟩⟩
  | over k1 k2 =>
    obtain ⟨x0, y0, z0, T, s0, s1, s2⟩ := tW R
    cases nj s0
    obtain ⟨p1, rfl, T1⟩ := vm s1
    obtain ⟨p2, rfl, T2⟩ := vm s2
    refine ⟨_, T, _, at0, rfl, ?_⟩
    rw [if_neg (by decide)]
    refine ⟨_, T, _, at0, rfl, ?_⟩
    rw [if_pos (by decide)]
    exact ⟨_, T, _, at1, _, T, _, at2, fun x dx hx hd ne => ⟨x, _, dx, _, _, rfl, ic, t4.cl, t4.n1, t4.n2, fun H' h1 h2 => ⟨rfl, q _ _ (uE hx hd h2) ⟨dx, _, _, h1, Same.tup (uE hx hd h2) T1, Same.tup (uE hx hd h2) T2⟩⟩⟩⟩
  | both x y => exact absurd dp (by have := Nt.dp_pos x; show ¬(max x.dp y.dp + 1 = 1); omega)
  | either x y => exact absurd dp (by have := Nt.dp_pos x; show ¬(max x.dp y.dp + 1 = 1); omega)
  | but x y => exact absurd dp (by have := Nt.dp_pos x; show ¬(max x.dp y.dp + 1 = 1); omega)
theorem Es {d : Nat} (F : Fun K "_law_made" "_law_made" bR f fd) (M : Mg mg) (cz : Cal P w K mg base CX0 "_law_made_plain" 3 ["_law_told"] (yv K cs)) (Z_Both : MkC P w K mg base "Both" cs.both 1 ["self", "one", "other"] (uD K)) (Z_Either : MkC P w K mg base "Either" cs.either 1 ["self", "one", "other"] (uD K)) (Z_But : MkC P w K mg base "But" cs.but 1 ["self", "one", "other"] (uD K)) (t5 : TwoC K cs.both) (t6 : TwoC K cs.either) (t7 : TwoC K cs.but) (cE : Cal P w K mg base CX0 "_law_made" (3 + d) ["_law_told"] (wX K cs d)) : FnOk P w K mg base CX0 (3 + d + 1) f fd ["_law_told"] (wX K cs (d + 1)) := by
  refine F.ok mH (fun vs H Q E h => ?_) (fun cdv A outer s H vs Q E hr h => ?_)
  · obtain ⟨t, n, rfl, _⟩ := h
    rfl
  obtain ⟨t, n, rfl, R, dp, q⟩ := h
  refine ⟨_, (@fz _ _ _ _ _ (@tL _ _ _ _ _ _ _ _ (@qq _ _ _ _ _ _ _ _ (@tT _) (@m9 _ _ _ _ _ _ _ (@ni _) (@eu _ 0 _ _ rfl bW af ag) (@eH _ _ _ _) (fun _ _ => rfl)) (@tN _ _ _ _) (r8 _)) (@ki _ _ _ (@nt _ _ _ _ (@uG _ _ _ _ _ _ _ _ _ _ _ _ Z_Both hr oi (@cg _ _ _ _ _ (@m8 _ _ _ _ _ _ _ _ _ _ _ cE hr bS (@cg _ _ _ _ _ (@m9 _ _ _ _ _ _ _ (@ni _) (@eu _ 0 _ _ rfl bW af ag) (@eH _ _ _ _) (fun _ _ => rfl)) (@ff _) (ef rfl)) (by omega) cV (ef rfl) mj) (@cg _ _ _ _ _ (@m8 _ _ _ _ _ _ _ _ _ _ _ cE hr bS (@cg _ _ _ _ _ (@m9 _ _ _ _ _ _ _ (@ni _) (@eu _ 0 _ _ rfl bW af ag) (@eH _ _ _ _) (fun _ _ => rfl)) (@ff _) (ef rfl)) (by omega) cV (ef rfl) mj) (@ff _) (ef rfl)) (ef rfl)) (by omega) rZ (ef rfl) (ia rfl mj)))) (@tF _)) (@fz _ _ _ _ _ (@tL _ _ _ _ _ _ _ _ (@qq _ _ _ _ _ _ _ _ (@tT _) (@m9 _ _ _ _ _ _ _ (@ni _) (@eu _ 0 _ _ rfl bW af ag) (@eH _ _ _ _) (fun _ _ => rfl)) (@tN _ _ _ _) (r8 _)) (@ki _ _ _ (@nt _ _ _ _ (@uG _ _ _ _ _ _ _ _ _ _ _ _ Z_Either hr mn (@cg _ _ _ _ _ (@m8 _ _ _ _ _ _ _ _ _ _ _ cE hr bS (@cg _ _ _ _ _ (@m9 _ _ _ _ _ _ _ (@ni _) (@eu _ 0 _ _ rfl bW af ag) (@eH _ _ _ _) (fun _ _ => rfl)) (@ff _) (ef rfl)) (by omega) cV (ef rfl) mj) (@cg _ _ _ _ _ (@m8 _ _ _ _ _ _ _ _ _ _ _ cE hr bS (@cg _ _ _ _ _ (@m9 _ _ _ _ _ _ _ (@ni _) (@eu _ 0 _ _ rfl bW af ag) (@eH _ _ _ _) (fun _ _ => rfl)) (@ff _) (ef rfl)) (by omega) cV (ef rfl) mj) (@ff _) (ef rfl)) (ef rfl)) (by omega) pp (ef rfl) (ia rfl mj)))) (@tF _)) (@fz _ _ _ _ _ (@tL _ _ _ _ _ _ _ _ (@qq _ _ _ _ _ _ _ _ (@tT _) (@m9 _ _ _ _ _ _ _ (@ni _) (@eu _ 0 _ _ rfl bW af ag) (@eH _ _ _ _) (fun _ _ => rfl)) (@tN _ _ _ _) (r8 _)) (@ki _ _ _ (@nt _ _ _ _ (@uG _ _ _ _ _ _ _ _ _ _ _ _ Z_But hr pd (@cg _ _ _ _ _ (@m8 _ _ _ _ _ _ _ _ _ _ _ cE hr bS (@cg _ _ _ _ _ (@m9 _ _ _ _ _ _ _ (@ni _) (@eu _ 0 _ _ rfl bW af ag) (@eH _ _ _ _) (fun _ _ => rfl)) (@ff _) (ef rfl)) (by omega) cV (ef rfl) mj) (@cg _ _ _ _ _ (@m8 _ _ _ _ _ _ _ _ _ _ _ cE hr bS (@cg _ _ _ _ _ (@m9 _ _ _ _ _ _ _ (@ni _) (@eu _ 0 _ _ rfl bW af ag) (@eH _ _ _ _) (fun _ _ => rfl)) (@ff _) (ef rfl)) (by omega) cV (ef rfl) mj) (@ff _) (ef rfl)) (ef rfl)) (by omega) sC (ef rfl) (ia rfl mj)))) (@tF _)) (@ki _ _ _ (@nt _ _ _ _ (@m8 _ _ _ _ _ _ _ _ _ _ _ cz hr gW (@cg _ _ _ _ _ (@eu _ 0 _ _ rfl bW af ag) (@ff _) (ef rfl)) (by omega) ly (ef rfl) mj)))))), ?_⟩
  trivial
  cases n with
  | any =>
    obtain ⟨x0, T, r0⟩ := vc R
    cases nj r0
    refine ⟨_, T, _, at0, rfl, ?_⟩
    rw [if_neg (by decide)]
    refine ⟨_, T, _, at0, rfl, ?_⟩
    rw [if_neg (by decide)]
    refine ⟨_, T, _, at0, rfl, ?_⟩
    rw [if_neg (by decide)]
    exact ⟨t, _, rfl, R, rfl, q⟩
  | made s =>
    obtain ⟨x0, y0, T, r0, r1⟩ := tS R
    cases nj r0
    cases nj r1
    refine ⟨_, T, _, at0, rfl, ?_⟩
    rw [if_neg (by decide)]
    refine ⟨_, T, _, at0, rfl, ?_⟩
    rw [if_neg (by decide)]
    refine ⟨_, T, _, at0, rfl, ?_⟩
    rw [if_neg (by decide)]
    exact ⟨t, _, rfl, R, rfl, q⟩
  | used s =>
    obtain ⟨x0, y0, T, r0, r1⟩ := tS R
    cases nj r0
    cases nj r1
    refine ⟨_, T, _, at0, rfl, ?_⟩
    rw [if_neg (by decide)]
    refine ⟨_, T, _, at0, rfl, ?_⟩
    rw [if_neg (by decide)]
    refine ⟨_, T, _, at0, rfl, ?_⟩
    rw [if_neg (by decide)]
    exact ⟨t, _, rfl, R, rfl, q⟩
  | chief s =>
    obtain ⟨x0, y0, T, r0, r1⟩ := tS R
    cases nj r0
    cases nj r1
    refine ⟨_, T, _, at0, rfl, ?_⟩
    rw [if_neg (by decide)]
    refine ⟨_, T, _, at0, rfl, ?_⟩
    rw [if_neg (by decide)]
    refine ⟨_, T, _, at0, rfl, ?_⟩
    rw [if_neg (by decide)]
    exact ⟨t, _, rfl, R, rfl, q⟩
  | over a b =>
    obtain ⟨x0, y0, z0, T, r0, r1, r2⟩ := tW R
    cases nj r0
    refine ⟨_, T, _, at0, rfl, ?_⟩
    rw [if_neg (by decide)]
    refine ⟨_, T, _, at0, rfl, ?_⟩
    rw [if_neg (by decide)]
    refine ⟨_, T, _, at0, rfl, ?_⟩
    rw [if_neg (by decide)]
    exact ⟨t, _, rfl, R, rfl, q⟩
  | both x y =>
    obtain ⟨x0, y0, z0, T, r0, r1, r2⟩ := tW R
    cases nj r0
    obtain ⟨t1, rfl⟩ := tV r1
    obtain ⟨t2, rfl⟩ := tV r2
    have dd : max x.dp y.dp + 1 ≤ d + 1 := dp
    refine ⟨_, T, _, at0, rfl, ?_⟩
    rw [if_pos (by decide)]
    refine ⟨_, T, _, at1, t1, x, rfl, r1, (by omega), fun a1 H1 S1 O1 => ?_⟩
    refine ⟨_, Same.tup S1 T, _, at2, t2, y, rfl, r2.same S1, (by omega), fun a2 H2 S2 O2 => ?_⟩
    exact fun x4 dx hx hd ne => ⟨x4, _, dx, _, _, rfl, ic, t5.cl, t5.n1, t5.n2, fun H' h1 h2 => ⟨rfl, q _ _ (S1.trans (S2.trans (uE hx hd h2))) ⟨dx, _, _, h1, ObjN.same (uE hx hd h2) (ObjN.same S2 O1), ObjN.same (uE hx hd h2) O2⟩⟩⟩
  | either x y =>
    obtain ⟨x0, y0, z0, T, r0, r1, r2⟩ := tW R
    cases nj r0
    obtain ⟨t1, rfl⟩ := tV r1
    obtain ⟨t2, rfl⟩ := tV r2
    have dd : max x.dp y.dp + 1 ≤ d + 1 := dp
    refine ⟨_, T, _, at0, rfl, ?_⟩
    rw [if_neg (by decide)]
    refine ⟨_, T, _, at0, rfl, ?_⟩
    rw [if_pos (by decide)]
    refine ⟨_, T, _, at1, t1, x, rfl, r1, (by omega), fun a1 H1 S1 O1 => ?_⟩
    refine ⟨_, Same.tup S1 T, _, at2, t2, y, rfl, r2.same S1, (by omega), fun a2 H2 S2 O2 => ?_⟩
    exact fun x4 dx hx hd ne => ⟨x4, _, dx, _, _, rfl, ic, t6.cl, t6.n1, t6.n2, fun H' h1 h2 => ⟨rfl, q _ _ (S1.trans (S2.trans (uE hx hd h2))) ⟨dx, _, _, h1, ObjN.same (uE hx hd h2) (ObjN.same S2 O1), ObjN.same (uE hx hd h2) O2⟩⟩⟩
  | but x y =>
    obtain ⟨x0, y0, z0, T, r0, r1, r2⟩ := tW R
    cases nj r0
    obtain ⟨t1, rfl⟩ := tV r1
    obtain ⟨t2, rfl⟩ := tV r2
    have dd : max x.dp y.dp + 1 ≤ d + 1 := dp
    refine ⟨_, T, _, at0, rfl, ?_⟩
    rw [if_neg (by decide)]
    refine ⟨_, T, _, at0, rfl, ?_⟩
    rw [if_neg (by decide)]
    refine ⟨_, T, _, at0, rfl, ?_⟩
    rw [if_pos (by decide)]
    refine ⟨_, T, _, at1, t1, x, rfl, r1, (by omega), fun a1 H1 S1 O1 => ?_⟩
    refine ⟨_, Same.tup S1 T, _, at2, t2, y, rfl, r2.same S1, (by omega), fun a2 H2 S2 O2 => ?_⟩
    exact fun x4 dx hx hd ne => ⟨x4, _, dx, _, _, rfl, ic, t7.cl, t7.n1, t7.n2, fun H' h1 h2 => ⟨rfl, q _ _ (S1.trans (S2.trans (uE hx hd h2))) ⟨dx, _, _, h1, ObjN.same (uE hx hd h2) (ObjN.same S2 O1), ObjN.same (uE hx hd h2) O2⟩⟩⟩
theorem yI (F : Fun K "_law_made" "_law_made" bR f fd) (M : Mg mg) (cz : Cal P w K mg base CX0 "_law_made_plain" 3 ["_law_told"] (yv K cs)) (Z_Both : MkC P w K mg base "Both" cs.both 1 ["self", "one", "other"] (uD K)) (Z_Either : MkC P w K mg base "Either" cs.either 1 ["self", "one", "other"] (uD K)) (Z_But : MkC P w K mg base "But" cs.but 1 ["self", "one", "other"] (uD K)) (t5 : TwoC K cs.both) (t6 : TwoC K cs.either) (t7 : TwoC K cs.but) (b : Binds K fd ["_law_told"] []) (kp : PySem.W.keepIn K (.ref f) = true) (m : mg "_law_made" = some (.ref f)) : ∀ d : Nat, FnOk P w K mg base CX0 (3 + d) f fd ["_law_told"] (wX K cs d)
  | 0 => by
    refine F.ok mH (fun vs H Q E h => ?_) (fun cdv A outer s H vs Q E hr h => ?_)
    · obtain ⟨t, n, rfl, _⟩ := h
      rfl
    obtain ⟨t, n, rfl, R, dp, q⟩ := h
    have := Nt.dp_pos n
    omega
  | d + 1 => Es F M cz Z_Both Z_Either Z_But t5 t6 t7 ⟨⟨f, fd, yI F M cz Z_Both Z_Either Z_But t5 t6 t7 b kp m d, b, kp, m⟩⟩
theorem BB (F : Fun K "_law_says" "_law_says" aR f fd) (M : Mg mg) (j9 : Cal P w K mg base CX0 "truth_of" 20 ["told", "kinds", "look", "reason"] (Ab K)) : FnOk P w K mg base CX0 21 f fd ["_law_told", "_law_kinds_here", "_law_look_here", "_law_reason_here", "_law_due"] (zU K) := by
  refine F.ok jr (fun vs H Q E h => ?_) (fun cdv A outer s H vs Q E hr h => ?_)
  · obtain ⟨t, kl, lt, v, n, ks, lk, dt, due, rfl, _⟩ := h
    rfl
  obtain ⟨t, kl, lt, v, n, ks, lk, dt, due, rfl, R, ok, dp, G, Rv, hd, q⟩ := h
  obtain ⟨kx, L, A⟩ := G.kx
  refine ⟨_, (@fz _ _ _ _ _ (@tK _ _ 5 _ _ _ _ jr.nd rfl rE (@u6 _ _ _ _ _ _ _ _ _ xP oj M.m_list zq (@cg _ _ _ _ _ (@eu _ 1 _ _ rfl lR aa ae) (@ff _) (ef rfl)) oE oC (ef rfl) mj) (tM rfl) (.inl rfl)) (@fz _ _ _ _ _ (@tK _ _ 6 _ _ _ _ jr.nd rfl rF (@m8 _ _ _ _ _ _ _ _ _ _ _ j9 hr lm (@cg _ _ _ _ _ (@eu _ 0 _ _ rfl rA af ag) (@cg _ _ _ _ _ (@eu _ 5 _ _ rfl lS eO eP) (@cg _ _ _ _ _ (@eu _ 2 _ _ rfl rB ah ai) (@cg _ _ _ _ _ (@eu _ 3 _ _ rfl rC ak al) (@ff _) (ef rfl)) (ef rfl)) (ef rfl)) (ef rfl)) (by decide) rM (ef rfl) (ia rfl (ia rfl (ia rfl mj)))) (tM rfl) (.inl rfl)) (@ki _ _ _ (@nt _ _ _ _ (@uM _ _ _ _ _ _ _ (@tH _ _ _ _ _ _ _ _ _ uH jW M.m_isinstance uc (@cg _ _ _ _ _ (@eu _ 6 _ _ rfl lT fk fm) (@cg _ _ _ _ _ (@uK _ _ (.ty "bool") _ _ om M.m_bool yq rfl jz jy) (@ff _) (ef rfl)) (ef rfl)) aW aV (ef rfl) (ia rfl mj)) (@uM _ _ _ _ _ _ _ (@uq _ _ _ _ _ _ _ _ (@tT _) (@eu _ 6 _ _ rfl lT fk fm) (@eu _ 4 _ _ rfl rD cN cO) (r8 _)) (@uN _ _ _ _ _ (@uq _ _ _ _ _ _ _ _ (@GT _ (Nat.lt_of_succ_lt (Fj hr))) (@eu _ 5 _ _ rfl lS eO eP) (@eu _ 1 _ _ rfl lR aa ae) (r8 _))))))))), ?_⟩
  trivial
  refine ⟨kx, L, fun l hl => ?_⟩
  have S0 := p5 hl (.lst kx)
  refine ⟨t, l, lt, v, n, ks, lk, dt, rfl, R.same S0, ok, dp, ⟨⟨kx, SqL.of ic, A.same S0⟩, Same.tup S0 G.look, G.len, G.pos, G.le, G.ok, G.nn⟩, Rv.same S0, fun H1 S1 => ?_⟩
  dsimp only
  rw [hd]
  refine ⟨.bl, rfl, ?_⟩
  rw [if_pos (by decide)]
  refine ⟨rfl, ?_⟩
  rw [if_pos rfl]
  exact ⟨_, _, rfl, rfl, .inl ⟨kx, .inl ⟨SqL.of (S1 _ _ ic), (S0.trans S1).seq L⟩, CD A, q _ (S0.trans S1)⟩⟩
theorem GM (F : Fun K "law" "law" aA f fd) (M : Mg mg) (gk : Cal P w K mg base CX0 "_law_cell" 1 ["_law_script", "_law_k"] (zp K)) (aS : Cal P w K mg base CX0 "_law_mix" 1 ["_law_number", "_law_k", "_law_many"] wG) (js : Cal P w K mg base CX0 "_law_words" 1 ["_law_cell_here", "_law_many"] (zX K)) (jt : Cal P w K mg base CX0 "_law_kinds" 1 ["_law_cell_here", "_law_words_here"] (zg K)) (lV : Cal P w K mg base CX0 "note_of" 11 ["told"] (yY K cs))
    (eV : Cal P w K mg base CX0 "_law_note" 8 ["_law_number", "_law_deep", "_law_kinds_here", "_law_words_here"] (Cf K)) (io : Cal P w K mg base CX0 "_law_look" 2 ["_law_cell_here", "_law_many"] (A5 K)) (bK : Cal P w K mg base CX0 "_law_claims" 8 ["_law_told", "_law_kinds_here", "_law_look_here"] (v5 K 5)) (cE : Cal P w K mg base CX0 "_law_made" 8 ["_law_told"] (wX K cs 5)) (cS : Cal P w K mg base CX0 "_law_reads" 8 ["_law_told", "_law_kinds_here", "_law_look_here", "_law_reason_here"] (xD K 5)) (dI : Cal P w K mg base CX0 "_law_reason" 8 ["_law_told", "_law_kinds_here", "_law_look_here"] (wH K 5)) (ip : Cal P w K mg base CX0 "_law_says" 21 ["_law_told", "_law_kinds_here", "_law_look_here", "_law_reason_here", "_law_due"] (zU K))
    (D_reason : ∀ C sp, u9 K cs 5 C sp → Disp P w K mg base "reason" 8 ["self", "kinds", "look"] C sp) (m_reversed : mg "reversed" = none) : FnOk P w K mg base CX0 22 f fd ["_law_script"] (AF K) := by
  refine F.ok cZ (fun vs H Q E h => ?_) (fun cdv A outer s H vs Q E hr h => ?_)
  · obtain ⟨a, ns, rfl, _⟩ := h
    rfl
  obtain ⟨a, ns, rfl, hS, hl, q⟩ := h
  refine ⟨_, (@fz _ _ _ _ _ (@tK _ _ 1 _ _ _ _ cZ.nd rfl sQ (@m8 _ _ _ _ _ _ _ _ _ _ _ js hr mY (@cg _ _ _ _ _ (@m8 _ _ _ _ _ _ _ _ _ _ _ gk hr gh (@cg _ _ _ _ _ (@eu _ 0 _ _ rfl lY bO bP) (@cg _ _ _ _ _ (@eH _ _ _ _) (@ff _) (ef rfl)) (ef rfl)) (by decide) iB (ef rfl) (ia rfl mj)) (@cg _ _ _ _ _ (@eH _ _ _ _) (@ff _) (ef rfl)) (ef rfl)) (by decide) pE (ef rfl) (ia rfl mj)) (tM rfl) (.inl rfl)) (@fz _ _ _ _ _ (@tK _ _ 2 _ _ _ _ cZ.nd rfl sR (@m8 _ _ _ _ _ _ _ _ _ _ _ jt hr mZ (@cg _ _ _ _ _ (@m8 _ _ _ _ _ _ _ _ _ _ _ gk hr gh (@cg _ _ _ _ _ (@eu _ 0 _ _ rfl lY bO bP) (@cg _ _ _ _ _ (@eH _ _ _ _) (@ff _) (ef rfl)) (ef rfl)) (by decide) iB (ef rfl) (ia rfl mj)) (@cg _ _ _ _ _ (@eu _ 1 _ _ rfl sh aH aI) (@ff _) (ef rfl)) (ef rfl)) (by decide) pF (ef rfl) (ia rfl mj)) (tM rfl) (.inl rfl)) (@fz _ _ _ _ _ (@yh _ _ _ _ _ _ _ _ PassesOwn.never rfl (@Eo _ _ _ _ _ _ _ rW M.m_range (@cg _ _ _ _ _ (@eH _ _ _ _) (@cg _ _ _ _ _ (@tH _ _ _ _ _ _ _ _ _ (Ej rfl) sD M.m_max AD (@cg _ _ _ _ _ (@eH _ _ _ _) (@cg _ _ _ _ _ (@tH _ _ _ _ _ _ _ _ _ (D5 rfl) sE M.m_min G4 (@cg _ _ _ _ _ (@tH _ _ _ _ _ _ _ _ _ tO lU M.m_len uo (@cg _ _ _ _ _ (@eu _ 0 _ _ rfl lY bO bP) (@ff _) (ef rfl)) bg bf (ef rfl) mj) (@cg _ _ _ _ _ (@eH _ _ _ _) (@ff _) (ef rfl)) (ef rfl)) tE tD (ef rfl) (ia rfl mj)) (@ff _) (ef rfl)) (ef rfl)) ny nv (ef rfl) (ia rfl mj)) (@ff _) (ef rfl)) (ef rfl)) (star2' rfl rfl) (star1' rfl)) (@uu _ _ 3 _ cZ.nd rfl sT (.inl rfl)) (@fz _ _ _ _ _ (@tK _ _ 4 _ _ _ _ cZ.nd rfl sU (@m8 _ _ _ _ _ _ _ _ _ _ _ gk hr gh (@cg _ _ _ _ _ (@eu _ 0 _ _ rfl lY bO bP) (@cg _ _ _ _ _ (@eu _ 3 _ _ rfl sS bG bH) (@ff _) (ef rfl)) (ef rfl)) (by decide) iB (ef rfl) (ia rfl mj)) (tM rfl) (.inl rfl)) (@fz _ _ _ _ _ (@tK _ _ 5 _ _ _ _ cZ.nd rfl sV (@m8 _ _ _ _ _ _ _ _ _ _ _ eV hr oo (@cg _ _ _ _ _ (@eu _ 4 _ _ rfl jX aF aG) (@cg _ _ _ _ _ (@wg _ _ _ _ _ _ _ (@cg _ _ _ _ _ (@eH _ _ _ _) (@cg _ _ _ _ _ (@eH _ _ _ _) (@cg _ _ _ _ _ (@eH _ _ _ _) (@cg _ _ _ _ _ (@eH _ _ _ _) (@cg _ _ _ _ _ (@eH _ _ _ _) (@cg _ _ _ _ _ (@eH _ _ _ _) (@cg _ _ _ _ _ (@eH _ _ _ _) (@cg _ _ _ _ _ (@eH _ _ _ _) (@ff _) (ef rfl)) (ef rfl)) (ef rfl)) (ef rfl)) (ef rfl)) (ef rfl)) (ef rfl)) (ef rfl)) (@m8 _ _ _ _ _ _ _ _ _ _ _ aS hr pf (@cg _ _ _ _ _ (@eu _ 4 _ _ rfl jX aF aG) (@cg _ _ _ _ _ (@eH _ _ _ _) (@cg _ _ _ _ _ (@eH _ _ _ _) (@ff _) (ef rfl)) (ef rfl)) (ef rfl)) (by decide) b0 (ef rfl) (ia rfl (ia rfl mj))) (fun _ _ => rfl)) (@cg _ _ _ _ _ (@eu _ 2 _ _ rfl dg aa ae) (@cg _ _ _ _ _ (@eu _ 1 _ _ rfl sh aH aI) (@ff _) (ef rfl)) (ef rfl)) (ef rfl)) (ef rfl)) (by decide) iw (ef rfl) (ia rfl (ia rfl (ia rfl mj)))) (tM rfl) (.inl rfl)) (@fz _ _ _ _ _ (@tK _ _ 6 _ _ _ _ cZ.nd rfl sW (@m8 _ _ _ _ _ _ _ _ _ _ _ io hr jg (@cg _ _ _ _ _ (@tQ _ _ _ _ _ _ _ _ (@uZ _) (@eu _ 4 _ _ rfl jX aF aG) (@eH _ _ _ _)) (@cg _ _ _ _ _ (@tH _ _ _ _ _ _ _ _ _ tO lU M.m_len uo (@cg _ _ _ _ _ (@eu _ 2 _ _ rfl dg aa ae) (@ff _) (ef rfl)) bg bf (ef rfl) mj) (@ff _) (ef rfl)) (ef rfl)) (by decide) lB (ef rfl) (ia rfl mj)) (tM rfl) (.inl rfl)) (@fz _ _ _ _ _ (@tK _ _ 7 _ _ _ _ cZ.nd rfl sX (@m8 _ _ _ _ _ _ _ _ _ _ _ bK hr ie (@cg _ _ _ _ _ (@eu _ 5 _ _ rfl eU af ag) (@cg _ _ _ _ _ (@eu _ 2 _ _ rfl dg aa ae) (@cg _ _ _ _ _ (@eu _ 6 _ _ rfl iq ah ai) (@ff _) (ef rfl)) (ef rfl)) (ef rfl)) (by decide) bY (ef rfl) (ia rfl (ia rfl mj))) (tM rfl) (.inl rfl)) (@fz _ _ _ _ _ (@tK _ _ 8 _ _ _ _ cZ.nd rfl sj (@m8 _ _ _ _ _ _ _ _ _ _ _ lV hr qD (@cg _ _ _ _ _ (@eu _ 5 _ _ rfl eU af ag) (@ff _) (ef rfl)) (by decide) ss (ef rfl) mj) (tM rfl) (.inl rfl)) (@fz _ _ _ _ _ (@tL _ _ _ _ _ _ _ _ (@qq _ _ _ _ _ _ _ _ (@tT _) (@tQ _ _ _ _ _ _ _ _ (@ux _) (@eu _ 4 _ _ rfl jX aF aG) (@eH _ _ _ _)) (@eH _ _ _ _) (r8 _)) (@ki _ _ _ (@tK _ _ 8 _ _ _ _ cZ.nd rfl sj (@m8 _ _ _ _ _ _ _ _ _ _ _ cE hr oq (@cg _ _ _ _ _ (@eu _ 5 _ _ rfl eU af ag) (@ff _) (ef rfl)) (by decide) cV (ef rfl) mj) (tM rfl) (.inl rfl))) (@tF _)) (@fz _ _ _ _ _ (@tK _ _ 9 _ _ _ _ cZ.nd rfl sY (@u6 _ _ _ _ _ _ _ _ _ xP im M.m_list zq (@cg _ _ _ _ _ (@eu _ 2 _ _ rfl dg aa ae) (@ff _) (ef rfl)) oE oC (ef rfl) mj) (tM rfl) (.inl rfl)) (@fz _ _ _ _ _ (@tK _ _ 10 _ _ _ _ cZ.nd rfl sL (@vn _ _ _ _ _ _ _ _ _ _ _ _ _ _ (@eu _ 8 _ _ rfl si gY gZ) D_reason hr (@cg _ _ _ _ _ (@eu _ 9 _ _ rfl sr eO eP) (@cg _ _ _ _ _ (@eu _ 6 _ _ rfl iq ah ai) (@ff _) (ef rfl)) (ef rfl)) (by decide) (ef rfl) (ia rfl mj) (by rfl)) (tM rfl) (.inl rfl)) (@fz _ _ _ _ _ (@tL _ _ _ _ _ _ _ _ (@PW.pt _ _ _ (@uF _ _ _ _ _ _ _ (@qq _ _ _ _ _ _ _ _ (@vh _) (@m8 _ _ _ _ _ _ _ _ _ _ _ cS hr iS (@cg _ _ _ _ _ (@eu _ 5 _ _ rfl eU af ag) (@cg _ _ _ _ _ (@eu _ 2 _ _ rfl dg aa ae) (@cg _ _ _ _ _ (@eu _ 6 _ _ rfl iq ah ai) (@cg _ _ _ _ _ (@eu _ 10 _ _ rfl mX ak al) (@ff _) (ef rfl)) (ef rfl)) (ef rfl)) (ef rfl)) (by decide) dR (ef rfl) (ia rfl (ia rfl (ia rfl mj)))) (@eu _ 7 _ _ rfl pe cN cO) (r8 _)) (@uF _ _ _ _ _ _ _ (@uz _ _ _ _ (@ua _ _ _ (@tH _ _ _ _ _ _ _ _ _ uH m6 M.m_isinstance uc (@cg _ _ _ _ _ (@eu _ 10 _ _ rfl mX ak al) (@cg _ _ _ _ _ (@uK _ _ (.ty "tuple") _ _ mI M.m_tuple vS rfl fE fD) (@ff _) (ef rfl)) (ef rfl)) aW aV (ef rfl) (ia rfl mj)) (um rfl))) (@uU _ _ _ _ (@qq _ _ _ _ _ _ _ _ (@Gq _ (Nat.lt_of_succ_lt (Fj hr))) (@eu _ 9 _ _ rfl sr eO eP) (@eu _ 2 _ _ rfl dg aa ae) (r8 _)))))) (@ki _ _ _ (@nt _ _ _ _ (@uA _ _ _ _))) (@tF _)) (@fz _ _ _ _ _ (@tL _ _ _ _ _ _ _ _ (@uz _ _ _ _ (@ua _ _ _ (@m8 _ _ _ _ _ _ _ _ _ _ _ ip hr jh (@cg _ _ _ _ _ (@eu _ 5 _ _ rfl eU af ag) (@cg _ _ _ _ _ (@eu _ 2 _ _ rfl dg aa ae) (@cg _ _ _ _ _ (@eu _ 6 _ _ rfl iq ah ai) (@cg _ _ _ _ _ (@eu _ 10 _ _ rfl mX ak al) (@cg _ _ _ _ _ (@eu _ 7 _ _ rfl pe cN cO) (@ff _) (ef rfl)) (ef rfl)) (ef rfl)) (ef rfl)) (ef rfl)) (by decide) lC (ef rfl) (ia rfl (ia rfl (ia rfl (ia rfl mj))))) (um rfl))) (@ki _ _ _ (@nt _ _ _ _ (@uA _ _ _ _))) (@tF _)) (@fz _ _ _ _ _ (@tL _ _ _ _ _ _ _ _ (@uz _ _ _ _ (@ua _ _ _ (@m8 _ _ _ _ _ _ _ _ _ _ _ ip hr jh (@cg _ _ _ _ _ (@eu _ 5 _ _ rfl eU af ag) (@cg _ _ _ _ _ (@eu _ 2 _ _ rfl dg aa ae) (@cg _ _ _ _ _ (@eu _ 6 _ _ rfl iq ah ai) (@cg _ _ _ _ _ (@m8 _ _ _ _ _ _ _ _ _ _ _ dI hr mq (@cg _ _ _ _ _ (@eu _ 5 _ _ rfl eU af ag) (@cg _ _ _ _ _ (@eu _ 2 _ _ rfl dg aa ae) (@cg _ _ _ _ _ (@eu _ 6 _ _ rfl iq ah ai) (@ff _) (ef rfl)) (ef rfl)) (ef rfl)) (by decide) gq (ef rfl) (ia rfl (ia rfl mj))) (@cg _ _ _ _ _ (@eu _ 7 _ _ rfl pe cN cO) (@ff _) (ef rfl)) (ef rfl)) (ef rfl)) (ef rfl)) (ef rfl)) (by decide) lC (ef rfl) (ia rfl (ia rfl (ia rfl (ia rfl mj))))) (um rfl))) (@ki _ _ _ (@nt _ _ _ _ (@uA _ _ _ _))) (@tF _)) (@fz _ _ _ _ _ (@tK _ _ 11 _ _ _ _ cZ.nd rfl sM (@m8 _ _ _ _ _ _ _ _ _ _ _ io hr jg (@cg _ _ _ _ _ (@tQ _ _ _ _ _ _ _ _ (@uZ _) (@eu _ 4 _ _ rfl jX aF aG) (@eH _ _ _ _)) (@cg _ _ _ _ _ (@tH _ _ _ _ _ _ _ _ _ tO lU M.m_len uo (@cg _ _ _ _ _ (@eu _ 2 _ _ rfl dg aa ae) (@ff _) (ef rfl)) bg bf (ef rfl) mj) (@ff _) (ef rfl)) (ef rfl)) (by decide) lB (ef rfl) (ia rfl mj)) (tM rfl) (.inl rfl)) (@fz _ _ _ _ _ (@tK _ _ 12 _ _ _ _ cZ.nd rfl sN (zG rfl im M.m_list jY m_reversed (@cg _ _ _ _ _ (@eu _ 2 _ _ rfl dg aa ae) (@ff _) (ef rfl))) (tM rfl) (.inl rfl)) (@fz _ _ _ _ _ (@tK _ _ 13 _ _ _ _ cZ.nd rfl sO (@u6 _ _ _ _ _ _ _ _ _ yH mI M.m_tuple vS (@cg _ _ _ _ _ (zG rfl im M.m_list jY m_reversed (@cg _ _ _ _ _ (@eu _ 11 _ _ rfl rG ck cm) (@ff _) (ef rfl))) (@ff _) (ef rfl)) fE fD (ef rfl) mj) (tM rfl) (.inl rfl)) (@ki _ _ _ (@tL _ _ _ _ _ _ _ _ (@qq _ _ _ _ _ _ _ _ (@vh _) (@m8 _ _ _ _ _ _ _ _ _ _ _ cS hr iS (@cg _ _ _ _ _ (@eu _ 5 _ _ rfl eU af ag) (@cg _ _ _ _ _ (@eu _ 12 _ _ rfl rH jE jF) (@cg _ _ _ _ _ (@eu _ 13 _ _ rfl rJ lz lA) (@cg _ _ _ _ _ (@vn _ _ _ _ _ _ _ _ _ _ _ _ _ _ (@eu _ 8 _ _ rfl si gY gZ) D_reason hr (@cg _ _ _ _ _ (@u6 _ _ _ _ _ _ _ _ _ xP im M.m_list zq (@cg _ _ _ _ _ (@eu _ 12 _ _ rfl rH jE jF) (@ff _) (ef rfl)) oE oC (ef rfl) mj) (@cg _ _ _ _ _ (@eu _ 13 _ _ rfl rJ lz lA) (@ff _) (ef rfl)) (ef rfl)) (by decide) (ef rfl) (ia rfl mj) (by rfl)) (@ff _) (ef rfl)) (ef rfl)) (ef rfl)) (ef rfl)) (by decide) dR (ef rfl) (ia rfl (ia rfl (ia rfl mj)))) (@m8 _ _ _ _ _ _ _ _ _ _ _ bK hr ie (@cg _ _ _ _ _ (@eu _ 5 _ _ rfl eU af ag) (@cg _ _ _ _ _ (@eu _ 2 _ _ rfl dg aa ae) (@cg _ _ _ _ _ (@eu _ 11 _ _ rfl rG ck cm) (@ff _) (ef rfl)) (ef rfl)) (ef rfl)) (by decide) bY (ef rfl) (ia rfl (ia rfl mj))) (r8 _)) (@ki _ _ _ (@nt _ _ _ _ (@uA _ _ _ _))) (@tF _))))))))))))))))) (by intro _; rfl)) (@ki _ _ _ (@nt _ _ _ _ (@uA _ _ _ _)))))), ?_⟩
  trivial
  refine yk hS hl (by decide) (by decide) ⟨_, rfl, (Mth.cell_in _ _).1, fun wl H1 ws S1 nw LW lw nmw dw => ?_⟩
  refine yk (S1.seq hS) hl (by decide) (by decide) ⟨_, wl, ws, rfl, (Mth.cell_in _ _).1, LW, lw, nmw, dw, fun kl kx ks H4 S2 nk LK TK k1 k4 okk dk => ?_⟩
  have S04 : Same H H4 := S1.trans S2
  have hS4 := S04.seq hS
  refine ⟨_, .inl hS4, by decide, by decide, ?_⟩
  obtain ⟨m, hm, m5, m26⟩ : ∃ m : Int, (if (if (26 : Int) < ((ns.map V.int).length : Int) then 26 else ((ns.map V.int).length : Int)) > 5 then if (26 : Int) < ((ns.map V.int).length : Int) then 26 else ((ns.map V.int).length : Int) else 5) = m ∧ 5 ≤ m ∧ m ≤ 26 := by
    refine ⟨_, rfl, ?_, ?_⟩ <;> repeat (first | omega | split)
  rw [hm]
  clear hm
  refine ⟨by omega, by omega, ?_⟩
  have KA : KnA K H4 kx ks := TpD.kna TK
  replace LW := S2 _ _ LW
  have q' := q
  have lx := KA.length
  clear S1 S2 S04 hS q TK
  obtain ⟨Pv, hP⟩ : ∃ Pv : Nat → St → Hp → Prop, Pv = fun _ σ H' => ∃ o3 o4 o5 o6 o7 o8 o9 o10 o11 o12 o13 : Option V, σ = [some (V.ref a), some (.ref wl), some (.ref kl), o3, o4, o5, o6, o7, o8, o9, o10, o11, o12, o13] ∧ Same H4 H' := ⟨_, rfl⟩
  refine vM Pv ?_ ?_ ?_
  · rw [hP]
    exact ⟨_, _, _, _, _, _, _, _, _, _, _, rfl, Same.refl _⟩
  · intro i σ H' hi h
    rw [hP] at h
    obtain ⟨o3, o4, o5, o6, o7, o8, o9, o10, o11, o12, o13, rfl, S5⟩ := h
    trivial
    refine yk (S5.seq hS4) hl (by omega) (by omega) ?_
    obtain ⟨c, hc⟩ : ∃ c, Mth.cell ns (2 + (i : Int)) = c := ⟨_, rfl⟩
    rw [hc]
    clear hc
    refine ⟨by decide, c, 9, 8, rfl, by decide, by decide, by decide, ?_⟩
    have i8 := wk c 9 (show (0 : Int) < 8 by decide)
    obtain ⟨j, hj⟩ : ∃ j : Int, vL c 9 8 = j := ⟨_, rfl⟩
    rw [hj] at i8 ⊢
    clear hj
    obtain ⟨d, hd, d1, d5⟩ : ∃ d : Nat, ([V.int 3, V.int 2, V.int 3, V.int 5, V.int 3, V.int 2, V.int 3, V.int 3] : List V)[j.toNat]? = some (.int (d : Int)) ∧ 1 ≤ d ∧ d ≤ 5 := by
      have : j = 0 ∨ j = 1 ∨ j = 2 ∨ j = 3 ∨ j = 4 ∨ j = 5 ∨ j = 6 ∨ j = 7 := by omega
      rcases this with e | e | e | e | e | e | e | e <;> subst e
      · exact ⟨3, rfl, by decide, by decide⟩
      · exact ⟨2, rfl, by decide, by decide⟩
      · exact ⟨3, rfl, by decide, by decide⟩
      · exact ⟨5, rfl, by decide, by decide⟩
      · exact ⟨3, rfl, by decide, by decide⟩
      · exact ⟨2, rfl, by decide, by decide⟩
      · exact ⟨3, rfl, by decide, by decide⟩
      · exact ⟨3, rfl, by decide, by decide⟩
    refine ⟨j, rfl, i8.1, _, hd, d, d5, c, kl, wl, kx, ks, ws, rfl, d1, S5 _ _ LK, KA.same S5, k1, k4, okk, S5 _ _ LW, lw, nmw, fun pm J1 nm S6 Rm okm dpm => ?_⟩
    have d5' : nm.dp ≤ 5 := Nat.le_trans dpm d5
    have S56 := S5.trans S6
    refine ⟨c, rfl, cdiv (by decide) (by decide), kx, .inl (SqL.of (S56 _ _ LK)), _, ks.length, by rw [lx], k1, k4, fun lp lk J2 S7 TL ll nn => ?_⟩
    have gr : Ground K J2 kl lp ks lk := ⟨⟨kx, SqL.of (S7 _ _ (S56 _ _ LK)), KA.same (S56.trans S7)⟩, TL, ll, k1, k4, okk, nn⟩
    refine ⟨pm, kl, lp, nm, ks, lk, rfl, Rm.same S7, okm, d5', gr, fun J3 S8 => ?_⟩
    refine ⟨pm, nm, rfl, Rm.same (S7.trans S8), okm, d5', fun ar J4 S9 Or => ?_⟩
    have LK2 := S7 _ _ (S56 _ _ LK)
    have KA2 := KA.same (S56.trans S7)
    have Rm2 := Rm.same S7
    refine ⟨c, rfl, by decide, ?_⟩
    by_cases h2 : c % 2 = 1
    · rw [if_pos h2]
      refine ⟨pm, nm, rfl, Rm2.same (S8.trans S9), d5', fun am J5 S10 O5 => ?_⟩
      have B := S8.trans (S9.trans S10)
      refine ⟨kx, SqL.of (B _ _ LK2), fun l hl1 => ?_⟩
      have V1 := p5 hl1 (.lst kx)
      have B1 := B.trans V1
      refine ⟨am, rfl, uV (ObjN.same V1 O5) okm d5' (kl := l) (lt := lp) ⟨⟨kx, SqL.of ic, KA2.same B1⟩, Same.tup B1 TL, ll, k1, k4, okk, nn⟩ fun pr J6 b r W6 Rr hrd => ?_⟩
      have B6 := B1.trans W6
      refine ⟨pm, kl, lp, _, nm, ks, lk, _, rfl, Rm2.same B6, okm, d5', gr.same B6, Rr, fun J7 W7 => ?_⟩
      have e1 := vv ll hrd
      dsimp only
      rw [e1]
      have B7 := B6.trans W7
      refine ⟨rfl, ?_⟩
      rw [if_pos rfl]
      refine ⟨_, v7 (Rr.same W7), ?_⟩
      rw [if_neg (by show ¬ true = false; decide)]
      refine ⟨_, _, rfl, rfl, .inl ⟨kx, .inl ⟨SqL.of ((W6.trans W7) _ _ ic), SqL.of (B7 _ _ LK2)⟩, CD KA, _, rfl, ?_⟩⟩
      rw [if_neg (by decide)]
      refine ⟨pm, kl, lp, _, nm, ks, lk, _, _, rfl, Rm2.same B7, okm, d5', gr.same B7, Rr.same W7, e1, fun J8 W8 => ⟨_, rfl, ?_⟩⟩
      rw [if_neg (by decide)]
      have B8 := B7.trans W8
      refine ⟨pm, kl, lp, nm, ks, lk, rfl, Rm2.same B8, okm, d5', gr.same B8, fun p9 J9 b9 r9 W9 R9 h9 _ => ?_⟩
      have B9 := B8.trans W9
      refine ⟨pm, kl, lp, _, nm, ks, lk, _, _, rfl, Rm2.same B9, okm, d5', gr.same B9, R9, vv ll h9, fun J10 W10 => ⟨_, rfl, ?_⟩⟩
      rw [if_neg (by decide)]
      have B10 := B9.trans W10
      refine ⟨c, rfl, cdiv (by decide) (by decide), kx, .inl (SqL.of (B10 _ _ LK2)), _, ks.length, by rw [lx], k1, k4, fun lo lk2 J11 W11 TL2 ll2 nn2 => ?_⟩
      have B11 := B10.trans W11
      refine ⟨kx, .inl (SqL.of (B11 _ _ LK2)), fun l1 hl2 => ?_⟩
      have V2 := p5 hl2 (.lst kx.reverse)
      refine ⟨lo, rfl, lk2.map V.int, .inr (Same.tup V2 TL2), fun l2 hl3 => ?_⟩
      have V3 := p5 hl3 (.lst (lk2.map V.int).reverse)
      refine ⟨_, SqL.of ic, fun l3 hl4 => ?_⟩
      have V4 := p5 hl4 (.tup (lk2.map V.int).reverse)
      obtain ⟨J14, hJ⟩ : ∃ J14, J14 = upd (upd (upd J11 l1 (.lst kx.reverse)) l2 (.lst (lk2.map V.int).reverse)) l3 (.tup (lk2.map V.int).reverse) := ⟨_, rfl⟩
      have T14 : SqT K J14 l3 (lk2.reverse.map V.int) := by rw [hJ, List.map_reverse]; exact SqT.of ic
      have L14 : J14 l1 = some (.lst kx.reverse) := by rw [hJ]; exact V4 _ _ (V3 _ _ ic)
      have Y14 : Same J11 J14 := by rw [hJ]; exact V2.trans (V3.trans V4)
      rw [← hJ]
      clear hJ V2 V3 V4 hl2 hl3 hl4
      have X14 := V1.trans (W6.trans (W7.trans (W8.trans (W9.trans (W10.trans (W11.trans Y14))))))
      have B14 := B.trans X14
      have O14 := ObjN.same X14 O5
      obtain ⟨C, dx, fs, c1, c2, c3⟩ := zz (d := 5) O14
      refine ⟨am, rfl, C, dx, fs, c1, c2, _, c3, _, SqL.of L14, fun l4 hl5 => ?_⟩
      have V5 := p5 hl5 (.lst kx.reverse)
      have rl : lk2.reverse.length = ks.reverse.length := by rw [List.length_reverse, List.length_reverse]; exact ll2
      have r1 : 1 ≤ ks.reverse.length := by rw [List.length_reverse]; exact k1
      have r4 : ks.reverse.length ≤ 4 := by rw [List.length_reverse]; exact k4
      refine ⟨am, l4, l3, nm, ks.reverse, lk2.reverse, rfl, rfl, ObjN.same V5 O14, okm, d5', ⟨⟨kx.reverse, SqL.of ic, KnA.rev (KA2.same (B14.trans V5))⟩, Same.tup V5 T14, rl, r1, r4, fun k hk => okk k (List.mem_reverse.mp hk), fun y hy => nn2 y (List.mem_reverse.mp hy)⟩, fun pq J16 b6 r6 W16 R16 h16 => ?_⟩
      have B16 := B14.trans (V5.trans W16)
      refine ⟨pm, l1, l3, _, nm, ks.reverse, lk2.reverse, _, rfl, Rm2.same B16, okm, d5', ⟨⟨kx.reverse, SqL.of ((V5.trans W16) _ _ L14), KnA.rev (KA2.same B16)⟩, Same.tup (V5.trans W16) T14, rl, r1, r4, fun k hk => okk k (List.mem_reverse.mp hk), fun y hy => nn2 y (List.mem_reverse.mp hy)⟩, R16, fun J17 W17 => ?_⟩
      have B17 := B16.trans W17
      refine ⟨pm, kl, lo, nm, ks, lk2, rfl, Rm2.same B17, okm, d5', ⟨⟨kx, SqL.of (B17 _ _ LK2), KA2.same B17⟩, Same.tup (Y14.trans (V5.trans (W16.trans W17))) TL2, ll2, k1, k4, okk, nn2⟩, fun J18 W18 => ?_⟩
      have e2 := vv rl h16
      rw [uW ll2 dk] at e2
      dsimp only
      rw [e2]
      refine ⟨rfl, ?_⟩
      rw [if_pos rfl, hP]
      exact ⟨_, _, _, _, _, _, _, _, _, _, _, rfl, S56.trans (S7.trans (B17.trans W18))⟩
    · rw [if_neg h2]
      have O5 := Or
      have B := S8.trans S9
      refine ⟨kx, SqL.of (B _ _ LK2), fun l hl1 => ?_⟩
      have V1 := p5 hl1 (.lst kx)
      have B1 := B.trans V1
      refine ⟨ar, rfl, uV (ObjN.same V1 O5) okm d5' (kl := l) (lt := lp) ⟨⟨kx, SqL.of ic, KA2.same B1⟩, Same.tup B1 TL, ll, k1, k4, okk, nn⟩ fun pr J6 b r W6 Rr hrd => ?_⟩
      have B6 := B1.trans W6
      refine ⟨pm, kl, lp, _, nm, ks, lk, _, rfl, Rm2.same B6, okm, d5', gr.same B6, Rr, fun J7 W7 => ?_⟩
      have e1 := vv ll hrd
      dsimp only
      rw [e1]
      have B7 := B6.trans W7
      refine ⟨rfl, ?_⟩
      rw [if_pos rfl]
      refine ⟨_, v7 (Rr.same W7), ?_⟩
      rw [if_neg (by show ¬ true = false; decide)]
      refine ⟨_, _, rfl, rfl, .inl ⟨kx, .inl ⟨SqL.of ((W6.trans W7) _ _ ic), SqL.of (B7 _ _ LK2)⟩, CD KA, _, rfl, ?_⟩⟩
      rw [if_neg (by decide)]
      refine ⟨pm, kl, lp, _, nm, ks, lk, _, _, rfl, Rm2.same B7, okm, d5', gr.same B7, Rr.same W7, e1, fun J8 W8 => ⟨_, rfl, ?_⟩⟩
      rw [if_neg (by decide)]
      have B8 := B7.trans W8
      refine ⟨pm, kl, lp, nm, ks, lk, rfl, Rm2.same B8, okm, d5', gr.same B8, fun p9 J9 b9 r9 W9 R9 h9 _ => ?_⟩
      have B9 := B8.trans W9
      refine ⟨pm, kl, lp, _, nm, ks, lk, _, _, rfl, Rm2.same B9, okm, d5', gr.same B9, R9, vv ll h9, fun J10 W10 => ⟨_, rfl, ?_⟩⟩
      rw [if_neg (by decide)]
      have B10 := B9.trans W10
      refine ⟨c, rfl, cdiv (by decide) (by decide), kx, .inl (SqL.of (B10 _ _ LK2)), _, ks.length, by rw [lx], k1, k4, fun lo lk2 J11 W11 TL2 ll2 nn2 => ?_⟩
      have B11 := B10.trans W11
      refine ⟨kx, .inl (SqL.of (B11 _ _ LK2)), fun l1 hl2 => ?_⟩
      have V2 := p5 hl2 (.lst kx.reverse)
      refine ⟨lo, rfl, lk2.map V.int, .inr (Same.tup V2 TL2), fun l2 hl3 => ?_⟩
      have V3 := p5 hl3 (.lst (lk2.map V.int).reverse)
      refine ⟨_, SqL.of ic, fun l3 hl4 => ?_⟩
      have V4 := p5 hl4 (.tup (lk2.map V.int).reverse)
      obtain ⟨J14, hJ⟩ : ∃ J14, J14 = upd (upd (upd J11 l1 (.lst kx.reverse)) l2 (.lst (lk2.map V.int).reverse)) l3 (.tup (lk2.map V.int).reverse) := ⟨_, rfl⟩
      have T14 : SqT K J14 l3 (lk2.reverse.map V.int) := by rw [hJ, List.map_reverse]; exact SqT.of ic
      have L14 : J14 l1 = some (.lst kx.reverse) := by rw [hJ]; exact V4 _ _ (V3 _ _ ic)
      have Y14 : Same J11 J14 := by rw [hJ]; exact V2.trans (V3.trans V4)
      rw [← hJ]
      clear hJ V2 V3 V4 hl2 hl3 hl4
      have X14 := V1.trans (W6.trans (W7.trans (W8.trans (W9.trans (W10.trans (W11.trans Y14))))))
      have B14 := B.trans X14
      have O14 := ObjN.same X14 O5
      obtain ⟨C, dx, fs, c1, c2, c3⟩ := zz (d := 5) O14
      refine ⟨ar, rfl, C, dx, fs, c1, c2, _, c3, _, SqL.of L14, fun l4 hl5 => ?_⟩
      have V5 := p5 hl5 (.lst kx.reverse)
      have rl : lk2.reverse.length = ks.reverse.length := by rw [List.length_reverse, List.length_reverse]; exact ll2
      have r1 : 1 ≤ ks.reverse.length := by rw [List.length_reverse]; exact k1
      have r4 : ks.reverse.length ≤ 4 := by rw [List.length_reverse]; exact k4
      refine ⟨ar, l4, l3, nm, ks.reverse, lk2.reverse, rfl, rfl, ObjN.same V5 O14, okm, d5', ⟨⟨kx.reverse, SqL.of ic, KnA.rev (KA2.same (B14.trans V5))⟩, Same.tup V5 T14, rl, r1, r4, fun k hk => okk k (List.mem_reverse.mp hk), fun y hy => nn2 y (List.mem_reverse.mp hy)⟩, fun pq J16 b6 r6 W16 R16 h16 => ?_⟩
      have B16 := B14.trans (V5.trans W16)
      refine ⟨pm, l1, l3, _, nm, ks.reverse, lk2.reverse, _, rfl, Rm2.same B16, okm, d5', ⟨⟨kx.reverse, SqL.of ((V5.trans W16) _ _ L14), KnA.rev (KA2.same B16)⟩, Same.tup (V5.trans W16) T14, rl, r1, r4, fun k hk => okk k (List.mem_reverse.mp hk), fun y hy => nn2 y (List.mem_reverse.mp hy)⟩, R16, fun J17 W17 => ?_⟩
      have B17 := B16.trans W17
      refine ⟨pm, kl, lo, nm, ks, lk2, rfl, Rm2.same B17, okm, d5', ⟨⟨kx, SqL.of (B17 _ _ LK2), KA2.same B17⟩, Same.tup (Y14.trans (V5.trans (W16.trans W17))) TL2, ll2, k1, k4, okk, nn2⟩, fun J18 W18 => ?_⟩
      have e2 := vv rl h16
      rw [uW ll2 dk] at e2
      dsimp only
      rw [e2]
      refine ⟨rfl, ?_⟩
      rw [if_pos rfl, hP]
      exact ⟨_, _, _, _, _, _, _, _, _, _, _, rfl, S56.trans (S7.trans (B17.trans W18))⟩
  · intro σ H' h
    exact q' _
end

theorem all_mk {l : PySem.W.OpenLaw} {w : World} {K : PySem.W.Frag} {h : Heap} {mg : Str → Option Value} {fa f1 f2 f3 f4 f5 f6 f7 f8 f9 f10 f11 f12 f13 f14 f15 f16 f17 f18 f19 f20 f21 f22 f23 f24 f25 f26 f27 f28 f29 f30 f31 f32 f33 f34 f35 f36 f37 f38 f39 f40 f41 f42 f43 f44 f45 f46 f47 f48 f49 f50 f51 f52 f53 f54 : Addr} (X : K.In h) (G : h.Ns mainGlobals mg) (hfa : mg "law" = some (.ref fa))
    {c_Note c_OfTwo c_Anything c_Made c_Used c_Chief c_Over c_Both c_Either c_But c_OF_BOTH : Addr}
    {dd1 dd2 dd3 : Addr} {tk1 tk2 tk3 : Tok} {ep tn1 tn2 tn3 : Nat} {to1 to2 to3 : Option Addr} {ts1 ts2 ts3 : Array (Option Value)}
    {od1 an1 od2 an2 od3 an3 od4 an4 od5 an5 od6 an6 od7 an7 od8 an8 od9 an9 od10 an10 od11 an11 od12 an12 od13 an13 od14 an14 od15 an15 od16 an16 od17 an17 od18 an18 od19 an19 od20 an20 od21 an21 od22 an22 od23 an23 od24 an24 od25 an25 od26 an26 od27 an27 od28 an28 od29 an29 od30 an30 od31 an31 od32 an32 od33 an33 od34 an34 od35 an35 od36 an36 od37 an37 od38 an38 od39 an39 od40 an40 od41 an41 od42 an42 od43 an43 od44 an44 od45 an45 od46 an46 od47 an47 od48 an48 od49 an49 od50 an50 od51 an51 od52 an52 od53 an53 od54 an54 : Option Addr} {sl1 sl2 sl3 sl4 sl5 sl6 sl7 sl8 sl9 sl10 sl11 sl12 sl13 sl14 sl15 sl16 sl17 sl18 sl19 sl20 sl21 sl22 sl23 sl24 sl25 sl26 sl27 sl28 sl29 sl30 sl31 sl32 sl33 sl34 sl35 sl36 sl37 sl38 sl39 sl40 sl41 sl42 sl43 sl44 sl45 sl46 sl47 sl48 sl49 sl50 sl51 sl52 sl53 sl54 : Array (Option Value)} {oc1 kV1 dc1 pm1 cd1 ct1 oc2 kV2 dc2 pm2 cd2 ct2 oc3 kV3 dc3 pm3 cd3 ct3 oc4 kV4 dc4 pm4 cd4 ct4 oc5 kV5 dc5 pm5 cd5 ct5 oc6 kV6 dc6 pm6 cd6 ct6 oc7 kV7 dc7 pm7 cd7 ct7 oc8 kV8 dc8 pm8 cd8 ct8 oc9 kV9 dc9 pm9 cd9 ct9 oc10 kV10 dc10 pm10 cd10 ct10 oc11 kV11 dc11 pm11 cd11 ct11 oc12 kV12 dc12 pm12 cd12 ct12 oc13 kV13 dc13 pm13 cd13 ct13 oc14 kV14 dc14 pm14 cd14 ct14 oc15 kV15 dc15 pm15 cd15 ct15 oc16 kV16 dc16 pm16 cd16 ct16 oc17 kV17 dc17 pm17 cd17 ct17 oc18 kV18 dc18 pm18 cd18 ct18 oc19 kV19 dc19 pm19 cd19 ct19 oc20 kV20 dc20 pm20 cd20 ct20 oc21 kV21 dc21 pm21 cd21 ct21 oc22 kV22 dc22 pm22 cd22 ct22 oc23 kV23 dc23 pm23 cd23 ct23 oc24 kV24 dc24 pm24 cd24 ct24 oc25 kV25 dc25 pm25 cd25 ct25 oc26 kV26 dc26 pm26 cd26 ct26 oc27 kV27 dc27 pm27 cd27 ct27 oc28 kV28 dc28 pm28 cd28 ct28 oc29 kV29 dc29 pm29 cd29 ct29 oc30 kV30 dc30 pm30 cd30 ct30 oc31 kV31 dc31 pm31 cd31 ct31 oc32 kV32 dc32 pm32 cd32 ct32 oc33 kV33 dc33 pm33 cd33 ct33 oc34 kV34 dc34 pm34 cd34 ct34 oc35 kV35 dc35 pm35 cd35 ct35 oc36 kV36 dc36 pm36 cd36 ct36 oc37 kV37 dc37 pm37 cd37 ct37 oc38 kV38 dc38 pm38 cd38 ct38 oc39 kV39 dc39 pm39 cd39 ct39 oc40 kV40 dc40 pm40 cd40 ct40 oc41 kV41 dc41 pm41 cd41 ct41 oc42 kV42 dc42 pm42 cd42 ct42 oc43 kV43 dc43 pm43 cd43 ct43 oc44 kV44 dc44 pm44 cd44 ct44 oc45 kV45 dc45 pm45 cd45 ct45 oc46 kV46 dc46 pm46 cd46 ct46 oc47 kV47 dc47 pm47 cd47 ct47 oc48 kV48 dc48 pm48 cd48 ct48 oc49 kV49 dc49 pm49 cd49 ct49 oc50 kV50 dc50 pm50 cd50 ct50 oc51 kV51 dc51 pm51 cd51 ct51 oc52 kV52 dc52 pm52 cd52 ct52 oc53 kV53 dc53 pm53 cd53 ct53 oc54 kV54 dc54 pm54 cd54 ct54 : Value}
    (n_Note : PySem.W.nsIn K mainGlobals "Note" = some (some (.ref c_Note)))
    (n_OfTwo : PySem.W.nsIn K mainGlobals "OfTwo" = some (some (.ref c_OfTwo)))
    (n_Anything : PySem.W.nsIn K mainGlobals "Anything" = some (some (.ref c_Anything)))
    (n_Made : PySem.W.nsIn K mainGlobals "Made" = some (some (.ref c_Made)))
    (n_Used : PySem.W.nsIn K mainGlobals "Used" = some (some (.ref c_Used)))
    (n_Chief : PySem.W.nsIn K mainGlobals "Chief" = some (some (.ref c_Chief)))
    (n_Over : PySem.W.nsIn K mainGlobals "Over" = some (some (.ref c_Over)))
    (n_Both : PySem.W.nsIn K mainGlobals "Both" = some (some (.ref c_Both)))
    (n_Either : PySem.W.nsIn K mainGlobals "Either" = some (some (.ref c_Either)))
    (n_But : PySem.W.nsIn K mainGlobals "But" = some (some (.ref c_But)))
    (n_OF_BOTH : PySem.W.nsIn K mainGlobals "OF_BOTH" = some (some (.ref c_OF_BOTH)))
    (a1 : PySem.W.nsIn K mainGlobals "is_name" = some (some (.ref f1))) (l1 : K.lookup f1 = some ⟨oc1, od1, .func (PySem.W.fnOf "is_name" "is_name" (defArgs cF) (defBody cF) (defScope cF) .none kV1 dc1 pm1 an1 cd1 ct1), sl1⟩) (c1 : PySem.W.codeIn K cd1 "is_name" = true) (k1 : PySem.W.keepIn K (.ref f1) = true)
    (a2 : PySem.W.nsIn K mainGlobals "is_kind" = some (some (.ref f2))) (l2 : K.lookup f2 = some ⟨oc2, od2, .func (PySem.W.fnOf "is_kind" "is_kind" (defArgs cG) (defBody cG) (defScope cG) .none kV2 dc2 pm2 an2 cd2 ct2), sl2⟩) (c2 : PySem.W.codeIn K cd2 "is_kind" = true) (k2 : PySem.W.keepIn K (.ref f2) = true)
    (a3 : PySem.W.nsIn K mainGlobals "_law_cell" = some (some (.ref f3))) (l3 : K.lookup f3 = some ⟨oc3, od3, .func (PySem.W.fnOf "_law_cell" "_law_cell" (defArgs cc) (defBody cc) (defScope cc) .none kV3 dc3 pm3 an3 cd3 ct3), sl3⟩) (c3 : PySem.W.codeIn K cd3 "_law_cell" = true) (k3 : PySem.W.keepIn K (.ref f3) = true)
    (a4 : PySem.W.nsIn K mainGlobals "_law_mix" = some (some (.ref f4))) (l4 : K.lookup f4 = some ⟨oc4, od4, .func (PySem.W.fnOf "_law_mix" "_law_mix" (defArgs cP) (defBody cP) (defScope cP) .none kV4 dc4 pm4 an4 cd4 ct4), sl4⟩) (c4 : PySem.W.codeIn K cd4 "_law_mix" = true) (k4 : PySem.W.keepIn K (.ref f4) = true)
    (a5 : PySem.W.nsIn K mainGlobals "_law_words" = some (some (.ref f5))) (l5 : K.lookup f5 = some ⟨oc5, od5, .func (PySem.W.fnOf "_law_words" "_law_words" (defArgs ax) (defBody ax) (defScope ax) .none kV5 dc5 pm5 an5 cd5 ct5), sl5⟩) (c5 : PySem.W.codeIn K cd5 "_law_words" = true) (k5 : PySem.W.keepIn K (.ref f5) = true)
    (a6 : PySem.W.nsIn K mainGlobals "_law_kinds" = some (some (.ref f6))) (l6 : K.lookup f6 = some ⟨oc6, od6, .func (PySem.W.fnOf "_law_kinds" "_law_kinds" (defArgs aE) (defBody aE) (defScope aE) .none kV6 dc6 pm6 an6 cd6 ct6), sl6⟩) (c6 : PySem.W.codeIn K cd6 "_law_kinds" = true) (k6 : PySem.W.keepIn K (.ref f6) = true)
    (a7 : PySem.W.nsIn K mainGlobals "_law_plain" = some (some (.ref f7))) (l7 : K.lookup f7 = some ⟨oc7, od7, .func (PySem.W.fnOf "_law_plain" "_law_plain" (defArgs aN) (defBody aN) (defScope aN) .none kV7 dc7 pm7 an7 cd7 ct7), sl7⟩) (c7 : PySem.W.codeIn K cd7 "_law_plain" = true) (k7 : PySem.W.keepIn K (.ref f7) = true)
    (a8 : PySem.W.nsIn K mainGlobals "_law_note" = some (some (.ref f8))) (l8 : K.lookup f8 = some ⟨oc8, od8, .func (PySem.W.fnOf "_law_note" "_law_note" (defArgs bb) (defBody bb) (defScope bb) .none kV8 dc8 pm8 an8 cd8 ct8), sl8⟩) (c8 : PySem.W.codeIn K cd8 "_law_note" = true) (k8 : PySem.W.keepIn K (.ref f8) = true)
    (a9 : PySem.W.findIn K (.ref c_Made) "__init__" = some (some (.ref f9))) (l9 : K.lookup f9 = some ⟨oc9, od9, .func (PySem.W.fnOf "__init__" "Made.__init__" (defArgs cQ) (defBody cQ) (defScope cQ) .none kV9 dc9 pm9 an9 cd9 ct9), sl9⟩) (c9 : PySem.W.codeIn K cd9 "Made.__init__" = true) (k9 : PySem.W.keepIn K (.ref f9) = true)
    (t9 : PySem.W.isFn K (.ref f9) = true)
    (a10 : PySem.W.findIn K (.ref c_Used) "__init__" = some (some (.ref f10))) (l10 : K.lookup f10 = some ⟨oc10, od10, .func (PySem.W.fnOf "__init__" "Used.__init__" (defArgs cR) (defBody cR) (defScope cR) .none kV10 dc10 pm10 an10 cd10 ct10), sl10⟩) (c10 : PySem.W.codeIn K cd10 "Used.__init__" = true) (k10 : PySem.W.keepIn K (.ref f10) = true)
    (t10 : PySem.W.isFn K (.ref f10) = true)
    (a11 : PySem.W.findIn K (.ref c_Chief) "__init__" = some (some (.ref f11))) (l11 : K.lookup f11 = some ⟨oc11, od11, .func (PySem.W.fnOf "__init__" "Chief.__init__" (defArgs cH) (defBody cH) (defScope cH) .none kV11 dc11 pm11 an11 cd11 ct11), sl11⟩) (c11 : PySem.W.codeIn K cd11 "Chief.__init__" = true) (k11 : PySem.W.keepIn K (.ref f11) = true)
    (t11 : PySem.W.isFn K (.ref f11) = true)
    (a12 : PySem.W.findIn K (.ref c_Over) "__init__" = some (some (.ref f12))) (l12 : K.lookup f12 = some ⟨oc12, od12, .func (PySem.W.fnOf "__init__" "Over.__init__" (defArgs cA) (defBody cA) (defScope cA) .none kV12 dc12 pm12 an12 cd12 ct12), sl12⟩) (c12 : PySem.W.codeIn K cd12 "Over.__init__" = true) (k12 : PySem.W.keepIn K (.ref f12) = true)
    (t12 : PySem.W.isFn K (.ref f12) = true)
    (a13 : PySem.W.findIn K (.ref c_OfTwo) "__init__" = some (some (.ref f13))) (l13 : K.lookup f13 = some ⟨oc13, od13, .func (PySem.W.fnOf "__init__" "OfTwo.__init__" (defArgs ce) (defBody ce) (defScope ce) .none kV13 dc13 pm13 an13 cd13 ct13), sl13⟩) (c13 : PySem.W.codeIn K cd13 "OfTwo.__init__" = true) (k13 : PySem.W.keepIn K (.ref f13) = true)
    (t13 : PySem.W.isFn K (.ref f13) = true)
    (a14 : PySem.W.nsIn K mainGlobals "note_of_name" = some (some (.ref f14))) (l14 : K.lookup f14 = some ⟨oc14, od14, .func (PySem.W.fnOf "note_of_name" "note_of_name" (defArgs bt) (defBody bt) (defScope bt) .none kV14 dc14 pm14 an14 cd14 ct14), sl14⟩) (c14 : PySem.W.codeIn K cd14 "note_of_name" = true) (k14 : PySem.W.keepIn K (.ref f14) = true)
    (a15 : PySem.W.nsIn K mainGlobals "note_of_notes" = some (some (.ref f15))) (l15 : K.lookup f15 = some ⟨oc15, od15, .func (PySem.W.fnOf "note_of_notes" "note_of_notes" (defArgs aX) (defBody aX) (defScope aX) .none kV15 dc15 pm15 an15 cd15 ct15), sl15⟩) (c15 : PySem.W.codeIn K cd15 "note_of_notes" = true) (k15 : PySem.W.keepIn K (.ref f15) = true)
    (a16 : PySem.W.nsIn K mainGlobals "note_of_one" = some (some (.ref f16))) (l16 : K.lookup f16 = some ⟨oc16, od16, .func (PySem.W.fnOf "note_of_one" "note_of_one" (defArgs bj) (defBody bj) (defScope bj) .none kV16 dc16 pm16 an16 cd16 ct16), sl16⟩) (c16 : PySem.W.codeIn K cd16 "note_of_one" = true) (k16 : PySem.W.keepIn K (.ref f16) = true)
    (a17 : PySem.W.nsIn K mainGlobals "note_within" = some (some (.ref f17))) (l17 : K.lookup f17 = some ⟨oc17, od17, .func (PySem.W.fnOf "note_within" "note_within" (defArgs aB) (defBody aB) (defScope aB) .none kV17 dc17 pm17 an17 cd17 ct17), sl17⟩) (c17 : PySem.W.codeIn K cd17 "note_within" = true) (k17 : PySem.W.keepIn K (.ref f17) = true)
    (a18 : PySem.W.nsIn K mainGlobals "note_of" = some (some (.ref f18))) (l18 : K.lookup f18 = some ⟨oc18, od18, .func (PySem.W.fnOf "note_of" "note_of" (defArgs dJ) (defBody dJ) (defScope dJ) .none kV18 dc18 pm18 an18 cd18 ct18), sl18⟩) (c18 : PySem.W.codeIn K cd18 "note_of" = true) (k18 : PySem.W.keepIn K (.ref f18) = true)
    (a19 : PySem.W.nsIn K mainGlobals "made_places" = some (some (.ref f19))) (l19 : K.lookup f19 = some ⟨oc19, od19, .func (PySem.W.fnOf "made_places" "made_places" (defArgs cq) (defBody cq) (defScope cq) .none kV19 dc19 pm19 an19 cd19 ct19), sl19⟩) (c19 : PySem.W.codeIn K cd19 "made_places" = true) (k19 : PySem.W.keepIn K (.ref f19) = true)
    (a20 : PySem.W.nsIn K mainGlobals "used_places" = some (some (.ref f20))) (l20 : K.lookup f20 = some ⟨oc20, od20, .func (PySem.W.fnOf "used_places" "used_places" (defArgs cr) (defBody cr) (defScope cr) .none kV20 dc20 pm20 an20 cd20 ct20), sl20⟩) (c20 : PySem.W.codeIn K cd20 "used_places" = true) (k20 : PySem.W.keepIn K (.ref f20) = true)
    (a21 : PySem.W.nsIn K mainGlobals "chief_places" = some (some (.ref f21))) (l21 : K.lookup f21 = some ⟨oc21, od21, .func (PySem.W.fnOf "chief_places" "chief_places" (defArgs bu) (defBody bu) (defScope bu) .none kV21 dc21 pm21 an21 cd21 ct21), sl21⟩) (c21 : PySem.W.codeIn K cd21 "chief_places" = true) (k21 : PySem.W.keepIn K (.ref f21) = true)
    (a22 : PySem.W.nsIn K mainGlobals "number_in" = some (some (.ref f22))) (l22 : K.lookup f22 = some ⟨oc22, od22, .func (PySem.W.fnOf "number_in" "number_in" (defArgs cB) (defBody cB) (defScope cB) .none kV22 dc22 pm22 an22 cd22 ct22), sl22⟩) (c22 : PySem.W.codeIn K cd22 "number_in" = true) (k22 : PySem.W.keepIn K (.ref f22) = true)
    (a23 : PySem.W.nsIn K mainGlobals "is_over" = some (some (.ref f23))) (l23 : K.lookup f23 = some ⟨oc23, od23, .func (PySem.W.fnOf "is_over" "is_over" (defArgs cI) (defBody cI) (defScope cI) .none kV23 dc23 pm23 an23 cd23 ct23), sl23⟩) (c23 : PySem.W.codeIn K cd23 "is_over" = true) (k23 : PySem.W.keepIn K (.ref f23) = true)
    (a24 : PySem.W.nsIn K mainGlobals "place_reason" = some (some (.ref f24))) (l24 : K.lookup f24 = some ⟨oc24, od24, .func (PySem.W.fnOf "place_reason" "place_reason" (defArgs bZ) (defBody bZ) (defScope bZ) .none kV24 dc24 pm24 an24 cd24 ct24), sl24⟩) (c24 : PySem.W.codeIn K cd24 "place_reason" = true) (k24 : PySem.W.keepIn K (.ref f24) = true)
    (a25 : PySem.W.findIn K (.ref c_Anything) "reason" = some (some (.ref f25))) (l25 : K.lookup f25 = some ⟨oc25, od25, .func (PySem.W.fnOf "reason" "Anything.reason" (defArgs ci) (defBody ci) (defScope ci) .none kV25 dc25 pm25 an25 cd25 ct25), sl25⟩) (c25 : PySem.W.codeIn K cd25 "Anything.reason" = true) (k25 : PySem.W.keepIn K (.ref f25) = true)
    (t25 : PySem.W.isFn K (.ref f25) = true)
    (a26 : PySem.W.findIn K (.ref c_Made) "reason" = some (some (.ref f26))) (l26 : K.lookup f26 = some ⟨oc26, od26, .func (PySem.W.fnOf "reason" "Made.reason" (defArgs bD) (defBody bD) (defScope bD) .none kV26 dc26 pm26 an26 cd26 ct26), sl26⟩) (c26 : PySem.W.codeIn K cd26 "Made.reason" = true) (k26 : PySem.W.keepIn K (.ref f26) = true)
    (t26 : PySem.W.isFn K (.ref f26) = true)
    (a27 : PySem.W.findIn K (.ref c_Used) "reason" = some (some (.ref f27))) (l27 : K.lookup f27 = some ⟨oc27, od27, .func (PySem.W.fnOf "reason" "Used.reason" (defArgs bE) (defBody bE) (defScope bE) .none kV27 dc27 pm27 an27 cd27 ct27), sl27⟩) (c27 : PySem.W.codeIn K cd27 "Used.reason" = true) (k27 : PySem.W.keepIn K (.ref f27) = true)
    (t27 : PySem.W.isFn K (.ref f27) = true)
    (a28 : PySem.W.findIn K (.ref c_Chief) "reason" = some (some (.ref f28))) (l28 : K.lookup f28 = some ⟨oc28, od28, .func (PySem.W.fnOf "reason" "Chief.reason" (defArgs bz) (defBody bz) (defScope bz) .none kV28 dc28 pm28 an28 cd28 ct28), sl28⟩) (c28 : PySem.W.codeIn K cd28 "Chief.reason" = true) (k28 : PySem.W.keepIn K (.ref f28) = true)
    (t28 : PySem.W.isFn K (.ref f28) = true)
    (a29 : PySem.W.findIn K (.ref c_Over) "reason" = some (some (.ref f29))) (l29 : K.lookup f29 = some ⟨oc29, od29, .func (PySem.W.fnOf "reason" "Over.reason" (defArgs bM) (defBody bM) (defScope bM) .none kV29 dc29 pm29 an29 cd29 ct29), sl29⟩) (c29 : PySem.W.codeIn K cd29 "Over.reason" = true) (k29 : PySem.W.keepIn K (.ref f29) = true)
    (t29 : PySem.W.isFn K (.ref f29) = true)
    (a30 : PySem.W.findIn K (.ref c_Both) "reason" = some (some (.ref f30))) (l30 : K.lookup f30 = some ⟨oc30, od30, .func (PySem.W.fnOf "reason" "Both.reason" (defArgs aZ) (defBody aZ) (defScope aZ) .none kV30 dc30 pm30 an30 cd30 ct30), sl30⟩) (c30 : PySem.W.codeIn K cd30 "Both.reason" = true) (k30 : PySem.W.keepIn K (.ref f30) = true)
    (t30 : PySem.W.isFn K (.ref f30) = true)
    (a31 : PySem.W.findIn K (.ref c_Either) "reason" = some (some (.ref f31))) (l31 : K.lookup f31 = some ⟨oc31, od31, .func (PySem.W.fnOf "reason" "Either.reason" (defArgs aM) (defBody aM) (defScope aM) .none kV31 dc31 pm31 an31 cd31 ct31), sl31⟩) (c31 : PySem.W.codeIn K cd31 "Either.reason" = true) (k31 : PySem.W.keepIn K (.ref f31) = true)
    (t31 : PySem.W.isFn K (.ref f31) = true)
    (a32 : PySem.W.findIn K (.ref c_But) "reason" = some (some (.ref f32))) (l32 : K.lookup f32 = some ⟨oc32, od32, .func (PySem.W.fnOf "reason" "But.reason" (defArgs bn) (defBody bn) (defScope bn) .none kV32 dc32 pm32 an32 cd32 ct32), sl32⟩) (c32 : PySem.W.codeIn K cd32 "But.reason" = true) (k32 : PySem.W.keepIn K (.ref f32) = true)
    (t32 : PySem.W.isFn K (.ref f32) = true)
    (a33 : PySem.W.nsIn K mainGlobals "_law_look" = some (some (.ref f33))) (l33 : K.lookup f33 = some ⟨oc33, od33, .func (PySem.W.fnOf "_law_look" "_law_look" (defArgs bQ) (defBody bQ) (defScope bQ) .none kV33 dc33 pm33 an33 cd33 ct33), sl33⟩) (c33 : PySem.W.codeIn K cd33 "_law_look" = true) (k33 : PySem.W.keepIn K (.ref f33) = true)
    (a34 : PySem.W.nsIn K mainGlobals "_law_weighs" = some (some (.ref f34))) (l34 : K.lookup f34 = some ⟨oc34, od34, .func (PySem.W.fnOf "_law_weighs" "_law_weighs" (defArgs bw) (defBody bw) (defScope bw) .none kV34 dc34 pm34 an34 cd34 ct34), sl34⟩) (c34 : PySem.W.codeIn K cd34 "_law_weighs" = true) (k34 : PySem.W.keepIn K (.ref f34) = true)
    (a35 : PySem.W.nsIn K mainGlobals "_law_shows" = some (some (.ref f35))) (l35 : K.lookup f35 = some ⟨oc35, od35, .func (PySem.W.fnOf "_law_shows" "_law_shows" (defArgs bA) (defBody bA) (defScope bA) .none kV35 dc35 pm35 an35 cd35 ct35), sl35⟩) (c35 : PySem.W.codeIn K cd35 "_law_shows" = true) (k35 : PySem.W.keepIn K (.ref f35) = true)
    (a36 : PySem.W.nsIn K mainGlobals "_law_plain_claims" = some (some (.ref f36))) (l36 : K.lookup f36 = some ⟨oc36, od36, .func (PySem.W.fnOf "_law_plain_claims" "_law_plain_claims" (defArgs aL) (defBody aL) (defScope aL) .none kV36 dc36 pm36 an36 cd36 ct36), sl36⟩) (c36 : PySem.W.codeIn K cd36 "_law_plain_claims" = true) (k36 : PySem.W.keepIn K (.ref f36) = true)
    (a37 : PySem.W.nsIn K mainGlobals "_law_claims" = some (some (.ref f37))) (l37 : K.lookup f37 = some ⟨oc37, od37, .func (PySem.W.fnOf "_law_claims" "_law_claims" (defArgs bB) (defBody bB) (defScope bB) .none kV37 dc37 pm37 an37 cd37 ct37), sl37⟩) (c37 : PySem.W.codeIn K cd37 "_law_claims" = true) (k37 : PySem.W.keepIn K (.ref f37) = true)
    (a38 : PySem.W.nsIn K mainGlobals "is_whole" = some (some (.ref f38))) (l38 : K.lookup f38 = some ⟨oc38, od38, .func (PySem.W.fnOf "is_whole" "is_whole" (defArgs cC) (defBody cC) (defScope cC) .none kV38 dc38 pm38 an38 cd38 ct38), sl38⟩) (c38 : PySem.W.codeIn K cd38 "is_whole" = true) (k38 : PySem.W.keepIn K (.ref f38) = true)
    (a39 : PySem.W.nsIn K mainGlobals "places_for" = some (some (.ref f39))) (l39 : K.lookup f39 = some ⟨oc39, od39, .func (PySem.W.fnOf "places_for" "places_for" (defArgs bC) (defBody bC) (defScope bC) .none kV39 dc39 pm39 an39 cd39 ct39), sl39⟩) (c39 : PySem.W.codeIn K cd39 "places_for" = true) (k39 : PySem.W.keepIn K (.ref f39) = true)
    (a40 : PySem.W.nsIn K mainGlobals "place_holds" = some (some (.ref f40))) (l40 : K.lookup f40 = some ⟨oc40, od40, .func (PySem.W.fnOf "place_holds" "place_holds" (defArgs aP) (defBody aP) (defScope aP) .none kV40 dc40 pm40 an40 cd40 ct40), sl40⟩) (c40 : PySem.W.codeIn K cd40 "place_holds" = true) (k40 : PySem.W.keepIn K (.ref f40) = true)
    (a41 : PySem.W.nsIn K mainGlobals "one_holds" = some (some (.ref f41))) (l41 : K.lookup f41 = some ⟨oc41, od41, .func (PySem.W.fnOf "one_holds" "one_holds" (defArgs bL) (defBody bL) (defScope bL) .none kV41 dc41 pm41 an41 cd41 ct41), sl41⟩) (c41 : PySem.W.codeIn K cd41 "one_holds" = true) (k41 : PySem.W.keepIn K (.ref f41) = true)
    (a42 : PySem.W.nsIn K mainGlobals "says" = some (some (.ref f42))) (l42 : K.lookup f42 = some ⟨oc42, od42, .func (PySem.W.fnOf "says" "says" (defArgs dG) (defBody dG) (defScope dG) .none kV42 dc42 pm42 an42 cd42 ct42), sl42⟩) (c42 : PySem.W.codeIn K cd42 "says" = true) (k42 : PySem.W.keepIn K (.ref f42) = true)
    (a43 : PySem.W.nsIn K mainGlobals "two_hold" = some (some (.ref f43))) (l43 : K.lookup f43 = some ⟨oc43, od43, .func (PySem.W.fnOf "two_hold" "two_hold" (defArgs aO) (defBody aO) (defScope aO) .none kV43 dc43 pm43 an43 cd43 ct43), sl43⟩) (c43 : PySem.W.codeIn K cd43 "two_hold" = true) (k43 : PySem.W.keepIn K (.ref f43) = true)
    (a44 : PySem.W.nsIn K mainGlobals "holds_up" = some (some (.ref f44))) (l44 : K.lookup f44 = some ⟨oc44, od44, .func (PySem.W.fnOf "holds_up" "holds_up" (defArgs bc) (defBody bc) (defScope bc) .none kV44 dc44 pm44 an44 cd44 ct44), sl44⟩) (c44 : PySem.W.codeIn K cd44 "holds_up" = true) (k44 : PySem.W.keepIn K (.ref f44) = true)
    (a45 : PySem.W.nsIn K mainGlobals "truth_of" = some (some (.ref f45))) (l45 : K.lookup f45 = some ⟨oc45, od45, .func (PySem.W.fnOf "truth_of" "truth_of" (defArgs cf) (defBody cf) (defScope cf) .none kV45 dc45 pm45 an45 cd45 ct45), sl45⟩) (c45 : PySem.W.codeIn K cd45 "truth_of" = true) (k45 : PySem.W.keepIn K (.ref f45) = true)
    (a46 : PySem.W.nsIn K mainGlobals "_law_whole" = some (some (.ref f46))) (l46 : K.lookup f46 = some ⟨oc46, od46, .func (PySem.W.fnOf "_law_whole" "_law_whole" (defArgs cb) (defBody cb) (defScope cb) .none kV46 dc46 pm46 an46 cd46 ct46), sl46⟩) (c46 : PySem.W.codeIn K cd46 "_law_whole" = true) (k46 : PySem.W.keepIn K (.ref f46) = true)
    (a47 : PySem.W.nsIn K mainGlobals "_law_pair" = some (some (.ref f47))) (l47 : K.lookup f47 = some ⟨oc47, od47, .func (PySem.W.fnOf "_law_pair" "_law_pair" (defArgs dP) (defBody dP) (defScope dP) .none kV47 dc47 pm47 an47 cd47 ct47), sl47⟩) (c47 : PySem.W.codeIn K cd47 "_law_pair" = true) (k47 : PySem.W.keepIn K (.ref f47) = true)
    (a48 : PySem.W.nsIn K mainGlobals "_law_reads_plain" = some (some (.ref f48))) (l48 : K.lookup f48 = some ⟨oc48, od48, .func (PySem.W.fnOf "_law_reads_plain" "_law_reads_plain" (defArgs au) (defBody au) (defScope au) .none kV48 dc48 pm48 an48 cd48 ct48), sl48⟩) (c48 : PySem.W.codeIn K cd48 "_law_reads_plain" = true) (k48 : PySem.W.keepIn K (.ref f48) = true)
    (a49 : PySem.W.nsIn K mainGlobals "_law_reads" = some (some (.ref f49))) (l49 : K.lookup f49 = some ⟨oc49, od49, .func (PySem.W.fnOf "_law_reads" "_law_reads" (defArgs aq) (defBody aq) (defScope aq) .none kV49 dc49 pm49 an49 cd49 ct49), sl49⟩) (c49 : PySem.W.codeIn K cd49 "_law_reads" = true) (k49 : PySem.W.keepIn K (.ref f49) = true)
    (a50 : PySem.W.nsIn K mainGlobals "_law_reason" = some (some (.ref f50))) (l50 : K.lookup f50 = some ⟨oc50, od50, .func (PySem.W.fnOf "_law_reason" "_law_reason" (defArgs ay) (defBody ay) (defScope ay) .none kV50 dc50 pm50 an50 cd50 ct50), sl50⟩) (c50 : PySem.W.codeIn K cd50 "_law_reason" = true) (k50 : PySem.W.keepIn K (.ref f50) = true)
    (a51 : PySem.W.nsIn K mainGlobals "_law_made_plain" = some (some (.ref f51))) (l51 : K.lookup f51 = some ⟨oc51, od51, .func (PySem.W.fnOf "_law_made_plain" "_law_made_plain" (defArgs aQ) (defBody aQ) (defScope aQ) .none kV51 dc51 pm51 an51 cd51 ct51), sl51⟩) (c51 : PySem.W.codeIn K cd51 "_law_made_plain" = true) (k51 : PySem.W.keepIn K (.ref f51) = true)
    (a52 : PySem.W.nsIn K mainGlobals "_law_made" = some (some (.ref f52))) (l52 : K.lookup f52 = some ⟨oc52, od52, .func (PySem.W.fnOf "_law_made" "_law_made" (defArgs bR) (defBody bR) (defScope bR) .none kV52 dc52 pm52 an52 cd52 ct52), sl52⟩) (c52 : PySem.W.codeIn K cd52 "_law_made" = true) (k52 : PySem.W.keepIn K (.ref f52) = true)
    (a53 : PySem.W.nsIn K mainGlobals "_law_says" = some (some (.ref f53))) (l53 : K.lookup f53 = some ⟨oc53, od53, .func (PySem.W.fnOf "_law_says" "_law_says" (defArgs aR) (defBody aR) (defScope aR) .none kV53 dc53 pm53 an53 cd53 ct53), sl53⟩) (c53 : PySem.W.codeIn K cd53 "_law_says" = true) (k53 : PySem.W.keepIn K (.ref f53) = true)
    (a54 : PySem.W.nsIn K mainGlobals "law" = some (some (.ref f54))) (l54 : K.lookup f54 = some ⟨oc54, od54, .func (PySem.W.fnOf "law" "law" (defArgs aA) (defBody aA) (defScope aA) .none kV54 dc54 pm54 an54 cd54 ct54), sl54⟩) (c54 : PySem.W.codeIn K cd54 "law" = true) (k54 : PySem.W.keepIn K (.ref f54) = true)
    (pg_Anything : PySem.W.plainGet K c_Anything Str.empty = true)
    (hd_Anything : PySem.W.hasDictIn K c_Anything = true)
    (po_Anything : PySem.W.plainOver K c_Anything = true)
    (sa_Anything : PySem.W.findIn K (.ref c_Anything) "__setattr__" = some (some (.builtin "object.__setattr__")))
    (ia_Anything : PySem.W.findIn K (.ref c_Anything) "__class__" = some (some (.builtin "object.__class__")))
    (im_Anything : PySem.W.mroIn K c_Anything (.type "object") = some true)
    (mk_Anything : PySem.W.makesIn K c_Anything = true)
    (kc_Anything : PySem.W.keepIn K (.ref c_Anything) = true)
    (in_Anything : PySem.W.findIn K (.ref c_Anything) "__init__" = some (some (.builtin "object.__init__")))
    (pg_Made : PySem.W.plainGet K c_Made Str.empty = true)
    (hd_Made : PySem.W.hasDictIn K c_Made = true)
    (po_Made : PySem.W.plainOver K c_Made = true)
    (sa_Made : PySem.W.findIn K (.ref c_Made) "__setattr__" = some (some (.builtin "object.__setattr__")))
    (ia_Made : PySem.W.findIn K (.ref c_Made) "__class__" = some (some (.builtin "object.__class__")))
    (im_Made : PySem.W.mroIn K c_Made (.type "object") = some true)
    (mk_Made : PySem.W.makesIn K c_Made = true)
    (kc_Made : PySem.W.keepIn K (.ref c_Made) = true)
    (pg_Used : PySem.W.plainGet K c_Used Str.empty = true)
    (hd_Used : PySem.W.hasDictIn K c_Used = true)
    (po_Used : PySem.W.plainOver K c_Used = true)
    (sa_Used : PySem.W.findIn K (.ref c_Used) "__setattr__" = some (some (.builtin "object.__setattr__")))
    (ia_Used : PySem.W.findIn K (.ref c_Used) "__class__" = some (some (.builtin "object.__class__")))
    (im_Used : PySem.W.mroIn K c_Used (.type "object") = some true)
    (mk_Used : PySem.W.makesIn K c_Used = true)
    (kc_Used : PySem.W.keepIn K (.ref c_Used) = true)
    (pg_Chief : PySem.W.plainGet K c_Chief Str.empty = true)
    (hd_Chief : PySem.W.hasDictIn K c_Chief = true)
    (po_Chief : PySem.W.plainOver K c_Chief = true)
    (sa_Chief : PySem.W.findIn K (.ref c_Chief) "__setattr__" = some (some (.builtin "object.__setattr__")))
    (ia_Chief : PySem.W.findIn K (.ref c_Chief) "__class__" = some (some (.builtin "object.__class__")))
    (im_Chief : PySem.W.mroIn K c_Chief (.type "object") = some true)
    (mk_Chief : PySem.W.makesIn K c_Chief = true)
    (kc_Chief : PySem.W.keepIn K (.ref c_Chief) = true)
    (pg_Over : PySem.W.plainGet K c_Over Str.empty = true)
    (hd_Over : PySem.W.hasDictIn K c_Over = true)
    (po_Over : PySem.W.plainOver K c_Over = true)
    (sa_Over : PySem.W.findIn K (.ref c_Over) "__setattr__" = some (some (.builtin "object.__setattr__")))
    (ia_Over : PySem.W.findIn K (.ref c_Over) "__class__" = some (some (.builtin "object.__class__")))
    (im_Over : PySem.W.mroIn K c_Over (.type "object") = some true)
    (mk_Over : PySem.W.makesIn K c_Over = true)
    (kc_Over : PySem.W.keepIn K (.ref c_Over) = true)
    (pg_Both : PySem.W.plainGet K c_Both Str.empty = true)
    (hd_Both : PySem.W.hasDictIn K c_Both = true)
    (po_Both : PySem.W.plainOver K c_Both = true)
    (sa_Both : PySem.W.findIn K (.ref c_Both) "__setattr__" = some (some (.builtin "object.__setattr__")))
    (ia_Both : PySem.W.findIn K (.ref c_Both) "__class__" = some (some (.builtin "object.__class__")))
    (im_Both : PySem.W.mroIn K c_Both (.type "object") = some true)
    (mk_Both : PySem.W.makesIn K c_Both = true)
    (kc_Both : PySem.W.keepIn K (.ref c_Both) = true)
    (pg_Either : PySem.W.plainGet K c_Either Str.empty = true)
    (hd_Either : PySem.W.hasDictIn K c_Either = true)
    (po_Either : PySem.W.plainOver K c_Either = true)
    (sa_Either : PySem.W.findIn K (.ref c_Either) "__setattr__" = some (some (.builtin "object.__setattr__")))
    (ia_Either : PySem.W.findIn K (.ref c_Either) "__class__" = some (some (.builtin "object.__class__")))
    (im_Either : PySem.W.mroIn K c_Either (.type "object") = some true)
    (mk_Either : PySem.W.makesIn K c_Either = true)
    (kc_Either : PySem.W.keepIn K (.ref c_Either) = true)
    (pg_But : PySem.W.plainGet K c_But Str.empty = true)
    (hd_But : PySem.W.hasDictIn K c_But = true)
    (po_But : PySem.W.plainOver K c_But = true)
    (sa_But : PySem.W.findIn K (.ref c_But) "__setattr__" = some (some (.builtin "object.__setattr__")))
    (ia_But : PySem.W.findIn K (.ref c_But) "__class__" = some (some (.builtin "object.__class__")))
    (im_But : PySem.W.mroIn K c_But (.type "object") = some true)
    (mk_But : PySem.W.makesIn K c_But = true)
    (kc_But : PySem.W.keepIn K (.ref c_But) = true)
    (oget : PySem.W.specialIn K (.builtin "object.__class__") "__get__" = some (some (.builtin "getset_descriptor.__get__")))
    (otakes : PySem.W.takesIn K (.builtin "object.__class__") = some true)
    (na_Made_stuff : PySem.W.findIn K (.ref c_Made) "stuff" = some none)
    (na_Used_use : PySem.W.findIn K (.ref c_Used) "use" = some none)
    (na_Chief_stuff : PySem.W.findIn K (.ref c_Chief) "stuff" = some none)
    (na_Over_one : PySem.W.findIn K (.ref c_Over) "one" = some none)
    (na_Over_other : PySem.W.findIn K (.ref c_Over) "other" = some none)
    (na_Both_one : PySem.W.findIn K (.ref c_Both) "one" = some none)
    (na_Both_other : PySem.W.findIn K (.ref c_Both) "other" = some none)
    (na_Either_one : PySem.W.findIn K (.ref c_Either) "one" = some none)
    (na_Either_other : PySem.W.findIn K (.ref c_Either) "other" = some none)
    (na_But_one : PySem.W.findIn K (.ref c_But) "one" = some none)
    (na_But_other : PySem.W.findIn K (.ref c_But) "other" = some none)
    (in_Both : PySem.W.findIn K (.ref c_Both) "__init__" = some (some (.ref f13)))
    (in_Either : PySem.W.findIn K (.ref c_Either) "__init__" = some (some (.ref f13)))
    (in_But : PySem.W.findIn K (.ref c_But) "__init__" = some (some (.ref f13)))
    (z_reversed : PySem.W.nsIn K mainGlobals "reversed" = some none)
    (sm_OB : (c_OF_BOTH == sysModules) = false)
    (ob_OB : K.lookup c_OF_BOTH = some ⟨.type "dict", none, .dict #[⟨PyData.keyHash w.params "both", .str "both" tk1, .ref dd1⟩, ⟨PyData.keyHash w.params "either", .str "either" tk2, .ref dd2⟩, ⟨PyData.keyHash w.params "but", .str "but" tk3, .ref dd3⟩] ep, #[]⟩)
    (h1_OB : K.lookup dd1 = some ⟨.type "tuple", to1, .seq #[.bool true, .bool true, .bool true] tn1, ts1⟩)
    (h2_OB : K.lookup dd2 = some ⟨.type "tuple", to2, .seq #[.bool false, .bool false, .bool false] tn2, ts2⟩)
    (h3_OB : K.lookup dd3 = some ⟨.type "tuple", to3, .seq #[.bool true, .bool true, .bool false] tn3, ts3⟩)
    (z_len : PySem.W.nsIn K mainGlobals "len" = some none)
    (z_range : PySem.W.nsIn K mainGlobals "range" = some none)
    (z_abs : PySem.W.nsIn K mainGlobals "abs" = some none)
    (z_max : PySem.W.nsIn K mainGlobals "max" = some none)
    (z_min : PySem.W.nsIn K mainGlobals "min" = some none)
    (z_isinstance : PySem.W.nsIn K mainGlobals "isinstance" = some none)
    (z_int : PySem.W.nsIn K mainGlobals "int" = some none)
    (z_bool : PySem.W.nsIn K mainGlobals "bool" = some none)
    (z_str : PySem.W.nsIn K mainGlobals "str" = some none)
    (z_list : PySem.W.nsIn K mainGlobals "list" = some none)
    (z_tuple : PySem.W.nsIn K mainGlobals "tuple" = some none)
    (z_sum : PySem.W.nsIn K mainGlobals "sum" = some none)
    (z_all : PySem.W.nsIn K mainGlobals "all" = some none)
    (z_enumerate : PySem.W.nsIn K mainGlobals "enumerate" = some none)
    (z_zip : PySem.W.nsIn K mainGlobals "zip" = some none)
    (z_ValueError : PySem.W.nsIn K mainGlobals "ValueError" = some none)
    (z_any : PySem.W.nsIn K mainGlobals "any" = some none)
    (z_set : PySem.W.nsIn K mainGlobals "set" = some none)
    (z_sorted : PySem.W.nsIn K mainGlobals "sorted" = some none)
    : ∃ fd : FuncData, (∀ (s : Shared) (v : Value), BindsTo s fd ⟨[v], []⟩ [("_law_script", v)]) ∧ ∀ base : Heap, K.In base → base.Ns mainGlobals mg → FnOk l.prog w K mg base CX0 22 fa fd ["_law_script"] (AF K) := by
  have e := hfa.symm.trans (PySem.W.mg_of X G a54)
  cases e
  have F1 := tR (st := cF) l1 c1 k1
  have F2 := tR (st := cG) l2 c2 k2
  have F3 := tR (st := cc) l3 c3 k3
  have F4 := tR (st := cP) l4 c4 k4
  have F5 := tR (st := ax) l5 c5 k5
  have F6 := tR (st := aE) l6 c6 k6
  have F7 := tR (st := aN) l7 c7 k7
  have F8 := tR (st := bb) l8 c8 k8
  have F9 := tR (st := cQ) l9 c9 k9
  have F10 := tR (st := cR) l10 c10 k10
  have F11 := tR (st := cH) l11 c11 k11
  have F12 := tR (st := cA) l12 c12 k12
  have F13 := tR (st := ce) l13 c13 k13
  have F14 := tR (st := bt) l14 c14 k14
  have F15 := tR (st := aX) l15 c15 k15
  have F16 := tR (st := bj) l16 c16 k16
  have F17 := tR (st := aB) l17 c17 k17
  have F18 := tR (st := dJ) l18 c18 k18
  have F19 := tR (st := cq) l19 c19 k19
  have F20 := tR (st := cr) l20 c20 k20
  have F21 := tR (st := bu) l21 c21 k21
  have F22 := tR (st := cB) l22 c22 k22
  have F23 := tR (st := cI) l23 c23 k23
  have F24 := tR (st := bZ) l24 c24 k24
  have F25 := tR (st := ci) l25 c25 k25
  have F26 := tR (st := bD) l26 c26 k26
  have F27 := tR (st := bE) l27 c27 k27
  have F28 := tR (st := bz) l28 c28 k28
  have F29 := tR (st := bM) l29 c29 k29
  have F30 := tR (st := aZ) l30 c30 k30
  have F31 := tR (st := aM) l31 c31 k31
  have F32 := tR (st := bn) l32 c32 k32
  have F33 := tR (st := bQ) l33 c33 k33
  have F34 := tR (st := bw) l34 c34 k34
  have F35 := tR (st := bA) l35 c35 k35
  have F36 := tR (st := aL) l36 c36 k36
  have F37 := tR (st := bB) l37 c37 k37
  have F38 := tR (st := cC) l38 c38 k38
  have F39 := tR (st := bC) l39 c39 k39
  have F40 := tR (st := aP) l40 c40 k40
  have F41 := tR (st := bL) l41 c41 k41
  have F42 := tR (st := dG) l42 c42 k42
  have F43 := tR (st := aO) l43 c43 k43
  have F44 := tR (st := bc) l44 c44 k44
  have F45 := tR (st := cf) l45 c45 k45
  have F46 := tR (st := cb) l46 c46 k46
  have F47 := tR (st := dP) l47 c47 k47
  have F48 := tR (st := au) l48 c48 k48
  have F49 := tR (st := aq) l49 c49 k49
  have F50 := tR (st := ay) l50 c50 k50
  have F51 := tR (st := aQ) l51 c51 k51
  have F52 := tR (st := bR) l52 c52 k52
  have F53 := tR (st := aR) l53 c53 k53
  have F54 := tR (st := aA) l54 c54 k54
  have b1 := F1.binds (ps := ["thing"]) fun _ _ _ _ _ _ us hl => match us, hl with | [_], _ => rfl
  have b2 := F2.binds (ps := ["thing"]) fun _ _ _ _ _ _ us hl => match us, hl with | [_], _ => rfl
  have b3 := F3.binds (ps := ["_law_script", "_law_k"]) fun _ _ _ _ _ _ us hl => match us, hl with | [_, _], _ => rfl
  have b4 := F4.binds (ps := ["_law_number", "_law_k", "_law_many"]) fun _ _ _ _ _ _ us hl => match us, hl with | [_, _, _], _ => rfl
  have b5 := F5.binds (ps := ["_law_cell_here", "_law_many"]) fun _ _ _ _ _ _ us hl => match us, hl with | [_, _], _ => rfl
  have b6 := F6.binds (ps := ["_law_cell_here", "_law_words_here"]) fun _ _ _ _ _ _ us hl => match us, hl with | [_, _], _ => rfl
  have b7 := F7.binds (ps := ["_law_number", "_law_kinds_here", "_law_words_here"]) fun _ _ _ _ _ _ us hl => match us, hl with | [_, _, _], _ => rfl
  have b8 := F8.binds (ps := ["_law_number", "_law_deep", "_law_kinds_here", "_law_words_here"]) fun _ _ _ _ _ _ us hl => match us, hl with | [_, _, _, _], _ => rfl
  have b9 := F9.binds (ps := ["self", "stuff"]) fun _ _ _ _ _ _ us hl => match us, hl with | [_, _], _ => rfl
  have b10 := F10.binds (ps := ["self", "use"]) fun _ _ _ _ _ _ us hl => match us, hl with | [_, _], _ => rfl
  have b11 := F11.binds (ps := ["self", "stuff"]) fun _ _ _ _ _ _ us hl => match us, hl with | [_, _], _ => rfl
  have b12 := F12.binds (ps := ["self", "one", "other"]) fun _ _ _ _ _ _ us hl => match us, hl with | [_, _, _], _ => rfl
  have b13 := F13.binds (ps := ["self", "one", "other"]) fun _ _ _ _ _ _ us hl => match us, hl with | [_, _, _], _ => rfl
  have b14 := F14.binds (ps := ["word", "name"]) fun _ _ _ _ _ _ us hl => match us, hl with | [_, _], _ => rfl
  have b15 := F15.binds (ps := ["word", "one", "other"]) fun _ _ _ _ _ _ us hl => match us, hl with | [_, _, _], _ => rfl
  have b16 := F16.binds (ps := ["told"]) fun _ _ _ _ _ _ us hl => match us, hl with | [_], _ => rfl
  have b17 := F17.binds (ps := ["left", "told"]) fun _ _ _ _ _ _ us hl => match us, hl with | [_, _], _ => rfl
  have b18 := F18.binds (ps := ["told"]) fun _ _ _ _ _ _ us hl => match us, hl with | [_], _ => rfl
  have b19 := F19.binds (ps := ["kinds", "look", "stuff"]) fun _ _ _ _ _ _ us hl => match us, hl with | [_, _, _], _ => rfl
  have b20 := F20.binds (ps := ["kinds", "look", "use"]) fun _ _ _ _ _ _ us hl => match us, hl with | [_, _, _], _ => rfl
  have b21 := F21.binds (ps := ["kinds", "look", "stuff"]) fun _ _ _ _ _ _ us hl => match us, hl with | [_, _, _], _ => rfl
  have b22 := F22.binds (ps := ["kinds", "look", "kind"]) fun _ _ _ _ _ _ us hl => match us, hl with | [_, _, _], _ => rfl
  have b23 := F23.binds (ps := ["kinds", "look", "one", "other"]) fun _ _ _ _ _ _ us hl => match us, hl with | [_, _, _, _], _ => rfl
  have b24 := F24.binds (ps := ["places"]) fun _ _ _ _ _ _ us hl => match us, hl with | [_], _ => rfl
  have b25 := F25.binds (ps := ["self", "kinds", "look"]) fun _ _ _ _ _ _ us hl => match us, hl with | [_, _, _], _ => rfl
  have b26 := F26.binds (ps := ["self", "kinds", "look"]) fun _ _ _ _ _ _ us hl => match us, hl with | [_, _, _], _ => rfl
  have b27 := F27.binds (ps := ["self", "kinds", "look"]) fun _ _ _ _ _ _ us hl => match us, hl with | [_, _, _], _ => rfl
  have b28 := F28.binds (ps := ["self", "kinds", "look"]) fun _ _ _ _ _ _ us hl => match us, hl with | [_, _, _], _ => rfl
  have b29 := F29.binds (ps := ["self", "kinds", "look"]) fun _ _ _ _ _ _ us hl => match us, hl with | [_, _, _], _ => rfl
  have b30 := F30.binds (ps := ["self", "kinds", "look"]) fun _ _ _ _ _ _ us hl => match us, hl with | [_, _, _], _ => rfl
  have b31 := F31.binds (ps := ["self", "kinds", "look"]) fun _ _ _ _ _ _ us hl => match us, hl with | [_, _, _], _ => rfl
  have b32 := F32.binds (ps := ["self", "kinds", "look"]) fun _ _ _ _ _ _ us hl => match us, hl with | [_, _, _], _ => rfl
  have b33 := F33.binds (ps := ["_law_cell_here", "_law_many"]) fun _ _ _ _ _ _ us hl => match us, hl with | [_, _], _ => rfl
  have b34 := F34.binds (ps := ["_law_kinds_here", "_law_look_here", "_law_kind"]) fun _ _ _ _ _ _ us hl => match us, hl with | [_, _, _], _ => rfl
  have b35 := F35.binds (ps := ["_law_told", "_law_kinds_here", "_law_look_here", "_law_k"]) fun _ _ _ _ _ _ us hl => match us, hl with | [_, _, _, _], _ => rfl
  have b36 := F36.binds (ps := ["_law_told", "_law_kinds_here", "_law_look_here"]) fun _ _ _ _ _ _ us hl => match us, hl with | [_, _, _], _ => rfl
  have b37 := F37.binds (ps := ["_law_told", "_law_kinds_here", "_law_look_here"]) fun _ _ _ _ _ _ us hl => match us, hl with | [_, _, _], _ => rfl
  have b38 := F38.binds (ps := ["thing"]) fun _ _ _ _ _ _ us hl => match us, hl with | [_], _ => rfl
  have b39 := F39.binds (ps := ["told", "kinds", "look"]) fun _ _ _ _ _ _ us hl => match us, hl with | [_, _, _], _ => rfl
  have b40 := F40.binds (ps := ["told", "kinds", "look", "reason"]) fun _ _ _ _ _ _ us hl => match us, hl with | [_, _, _, _], _ => rfl
  have b41 := F41.binds (ps := ["told", "kinds", "look", "reason"]) fun _ _ _ _ _ _ us hl => match us, hl with | [_, _, _, _], _ => rfl
  have b42 := F42.binds (ps := ["truth", "told", "kinds", "look", "reason"]) fun _ _ _ _ _ _ us hl => match us, hl with | [_, _, _, _, _], _ => rfl
  have b43 := F43.binds (ps := ["told", "kinds", "look", "reason"]) fun _ _ _ _ _ _ us hl => match us, hl with | [_, _, _, _], _ => rfl
  have b44 := F44.binds (ps := ["told", "kinds", "look", "reason"]) fun _ _ _ _ _ _ us hl => match us, hl with | [_, _, _, _], _ => rfl
  have b45 := F45.binds (ps := ["told", "kinds", "look", "reason"]) fun _ _ _ _ _ _ us hl => match us, hl with | [_, _, _, _], _ => rfl
  have b46 := F46.binds (ps := ["_law_found"]) fun _ _ _ _ _ _ us hl => match us, hl with | [_], _ => rfl
  have b47 := F47.binds (ps := ["_law_word"]) fun _ _ _ _ _ _ us hl => match us, hl with | [_], _ => rfl
  have b48 := F48.binds (ps := ["_law_told", "_law_kinds_here", "_law_look_here", "_law_reason_here"]) fun _ _ _ _ _ _ us hl => match us, hl with | [_, _, _, _], _ => rfl
  have b49 := F49.binds (ps := ["_law_told", "_law_kinds_here", "_law_look_here", "_law_reason_here"]) fun _ _ _ _ _ _ us hl => match us, hl with | [_, _, _, _], _ => rfl
  have b50 := F50.binds (ps := ["_law_told", "_law_kinds_here", "_law_look_here"]) fun _ _ _ _ _ _ us hl => match us, hl with | [_, _, _], _ => rfl
  have b51 := F51.binds (ps := ["_law_told"]) fun _ _ _ _ _ _ us hl => match us, hl with | [_], _ => rfl
  have b52 := F52.binds (ps := ["_law_told"]) fun _ _ _ _ _ _ us hl => match us, hl with | [_], _ => rfl
  have b53 := F53.binds (ps := ["_law_told", "_law_kinds_here", "_law_look_here", "_law_reason_here", "_law_due"]) fun _ _ _ _ _ _ us hl => match us, hl with | [_, _, _, _, _], _ => rfl
  have M : Mg mg := ⟨PySem.W.mg_none_of X G z_len, PySem.W.mg_none_of X G z_range, PySem.W.mg_none_of X G z_abs, PySem.W.mg_none_of X G z_max, PySem.W.mg_none_of X G z_min, PySem.W.mg_none_of X G z_isinstance, PySem.W.mg_none_of X G z_int, PySem.W.mg_none_of X G z_bool, PySem.W.mg_none_of X G z_str, PySem.W.mg_none_of X G z_list, PySem.W.mg_none_of X G z_tuple, PySem.W.mg_none_of X G z_sum, PySem.W.mg_none_of X G z_all, PySem.W.mg_none_of X G z_enumerate, PySem.W.mg_none_of X G z_zip, PySem.W.mg_none_of X G z_ValueError, PySem.W.mg_none_of X G z_any, PySem.W.mg_none_of X G z_set, PySem.W.mg_none_of X G z_sorted⟩
  refine ⟨PySem.W.fnOf "law" "law" (defArgs aA) (defBody aA) (defScope aA) .none kV54 dc54 pm54 an54 cd54 ct54, fun s v => .of_eq rfl, fun base _ _ => ?_⟩
  have A_Note := PySem.W.mg_of X G n_Note
  have A_OfTwo := PySem.W.mg_of X G n_OfTwo
  have A_Anything := PySem.W.mg_of X G n_Anything
  have A_Made := PySem.W.mg_of X G n_Made
  have A_Used := PySem.W.mg_of X G n_Used
  have A_Chief := PySem.W.mg_of X G n_Chief
  have A_Over := PySem.W.mg_of X G n_Over
  have A_Both := PySem.W.mg_of X G n_Both
  have A_Either := PySem.W.mg_of X G n_Either
  have A_But := PySem.W.mg_of X G n_But
  have A_OF_BOTH := PySem.W.mg_of X G n_OF_BOTH
  have cls_Anything : Cls K c_Anything := ⟨pg_Anything, hd_Anything, po_Anything, sa_Anything⟩
  have ic_Anything : ICls K c_Anything := ⟨cls_Anything, ia_Anything, oget, otakes, im_Anything⟩
  have Z_Anything : Mk0 K c_Anything := ⟨mk_Anything, in_Anything, kc_Anything⟩
  have cls_Made : Cls K c_Made := ⟨pg_Made, hd_Made, po_Made, sa_Made⟩
  have ic_Made : ICls K c_Made := ⟨cls_Made, ia_Made, oget, otakes, im_Made⟩
  have cls_Used : Cls K c_Used := ⟨pg_Used, hd_Used, po_Used, sa_Used⟩
  have ic_Used : ICls K c_Used := ⟨cls_Used, ia_Used, oget, otakes, im_Used⟩
  have cls_Chief : Cls K c_Chief := ⟨pg_Chief, hd_Chief, po_Chief, sa_Chief⟩
  have ic_Chief : ICls K c_Chief := ⟨cls_Chief, ia_Chief, oget, otakes, im_Chief⟩
  have cls_Over : Cls K c_Over := ⟨pg_Over, hd_Over, po_Over, sa_Over⟩
  have ic_Over : ICls K c_Over := ⟨cls_Over, ia_Over, oget, otakes, im_Over⟩
  have cls_Both : Cls K c_Both := ⟨pg_Both, hd_Both, po_Both, sa_Both⟩
  have ic_Both : ICls K c_Both := ⟨cls_Both, ia_Both, oget, otakes, im_Both⟩
  have cls_Either : Cls K c_Either := ⟨pg_Either, hd_Either, po_Either, sa_Either⟩
  have ic_Either : ICls K c_Either := ⟨cls_Either, ia_Either, oget, otakes, im_Either⟩
  have cls_But : Cls K c_But := ⟨pg_But, hd_But, po_But, sa_But⟩
  have ic_But : ICls K c_But := ⟨cls_But, ia_But, oget, otakes, im_But⟩
  have m_reversed : mg "reversed" = none := PySem.W.mg_none_of X G z_reversed
  have tc_Over : TwoC K c_Over := ⟨cls_Over, na_Over_one, na_Over_other⟩
  have tc_Both : TwoC K c_Both := ⟨cls_Both, na_Both_one, na_Both_other⟩
  have tc_Either : TwoC K c_Either := ⟨cls_Either, na_Either_one, na_Either_other⟩
  have tc_But : TwoC K c_But := ⟨cls_But, na_But_one, na_But_other⟩
  have O_OB : OBok w.params K c_OF_BOTH := G8 sm_OB ob_OB h1_OB h2_OB h3_OB
  have eL : Cal l.prog w K mg base CX0 "is_name" 1 ["thing"] (xK K) := ⟨⟨_, _, Ct F1 M, b1, k1, PySem.W.mg_of X G a1⟩⟩
  have ji : Cal l.prog w K mg base CX0 "is_kind" 2 ["thing"] (yW K) := ⟨⟨_, _, Dk F2 M eL, b2, k2, PySem.W.mg_of X G a2⟩⟩
  have gk : Cal l.prog w K mg base CX0 "_law_cell" 1 ["_law_script", "_law_k"] (zp K) := ⟨⟨_, _, BH F3 M, b3, k3, PySem.W.mg_of X G a3⟩⟩
  have aS : Cal l.prog w K mg base CX0 "_law_mix" 1 ["_law_number", "_law_k", "_law_many"] (wG) := ⟨⟨_, _, Dn F4 M, b4, k4, PySem.W.mg_of X G a4⟩⟩
  have js : Cal l.prog w K mg base CX0 "_law_words" 1 ["_law_cell_here", "_law_many"] (zX K) := ⟨⟨_, _, Be F5 M, b5, k5, PySem.W.mg_of X G a5⟩⟩
  have jt : Cal l.prog w K mg base CX0 "_law_kinds" 1 ["_law_cell_here", "_law_words_here"] (zg K) := ⟨⟨_, _, AH F6 M, b6, k6, PySem.W.mg_of X G a6⟩⟩
  have dY : Cal l.prog w K mg base CX0 "_law_plain" 2 ["_law_number", "_law_kinds_here", "_law_words_here"] (xA K) := ⟨⟨_, _, AL F7 M aS, b7, k7, PySem.W.mg_of X G a7⟩⟩
  have eV : Cal l.prog w K mg base CX0 "_law_note" 8 ["_law_number", "_law_deep", "_law_kinds_here", "_law_words_here"] (Cf K) := ⟨⟨_, _, Do (L := 3) (n := 5) (yJ F8 M aS dY b8 k8 (PySem.W.mg_of X G a8)), b8, k8, PySem.W.mg_of X G a8⟩⟩
  have Z_Made : MkC l.prog w K mg base "Made" c_Made 1 ["self", "stuff"] (uR K c_Made "stuff") := ⟨⟨_, _, ⟨mk_Made, a9, t9, kc_Made⟩, AN F9 M (cs:=⟨c_Anything,c_Made,c_Used,c_Chief,c_Over,c_Both,c_Either,c_But⟩) cls_Made na_Made_stuff, b9⟩, A_Made⟩
  have Z_Used : MkC l.prog w K mg base "Used" c_Used 1 ["self", "use"] (uR K c_Used "use") := ⟨⟨_, _, ⟨mk_Used, a10, t10, kc_Used⟩, Bd F10 M (cs:=⟨c_Anything,c_Made,c_Used,c_Chief,c_Over,c_Both,c_Either,c_But⟩) cls_Used na_Used_use, b10⟩, A_Used⟩
  have Z_Chief : MkC l.prog w K mg base "Chief" c_Chief 1 ["self", "stuff"] (uR K c_Chief "stuff") := ⟨⟨_, _, ⟨mk_Chief, a11, t11, kc_Chief⟩, Au F11 M (cs:=⟨c_Anything,c_Made,c_Used,c_Chief,c_Over,c_Both,c_Either,c_But⟩) cls_Chief na_Chief_stuff, b11⟩, A_Chief⟩
  have Z_Over : MkC l.prog w K mg base "Over" c_Over 1 ["self", "one", "other"] (uD K) := ⟨⟨_, _, ⟨mk_Over, a12, t12, kc_Over⟩, AY F12 M, b12⟩, A_Over⟩
  have Z_Both : MkC l.prog w K mg base "Both" c_Both 1 ["self", "one", "other"] (uD K) := ⟨⟨_, _, ⟨mk_Both, in_Both, t13, kc_Both⟩, v9 F13 M, b13⟩, A_Both⟩
  have Z_Either : MkC l.prog w K mg base "Either" c_Either 1 ["self", "one", "other"] (uD K) := ⟨⟨_, _, ⟨mk_Either, in_Either, t13, kc_Either⟩, v9 F13 M, b13⟩, A_Either⟩
  have Z_But : MkC l.prog w K mg base "But" c_But 1 ["self", "one", "other"] (uD K) := ⟨⟨_, _, ⟨mk_But, in_But, t13, kc_But⟩, v9 F13 M, b13⟩, A_But⟩
  have gF : Cal l.prog w K mg base CX0 "note_of_name" 3 ["word", "name"] (yP K ⟨c_Anything, c_Made, c_Used, c_Chief, c_Over, c_Both, c_Either, c_But⟩) := ⟨⟨_, _, zh F14 M Z_Made Z_Used Z_Chief, b14, k14, PySem.W.mg_of X G a14⟩⟩
  have cJ : Cal l.prog w K mg base CX0 "note_of_notes" 3 ["word", "one", "other"] (wQ K ⟨c_Anything, c_Made, c_Used, c_Chief, c_Over, c_Both, c_Either, c_But⟩) := ⟨⟨_, _, yU F15 M Z_Both Z_Either Z_But tc_Both tc_Either tc_But, b15, k15, PySem.W.mg_of X G a15⟩⟩
  have dh : Cal l.prog w K mg base CX0 "note_of_one" 4 ["told"] (xy K ⟨c_Anything, c_Made, c_Used, c_Chief, c_Over, c_Both, c_Either, c_But⟩) := ⟨⟨_, _, z7 F16 M eL ji gF Z_Anything A_Anything Z_Over tc_Over, b16, k16, PySem.W.mg_of X G a16⟩⟩
  have di : Cal l.prog w K mg base CX0 "note_within" 10 ["left", "told"] (vX K ⟨c_Anything, c_Made, c_Used, c_Chief, c_Over, c_Both, c_Either, c_But⟩ 5) := ⟨⟨_, _, xr F17 M dh cJ b17 k17 (PySem.W.mg_of X G a17) 5, b17, k17, PySem.W.mg_of X G a17⟩⟩
  have lV : Cal l.prog w K mg base CX0 "note_of" 11 ["told"] (yY K ⟨c_Anything, c_Made, c_Used, c_Chief, c_Over, c_Both, c_Either, c_But⟩) := ⟨⟨_, _, Cq F18 M di, b18, k18, PySem.W.mg_of X G a18⟩⟩
  have dj : Cal l.prog w K mg base CX0 "made_places" 1 ["kinds", "look", "stuff"] (uL K vf) := ⟨⟨_, _, zM F19 M, b19, k19, PySem.W.mg_of X G a19⟩⟩
  have dm : Cal l.prog w K mg base CX0 "used_places" 1 ["kinds", "look", "use"] (uL K vg) := ⟨⟨_, _, Ac F20 M, b20, k20, PySem.W.mg_of X G a20⟩⟩
  have cU : Cal l.prog w K mg base CX0 "chief_places" 1 ["kinds", "look", "stuff"] (uL K uC) := ⟨⟨_, _, zF F21 M, b21, k21, PySem.W.mg_of X G a21⟩⟩
  have gJ : Cal l.prog w K mg base CX0 "number_in" 1 ["kinds", "look", "kind"] (wj K) := ⟨⟨_, _, Ba F22 M, b22, k22, PySem.W.mg_of X G a22⟩⟩
  have fO : Cal l.prog w K mg base CX0 "is_over" 2 ["kinds", "look", "one", "other"] (zm K) := ⟨⟨_, _, CH F23 M gJ, b23, k23, PySem.W.mg_of X G a23⟩⟩
  have bT : Cal l.prog w K mg base CX0 "place_reason" 1 ["places"] (wB K) := ⟨⟨_, _, zk F24 M, b24, k24, PySem.W.mg_of X G a24⟩⟩
  have cl8 : ∀ j, j < 8 → Cls K (yt ⟨c_Anything, c_Made, c_Used, c_Chief, c_Over, c_Both, c_Either, c_But⟩ j) := fun j hj => match j, hj with | 0, _ => cls_Anything | 1, _ => cls_Made | 2, _ => cls_Used | 3, _ => cls_Chief | 4, _ => cls_Over | 5, _ => cls_Both | 6, _ => cls_Either | 7, _ => cls_But | j + 8, h => absurd h (by omega)
  have R0 : vV l.prog w K mg base ⟨c_Anything, c_Made, c_Used, c_Chief, c_Over, c_Both, c_Either, c_But⟩ 0 := fun k d => ⟨_, _, ⟨a25, t25, k25⟩, ye F25 M, b25⟩
  have R1 : vV l.prog w K mg base ⟨c_Anything, c_Made, c_Used, c_Chief, c_Over, c_Both, c_Either, c_But⟩ 1 := fun k d => ⟨_, _, ⟨a26, t26, k26⟩, zP F26 M cls_Made na_Made_stuff dj bT, b26⟩
  have R2 : vV l.prog w K mg base ⟨c_Anything, c_Made, c_Used, c_Chief, c_Over, c_Both, c_Either, c_But⟩ 2 := fun k d => ⟨_, _, ⟨a27, t27, k27⟩, zV F27 M cls_Used na_Used_use dm bT, b27⟩
  have R3 : vV l.prog w K mg base ⟨c_Anything, c_Made, c_Used, c_Chief, c_Over, c_Both, c_Either, c_But⟩ 3 := fun k d => ⟨_, _, ⟨a28, t28, k28⟩, zy F28 M cls_Chief na_Chief_stuff cU bT, b28⟩
  have R4 : vV l.prog w K mg base ⟨c_Anything, c_Made, c_Used, c_Chief, c_Over, c_Both, c_Either, c_But⟩ 4 := fun k d => ⟨_, _, ⟨a29, t29, k29⟩, zW F29 M tc_Over fO, b29⟩
  have R5 : yu l.prog w K mg base ⟨c_Anything, c_Made, c_Used, c_Chief, c_Over, c_Both, c_Either, c_But⟩ 5 := ⟨fun k => ⟨_, _, ⟨a30, t30, k30⟩, zQ F30, b30⟩, fun d D => ⟨_, _, ⟨a30, t30, k30⟩, zL F30 M tc_Both D, b30⟩⟩
  have R6 : yu l.prog w K mg base ⟨c_Anything, c_Made, c_Used, c_Chief, c_Over, c_Both, c_Either, c_But⟩ 6 := ⟨fun k => ⟨_, _, ⟨a31, t31, k31⟩, yS F31, b31⟩, fun d D => ⟨_, _, ⟨a31, t31, k31⟩, yQ F31 M tc_Either D, b31⟩⟩
  have R7 : yu l.prog w K mg base ⟨c_Anything, c_Made, c_Used, c_Chief, c_Over, c_Both, c_Either, c_But⟩ 7 := ⟨fun k => ⟨_, _, ⟨a32, t32, k32⟩, Aq F32, b32⟩, fun d D => ⟨_, _, ⟨a32, t32, k32⟩, Az F32 M tc_But D, b32⟩⟩
  have D_reason : ∀ C sp, u9 K ⟨c_Anything, c_Made, c_Used, c_Chief, c_Over, c_Both, c_Either, c_But⟩ 5 C sp → Disp l.prog w K mg base "reason" 8 ["self", "kinds", "look"] C sp := Dc cl8 R0 R1 R2 R3 R4 R5 R6 R7 5
  have io : Cal l.prog w K mg base CX0 "_law_look" 2 ["_law_cell_here", "_law_many"] (A5 K) := ⟨⟨_, _, Bp F33 M aS, b33, k33, PySem.W.mg_of X G a33⟩⟩
  have gi : Cal l.prog w K mg base CX0 "_law_weighs" 1 ["_law_kinds_here", "_law_look_here", "_law_kind"] (wj K) := ⟨⟨_, _, As F34 M, b34, k34, PySem.W.mg_of X G a34⟩⟩
  have bN : Cal l.prog w K mg base CX0 "_law_shows" 1 ["_law_told", "_law_kinds_here", "_law_look_here", "_law_k"] (vR K) := ⟨⟨_, _, AQ F35 M, b35, k35, PySem.W.mg_of X G a35⟩⟩
  have az : Cal l.prog w K mg base CX0 "_law_plain_claims" 2 ["_law_told", "_law_kinds_here", "_law_look_here"] (vF K) := ⟨⟨_, _, x9 F36 M gi bN, b36, k36, PySem.W.mg_of X G a36⟩⟩
  have bK : Cal l.prog w K mg base CX0 "_law_claims" 8 ["_law_told", "_law_kinds_here", "_law_look_here"] (v5 K 5) := ⟨⟨_, _, x8 F37 M az b37 k37 (PySem.W.mg_of X G a37) 5, b37, k37, PySem.W.mg_of X G a37⟩⟩
  have cM : Cal l.prog w K mg base CX0 "is_whole" 1 ["thing"] (uO K) := ⟨⟨_, _, BA F38 M, b38, k38, PySem.W.mg_of X G a38⟩⟩
  have iT : Cal l.prog w K mg base CX0 "places_for" 2 ["told", "kinds", "look"] (C8 K) := ⟨⟨_, _, Av F39 M dj dm cU, b39, k39, PySem.W.mg_of X G a39⟩⟩
  have gX : Cal l.prog w K mg base CX0 "place_holds" 3 ["told", "kinds", "look", "reason"] (Cp K) := ⟨⟨_, _, z6 F40 M cM iT, b40, k40, PySem.W.mg_of X G a40⟩⟩
  have dZ : Cal l.prog w K mg base CX0 "one_holds" 4 ["told", "kinds", "look", "reason"] (zl K) := ⟨⟨_, _, A2 F41 M fO gX, b41, k41, PySem.W.mg_of X G a41⟩⟩
  have gj : Cal l.prog w K mg base CX0 "holds_up" 19 ["told", "kinds", "look", "reason"] (xm K 5) := ⟨⟨_, _, A6 F44 F43 F42 M A_OF_BOTH O_OB cM dZ b44 k44 (PySem.W.mg_of X G a44) b43 k43 (PySem.W.mg_of X G a43) b42 k42 (PySem.W.mg_of X G a42) 5, b44, k44, PySem.W.mg_of X G a44⟩⟩
  have j9 : Cal l.prog w K mg base CX0 "truth_of" 20 ["told", "kinds", "look", "reason"] (Ab K) := ⟨⟨_, _, BS F45 M gj, b45, k45, PySem.W.mg_of X G a45⟩⟩
  have cD : Cal l.prog w K mg base CX0 "_law_whole" 1 ["_law_found"] (uO K) := ⟨⟨_, _, AR F46 M, b46, k46, PySem.W.mg_of X G a46⟩⟩
  have bX : Cal l.prog w K mg base CX0 "_law_pair" 1 ["_law_word"] (w4 K) := ⟨⟨_, _, Bf F47 M, b47, k47, PySem.W.mg_of X G a47⟩⟩
  have cj : Cal l.prog w K mg base CX0 "_law_reads_plain" 3 ["_law_told", "_law_kinds_here", "_law_look_here", "_law_reason_here"] (xM K) := ⟨⟨_, _, yo F48 M cD bN az, b48, k48, PySem.W.mg_of X G a48⟩⟩
  have cS : Cal l.prog w K mg base CX0 "_law_reads" 8 ["_law_told", "_law_kinds_here", "_law_look_here", "_law_reason_here"] (xD K 5) := ⟨⟨_, _, ym F49 M cD bX cj b49 k49 (PySem.W.mg_of X G a49) 5, b49, k49, PySem.W.mg_of X G a49⟩⟩
  have dI : Cal l.prog w K mg base CX0 "_law_reason" 8 ["_law_told", "_law_kinds_here", "_law_look_here"] (wH K 5) := ⟨⟨_, _, xZ F50 M az bN bX b50 k50 (PySem.W.mg_of X G a50) 5, b50, k50, PySem.W.mg_of X G a50⟩⟩
  have cz : Cal l.prog w K mg base CX0 "_law_made_plain" 3 ["_law_told"] (yv K ⟨c_Anything, c_Made, c_Used, c_Chief, c_Over, c_Both, c_Either, c_But⟩) := ⟨⟨_, _, yG F51 M Z_Made Z_Used Z_Chief Z_Anything A_Anything Z_Over tc_Over, b51, k51, PySem.W.mg_of X G a51⟩⟩
  have cE : Cal l.prog w K mg base CX0 "_law_made" 8 ["_law_told"] (wX K ⟨c_Anything, c_Made, c_Used, c_Chief, c_Over, c_Both, c_Either, c_But⟩ 5) := ⟨⟨_, _, yI F52 M cz Z_Both Z_Either Z_But tc_Both tc_Either tc_But b52 k52 (PySem.W.mg_of X G a52) 5, b52, k52, PySem.W.mg_of X G a52⟩⟩
  have ip : Cal l.prog w K mg base CX0 "_law_says" 21 ["_law_told", "_law_kinds_here", "_law_look_here", "_law_reason_here", "_law_due"] (zU K) := ⟨⟨_, _, BB F53 M j9, b53, k53, PySem.W.mg_of X G a53⟩⟩
  exact GM F54 M gk aS js jt lV eV io bK cE cS dI ip D_reason m_reversed
theorem walk {l : PySem.W.OpenLaw} {q : Program} {loose : List Str} {XP : (Str → Option Value) → Heap → Prop} {YP : World → Heap → Prop} {d : DefRec} {K : Params → PySem.W.Frag} (hn : l.most = some 63) (hdf : d.params.defaults = [])
    (hY : ∀ (w : World) (h : Heap), YP w h → (K w.params).In h)
    (F : ∀ (w : World) (mg : Str → Option Value) (fa : Addr) (h : Heap), (K w.params).In h → h.Ns mainGlobals mg → mg d.name = some (.ref fa) →
      ∃ fd : FuncData, (∀ (s : Shared) (u : Value), BindsTo s fd ⟨[u], []⟩ [("_law_script", u)]) ∧ ∀ base : Heap, (K w.params).In base → base.Ns mainGlobals mg → FnOk l.prog w (K w.params) mg base CX0 22 fa fd ["_law_script"] (AF (K w.params))) :
    PySem.W.WalkO q loose XP YP l.row.toRowW d [] (fun f vs => PySem.call f vs) :=
  L2.walk_of (n := 63) (k := 22) (x := "_law_script") (CX := fun _ => CX0) (sp := fun w => AF (K w.params)) hn (by decide) hdf ⟨rfl, by decide, by decide⟩ hY F (fun _ _ a ns hl _ hS => ⟨a, ns, rfl, hS, hl, fun _ => rfl⟩) fun _ _ _ _ _ z => z
end My
namespace PySem.W.Fast
theorem tw4987492123736865255:True:=⟨⟩
theorem tw9898443683342787608:True:=⟨⟩
theorem tw15504245705893424827:True:=⟨⟩
theorem tw6661409156735365572:True:=⟨⟩
theorem tw1132404107589260448:True:=⟨⟩
theorem tw8223747866934538250:True:=⟨⟩
theorem tw17343659442676119500:True:=⟨⟩
theorem tw12796584781581933961:True:=⟨⟩
theorem tw14908937624389254128:True:=⟨⟩
theorem tw4954823276368788639:True:=⟨⟩
theorem tw4327541991880068268:True:=⟨⟩
theorem tw11548943824935824059:True:=⟨⟩
theorem tw17462190999601780593:True:=⟨⟩
theorem tw6032418749513659460:True:=⟨⟩
theorem tw15523803816892411329:True:=⟨⟩
theorem tw13764711409550352495:True:=⟨⟩
theorem tw11445605796336613764:True:=⟨⟩
theorem tw3620257853663939126:True:=⟨⟩
theorem tw11654327951233801822:True:=⟨⟩
theorem tw16229947361639293599:True:=⟨⟩
theorem tw3204144259648347421:True:=⟨⟩
theorem tw8072935393845516297:True:=⟨⟩
theorem tw10484338353171289232:True:=⟨⟩
theorem tw16928442370099509954:True:=⟨⟩
theorem tw5138594081039598642:True:=⟨⟩
theorem tw7681592556930762056:True:=⟨⟩
theorem tw1231875269814466649:True:=⟨⟩
theorem tw5633881918876769099:True:=⟨⟩
theorem tw6358462987425882070:True:=⟨⟩
theorem tw6444644148023241297:True:=⟨⟩
theorem tw9249989576275018015:True:=⟨⟩
theorem tw4819276473010683573:True:=⟨⟩
theorem tw6698940415606004074:True:=⟨⟩
theorem tw6755347275229844292:True:=⟨⟩
theorem tw2646923009816643615:True:=⟨⟩
theorem tw12595182219192842712:True:=⟨⟩
theorem tw9456221933765088413:True:=⟨⟩
theorem tw3503231611241309327:True:=⟨⟩
theorem tw14305178693387371626:True:=⟨⟩
theorem tw5172752701969793580:True:=⟨⟩
theorem tw18388332415777733557:True:=⟨⟩
theorem tw13833528617248261680:True:=⟨⟩
theorem tw6033065807264321681:True:=⟨⟩
theorem tw16910764348164020121:True:=⟨⟩
theorem tw16974819464232576607:True:=⟨⟩
theorem tw6725465110681351576:True:=⟨⟩
theorem tw5873022475269564120:True:=⟨⟩
theorem tw5458204749044297146:True:=⟨⟩
theorem tw4545698753489629712:True:=⟨⟩
theorem tw2895146663093785217:True:=⟨⟩
theorem tw13212268638354867423:True:=⟨⟩
theorem tw4720239039965208877:True:=⟨⟩
theorem tw3155041982663426033:True:=⟨⟩
theorem tw11428619596511674640:True:=⟨⟩
theorem tw10298614518991270932:True:=⟨⟩
theorem tw5382244718911234085:True:=⟨⟩
theorem tw15068486107626126466:True:=⟨⟩
theorem tw14594185224436900088:True:=⟨⟩
theorem tw8110060271699371911:True:=⟨⟩
theorem tw11460959740590651558:True:=⟨⟩
theorem tw2347597470670585695:True:=⟨⟩
theorem tw3012400279226927860:True:=⟨⟩
theorem tw18215723383658835368:True:=⟨⟩
theorem tw16112596055922055737:True:=⟨⟩
theorem tw6537985844686795995:True:=⟨⟩
theorem tw4851318007469475592:True:=⟨⟩
theorem tw7729583792595355002:True:=⟨⟩
theorem tw5788044626100137623:True:=⟨⟩
theorem tw6802720931117280112:True:=⟨⟩
theorem tw12371836593155403648:True:=⟨⟩
theorem tw718104024085917012:True:=⟨⟩
theorem tw3655571077776094459:True:=⟨⟩
theorem tw15322122935859272802:True:=⟨⟩
theorem tw5777711287218592428:True:=⟨⟩
theorem tw9673669131987716705:True:=⟨⟩
theorem tw13508270239888180440:True:=⟨⟩
theorem tw1359120415078761657:True:=⟨⟩
theorem tw3358034234940185553:True:=⟨⟩
theorem tw15549460754047948239:True:=⟨⟩
theorem tw10457713623140608433:True:=⟨⟩
theorem tw1127627484365297916:True:=⟨⟩
theorem tw8609489781035167263:True:=⟨⟩
theorem tw3165137849187332673:True:=⟨⟩
theorem tw4376474835638337846:True:=⟨⟩
theorem tw4745034037712693082:True:=⟨⟩
theorem tw17817555134747618681:True:=⟨⟩
theorem tw17119204994447228107:True:=⟨⟩
theorem tw14959129235982534516:True:=⟨⟩
theorem tw17987753591210919490:True:=⟨⟩
theorem tw18088693889502862977:True:=⟨⟩
theorem tw13385609250085701332:True:=⟨⟩
theorem tw9530440934829391097:True:=⟨⟩
theorem tw6938256925190602202:True:=⟨⟩
theorem tw14708003888468888102:True:=⟨⟩
theorem tw15968654045177662006:True:=⟨⟩
theorem tw12585904778982442017:True:=⟨⟩
theorem tw8259616308612765747:True:=⟨⟩
theorem tw1502643322613368172:True:=⟨⟩
theorem tw12959108920193186643:True:=⟨⟩
theorem tw6329829870979848315:True:=⟨⟩
theorem tw14285588394855742804:True:=⟨⟩
theorem tw7995590261373318604:True:=⟨⟩
theorem tw1549669278309856252:True:=⟨⟩
theorem tw11430042020372036296:True:=⟨⟩
theorem tw4417894896207184092:True:=⟨⟩
theorem tw13954750308613522937:True:=⟨⟩
theorem tw17940821190849250921:True:=⟨⟩
theorem tw12644811320959660764:True:=⟨⟩
theorem tw14561179594358627777:True:=⟨⟩
theorem tw698815931986680278:True:=⟨⟩
theorem tw3672090125226937626:True:=⟨⟩
theorem tw9335355205380512273:True:=⟨⟩
theorem tw1067112140980771501:True:=⟨⟩
theorem tw16024313508143710666:True:=⟨⟩
theorem tw2292251052816407505:True:=⟨⟩
theorem tw10451871444730042700:True:=⟨⟩
theorem tw10755535722159081432:True:=⟨⟩
theorem tw10663221487041552527:True:=⟨⟩
theorem tw11906720727162437386:True:=⟨⟩
theorem tw12902280896418389101:True:=⟨⟩
theorem tw16620810529123231998:True:=⟨⟩
theorem tw9007378019589552169:True:=⟨⟩
theorem tw4968711710288691479:True:=⟨⟩
theorem tw14346308031595389533:True:=⟨⟩
theorem tw13657956778301488987:True:=⟨⟩
theorem tw6006851370853025190:True:=⟨⟩
theorem tw14230176045210044335:True:=⟨⟩
theorem tw4933046713950945346:True:=⟨⟩
theorem tw384309324195284359:True:=⟨⟩
theorem tw8369711368161371379:True:=⟨⟩
theorem tw7524288717562926591:True:=⟨⟩
theorem tw16820529756507602933:True:=⟨⟩
theorem tw8966084011369631572:True:=⟨⟩
theorem tw4109685755940503143:True:=⟨⟩
theorem tw8571501918288717669:True:=⟨⟩
theorem tw7649150428227915878:True:=⟨⟩
theorem tw10774490362975447426:True:=⟨⟩
theorem tw16851699715418432902:True:=⟨⟩
theorem tw17234073043934587157:True:=⟨⟩
theorem tw3757170504103997061:True:=⟨⟩
theorem tw3477455556583186472:True:=⟨⟩
theorem tw8179071762380189870:True:=⟨⟩
theorem tw13239227913922345285:True:=⟨⟩
theorem tw5864819410829419896:True:=⟨⟩
theorem tw15611263365972739343:True:=⟨⟩
theorem tw17530084371396787331:True:=⟨⟩
theorem tw7146716981620746458:True:=⟨⟩
theorem tw10016999262552303962:True:=⟨⟩
theorem tw10735938819326173719:True:=⟨⟩
theorem tw65924076307078692:True:=⟨⟩
theorem tw16827544075247495443:True:=⟨⟩
theorem tw13943099256881407375:True:=⟨⟩
theorem tw9675507912067070876:True:=⟨⟩
theorem tw8257356668049241479:True:=⟨⟩
theorem tw14824920624916864012:True:=⟨⟩
theorem tw1510862179657799205:True:=⟨⟩
theorem tw6111679508583704753:True:=⟨⟩
theorem tw355797784497493285:True:=⟨⟩
theorem tw16233500174542530083:True:=⟨⟩
theorem tw8547471034939640107:True:=⟨⟩
theorem tw4893713457093194810:True:=⟨⟩
theorem tw4633618518876526850:True:=⟨⟩
theorem tw1699699658773910138:True:=⟨⟩
theorem tw17851673259827086327:True:=⟨⟩
theorem tw6154178670927483808:True:=⟨⟩
theorem tw311722309555799201:True:=⟨⟩
theorem tw14819593920649429284:True:=⟨⟩
theorem tw8722651578420537309:True:=⟨⟩
theorem tw13000384499901490059:True:=⟨⟩
theorem tw10106955515939951311:True:=⟨⟩
theorem tw562792872654146758:True:=⟨⟩
theorem tw6350287890476400558:True:=⟨⟩
theorem tw18108145312020822231:True:=⟨⟩
theorem tw9864653657649188649:True:=⟨⟩
theorem tw13775753974321888431:True:=⟨⟩
theorem tw2161848131978290203:True:=⟨⟩
theorem tw6918946222407754110:True:=⟨⟩
theorem tw12633044695053784865:True:=⟨⟩
theorem tw6648220959130280862:True:=⟨⟩
theorem tw9763965349862668176:True:=⟨⟩
theorem tw6266188303535559118:True:=⟨⟩
theorem tw9705467183735342405:True:=⟨⟩
theorem tw17804070619561721587:True:=⟨⟩
theorem tw13649312710131373083:True:=⟨⟩
theorem tw14340840466931383732:True:=⟨⟩
theorem tw7592316280448543060:True:=⟨⟩
theorem tw13559968419032031802:True:=⟨⟩
theorem tw127025950544602784:True:=⟨⟩
theorem tw9194558613866296563:True:=⟨⟩
theorem tw4027969205548167394:True:=⟨⟩
theorem tw10981891899108205651:True:=⟨⟩
theorem tw10671844331778388634:True:=⟨⟩
theorem tw18011128817806971829:True:=⟨⟩
theorem tw3259561040382462681:True:=⟨⟩
theorem tw13647409627007785977:True:=⟨⟩
theorem tw3970065551151685286:True:=⟨⟩
theorem tw11011034292022902696:True:=⟨⟩
theorem tw17185905113839271579:True:=⟨⟩
theorem tw4739534362218152363:True:=⟨⟩
theorem tw12387194806780906576:True:=⟨⟩
theorem tw2580649060514697992:True:=⟨⟩
theorem tw14017281845031355704:True:=⟨⟩
theorem tw1233351723536453222:True:=⟨⟩
theorem tw13219309048850432089:True:=⟨⟩
theorem tw12385262326070192574:True:=⟨⟩
theorem tw8413233675217274962:True:=⟨⟩
theorem tw15267845210980998056:True:=⟨⟩
theorem tw18414505154849316850:True:=⟨⟩
theorem tw1176857230313615706:True:=⟨⟩
theorem tw16660775906728679372:True:=⟨⟩
theorem tw7515039116296201401:True:=⟨⟩
theorem tw6818719076362532607:True:=⟨⟩
theorem tw3204198744757549413:True:=⟨⟩
theorem tw8975565622001651545:True:=⟨⟩
theorem tw147756373709457078:True:=⟨⟩
theorem tw7440057845971996634:True:=⟨⟩
theorem tw1625249061768961081:True:=⟨⟩
theorem tw14475050504807571346:True:=⟨⟩
theorem tw16324875565923537102:True:=⟨⟩
theorem tw4475687110834665694:True:=⟨⟩
theorem tw14482988865859067609:True:=⟨⟩
theorem tw874496229494233474:True:=⟨⟩
theorem tw16423427303378418299:True:=⟨⟩
theorem tw9350270157275151646:True:=⟨⟩
theorem tw16163662271608883848:True:=⟨⟩
theorem tw4669156635418698320:True:=⟨⟩
theorem tw16766972302730130084:True:=⟨⟩
theorem tw14671474665583338286:True:=⟨⟩
theorem tw11085282666923025976:True:=⟨⟩
theorem tw15672627072137263003:True:=⟨⟩
theorem tw11065677314330859512:True:=⟨⟩
theorem tw5662234615366978251:True:=⟨⟩
theorem tw2863452129184368569:True:=⟨⟩
theorem tw4761602260513518115:True:=⟨⟩
theorem tw12301688018720124031:True:=⟨⟩
theorem tw18008366866091229336:True:=⟨⟩
theorem tw4539765379045351412:True:=⟨⟩
theorem tw9565050238757558981:True:=⟨⟩
theorem tw3767253374519698911:True:=⟨⟩
theorem tw5969010934719781984:True:=⟨⟩
theorem tw3783771252322553215:True:=⟨⟩
theorem tw2340715321922773035:True:=⟨⟩
theorem tw17945544906782290437:True:=⟨⟩
theorem tw6215798267507150192:True:=⟨⟩
theorem tw17028031560376792036:True:=⟨⟩
theorem tw12905665181984338730:True:=⟨⟩
theorem tw10933945485158483229:True:=⟨⟩
theorem tw2432977677094151943:True:=⟨⟩
theorem tw7767610021153118232:True:=⟨⟩
theorem tw7170840761459158521:True:=⟨⟩
theorem tw7141780903058627843:True:=⟨⟩
theorem tw15377479799335210855:True:=⟨⟩
theorem tw14179598506806473830:True:=⟨⟩
theorem tw14986879368391473710:True:=⟨⟩
theorem tw1325139722839978240:True:=⟨⟩
theorem tw3752509608681386174:True:=⟨⟩
theorem tw695065081142915539:True:=⟨⟩
theorem tw13532566043978198420:True:=⟨⟩
theorem tw9417565964350799941:True:=⟨⟩
theorem tw15807046273324374050:True:=⟨⟩
theorem tw13677040877662480650:True:=⟨⟩
theorem tw10388450905030561948:True:=⟨⟩
theorem tw6442475338401326504:True:=⟨⟩
theorem tw11498573187808779329:True:=⟨⟩
theorem tw7524523378511285849:True:=⟨⟩
theorem tw4628960014739987289:True:=⟨⟩
theorem tw14374272350521857395:True:=⟨⟩
theorem tw4401525896341408967:True:=⟨⟩
theorem tw18289320441272763655:True:=⟨⟩
theorem tw2587939126079734265:True:=⟨⟩
theorem tw17059114534212031069:True:=⟨⟩
theorem tw9539376786950495351:True:=⟨⟩
theorem tw17854603643007079044:True:=⟨⟩
theorem tw11442742775879738106:True:=⟨⟩
theorem tw11183456775101960488:True:=⟨⟩
theorem tw13814375152383517008:True:=⟨⟩
theorem tw1736887811716083440:True:=⟨⟩
theorem tw13865702133289613343:True:=⟨⟩
theorem tw928028093631884032:True:=⟨⟩
theorem tw555663224382054495:True:=⟨⟩
theorem tw953879113459047523:True:=⟨⟩
theorem tw3612357081083625408:True:=⟨⟩
theorem tw7214251921334432934:True:=⟨⟩
theorem tw5600243832830555153:True:=⟨⟩
theorem tw16676524019138719858:True:=⟨⟩
theorem tw2571973557626900148:True:=⟨⟩
theorem tw14065040257755667781:True:=⟨⟩
theorem tw9560334768068133931:True:=⟨⟩
theorem tw7116218670389372560:True:=⟨⟩
theorem tw3104626352133378202:True:=⟨⟩
theorem tw17269138233088654149:True:=⟨⟩
theorem tw131329490219370315:True:=⟨⟩
theorem tw11320292425515988669:True:=⟨⟩
theorem tw9508248515462903300:True:=⟨⟩
theorem tw10571670253472749892:True:=⟨⟩
theorem tw7659636077679822089:True:=⟨⟩
theorem tw14792149414183698216:True:=⟨⟩
theorem tw14621830404061832955:True:=⟨⟩
theorem tw5655835706431506826:True:=⟨⟩
theorem tw13119480487527184351:True:=⟨⟩
theorem tw1307836133282496280:True:=⟨⟩
theorem tw18179306525941760352:True:=⟨⟩
theorem tw724912773688673989:True:=⟨⟩
theorem tw16958809000611732251:True:=⟨⟩
theorem tw1212028914111257312:True:=⟨⟩
theorem tw9536080020398432160:True:=⟨⟩
theorem tw1356352628442788255:True:=⟨⟩
theorem tw8176551787995251746:True:=⟨⟩
theorem tw1632871199064053267:True:=⟨⟩
theorem tw11563002427109396523:True:=⟨⟩
theorem tw8854151116382195969:True:=⟨⟩
theorem tw8194139129579050089:True:=⟨⟩
theorem tw3579387590597534296:True:=⟨⟩
theorem tw14026368728981376569:True:=⟨⟩
theorem tw2359340662825979442:True:=⟨⟩
theorem tw11990120588474463520:True:=⟨⟩
theorem tw10871588133515168565:True:=⟨⟩
theorem tw4395542937502527175:True:=⟨⟩
theorem tw8442156899091489936:True:=⟨⟩
theorem tw315771372254932876:True:=⟨⟩
theorem tw18366612499451129106:True:=⟨⟩
theorem tw14183045090676247087:True:=⟨⟩
theorem tw12884520888308795593:True:=⟨⟩
theorem tw15594310141103304634:True:=⟨⟩
theorem tw8726348356792914385:True:=⟨⟩
theorem tw1656488128628846695:True:=⟨⟩
theorem tw11944045478609434088:True:=⟨⟩
theorem tw5321313190184311976:True:=⟨⟩
theorem tw14398424609626181537:True:=⟨⟩
theorem tw12943818052112835312:True:=⟨⟩
theorem tw12708973103336261022:True:=⟨⟩
theorem tw10016442116200570213:True:=⟨⟩
theorem tw6139405006600954619:True:=⟨⟩
theorem tw7680763960154378622:True:=⟨⟩
theorem tw14422668848340335688:True:=⟨⟩
theorem tw14474937650808069181:True:=⟨⟩
theorem tw4100803743254011331:True:=⟨⟩
theorem tw3193880546956989127:True:=⟨⟩
theorem tw10493512261457270316:True:=⟨⟩
theorem tw322311131532906940:True:=⟨⟩
theorem tw14162166356338827113:True:=⟨⟩
theorem tw11517543861747303893:True:=⟨⟩
theorem tw6180679585508598333:True:=⟨⟩
theorem tw12807985956854210863:True:=⟨⟩
theorem tw1455882193742506266:True:=⟨⟩
theorem tw4252878376215780255:True:=⟨⟩
theorem tw5942003138334331132:True:=⟨⟩
theorem tw3039090322743985293:True:=⟨⟩
theorem tw15737157148763128254:True:=⟨⟩
theorem tw5992875169791146384:True:=⟨⟩
theorem tw17804040567560820421:True:=⟨⟩
theorem tw16664381947882311351:True:=⟨⟩
theorem tw1271015049592046559:True:=⟨⟩
theorem tw17142992534505885869:True:=⟨⟩
theorem tw4322086630139809344:True:=⟨⟩
theorem tw13295450516338180868:True:=⟨⟩
theorem tw11131110688361341958:True:=⟨⟩
theorem tw9668582248955743350:True:=⟨⟩
theorem tw10134937673997068603:True:=⟨⟩
theorem tw732285889002191409:True:=⟨⟩
theorem tw15856066643712479855:True:=⟨⟩
theorem tw3857923755957979557:True:=⟨⟩
theorem tw14511140316039046756:True:=⟨⟩
theorem tw942836408384935921:True:=⟨⟩
theorem tw5871234626673427225:True:=⟨⟩
theorem tw1033568242453775902:True:=⟨⟩
theorem tw1155089362313707034:True:=⟨⟩
theorem tw10638232462058522259:True:=⟨⟩
theorem tw1416251688210398262:True:=⟨⟩
theorem tw5162029613868249521:True:=⟨⟩
theorem tw15648227085759651367:True:=⟨⟩
theorem tw810575980319651609:True:=⟨⟩
theorem tw12250215192581092145:True:=⟨⟩
theorem tw1430200234362995300:True:=⟨⟩
theorem tw10974777165621627384:True:=⟨⟩
theorem tw10603831859100685612:True:=⟨⟩
theorem tw2080050547863622873:True:=⟨⟩
theorem tw14844679028789027505:True:=⟨⟩
theorem tw14744138749853388641:True:=⟨⟩
theorem tw14675840963373924041:True:=⟨⟩
theorem tw3554029725308170278:True:=⟨⟩
theorem tw4805381796059786770:True:=⟨⟩
theorem tw12695939710596667161:True:=⟨⟩
theorem tw8446555474462960716:True:=⟨⟩
theorem tw15989202520596919403:True:=⟨⟩
theorem tw5689504365653909060:True:=⟨⟩
theorem tw12869076108638892508:True:=⟨⟩
theorem tw1688420434345884342:True:=⟨⟩
theorem tw17155421240344126422:True:=⟨⟩
theorem tw15823194676812051158:True:=⟨⟩
theorem tw587199450639122655:True:=⟨⟩
theorem tw13115469350358426457:True:=⟨⟩
theorem tw172405501789532597:True:=⟨⟩
theorem tw14506706089657609709:True:=⟨⟩
theorem tw9127658020064009945:True:=⟨⟩
theorem tw2503499282318071629:True:=⟨⟩
theorem tw2607639594058187323:True:=⟨⟩
theorem tw8942807497487494372:True:=⟨⟩
theorem tw1076143310752063314:True:=⟨⟩
theorem tw12316258807512277458:True:=⟨⟩
theorem tw3637902282701876870:True:=⟨⟩
theorem tw13103893211807487552:True:=⟨⟩
theorem tw12158223812524566048:True:=⟨⟩
theorem tw6044840246207210806:True:=⟨⟩
theorem tw11550156956190782191:True:=⟨⟩
theorem tw2412239686176785353:True:=⟨⟩
theorem tw17645807113289211446:True:=⟨⟩
theorem tw11149218064031201386:True:=⟨⟩
theorem tw4139541663705592446:True:=⟨⟩
theorem tw4695251215133767866:True:=⟨⟩
theorem tw17589883048164137797:True:=⟨⟩
theorem tw18091076832943379236:True:=⟨⟩
theorem tw5507292016929835190:True:=⟨⟩
theorem tw7259406236233082313:True:=⟨⟩
theorem tw17020459451866681464:True:=⟨⟩
theorem tw5288126843142822541:True:=⟨⟩
theorem tw7005125950314497351:True:=⟨⟩
theorem tw814371829179339420:True:=⟨⟩
theorem tw6472443588645539529:True:=⟨⟩
theorem tw2185155333933150394:True:=⟨⟩
theorem tw1538513323035115087:True:=⟨⟩
theorem tw10597278769799074722:True:=⟨⟩
theorem tw11814703283747548087:True:=⟨⟩
theorem tw5551152733860932931:True:=⟨⟩
theorem tw8138383461784440564:True:=⟨⟩
theorem tw16561153212608993396:True:=⟨⟩
theorem tw10640842516546503764:True:=⟨⟩
theorem tw15003206415613227996:True:=⟨⟩
theorem tw18416322755814063292:True:=⟨⟩
theorem tw683776348030201705:True:=⟨⟩
theorem tw8445391589798917928:True:=⟨⟩
theorem tw11704196683206468483:True:=⟨⟩
theorem tw7486461954526236633:True:=⟨⟩
theorem tw8253979857997594081:True:=⟨⟩
theorem tw17168376924323927338:True:=⟨⟩
theorem tw758930586034997453:True:=⟨⟩
theorem tw14339042277437683895:True:=⟨⟩
theorem tw7067235323011585950:True:=⟨⟩
theorem tw14734337974011931092:True:=⟨⟩
theorem tw15244641309518253374:True:=⟨⟩
theorem tw12801169018494905:True:=⟨⟩
theorem tw17104681411141506295:True:=⟨⟩
theorem tw17384901368354577034:True:=⟨⟩
theorem tw11802690618095706504:True:=⟨⟩
theorem tw10504104918540872577:True:=⟨⟩
theorem tw2436021431087648427:True:=⟨⟩
theorem tw8412236127225829092:True:=⟨⟩
theorem tw2154903798442223680:True:=⟨⟩
theorem tw10738245605579205732:True:=⟨⟩
theorem tw18415992852651416308:True:=⟨⟩
theorem tw10593977446278005030:True:=⟨⟩
theorem tw6315990582962994002:True:=⟨⟩
theorem tw13900048372404521816:True:=⟨⟩
theorem tw17572573568239515046:True:=⟨⟩
theorem tw4246950795363025332:True:=⟨⟩
theorem tw382080126803288609:True:=⟨⟩
theorem tw6239440520795913316:True:=⟨⟩
theorem tw14551817143014657976:True:=⟨⟩
theorem tw7901178720026564387:True:=⟨⟩
theorem tw1778062575227646762:True:=⟨⟩
theorem tw691420036491789929:True:=⟨⟩
theorem tw18120449419398972868:True:=⟨⟩
theorem tw9261476329455286833:True:=⟨⟩
theorem tw13339783111306916544:True:=⟨⟩
theorem tw11310949426309355920:True:=⟨⟩
theorem tw9868010803901066290:True:=⟨⟩
theorem tw8799398937356710794:True:=⟨⟩
theorem tw2815332884962953181:True:=⟨⟩
theorem tw7877749132924245316:True:=⟨⟩
theorem tw15204361487398358928:True:=⟨⟩
theorem tw13766658110283052567:True:=⟨⟩
theorem tw16393584092308093103:True:=⟨⟩
theorem tw9863371473080717221:True:=⟨⟩
theorem tw16999909745761339633:True:=⟨⟩
theorem tw1613274243555610060:True:=⟨⟩
theorem tw18054669876919281601:True:=⟨⟩
theorem tw11557917709387209098:True:=⟨⟩
theorem tw11639809243942380494:True:=⟨⟩
theorem tw239472091312732518:True:=⟨⟩
theorem tw11126326171762262951:True:=⟨⟩
theorem tw16374924886264820448:True:=⟨⟩
theorem tw13897819679257158878:True:=⟨⟩
theorem tw9160199203001610493:True:=⟨⟩
theorem tw1393821303544668247:True:=⟨⟩
theorem tw3914420350477617830:True:=⟨⟩
theorem tw3217242383033418415:True:=⟨⟩
theorem tw3883803960358954413:True:=⟨⟩
theorem tw2316588014555558655:True:=⟨⟩
theorem tw15605238131283803041:True:=⟨⟩
theorem tw13876160688257079164:True:=⟨⟩
theorem tw2405907442044897413:True:=⟨⟩
theorem tw17685103482633159633:True:=⟨⟩
theorem tw13571367627372608667:True:=⟨⟩
theorem tw15333152176422460912:True:=⟨⟩
theorem tw9583867837946301519:True:=⟨⟩
theorem tw5423344703879591414:True:=⟨⟩
theorem tw2854300124748384175:True:=⟨⟩
theorem tw3495072240815209827:True:=⟨⟩
theorem tw3478319844865504517:True:=⟨⟩
theorem tw6857056196304385074:True:=⟨⟩
theorem tw17506681066591363038:True:=⟨⟩
theorem tw881350539596602299:True:=⟨⟩
theorem tw12313937430032262581:True:=⟨⟩
theorem tw10746672047178026401:True:=⟨⟩
theorem tw7229278389050642401:True:=⟨⟩
theorem tw3600797613390785130:True:=⟨⟩
theorem tw9861466950109567056:True:=⟨⟩
theorem tw4816746191267286540:True:=⟨⟩
theorem tw14574748206845428722:True:=⟨⟩
theorem tw3308426180034959300:True:=⟨⟩
theorem tw2674566314833148530:True:=⟨⟩
theorem tw15017820012284915150:True:=⟨⟩
theorem tw15594975738141608017:True:=⟨⟩
theorem tw11553789332389590344:True:=⟨⟩
theorem tw3872669179060609566:True:=⟨⟩
theorem tw303519147506933755:True:=⟨⟩
theorem tw13239641269900098263:True:=⟨⟩
theorem tw11963584346158264010:True:=⟨⟩
theorem tw5570737708939728808:True:=⟨⟩
theorem tw5194002143567364237:True:=⟨⟩
theorem tw13717046983780660963:True:=⟨⟩
theorem tw4788120873869562929:True:=⟨⟩
theorem tw2402114508375203229:True:=⟨⟩
theorem tw9518460354247548886:True:=⟨⟩
theorem tw22359201950660172:True:=⟨⟩
theorem tw11988206679350125778:True:=⟨⟩
theorem tw3553234313880878422:True:=⟨⟩
theorem tw8363693721489239173:True:=⟨⟩
theorem tw386466376457145079:True:=⟨⟩
theorem tw17104679539582055602:True:=⟨⟩
theorem tw15726634114139083459:True:=⟨⟩
theorem tw4017450068301423764:True:=⟨⟩
theorem tw10754034317064989563:True:=⟨⟩
theorem tw5621688857141767919:True:=⟨⟩
theorem tw9180084960218043714:True:=⟨⟩
theorem tw16952098488641116774:True:=⟨⟩
theorem tw3164671122008315854:True:=⟨⟩
theorem tw15128361358699335372:True:=⟨⟩
theorem tw5852271354152126221:True:=⟨⟩
theorem tw17218364739571083339:True:=⟨⟩
theorem tw6308802386068017161:True:=⟨⟩
theorem tw4848926480722573275:True:=⟨⟩
theorem tw246717579160196202:True:=⟨⟩
theorem tw100667320947321676:True:=⟨⟩
theorem tw12505047988162601636:True:=⟨⟩
theorem tw10924429689893275568:True:=⟨⟩
theorem tw8854266276979183454:True:=⟨⟩
theorem tw3782244275870615446:True:=⟨⟩
theorem tw10377234546440052494:True:=⟨⟩
theorem tw1331228941772751255:True:=⟨⟩
theorem tw8645038691181849571:True:=⟨⟩
theorem tw18396168633648385774:True:=⟨⟩
theorem tw15303995196199602215:True:=⟨⟩
theorem tw15795726080750525593:True:=⟨⟩
theorem tw17933561311057550599:True:=⟨⟩
theorem tw10503622013130655253:True:=⟨⟩
theorem tw4175949650931745773:True:=⟨⟩
theorem tw13062268739554968417:True:=⟨⟩
theorem tw16207811978750126026:True:=⟨⟩
theorem tw2385392592720073386:True:=⟨⟩
theorem tw11211571869364446621:True:=⟨⟩
theorem tw4139803205602081837:True:=⟨⟩
theorem tw10761340877758040235:True:=⟨⟩
theorem tw16295482076658390163:True:=⟨⟩
theorem tw8140066151256386942:True:=⟨⟩
theorem tw6272017782905052208:True:=⟨⟩
theorem tw1436171123442739359:True:=⟨⟩
theorem tw12152893078959012448:True:=⟨⟩
theorem tw11794705802709836771:True:=⟨⟩
theorem tw14640247505577651215:True:=⟨⟩
theorem tw14842514256295509306:True:=⟨⟩
theorem tw3988425911942144694:True:=⟨⟩
theorem tw8923034423818068242:True:=⟨⟩
theorem tw13405369803119703364:True:=⟨⟩
theorem tw17027335288685638923:True:=⟨⟩
theorem tw7308876298157241364:True:=⟨⟩
theorem tw8805007590177380641:True:=⟨⟩
theorem tw3731583226354915733:True:=⟨⟩
theorem tw5001561038998952582:True:=⟨⟩
theorem tw1436761130999462430:True:=⟨⟩
theorem tw18238344082589209252:True:=⟨⟩
theorem tw10490698489735269788:True:=⟨⟩
theorem tw11655535588908515985:True:=⟨⟩
theorem tw16361096687276489660:True:=⟨⟩
theorem tw12513658468617426676:True:=⟨⟩
theorem tw2074316618860537261:True:=⟨⟩
theorem tw7247666235521796234:True:=⟨⟩
theorem tw11339428563730952374:True:=⟨⟩
theorem tw9151130898054969744:True:=⟨⟩
theorem tw8582114520150798052:True:=⟨⟩
theorem tw12006050380146132655:True:=⟨⟩
theorem tw17911685948362558405:True:=⟨⟩
theorem tw5990039702346297930:True:=⟨⟩
theorem tw7280169993099576825:True:=⟨⟩
theorem tw4129196683533421132:True:=⟨⟩
theorem tw943785934198363867:True:=⟨⟩
theorem tw7397199126763749535:True:=⟨⟩
theorem tw6183505217054416754:True:=⟨⟩
theorem tw8256782869591879431:True:=⟨⟩
theorem tw7563407969452711119:True:=⟨⟩
theorem tw13875765140663647741:True:=⟨⟩
theorem tw12190847167316442916:True:=⟨⟩
theorem tw3804184801294845702:True:=⟨⟩
theorem tw6669925149324131031:True:=⟨⟩
theorem tw14603546774046928307:True:=⟨⟩
theorem tw3406413434549843805:True:=⟨⟩
theorem tw15344219532048340376:True:=⟨⟩
theorem tw16632579391251050233:True:=⟨⟩
theorem tw14347216406692075604:True:=⟨⟩
theorem tw1145395200854401364:True:=⟨⟩
theorem tw15984268209282870581:True:=⟨⟩
theorem tw16327792136018162558:True:=⟨⟩
theorem tw5500807804475085634:True:=⟨⟩
theorem tw18229150567708482206:True:=⟨⟩
theorem tw8304673352321663298:True:=⟨⟩
theorem tw9182205957854789078:True:=⟨⟩
theorem tw10565892877917499702:True:=⟨⟩
theorem tw11683392439143287611:True:=⟨⟩
theorem tw1764662245369228851:True:=⟨⟩
theorem tw9480645726692930225:True:=⟨⟩
theorem tw2542183897716118258:True:=⟨⟩
theorem tw10492485335315130094:True:=⟨⟩
theorem tw1882549989113515888:True:=⟨⟩
theorem tw4816862412292914387:True:=⟨⟩
theorem tw7014052778999534454:True:=⟨⟩
theorem tw12014925851010389130:True:=⟨⟩
theorem tw9006074525552166957:True:=⟨⟩
theorem tw5653714177957824019:True:=⟨⟩
theorem tw5072314331756064893:True:=⟨⟩
theorem tw671032475344441416:True:=⟨⟩
theorem tw5656796537167597365:True:=⟨⟩
theorem tw3196130932014556021:True:=⟨⟩
theorem tw9458103671668389245:True:=⟨⟩
theorem tw8544966791327556207:True:=⟨⟩
theorem tw4187107996768427498:True:=⟨⟩
theorem tw16879059869065543574:True:=⟨⟩
theorem tw5895294333839221029:True:=⟨⟩
theorem tw615317841295360703:True:=⟨⟩
theorem tw14448513775384156180:True:=⟨⟩
theorem tw7550383552629485213:True:=⟨⟩
theorem tw11527427098296382409:True:=⟨⟩
theorem tw6067790466220053876:True:=⟨⟩
theorem tw11563049142587363655:True:=⟨⟩
theorem tw16438234719678762766:True:=⟨⟩
theorem tw8361234643152231888:True:=⟨⟩
theorem tw9143475870372947909:True:=⟨⟩
theorem tw2768435948399330102:True:=⟨⟩
theorem tw11164188677437580129:True:=⟨⟩
theorem tw1588896252150178734:True:=⟨⟩
theorem tw12675658067490899768:True:=⟨⟩
theorem tw10517795234443383647:True:=⟨⟩
theorem tw7732101932918429224:True:=⟨⟩
theorem tw8367414585256801101:True:=⟨⟩
theorem tw17429549895219734144:True:=⟨⟩
theorem tw5582093081858631562:True:=⟨⟩
theorem tw13368251897278892510:True:=⟨⟩
theorem tw8763838382256505328:True:=⟨⟩
theorem tw6800791337578447898:True:=⟨⟩
theorem tw13440674409297790555:True:=⟨⟩
theorem tw14328038600375365732:True:=⟨⟩
theorem tw11327385927887157188:True:=⟨⟩
theorem tw6532472055023544924:True:=⟨⟩
theorem tw10617156552060445288:True:=⟨⟩
theorem tw8713118796954855941:True:=⟨⟩
theorem tw6562767515881221725:True:=⟨⟩
theorem tw16171077908592494597:True:=⟨⟩
theorem tw12144589104907510716:True:=⟨⟩
theorem tw11184671385194389941:True:=⟨⟩
theorem tw7938579949672835097:True:=⟨⟩
theorem tw3422333159983307401:True:=⟨⟩
theorem tw4252947625783823543:True:=⟨⟩
theorem tw8072831130003292552:True:=⟨⟩
theorem tw13496865134753571145:True:=⟨⟩
theorem tw15180376446347356093:True:=⟨⟩
theorem tw2979527264181238853:True:=⟨⟩
theorem tw7167618934175164032:True:=⟨⟩
theorem tw3604962382610521076:True:=⟨⟩
theorem tw7358726070712555973:True:=⟨⟩
theorem tw7444568892075178341:True:=⟨⟩
theorem tw9961015512034598818:True:=⟨⟩
theorem tw3377951179777974889:True:=⟨⟩
end PySem.W.Fast
open PySem PySem.W PyProof.Rows
set_option maxRecDepth 100000 in
set_option maxHeartbeats 0 in
theorem PySem.Challenge.cw_tariffgate_k35_reasons_hold_up_holds : PySem.Challenge.rw_tariffgate_k35_reasons_hold_up.Holds := by
  w_on; o_law; k_head; (case hw => w_witness2)
  k_fill
  refine My.walk (l := PySem.Challenge.rw_tariffgate_k35_reasons_hold_up) rfl rfl (fun w h Y => PySem.W.kIn_of Y) ?F
  case F =>
    intro w mg fa h KX G hmg
    refine' My.all_mk KX G hmg ?n_Note ?n_OfTwo ?n_Anything ?n_Made ?n_Used ?n_Chief ?n_Over ?n_Both ?n_Either ?n_But ?n_OF_BOTH ?a1 ?l1 ?c1 ?k1 ?a2 ?l2 ?c2 ?k2 ?a3 ?l3 ?c3 ?k3 ?a4 ?l4 ?c4 ?k4 ?a5 ?l5 ?c5 ?k5 ?a6 ?l6 ?c6 ?k6 ?a7 ?l7 ?c7 ?k7 ?a8 ?l8 ?c8 ?k8 ?a9 ?l9 ?c9 ?k9 ?t9 ?a10 ?l10 ?c10 ?k10 ?t10 ?a11 ?l11 ?c11 ?k11 ?t11 ?a12 ?l12 ?c12 ?k12 ?t12 ?a13 ?l13 ?c13 ?k13 ?t13 ?a14 ?l14 ?c14 ?k14 ?a15 ?l15 ?c15 ?k15 ?a16 ?l16 ?c16 ?k16 ?a17 ?l17 ?c17 ?k17 ?a18 ?l18 ?c18 ?k18 ?a19 ?l19 ?c19 ?k19 ?a20 ?l20 ?c20 ?k20 ?a21 ?l21 ?c21 ?k21 ?a22 ?l22 ?c22 ?k22 ?a23 ?l23 ?c23 ?k23 ?a24 ?l24 ?c24 ?k24 ?a25 ?l25 ?c25 ?k25 ?t25 ?a26 ?l26 ?c26 ?k26 ?t26 ?a27 ?l27 ?c27 ?k27 ?t27 ?a28 ?l28 ?c28 ?k28 ?t28 ?a29 ?l29 ?c29 ?k29 ?t29 ?a30 ?l30 ?c30 ?k30 ?t30 ?a31 ?l31 ?c31 ?k31 ?t31 ?a32 ?l32 ?c32 ?k32 ?t32 ?a33 ?l33 ?c33 ?k33 ?a34 ?l34 ?c34 ?k34 ?a35 ?l35 ?c35 ?k35 ?a36 ?l36 ?c36 ?k36 ?a37 ?l37 ?c37 ?k37 ?a38 ?l38 ?c38 ?k38 ?a39 ?l39 ?c39 ?k39 ?a40 ?l40 ?c40 ?k40 ?a41 ?l41 ?c41 ?k41 ?a42 ?l42 ?c42 ?k42 ?a43 ?l43 ?c43 ?k43 ?a44 ?l44 ?c44 ?k44 ?a45 ?l45 ?c45 ?k45 ?a46 ?l46 ?c46 ?k46 ?a47 ?l47 ?c47 ?k47 ?a48 ?l48 ?c48 ?k48 ?a49 ?l49 ?c49 ?k49 ?a50 ?l50 ?c50 ?k50 ?a51 ?l51 ?c51 ?k51 ?a52 ?l52 ?c52 ?k52 ?a53 ?l53 ?c53 ?k53 ?a54 ?l54 ?c54 ?k54 ?pg_Anything ?hd_Anything ?po_Anything ?sa_Anything ?ia_Anything ?im_Anything ?mk_Anything ?kc_Anything ?in_Anything ?pg_Made ?hd_Made ?po_Made ?sa_Made ?ia_Made ?im_Made ?mk_Made ?kc_Made ?pg_Used ?hd_Used ?po_Used ?sa_Used ?ia_Used ?im_Used ?mk_Used ?kc_Used ?pg_Chief ?hd_Chief ?po_Chief ?sa_Chief ?ia_Chief ?im_Chief ?mk_Chief ?kc_Chief ?pg_Over ?hd_Over ?po_Over ?sa_Over ?ia_Over ?im_Over ?mk_Over ?kc_Over ?pg_Both ?hd_Both ?po_Both ?sa_Both ?ia_Both ?im_Both ?mk_Both ?kc_Both ?pg_Either ?hd_Either ?po_Either ?sa_Either ?ia_Either ?im_Either ?mk_Either ?kc_Either ?pg_But ?hd_But ?po_But ?sa_But ?ia_But ?im_But ?mk_But ?kc_But ?oget ?otakes ?na_Made_stuff ?na_Used_use ?na_Chief_stuff ?na_Over_one ?na_Over_other ?na_Both_one ?na_Both_other ?na_Either_one ?na_Either_other ?na_But_one ?na_But_other ?in_Both ?in_Either ?in_But ?z_reversed ?sm_OB ?ob_OB ?h1_OB ?h2_OB ?h3_OB ?z_len ?z_range ?z_abs ?z_max ?z_min ?z_isinstance ?z_int ?z_bool ?z_str ?z_list ?z_tuple ?z_sum ?z_all ?z_enumerate ?z_zip ?z_ValueError ?z_any ?z_set ?z_sorted
    case n_Note | n_OfTwo | n_Anything | n_Made | n_Used | n_Chief | n_Over | n_Both | n_Either | n_But | n_OF_BOTH | a1 | l1 | c1 | k1 | a2 | l2 | c2 | k2 | a3 | l3 | c3 | k3 | a4 | l4 | c4 | k4 | a5 | l5 | c5 | k5 | a6 | l6 | c6 | k6 | a7 | l7 | c7 | k7 | a8 | l8 | c8 | k8 | a9 | l9 | c9 | k9 | t9 | a10 | l10 | c10 | k10 | t10 | a11 | l11 | c11 | k11 | t11 | a12 | l12 | c12 | k12 | t12 | a13 | l13 | c13 | k13 | t13 | a14 | l14 | c14 | k14 | a15 | l15 | c15 | k15 | a16 | l16 | c16 | k16 | a17 | l17 | c17 | k17 | a18 | l18 | c18 | k18 | a19 | l19 | c19 | k19 | a20 | l20 | c20 | k20 | a21 | l21 | c21 | k21 | a22 | l22 | c22 | k22 | a23 | l23 | c23 | k23 | a24 | l24 | c24 | k24 | a25 | l25 | c25 | k25 | t25 | a26 | l26 | c26 | k26 | t26 | a27 | l27 | c27 | k27 | t27 | a28 | l28 | c28 | k28 | t28 | a29 | l29 | c29 | k29 | t29 | a30 | l30 | c30 | k30 | t30 | a31 | l31 | c31 | k31 | t31 | a32 | l32 | c32 | k32 | t32 | a33 | l33 | c33 | k33 | a34 | l34 | c34 | k34 | a35 | l35 | c35 | k35 | a36 | l36 | c36 | k36 | a37 | l37 | c37 | k37 | a38 | l38 | c38 | k38 | a39 | l39 | c39 | k39 | a40 | l40 | c40 | k40 | a41 | l41 | c41 | k41 | a42 | l42 | c42 | k42 | a43 | l43 | c43 | k43 | a44 | l44 | c44 | k44 | a45 | l45 | c45 | k45 | a46 | l46 | c46 | k46 | a47 | l47 | c47 | k47 | a48 | l48 | c48 | k48 | a49 | l49 | c49 | k49 | a50 | l50 | c50 | k50 | a51 | l51 | c51 | k51 | a52 | l52 | c52 | k52 | a53 | l53 | c53 | k53 | a54 | l54 | c54 | k54 | pg_Anything | hd_Anything | po_Anything | sa_Anything | ia_Anything | im_Anything | mk_Anything | kc_Anything | in_Anything | pg_Made | hd_Made | po_Made | sa_Made | ia_Made | im_Made | mk_Made | kc_Made | pg_Used | hd_Used | po_Used | sa_Used | ia_Used | im_Used | mk_Used | kc_Used | pg_Chief | hd_Chief | po_Chief | sa_Chief | ia_Chief | im_Chief | mk_Chief | kc_Chief | pg_Over | hd_Over | po_Over | sa_Over | ia_Over | im_Over | mk_Over | kc_Over | pg_Both | hd_Both | po_Both | sa_Both | ia_Both | im_Both | mk_Both | kc_Both | pg_Either | hd_Either | po_Either | sa_Either | ia_Either | im_Either | mk_Either | kc_Either | pg_But | hd_But | po_But | sa_But | ia_But | im_But | mk_But | kc_But | oget | otakes | na_Made_stuff | na_Used_use | na_Chief_stuff | na_Over_one | na_Over_other | na_Both_one | na_Both_other | na_Either_one | na_Either_other | na_But_one | na_But_other | in_Both | in_Either | in_But | z_reversed | sm_OB | ob_OB | h1_OB | h2_OB | h3_OB | z_len | z_range | z_abs | z_max | z_min | z_isinstance | z_int | z_bool | z_str | z_list | z_tuple | z_sum | z_all | z_enumerate | z_zip | z_ValueError | z_any | z_set | z_sorted => first | k_is | k_exc | kit_is | rfl | decide
#print axioms PySem.Challenge.cw_tariffgate_k35_reasons_hold_up_holds

