import PyProof.Rows.All
import Wide.All
import OpenK.AllK
import Wide.FinOn
import Lean
import PyProof.EqAt
import PyProof.EqKinds
import PyProof.TupleCall
import PyProof.NeKinds
import PyProof.Draws
import PyProof.EnumMake
import PyProof.WalksEnum
import PyProof.Rows.EnumRows
import PyProof.ExcArgsOwn
import PyProof.ExcAttrAll.ValueError
import PyProof.ExcBaseAll.ValueError
import KE.KIsAll
import KE.KTryOn
import KE.RegKIsAll
import OpenK.KOwn
import PyProof.ZipIter
import PyProof.StrWalks
import PyProof.DictTable
import PyProof.SetNew
import PyProof.SetRoads
import PyProof.P3In
import PyProof.NeData
import PyProof.AttrMissSeq
import KE.KDictOf
import KE.KDictSum
import PyProof.Rows.SortStr
import PySem.Challenge.RW_tariffgate_k52_tables_come_to_prices
set_option Elab.async false
set_option linter.all false
set_option maxRecDepth 100000
namespace L2
open PySem PySem.Spec PyProof.Rows

abbrev Key := Sum Int Str
def lD : Key → Value → Bool
  | .inl k, v => Value.isInt k v
  | .inr x, v => Value.isStrOf x v
def wu (w : World) : Key → Int
  | .inl k => hashInt k
  | .inr x => hashStr w x
theorem jm : ∀ {k : Key} {v : Value}, lD k v = true → (∃ i t, k = Sum.inl i ∧ v = Value.int i t) ∨ (∃ x t, k = Sum.inr x ∧ v = Value.str x t)
  | .inl i, v, h => by
    obtain ⟨t, e⟩ := Value.isInt_shape (k := i) (v := v) h
    exact .inl ⟨i, t, rfl, e⟩
  | .inr x, v, h => by
    obtain ⟨t, e⟩ := Value.isStrOf_shape (x := x) (v := v) h
    exact .inr ⟨x, t, rfl, e⟩
theorem rR (i : Int) (t : Tok) : lD (.inl i) (.int i t) = true := by simp [lD, Value.isInt]
theorem sA (x : Str) (t : Tok) : lD (.inr x) (.str x t) = true := by simp [lD, Value.isStrOf]
theorem vj (a b : Int) : decide ((Sum.inl a : Key) = Sum.inl b) = (a == b) := by
  by_cases e : a = b
  · subst e; simp
  · have h : ¬ (Sum.inl a : Key) = Sum.inl b := fun q => e (Sum.inl.inj q)
    rw [decide_eq_false h]
    exact (beq_eq_false_iff_ne.mpr e).symm
theorem vF (a b : Str) : decide ((Sum.inr a : Key) = Sum.inr b) = decide (a = b) := by
  by_cases e : a = b
  · subst e; simp
  · have h : ¬ (Sum.inr a : Key) = Sum.inr b := fun q => e (Sum.inr.inj q)
    rw [decide_eq_false h, decide_eq_false e]
theorem vI (a : Int) (b : Str) : decide ((Sum.inl a : Key) = Sum.inr b) = false := decide_eq_false (fun q => nomatch q)
theorem vM (a : Str) (b : Int) : decide ((Sum.inr a : Key) = Sum.inl b) = false := decide_eq_false (fun q => nomatch q)

def jb (prog : Program) (w : World) : PySem.KeyKind prog w Key where
  is := lD
  hash := wu w
  inj := fun v a b ha hb => by
    rcases jm ha with ⟨i, t, rfl, rfl⟩ | ⟨x, t, rfl, rfl⟩
    · rcases jm hb with ⟨j, u, rfl, e⟩ | ⟨y, u, rfl, e⟩
      · injection e with e1 _; rw [e1]
      · exact nomatch e
    · rcases jm hb with ⟨j, u, rfl, e⟩ | ⟨y, u, rfl, e⟩
      · exact nomatch e
      · injection e with e1 _; rw [e1]
  byValue := fun k v h => by
    rcases jm h with ⟨i, t, rfl, rfl⟩ | ⟨x, t, rfl, rfl⟩ <;> rfl
  pyHash := fun hv h => by
    rcases jm hv with ⟨i, t, rfl, rfl⟩ | ⟨x, t, rfl, rfl⟩
    · exact wpAny_pyHash_int h
    · exact wpAny_pyHash_str h
  eqBool := fun hu hv h => by
    rcases jm hu with ⟨i, t, rfl, rfl⟩ | ⟨x, t, rfl, rfl⟩
    · rcases jm hv with ⟨j, u, rfl, rfl⟩ | ⟨y, u, rfl, rfl⟩
      · rw [vj] at h; exact wpAny_eqBool_int h
      · rw [vI] at h; exact SeqAt.EqAt.int_str i t y u _ _ _ _ h
    · rcases jm hv with ⟨j, u, rfl, rfl⟩ | ⟨y, u, rfl, rfl⟩
      · rw [vM] at h; exact SeqAt.EqAt.str_int x t j u _ _ _ _ h
      · rw [vF] at h; exact wpAny_eqBool_str h
  «strs» := fun k x t v h => by
    rcases jm h with ⟨i, u, rfl, e⟩ | ⟨y, u, rfl, e⟩
    · exact nomatch e
    · injection e with e1 _
      subst e1
      cases v <;> rfl

theorem pB (prog : Program) (w : World) (i : Int) (t : Tok) : (jb prog w).is (.inl i) (.int i t) = true := rR i t
theorem pe (prog : Program) (w : World) (x : Str) (t : Tok) : (jb prog w).is (.inr x) (.str x t) = true := sA x t
end L2

namespace L2
open PySem PySem.Spec PyProof.Rows

inductive V where
  | non | bl (b : Bool) | int (i : Int) | str (x : Str) | byt (b : Array UInt8) | flt (b : UInt64) | ref (a : Addr) | ty (n : String)
  deriving DecidableEq

def RelV : V → Value → Prop
  | .non, u => u = Value.none
  | .bl b, u => u = Value.bool b
  | .int i, u => ∃ t, u = Value.int i t
  | .str x, u => ∃ t, u = Value.str x t
  | .byt b, u => ∃ t, u = Value.bytes b t
  | .flt b, u => ∃ t, u = Value.float b t
  | .ref a, u => u = Value.ref a
  | .ty n, u => u = Value.type n

abbrev Vals : List V → List Value → Prop := Paired RelV
theorem Vals.length {xs : List V} {us : List Value} (r : Vals xs us) : xs.length = us.length := Paired.length r
theorem Vals.get : ∀ {xs : List V} {us : List Value} {i : Nat} {x : V}, Vals xs us → xs[i]? = some x → ∃ u, us[i]? = some u ∧ RelV x u
  | _, _, _, _, .nil, e => by simp at e
  | _, _, 0, _, .cons r _, e => by simp at e; subst e; exact ⟨_, rfl, r⟩
  | _, _, i + 1, x, .cons _ t, e => by
    obtain ⟨u, h1, h2⟩ := Vals.get (i := i) (x := x) t (by simpa using e)
    exact ⟨u, by simpa using h1, h2⟩
theorem Vals.set {x : V} {u : Value} (r : RelV x u) : ∀ {xs : List V} {us : List Value} (i : Nat), Vals xs us → Vals (xs.set i x) (us.set i u)
  | _, _, _, .nil => .nil
  | _, _, 0, .cons _ t => .cons r t
  | _, _, i + 1, .cons q t => .cons q (Vals.set r i t)
theorem Vals.append : ∀ {xs ys : List V} {us ws : List Value}, Vals xs us → Vals ys ws → Vals (xs ++ ys) (us ++ ws)
  | _, _, _, _, .nil, s => s
  | _, _, _, _, .cons r t, s => .cons r (Vals.append t s)
theorem Vals.take : ∀ {xs : List V} {us : List Value} (n : Nat), Vals xs us → Vals (xs.take n) (us.take n)
  | _, _, 0, _ => .nil
  | _, _, _ + 1, .nil => .nil
  | _, _, n + 1, .cons r t => .cons r (Vals.take n t)
theorem Vals.drop : ∀ {xs : List V} {us : List Value} (n : Nat), Vals xs us → Vals (xs.drop n) (us.drop n)
  | _, _, 0, r => r
  | _, _, _ + 1, .nil => .nil
  | _, _, n + 1, .cons _ t => Vals.drop n t
def RelO : Option V → Option Value → Prop
  | some v, some u => RelV v u
  | none, none => True
  | _, _ => False
def KV {κ : Type} : List (κ × V) → List (κ × Value) → Prop := Paired fun (p : κ × V) (q : κ × Value) => p.1 = q.1 ∧ RelV p.2 q.2

def kV : Key → V
  | .inl i => .int i
  | .inr x => .str x

inductive HO where
  /-- a list -/
  | lst (xs : List V)
  /-- a tuple (never changes) -/
  | tup (xs : List V)
  /-- a dict whose keys are ints and texts; one whose keys are tuples of ints and texts (the empty one is both) -/
  | dK (kvs : List (Key × V)) | dT (kvs : List (List Key × V))
  /-- a set of ints: its members, its size -/
  | set (S : Int → Bool) (n : Nat)
  /-- an instance of the class at C, its dict at dx, its attributes -/
  | ins (C dx : Addr) (fs : List (Str × V))
  /-- the dict of the instance at x -/
  | own (x : Addr)
  /-- the dict of an exception -/
  | xd (fs : List (Str × V))
  /-- a bound method, f of x -/
  | met (f x : Addr)
  /-- a range object lo, lo + 1, .. below hi -/
  | rng (lo hi : Int)
  /-- a thing that is known to the object (the script; a dict while a loop walks it): read, never written while it is so -/
  | frz (o : Obj) (u : HO)
  /-- a code object's table -/
  | tbl (ps : Array Value)
  /-- any other thing, by what is true of its one object (a def of one's own: SetO a S n := HO.ext fun h => ..) -/
  | ext (φ : Heap → Prop)

abbrev Hp := Addr → Option HO
def upd (H : Hp) (a : Addr) (o : HO) : Hp := fun b => if b = a then some o else H b
theorem fz {H : Hp} {a : Addr} {o : HO} : upd H a o a = some o := by unfold upd; rw [if_pos rfl]
theorem i9 {H : Hp} {a b : Addr} {o : HO} (h : b ≠ a) : upd H a o b = H b := by unfold upd; rw [if_neg h]
theorem nU {H : Hp} {a b : Addr} {o u : HO} (h : H a = some o) (h' : H b = some u) (d : o ≠ u) : a ≠ b := by
  intro e; subst e; rw [h] at h'; exact d (Option.some.inj h')
theorem jA {H : Hp} {a b : Addr} {o : HO} (h : H a = some o) (h' : H b = none) : a ≠ b := by
  intro e; subst e; rw [h] at h'; cases h'

section
variable (P : Program) (w : World)
def NoD (h : Heap) (a : Addr) : Prop := ∃ o, h.get? a = some o ∧ o.dict = none
def ObjOk (H : Hp) (h : Heap) (a : Addr) : HO → Prop
  | .lst xs => xs.length ≤ sizeLine ∧ ∃ (its : List Value) (n : Nat), Vals xs its ∧ h.get? a = some { cls := .type "list", data := .seq its.toArray n }
  | .tup xs => xs.length ≤ sizeLine ∧ ∃ its : List Value, Vals xs its ∧ IsTup h a its.toArray ∧ NoD h a
  | .dK kvs => kvs.length ≤ sizeLine ∧ (a == sysModules) = false ∧ ∃ vs, KV kvs vs ∧ h.DictOf (jb P w) a vs
  | .dT kvs => kvs.length ≤ sizeLine ∧ (a == sysModules) = false ∧ ∃ xs : List (List Key × Addr × Value),
      Paired (fun (p : List Key × V) (q : List Key × Addr × Value) => p.1 = q.1 ∧ H q.2.1 = some (.tup (p.1.map kV)) ∧ RelV p.2 q.2.2) kvs xs ∧
      ∃ o es ep, h.get? a = some o ∧ o.ExactDict ∧ o.data = .dict es ep ∧ es.toList = xs.map (entryOfKey (tupleKind (jb P w))) ∧ (xs.map (·.1)).Nodup
  | .set S n => h.SetOf (intKind P w) a S n
  | .ins C dx fs => H dx = some (.own a) ∧ fs.length ≤ 1000 ∧ dx ≠ a ∧ h.get? a = some (PySem.W.instObj C dx) ∧
      ∃ mA, h.Ns1 dx mA ∧ (∀ f, RelO (fs.lookup f) (mA f)) ∧ PySem.Within mA (fs.map (·.1))
  | .own _ => ∃ o, h.get? a = some o
  | .xd fs => ∃ mA, h.Ns1 a mA ∧ ∀ f, RelO (fs.lookup f) (mA f)
  | .rng lo hi => ∃ t u v, h.get? a = some { cls := .type "range", data := .fields #[.int lo t, .int hi u, .int 1 v] }
  | .frz o u => h.get? a = some o ∧ ObjOk H h a u
  | .tbl ps => h.get? a = some { cls := .none, data := .fields ps }
  | .met f x => h.get? a = some (PySem.W.methodObj (.ref f) (.ref x))
  | .ext φ => φ h ∧ (∃ o, h.get? a = some o) ∧ ∀ h1 h2 : Heap, φ h1 → (∀ o, h1.get? a = some o → h2.get? a = some o) → φ h2
def HOk (H : Hp) (h : Heap) : Prop := ∀ a o, H a = some o → ObjOk P w H h a o
end

section
variable {P : Program} {w : World} {H H' : Hp} {h h' : Heap} {a : Addr} {o : HO}
theorem ObjOk.lt (x : ObjOk P w H h a o) : a < h.objs.size := by
  cases o with
  | lst xs => obtain ⟨_, _, _, _, e⟩ := x; exact Heap.lt_size e
  | tup xs => obtain ⟨_, _, _, p, _⟩ := x; exact p.lt
  | dK kvs => obtain ⟨_, _, _, _, o, _, _, e, _⟩ := x; exact Heap.lt_size e
  | dT kvs => obtain ⟨_, _, _, _, o, _, _, e, _⟩ := x; exact Heap.lt_size e
  | set S n => obtain ⟨o, _, _, _, e, _⟩ := x; exact Heap.lt_size e
  | ins C dx fs => obtain ⟨_, _, _, e, _⟩ := x; exact Heap.lt_size e
  | own y => obtain ⟨_, e⟩ := x; exact Heap.lt_size e
  | xd fs => obtain ⟨_, ⟨_, _, _, e, _⟩, _⟩ := x; exact Heap.lt_size e
  | rng lo hi => obtain ⟨_, _, _, e⟩ := x; exact Heap.lt_size e
  | frz ob u => obtain ⟨e, _⟩ := x; exact Heap.lt_size e
  | tbl ps => exact Heap.lt_size (show h.get? a = some _ from x)
  | met f y => exact Heap.lt_size (show h.get? a = some _ from x)
  | ext φ => obtain ⟨_, ⟨_, e⟩, _⟩ := x; exact Heap.lt_size e
theorem Paired.mapP {α β : Type} {F G : α → β → Prop} : ∀ {l₁ : List α} {l₂ : List β}, Paired F l₁ l₂ → (∀ a b, F a b → G a b) → Paired G l₁ l₂
  | _, _, .nil, _ => .nil
  | _, _, .cons r t, f => .cons (f _ _ r) (Paired.mapP t f)
theorem ObjOk.stay (x : ObjOk P w H h a o) (k : ∀ b u, (b = a ∨ H b = some (.own a)) → h.get? b = some u → h'.get? b = some u)
    (ho : ∀ b, H b = some (.own a) → H' b = some (.own a)) (ht : ∀ b xs, H b = some (.tup xs) → H' b = some (.tup xs)) : ObjOk P w H' h' a o := by
  induction o with
  | lst xs => obtain ⟨z, its, n, r, e⟩ := x; exact ⟨z, its, n, r, k _ _ (.inl rfl) e⟩
  | tup xs => obtain ⟨z, its, r, ⟨ob, e, c⟩, o2, e2, d2⟩ := x; exact ⟨z, its, r, ⟨ob, k _ _ (.inl rfl) e, c⟩, o2, k _ _ (.inl rfl) e2, d2⟩
  | dK kvs => obtain ⟨z, y, vs, r, ob, es, ep, e, c⟩ := x; exact ⟨z, y, vs, r, ob, es, ep, k _ _ (.inl rfl) e, c⟩
  | dT kvs =>
    obtain ⟨z, y, xs, r, ob, es, ep, e, c⟩ := x
    exact ⟨z, y, xs, Paired.mapP r fun p q z => ⟨z.1, ht _ _ z.2.1, z.2.2⟩, ob, es, ep, k _ _ (.inl rfl) e, c⟩
  | set S n => obtain ⟨ob, es, ep, t, e, c⟩ := x; exact ⟨ob, es, ep, t, k _ _ (.inl rfl) e, c⟩
  | ins C dx fs =>
    obtain ⟨d, z, ne, e, mA, ⟨od, es, ep, e2, c⟩, r⟩ := x
    exact ⟨ho _ d, z, ne, k _ _ (.inl rfl) e, mA, ⟨od, es, ep, k _ _ (.inr d) e2, c⟩, r⟩
  | own y => obtain ⟨ob, e⟩ := x; exact ⟨ob, k _ _ (.inl rfl) e⟩
  | xd fs => obtain ⟨mA, ⟨od, es, ep, e, c⟩, r⟩ := x; exact ⟨mA, ⟨od, es, ep, k _ _ (.inl rfl) e, c⟩, r⟩
  | rng lo hi => obtain ⟨t, u, v, e⟩ := x; exact ⟨t, u, v, k _ _ (.inl rfl) e⟩
  | frz ob u ih => obtain ⟨e, q⟩ := x; exact ⟨k _ _ (.inl rfl) e, ih q⟩
  | tbl ps =>
    have e : h.get? a = some { cls := .none, data := .fields ps } := x
    show h'.get? a = some { cls := .none, data := .fields ps }
    exact k a _ (.inl rfl) e
  | met f y =>
    have e : h.get? a = some (PySem.W.methodObj (.ref f) (.ref y)) := x
    show h'.get? a = some (PySem.W.methodObj (.ref f) (.ref y))
    exact k a _ (.inl rfl) e
  | ext φ => obtain ⟨p, ⟨o, e⟩, st⟩ := x; exact ⟨st _ _ p fun o q => k _ _ (.inl rfl) q, ⟨o, k _ _ (.inl rfl) e⟩, st⟩
theorem HOk.lt (x : HOk P w H h) (e : H a = some o) : a < h.objs.size := (x a o e).lt
theorem HOk.fresh (x : HOk P w H h) (e : h.objs.size ≤ a) : H a = none := by
  cases q : H a with
  | none => rfl
  | some u => exact absurd (Nat.lt_of_lt_of_le (x.lt q) e) (Nat.lt_irrefl _)
theorem HOk.kept (x : HOk P w H h) (k : ∀ b u, h.get? b = some u → h'.get? b = some u) : HOk P w H h' := fun a o e =>
  (x a o e).stay (fun b u _ q => k b u q) (fun _ q => q) fun _ _ q => q
theorem HOk.laid (x : HOk P w H h) (k : ∀ b u, h.get? b = some u → h'.get? b = some u) (hp : h.objs.size ≤ a) (new : ObjOk P w (upd H a o) h' a o) : HOk P w (upd H a o) h' := fun b u e => by
  have hn := x.fresh hp
  by_cases hb : b = a
  · subst hb; rw [fz] at e; cases e; exact new
  · rw [i9 hb] at e
    exact (x b u e).stay (fun c v _ q => k c v q) (fun c q => by rw [i9 (jA q hn)]; exact q) fun c xs q => by rw [i9 (jA q hn)]; exact q
end

def Rd (H : Hp) (a : Addr) (u : HO) : Prop := H a = some u ∨ ∃ o, H a = some (.frz o u)
theorem Rd.ok {P : Program} {w : World} {H : Hp} {h : Heap} {a : Addr} {u : HO} (r : Rd H a u) (x : HOk P w H h) : ObjOk P w H h a u := by
  rcases r with r | ⟨o, r⟩
  · exact x a u r
  · obtain ⟨_, q⟩ := x a _ r
    exact q
def Mut : Option HO → Prop
  | some (.lst _) => True
  | some (.dK _) => True
  | some (.dT _) => True
  | some (.set _ _) => True
  | some (.ins _ _ _) => True
  | some (.ext _) => True
  | _ => False
section
variable {P : Program} {w : World} {H : Hp} {h h' : Heap} {x e : Addr} {o' : HO}
theorem HOk.write (ok : HOk P w H h) (mu : Mut (H x)) (he : e = x ∨ H e = some (.own x)) (k : ∀ b u, b ≠ e → h.get? b = some u → h'.get? b = some u) (heo : ∃ u, h'.get? e = some u)
    (new : ObjOk P w (upd H x o') h' x o') : HOk P w (upd H x o') h' := fun b u q => by
  have nown : ∀ c y, H c = some (.own y) → c ≠ x := fun c y r z => by subst z; rw [r] at mu; exact mu
  have ntup : ∀ c xs, H c = some (.tup xs) → c ≠ x := fun c xs r z => by subst z; rw [r] at mu; exact mu
  by_cases hb : b = x
  · subst hb; rw [fz] at q; cases q; exact new
  · rw [i9 hb] at q
    by_cases hbe : b = e
    · have q' : H b = some (.own x) := by
        rcases he with z | z
        · exact absurd (hbe.trans z) hb
        · rw [hbe]; exact z
      rw [q] at q'; cases q'
      obtain ⟨v, hv⟩ := heo
      exact ⟨v, by rw [hbe]; exact hv⟩
    · refine (ok b u q).stay (fun c v hc r => k c v ?_ r) (fun c r => by rw [i9 (nown c b r)]; exact r) fun c xs r => by rw [i9 (ntup c xs r)]; exact r
      rcases hc with rfl | hc
      · exact hbe
      · rintro rfl
        rcases he with z | z
        · exact nown c b hc z
        · rw [hc] at z; cases z; exact hb rfl
end

structure Un (fs ex : List Addr) (H H' : Hp) (h h' : Heap) : Prop where
  keep : ∀ b o, h.get? b = some o → H b = none → b ∉ fs → b ∉ ex → h'.get? b = some o
  slot : ∀ b o, h.get? b = some o → H b = none → b ∈ fs → b ∉ ex → ∃ sl, h'.get? b = some { o with slots := sl }
  free : ∀ b o, h.get? b = some o → H b = none → b ∉ ex → H' b = none
  there : ∀ b o, h.get? b = some o → b ∉ ex → ∃ o', h'.get? b = some o'
  tups : ∀ b xs, H b = some (.tup xs) → H' b = some (.tup xs)
  frzs : ∀ b o u, H b = some (.frz o u) → H' b = some (.frz o u)
  tbls : ∀ b ps, H b = some (.tbl ps) → ∃ more, H' b = some (.tbl (ps ++ more))
section
variable {fs fs' ex ex' : List Addr} {H H1 H2 : Hp} {h h1 h2 h' : Heap} {a x e : Addr} {o : HO}
theorem Un.any (u : Un fs ex H H1 h h1) {b : Addr} {ob : Obj} (q : h.get? b = some ob) (n : H b = none) (hx : b ∉ ex) : ∃ sl, h1.get? b = some { ob with slots := sl } := by
  by_cases hb : b ∈ fs
  · exact u.slot b ob q n hb hx
  · exact ⟨ob.slots, u.keep b ob q n hb hx⟩
theorem Un.trans (a : Un fs ex H H1 h h1) (b : Un fs ex H1 H2 h1 h2) : Un fs ex H H2 h h2 where
  keep := fun c ob q n hc hx => b.keep c ob (a.keep c ob q n hc hx) (a.free c ob q n hx) hc hx
  slot := fun c ob q n hc hx => by
    obtain ⟨sl, e1⟩ := a.slot c ob q n hc hx
    obtain ⟨sl', e2⟩ := b.slot c _ e1 (a.free c ob q n hx) hc hx
    exact ⟨sl', e2⟩
  free := fun c ob q n hx => by
    obtain ⟨o', e1⟩ := a.there c ob q hx
    exact b.free c o' e1 (a.free c ob q n hx) hx
  there := fun c ob q hx => by
    obtain ⟨o', e1⟩ := a.there c ob q hx
    exact b.there c o' e1 hx
  tups := fun c xs q => b.tups c xs (a.tups c xs q)
  frzs := fun c ob xs q => b.frzs c ob xs (a.frzs c ob xs q)
  tbls := fun c ps q => by
    obtain ⟨m1, e1⟩ := a.tbls c ps q
    obtain ⟨m2, e2⟩ := b.tbls c _ e1
    exact ⟨m1 ++ m2, by rw [e2, Array.append_assoc]⟩
theorem Un.kept (k : ∀ b u, h.get? b = some u → h'.get? b = some u) : Un fs ex H H h h' :=
  ⟨fun b ob q _ _ _ => k b ob q, fun b ob q _ _ _ => ⟨ob.slots, k b ob q⟩, fun _ _ _ n _ => n, fun b ob q _ => ⟨ob, k b ob q⟩, fun _ _ q => q, fun _ _ _ q => q, fun _ ps q => ⟨#[], by rw [q]; simp⟩⟩
theorem Un.refl : Un fs ex H H h h := Un.kept fun _ _ q => q
theorem Un.laid (k : ∀ b u, h.get? b = some u → h'.get? b = some u) (hp : h.objs.size ≤ a) (hn : H a = none) : Un fs ex H (upd H a o) h h' where
  keep := fun b u q _ _ _ => k b u q
  slot := fun b u q _ _ _ => ⟨u.slots, k b u q⟩
  free := fun b u q n _ => by rw [i9 (Nat.ne_of_lt (Nat.lt_of_lt_of_le (Heap.lt_size q) hp))]; exact n
  there := fun b u q _ => ⟨u, k b u q⟩
  tups := fun b xs q => by rw [i9 (jA q hn)]; exact q
  frzs := fun b u xs q => by rw [i9 (jA q hn)]; exact q
  tbls := fun b ps q => ⟨#[], by rw [i9 (jA q hn), q]; simp⟩
theorem Un.write (mu : Mut (H x)) (he : e = x ∨ H e = some (.own x)) (k : ∀ b u, b ≠ e → h.get? b = some u → h'.get? b = some u) (heo : ∃ u, h'.get? e = some u) : Un fs ex H (upd H x o) h h' := by
  have hx : ∀ b, H b = none → b ≠ x := fun b n z => by subst z; rw [n] at mu; exact mu
  have hb : ∀ b, H b = none → b ≠ e := fun b n z => by
    subst z
    rcases he with r | r
    · exact hx b n r
    · rw [n] at r; cases r
  have hm : ∀ b u, H b = some u → ¬ Mut (some u) → b ≠ x := fun b u q nm z => by subst z; rw [q] at mu; exact nm mu
  refine ⟨fun b u q n _ _ => k b u (hb b n) q, fun b u q n _ _ => ⟨u.slots, k b u (hb b n) q⟩, fun b u q n _ => by rw [i9 (hx b n)]; exact n, fun b u q _ => ?_,
    fun b xs q => by rw [i9 (hm b _ q fun z => z)]; exact q, fun b u xs q => by rw [i9 (hm b _ q fun z => z)]; exact q, fun b ps q => ⟨#[], by rw [i9 (hm b _ q fun z => z), q]; simp⟩⟩
  by_cases hbe : b = e
  · subst hbe; exact heo
  · exact ⟨u, k b u hbe q⟩
end

def trk (h : Heap) (H : Hp) : List Addr := (List.range h.objs.size).filter fun a => (H a).isSome
def kP (h : Heap) (H : Hp) : Heap := PySem.W.hideAll h (trk h H)
theorem rG (h : Heap) (H : Hp) : (kP h H).objs.size = h.objs.size := PySem.W.hideAll_size _ _
theorem tM {h : Heap} {H : Hp} {b : Addr} {o : Obj} (e : h.get? b = some o) (n : H b = none) : (kP h H).get? b = some o :=
  PySem.W.hideAll_get _ e fun hm => by
    have q : (H b).isSome = true := (List.mem_filter.mp hm).2
    rw [n] at q; simp at q
theorem uQ {h : Heap} {H : Hp} {b : Addr} {o : Obj} (e : (kP h H).get? b = some o) : h.get? b = some o ∧ H b = none := by
  have e' : h.get? b = some o := PySem.W.of_hideAll (trk h H) e
  refine ⟨e', ?_⟩
  cases q : H b with
  | none => rfl
  | some x =>
    have hm : b ∈ trk h H := List.mem_filter.mpr ⟨List.mem_range.mpr (Heap.lt_size e'), by simp [q]⟩
    have z : (kP h H).get? b = none := PySem.W.hideAll_none (trk h H) hm
    rw [z] at e; cases e

def uR (g h : Heap) (L : Addr) : List (Addr × Obj) := (List.range h.objs.size).filterMap fun a => if a = L ∨ (g.get? a).isSome = true then none else (h.get? a).map fun o => (a, o)
def rest (g h : Heap) (L d : Addr) : List (Addr × Obj) := (uR g h L).filter fun p => decide (p.1 ≠ d)
end L2

namespace L2
open PySem PySem.Spec PyProof.Rows

structure Mod (K : PySem.W.Frag) (mg : Str → Option Value) (base : Heap) : Prop where
  kin : K.In base
  glob : base.Ns mainGlobals mg
  blt : ∃ mb, base.Ns builtinsNs mb ∧ ∀ x : Str, x ≠ "__name__" → mb x = bootBuiltins x
  nolimit : base.NoLimit

structure Cx where
  prog : Program
  w : World
  K : PySem.W.Frag
  mg : Str → Option Value
  base : Heap
  A : Around
  N : List Str
  s₀ : Shared
  H₀ : Hp
  env : Env
  outer : List Env
  stack : List Env
  ex : List Addr
  fn : Str → Bool
  calm : Bool
  pn : List (Addr × Obj)
  xe : Value → Shared → Prop
def frs (l : List Env) : List Addr := l.filterMap (·.frame)
abbrev Cx.fs (X : Cx) : List Addr := frs X.outer

def Vis (sc : Scope) (x : Str) : Prop := sc.names.lookup x = some .local ∨ sc.names.lookup x = some .cell ∨ sc.names.lookup x = some .free
def Loc (sc : Scope) (x : Str) : Prop := sc.names.lookup x = some .local ∨ sc.names.lookup x = some .cell
def Look (env : Env) (h : Heap) (m : Str → Option Value) (x : Str) (u : Value) : Prop :=
  (env.kindOf x = some .local ∧ m x = some u) ∨ ((env.kindOf x = some .cell ∨ env.kindOf x = some .free) ∧ ∃ c, env.cells.lookup x = some c ∧ h.IsCell c (some u))

structure Cx.Ok (X : Cx) : Prop where
  mod : Mod X.K X.mg X.base
  kind : X.env.scope.kind = .function
  glob : X.env.globals = mainGlobals
  blt : X.env.builtins = builtinsNs
  above : X.s₀.heap.objs.size ≤ X.env.locals
  inj : ∀ x y c, X.env.cells.lookup x = some c → X.env.cells.lookup y = some c → x = y
  has : ∀ x, (X.env.kindOf x = some .cell ∨ X.env.kindOf x = some .free) → ∃ c, X.env.cells.lookup x = some c
  cab : ∀ x c, X.fn x = true → X.env.cells.lookup x = some c → X.s₀.heap.objs.size ≤ c
  hd : X.calm = true → X.A.handled = none
  frames : X.A.frames = some X.stack
  stk : X.stack = X.outer ∨ (X.stack = X.env :: X.outer ∧ X.env.frame = some X.env.locals)
  exf : ∀ b ∈ X.ex, b ≠ X.env.locals ∧ ∀ x c, X.env.cells.lookup x = some c → c ≠ b
  bs : ∀ b o, X.base.get? b = some o → X.s₀.heap.get? b = some o ∧ X.H₀ b = none
  bsz : X.base.objs.size ≤ X.s₀.heap.objs.size
  noex : ∀ b o, X.base.get? b = some o → b ∉ X.ex
  exfs : ∀ b ∈ X.ex, b ∉ X.fs
  funs : X.s₀.heap.FunFrames X.base X.outer
  frf : ∀ b ∈ X.fs, X.H₀ b = none

structure Inv (X : Cx) (pins : List (Addr × Obj)) (σ : List (Option V)) (H : Hp) (s : Shared) : Prop where
  ok : X.Ok
  os : s.os = X.s₀.os
  bare : AllBare s.gens
  base : Un X.fs X.ex X.H₀ H X.s₀.heap s.heap
  loc : ∃ m, s.heap.Ns X.env.locals m ∧ ∀ (i : Nat) (x : Str) (v : V), X.N[i]? = some x → σ[i]? = some (some v) → Vis X.env.scope x → ∃ u, RelV v u ∧ Look X.env s.heap m x u
  cell : ∀ x c, X.env.cells.lookup x = some c → ∃ v, s.heap.IsCell c v
  free : H X.env.locals = none
  freeC : ∀ x c, X.env.cells.lookup x = some c → H c = none
  pin : ∀ p ∈ X.pn ++ pins, s.heap.get? p.1 = some p.2 ∧ H p.1 = none ∧ p.1 ≠ X.env.locals ∧ p.1 ∉ X.fs ∧ ∀ v, p.2.data ≠ .cell v
  hok : HOk X.prog X.w H s.heap
  len : σ.length = X.N.length

section
variable {X : Cx} {pins : List (Addr × Obj)} {σ : List (Option V)} {H H' : Hp} {s : Shared} {h' : Heap}

theorem Cx.Ok.nofr (ok : X.Ok) {b : Addr} {o : Obj} (e : X.base.get? b = some o) : b ∉ X.fs := fun hb => by
  have := (ok.funs.mem hb).1
  rw [e] at this; cases this
theorem Inv.bs (I : Inv X pins σ H s) : ∀ b o, X.base.get? b = some o → s.heap.get? b = some o ∧ H b = none := fun b o e =>
  ⟨I.base.keep b o (I.ok.bs b o e).1 (I.ok.bs b o e).2 (I.ok.nofr e) (I.ok.noex b o e), I.base.free b o (I.ok.bs b o e).1 (I.ok.bs b o e).2 (I.ok.noex b o e)⟩
theorem Inv.bk (I : Inv X pins σ H s) : ∀ b o, X.base.get? b = some o → s.heap.get? b = some o := fun b o e => (I.bs b o e).1
theorem Inv.mod (I : Inv X pins σ H s) : Mod X.K X.mg X.base := I.ok.mod
theorem Inv.kIn (I : Inv X pins σ H s) : X.K.In s.heap := I.ok.mod.kin.keeps I.bk
theorem Inv.lt (I : Inv X pins σ H s) : X.env.locals < s.heap.objs.size := let ⟨_, hn, _⟩ := I.loc; hn.lt
theorem Inv.sz (I : Inv X pins σ H s) : X.s₀.heap.objs.size ≤ s.heap.objs.size := Nat.le_trans I.ok.above (Nat.le_of_lt I.lt)
theorem Inv.nofs (I : Inv X pins σ H s) {a : Addr} (h : s.heap.objs.size ≤ a) : a ∉ X.fs := fun hb => by
  obtain ⟨_, o, ho, _⟩ := I.ok.funs.mem hb
  exact absurd (Nat.lt_of_lt_of_le (Heap.lt_size ho) (Nat.le_trans I.sz h)) (Nat.lt_irrefl _)
theorem Inv.cne (I : Inv X pins σ H s) : ∀ x c, X.env.cells.lookup x = some c → c ≠ X.env.locals := fun x c e z => by
  obtain ⟨v, o, ho, hd⟩ := I.cell x c e
  obtain ⟨m, ⟨o', es, ep, ho', hd', _⟩, _⟩ := I.loc
  rw [z, ho'] at ho; cases ho; rw [hd'] at hd; cases hd
theorem Inv.funs (I : Inv X pins σ H s) : s.heap.FunFrames X.base X.outer := by
  have all : ∀ (l : List Env), (∀ b ∈ frs l, b ∈ X.fs) → X.s₀.heap.FunFrames X.base l → s.heap.FunFrames X.base l := by
    intro l
    induction l with
    | nil => intro _ _; trivial
    | cons env r ih =>
      intro hs hl
      obtain ⟨hk, ⟨L, o, hf, hn, ho, hd⟩, hr⟩ := hl
      have hL : L ∈ X.fs := hs L (by unfold frs; rw [List.filterMap_cons, hf]; exact List.mem_cons_self)
      obtain ⟨sl, e⟩ := I.base.slot L o ho (I.ok.frf L hL) hL fun z => I.ok.exfs L z hL
      exact ⟨hk, ⟨L, _, hf, hn, e, hd⟩, ih (fun b hb => hs b (by unfold frs; rw [List.filterMap_cons, hf]; exact List.mem_cons_of_mem _ hb)) hr⟩
  exact all X.outer (fun _ hb => hb) I.ok.funs

theorem Inv.stack (I : Inv X pins σ H s) : s.heap.FunFrames X.base X.stack := by
  rcases I.ok.stk with e | ⟨e, hf⟩
  · rw [e]; exact I.funs
  · rw [e]
    obtain ⟨m, hn, _⟩ := I.loc
    refine .cons (by rw [I.ok.kind]; decide) hf hn ?_ I.funs
    exact Heap.get?_none_of_le (Nat.le_trans I.ok.bsz I.ok.above)
theorem Inv.stkSub (I : Inv X pins σ H s) : ∀ b ∈ frs X.stack, b ∈ X.env.locals :: X.fs := fun b hb => by
  rcases I.ok.stk with e | ⟨e, hf⟩
  · rw [e] at hb; exact List.mem_cons_of_mem _ hb
  · rw [e] at hb
    unfold frs at hb
    rw [List.filterMap_cons, hf] at hb
    exact hb
theorem Inv.stkFree (I : Inv X pins σ H s) : ∀ b ∈ frs X.stack, H b = none := fun b hb => by
  rcases List.mem_cons.mp (I.stkSub b hb) with e | hb
  · rw [e]; exact I.free
  · obtain ⟨_, o, ho, _⟩ := I.ok.funs.mem hb
    exact I.base.free b o ho (I.ok.frf b hb) fun z => I.ok.exfs b z hb

theorem Inv.step {g' : Array GenState} {t' : Nat} {d' : Drawn} {ch : List Addr} (I : Inv X pins σ H s)
    (hch : ∀ b ∈ ch, (b ∈ X.ex ∨ X.s₀.heap.objs.size ≤ b) ∧ b ≠ X.env.locals ∧ (∀ x c, X.env.cells.lookup x = some c → c ≠ b) ∧ ∀ p ∈ X.pn ++ pins, p.1 ≠ b)
    (keep : ∀ b o, b ≠ X.env.locals → b ∉ X.fs → b ∉ ch → s.heap.get? b = some o → H b = none → h'.get? b = some o)
    (slot : ∀ b o, b ≠ X.env.locals → b ∈ X.fs → b ∉ ch → s.heap.get? b = some o → H b = none → ∃ sl, h'.get? b = some { o with slots := sl }) (free : ∀ b o, b ∉ ch → s.heap.get? b = some o → H b = none → H' b = none)
    (there : ∀ b o, b ∉ ch → s.heap.get? b = some o → ∃ o', h'.get? b = some o')
    (tups : ∀ b xs, H b = some (.tup xs) → H' b = some (.tup xs)) (frzs : ∀ b o u, H b = some (.frz o u) → H' b = some (.frz o u)) (tbls : ∀ b ps, H b = some (.tbl ps) → ∃ more, H' b = some (.tbl (ps ++ more)))
    (ns : ∀ m, s.heap.Ns X.env.locals m → h'.Ns X.env.locals m) (hok : HOk X.prog X.w H' h') (hg : AllBare g') :
    Inv X pins σ H' { s with heap := h', gens := g', drawn := d', toks := t' } := by
  have neL : ∀ b o, X.s₀.heap.get? b = some o → b ≠ X.env.locals := fun b o e => Nat.ne_of_lt (Nat.lt_of_lt_of_le (Heap.lt_size e) I.ok.above)
  have neC : ∀ b o, X.s₀.heap.get? b = some o → b ∉ X.ex → b ∉ ch := fun b o e hx hb => by
    rcases (hch b hb).1 with z | z
    · exact hx z
    · exact absurd (Nat.lt_of_lt_of_le (Heap.lt_size e) z) (Nat.lt_irrefl _)
  have cellK : ∀ x c, X.env.cells.lookup x = some c → ∀ v, s.heap.IsCell c v → h'.IsCell c v := fun x c e v ⟨o, ho, hd⟩ => by
    have nch : c ∉ ch := fun z => (hch c z).2.2.1 x c e rfl
    by_cases hc : c ∈ X.fs
    · obtain ⟨sl, q⟩ := slot c o (I.cne x c e) hc nch ho (I.freeC x c e)
      exact ⟨_, q, hd⟩
    · exact ⟨o, keep c o (I.cne x c e) hc nch ho (I.freeC x c e), hd⟩
  refine ⟨I.ok, I.os, hg, ⟨fun b o e n hb hx => ?_, fun b o e n hb hx => ?_, fun b o e n hx => ?_, fun b o e hx => ?_, fun b xs e => tups b xs (I.base.tups b xs e), fun b o xs e => frzs b o xs (I.base.frzs b o xs e), fun b ps e => ?_⟩, ?_, fun x c e => ?_, ?_, fun x c e => ?_, fun p hp => ?_, hok, I.len⟩
  · exact keep b o (neL b o e) hb (neC b o e hx) (I.base.keep b o e n hb hx) (I.base.free b o e n hx)
  · obtain ⟨sl, e1⟩ := I.base.slot b o e n hb hx
    obtain ⟨sl', e2⟩ := slot b _ (neL b o e) hb (neC b o e hx) e1 (I.base.free b o e n hx)
    exact ⟨sl', e2⟩
  · obtain ⟨o', e1⟩ := I.base.there b o e hx
    exact free b o' (neC b o e hx) e1 (I.base.free b o e n hx)
  · obtain ⟨o', e1⟩ := I.base.there b o e hx
    exact there b o' (neC b o e hx) e1
  · obtain ⟨m1, e1⟩ := I.base.tbls b ps e
    obtain ⟨m2, e2⟩ := tbls b _ e1
    exact ⟨m1 ++ m2, by rw [e2, Array.append_assoc]⟩
  · obtain ⟨m, hn, hl⟩ := I.loc
    refine ⟨m, ns m hn, fun i x v e1 e2 e3 => ?_⟩
    obtain ⟨u, r, l⟩ := hl i x v e1 e2 e3
    refine ⟨u, r, ?_⟩
    rcases l with l | ⟨k, c, e, z⟩
    · exact .inl l
    · exact .inr ⟨k, c, e, cellK x c e _ z⟩
  · obtain ⟨v, z⟩ := I.cell x c e
    exact ⟨v, cellK x c e v z⟩
  · obtain ⟨m, ⟨o, _, _, ho, _⟩, _⟩ := I.loc
    exact free _ o (fun z => (hch _ z).2.1 rfl) ho I.free
  · obtain ⟨v, o, ho, hd⟩ := I.cell x c e
    exact free c o (fun z => (hch c z).2.2.1 x c e rfl) ho (I.freeC x c e)
  · obtain ⟨e, n, ne, nf, d⟩ := I.pin p hp
    have nch : p.1 ∉ ch := fun z => (hch p.1 z).2.2.2 p hp rfl
    exact ⟨keep p.1 p.2 ne nf nch e n, free p.1 p.2 nch e n, ne, nf, d⟩
theorem Inv.un {t' : Nat} (I : Inv X pins σ H s) (u : Un X.fs [] H H' s.heap h') (hok : HOk X.prog X.w H' h') : Inv X pins σ H' { s with heap := h', toks := t' } := by
  obtain ⟨m, ⟨o, es, ep, ho, r⟩, _⟩ := id I.loc
  obtain ⟨sl, hL⟩ := u.any ho I.free (by simp)
  exact I.step (g' := s.gens) (d' := s.drawn) (ch := []) (fun _ z => nomatch z) (fun b o _ hb _ e n => u.keep b o e n hb (by simp)) (fun b o _ hb _ e n => u.slot b o e n hb (by simp)) (fun b o _ e n => u.free b o e n (by simp)) (fun b o _ e => u.there b o e (by simp)) u.tups u.frzs u.tbls (fun m' hm => by
    obtain ⟨o', es', ep', ho', r'⟩ := hm
    rw [ho] at ho'; cases ho'
    exact ⟨_, es', ep', hL, r'⟩) hok I.bare
theorem Inv.call {g' : Array GenState} {t' : Nat} {d' : Drawn} {ch : List Addr} (I : Inv X pins σ H s) (u : Un (frs X.stack) ch H H' s.heap h') (hok : HOk X.prog X.w H' h') (hg : AllBare g')
    (hch : ∀ b ∈ ch, (b ∈ X.ex ∨ X.s₀.heap.objs.size ≤ b) ∧ b ≠ X.env.locals ∧ (∀ x c, X.env.cells.lookup x = some c → c ≠ b) ∧ ∀ p ∈ X.pn ++ pins, p.1 ≠ b) :
    Inv X pins σ H' { s with heap := h', gens := g', drawn := d', toks := t' } := by
  obtain ⟨m, ⟨o, es, ep, ho, r⟩, _⟩ := id I.loc
  obtain ⟨sl, hL⟩ := u.any ho I.free fun z => (hch _ z).2.1 rfl
  exact I.step (ch := ch) hch (fun b o hL hb hc e n => u.keep b o e n (fun z => (List.mem_cons.mp (I.stkSub b z)).elim hL hb) hc) (fun b o _ _ hc e n => u.any e n hc) (fun b o hc e n => u.free b o e n hc) (fun b o hc e => u.there b o e hc) u.tups u.frzs u.tbls (fun m' hm => by
    obtain ⟨o', es', ep', ho', r'⟩ := hm
    rw [ho] at ho'; cases ho'
    exact ⟨_, es', ep', hL, r'⟩) hok hg
theorem Inv.turned {t' : Nat} {it : Addr} (I : Inv X pins σ H s) (k : ∀ b o, b ≠ it → s.heap.get? b = some o → h'.get? b = some o) (hn : H it = none) (hL : it ≠ X.env.locals)
    (h1 : it ∈ X.ex ∨ X.s₀.heap.objs.size ≤ it) (h2 : ∀ x c, X.env.cells.lookup x = some c → c ≠ it) (h3 : ∀ p ∈ X.pn ++ pins, p.1 ≠ it) : Inv X pins σ H { s with heap := h', toks := t' } := by
  have nit : ∀ b u, H b = some u → b ≠ it := fun b u e z => by rw [z, hn] at e; cases e
  refine I.step (g' := s.gens) (d' := s.drawn) (ch := [it]) (fun b hb => ?_) (fun b o _ _ hc e _ => k b o (fun z => hc (by simp [z])) e) (fun b o _ _ hc e _ => ⟨o.slots, k b o (fun z => hc (by simp [z])) e⟩) (fun _ _ _ _ n => n)
    (fun b o hc e => ⟨o, k b o (fun z => hc (by simp [z])) e⟩) (fun _ _ e => e) (fun _ _ _ e => e) (fun b ps e => ⟨#[], by rw [e]; simp⟩) (fun m hm => ?_) (fun b u e => ?_) I.bare
  · have e : b = it := by simpa using hb
    subst e
    exact ⟨h1, hL, h2, h3⟩
  · obtain ⟨o, es, ep, ho, r⟩ := hm
    exact ⟨o, es, ep, k _ o (Ne.symm hL) ho, r⟩
  · refine (I.hok b u e).stay (fun c v hc q => k c v ?_ q) (fun _ q => q) fun _ _ q => q
    rcases hc with z | z
    · rw [z]; exact nit b u e
    · exact nit c _ z
theorem Inv.tok (I : Inv X pins σ H s) (t : Nat) : Inv X pins σ H { s with toks := t } := I.un (h' := s.heap) (t' := t) Un.refl I.hok
theorem Inv.kept {t' : Nat} (I : Inv X pins σ H s) (k : ∀ b u, s.heap.get? b = some u → h'.get? b = some u) : Inv X pins σ H { s with heap := h', toks := t' } := I.un (Un.kept k) (I.hok.kept k)
theorem Inv.laid {a : Addr} {o : HO} {t' : Nat} (I : Inv X pins σ H s) (k : ∀ b u, s.heap.get? b = some u → h'.get? b = some u) (hp : s.heap.objs.size ≤ a) (new : ObjOk X.prog X.w (upd H a o) h' a o) :
    Inv X pins σ (upd H a o) { s with heap := h', toks := t' } := I.un (Un.laid k hp (I.hok.fresh hp)) (I.hok.laid k hp new)
theorem Inv.write {x e : Addr} {o : HO} {t' : Nat} (I : Inv X pins σ H s) (mu : Mut (H x)) (he : e = x ∨ H e = some (.own x)) (k : ∀ b u, b ≠ e → s.heap.get? b = some u → h'.get? b = some u) (heo : ∃ u, h'.get? e = some u)
    (new : ObjOk X.prog X.w (upd H x o) h' x o) : Inv X pins σ (upd H x o) { s with heap := h', toks := t' } := I.un (Un.write mu he k heo) (I.hok.write mu he k heo new)
theorem Inv.pins_of {pins' : List (Addr × Obj)} (I : Inv X pins σ H s) (h : ∀ p ∈ pins', s.heap.get? p.1 = some p.2 ∧ H p.1 = none ∧ p.1 ≠ X.env.locals ∧ p.1 ∉ X.fs ∧ ∀ v, p.2.data ≠ .cell v) : Inv X pins' σ H s :=
  ⟨I.ok, I.os, I.bare, I.base, I.loc, I.cell, I.free, I.freeC, fun p hp => (List.mem_append.mp hp).elim (fun z => I.pin p (List.mem_append_left _ z)) (h p), I.hok, I.len⟩

theorem oU {N : List Str} (hN : N.Nodup) {i j : Nat} {x : Str} (a : N[i]? = some x) (b : N[j]? = some x) : i = j := by
  obtain ⟨h1, e1⟩ := List.getElem?_eq_some_iff.mp a
  obtain ⟨h2, e2⟩ := List.getElem?_eq_some_iff.mp b
  exact (List.getElem_inj hN).mp (e1.trans e2.symm)

theorem nK {M : Model} {A : Around} {E : Value → Shared → Prop} {i : Nat} {x : Str} {v : V} {u : Value} {Q : Unit → Shared → Prop} (I : Inv X pins σ H s) (hN : X.N.Nodup) (hi : X.N[i]? = some x) (hx : Loc X.env.scope x) (r : RelV v u)
    (h : ∀ s', Inv X pins (σ.set i (some v)) H s' → (∃ a, Heap.SameBut a s.heap s'.heap ∧ (a = X.env.locals ∨ X.env.cells.lookup x = some a)) → Q () s') (hf : X.fn x = true ∨ X.env.scope.names.lookup x = some .local := by first | exact .inl rfl | exact .inr rfl | assumption) : wpAny M A (storeName X.env x u) Q E s := by
  obtain ⟨m, hn, hl⟩ := id I.loc
  have hcls : (X.env.scope.kind == .class || (X.env.scope.kind == .module && X.env.locals != X.env.globals)) = false := by rw [I.ok.kind]; rfl
  have hiσ : i < σ.length := by rw [I.len]; exact (List.getElem?_eq_some_iff.mp hi).1
  have cne := I.cne
  have tracked : ∀ {a : Addr} {h' : Heap}, (∃ o, s.heap.get? a = some o ∧ H a = none) → Heap.SameBut a s.heap h' → HOk X.prog X.w H h' := fun {a h'} ha hs b ob e => by
    obtain ⟨_, _, hfree⟩ := ha
    refine (I.hok b ob e).stay (fun c w' hc q => (hs.2 c ?_).trans q) (fun _ q => q) fun _ _ q => q
    rintro rfl
    rcases hc with rfl | hc
    · rw [hfree] at e; cases e
    · rw [hfree] at hc; cases hc
  rcases hx with hk | hk
  · refine wpAny_storeName_local hk hn (fun h' hn' hs => ?_) hcls
    obtain ⟨oL, _, _, hoL, _⟩ := id hn
    refine h _ ⟨I.ok, I.os, I.bare, ⟨fun b o e n hb hx => ?_, fun b o e n hb hx => ?_, I.base.free, fun b o e hx => ?_, I.base.tups, I.base.frzs, I.base.tbls⟩, ⟨_, hn', fun j y v' e1 e2 e3 => ?_⟩, fun y c e => ?_, I.free, I.freeC, fun p hp => ?_, tracked ⟨oL, hoL, I.free⟩ hs, by simpa using I.len⟩ ⟨_, hs, .inl rfl⟩
    · exact (hs.2 b (Nat.ne_of_lt (Nat.lt_of_lt_of_le (Heap.lt_size e) I.ok.above))).trans (I.base.keep b o e n hb hx)
    · obtain ⟨sl, e1⟩ := I.base.slot b o e n hb hx
      exact ⟨sl, (hs.2 b (Nat.ne_of_lt (Nat.lt_of_lt_of_le (Heap.lt_size e) I.ok.above))).trans e1⟩
    · obtain ⟨o', e1⟩ := I.base.there b o e hx
      exact ⟨o', (hs.2 b (Nat.ne_of_lt (Nat.lt_of_lt_of_le (Heap.lt_size e) I.ok.above))).trans e1⟩
    · by_cases hj : j = i
      · subst hj
        rw [hi] at e1; cases e1
        rw [List.getElem?_set_self hiσ] at e2
        cases e2
        exact ⟨u, r, .inl ⟨hk, by simp⟩⟩
      · rw [List.getElem?_set_ne (Ne.symm hj)] at e2
        obtain ⟨u', r', q⟩ := hl j y v' e1 e2 e3
        refine ⟨u', r', ?_⟩
        rcases q with ⟨k, e⟩ | ⟨k, c, e, z⟩
        · refine .inl ⟨k, ?_⟩
          have : y ≠ x := fun e => hj (oU hN e1 (e ▸ hi))
          simp [this, e]
        · exact .inr ⟨k, c, e, z.sameBut hs (cne y c e)⟩
    · obtain ⟨w', z⟩ := I.cell y c e
      exact ⟨w', z.sameBut hs (cne y c e)⟩
    · obtain ⟨e, n, ne, nf, d⟩ := I.pin p hp
      exact ⟨(hs.2 p.1 ne).trans e, n, ne, nf, d⟩
  · have hfn : X.fn x = true := by
      rcases hf with z | z
      · exact z
      · rw [z] at hk; cases hk
    obtain ⟨c, hc⟩ := I.ok.has x (.inl hk)
    obtain ⟨w', z⟩ := I.cell x c hc
    refine wpAny_storeName_cell I.ok.kind hk hc z (fun h' hc' hs => ?_)
    obtain ⟨oc, hoc, hocd⟩ := id z
    refine h { s with heap := h' } ⟨I.ok, I.os, I.bare, ⟨fun b o e n hb hx => ?_, fun b o e n hb hx => ?_, I.base.free, fun b o e hx => ?_, I.base.tups, I.base.frzs, I.base.tbls⟩, ⟨m, hn.sameBut hs (Ne.symm (cne x c hc)), fun j y v' e1 e2 e3 => ?_⟩, fun y c' e => ?_, I.free, I.freeC, fun p hp => ?_, tracked ⟨oc, hoc, I.freeC x c hc⟩ hs, by simpa using I.len⟩ ⟨c, hs, .inr hc⟩
    · exact (hs.2 b (Nat.ne_of_lt (Nat.lt_of_lt_of_le (Heap.lt_size e) (I.ok.cab x c hfn hc)))).trans (I.base.keep b o e n hb hx)
    · obtain ⟨sl, e1⟩ := I.base.slot b o e n hb hx
      exact ⟨sl, (hs.2 b (Nat.ne_of_lt (Nat.lt_of_lt_of_le (Heap.lt_size e) (I.ok.cab x c hfn hc)))).trans e1⟩
    · obtain ⟨o', e1⟩ := I.base.there b o e hx
      exact ⟨o', (hs.2 b (Nat.ne_of_lt (Nat.lt_of_lt_of_le (Heap.lt_size e) (I.ok.cab x c hfn hc)))).trans e1⟩
    · by_cases hj : j = i
      · subst hj
        rw [hi] at e1; cases e1
        rw [List.getElem?_set_self hiσ] at e2
        cases e2
        exact ⟨u, r, .inr ⟨.inl hk, c, hc, hc'⟩⟩
      · rw [List.getElem?_set_ne (Ne.symm hj)] at e2
        obtain ⟨u', r', q⟩ := hl j y v' e1 e2 e3
        refine ⟨u', r', ?_⟩
        rcases q with q | ⟨k, c', e, z'⟩
        · exact .inl q
        · refine .inr ⟨k, c', e, z'.sameBut hs ?_⟩
          rintro rfl
          exact hj (oU hN e1 (I.ok.inj _ _ _ e hc ▸ hi))
    · by_cases hcc : c' = c
      · subst hcc; exact ⟨_, hc'⟩
      · obtain ⟨w2, z2⟩ := I.cell y c' e
        exact ⟨w2, z2.sameBut hs hcc⟩
    · obtain ⟨e, n, ne, nf, d⟩ := I.pin p hp
      refine ⟨(hs.2 p.1 ?_).trans e, n, ne, nf, d⟩
      intro q
      rw [q, hoc] at e
      have q' : oc = p.2 := Option.some.inj e
      exact d w' (by rw [← q']; exact hocd)
theorem oz {M : Model} {A : Around} {E : Value → Shared → Prop} {i : Nat} {x : Str} {v : V} {u : Value} {Q : Unit → Shared → Prop} (I : Inv X pins σ H s) (hN : X.N.Nodup) (hi : X.N[i]? = some x) (hx : Loc X.env.scope x) (r : RelV v u)
    (h : ∀ s', Inv X pins (σ.set i (some v)) H s' → Q () s') (hf : X.fn x = true ∨ X.env.scope.names.lookup x = some .local := by first | exact .inl rfl | exact .inr rfl | assumption) : wpAny M A (storeName X.env x u) Q E s :=
  nK I hN hi hx r (fun s' I' _ => h s' I') hf
theorem Inv.call' {s' : Shared} {ch : List Addr} (I : Inv X pins σ H s) (ho : s'.os = s.os) (u : Un (frs X.stack) ch H H' s.heap s'.heap) (hok : HOk X.prog X.w H' s'.heap) (hg : AllBare s'.gens)
    (hch : ∀ b ∈ ch, (b ∈ X.ex ∨ X.s₀.heap.objs.size ≤ b) ∧ b ≠ X.env.locals ∧ (∀ x c, X.env.cells.lookup x = some c → c ≠ b) ∧ ∀ p ∈ X.pn ++ pins, p.1 ≠ b) : Inv X pins σ H' s' := by
  obtain ⟨h', g', d', t', o'⟩ := s'
  have e : o' = s.os := ho
  subst e
  exact I.call (g' := g') (t' := t') (d' := d') u hok hg hch
end

abbrev XK := Value → Option Addr → Hp → Prop
abbrev St := List (Option V)
abbrev VK := V → Hp → Prop
abbrev TE := St → Hp → VK → Prop
abbrev TT := St → Hp → (Bool → Hp → Prop) → Prop
abbrev TA := St → Hp → (List V → Hp → Prop) → Prop
structure Ends where
  nx : St → Hp → Prop
  rt : VK
  bk : St → Hp → Prop := fun _ _ => False
  ct : St → Hp → Prop := fun _ _ => False
abbrev TS := Ends → St → Hp → Prop

def EP (X : Cx) (pins : List (Addr × Obj)) (σ : St) (Q : VK) (u : Value) (s' : Shared) : Prop := ∃ v H', Inv X pins σ H' s' ∧ RelV v u ∧ Q v H'
def TP (X : Cx) (pins : List (Addr × Obj)) (σ : St) (Q : Bool → Hp → Prop) (b : Bool) (s' : Shared) : Prop := ∃ H', Inv X pins σ H' s' ∧ Q b H'
def AP (X : Cx) (pins : List (Addr × Obj)) (σ : St) (Q : List V → Hp → Prop) (us : List Value) (s' : Shared) : Prop := ∃ vs H', Inv X pins σ H' s' ∧ Vals vs us ∧ Q vs H'
def SP (X : Cx) (pins : List (Addr × Obj)) (D : Ends) (f : Flow) (s' : Shared) : Prop :=
  match f with
  | .next => ∃ σ' H', Inv X pins σ' H' s' ∧ D.nx σ' H'
  | .brk => ∃ σ' H', Inv X pins σ' H' s' ∧ D.bk σ' H'
  | .cont => ∃ σ' H', Inv X pins σ' H' s' ∧ D.ct σ' H'
  | .ret u => ∃ v σ' H', Inv X pins σ' H' s' ∧ RelV v u ∧ D.rt v H'

def PE (X : Cx) (e : Expr) (t : TE) : Prop :=
  ∀ (pins : List (Addr × Obj)) (s : Shared) (σ : St) (H : Hp) (Q : VK), Inv X pins σ H s → t σ H Q → wpAny (model X.prog X.w) X.A (eval e X.env) (EP X pins σ Q) X.xe s
def PT (X : Cx) (e : Expr) (t : TT) : Prop :=
  ∀ (pins : List (Addr × Obj)) (s : Shared) (σ : St) (H : Hp) (Q : Bool → Hp → Prop), Inv X pins σ H s → t σ H Q → wpAny (model X.prog X.w) X.A (isTrue e X.env (eval e X.env)) (TP X pins σ Q) X.xe s
def PW (X : Cx) (e : Expr) (t : TT) : Prop :=
  ∀ (whole : Sem Value) (pins : List (Addr × Obj)) (s : Shared) (σ : St) (H : Hp) (Q : Bool → Hp → Prop), Inv X pins σ H s → t σ H Q → wpAny (model X.prog X.w) X.A (isTrue e X.env whole) (TP X pins σ Q) X.xe s
theorem PW.pt {X : Cx} {e : Expr} {t : TT} (h : PW X e t) : PT X e t := h _
def PA (X : Cx) (es : List Expr) (t : TA) : Prop :=
  ∀ (pos : Pos) (pins : List (Addr × Obj)) (s : Shared) (σ : St) (H : Hp) (Q : List V → Hp → Prop), Inv X pins σ H s → t σ H Q → wpAny (model X.prog X.w) X.A (spliced (backTo pos (starEach es X.env))) (AP X pins σ Q) X.xe s
def PS (X : Cx) (st : Stmt) (t : TS) : Prop :=
  ∀ (pins : List (Addr × Obj)) (s : Shared) (σ : St) (H : Hp) (D : Ends), Inv X pins σ H s → t D σ H → wpAny (model X.prog X.w) X.A (exec st X.env) (SP X pins D) X.xe s
def PSs (X : Cx) (st : List Stmt) (t : TS) : Prop :=
  ∀ (pins : List (Addr × Obj)) (s : Shared) (σ : St) (H : Hp) (D : Ends), Inv X pins σ H s → t D σ H → wpAny (model X.prog X.w) X.A (execs st X.env) (SP X pins D) X.xe s
theorem thn {α : Type} {t : Sem α} {Q Q' : α → Shared → Prop} {M : Model} {A : Around} {E : Value → Shared → Prop} {s : Shared} (h : wpAny M A t Q E s) (hQ : ∀ a s, Q a s → Q' a s) : wpAny M A t Q' E s := wpAny_mono h hQ fun _ _ x => x
end L2

namespace L2
open PySem PySem.Spec PyProof.Rows
section
variable {X : Cx}

theorem bin {a b : Expr} {ta tb : TE} (ha : PE X a ta) (hb : PE X b tb) {pins : List (Addr × Obj)} {s : Shared} {σ : St} {H : Hp} {R : V → V → Hp → Prop} (I : Inv X pins σ H s) (h : ta σ H fun x H1 => tb σ H1 fun y H2 => R x y H2)
    {α : Type} {Q : α → Shared → Prop} {f : Value → Value → Sem α}
    (hf : ∀ v u s2 x y H2, Inv X pins σ H2 s2 → RelV x v → RelV y u → R x y H2 → wpAny (model X.prog X.w) X.A (f v u) Q X.xe s2) :
    wpAny (model X.prog X.w) X.A (eval a X.env) (fun v s₁ => wpAny (model X.prog X.w) X.A (eval b X.env) (fun u s₂ => wpAny (model X.prog X.w) X.A (f v u) Q X.xe s₂) X.xe s₁) X.xe s := by
  refine thn (ha pins s σ H _ I h) fun v s1 ⟨x, H1, I1, r1, q1⟩ => ?_
  refine thn (hb pins s1 σ H1 _ I1 q1) fun u s2 ⟨y, H2, I2, r2, q2⟩ => ?_
  exact hf v u s2 x y H2 I2 r1 r2 q2

def sZ (i : Nat) : TE := fun σ H Q => ∃ v, σ[i]? = some (some v) ∧ Q v H
def tC (v : V) : TE := fun _ H Q => Q v H
theorem cg {i : Nat} {x : Str} {pos : Pos} (hN : X.N[i]? = some x) (hv : Vis X.env.scope x) (hd : (x == ("__debug__" : Str)) = false := by decide) (hcd : (x == ("__classdict__" : Str)) = false := by decide) : PE X (.Name x pos) (sZ i) := by
  intro pins s σ H Q I h
  obtain ⟨v, e, h⟩ := h
  obtain ⟨m, hn, hl⟩ := I.loc
  obtain ⟨u, r, l⟩ := hl i x v hN e hv
  have fin : EP X pins σ Q u s := ⟨v, H, I, r, h⟩
  rcases l with ⟨hk, hm⟩ | ⟨hk, c, hc, hcell⟩
  · exact wpAny_Name (wpAny_loadName_local I.ok.kind hk hn hm fin) hd
  · rcases hk with hk | hk
    · exact wpAny_Name (wpAny_loadName_cell I.ok.kind hk hc hcell fin) hd
    · exact wpAny_Name (wpAny_loadName_free I.ok.kind hk hc hcell fin hcd) hd
theorem eu {i j pos} : PE X (.Constant (.int i) j pos) (tC (.int i)) := fun _ _ _ H _ I h => wpAny_Constant_int ⟨.int i, H, I.tok _, ⟨_, rfl⟩, h⟩
theorem lZ {b j pos} : PE X (.Constant (.bool b) j pos) (tC (.bl b)) := fun _ _ _ H _ I h => Constant_bool ⟨.bl b, H, I, rfl, h⟩
theorem lA {x j pos} : PE X (.Constant (.str x) j pos) (tC (.str x)) := fun _ _ _ H _ I h => Calls.Constant_str ⟨.str x, H, I.tok _, ⟨_, rfl⟩, h⟩

def Gl (X : Cx) (x : Str) : Prop := X.env.kindOf x = some .globalImplicit
theorem uC {E : Value → Shared → Prop} {pins : List (Addr × Obj)} {s : Shared} {σ : St} {H : Hp} {x : Str} {u : Value} {pos : Pos} {Q : Value → Shared → Prop} (I : Inv X pins σ H s) (hg : Gl X x) (hm : X.mg x = some u) (h : Q u s)
    (hd : (x == ("__debug__" : Str)) = false := by decide) : wpAny (model X.prog X.w) X.A (eval (.Name x pos) X.env) Q E s :=
  Calls.Name_function_global I.ok.kind hg (Calls.loadGlobal_global (by rw [I.ok.glob]; exact I.mod.glob.keeps I.bk) hm h) hd
theorem lW {E : Value → Shared → Prop} {pins : List (Addr × Obj)} {s : Shared} {σ : St} {H : Hp} {x : Str} {u : Value} {pos : Pos} {Q : Value → Shared → Prop} (I : Inv X pins σ H s) (hg : Gl X x) (hm : X.mg x = none) (hv : bootBuiltins x = some u) (h : Q u s)
    (hn : x ≠ "__name__" := by decide) (hd : (x == ("__debug__" : Str)) = false := by decide) : wpAny (model X.prog X.w) X.A (eval (.Name x pos) X.env) Q E s := by
  obtain ⟨mb, h1, h2⟩ := I.mod.blt
  exact Calls.Name_function_global I.ok.kind hg (Calls.loadGlobal_builtin (by rw [I.ok.glob]; exact I.mod.glob.keeps I.bk) hm (by rw [I.ok.blt]; exact h1.keeps I.bk) ((h2 x hn).trans hv) h) hd
theorem j7 {x : Str} {v : V} {u : Value} {pos : Pos} (hg : Gl X x) (hm : X.mg x = none) (hv : bootBuiltins x = some u) (r : RelV v u) (hn : x ≠ "__name__" := by decide) (hd : (x == ("__debug__" : Str)) = false := by decide) : PE X (.Name x pos) (tC v) :=
  fun _ _ _ H _ I h => lW I hg hm hv ⟨v, H, I, r, h⟩ hn hd

variable {a b : Expr} {ta tb : TE} {pos : Pos}
def PC (X : Cx) (op : CmpOp) (a b : Expr) (t : TE) : Prop :=
  ∀ (pins : List (Addr × Obj)) (s : Shared) (σ : St) (H : Hp) (Q : VK), Inv X pins σ H s → t σ H Q →
    wpAny (model X.prog X.w) X.A (eval a X.env) (fun v s₁ => wpAny (model X.prog X.w) X.A (eval b X.env) (fun u s₂ => wpAny (model X.prog X.w) X.A (compareOp op v u) (EP X pins σ Q) X.xe s₂) X.xe s₁) X.xe s
theorem sM (b : Expr) {op : CmpOp} (h : op ≠ .In) (h2 : op ≠ .NotIn) : behindInMarks op b = false := by
  have e1 : (op == CmpOp.In) = false := by cases op <;> first | rfl | exact absurd rfl h
  have e2 : (op == CmpOp.NotIn) = false := by cases op <;> first | rfl | exact absurd rfl h2
  cases b <;> simp [behindInMarks, e1, e2]
def tB (t : TE) : TT := fun σ H Q => t σ H fun x H1 => ∃ c, x = .bl c ∧ Q c H1
theorem wA {op : CmpOp} {t : TE} (h : PC X op a b t) (h1 : behindInMarks op b = false := by first | exact sM _ (by decide) (by decide) | rfl) : PT X (.Compare a [op] [b] pos) (tB t) := by
  intro pins s σ H Q I hw
  refine wpAny_isTrue_Compare1 (thn (h pins s σ H _ I hw) fun v s1 h1 => thn h1 fun u s2 h2 => thn h2 fun c s3 ⟨x, H1, I1, r1, q1⟩ => ?_) h1
  obtain ⟨d, rfl, q⟩ := q1
  cases r1
  exact wpAny_truthy_bool ⟨H1, I1, q⟩
theorem kG {e : Expr} {t : TE} (h : PE X e t) (he : ∀ whole, isTrue e X.env whole = (do let v ← whole; standAt e.pos; holding [v] (truthy v)) := by intro _; rfl) : PT X e (tB t) := by
  intro pins s σ H Q I hw
  refine isTrue_plain (thn (h pins s σ H _ I hw) fun v s1 ⟨x, H1, I1, r1, q1⟩ => ?_) (he _)
  obtain ⟨d, rfl, q⟩ := q1
  cases r1
  exact wpAny_truthy_bool ⟨H1, I1, q⟩

variable {tA tB' : TT} {rest : List Expr}
def u7 (t u : TT) : TT := fun σ H Q => t σ H fun c H1 => if c = true then u σ H1 Q else Q false H1
def tOr (t u : TT) : TT := fun σ H Q => t σ H fun c H1 => if c = true then Q true H1 else u σ H1 Q
def uS (t : TT) : TT := fun σ H Q => t σ H fun c H1 => Q (!c) H1
theorem uy (ha : PT X a tA) : PW X (.BoolOp .And [a] pos) tA := by
  intro wh pins s σ H Q I h
  refine isTrue_and (thn (ha pins s σ H Q I h) fun c s1 e => ?_)
  cases c with
  | true => exact isTrue_and_nil e
  | false => exact e
theorem oj (ha : PT X a tA) : PW X (.BoolOp .Or [a] pos) tA := by
  intro wh pins s σ H Q I h
  refine isTrue_or (thn (ha pins s σ H Q I h) fun c s1 e => ?_)
  cases c with
  | false => exact isTrue_or_nil e
  | true => exact e
theorem vO (ha : PT X a tA) (hb : PW X (.BoolOp .And (b :: rest) pos) tB') : PW X (.BoolOp .And (a :: b :: rest) pos) (u7 tA tB') := by
  intro wh pins s σ H Q I h
  refine isTrue_and (thn (ha pins s σ H _ I h) fun c s1 ⟨H1, I1, q1⟩ => ?_)
  cases c with
  | true => exact hb wh pins s1 σ H1 Q I1 q1
  | false => exact ⟨H1, I1, q1⟩
theorem mO (ha : PT X a tA) (hb : PW X (.BoolOp .Or (b :: rest) pos) tB') : PW X (.BoolOp .Or (a :: b :: rest) pos) (tOr tA tB') := by
  intro wh pins s σ H Q I h
  refine isTrue_or (thn (ha pins s σ H _ I h) fun c s1 ⟨H1, I1, q1⟩ => ?_)
  cases c with
  | true => exact ⟨H1, I1, q1⟩
  | false => exact hb wh pins s1 σ H1 Q I1 q1
theorem kE (ha : PT X a tA) : PT X (.UnaryOp .Not a pos) (uS tA) := by
  intro pins s σ H Q I h
  exact isTrue_not (ha pins s σ H (fun c H1 => Q (!c) H1) I h)
def uh (ta tb : TE) : TE := fun σ H Q => ta σ H fun x H1 => ∃ c, x = .bl c ∧ if c = true then tb σ H1 Q else Q (.bl false) H1
def um (ta : TE) : TE := fun σ H Q => ta σ H fun x H1 => ∃ c, x = .bl c ∧ Q (.bl (!c)) H1
theorem oF {op} {t : TE} (h : PE X a t) : PE X (.BoolOp op [a] pos) t := fun pins s σ H Q I hw => BoolOp_one (h pins s σ H Q I hw)
theorem lY (ha : PE X a ta) (hb : PE X (.BoolOp .And (b :: rest) pos) tb) : PE X (.BoolOp .And (a :: b :: rest) pos) (uh ta tb) := by
  intro pins s σ H Q I h
  refine BoolOp_and (thn (ha pins s σ H _ I h) fun v s1 ⟨x, H1, I1, r1, q1⟩ => ?_)
  obtain ⟨c, rfl, q1⟩ := q1
  cases r1
  refine wpAny_truthy_bool ?_
  cases c with
  | true => exact hb pins s1 σ H1 Q I1 q1
  | false => exact ⟨.bl false, H1, I1, rfl, q1⟩
theorem vL (ha : PE X a ta) : PE X (.UnaryOp .Not a pos) (um ta) := by
  intro pins s σ H Q I h
  refine UnaryOp_ (thn (ha pins s σ H _ I h) fun v s1 ⟨x, H1, I1, r1, q1⟩ => ?_)
  obtain ⟨c, rfl, q1⟩ := q1
  cases r1
  exact not_of (wpAny_truthy_bool ⟨.bl (!c), H1, I1, rfl, q1⟩)
end
end L2

namespace L2
open PySem PySem.Spec PyProof.Rows

def SqL (K : PySem.W.Frag) (H : Hp) (a : Addr) (xs : List V) : Prop :=
  Rd H a (.lst xs) ∨
    ∃ (o : Obj) (its : Array Value) (n : Nat), K.lookup a = some o ∧ o.cls = .type "list" ∧ o.dict = none ∧ o.data = .seq its n ∧ its.size ≤ sizeLine ∧ Vals xs its.toList
def SqT (K : PySem.W.Frag) (H : Hp) (a : Addr) (xs : List V) : Prop :=
  Rd H a (.tup xs) ∨
    ∃ (o : Obj) (its : Array Value) (n : Nat), K.lookup a = some o ∧ o.cls = .type "tuple" ∧ o.data = .seq its n ∧ its.size ≤ sizeLine ∧ Vals xs its.toList
def wj : Value → Option V
  | .none => some .non
  | .bool b => some (.bl b)
  | .int i _ => some (.int i)
  | .str x _ => some (.str x)
  | .bytes b _ => some (.byt b)
  | .float b _ => some (.flt b)
  | .ref a => some (.ref a)
  | .type n => some (.ty n)
  | _ => none
theorem RelV.abs {x : V} {u : Value} (r : RelV x u) : wj u = some x := by
  cases x with
  | non => cases r; rfl
  | bl _ => cases r; rfl
  | int _ => obtain ⟨t, rfl⟩ := r; rfl
  | str _ => obtain ⟨t, rfl⟩ := r; rfl
  | byt _ => obtain ⟨t, rfl⟩ := r; rfl
  | flt _ => obtain ⟨t, rfl⟩ := r; rfl
  | ref _ => cases r; rfl
  | ty _ => cases r; rfl
theorem RelV.inj {x y : V} {u : Value} (r : RelV x u) (q : RelV y u) : x = y := Option.some.inj (r.abs.symm.trans q.abs)
theorem Vals.inj : ∀ {xs ys : List V} {us : List Value}, Vals xs us → Vals ys us → xs = ys
  | _, _, _, .nil, .nil => rfl
  | _, _, _, .cons r t, .cons r' t' => by rw [r.inj r', Vals.inj t t']
section
variable {X : Cx} {pins : List (Addr × Obj)} {σ : St} {H : Hp} {s : Shared} {a : Addr} {xs ys : List V}
theorem SqL.of {K : PySem.W.Frag} (h : H a = some (.lst xs)) : SqL K H a xs := .inl (.inl h)
theorem SqT.of {K : PySem.W.Frag} (h : H a = some (.tup xs)) : SqT K H a xs := .inl (.inl h)
theorem Inv.list (I : Inv X pins σ H s) (h : SqL X.K H a xs) : ∃ its : List Value, Vals xs its ∧ PlainL s.heap a its.toArray ∧ xs.length ≤ sizeLine := by
  rcases h with h | ⟨o, its, n, hk, hc, hd, hs, hz, r⟩
  · obtain ⟨z, its, n, r, e⟩ := h.ok I.hok
    exact ⟨its, r, ⟨_, n, e, rfl, rfl, rfl⟩, z⟩
  · refine ⟨its.toList, r, ⟨o, n, I.kIn a o hk, hc, hd, by simpa using hs⟩, ?_⟩
    have e := r.length
    simp only [Array.length_toList] at e
    omega
theorem Inv.tuple (I : Inv X pins σ H s) (h : SqT X.K H a xs) : ∃ its : List Value, Vals xs its ∧ IsTup s.heap a its.toArray ∧ xs.length ≤ sizeLine := by
  rcases h with h | ⟨o, its, n, hk, hc, hs, hz, r⟩
  · obtain ⟨z, its, r, p, _⟩ := h.ok I.hok
    exact ⟨its, r, p, z⟩
  · refine ⟨its.toList, r, ⟨o, I.kIn a o hk, hc, n, by simpa using hs⟩, ?_⟩
    have e := r.length
    simp only [Array.length_toList] at e
    omega
theorem Inv.list_inj (I : Inv X pins σ H s) (h : SqL X.K H a xs) (h' : SqL X.K H a ys) : xs = ys := by
  obtain ⟨its, r, ⟨o, n, e, _, _, d⟩, _⟩ := I.list h
  obtain ⟨its', r', ⟨o', n', e', _, _, d'⟩, _⟩ := I.list h'
  rw [e] at e'; cases e'
  rw [d] at d'
  injection d' with d1 _
  have : its = its' := by simpa using congrArg Array.toList d1
  subst this
  exact r.inj r'
theorem Inv.tuple_inj (I : Inv X pins σ H s) (h : SqT X.K H a xs) (h' : SqT X.K H a ys) : xs = ys := by
  obtain ⟨its, r, ⟨o, e, _, n, d⟩, _⟩ := I.tuple h
  obtain ⟨its', r', ⟨o', e', _, n', d'⟩, _⟩ := I.tuple h'
  rw [e] at e'; cases e'
  rw [d] at d'
  injection d' with d1 _
  have : its = its' := by simpa using congrArg Array.toList d1
  subst this
  exact r.inj r'
end

abbrev Cx.wish (X : Cx) (E : Value → Shared → Prop) : Cx := { X with xe := E }
abbrev Cx.nox (X : Cx) : Cx := X.wish fun _ _ => False
theorem Cx.Ok.wish {X : Cx} (ok : X.Ok) (E : Value → Shared → Prop) : (X.wish E).Ok :=
  ⟨ok.mod, ok.kind, ok.glob, ok.blt, ok.above, ok.inj, ok.has, ok.cab, ok.hd, ok.frames, ok.stk, ok.exf, ok.bs, ok.bsz, ok.noex, ok.exfs, ok.funs, ok.frf⟩
theorem Cx.Ok.unwish {X : Cx} {E : Value → Shared → Prop} (ok : (X.wish E).Ok) : X.Ok :=
  ⟨ok.mod, ok.kind, ok.glob, ok.blt, ok.above, ok.inj, ok.has, ok.cab, ok.hd, ok.frames, ok.stk, ok.exf, ok.bs, ok.bsz, ok.noex, ok.exfs, ok.funs, ok.frf⟩
section
variable {X : Cx} {pins : List (Addr × Obj)} {σ : St} {H : Hp} {s : Shared} {E : Value → Shared → Prop}
theorem Inv.wish (I : Inv X pins σ H s) (E : Value → Shared → Prop) : Inv (X.wish E) pins σ H s := ⟨I.ok.wish E, I.os, I.bare, I.base, I.loc, I.cell, I.free, I.freeC, I.pin, I.hok, I.len⟩
theorem Inv.unwish (I : Inv (X.wish E) pins σ H s) : Inv X pins σ H s := ⟨I.ok.unwish, I.os, I.bare, I.base, I.loc, I.cell, I.free, I.freeC, I.pin, I.hok, I.len⟩
theorem SP.unwish {D : Ends} {f : Flow} {s' : Shared} (h : SP (X.wish E) pins D f s') : SP X pins D f s' := by
  cases f with
  | next => obtain ⟨σ', H', I, q⟩ := h; exact ⟨σ', H', I.unwish, q⟩
  | brk => obtain ⟨σ', H', I, q⟩ := h; exact ⟨σ', H', I.unwish, q⟩
  | cont => obtain ⟨σ', H', I, q⟩ := h; exact ⟨σ', H', I.unwish, q⟩
  | ret u => obtain ⟨v, σ', H', I, r, q⟩ := h; exact ⟨v, σ', H', I.unwish, r, q⟩
theorem PSs.nox {st : List Stmt} {t : TS} (h : PSs X.nox st t) : PSs X st t := fun pins s σ H D I hw =>
  wpAny_mono (h pins s σ H D (I.wish _) hw) (fun _ _ q => q.unwish) fun _ _ z => False.elim z
end

section
variable {X : Cx} {st : Stmt} {rest : List Stmt} {t u : TS} {e : Expr} {te : TE} {pos : Pos}
def ue : TS := fun D σ H => D.nx σ H
def jD (t u : TS) : TS := fun D σ H => t { D with nx := u D } σ H
theorem jq : PSs X [] ue := fun _ _ σ H _ I h => wpAny_execs_nil ⟨σ, H, I, h⟩
theorem ez (h1 : PS X st t) (h2 : PSs X rest u) : PSs X (st :: rest) (jD t u) := by
  intro pins s σ H D I h
  refine wpAny_execs_cons (thn (h1 pins s σ H { D with nx := u D } I h) fun f s1 q => ?_)
  cases f with
  | next =>
    obtain ⟨σ', H', I', q⟩ := q
    exact h2 pins s1 σ' H' D I' q
  | ret v => exact q
  | brk => exact q
  | cont => exact q
theorem g8 (h1 : PS X st t) : PSs X [st] t := by
  intro pins s σ H D I h
  refine wpAny_execs_cons (thn (h1 pins s σ H D I h) fun f s1 q => ?_)
  cases f with
  | next => exact wpAny_execs_nil q
  | ret v => exact q
  | brk => exact q
  | cont => exact q
theorem Inv.quiet {pins : List (Addr × Obj)} {σ : St} {H : Hp} {s : Shared} (I : Inv X pins σ H s) : interactive X.env = false := by simp [interactive, I.ok.kind]
def tY (te : TE) : TS := fun D σ H => te σ H fun _ H1 => D.nx σ H1
theorem jW (he : PE X e te) (hs : swapsWith e none pos.line X.env = pure false := by rfl) : PS X (.Expr e pos) (tY te) := by
  intro pins s σ H D I h
  exact wpAny_Expr_any (thn (he pins s σ H _ I h) fun v s1 ⟨x, H1, I1, r1, q1⟩ => ⟨σ, H1, I1, q1⟩) I.quiet hs
def vg (te : TE) : TS := fun D σ H => te σ H D.rt
theorem je (he : PE X e te) : PS X (.Return (some e) pos) (vg te) := by
  intro pins s σ H D I h
  exact wpAny_Return_some (thn (he pins s σ H _ I h) fun v s1 ⟨x, H1, I1, r1, q1⟩ => ⟨x, σ, H1, I1, r1, q1⟩)
def uV (c : TT) (t u : TS) : TS := fun D σ H => c σ H fun b H1 => if b = true then t D σ H1 else u D σ H1
theorem jK {c : Expr} {a b : List Stmt} {tc : TT} (hc : PT X c tc) (ha : PSs X a t) (hb : PSs X b u) : PS X (.If c a b pos) (uV tc t u) := by
  intro pins s σ H D I h
  refine wpAny_If (thn (hc pins s σ H _ I h) fun d s1 ⟨H1, I1, q1⟩ => ?_)
  cases d with
  | true => exact ha pins s1 σ H1 D I1 q1
  | false => exact hb pins s1 σ H1 D I1 q1
end

abbrev TG := V → St → Hp → (St → Hp → Prop) → Prop
abbrev TGs := List V → St → Hp → (St → Hp → Prop) → Prop
def PG (X : Cx) (target : Expr) (t : TG) : Prop :=
  ∀ (pins : List (Addr × Obj)) (s : Shared) (σ : St) (H : Hp) (v : V) (u : Value) (Q : St → Hp → Prop), Inv X pins σ H s → RelV v u → t v σ H Q →
    wpAny (model X.prog X.w) X.A (assign target X.env u) (fun _ s' => ∃ σ' H', Inv X pins σ' H' s' ∧ Q σ' H') X.xe s
def PGs (X : Cx) (ts : List Expr) (t : TGs) : Prop :=
  ∀ (pins : List (Addr × Obj)) (s : Shared) (σ : St) (H : Hp) (vs : List V) (us : List Value) (Q : St → Hp → Prop), Inv X pins σ H s → Vals vs us → t vs σ H Q →
    wpAny (model X.prog X.w) X.A (assignInOrder ((assignEach ts X.env).map (·.2)) us) (fun _ s' => ∃ σ' H', Inv X pins σ' H' s' ∧ Q σ' H') X.xe s
abbrev sV := V → V → V → Hp → (Hp → Prop) → Prop
def vc (X : Cx) (t : sV) : Prop :=
  ∀ (pins : List (Addr × Obj)) (s : Shared) (σ : St) (H : Hp) (o i v : V) (ov iv u : Value) (Q : Hp → Prop), Inv X pins σ H s → RelV o ov → RelV i iv → RelV v u → t o i v H Q →
    wpAny (model X.prog X.w) X.A (setItem ov iv u) (fun _ s' => ∃ H', Inv X pins σ H' s' ∧ Q H') X.xe s
section
variable {X : Cx} {pos : Pos}
def nS (i : Nat) : TG := fun v σ H Q => Q (σ.set i (some v)) H
theorem i6 {i : Nat} {x : Str} (hN : X.N.Nodup) (hi : X.N[i]? = some x) (hx : Loc X.env.scope x) (hf : X.fn x = true ∨ X.env.scope.names.lookup x = some .local := by first | exact .inl rfl | exact .inr rfl | assumption) : PG X (.Name x pos) (nS i) := by
  intro pins s σ H v u Q I r h
  exact wpAny_assign_Name (oz I hN hi hx r (fun s' I' => ⟨_, H, I', h⟩) hf)
def vS : TGs := fun vs σ H Q => vs = [] ∧ Q σ H
def tX (t : TG) (u : TGs) : TGs := fun vs σ H Q => ∃ v r, vs = v :: r ∧ t v σ H fun σ' H' => u r σ' H' Q
theorem m6 : PGs X [] vS := by
  intro pins s σ H vs us Q I r h
  obtain ⟨e, h⟩ := h
  subst e
  cases r
  exact assignInOrder_nil ⟨σ, H, I, h⟩
theorem jG {e : Expr} {es : List Expr} {t : TG} {u : TGs} (h1 : PG X e t) (h2 : PGs X es u)
    (hs : (assignEach (e :: es) X.env).map (·.2) = assign e X.env :: (assignEach es X.env).map (·.2) := by rfl) : PGs X (e :: es) (tX t u) := by
  intro pins s σ H vs us Q I r h
  obtain ⟨v, vr, e1, h⟩ := h
  subst e1
  cases r with
  | cons r rr =>
    rw [hs]
    refine assignInOrder_cons (thn (h1 pins s σ H _ _ _ I r h) fun _ s1 ⟨σ1, H1, I1, q1⟩ => ?_)
    exact h2 pins s1 σ1 H1 _ _ Q I1 rr q1
def uY (K : PySem.W.Frag) (n : Nat) (t : TGs) : TG := fun v σ H Q => ∃ a xs, v = .ref a ∧ SqT K H a xs ∧ xs.length = n ∧ t xs σ H Q
theorem oq {es : List Expr} {k : Nat} {t : TGs} {n : Nat} (hc : X.calm = true) (h : PGs X es t)
    (hn : (assignEach es X.env).length = n := by rfl) (hst : (assignEach es X.env).findIdx? (·.1) = none := by rfl) : PG X (.Tuple es k pos) (uY X.K n t) := by
  intro pins s σ H v u Q I r hw
  obtain ⟨a, xs, e1, hq, hl, hw⟩ := hw
  subst e1
  cases r
  obtain ⟨its, rv, ht, hz⟩ := I.tuple hq
  refine assign_Tuple_tuple (I.ok.hd hc) ht (by simp [hn, ← hl, rv.length]) hst fun h' hx => ?_
  have I1 : Inv X pins σ H { s with heap := h' } := I.kept (t' := s.toks) fun b o e => hx b o (Nat.ne_of_lt (Heap.lt_size e)) e
  exact h pins _ σ H xs _ Q I1 (by simpa using rv) hw
def vH (to ti : TE) (t : sV) : TG := fun v σ H Q => to σ H fun o H1 => ti σ H1 fun i H2 => t o i v H2 fun H3 => Q σ H3
theorem uZ {o i : Expr} {to ti : TE} {t : sV} (ho : PE X o to) (hi : PE X i ti) (hs : vc X t)
    (ha : ∀ v, assign (.Subscript o i pos) X.env v = (do
      let ov ← holding [v] (eval o X.env)
      let iv ← holding [v, ov] (eval i X.env)
      standAt pos
      holding [v, ov, iv] (setItem ov iv v)
      release [v, ov, iv] []) := by intro _; rfl) : PG X (.Subscript o i pos) (vH to ti t) := by
  intro pins s σ H v u Q I r h
  rw [ha]
  refine wpAny_bind (wpAny_holding (thn (ho pins s σ H _ I h) fun ov s1 ⟨x, H1, I1, r1, q1⟩ => ?_))
  refine wpAny_bind (wpAny_holding (thn (hi pins s1 σ H1 _ I1 q1) fun iv s2 ⟨y, H2, I2, r2, q2⟩ => ?_))
  refine wpAny_bind (wpAny_standAt (wpAny_bind (wpAny_holding (thn (hs pins s2 σ H2 x y v ov iv u _ I2 r1 r2 r q2) fun _ s3 ⟨H3, I3, q3⟩ => ?_))))
  exact wpAny_release ⟨σ, H3, I3, q3⟩
def qB (te : TE) (g : TG) : TS := fun D σ H => te σ H fun x H1 => g x σ H1 D.nx
theorem rE {tg e : Expr} {te : TE} {g : TG} (he : PE X e te) (hg : PG X tg g) (hs : swapsWithSole [tg] e pos.line X.env = pure false := by rfl) (hw : swappedStores [tg] e X.env = pure none := by rfl)
    (h1 : (assignEach [tg] X.env).map (·.2) = [assign tg X.env] := by rfl) : PS X (.Assign [tg] e pos) (qB te g) := by
  intro pins s σ H D I h
  refine wpAny_Assign_stores (thn (he pins s σ H _ I h) fun v s1 ⟨x, H1, I1, r1, q1⟩ => ?_) hs hw
  rw [h1]
  exact thn (hg pins s1 σ H1 x v _ I1 r1 q1) fun _ s2 q => q
theorem iZ {i : Nat} {x : Str} {e : Expr} {te : TE} {pos' : Pos} (hN : X.N.Nodup) (hi : X.N[i]? = some x) (hx : Loc X.env.scope x) (he : PE X e te) (hs : swapsWith e (some (.Name x pos')) pos.line X.env = pure false := by rfl) (hf : X.fn x = true ∨ X.env.scope.names.lookup x = some .local := by first | exact .inl rfl | exact .inr rfl | assumption) :
    PS X (.Assign [.Name x pos'] e pos) (qB te (nS i)) := by
  intro pins s σ H D I h
  refine wpAny_Assign_Name (thn (he pins s σ H _ I h) fun v s1 ⟨y, H1, I1, r1, q1⟩ => ?_) hs
  exact oz I1 hN hi hx r1 (fun s2 I2 => ⟨_, H1, I2, q1⟩) hf
end

section
variable {X : Cx} {pos : Pos}
def vQ (c : TT) (tb : TS) : TS := fun D σ H => ∃ W : Nat → St → Hp → Prop, (∃ m, W m σ H) ∧ ∀ m σ H, W m σ H →
  c σ H fun b H1 => if b = true then ∃ N : St → Hp → Prop, (∀ σ' H', N σ' H' → ∃ m', m' < m ∧ W m' σ' H') ∧ tb { D with nx := N, ct := N, bk := D.nx } σ H1 else D.nx σ H1
theorem sX {c : Expr} {body : List Stmt} {tc : TT} {tb : TS} (hp : PassesOwn (model X.prog X.w) X.A X.env X.xe) (hc : PT X c tc) (hb : PSs X body tb) : PS X (.While c body [] pos) (vQ tc tb) := by
  intro pins s σ H D I h
  obtain ⟨W, ⟨m0, w0⟩, turn⟩ := h
  refine wpAny_While (codeAny_whileLoop (fun n s' => ∃ σ' H', Inv X pins σ' H' s' ∧ W n σ' H') ?_ m0 ⟨σ, H, I, w0⟩)
  rintro n s1 ⟨σ1, H1, I1, w1⟩
  refine wpAny_passesOwn hp (thn (hc pins s1 σ1 H1 _ I1 (turn n σ1 H1 w1)) fun b s2 ⟨H2, I2, q2⟩ => ?_)
  cases b with
  | true =>
    obtain ⟨N, hN, q2⟩ := q2
    rw [if_pos rfl]
    refine wpAny_passesOwn hp (thn (hb pins s2 σ1 H2 _ I2 q2) fun f s3 q3 => ?_)
    cases f with
    | next =>
      obtain ⟨σ3, H3, I3, n3⟩ := q3
      obtain ⟨m', hm, w3⟩ := hN σ3 H3 n3
      exact ⟨m', hm, σ3, H3, I3, w3⟩
    | cont =>
      obtain ⟨σ3, H3, I3, n3⟩ := q3
      obtain ⟨m', hm, w3⟩ := hN σ3 H3 n3
      exact ⟨m', hm, σ3, H3, I3, w3⟩
    | brk => exact q3
    | ret v => exact q3
  | false =>
    rw [if_neg Bool.false_ne_true]
    exact wpAny_execs_nil ⟨σ1, H2, I2, q2⟩
end

structure It where
  go : Nat → Hp → Prop
  yld : Nat → Hp → V → Hp → Prop
  stop : Nat → Hp → Prop
def FpOk (X : Cx) (pins : List (Addr × Obj)) (H : Hp) (b : Addr) : Prop :=
  H b = none ∧ b ≠ X.env.locals ∧ b ∉ X.fs ∧ (b ∈ X.ex ∨ X.s₀.heap.objs.size ≤ b) ∧ (∀ x c, X.env.cells.lookup x = some c → c ≠ b) ∧ ∀ p ∈ X.pn ++ pins, p.1 ≠ b
theorem Inv.fpOk {X : Cx} {pins : List (Addr × Obj)} {σ : St} {H H' : Hp} {s : Shared} {b : Addr} (I : Inv X pins σ H s) (hb : s.heap.objs.size ≤ b) (hn : H' b = none) : FpOk X pins H' b := by
  refine ⟨hn, Nat.ne_of_gt (Nat.lt_of_lt_of_le I.lt hb), I.nofs hb, .inr (Nat.le_trans I.sz hb), fun x c e z => ?_, fun p hp z => ?_⟩
  · obtain ⟨v, q⟩ := I.cell x c e
    exact absurd (Nat.lt_of_lt_of_le q.lt (by rw [z]; exact hb)) (Nat.lt_irrefl _)
  · exact absurd (Nat.lt_of_lt_of_le (Heap.lt_size (I.pin p hp).1) (by rw [z]; exact hb)) (Nat.lt_irrefl _)
structure Turn (P : Program) (w : World) (K : PySem.W.Frag) (tg : Expr) (J : It) (fp : List Addr) (it : Addr) (tn : Nat → Heap → Prop) : Prop where
  mem : it ∈ fp
  obj : ∀ i h, tn i h → ∀ b ∈ fp, ∃ o, h.get? b = some o ∧ ∀ v, o.data ≠ .cell v
  keep : ∀ i h h', tn i h → (∀ b ∈ fp, ∀ o, h.get? b = some o → h'.get? b = some o) → tn i h'
  item : ∀ (X : Cx), X.prog = P → X.w = w → X.K = K → X.calm = true → ∀ (i : Nat) (pins : List (Addr × Obj)) (s : Shared) (σ : St) (H : Hp) (E : Value → Shared → Prop), Inv X pins σ H s → (∀ b ∈ fp, FpOk X pins H b) → tn i s.heap → J.go i H →
    wpAny (model P w) X.A (pyNext (.ref it)) (fun r s1 => ∃ u, r = some u ∧
      wpAny (model P w) X.A (letOwnedTupleGo tg (.ref it) u) (fun _ s2 => ∃ x H', Inv X pins σ H' s2 ∧ RelV x u ∧ J.yld i H x H' ∧ tn (i + 1) s2.heap ∧ ∀ b ∈ fp, H' b = none) E s1) E s
  done : ∀ (X : Cx), X.prog = P → X.w = w → X.K = K → X.calm = true → ∀ (i : Nat) (pins : List (Addr × Obj)) (s : Shared) (σ : St) (H : Hp) (E : Value → Shared → Prop), Inv X pins σ H s → (∀ b ∈ fp, FpOk X pins H b) → tn i s.heap → J.stop i H →
    wpAny (model P w) X.A (pyNext (.ref it)) (fun r s1 => r = none ∧ Inv X pins σ H s1) E s
  self : ∀ (A : Around) (i : Nat) (s : Shared) (Q : Value → Shared → Prop) (E : Value → Shared → Prop), tn i s.heap → Q (.ref it) s → wpAny (model P w) A (pyIter (.ref it)) Q E s
abbrev TI := St → Hp → (It → Hp → Prop) → Prop
def PIE (X : Cx) (pins : List (Addr × Obj)) (σ : St) (tg : Expr) (R : It → Hp → Prop) (itv : Value) (s2 : Shared) : Prop :=
  ∃ (it : Addr) (fp : List Addr) (tn : Nat → Heap → Prop) (J : It) (H' : Hp), itv = .ref it ∧ Inv X pins σ H' s2 ∧ Turn X.prog X.w X.K tg J fp it tn ∧ tn 0 s2.heap ∧ (∀ b ∈ fp, FpOk X pins H' b) ∧ R J H'
def PI (X : Cx) (tg iter : Expr) (wi : TI) : Prop :=
  ∀ (pins : List (Addr × Obj)) (s : Shared) (σ : St) (H : Hp) (R : It → Hp → Prop), Inv X pins σ H s → wi σ H R →
    wpAny (model X.prog X.w) X.A (eval iter X.env) (fun v s1 => wpAny (model X.prog X.w) X.A (pyIter v) (PIE X pins σ tg R) X.xe s1) X.xe s

theorem qP {M : Model} {A : Around} {E : Value → Shared → Prop} {s : Shared} {tg : Expr} {it : Addr} {u : Value} {o : Obj} {n : String} {vs : Array Value} {Q : Unit → Shared → Prop} (ho : s.heap.get? it = some o) (hc : o.cls = .type n) (hd : o.data = .fields vs)
    (hn : ["enumerate", "zip", "dict_itemiterator", "dict_reverseitemiterator", "odict_iterator", "itertools.zip_longest", "itertools.pairwise"].contains n = false) (hQ : Q () s) : wpAny M A (letOwnedTupleGo tg (.ref it) u) Q E s := by
  unfold letOwnedTupleGo
  cases tg <;> first
    | exact wpAny_pure hQ
    | (cases u <;> first
        | exact wpAny_pure hQ
        | (refine wpAny_bind (wpAny_load ho ?_)
           rw [hc, hd]
           show wpAny M A (if (["enumerate", "zip", "dict_itemiterator", "dict_reverseitemiterator", "odict_iterator", "itertools.zip_longest", "itertools.pairwise"].contains n && vs[0]? == some (rawInt _)) = true then _ else _) Q E s
           rw [if_neg (by intro h; rw [hn, Bool.false_and] at h; cases h)]
           exact wpAny_pure hQ))

def Itl (K : PySem.W.Frag) (a : Addr) : It :=
  ⟨fun i H => ∃ xs x, SqL K H a xs ∧ xs[i]? = some x, fun i H x H' => H' = H ∧ ∀ xs, SqL K H a xs → xs[i]? = some x, fun i H => ∃ xs, SqL K H a xs ∧ xs.length ≤ i⟩
def Itt (K : PySem.W.Frag) (a : Addr) : It :=
  ⟨fun i H => ∃ xs x, SqT K H a xs ∧ xs[i]? = some x, fun i H x H' => H' = H ∧ ∀ xs, SqT K H a xs → xs[i]? = some x, fun i H => ∃ xs, SqT K H a xs ∧ xs.length ≤ i⟩
def Itr (lo : Int) (n : Nat) : It := ⟨fun i _ => i < n, fun i H x H' => H' = H ∧ x = .int (lo + i), fun i _ => n ≤ i⟩
theorem sq {P : Program} {w : World} {K : PySem.W.Frag} {tg : Expr} (a it : Addr) : Turn P w K tg (Itl K a) [it] it (fun i h => h.IsListIter it a i) where
  mem := by simp
  obj := fun i h st b hb => by
    have e : b = it := by simpa using hb
    subst e
    obtain ⟨o, e, c, d⟩ := st
    exact ⟨o, e, fun v z => by rw [d] at z; cases z⟩
  keep := fun i h h' st k => st.at fun o e => k it (by simp) o e
  item := by
    intro X hP hw hK hc i pins s σ H E I hf st hg
    subst hP hw hK
    obtain ⟨xs, x, hq, hx⟩ := hg
    obtain ⟨its, rv, p, hz⟩ := I.list hq
    obtain ⟨u, hu, ru⟩ := rv.get hx
    obtain ⟨f0, f1, f2, f3, f4, f5⟩ := hf it (by simp)
    refine wpAny_pyNext_list_item st p.isList (x := u) (by simpa using hu) fun h' st' sb => ?_
    have I1 : Inv X pins σ H { s with heap := h' } := I.turned (t' := s.toks) (fun b o hb e => (sb.2 b hb).trans e) f0 f1 f3 f4 f5
    obtain ⟨o, e, c, d⟩ := id st'
    exact ⟨u, rfl, qP (s := { s with heap := h' }) e c d (by decide) ⟨x, H, I1, ru, ⟨rfl, fun ys hy => by rw [I.list_inj hy hq]; exact hx⟩, st', fun b hb => (hf b hb).1⟩⟩
  done := by
    intro X hP hw hK hc i pins s σ H E I hf st hg
    subst hP hw hK
    obtain ⟨xs, hq, hx⟩ := hg
    obtain ⟨its, rv, p, hz⟩ := I.list hq
    obtain ⟨f0, f1, f2, f3, f4, f5⟩ := hf it (by simp)
    have hl := rv.length
    exact wpAny_pyNext_list_end (I.ok.hd hc) st p.isList (by simp; omega) fun h' eb => ⟨rfl, I.turned (t' := s.toks) (fun b o hb e => eb b o hb e) f0 f1 f3 f4 f5⟩
  self := fun _ _ _ _ _ st h => wpAny_pyIter_listiter st h
theorem qv {P : Program} {w : World} {K : PySem.W.Frag} {tg : Expr} (a it : Addr) : Turn P w K tg (Itt K a) [it] it (fun i h => h.IsTupleIter it a i) where
  mem := by simp
  obj := fun i h st b hb => by
    have e : b = it := by simpa using hb
    subst e
    obtain ⟨o, e, c, d⟩ := st
    exact ⟨o, e, fun v z => by rw [d] at z; cases z⟩
  keep := fun i h h' st k => st.at fun o e => k it (by simp) o e
  item := by
    intro X hP hw hK hc i pins s σ H E I hf st hg
    subst hP hw hK
    obtain ⟨xs, x, hq, hx⟩ := hg
    obtain ⟨its, rv, p, hz⟩ := I.tuple hq
    obtain ⟨u, hu, ru⟩ := rv.get hx
    obtain ⟨f0, f1, f2, f3, f4, f5⟩ := hf it (by simp)
    refine wpAny_pyNext_tuple_item st (show s.heap.IsTuple a its.toArray from p) (x := u) (by simpa using hu) fun h' st' sb => ?_
    have I1 : Inv X pins σ H { s with heap := h' } := I.turned (t' := s.toks) (fun b o hb e => (sb.2 b hb).trans e) f0 f1 f3 f4 f5
    obtain ⟨o, e, c, d⟩ := id st'
    exact ⟨u, rfl, qP (s := { s with heap := h' }) e c d (by decide) ⟨x, H, I1, ru, ⟨rfl, fun ys hy => by rw [I.tuple_inj hy hq]; exact hx⟩, st', fun b hb => (hf b hb).1⟩⟩
  done := by
    intro X hP hw hK hc i pins s σ H E I hf st hg
    subst hP hw hK
    obtain ⟨xs, hq, hx⟩ := hg
    obtain ⟨its, rv, p, hz⟩ := I.tuple hq
    obtain ⟨f0, f1, f2, f3, f4, f5⟩ := hf it (by simp)
    have hl := rv.length
    exact wpAny_pyNext_tuple_end (I.ok.hd hc) st (show s.heap.IsTuple a its.toArray from p) (by simp; omega) fun h' eb => ⟨rfl, I.turned (t' := s.toks) (fun b o hb e => eb b o hb e) f0 f1 f3 f4 f5⟩
  self := fun _ _ _ _ _ st h => wpAny_pyIter_tupleiter st h
theorem qD {P : Program} {w : World} {K : PySem.W.Frag} {tg : Expr} (it : Addr) (lo : Int) (n : Nat) : Turn P w K tg (Itr lo n) [it] it (fun i h => IsRangeIter h it (lo + (i : Nat) * 1) ((n : Int) - (i : Nat)) 1) where
  mem := by simp
  obj := fun i h st b hb => by
    have e : b = it := by simpa using hb
    subst e
    exact ⟨_, st, fun v z => by
      have z' : Data.fields _ = Data.cell v := z
      cases z'⟩
  keep := fun i h h' st k => k it (by simp) _ st
  item := by
    intro X hP hw hK hc i pins s σ H E I hf st hg
    subst hP hw hK
    obtain ⟨f0, f1, f2, f3, f4, f5⟩ := hf it (by simp)
    have W := Walks.range (prog := X.prog) (w := X.w) (I.ok.hd hc) it lo 1 n
    refine W.item i s _ _ hg st fun v h' tk hv st' kk => ?_
    obtain ⟨t, rfl⟩ := hv
    have I1 : Inv X pins σ H { s with heap := h', toks := tk } := I.turned (fun b o hb e => kk b o (by simpa using hb) e) f0 f1 f3 f4 f5
    refine ⟨_, rfl, qP (s := { s with heap := h', toks := tk }) (n := "range_iterator") st' rfl rfl (by decide) ⟨.int (lo + i), H, I1, ⟨t, ?_⟩, ⟨rfl, rfl⟩, st', fun b hb => (hf b hb).1⟩⟩
    rw [Int.mul_one]
  done := by
    intro X hP hw hK hc i pins s σ H E I hf st hg
    subst hP hw hK
    obtain ⟨f0, f1, f2, f3, f4, f5⟩ := hf it (by simp)
    exact wpAny_pyNext_range_end (I.ok.hd hc) st (by have : n ≤ i := hg; omega) fun h' eb => ⟨rfl, I.turned (t' := s.toks) (fun b o hb e => eb b o hb e) f0 f1 f3 f4 f5⟩
  self := fun _ _ _ _ _ st h => wpAny_pyIter_rangeiter st h
end L2

namespace L2
open PySem PySem.Spec PyProof.Rows
section
variable {X : Cx} {tg : Expr}
def qY (K : PySem.W.Frag) (tl : TE) : TI := fun σ H R => tl σ H fun x H1 => ∃ a, x = .ref a ∧ (∃ xs, SqL K H1 a xs) ∧ R (Itl K a) H1
def u0 (K : PySem.W.Frag) (tl : TE) : TI := fun σ H R => tl σ H fun x H1 => ∃ a, x = .ref a ∧ (∃ xs, SqT K H1 a xs) ∧ R (Itt K a) H1
theorem jC {l : Expr} {tl : TE} (hl : PE X l tl) : PI X tg l (qY X.K tl) := by
  intro pins s σ H R I h
  refine thn (hl pins s σ H _ I h) fun v s1 ⟨x, H1, I1, r1, q1⟩ => ?_
  obtain ⟨a, e, ⟨xs, hq⟩, q⟩ := q1
  subst e
  cases r1
  obtain ⟨its, rv, p, hz⟩ := I1.list hq
  refine wpAny_pyIter_list p.isList ?_
  refine ⟨s1.heap.objs.size, [s1.heap.objs.size], _, _, H1, rfl, I1.kept (t' := s1.toks) fun b o e => Heap.get?_push_of_some _ e, sq a _, ⟨_, Heap.get?_push_size _ rfl, rfl, rfl⟩, fun b hb => ?_, q⟩
  have e : b = s1.heap.objs.size := by simpa using hb
  subst e
  exact I1.fpOk (Nat.le_refl _) (I1.hok.fresh (Nat.le_refl _))
theorem oR {l : Expr} {tl : TE} (hl : PE X l tl) : PI X tg l (u0 X.K tl) := by
  intro pins s σ H R I h
  refine thn (hl pins s σ H _ I h) fun v s1 ⟨x, H1, I1, r1, q1⟩ => ?_
  obtain ⟨a, e, ⟨xs, hq⟩, q⟩ := q1
  subst e
  cases r1
  obtain ⟨its, rv, p, hz⟩ := I1.tuple hq
  refine wpAny_pyIter_tuple (show s1.heap.IsTuple a its.toArray from p) ?_
  refine ⟨s1.heap.objs.size, [s1.heap.objs.size], _, _, H1, rfl, I1.kept (t' := s1.toks) fun b o e => Heap.get?_push_of_some _ e, qv a _, ⟨_, Heap.get?_push_size _ rfl, rfl, rfl⟩, fun b hb => ?_, q⟩
  have e : b = s1.heap.objs.size := by simpa using hb
  subst e
  exact I1.fpOk (Nat.le_refl _) (I1.hok.fresh (Nat.le_refl _))
theorem tu {pins : List (Addr × Obj)} {σ : St} {H : Hp} {s : Shared} {R : It → Hp → Prop} {E : Value → Shared → Prop} {lo hi : Int} {t u v : Tok} {tk : Nat} (I : Inv X pins σ H s) (h1 : -(2 ^ 62) ≤ lo) (h2 : lo < 2 ^ 62) (h3 : -(2 ^ 62) ≤ hi) (h4 : hi < 2 ^ 62)
    (q : R (Itr lo (hi - lo).toNat) H) : wpAny (model X.prog X.w) X.A (pyIter (.ref s.heap.objs.size)) (PIE X pins σ tg R) E { s with heap := s.heap.push { cls := .type "range", data := .fields #[.int lo t, .int hi u, .int 1 v] }, toks := tk } := by
  refine wpAny_pyIter_range (IsRange.new ..) (small_one h1 h2 h3 h4) ?_
  have I1 : Inv X pins σ H { s with heap := s.heap.push { cls := .type "range", data := .fields #[.int lo t, .int hi u, .int 1 v] }, toks := tk } := I.kept fun b o e => Heap.get?_push_of_some _ e
  refine ⟨(s.heap.push { cls := .type "range", data := .fields #[.int lo t, .int hi u, .int 1 v] }).objs.size, [(s.heap.push { cls := .type "range", data := .fields #[.int lo t, .int hi u, .int 1 v] }).objs.size], _, _, H, rfl,
    I1.kept (t' := tk) fun b o e => Heap.get?_push_of_some _ e, qD _ lo (hi - lo).toNat, ?_, fun b hb => ?_, q⟩
  · have e1 : lo + ((0 : Nat) : Int) * 1 = lo := by simp
    have e2 : (((hi - lo).toNat : Nat) : Int) - ((0 : Nat) : Int) = Builtin.Range.rangeSize lo hi 1 := by rw [rangeSize_one]; split <;> omega
    show IsRangeIter _ _ (lo + ((0 : Nat) : Int) * 1) ((((hi - lo).toNat : Nat) : Int) - ((0 : Nat) : Int)) 1
    rw [e1, e2]
    exact Heap.get?_push_size _ rfl
  · have e : b = (s.heap.push { cls := .type "range", data := .fields #[.int lo t, .int hi u, .int 1 v] }).objs.size := by simpa using hb
    subst e
    exact I1.fpOk (Nat.le_refl _) (I1.hok.fresh (Nat.le_refl _))
def tW (ta : TA) : TI := fun σ H R => ta σ H fun vs H1 => ∃ j : Int, vs = [.int j] ∧ -(2 ^ 62) ≤ j ∧ j < 2 ^ 62 ∧ R (Itr 0 j.toNat) H1
theorem jy {a : Expr} {ta : TA} {p pos : Pos} (hg : Gl X "range") (hm : X.mg "range" = none) (ha : PA X [a] ta) (hs : starEach [a] X.env = [(false, eval a X.env)] := by rfl) : PI X tg (.Call (.Name "range" p) [a] [] pos) (tW ta) := by
  intro pins s σ H R I h
  refine Call_ (lW I hg hm boot_range (PyProof.Rows.callWith_type1 (thn (ha pos pins s σ H _ I h) fun us s1 ⟨vs, H1, I1, r1, q1⟩ => ?_) hs rfl))
  obtain ⟨j, e, q1, q2, q⟩ := q1
  subst e
  cases r1 with
  | cons r rr =>
    cases rr
    obtain ⟨t, rfl⟩ := r
    exact call_range_1 (tu I1 (by omega) (by omega) q1 q2 (by simpa using q))
def u5 (wi : TI) (g : TG) (tb : TS) : TS := fun D σ H => wi σ H fun J H1 => ∃ W : Nat → Nat → St → Hp → Prop, (∃ m, W 0 m σ H1) ∧ ∀ i m σ H, W i m σ H →
  (J.stop i H ∧ D.nx σ H) ∨ (J.go i H ∧ ∃ N : St → Hp → Prop, (∀ σ' H', N σ' H' → ∃ m', m' < m ∧ W (i + 1) m' σ' H') ∧ ∀ x H', J.yld i H x H' → g x σ H' fun σ2 H2 => tb { D with nx := N, ct := N, bk := D.nx } σ2 H2)
def lq (fp : List Addr) (h : Heap) : List (Addr × Obj) := fp.filterMap fun b => (h.get? b).map fun o => (b, o)
theorem j4 {fp : List Addr} {h : Heap} {b : Addr} {o : Obj} (hb : b ∈ fp) (e : h.get? b = some o) : (b, o) ∈ lq fp h := List.mem_filterMap.mpr ⟨b, hb, by rw [e]; rfl⟩
theorem rL {fp : List Addr} {h : Heap} {p : Addr × Obj} (hp : p ∈ lq fp h) : p.1 ∈ fp ∧ h.get? p.1 = some p.2 := by
  obtain ⟨b, hb, e⟩ := List.mem_filterMap.mp hp
  cases q : h.get? b with
  | none => rw [q] at e; cases e
  | some o =>
    rw [q] at e
    have e' : (b, o) = p := Option.some.inj e
    subst e'
    exact ⟨hb, q⟩
theorem Inv.pinned {pins : List (Addr × Obj)} {σ : St} {H : Hp} {s : Shared} {fp : List Addr} (I : Inv X pins σ H s) (hf : ∀ b ∈ fp, FpOk X pins H b) (ho : ∀ b ∈ fp, ∃ o, s.heap.get? b = some o ∧ ∀ v, o.data ≠ .cell v) : Inv X (pins ++ lq fp s.heap) σ H s :=
  I.pins_of fun p hp => (List.mem_append.mp hp).elim (fun z => I.pin p (List.mem_append_right _ z)) fun z => by
    obtain ⟨hb, e⟩ := rL z
    obtain ⟨f0, f1, f2, _⟩ := hf p.1 hb
    obtain ⟨o, e', d⟩ := ho p.1 hb
    rw [e] at e'; cases e'
    exact ⟨e, f0, f1, f2, d⟩
theorem Inv.unpinned {pins pl : List (Addr × Obj)} {σ : St} {H : Hp} {s : Shared} (I : Inv X (pins ++ pl) σ H s) : Inv X pins σ H s := I.pins_of fun p hp => I.pin p (List.mem_append_right _ (List.mem_append_left _ hp))
theorem jO {iter : Expr} {body : List Stmt} {wi : TI} {g : TG} {tb : TS} {pos : Pos} (hp : PassesOwn (model X.prog X.w) X.A X.env X.xe) (hc : X.calm = true) (hi : PI X tg iter wi) (hg : PG X tg g) (hb : PSs X body tb)
    (hs : ∀ x, foldedSetIterable iter X.env x = pure x := by intro _; rfl) : PS X (.For tg iter body [] pos) (u5 wi g tb) := by
  intro pins s σ H D I h
  refine wpAny_For (thn (hi pins s σ H _ I h) fun v s1 h1 => thn h1 fun itv s2 h2 => ?_) hs
  obtain ⟨it, fp, tn, J, H2, e, I2, T, st2, f2, W, ⟨m0, w0⟩, turn⟩ := h2
  subst e
  -- what stays true of the iterator's objects through the loop
  have stat : ∀ {H' : Hp}, (∀ b ∈ fp, H' b = none) → ∀ b ∈ fp, FpOk X pins H' b := fun hn b hb => ⟨hn b hb, (f2 b hb).2⟩
  refine codeAny_forLoop_any (fun n s' => ∃ i σ' H', Inv X pins σ' H' s' ∧ tn i s'.heap ∧ (∀ b ∈ fp, H' b = none) ∧ W i n σ' H') ?_ m0 ⟨0, σ, H2, I2, st2, fun b hb => (f2 b hb).1, w0⟩
  rintro n s3 ⟨i, σ3, H3, I3, st3, fr3, w3⟩
  rcases turn i n σ3 H3 w3 with ⟨stop, qn⟩ | ⟨go, N, hN, step⟩
  · refine wpAny_passesOwn hp (thn (T.done X rfl rfl rfl hc i pins s3 σ3 H3 X.xe I3 (stat fr3) st3 stop) fun r s4 ⟨hr, I4⟩ => ?_)
    subst hr
    exact wpAny_execs_nil ⟨σ3, H3, I4, qn⟩
  · refine wpAny_passesOwn hp (thn (T.item X rfl rfl rfl hc i pins s3 σ3 H3 X.xe I3 (stat fr3) st3 go) fun r s4 ⟨u, hr, h4⟩ => ?_)
    subst hr
    refine wpAny_passesOwn hp (thn h4 fun _ s5 ⟨x, H5, I5, r5, y5, st5, fr5⟩ => ?_)
    have I5' := I5.pinned (stat fr5) (T.obj _ _ st5)
    refine wpAny_passesOwn hp (thn (hg _ s5 σ3 H5 x u _ I5' r5 (step x H5 y5)) fun _ s6 ⟨σ6, H6, I6, q6⟩ => ?_)
    refine wpAny_passesOwn hp (thn (hb _ s6 σ6 H6 _ I6 q6) fun f s7 q7 => ?_)
    have again : ∀ {σ7 : St} {H7 : Hp}, Inv X (pins ++ lq fp s5.heap) σ7 H7 s7 → N σ7 H7 → ∃ m, m < n ∧ ∃ i σ' H', Inv X pins σ' H' s7 ∧ tn i s7.heap ∧ (∀ b ∈ fp, H' b = none) ∧ W i m σ' H' := fun {σ7 H7} I7 n7 => by
      obtain ⟨m', hm, w7⟩ := hN σ7 H7 n7
      refine ⟨m', hm, i + 1, σ7, H7, I7.unpinned, T.keep _ _ _ st5 fun b hb o e => (I7.pin (b, o) (List.mem_append_right _ (List.mem_append_right _ (j4 hb e)))).1, fun b hb => ?_, w7⟩
      obtain ⟨o, e, d⟩ := T.obj _ _ st5 b hb
      exact (I7.pin (b, o) (List.mem_append_right _ (List.mem_append_right _ (j4 hb e)))).2.1
    cases f with
    | next => obtain ⟨σ7, H7, I7, n7⟩ := q7; exact again I7 n7
    | cont => obtain ⟨σ7, H7, I7, n7⟩ := q7; exact again I7 n7
    | brk => obtain ⟨σ7, H7, I7, q7⟩ := q7; exact ⟨σ7, H7, I7.unpinned, q7⟩
    | ret v => obtain ⟨x7, σ7, H7, I7, r7, q7⟩ := q7; exact ⟨x7, σ7, H7, I7.unpinned, r7, q7⟩
end

theorem sY {K : PySem.W.Frag} {a : Addr} {xs : List V} {g : TG} {tb : TS} {D : Ends} {σ : St} {H : Hp} (Pv : Nat → St → Hp → Prop) (h0 : Pv 0 σ H) (hl : ∀ i σ H, i ≤ xs.length → Pv i σ H → SqL K H a xs)
    (hs : ∀ i x σ H, xs[i]? = some x → Pv i σ H → g x σ H fun σ2 H2 => tb { D with nx := Pv (i + 1), ct := Pv (i + 1), bk := D.nx } σ2 H2) (hd : ∀ σ H, Pv xs.length σ H → D.nx σ H) :
    ∃ W : Nat → Nat → St → Hp → Prop, (∃ m, W 0 m σ H) ∧ ∀ i m σ H, W i m σ H →
      ((Itl K a).stop i H ∧ D.nx σ H) ∨ ((Itl K a).go i H ∧ ∃ N : St → Hp → Prop, (∀ σ' H', N σ' H' → ∃ m', m' < m ∧ W (i + 1) m' σ' H') ∧ ∀ x H', (Itl K a).yld i H x H' → g x σ H' fun σ2 H2 => tb { D with nx := N, ct := N, bk := D.nx } σ2 H2) := by
  refine ⟨fun i m σ H => m = xs.length - i ∧ i ≤ xs.length ∧ Pv i σ H, ⟨xs.length, by simp, Nat.zero_le _, h0⟩, ?_⟩
  rintro i m σ H ⟨rfl, hi, p⟩
  have q := hl i σ H hi p
  by_cases hlt : i < xs.length
  · refine .inr ⟨⟨xs, xs[i], q, by simp [hlt]⟩, Pv (i + 1), fun σ' H' p' => ⟨xs.length - (i + 1), by omega, rfl, hlt, p'⟩, fun x H' y => ?_⟩
    obtain ⟨e, y⟩ := y
    subst e
    exact hs i x σ _ (y xs q) p
  · have e : i = xs.length := by omega
    subst e
    exact .inl ⟨⟨xs, q, Nat.le_refl _⟩, hd σ H p⟩
theorem uz {K : PySem.W.Frag} {a : Addr} {xs : List V} {g : TG} {tb : TS} {D : Ends} {σ : St} {H : Hp} (Pv : Nat → St → Hp → Prop) (h0 : Pv 0 σ H) (hl : ∀ i σ H, i ≤ xs.length → Pv i σ H → SqT K H a xs)
    (hs : ∀ i x σ H, xs[i]? = some x → Pv i σ H → g x σ H fun σ2 H2 => tb { D with nx := Pv (i + 1), ct := Pv (i + 1), bk := D.nx } σ2 H2) (hd : ∀ σ H, Pv xs.length σ H → D.nx σ H) :
    ∃ W : Nat → Nat → St → Hp → Prop, (∃ m, W 0 m σ H) ∧ ∀ i m σ H, W i m σ H →
      ((Itt K a).stop i H ∧ D.nx σ H) ∨ ((Itt K a).go i H ∧ ∃ N : St → Hp → Prop, (∀ σ' H', N σ' H' → ∃ m', m' < m ∧ W (i + 1) m' σ' H') ∧ ∀ x H', (Itt K a).yld i H x H' → g x σ H' fun σ2 H2 => tb { D with nx := N, ct := N, bk := D.nx } σ2 H2) := by
  refine ⟨fun i m σ H => m = xs.length - i ∧ i ≤ xs.length ∧ Pv i σ H, ⟨xs.length, by simp, Nat.zero_le _, h0⟩, ?_⟩
  rintro i m σ H ⟨rfl, hi, p⟩
  have q := hl i σ H hi p
  by_cases hlt : i < xs.length
  · refine .inr ⟨⟨xs, xs[i], q, by simp [hlt]⟩, Pv (i + 1), fun σ' H' p' => ⟨xs.length - (i + 1), by omega, rfl, hlt, p'⟩, fun x H' y => ?_⟩
    obtain ⟨e, y⟩ := y
    subst e
    exact hs i x σ _ (y xs q) p
  · have e : i = xs.length := by omega
    subst e
    exact .inl ⟨⟨xs, q, Nat.le_refl _⟩, hd σ H p⟩
theorem sC {lo : Int} {n : Nat} {g : TG} {tb : TS} {D : Ends} {σ : St} {H : Hp} (Pv : Nat → St → Hp → Prop) (h0 : Pv 0 σ H)
    (hs : ∀ i σ H, i < n → Pv i σ H → g (.int (lo + i)) σ H fun σ2 H2 => tb { D with nx := Pv (i + 1), ct := Pv (i + 1), bk := D.nx } σ2 H2) (hd : ∀ σ H, Pv n σ H → D.nx σ H) :
    ∃ W : Nat → Nat → St → Hp → Prop, (∃ m, W 0 m σ H) ∧ ∀ i m σ H, W i m σ H →
      ((Itr lo n).stop i H ∧ D.nx σ H) ∨ ((Itr lo n).go i H ∧ ∃ N : St → Hp → Prop, (∀ σ' H', N σ' H' → ∃ m', m' < m ∧ W (i + 1) m' σ' H') ∧ ∀ x H', (Itr lo n).yld i H x H' → g x σ H' fun σ2 H2 => tb { D with nx := N, ct := N, bk := D.nx } σ2 H2) := by
  refine ⟨fun i m σ H => m = n - i ∧ i ≤ n ∧ Pv i σ H, ⟨n, by simp, Nat.zero_le _, h0⟩, ?_⟩
  rintro i m σ H ⟨rfl, hi, p⟩
  by_cases hlt : i < n
  · refine .inr ⟨hlt, Pv (i + 1), fun σ' H' p' => ⟨n - (i + 1), by omega, rfl, hlt, p'⟩, fun x H' y => ?_⟩
    obtain ⟨e, y⟩ := y
    subst e y
    exact hs i σ _ hlt p
  · have e : i = n := by omega
    subst e
    exact .inl ⟨Nat.le_refl _, hd σ H p⟩
end L2

namespace L2
open PySem PySem.Spec PyProof.Rows

abbrev R2 := V → V → Hp → VK → Prop
def OpR (X : Cx) (f : Value → Value → Sem Value) (r : R2) : Prop :=
  ∀ (pins : List (Addr × Obj)) (s : Shared) (σ : St) (H : Hp) (x y : V) (v u : Value) (Q : VK), Inv X pins σ H s → RelV x v → RelV y u → r x y H Q →
    wpAny (model X.prog X.w) X.A (f v u) (EP X pins σ Q) X.xe s
def jE (X : Cx) (f : Value) (r : List V → Hp → VK → Prop) : Prop :=
  ∀ (pins : List (Addr × Obj)) (s : Shared) (σ : St) (H : Hp) (xs : List V) (us : List Value) (Q : VK), Inv X pins σ H s → Vals xs us → r xs H Q →
    wpAny (model X.prog X.w) X.A (call f us) (EP X pins σ Q) X.xe s
def tOp (r : R2) (ta tb : TE) : TE := fun σ H Q => ta σ H fun x H1 => tb σ H1 fun y H2 => r x y H2 Q
def rI (C : Int → Int → Prop) (g : Int → Int → V) : R2 := fun x y H Q => ∃ i j, x = .int i ∧ y = .int j ∧ C i j ∧ Q (g i j) H
def rI0 (g : Int → Int → V) : R2 := fun x y H Q => ∃ i j, x = .int i ∧ y = .int j ∧ Q (g i j) H
section
variable {X : Cx} {a b c : Expr} {ta tb tc : TE} {pos : Pos}

theorem tR (ha : PE X a ta) (hb : PE X b tb) {pins : List (Addr × Obj)} {s : Shared} {σ : St} {H : Hp} {R : V → V → Hp → Prop} (I : Inv X pins σ H s)
    (h : ta σ H fun x H1 => tb σ H1 fun y H2 => R x y H2) {Q : Value → Shared → Prop} {f : Value → Value → Sem Value}
    (hf : ∀ v u s2 x y H2, Inv X pins σ H2 s2 → RelV x v → RelV y u → R x y H2 → wpAny (model X.prog X.w) X.A (f v u) Q X.xe s2) :
    wpAny (model X.prog X.w) X.A (eval a X.env) (fun v s₁ => wpAny (model X.prog X.w) X.A (eval b X.env) (fun u s₂ => wpAny (model X.prog X.w) X.A (f v u) Q X.xe s₂) X.xe s₁) X.xe s := by
  refine thn (ha pins s σ H _ I h) fun v s1 ⟨x, H1, I1, r1, q1⟩ => ?_
  refine thn (hb pins s1 σ H1 _ I1 q1) fun u s2 ⟨y, H2, I2, r2, q2⟩ => ?_
  exact hf v u s2 x y H2 I2 r1 r2 q2

theorem g5 {op : Operator} {r : R2} (ho : OpR X (binaryOp op) r) (ha : PE X a ta) (hb : PE X b tb) : PE X (.BinOp a op b pos) (tOp r ta tb) := by
  intro pins s σ H Q I h
  exact wpAny_BinOp (tR ha hb I h fun v u s2 x y H2 I2 rx ry q => ho pins s2 σ H2 x y v u Q I2 rx ry q)
theorem opI {f : Value → Value → Sem Value} {C : Int → Int → Prop} {g : Int → Int → Int}
    (rule : ∀ (i j : Int) (t u : Tok) (s : Shared) (Q : Value → Shared → Prop) (E : Value → Shared → Prop), C i j → Q (.int (g i j) s.toks) { s with toks := s.toks + 1 } → wpAny (model X.prog X.w) X.A (f (.int i t) (.int j u)) Q E s) :
    OpR X f (rI C fun i j => .int (g i j)) := by
  intro pins s σ H x y v u Q I rx ry h
  obtain ⟨i, j, rfl, rfl, hc, q⟩ := h
  obtain ⟨t, rfl⟩ := rx
  obtain ⟨t', rfl⟩ := ry
  exact rule i j t t' s _ _ hc ⟨.int (g i j), H, I.tok _, ⟨_, rfl⟩, q⟩
theorem vA {f : Value → Value → Sem Value} {g : Int → Int → Int}
    (rule : ∀ (i j : Int) (t u : Tok) (s : Shared) (Q : Value → Shared → Prop) (E : Value → Shared → Prop), Q (.int (g i j) s.toks) { s with toks := s.toks + 1 } → wpAny (model X.prog X.w) X.A (f (.int i t) (.int j u)) Q E s) :
    OpR X f (rI0 fun i j => .int (g i j)) := by
  intro pins s σ H x y v u Q I rx ry h
  obtain ⟨i, j, rfl, rfl, q⟩ := h
  obtain ⟨t, rfl⟩ := rx
  obtain ⟨t', rfl⟩ := ry
  exact rule i j t t' s _ _ ⟨.int (g i j), H, I.tok _, ⟨_, rfl⟩, q⟩
theorem tL {f : Value → Value → Sem Value} {g : Int → Int → Bool}
    (rule : ∀ (i j : Int) (t u : Tok) (s : Shared) (Q : Value → Shared → Prop) (E : Value → Shared → Prop), Q (.bool (g i j)) s → wpAny (model X.prog X.w) X.A (f (.int i t) (.int j u)) Q E s) :
    OpR X f (rI0 fun i j => .bl (g i j)) := by
  intro pins s σ H x y v u Q I rx ry h
  obtain ⟨i, j, rfl, rfl, q⟩ := h
  obtain ⟨t, rfl⟩ := rx
  obtain ⟨t', rfl⟩ := ry
  exact rule i j t t' s _ _ ⟨.bl (g i j), H, I, rfl, q⟩

def vq (i j : Int) : Prop := 0 ≤ j ∧ j ≤ 1000000 ∧ i.natAbs < 2 ^ 64
def CMul (i j : Int) : Prop := (-(2 ^ 64) < i ∧ i < 2 ^ 64) ∨ (-(2 ^ 64) < j ∧ j < 2 ^ 64)
theorem CMul.ok {i j : Int} (h : CMul i j) : IntMulOk i j := by
  rcases h with ⟨h1, h2⟩ | ⟨h1, h2⟩
  · exact .of_left (intBits_le_64 h1 h2)
  · exact .of_right (intBits_le_64 h1 h2)
theorem jo : OpR X (binaryOp .Add) (rI0 fun i j => .int (i + j)) := vA fun _ _ _ _ _ _ _ q => add_int q
theorem kL : OpR X (binaryOp .Sub) (rI0 fun i j => .int (i - j)) := vA fun _ _ _ _ _ _ _ q => sub_int q
theorem jh : OpR X (binaryOp .Mod) (rI (fun _ j => 0 < j) fun i j => .int (i % j)) := opI fun i j _ _ _ _ _ hc q => by
  have h1 : (0 : Int) < j := hc
  exact mod_int' (by omega) (by rw [Int.fmod_eq_emod_of_nonneg i (by omega)]; exact q)
theorem mG : OpR X (binaryOp .Pow) (rI vq fun i j => .int (i ^ j.toNat)) := opI fun _ _ _ _ _ _ _ hc q => pow_int_small hc.1 hc.2.1 hc.2.2 q
end

def jM : V → V → Bool
  | .non, .non => true | .non, .int _ => true | .int _, .non => true | .non, .bl _ => true | .bl _, .non => true | .non, .str _ => true | .str _, .non => true
  | .int _, .int _ => true | .bl _, .bl _ => true | .str _, .str _ => true | .byt _, .byt _ => true
  | .int _, .str _ => true | .str _, .int _ => true | .bl _, .str _ => true | .str _, .bl _ => true
  | _, _ => false
def rEq : R2 := fun x y H Q => jM x y = true ∧ Q (.bl (decide (x = y))) H
def rNe : R2 := fun x y H Q => jM x y = true ∧ Q (.bl (!decide (x = y))) H

theorem p6 {i j : Int} : decide (V.int i = V.int j) = (i == j) := by
  rw [Bool.eq_iff_iff]
  simp
theorem rW {i j : Bool} : decide (V.bl i = V.bl j) = (i == j) := by
  rw [Bool.eq_iff_iff]
  simp
theorem p7 {i j : Str} : decide (V.str i = V.str j) = (i == j) := by
  rw [Bool.eq_iff_iff]
  simp
theorem qc {i j : Array UInt8} : decide (V.byt i = V.byt j) = (i.toList == j.toList) := by
  rw [Bool.eq_iff_iff]
  cases i
  cases j
  simp

section
variable {X : Cx} {a b c : Expr} {ta tb tc : TE} {pos : Pos}
theorem i8 {pins : List (Addr × Obj)} {σ : St} {H : Hp} {s : Shared} {Q : VK} {k k' : Bool} (I : Inv X pins σ H s) (q : Q (.bl k) H) (e : k = k') : EP X pins σ Q (.bool k') s := by
  subst e
  exact ⟨.bl k, H, I, rfl, q⟩
theorem mR : OpR X (compareOp .Eq) rEq := by
  intro pins s σ H x y v u Q I rx ry h
  obtain ⟨hs, q⟩ := h
  cases x with
  | non =>
    cases rx
    cases y with
    | non => cases ry; exact PySem.EqNone.eq_none_none (i8 I q (by simp))
    | bl j => cases ry; exact PySem.EqNone.eq_none_bool (i8 I q (by simp))
    | int j => obtain ⟨t', rfl⟩ := ry; exact PySem.EqNone.eq_none_int (i8 I q (by simp))
    | str j => obtain ⟨t', rfl⟩ := ry; exact PySem.EqNone.eq_none_str (i8 I q (by simp))
    | _ => exact absurd (show false = true from hs) Bool.false_ne_true
  | bl i =>
    cases rx
    cases y with
    | non => cases ry; exact PySem.EqNone.eq_bool_none (i8 I q (by simp))
    | bl j => cases ry; exact eq_bool (i8 I q rW)
    | str j => obtain ⟨t', rfl⟩ := ry; exact PySem.EqMixed.eq_bool_str (i8 I q (by simp))
    | _ => exact absurd (show false = true from hs) Bool.false_ne_true
  | int i =>
    obtain ⟨t, rfl⟩ := rx
    cases y with
    | non => cases ry; exact PySem.EqNone.eq_int_none (i8 I q (by simp))
    | int j => obtain ⟨t', rfl⟩ := ry; exact eq_int (i8 I q p6)
    | str j => obtain ⟨t', rfl⟩ := ry; exact PySem.EqMixed.eq_int_str (i8 I q (by simp))
    | _ => exact absurd (show false = true from hs) Bool.false_ne_true
  | str i =>
    obtain ⟨t, rfl⟩ := rx
    cases y with
    | non => cases ry; exact PySem.EqNone.eq_str_none (i8 I q (by simp))
    | bl j => cases ry; exact PySem.EqMixed.eq_str_bool (i8 I q (by simp))
    | int j => obtain ⟨t', rfl⟩ := ry; exact PySem.EqMixed.eq_str_int (i8 I q (by simp))
    | str j => obtain ⟨t', rfl⟩ := ry; exact eq_str (i8 I q p7)
    | _ => exact absurd (show false = true from hs) Bool.false_ne_true
  | byt i =>
    obtain ⟨t, rfl⟩ := rx
    cases y with
    | byt j => obtain ⟨t', rfl⟩ := ry; exact PySem.W.eq_bytes (i8 I q qc)
    | _ => exact absurd (show false = true from hs) Bool.false_ne_true
  | _ => cases y <;> exact absurd (show false = true from hs) Bool.false_ne_true
theorem uf : OpR X (compareOp .NotEq) rNe := by
  intro pins s σ H x y v u Q I rx ry h
  obtain ⟨hs, q⟩ := h
  cases x with
  | non =>
    cases rx
    cases y with
    | non => cases ry; exact PySem.EqNone.ne_none_none (i8 I q (by simp))
    | bl j => cases ry; exact PySem.EqNone.ne_none_bool (i8 I q (by simp))
    | int j => obtain ⟨t', rfl⟩ := ry; exact PySem.EqNone.ne_none_int (i8 I q (by simp))
    | str j => obtain ⟨t', rfl⟩ := ry; exact PySem.EqNone.ne_none_str (i8 I q (by simp))
    | _ => exact absurd (show false = true from hs) Bool.false_ne_true
  | bl i =>
    cases rx
    cases y with
    | non => cases ry; exact PySem.EqNone.ne_bool_none (i8 I q (by simp))
    | bl j => cases ry; exact ne_bool (i8 I q (congrArg not rW))
    | str j => obtain ⟨t', rfl⟩ := ry; exact PySem.EqMixed.ne_bool_str (i8 I q (by simp))
    | _ => exact absurd (show false = true from hs) Bool.false_ne_true
  | int i =>
    obtain ⟨t, rfl⟩ := rx
    cases y with
    | non => cases ry; exact PySem.EqNone.ne_int_none (i8 I q (by simp))
    | int j => obtain ⟨t', rfl⟩ := ry; exact ne_int (i8 I q (congrArg not p6))
    | str j => obtain ⟨t', rfl⟩ := ry; exact PySem.EqMixed.ne_int_str (i8 I q (by simp))
    | _ => exact absurd (show false = true from hs) Bool.false_ne_true
  | str i =>
    obtain ⟨t, rfl⟩ := rx
    cases y with
    | non => cases ry; exact PySem.EqNone.ne_str_none (i8 I q (by simp))
    | bl j => cases ry; exact PySem.EqMixed.ne_str_bool (i8 I q (by simp))
    | int j => obtain ⟨t', rfl⟩ := ry; exact PySem.EqMixed.ne_str_int (i8 I q (by simp))
    | str j => obtain ⟨t', rfl⟩ := ry; exact ne_str (i8 I q (congrArg not p7))
    | _ => exact absurd (show false = true from hs) Bool.false_ne_true
  | byt i =>
    obtain ⟨t, rfl⟩ := rx
    cases y with
    | byt j => obtain ⟨t', rfl⟩ := ry; exact PySem.W.ne_bytes (i8 I q (congrArg not qc))
    | _ => exact absurd (show false = true from hs) Bool.false_ne_true
  | _ => cases y <;> exact absurd (show false = true from hs) Bool.false_ne_true

theorem rA : OpR X (compareOp .Lt) (rI0 fun i j => .bl (decide (i < j))) := tL fun _ _ _ _ _ _ _ q => lt_int q
theorem qA : OpR X (compareOp .Gt) (rI0 fun i j => .bl (decide (j < i))) := tL fun _ _ _ _ _ _ _ q => gt_int q
theorem v5 : OpR X (compareOp .GtE) (rI0 fun i j => .bl (decide (j ≤ i))) := tL fun _ _ _ _ _ _ _ q => ge_int q
theorem jj (b : Expr) {op : CmpOp} (h : op ≠ .In := by decide) (h2 : op ≠ .NotIn := by decide) : behindInMarks op b = false := by
  have e1 : (op == CmpOp.In) = false := by cases op <;> first | rfl | exact absurd rfl h
  have e2 : (op == CmpOp.NotIn) = false := by cases op <;> first | rfl | exact absurd rfl h2
  cases b <;> simp [behindInMarks, e1, e2]
theorem kH {op : CmpOp} {r : R2} (ho : OpR X (compareOp op) r) (ha : PE X a ta) (hb : PE X b tb) (hm : behindInMarks op b = false) : PE X (.Compare a [op] [b] pos) (tOp r ta tb) := by
  intro pins s σ H Q I h
  exact wpAny_Compare1 (tR ha hb I h fun v u s2 x y H2 I2 rx ry q => ho pins s2 σ H2 x y v u Q I2 rx ry q) hm
def tZ (t : TE) : TT := fun σ H Q => t σ H fun x H' => ∃ k, x = .bl k ∧ Q k H'
theorem jl {op : CmpOp} {r : R2} (ho : OpR X (compareOp op) r) (ha : PE X a ta) (hb : PE X b tb) (hm : behindInMarks op b = false) : PT X (.Compare a [op] [b] pos) (tZ (tOp r ta tb)) := by
  intro pins s σ H Q I h
  refine wpAny_isTrue_Compare1 (thn (ha pins s σ H _ I h) fun v s1 ⟨x, H1, I1, r1, q1⟩ => thn (hb pins s1 σ H1 _ I1 q1) fun u s2 ⟨y, H2, I2, r2, q2⟩ =>
    thn (ho pins s2 σ H2 x y v u _ I2 r1 r2 q2) fun c s3 ⟨z, H3, I3, r3, k, e, q3⟩ => ?_) hm
  subst e
  cases r3
  exact wpAny_truthy_bool ⟨H3, I3, q3⟩
theorem kJ : (sizeLine : Nat) < 2 ^ 63 := by rw [sizeLine_eq]; decide
theorem vals1 {x : V} {us : List Value} (r : Vals [x] us) : ∃ u, us = [u] ∧ RelV x u := by
  cases r with
  | cons r1 r2 => cases r2; exact ⟨_, rfl, r1⟩
theorem vals2 {x y : V} {us : List Value} (r : Vals [x, y] us) : ∃ u w', us = [u, w'] ∧ RelV x u ∧ RelV y w' := by
  cases r with
  | cons r1 r2 =>
    cases r2 with
    | cons r3 r4 => cases r4; exact ⟨_, _, rfl, r1, r3⟩
theorem nD (hc : X.calm = true) : jE X (.builtin "max") (fun xs H Q => ∃ i j, xs = [.int i, .int j] ∧ Q (.int (if j > i then j else i)) H) := by
  intro pins s σ H xs us Q I r h
  obtain ⟨i, j, rfl, q⟩ := h
  obtain ⟨u, w', rfl, ⟨t, rfl⟩, ⟨t', rfl⟩⟩ := vals2 r
  refine max_two_ints (I.ok.hd hc) fun h' tk k => ⟨_, H, I.kept k, ?_, q⟩
  by_cases hj : j > i
  · rw [if_pos hj, if_pos hj]; exact ⟨_, rfl⟩
  · rw [if_neg hj, if_neg hj]; exact ⟨_, rfl⟩
theorem rC (hc : X.calm = true) : jE X (.builtin "min") (fun xs H Q => ∃ i j, xs = [.int i, .int j] ∧ Q (.int (if j < i then j else i)) H) := by
  intro pins s σ H xs us Q I r h
  obtain ⟨i, j, rfl, q⟩ := h
  obtain ⟨u, w', rfl, ⟨t, rfl⟩, ⟨t', rfl⟩⟩ := vals2 r
  refine min_two_ints (I.ok.hd hc) fun h' tk k => ⟨_, H, I.kept k, ?_, q⟩
  by_cases hj : j < i
  · rw [if_pos hj, if_pos hj]; exact ⟨_, rfl⟩
  · rw [if_neg hj, if_neg hj]; exact ⟨_, rfl⟩
end
end L2

namespace L2
open PySem PySem.Spec PyProof.Rows

structure ObjM (h : Heap) (x dx C : Addr) (mA : Str → Option Value) : Prop where
  obj : h.get? x = some (PySem.W.instObj C dx)
  ns : h.Ns1 dx mA
  ne : dx ≠ x

section
variable {prog : Program} {w : World} {A : Around} {E : Value → Shared → Prop} {s : Shared} {K : PySem.W.Frag} {x dx C f : Addr} {mA : Str → Option Value} {name : Str} {v : Value}

end

theorem RelO.some_of {v : V} {o : Option Value} (r : RelO (some v) o) : ∃ u, o = some u ∧ RelV v u := by
  cases o with
  | none => exact (show False from r).elim
  | some u => exact ⟨u, rfl, r⟩
section
variable {P : Program} {w : World} {H H' : Hp} {h h' : Heap} {a C dx : Addr} {fs fs' : List (Str × V)}
end

structure Cls (K : PySem.W.Frag) (C : Addr) : Prop where
  pg : PySem.W.plainGet K C Str.empty = true
  hd : PySem.W.hasDictIn K C = true
  po : PySem.W.plainOver K C = true
  sa : PySem.W.findIn K (.ref C) "__setattr__" = some (some (.builtin "object.__setattr__"))
structure Con (K : PySem.W.Frag) (C : Addr) (f : Str) (v : V) (u : Value) : Prop where
  at_ : PySem.W.findIn K (.ref C) f = some (some u)
  rel : RelV v u
  get : PySem.W.specialIn K u "__get__" = some none
  cp : PySem.W.copiedNames.contains f = false
structure Meth (K : PySem.W.Frag) (C : Addr) (m : Str) (f : Addr) : Prop where
  at_ : PySem.W.findIn K (.ref C) m = some (some (.ref f))
  fn : PySem.W.isFn K (.ref f) = true
  kp : PySem.W.keepIn K (.ref f) = true

section
variable {X : Cx} {pins : List (Addr × Obj)} {σ : St} {H : Hp} {s : Shared} {a C dx : Addr} {fs : List (Str × V)} {f : Str} {v : V} {A : Around} {E : Value → Shared → Prop}

theorem Inv.made (I : Inv X pins σ H s) : Inv X pins σ (upd (upd H s.heap.objs.size (.own (s.heap.objs.size + 1))) (s.heap.objs.size + 1) (.ins C s.heap.objs.size []))
    { s with heap := (s.heap.push PySem.W.emptyDict).push (PySem.W.instObj C s.heap.objs.size) } := by
  have e1 : (s.heap.push PySem.W.emptyDict).get? s.heap.objs.size = some PySem.W.emptyDict := Heap.get?_push_size s.heap rfl
  have e2 : ((s.heap.push PySem.W.emptyDict).push (PySem.W.instObj C s.heap.objs.size)).get? (s.heap.objs.size + 1) = some (PySem.W.instObj C s.heap.objs.size) := by
    have := Heap.get?_push_size (s.heap.push PySem.W.emptyDict) (o := PySem.W.instObj C s.heap.objs.size) rfl
    rwa [Heap.size_push] at this
  have e3 : (s.heap.push PySem.W.emptyDict).Ns s.heap.objs.size (fun _ => none) := ⟨PySem.W.emptyDict, #[], _, e1, rfl, (fun e he => absurd he (by simp)), fun _ => rfl⟩
  have I1 := I.laid (a := s.heap.objs.size) (o := .own (s.heap.objs.size + 1)) (h' := s.heap.push PySem.W.emptyDict) (t' := s.toks) (fun b u q => Heap.get?_push_of_some _ q) (Nat.le_refl _) ⟨_, e1⟩
  refine I1.laid (a := s.heap.objs.size + 1) (o := .ins C s.heap.objs.size []) (t' := s.toks) (fun b u q => Heap.get?_push_of_some _ q) (Nat.le_of_eq (Heap.size_push _ _)) ?_
  have ne : s.heap.objs.size ≠ s.heap.objs.size + 1 := Nat.ne_of_lt (Nat.lt_succ_self _)
  refine ⟨by rw [i9 ne, fz], Nat.zero_le _, ne, e2, fun _ => none, (Heap.Ns1.of_empty e3).at fun o q => Heap.get?_push_of_some _ q, fun _ => True.intro, fun y hy => absurd rfl hy⟩

end

section
variable {X : Cx} {o e value : Expr} {f : Str} {pos pos' tpos : Pos} {ta tv : TE}
end

section
variable {X : Cx} {pins : List (Addr × Obj)} {σ : St} {H : Hp} {s : Shared} {A : Around} {E : Value → Shared → Prop} {Q : Value → Shared → Prop} {c : Value} {b : Bool}
inductive TyOf (K : PySem.W.Frag) (H : Hp) : V → Value → Prop where
  | non : TyOf K H .non (.type "NoneType")
  | bl (x : Bool) : TyOf K H (.bl x) (.type "bool")
  | int (i : Int) : TyOf K H (.int i) (.type "int")
  | str (x : Str) : TyOf K H (.str x) (.type "str")
  | flt (x : UInt64) : TyOf K H (.flt x) (.type "float")
  | lst {a : Addr} {xs : List V} (e : H a = some (.lst xs)) : TyOf K H (.ref a) (.type "list")
  | frz {a : Addr} {o : Obj} {xs : List V} (e : H a = some (.frz o (.lst xs))) : TyOf K H (.ref a) (.type "list")
  | tup {a : Addr} {xs : List V} (e : H a = some (.tup xs)) : TyOf K H (.ref a) (.type "tuple")
  | dK {a : Addr} {kvs : List (Key × V)} (e : H a = some (.dK kvs)) : TyOf K H (.ref a) (.type "dict")
  | dT {a : Addr} {kvs : List (List Key × V)} (e : H a = some (.dT kvs)) : TyOf K H (.ref a) (.type "dict")
  | ins {a C dx : Addr} {fs : List (Str × V)} (e : H a = some (.ins C dx fs)) (cl : Cls K C) (ha : PySem.W.findIn K (.ref C) "__class__" = some (some (.builtin "object.__class__")))
      (hn : PySem.W.specialIn K (.builtin "object.__class__") "__get__" = some (some (.builtin "getset_descriptor.__get__"))) (htk : PySem.W.takesIn K (.builtin "object.__class__") = some true)
      (hm : PySem.W.mroIn K C (.type "object") = some true) : TyOf K H (.ref a) (.ref C)
end
end L2

namespace L2
open PySem PySem.Spec PyProof.Rows

structure Room (k : Nat) (A : Around) : Prop where
  hd : A.handled = none
  dp : A.depth + 3 * k + 5 < recursionLimit
  un : A.units + 16 * k + 200 < cLine
theorem Room.mono {j k : Nat} {A : Around} (r : Room k A) (h : j ≤ k) : Room j A := ⟨r.hd, by have := r.dp; omega, by have := r.un; omega⟩
theorem Room.deeper {k : Nat} {A : Around} (r : Room (k + 1) A) (env : Env) : Room k (A.deeper env) :=
  ⟨r.hd, by have := r.dp; show A.depth + 1 + 3 * k + 5 < _; omega, by have := r.un; show A.units + 3 + 16 * k + 200 < _; omega⟩
theorem Room.in1 {k : Nat} {A : Around} (r : Room (k + 1) A) : Room k A.in1 :=
  ⟨r.hd, by have := r.dp; show A.depth + 3 * k + 5 < _; omega, by have := r.un; show A.units + 1 + 16 * k + 200 < _; omega⟩
theorem Room.depth {k : Nat} {A : Around} (r : Room k A) : A.depth < recursionLimit := by have := r.dp; omega
theorem Room.units {k : Nat} {A : Around} (r : Room k A) : A.units + 64 < cLine := by have := r.un; omega
def vP : TA := fun _ H Q => Q [] H
def uq (ta : TE) (tr : TA) : TA := fun σ H Q => ta σ H fun x H1 => tr σ H1 fun xs H2 => Q (x :: xs) H2
section
variable {X : Cx} {e : Expr} {es : List Expr} {te : TE} {t : TA} {pos : Pos}
theorem ff : PA X [] vP := fun _ _ _ _ H Q I h => Calls.spliced_nil ⟨[], H, I, .nil, h⟩
theorem eo (ha : PE X e te) (hr : PA X es t) (hs : starEach (e :: es) X.env = (false, eval e X.env) :: starEach es X.env := by rfl) : PA X (e :: es) (uq te t) := by
  intro pos pins s σ H Q I h
  rw [hs]
  show wpAny _ _ (spliced ((false, eval e X.env) :: backTo pos (starEach es X.env))) _ _ s
  refine Calls.spliced_cons (thn (ha pins s σ H _ I h) fun u s1 ⟨x, H1, I1, r1, q1⟩ => ?_)
  exact thn (hr pos pins s1 σ H1 _ I1 q1) fun us s2 ⟨xs, H2, I2, r2, q2⟩ => ⟨x :: xs, H2, I2, .cons r1 r2, q2⟩

def u9 (t : TA) : TE := fun σ H Q => t σ H fun xs H1 => xs.length ≤ sizeLine ∧ ∀ p, H1 p = none → Q (.ref p) (upd H1 p (.tup xs))
def vh (t : TA) : TE := fun σ H Q => t σ H fun xs H1 => xs.length ≤ sizeLine ∧ ∀ p, H1 p = none → Q (.ref p) (upd H1 p (.lst xs))
theorem n6 {x1} (h : PA X es t) : PE X (.Tuple es x1 pos) (u9 t) := by
  intro pins s σ H Q I hq
  refine wpAny_Tuple_spliced (thn (h pos pins s σ H _ I hq) fun us s1 ⟨xs, H1, I1, r, z, q⟩ => ⟨by rw [← r.length]; exact z, ?_⟩)
  have hf : H1 s1.heap.objs.size = none := I1.hok.fresh (Nat.le_refl _)
  refine ⟨.ref s1.heap.objs.size, upd H1 s1.heap.objs.size (.tup xs), I1.laid (t' := s1.toks) (fun b u e => Heap.get?_push_of_some _ e) (Nat.le_refl _) ?_, rfl, q _ hf⟩
  exact ⟨z, us, r, ⟨_, Heap.get?_push_size _ rfl, rfl, _, rfl⟩, _, Heap.get?_push_size _ rfl, rfl⟩
theorem jN (h : PA X es t) : PE X (.List es pos) (vh t) := by
  intro pins s σ H Q I hq
  refine wpAny_List_spliced (thn (h pos pins s σ H _ I hq) fun us s1 ⟨xs, H1, I1, r, z, q⟩ => ⟨by rw [← r.length]; exact z, ?_⟩)
  have hf : H1 s1.heap.objs.size = none := I1.hok.fresh (Nat.le_refl _)
  refine ⟨.ref s1.heap.objs.size, upd H1 s1.heap.objs.size (.lst xs), I1.laid (t' := s1.toks) (fun b u e => Heap.get?_push_of_some _ e) (Nat.le_refl _) ?_, rfl, q _ hf⟩
  exact ⟨z, us, 0, r, Heap.get?_push_size _ rfl⟩
end

abbrev Sp := List V → Hp → VK → XK → Prop
abbrev CXT := List Env → Hp → Shared → XK → Value → Shared → Prop

structure Env0 (P : Program) (w : World) (K : PySem.W.Frag) (mg : Str → Option Value) (base : Heap) (A : Around) (outer : List Env) (s : Shared) (H : Hp) : Prop where
  frames : A.frames = some outer
  mod : Mod K mg base
  bs : ∀ b o, base.get? b = some o → s.heap.get? b = some o ∧ H b = none
  bsz : base.objs.size ≤ s.heap.objs.size
  funs : s.heap.FunFrames base outer
  frf : ∀ b ∈ frs outer, H b = none
  hok : HOk P w H s.heap
  bare : AllBare s.gens
def CE (outer : List Env) (P : Program) (w : World) (H : Hp) (s : Shared) (Q : VK) (u : Value) (s' : Shared) : Prop :=
  ∃ v H', s'.os = s.os ∧ AllBare s'.gens ∧ Un (frs outer) [] H H' s.heap s'.heap ∧ HOk P w H' s'.heap ∧ RelV v u ∧ Q v H'
def CR (CX : CXT) (outer : List Env) (P : Program) (w : World) (H : Hp) (s : Shared) (Q : VK) (E : XK) (r : Result) (s' : Shared) : Prop :=
  match r with
  | .ok (.ret u) => CE outer P w H s Q u s'
  | .ok _ => False
  | .error e => CX outer H s E e s'
structure FnOk (P : Program) (w : World) (K : PySem.W.Frag) (mg : Str → Option Value) (base : Heap) (CX : CXT) (k : Nat) (f : Addr) (fd : FuncData) (ps : List Str) (sp : Sp) : Prop where
  len : ∀ vs H Q E, sp vs H Q E → vs.length = ps.length
  run : ∀ (A : Around) (outer : List Env) (s : Shared) (H : Hp) (args : Args) (us : List Value) (vs : List V) (Q : VK) (E : XK), Room k A → Env0 P w K mg base A outer s H → BindsTo s fd args (ps.zip us) → Vals vs us → sp vs H Q E →
    codeAny (model P w) A (.call (.ref f) args) (CR CX outer P w H s Q E) s
theorem Env0.in1 {P : Program} {w : World} {K : PySem.W.Frag} {mg : Str → Option Value} {base : Heap} {A : Around} {outer : List Env} {s : Shared} {H : Hp} (e : Env0 P w K mg base A outer s H) :
    Env0 P w K mg base A.in1 outer s H := ⟨e.frames, e.mod, e.bs, e.bsz, e.funs, e.frf, e.hok, e.bare⟩

section
variable {X : Cx} {pins : List (Addr × Obj)} {σ : St} {H : Hp} {s s' : Shared}
theorem Inv.env0 (I : Inv X pins σ H s) : Env0 X.prog X.w X.K X.mg X.base X.A X.stack s H :=
  ⟨I.ok.frames, I.ok.mod, I.bs, Nat.le_trans I.ok.bsz I.sz, I.stack, I.stkFree, I.hok, I.bare⟩
theorem Inv.after {Q : VK} {u : Value} (I : Inv X pins σ H s) (h : CE X.stack X.prog X.w H s Q u s') : EP X pins σ Q u s' := by
  obtain ⟨v, H', os, bare, un, hok, r, q⟩ := h
  obtain ⟨hh, g, d, t, os'⟩ := s'
  obtain rfl : os' = s.os := os
  exact ⟨v, H', I.call (h' := hh) (g' := g) (d' := d) (t' := t) (ch := []) un hok bare (fun b z => absurd z (by simp)), r, q⟩
end

def nV (sp : Sp) (dvs : List V) (E : XK) (t : TA) : TE := fun σ H Q => t σ H fun vs H1 => sp (vs ++ dvs) H1 Q E
def Binds (K : PySem.W.Frag) (fd : FuncData) (ps : List Str) (ds : List Value) : Prop :=
  ∀ (s : Shared) (us : List Value), K.In s.heap → (us ++ ds).length = ps.length → BindsTo s fd ⟨us, []⟩ (ps.zip (us ++ ds))
theorem Binds.all {K : PySem.W.Frag} {fd : FuncData} {ps : List Str} (h : ∀ us : List Value, us.length = ps.length → bindArgs fd ⟨us, []⟩ = pure (ps.zip us)) : Binds K fd ps [] := fun s us _ hl => by
  rw [List.append_nil] at hl ⊢
  exact .of_eq (h us hl)

def mQ (CX : CXT) (X : Cx) (E : XK) : Prop := ∀ (pins : List (Addr × Obj)) (σ : St) (H : Hp) (s : Shared) (e : Value) (s' : Shared), Inv X pins σ H s → CX X.stack H s E e s' → X.xe e s'

section
variable {X : Cx} {CX : CXT} {k : Nat} {f C : Addr} {fd : FuncData} {ps : List Str} {sp : Sp} {dvs : List V} {ds : List Value} {E : XK} {x m : Str} {p pos apos : Pos} {e o : Expr} {es : List Expr} {ta : TE} {t : TA}

theorem vD {pins : List (Addr × Obj)} {σ : St} {H : Hp} {s : Shared} {Q : VK} {us : List Value} {vs : List V} (F : FnOk X.prog X.w X.K X.mg X.base CX k f fd ps sp) (hr : Room k X.A) (hb : Binds X.K fd ps ds) (hd : Vals dvs ds) (hx : mQ CX X E)
    (I : Inv X pins σ H s) (r : Vals vs us) (h : sp (vs ++ dvs) H Q E) : wpAny (model X.prog X.w) X.A (call (.ref f) us) (EP X pins σ Q) X.xe s := by
  have r2 : Vals (vs ++ dvs) (us ++ ds) := r.append hd
  have hl : (us ++ ds).length = ps.length := by rw [← r2.length]; exact F.len _ _ _ _ h
  refine wpAny_call (codeAny_mono (F.run X.A X.stack s H ⟨us, []⟩ (us ++ ds) (vs ++ dvs) Q E hr I.env0 (hb s us I.kIn hl) r2 h) fun r s' hq => ?_)
  cases r with
  | error e => exact hx pins σ H s e s' I hq
  | ok fl =>
    cases fl with
    | ret u => exact I.after hq
    | next => exact False.elim hq
    | brk => exact False.elim hq
    | cont => exact False.elim hq

theorem uO (F : FnOk X.prog X.w X.K X.mg X.base CX k f fd ps sp) (hr : Room k X.A) (hg : Gl X x) (hm : X.mg x = some (.ref f)) (hk : PySem.W.keepIn X.K (.ref f) = true) (hb : Binds X.K fd ps ds) (hd : Vals dvs ds) (hx : mQ CX X E)
    (ha : PA X (e :: es) t) (hdb : (x == ("__debug__" : Str)) = false := by decide) (he : starEach (e :: es) X.env = (false, eval e X.env) :: starEach es X.env := by rfl) (hpl : (backTo pos (starEach es X.env)).any (·.1) = false := by rfl) :
    PE X (.Call (.Name x p) (e :: es) [] pos) (nV sp dvs E t) := by
  intro pins s σ H Q I h
  refine wpAny_Call_Name_kw (uC I hg hm ?_ hdb)
  refine PySem.W.callWith_K (h₀ := X.base) I.ok.mod.kin hk (thn (ha pos pins s σ H _ I h) fun us s1 ⟨vs, H1, I1, r, q⟩ => ⟨I1.kIn, ?_⟩) he hpl
  exact vD F hr hb hd hx I1 r q
structure Mk (K : PySem.W.Frag) (C f : Addr) : Prop where
  makes : PySem.W.makesIn K C = true
  init : PySem.W.findIn K (.ref C) "__init__" = some (some (.ref f))
  fn : PySem.W.isFn K (.ref f) = true
  kp : PySem.W.keepIn K (.ref C) = true

end

section
variable {X : Cx} {CX : CXT} {k : Nat} {f C : Addr} {fd : FuncData} {ps ks : List Str} {sp : Sp} {E : XK} {x m : Str} {p pos apos kpos : Pos} {e o : Expr} {es : List Expr} {kws : List Keyword} {te ta : TE} {t tk : TA} {nm : Option Str}
structure KBinds (K : PySem.W.Frag) (fd : FuncData) (ps ks : List Str) (g : List Value → List Value → List Value) (gV : List V → List V → List V) : Prop where
  to : ∀ (s : Shared) (us ws : List Value), K.In s.heap → (g us ws).length = ps.length → BindsTo s fd ⟨us, ks.zip ws⟩ (ps.zip (g us ws))
  rel : ∀ {vs : List V} {us : List Value} {zs : List V} {ws : List Value}, Vals vs us → Vals zs ws → Vals (gV vs zs) (g us ws)
variable {g : List Value → List Value → List Value} {gV : List V → List V → List V}
end

structure FnScope (N P : List Str) (sc : Scope) : Prop where
  kind : sc.kind = .function
  co : sc.isCoroutine = false
  gen : sc.isGenerator = false
  nd : N.Nodup
  pre : N.take P.length = P
  par : ∀ x ∈ P, sc.names.lookup x = some .local ∨ sc.names.lookup x = some .cell
  nofree : ∀ y ∈ sc.names, y.2 ≠ .free

theorem ny {kindOf : Str → Option NameKind} {x : Str} : ∀ {binds : List (Str × Value)} {m : Str → Option Value}, (∀ v, (x, v) ∉ binds) → bindL kindOf binds m x = m x
  | [], _, _ => rfl
  | (n, v) :: r, m, h => by
    unfold bindL
    rw [ny fun w hw => h w (List.mem_cons_of_mem _ hw)]
    split
    · have : x ≠ n := by rintro rfl; exact h v List.mem_cons_self
      simp [this]
    · rfl
theorem nA {kindOf : Str → Option NameKind} {x : Str} : ∀ {binds : List (Str × Value)} {m : Str → Option Value}, (∀ v, (x, v) ∉ binds) → bindC kindOf binds m x = m x
  | [], _, _ => rfl
  | (n, v) :: r, m, h => by
    unfold bindC
    rw [nA fun w hw => h w (List.mem_cons_of_mem _ hw)]
    split
    · rfl
    · have : x ≠ n := by rintro rfl; exact h v List.mem_cons_self
      simp [this]
theorem nL {kindOf : Str → Option NameKind} {x : Str} {v : Value} : ∀ {P : List Str} {vs : List Value} {i : Nat} {m : Str → Option Value}, P.Nodup → P[i]? = some x → vs[i]? = some v → kindOf x = some .local →
    bindL kindOf (P.zip vs) m x = some v
  | [], _, _, _, _, h, _, _ => by simp at h
  | _ :: _, [], _, _, _, _, h, _ => by simp at h
  | p :: P, w :: vs, 0, m, nd, h1, h2, hk => by
    simp at h1 h2; subst h1; subst h2
    show bindL kindOf ((p, w) :: P.zip vs) m p = _
    unfold bindL
    rw [ny fun v hv => (List.nodup_cons.mp nd).1 (List.of_mem_zip hv).1, if_pos hk]
    simp
  | p :: P, w :: vs, i + 1, m, nd, h1, h2, hk => by
    show bindL kindOf ((p, w) :: P.zip vs) m x = _
    unfold bindL
    exact nL (i := i) (List.nodup_cons.mp nd).2 (by simpa using h1) (by simpa using h2) hk
theorem nH {kindOf : Str → Option NameKind} {x : Str} {v : Value} : ∀ {P : List Str} {vs : List Value} {i : Nat} {m : Str → Option Value}, P.Nodup → P[i]? = some x → vs[i]? = some v → kindOf x ≠ some .local →
    bindC kindOf (P.zip vs) m x = some v
  | [], _, _, _, _, h, _, _ => by simp at h
  | _ :: _, [], _, _, _, _, h, _ => by simp at h
  | p :: P, w :: vs, 0, m, nd, h1, h2, hk => by
    simp at h1 h2; subst h1; subst h2
    show bindC kindOf ((p, w) :: P.zip vs) m p = _
    unfold bindC
    rw [nA fun v hv => (List.nodup_cons.mp nd).1 (List.of_mem_zip hv).1, if_neg hk]
    simp
  | p :: P, w :: vs, i + 1, m, nd, h1, h2, hk => by
    show bindC kindOf ((p, w) :: P.zip vs) m x = _
    unfold bindC
    exact nH (i := i) (List.nodup_cons.mp nd).2 (by simpa using h1) (by simpa using h2) hk

def start (N : List Str) (vs : List V) : St := vs.map some ++ List.replicate (N.length - vs.length) none

def lR (CX : CXT) (P : Program) (w : World) (K : PySem.W.Frag) (mg : Str → Option Value) (base : Heap) (N : List Str) (qual : Str) (scope : Scope) (f : Addr) (cd : Value) (A : Around) (outer : List Env) (s : Shared) (H : Hp) (E : XK) : Cx where
  prog := P
  w := w
  K := K
  mg := mg
  base := base
  A := A.deeper (envOfC qual scope s.heap.objs.size f cd)
  N := N
  s₀ := s
  H₀ := H
  env := envOfC qual scope s.heap.objs.size f cd
  outer := outer
  stack := envOfC qual scope s.heap.objs.size f cd :: outer
  ex := []
  calm := true
  fn := fun _ => true
  pn := []
  xe := fun e s' => wpAny (model P w) (A.deeper (envOfC qual scope s.heap.objs.size f cd)) (leaving (envOfC qual scope s.heap.objs.size f cd) e) (fun _ s'' => CX outer H s E e s'') (fun e' s'' => CX outer H s E e' s'') s'

theorem nZ {sc : Scope} {n : Nat} {x : Str} (h : sc.names.lookup x = some .cell) : ∃ c, (cellsFrom n sc.names []).lookup x = some c := by
  have q := PySem.W.cellsFrom_some sc.names n [] (.inl h)
  exact Option.isSome_iff_exists.mp q

theorem rY {CX : CXT} {P : Program} {w : World} {K : PySem.W.Frag} {mg : Str → Option Value} {base : Heap} {N ps : List Str} {qual : Str} {scope : Scope} {f : Addr} {cd : Value} {A : Around} {outer : List Env} {s s1 : Shared} {H : Hp} {E : XK} {us : List Value} {vs : List V}
    (S : FnScope N ps scope) (hd : A.handled = none) (e0 : Env0 P w K mg base A outer s H) (hl : vs.length = ps.length) (r : Vals vs us)
    (x : InCallC s s.heap.objs.size (bindL (envOfC qual scope s.heap.objs.size f cd).kindOf (ps.zip us) fun _ => none) (cellsFrom (s.heap.objs.size + 1) scope.names []) (bindC (envOfC qual scope s.heap.objs.size f cd).kindOf (ps.zip us) fun _ => none) s1) :
    Inv (lR CX P w K mg base N qual scope f cd A outer s H E) [] (start N vs) H s1 := by
  have hpl : ps.length ≤ N.length := by have := congrArg List.length S.pre; rw [List.length_take] at this; omega
  obtain ⟨h1, tk, rfl, hk⟩ := x.done
  have noA : ∀ b : Addr, b ∉ (lR CX P w K mg base N qual scope f cd A outer s H E).ex := fun b z => absurd (show b ∈ ([] : List Addr) from z) (by simp)
  refine ⟨⟨e0.mod, S.kind, rfl, rfl, Nat.le_refl _, fun y z c h1 h2 => ?_, fun y hy => ?_, fun y c _ h => ?_, fun _ => hd, Around.frames_deeper e0.frames, .inr ⟨rfl, rfl⟩, fun b z => absurd z (noA b), e0.bs, e0.bsz, fun b _ _ => noA b, fun b z => absurd z (noA b), e0.funs, e0.frf⟩,
    rfl, e0.bare, Un.kept hk, ⟨_, x.toInCall.ns, fun i y v h1 h2 h3 => ?_⟩, fun y c h => ⟨_, x.cell y c h⟩, e0.hok.fresh (Nat.le_refl _), fun y c h => ?_, fun p hp => absurd (show p ∈ ([] : List (Addr × Obj)) from hp) (by simp), e0.hok.kept hk, ?_⟩
  · exact name_of_addr x.apart (PySem.mem_of_lookup h1) (PySem.mem_of_lookup h2)
  · have hy : scope.names.lookup y = some .cell ∨ scope.names.lookup y = some .free := hy
    rcases hy with hy | hy
    · exact nZ hy
    · exact absurd rfl (S.nofree _ (PySem.mem_of_lookup hy))
  · exact Nat.le_of_lt (x.above y c (PySem.mem_of_lookup h))
  · have hi : i < vs.length := by
      unfold start at h2
      by_cases hi : i < vs.length
      · exact hi
      · rw [List.getElem?_append_right (by simpa using hi)] at h2
        rw [List.getElem?_replicate] at h2
        split at h2 <;> cases h2
    have ha : vs[i]? = some v := by
      unfold start at h2
      rw [List.getElem?_append_left (by simpa using hi), List.getElem?_map] at h2
      cases e : vs[i]? with
      | none => rw [e] at h2; cases h2
      | some a => rw [e] at h2; cases h2; rfl
    obtain ⟨u, hu, rv⟩ := r.get ha
    have hp : ps[i]? = some y := by
      rw [← S.pre, List.getElem?_take_of_lt (by omega)]; exact h1
    have ndP : ps.Nodup := by rw [← S.pre]; exact S.nd.sublist (List.take_sublist _ _)
    refine ⟨u, rv, ?_⟩
    rcases S.par y (List.mem_of_getElem? hp) with k | k
    · exact .inl ⟨k, nL ndP hp hu k⟩
    · obtain ⟨c, e⟩ := nZ (n := s.heap.objs.size + 1) k
      refine .inr ⟨.inl k, c, e, ?_⟩
      have q := x.cell y c e
      rw [nH ndP hp hu (by show scope.names.lookup y ≠ _; rw [k]; decide)] at q
      exact q
  · exact e0.hok.fresh (Nat.le_of_lt (x.above y c (PySem.mem_of_lookup h)))
  · unfold start
    show _ = N.length
    rw [List.length_append, List.length_map, List.length_replicate]
    omega

theorem vV {CX : CXT} {P : Program} {w : World} {K : PySem.W.Frag} {mg : Str → Option Value} {base : Heap} {k : Nat} {f : Addr} {name qual : Str} {params : Arguments} {body : List Stmt} {scope : Scope} {dV kV doc pm cdv ct oc : Value} {an od : Option Addr}
    {osl : Array (Option Value)} {N ps : List Str} {sp : Sp} (lk : K.lookup f = some ⟨oc, od, .func (PySem.W.fnOf name qual params body scope dV kV doc pm an cdv ct), osl⟩) (hcd : PySem.W.codeIn K cdv qual = true) (S : FnScope N ps scope)
    (len : ∀ vs H Q E, sp vs H Q E → vs.length = ps.length)
    (hbody : ∀ (A : Around) (outer : List Env) (s : Shared) (H : Hp) (vs : List V) (Q : VK) (E : XK), Room k (A.deeper (envOfC qual scope s.heap.objs.size f cdv)) → sp vs H Q E →
      ∃ t, PSs (lR CX P w K mg base N qual scope f cdv A outer s H E) body t ∧ t { nx := fun _ H' => Q .non H', rt := Q } (start N vs) H) :
    FnOk P w K mg base CX (k + 1) f (PySem.W.fnOf name qual params body scope dV kV doc pm an cdv ct) ps sp := by
  refine ⟨len, fun A outer s H args us vs Q E hr e0 hb r hsp => ?_⟩
  have hl := len _ _ _ _ hsp
  have KX : K.In s.heap := e0.mod.kin.keeps fun b o e => (e0.bs b o e).1
  have lim : s.heap.NoLimit := e0.mod.nolimit.keeps fun b o e => (e0.bs b o e).1
  have hkind : ∀ y ∈ ps.zip us, scope.names.lookup y.1 = some .local ∨ (scope.names.lookup y.1 = some .cell ∧ ((cellsFrom (s.heap.objs.size + 1) scope.names []).lookup y.1).isSome = true) := fun ⟨n, v⟩ hy => by
    rcases S.par n (List.of_mem_zip hy).1 with q | q
    · exact .inl q
    · exact .inr ⟨q, PySem.W.cellsFrom_some _ _ _ (.inl q)⟩
  refine codeAny_call_function hr.depth (KX _ _ lk) rfl S.co S.gen rfl (PySem.W.codeRec_of KX hcd) (hb _ _ _ _ ?_)
  refine wpAny_newFunctionEnv_cells S.kind hkind fun env he s1 x => ?_
  subst he
  refine ⟨lim.keeps x.toInCall.keep, codeAny_func ?_⟩
  obtain ⟨t, ht, hq⟩ := hbody A outer s H vs Q E (hr.deeper _) hsp
  have I : Inv (lR CX P w K mg base N qual scope f cdv A outer s H E) [] (start N vs) H s1 := rY S hr.hd e0 hl r x
  refine wpAny_mono (ht [] s1 (start N vs) H _ I hq) (fun fl s' hs => ?_) fun e s' hs => hs
  have fin : ∀ {σ' : St} {H' : Hp} {v : V} {u : Value}, Inv (lR CX P w K mg base N qual scope f cdv A outer s H E) [] σ' H' s' → RelV v u → Q v H' → CE outer P w H s Q u s' :=
    fun {σ' H' v u} J rv q => ⟨v, H', J.os, J.bare, J.base, J.hok, rv, q⟩
  cases fl with
  | ret u =>
    obtain ⟨v, σ', H', J, rv, q⟩ := hs
    exact fin J rv q
  | next =>
    obtain ⟨σ', H', J, q⟩ := hs
    exact fin (v := V.non) (u := Value.none) J rfl q
  | brk =>
    obtain ⟨_, _, _, q⟩ := hs
    exact False.elim q
  | cont =>
    obtain ⟨_, _, _, q⟩ := hs
    exact False.elim q
end L2

namespace L2
open PySem PySem.Spec PyProof.Rows
section
variable {X : Cx} {x : Str} {p pos : Pos} {e : Expr} {es : List Expr} {t : TA} {id T : String} {r : List V → Hp → VK → Prop}

def tCB (r : List V → Hp → VK → Prop) (t : TA) : TE := fun σ H Q => t σ H fun vs H1 => r vs H1 Q
theorem ja (hc : jE X (.builtin id) r) (hg : Gl X x) (hm : X.mg x = none) (hv : bootBuiltins x = some (.builtin id)) (ha : PA X (e :: es) t) (hn : x ≠ "__name__" := by decide) (hdb : (x == ("__debug__" : Str)) = false := by decide)
    (he : starEach (e :: es) X.env = (false, eval e X.env) :: starEach es X.env := by rfl) (hpl : (backTo pos (starEach es X.env)).any (·.1) = false := by rfl) : PE X (.Call (.Name x p) (e :: es) [] pos) (tCB r t) := by
  intro pins s σ H Q I h
  refine wpAny_Call_Name_kw (lW I hg hm hv ?_ hn hdb)
  exact PyProof.Rows.callWith_builtin1 (thn (ha pos pins s σ H _ I h) fun us s1 ⟨vs, H1, I1, r1, q1⟩ => hc pins s1 σ H1 vs us Q I1 r1 q1) he hpl
theorem j3 (hc : jE X (.type T) r) (hg : Gl X x) (hm : X.mg x = none) (hv : bootBuiltins x = some (.type T)) (ha : PA X (e :: es) t) (hn : x ≠ "__name__" := by decide) (hdb : (x == ("__debug__" : Str)) = false := by decide)
    (he : starEach (e :: es) X.env = (false, eval e X.env) :: starEach es X.env := by rfl) (hpl : (backTo pos (starEach es X.env)).any (·.1) = false := by rfl) : PE X (.Call (.Name x p) (e :: es) [] pos) (tCB r t) := by
  intro pins s σ H Q I h
  refine wpAny_Call_Name_kw (lW I hg hm hv ?_ hn hdb)
  exact PyProof.Rows.callWith_type1 (thn (ha pos pins s σ H _ I h) fun us s1 ⟨vs, H1, I1, r1, q1⟩ => hc pins s1 σ H1 vs us Q I1 r1 q1) he hpl
end
end L2

namespace HT
open PySem PyProof.Rows

section
open PySem.SeqAt
open PySem.AutoSeq1 (wpAny_loadPart')
open PySem.MeetsSeq PySem.MeetsSeq2 PySem.MeetsSeq3

end

section
variable {prog : Program} {w : World} {A : Around} {E : Value → Shared → Prop} {s : Shared}

def sIx (n d : Nat) : Option Int → Nat
  | none => d
  | some v => if v < 0 then (v + (n : Int)).toNat else min v.toNat n
theorem sIx_none (n d : Nat) : sIx n d none = d := rfl
theorem sIx_nat (n d k : Nat) : sIx n d (some (k : Int)) = min k n := by
  show (if (k : Int) < 0 then ((k : Int) + (n : Int)).toNat else min (k : Int).toNat n) = min k n
  rw [if_neg (by omega), Int.toNat_natCast]
end
end HT

namespace L2
open PySem PySem.Spec PyProof.Rows

abbrev TO := St → Hp → (Option Int → Hp → Prop) → Prop
def PO (X : Cx) (e : Option Expr) (t : TO) : Prop :=
  ∀ (pins : List (Addr × Obj)) (s : Shared) (σ : St) (H : Hp) (Q : Option Int → Hp → Prop), Inv X pins σ H s → t σ H Q →
    wpAny (model X.prog X.w) X.A (evalPart e X.env) (fun u s' => ∃ o H', Inv X pins σ H' s' ∧ IsPart u o ∧ Q o H') X.xe s
def ql : TO := fun _ H Q => Q none H
def t8 (t : TE) : TO := fun σ H Q => t σ H fun x H1 => ∃ i, x = .int i ∧ Q (some i) H1

section
variable {X : Cx} {e : Expr} {te : TE} {lo hi : Option Expr} {tl th : TO} {pos p2 : Pos}

theorem qh : PO X none ql := by
  intro pins s σ H Q I h
  rw [evalPart_none]
  exact wpAny_pure ⟨none, H, I, .none, h⟩
theorem lF (h : PE X e te) : PO X (some e) (t8 te) := by
  intro pins s σ H Q I hw
  rw [evalPart_some]
  refine thn (h pins s σ H _ I hw) fun u s1 ⟨x, H1, I1, r1, q1⟩ => ?_
  obtain ⟨i, rfl, q⟩ := q1
  obtain ⟨t, rfl⟩ := r1
  exact ⟨some i, H1, I1, .int i t, q⟩

def SlR (X : Cx) (r : V → Option Int → Option Int → Hp → VK → Prop) : Prop :=
  ∀ (pins : List (Addr × Obj)) (s : Shared) (σ : St) (H : Hp) (x : V) (v vl vu : Value) (lo hi : Option Int) (sl : Addr) (Q : VK), Inv X pins σ H s → RelV x v → s.heap.IsSliceOf sl vl vu .none → IsPart vl lo → IsPart vu hi → r x lo hi H Q →
    ∃ T id, typeLookup (.type T) "__getitem__" = pure (some (.builtin id)) ∧ s.TypeIs v T ∧ wpAny (model X.prog X.w) X.A (getItem v (.ref sl)) (EP X pins σ Q) X.xe s
def tSl (r : V → Option Int → Option Int → Hp → VK → Prop) (te : TE) (tl th : TO) : TE := fun σ H Q => te σ H fun x H1 => tl σ H1 fun l H2 => th σ H2 fun u H3 => r x l u H3 Q
theorem lO {r : V → Option Int → Option Int → Hp → VK → Prop} (hr : SlR X r) (he : PE X e te) (hl : PO X lo tl) (hu : PO X hi th) : PE X (.Subscript e (.Slice lo hi none p2) pos) (tSl r te tl th) := by
  intro pins s σ H Q I h
  refine Subscript_ (thn (he pins s σ H _ I h) fun v s1 ⟨x, H1, I1, r1, q1⟩ => ?_)
  refine wpAny_Slice (thn (hl pins s1 σ H1 _ I1 q1) fun vl s2 ⟨l, H2, I2, pl, q2⟩ => thn (hu pins s2 σ H2 _ I2 q2) fun vu s3 ⟨u, H3, I3, pu, q3⟩ => ?_)
  rw [evalPart_none]
  refine wpAny_pure ?_
  have I4 : Inv X pins σ H3 { s3 with heap := s3.heap.push { cls := .type "slice", data := .fields #[vl, vu, .none] } } := I3.kept (t' := s3.toks) fun b ob q => Heap.get?_push_of_some _ q
  obtain ⟨T, id, hT, ht, hg⟩ := hr pins { s3 with heap := s3.heap.push { cls := .type "slice", data := .fields #[vl, vu, .none] } } σ H3 x v vl vu l u s3.heap.objs.size Q I4 r1 (Heap.IsSliceOf.new ..) pl pu q3
  show wpAny (model X.prog X.w) X.A (subscriptTail e (.Slice lo hi none p2) v (.ref s3.heap.objs.size)) (EP X pins σ Q) X.xe { s3 with heap := s3.heap.push { cls := .type "slice", data := .fields #[vl, vu, .none] } }
  exact tail_any (ops := [.ref s3.heap.objs.size, v]) ht hT hg (by with_unfolding_all rfl)

def kh (xs : List V) (lo hi : Option Int) : List V := (xs.drop (HT.sIx xs.length 0 lo)).take (HT.sIx xs.length xs.length hi - HT.sIx xs.length 0 lo)
theorem o9 (xs : List V) (lo hi : Option Int) : (kh xs lo hi).length ≤ xs.length := by
  unfold kh
  rw [List.length_take, List.length_drop]
  omega
end
end L2

namespace L2
open PySem PySem.Spec PyProof.Rows

def ixN (n : Nat) (i : Int) : Option Nat := if 0 ≤ i then (if i < n then some i.toNat else none) else if -(n : Int) ≤ i then some (i + n).toNat else none
def atI {α : Type} (xs : List α) (i : Int) : Option α := (ixN xs.length i).bind fun j => xs[j]?
theorem qa {n : Nat} {i : Int} {j : Nat} (h : ixN n i = some j) : seqIndex? i n = some j ∧ j < n ∧ -(n : Int) ≤ i ∧ i < n := by
  unfold ixN at h
  by_cases h0 : 0 ≤ i
  · rw [if_pos h0] at h
    by_cases h1 : i < n
    · rw [if_pos h1] at h
      have e : i.toNat = j := Option.some.inj h
      exact ⟨by rw [seqIndex_of h0 h1, e], by omega, by omega, h1⟩
    · rw [if_neg h1] at h; cases h
  · rw [if_neg h0] at h
    by_cases h1 : -(n : Int) ≤ i
    · rw [if_pos h1] at h
      have e : (i + n).toNat = j := Option.some.inj h
      exact ⟨by rw [seqIndex_neg (by omega) h1, e], by omega, h1, by omega⟩
    · rw [if_neg h1] at h; cases h
theorem mY {α : Type} {xs : List α} {i : Int} {v : α} (h : atI xs i = some v) : ∃ j, seqIndex? i xs.length = some j ∧ xs[j]? = some v ∧ j < xs.length ∧ -(xs.length : Int) ≤ i ∧ i < xs.length := by
  unfold atI at h
  cases e : ixN xs.length i with
  | none => rw [e] at h; cases h
  | some j =>
    rw [e] at h
    obtain ⟨h1, h2, h3, h4⟩ := qa e
    exact ⟨j, h1, h, h2, h3, h4⟩
theorem jr {α : Type} {xs : List α} {j : Nat} {v : α} (h : xs[j]? = some v) : atI xs (j : Int) = some v := by
  have hj : j < xs.length := (List.getElem?_eq_some_iff.mp h).1
  have e : ixN xs.length (j : Int) = some j := by
    unfold ixN
    rw [if_pos (by omega), if_pos (by omega)]; simp
  unfold atI; rw [e]; exact h
def p5 (b : Expr) : Prop := ∀ o i, subscripted b false o i = operate [o, i] (getItem o i)
def IxR (X : Cx) (r : R2) : Prop :=
  ∀ (value slice : Expr) (pins : List (Addr × Obj)) (s : Shared) (σ : St) (H : Hp) (x y : V) (v u : Value) (Q : VK), Inv X pins σ H s → RelV x v → RelV y u → r x y H Q →
    subscripted slice false v u = operate [v, u] (getItem v u) → wpAny (model X.prog X.w) X.A (subscriptTail value slice v u) (EP X pins σ Q) X.xe s
def MtR (X : Cx) (id : String) (r : V → List V → Hp → VK → Prop) : Prop :=
  ∀ (pins : List (Addr × Obj)) (s : Shared) (σ : St) (H : Hp) (x : V) (xs : List V) (v : Value) (us : List Value) (Q : VK), Inv X pins σ H s → RelV x v → Vals xs us → r x xs H Q →
    wpAny (model X.prog X.w) X.A (call (.builtin id) (v :: us)) (EP X pins σ Q) X.xe s
section
variable {X : Cx} {a b : Expr} {ta tb : TE} {pos : Pos}
theorem i7 {r : R2} (hr : IxR X r) (ha : PE X a ta) (hb : PE X b tb) (hs : p5 b) : PE X (.Subscript a b pos) (tOp r ta tb) := by
  intro pins s σ H Q I h
  exact Subscript_ (tR ha hb I h fun v u s2 x y H2 I2 rx ry q => hr a b pins s2 σ H2 x y v u Q I2 rx ry q (hs _ _))

def sF (K : PySem.W.Frag) : R2 := fun x y H Q => ∃ p xs i v, x = .ref p ∧ y = .int i ∧ SqL K H p xs ∧ atI xs i = some v ∧ Q v H
def sQ (K : PySem.W.Frag) : R2 := fun x y H Q => ∃ p xs i v, x = .ref p ∧ y = .int i ∧ SqT K H p xs ∧ atI xs i = some v ∧ Q v H
def vB : R2 := fun x y H Q => ∃ z i c, x = .str z ∧ y = .int i ∧ z.length ≤ sizeLine ∧ atI z.cps.toList i = some c ∧ Q (.str ⟨#[c]⟩) H
theorem jg : IxR X (sF X.K) := by
  intro value slice pins s σ H x y v u Q I rx ry h hs
  obtain ⟨p, xs, i, z, rfl, rfl, hq, he, q⟩ := h
  cases rx
  obtain ⟨t, rfl⟩ := ry
  obtain ⟨its, r, pl, hz⟩ := I.list hq
  obtain ⟨j, h1, h2, h3, h4, h5⟩ := mY he
  obtain ⟨w, ew, rw'⟩ := r.get h2
  have hl := r.length
  have hn := kJ
  have fin : EP X pins σ Q w s := ⟨z, H, I, rw', q⟩
  by_cases h0 : 0 ≤ i
  · have hj : i.toNat = j := by
      rw [seqIndex_of h0 h5] at h1
      exact Option.some.inj h1
    exact item_listR pl.isList h0 (by omega) (by rw [hj]; simpa using ew) fin hs
  · have hj : (i + (its.toArray.size : Int)).toNat = j := by
      rw [seqIndex_neg (by omega) h4] at h1
      rw [List.size_toArray, ← hl]
      exact Option.some.inj h1
    exact subscriptTail_builtinR (x := w) pl.isList.typeIs slot_list_getitem.lookup
      (wpAny_getItem_list_neg (Q := fun r s' => r = w ∧ EP X pins σ Q r s') pl.isList (by omega) (by rw [List.size_toArray] <;> omega) (by omega) (by rw [hj]; simpa using ew) ⟨rfl, fin⟩) hs
theorem jx : IxR X (sQ X.K) := by
  intro value slice pins s σ H x y v u Q I rx ry h hs
  obtain ⟨p, xs, i, z, rfl, rfl, hq, he, q⟩ := h
  cases rx
  obtain ⟨t, rfl⟩ := ry
  obtain ⟨its, r, pl, hz⟩ := I.tuple hq
  obtain ⟨j, h1, h2, h3, h4, h5⟩ := mY he
  obtain ⟨w, ew, rw'⟩ := r.get h2
  have hl := r.length
  have hn := kJ
  have fin : EP X pins σ Q w s := ⟨z, H, I, rw', q⟩
  exact subscriptTail_builtinR (x := w) pl.typeIs slot_tuple_getitem.lookup
    (getItem_tuple (j := j) (Q := fun r s' => r = w ∧ EP X pins σ Q r s') pl (by omega) (by omega) (by rw [List.size_toArray, ← hl]; exact h1) (by simpa using ew) ⟨rfl, fin⟩) hs
theorem r8 : IxR X vB := by
  intro value slice pins s σ H x y v u Q I rx ry h hs
  obtain ⟨z, i, c, rfl, rfl, hz, he, q⟩ := h
  obtain ⟨t, rfl⟩ := rx
  obtain ⟨t', rfl⟩ := ry
  obtain ⟨j, h1, h2, h3, h4, h5⟩ := mY he
  have hl : z.cps.toList.length = z.length := by simp [Str.length]
  rw [hl] at h1 h4 h5
  have hn := kJ
  exact tail_any (typeIs_str s z t) slot_str_getitem.lookup (getItem_str (c := c) (by
    have e1 : decide (i < -(2 ^ 63 : Int)) = false := decide_eq_false (by omega)
    have e2 : decide (i ≥ 2 ^ 63) = false := decide_eq_false (by omega)
    rw [e1, e2, Bool.or_false]) (by rw [h1]; simpa using h2) ⟨.str ⟨#[c]⟩, H, I.tok _, ⟨_, rfl⟩, q⟩) hs
theorem qI (its : List Value) (n j : Nat) (u : Value) : Obj.mapSeq (·.setIfInBounds j u) { cls := .type "list", data := .seq its.toArray n } = { cls := .type "list", data := .seq (its.set j u).toArray n } := by
  simp [Obj.mapSeq]
theorem Inv.lst {pins : List (Addr × Obj)} {σ : St} {H : Hp} {s : Shared} {p : Addr} {xs : List V} (I : Inv X pins σ H s) (h : H p = some (.lst xs)) :
    ∃ (its : List Value) (n : Nat), Vals xs its ∧ s.heap.get? p = some { cls := .type "list", data := .seq its.toArray n } ∧ xs.length ≤ sizeLine := by
  obtain ⟨z, its, n, r, e⟩ := I.hok p _ h
  exact ⟨its, n, r, e, z⟩
theorem Inv.lstUpd {pins : List (Addr × Obj)} {σ : St} {H : Hp} {s : Shared} {p : Addr} {xs ys : List V} {its its' : List Value} {n n' : Nat} {f : Obj → Obj} (I : Inv X pins σ H s) (h : H p = some (.lst xs))
    (ho : s.heap.get? p = some { cls := .type "list", data := .seq its.toArray n }) (hf : f { cls := .type "list", data := .seq its.toArray n } = { cls := .type "list", data := .seq its'.toArray n' }) (r : Vals ys its') (hz : ys.length ≤ sizeLine) (t : Nat) :
    Inv X pins σ (upd H p (.lst ys)) { s with heap := s.heap.update p f, toks := t } := by
  have e : (s.heap.update p f).get? p = some { cls := .type "list", data := .seq its'.toArray n' } := by
    rw [Heap.get?_update_self f ho (by rw [hf] <;> rfl), hf]
  refine I.write (x := p) (e := p) (by rw [h]; trivial) (.inl rfl) (fun b u hb q => (Heap.get?_update_other _ _ (Ne.symm hb)).trans q) ⟨_, e⟩ ?_
  exact ⟨hz, its', n', r, e⟩
def uo : V → V → V → Hp → (Hp → Prop) → Prop := fun o i v H Q => ∃ p xs k j, o = .ref p ∧ i = .int k ∧ H p = some (.lst xs) ∧ ixN xs.length k = some j ∧ Q (upd H p (.lst (xs.set j v)))
theorem set_list : vc X uo := by
  intro pins s σ H o i v ov iv u Q I ro ri rv h
  obtain ⟨p, xs, k, j, rfl, rfl, hp, hj, q⟩ := h
  cases ro
  obtain ⟨t, rfl⟩ := ri
  obtain ⟨its, n, r, ho, hz⟩ := I.lst hp
  obtain ⟨h1, h2, h3, h4⟩ := qa hj
  have hl := r.length
  have hn := kJ
  have I' : Inv X pins σ (upd H p (.lst (xs.set j v))) { s with heap := s.heap.update p (Obj.mapSeq (·.setIfInBounds j u)) } :=
    I.lstUpd hp ho (qI its n j u) (r.set rv j) (by rw [List.length_set]; exact hz) s.toks
  by_cases h0 : 0 ≤ k
  · have hk : k.toNat = j := by
      rw [seqIndex_of h0 h4] at h1
      exact Option.some.inj h1
    exact PySem.W.ki_setAt ho h0 (by omega) (by rw [List.size_toArray, ← hl]; exact h4) (by rw [hk]; exact ⟨_, I', q⟩)
  · have hk : (k + (its.toArray.size : Int)).toNat = j := by
      rw [seqIndex_neg (by omega) h3] at h1
      rw [List.size_toArray, ← hl]
      exact Option.some.inj h1
    exact PySem.W.ki_setBack ho (by omega) (by rw [List.size_toArray, ← hl]; exact h3) (by omega) (by rw [hk]; exact ⟨_, I', q⟩)

theorem oS (lo hi : Option Int) (n : Nat) : (sliceBounds lo hi none n).1 = ((HT.sIx n 0 lo : Nat) : Int) ∧ (sliceBounds lo hi none n).2.1 = ((HT.sIx n n hi : Nat) : Int) ∧ (sliceBounds lo hi none n).2.2 = 1 := by
  refine ⟨?_, ?_, rfl⟩
  · cases lo with
    | none => simp [sliceBounds, HT.sIx]
    | some i =>
      simp only [sliceBounds, HT.sIx, Option.getD_none, show (1 : Int) > 0 by decide, if_true]
      by_cases h : i < 0
      · simp only [h, if_true] <;> omega
      · simp only [h, if_false] <;> omega
  · cases hi with
    | none => simp [sliceBounds, HT.sIx]
    | some i =>
      simp only [sliceBounds, HT.sIx, Option.getD_none, show (1 : Int) > 0 by decide, if_true]
      by_cases h : i < 0
      · simp only [h, if_true] <;> omega
      · simp only [h, if_false] <;> omega
theorem nP (its : List Value) (lo hi : Option Int) : slicePick its.toArray lo hi none = ((its.drop (HT.sIx its.length 0 lo)).take (HT.sIx its.length its.length hi - HT.sIx its.length 0 lo)).toArray := by
  obtain ⟨h1, h2, h3⟩ := oS lo hi its.toArray.size
  unfold slicePick
  rw [h1, h2, h3]
  simp only [sliceRange_one, pick_run, List.size_toArray] <;> rfl
def sE (K : PySem.W.Frag) : V → Option Int → Option Int → Hp → VK → Prop := fun x lo hi H Q => ∃ a xs, x = .ref a ∧ SqL K H a xs ∧ ∀ p, H p = none → Q (.ref p) (upd H p (.lst (kh xs lo hi)))
theorem ng : SlR X (sE X.K) := by
  intro pins s σ H x v vl vu lo hi sl Q I rx hs pl pu h
  obtain ⟨a, xs, rfl, hx, q⟩ := h
  cases rx
  obtain ⟨its, r, ht, hz⟩ := I.list hx
  have hlen := r.length
  refine ⟨"list", _, slot_list_getitem.lookup, ht.isList.typeIs, ?_⟩
  refine wpAny_getItem_list_slice ht.isList hs pl pu .none (by simp) ?_ (by rw [List.size_toArray] <;> omega)
  rw [nP, ← hlen]
  refine ⟨.ref s.heap.objs.size, _, I.laid (t' := s.toks) (o := .lst (kh xs lo hi)) (fun b ob q => Heap.get?_push_of_some _ q) (Nat.le_refl _) ?_, rfl, q _ (I.hok.fresh (Nat.le_refl _))⟩
  exact ⟨Nat.le_trans (o9 xs lo hi) hz, _, 0, (r.drop (HT.sIx xs.length 0 lo)).take (HT.sIx xs.length xs.length hi - HT.sIx xs.length 0 lo), Heap.get?_push_size _ rfl⟩

def jP : V → Bool
  | .non => true
  | .bl _ => true
  | .int _ => true
  | .str _ => true
  | _ => false
def eqV : V → V → Bool
  | .non, .non => true
  | .bl a, .bl b => a == b
  | .bl a, .int b => (if a then 1 else 0) == b
  | .int a, .bl b => a == (if b then 1 else 0)
  | .int a, .int b => a == b
  | .str a, .str b => a == b
  | _, _ => false
theorem kM {A : Around} {s : Shared} {y x : V} {u v : Value} (ry : RelV y u) (rx : RelV x v) (fy : jP y = true) (fx : jP x = true) : SeqAt.EqAt A s u v (eqV y x) := by
  cases y with
  | non =>
    cases ry
    cases x with
    | non => cases rx; exact SeqAt.EqAt.same _
    | bl b => cases rx; exact SeqAt.EqAt.none_bool b
    | int b => obtain ⟨t, rfl⟩ := rx; exact SeqAt.EqAt.none_int b t
    | str b => obtain ⟨t, rfl⟩ := rx; exact SeqAt.EqAt.none_str b t
    | _ => exact absurd (show false = true from fx) Bool.false_ne_true
  | bl a =>
    cases ry
    cases x with
    | non => cases rx; exact SeqAt.EqAt.bool_none a
    | bl b => cases rx; exact SeqAt.EqAt.bool_bool a b
    | int b => obtain ⟨t, rfl⟩ := rx; exact SeqAt.EqAt.bool_int a b t
    | str b => obtain ⟨t, rfl⟩ := rx; exact SeqAt.EqAt.bool_str a b t
    | _ => exact absurd (show false = true from fx) Bool.false_ne_true
  | int a =>
    obtain ⟨t', rfl⟩ := ry
    cases x with
    | non => cases rx; exact SeqAt.EqAt.int_none a t'
    | bl b => cases rx; exact SeqAt.EqAt.int_bool a t' b
    | int b => obtain ⟨t, rfl⟩ := rx; exact SeqAt.EqAt.int_int a t' b t
    | str b => obtain ⟨t, rfl⟩ := rx; exact SeqAt.EqAt.int_str a t' b t
    | _ => exact absurd (show false = true from fx) Bool.false_ne_true
  | str a =>
    obtain ⟨t', rfl⟩ := ry
    cases x with
    | non => cases rx; exact SeqAt.EqAt.str_none a t'
    | bl b => cases rx; exact SeqAt.EqAt.str_bool a t' b
    | int b => obtain ⟨t, rfl⟩ := rx; exact SeqAt.EqAt.str_int a t' b t
    | str b => obtain ⟨t, rfl⟩ := rx; exact SeqAt.EqAt.str_str a t' b t
    | _ => exact absurd (show false = true from fx) Bool.false_ne_true
  | _ => exact absurd (show false = true from fy) Bool.false_ne_true
def eqU (x : V) (u : Value) : Bool := match u with
  | .none => eqV .non x
  | .bool b => eqV (.bl b) x
  | .int i _ => eqV (.int i) x
  | .str z _ => eqV (.str z) x
  | _ => false
theorem rV {x y : V} {u : Value} (r : RelV y u) (f : jP y = true) : eqU x u = eqV y x := by
  cases y with
  | non => cases r; rfl
  | bl b => cases r; rfl
  | int i => obtain ⟨t, rfl⟩ := r; rfl
  | str z => obtain ⟨t, rfl⟩ := r; rfl
  | _ => exact absurd (show false = true from f) Bool.false_ne_true
theorem mS {x : V} : ∀ {xs : List V} {us : List Value}, Vals xs us → xs.all jP = true → us.any (eqU x) = xs.any fun y => eqV y x
  | _, _, .nil, _ => rfl
  | y :: xs, u :: us, .cons r t, f => by
    rw [List.all_cons, Bool.and_eq_true] at f
    rw [List.any_cons, List.any_cons, rV r f.1, mS t f.2]
theorem lU {A : Around} {s : Shared} {x : V} {v : Value} (rx : RelV x v) (fx : jP x = true) : ∀ {xs : List V} {us : List Value}, Vals xs us → xs.all jP = true → ∀ u ∈ us, SeqAt.EqAt A s u v (eqU x u)
  | _, _, .nil, _ => fun u hu => by cases hu
  | y :: xs, u :: us, .cons r t, f => fun u' hu => by
    rw [List.all_cons, Bool.and_eq_true] at f
    rcases List.mem_cons.mp hu with rfl | hu
    · rw [rV r f.1]; exact kM r rx f.1 fx
    · exact lU rx fx t f.2 u' hu
def inV (x : V) (xs : List V) : Bool := xs.any fun y => eqV y x
def rIn (K : PySem.W.Frag) (neg : Bool) : R2 := fun x y H Q => ∃ p xs, y = .ref p ∧ (SqL K H p xs ∨ SqT K H p xs) ∧ jP x = true ∧ xs.all jP = true ∧ Q (.bl (if neg then !inV x xs else inV x xs)) H
theorem ou : OpR X (compareOp .NotIn) (rIn X.K true) := by
  intro pins s σ H x y v u Q I rx ry h
  obtain ⟨p, xs, rfl, hq, fx, fs, q⟩ := h
  cases ry
  rcases hq with hq | hq
  · obtain ⟨its, r, pl, hz⟩ := I.list hq
    refine SeqAt.notIn_listAt (eqU x) pl.isList (fun w hw => lU rx fx r fs w (by simpa using hw)) ⟨.bl _, H, I, rfl, ?_⟩
    rw [show its.toArray.any (eqU x) = its.any (eqU x) by simp, mS r fs]
    exact q
  · obtain ⟨its, r, pl, hz⟩ := I.tuple hq
    refine SeqAt.notIn_tupleAt (eqU x) pl (fun w hw => lU rx fx r fs w (by simpa using hw)) ⟨.bl _, H, I, rfl, ?_⟩
    rw [show its.toArray.any (eqU x) = its.any (eqU x) by simp, mS r fs]
    exact q
theorem jk : jE X (.builtin "len") (fun xs H Q => ∃ p ys, xs = [.ref p] ∧ (SqL X.K H p ys ∨ SqT X.K H p ys) ∧ Q (.int ys.length) H) := by
  intro pins s σ H xs us Q I r h
  obtain ⟨p, ys, rfl, hq, q⟩ := h
  obtain ⟨u, rfl, rx⟩ := vals1 r
  cases rx
  have hn := kJ
  rcases hq with hq | hq
  · obtain ⟨its, r', pl, hz⟩ := I.list hq
    have hlen := r'.length
    exact Calls.call_len_list pl.isList (by simp only [List.size_toArray] <;> omega) ⟨.int ys.length, H, I.tok _, ⟨s.toks + 1, by rw [List.size_toArray, hlen]⟩, q⟩
  · obtain ⟨its, r', pl, hz⟩ := I.tuple hq
    have hlen := r'.length
    exact len_tuple pl (by simp only [List.size_toArray] <;> omega) ⟨.int ys.length, H, I.tok _, ⟨s.toks + 1, by rw [List.size_toArray, hlen]⟩, q⟩
theorem oK : jE X (.type "list") (fun xs H Q => ∃ p ys, xs = [.ref p] ∧ (SqL X.K H p ys ∨ SqT X.K H p ys) ∧ ∀ l, H l = none → Q (.ref l) (upd H l (.lst ys))) := by
  intro pins s σ H xs us Q I r h
  obtain ⟨p, ys, rfl, hq, q⟩ := h
  obtain ⟨u, rfl, rx⟩ := vals1 r
  cases rx
  have fin : ∀ (its : List Value), Vals ys its → ys.length ≤ sizeLine → ∀ (h' : Heap) (c' : Nat), (∀ b o', s.heap.get? b = some o' → h'.get? b = some o') →
      h'.get? s.heap.objs.size = some { cls := .type "list", dict := none, data := .seq its.toArray c', slots := #[] } → EP X pins σ Q (.ref s.heap.objs.size) { s with heap := h' } := fun its r' hz h' c' kp e =>
    ⟨.ref s.heap.objs.size, _, I.laid (t' := s.toks) kp (Nat.le_refl _) (show ObjOk X.prog X.w _ h' _ (.lst ys) from ⟨hz, its, c', r', e⟩), rfl, q _ (I.hok.fresh (Nat.le_refl _))⟩
  rcases hq with hq | hq
  · obtain ⟨its, r', pl, hz⟩ := I.list hq
    have hlen := r'.length
    obtain ⟨o, ho, hc, n, hd⟩ := pl.isList
    exact call_list_seq p (.inl rfl) ho hc hd (fun h' c' kp e => fin its r' hz h' c' kp e) (by simp only [List.size_toArray] <;> omega)
  · obtain ⟨its, r', pl, hz⟩ := I.tuple hq
    have hlen := r'.length
    obtain ⟨o, ho, hc, n, hd⟩ := pl
    exact call_list_seq p (.inr rfl) ho hc hd (fun h' c' kp e => fin its r' hz h' c' kp e) (by simp only [List.size_toArray] <;> omega)
theorem nN : jE X (.type "tuple") (fun xs H Q => ∃ p ys, xs = [.ref p] ∧ ((SqL X.K H p ys ∧ ∀ l, H l = none → Q (.ref l) (upd H l (.tup ys))) ∨ (SqT X.K H p ys ∧ Q (.ref p) H))) := by
  intro pins s σ H xs us Q I r h
  obtain ⟨p, ys, rfl, h⟩ := h
  obtain ⟨u, rfl, rx⟩ := vals1 r
  cases rx
  rcases h with ⟨hq, q⟩ | ⟨hq, q⟩
  · obtain ⟨its, r', pl, hz⟩ := I.list hq
    have hlen := r'.length
    refine call_tuple_list pl.isList (fun h' kp => ?_) (by simp only [List.size_toArray] <;> omega)
    have I1 : Inv X pins σ H { s with heap := h' } := I.kept (t' := s.toks) kp
    have I2 : Inv X pins σ (upd H h'.objs.size (.tup ys)) { s with heap := h'.push { cls := .type "tuple", data := .seq its.toArray } } :=
      I1.laid (t' := s.toks) (fun b o e => Heap.get?_push_of_some _ e) (Nat.le_refl _) (show ObjOk X.prog X.w _ _ _ (.tup ys) from ⟨hz, its, r', IsTup.new _ _, _, Heap.get?_push_size _ rfl, rfl⟩)
    exact ⟨.ref h'.objs.size, _, I2, rfl, q _ (I1.hok.fresh (Nat.le_refl _))⟩
  · obtain ⟨its, r', pl, hz⟩ := I.tuple hq
    exact call_tuple_same pl ⟨.ref p, H, I, rfl, q⟩

def tyV (K : PySem.W.Frag) (T : String) (x : V) (H : Hp) : Prop := match x with
  | .str _ => T = "str"
  | .int _ => T = "int"
  | .ref p => (T = "list" ∧ ∃ xs, SqL K H p xs) ∨ (T = "tuple" ∧ ∃ o, K.lookup p = some o ∧ o.cls = .type "tuple" ∧ o.dict = none) ∨
      (T = "dict" ∧ ((∃ kvs, H p = some (.dK kvs)) ∨ ∃ kvs, H p = some (.dT kvs))) ∨ (T = "set" ∧ ∃ S n, H p = some (.set S n))
  | _ => False
theorem sf {pins : List (Addr × Obj)} {σ : St} {H : Hp} {s : Shared} {T : String} {x : V} {v : Value} (I : Inv X pins σ H s) (r : RelV x v) (ty : tyV X.K T x H) :
    s.TypeIs v T ∧ ∀ a, v = .ref a → ∃ ob, s.heap.get? a = some ob ∧ ob.dict = none := by
  cases x with
  | str z =>
    obtain ⟨t, rfl⟩ := r
    cases (show T = "str" from ty)
    exact ⟨typeIs_str s z t, fun _ e => nomatch e⟩
  | int i =>
    obtain ⟨t, rfl⟩ := r
    cases (show T = "int" from ty)
    exact ⟨typeIs_int s i t, fun _ e => nomatch e⟩
  | ref p =>
    cases r
    rcases ty with ⟨rfl, xs, hq⟩ | ⟨rfl, o, hk, hc, hd⟩ | ⟨rfl, hk⟩ | ⟨rfl, S, n, hk⟩
    · obtain ⟨its, _, pl, _⟩ := I.list hq
      refine ⟨pl.isList.typeIs, fun a e => ?_⟩
      cases e
      obtain ⟨o, n, e, c, hd, _⟩ := pl
      exact ⟨o, e, hd⟩
    · refine ⟨⟨o, I.kIn p o hk, hc⟩, fun a e => ?_⟩
      cases e
      exact ⟨o, I.kIn _ o hk, hd⟩
    · have z : ∃ o, s.heap.get? p = some o ∧ o.ExactDict := by
        rcases hk with ⟨kvs, hk⟩ | ⟨kvs, hk⟩
        · obtain ⟨_, _, _, _, o, _, _, e, ex, _⟩ := I.hok p _ hk
          exact ⟨o, e, ex⟩
        · obtain ⟨_, _, _, _, o, _, _, e, ex, _⟩ := I.hok p _ hk
          exact ⟨o, e, ex⟩
      obtain ⟨o, e, ex⟩ := z
      refine ⟨⟨o, e, ex.1⟩, fun a e2 => ?_⟩
      cases e2
      exact ⟨o, e, ex.2.1⟩
    · obtain ⟨o, _, _, _, e, ex, _⟩ := I.hok p _ hk
      refine ⟨⟨o, e, ex.1⟩, fun a e2 => ?_⟩
      cases e2
      exact ⟨o, e, ex.2.1⟩
  | _ => exact False.elim ty
def sU (K : PySem.W.Frag) (T : String) (r : V → List V → Hp → VK → Prop) (to : TE) : TE := fun σ H Q => to σ H fun x H1 => tyV K T x H1 ∧ r x [] H1 Q
def tBM (K : PySem.W.Frag) (T : String) (r : V → List V → Hp → VK → Prop) (to : TE) (t : TA) : TE := fun σ H Q => to σ H fun x H1 => tyV K T x H1 ∧ t σ H1 fun xs H2 => r x xs H2 Q
variable {o e : Expr} {es : List Expr} {to : TE} {t : TA} {name : Str} {apos cpos : Pos} {T id : String} {r : V → List V → Hp → VK → Prop}
theorem vz (pa : PlainAttrs T) (slot : Slot T name id) (hty : typeOf (.builtin id) = pure (.type "method_descriptor")) (hm : MtR X id r) (ho : PE X o to)
    (hbase : attributeBase o name X.env (eval o X.env) = eval o X.env := by rfl) (hline : (apos.endLine == cpos.line) = true := by rfl) : PE X (.Call (.Attribute o name apos) [] [] cpos) (sU X.K T r to) := by
  intro pins s σ H Q I h
  refine wpAny_Call_method0_late hbase hline (thn (ho pins s σ H _ I h) fun v s1 ⟨x, H1, I1, r1, ty, q1⟩ => ?_)
  obtain ⟨h1, h2⟩ := sf I1 r1 ty
  exact ⟨T, id, pa, slot, hty, h1, h2, Calls.callWith_builtin rfl (PySem.evalArgs_none (hm pins s1 σ H1 x [] v [] Q I1 r1 .nil q1))⟩
theorem kj (pa : PlainAttrs T) (slot : Slot T name id) (hty : typeOf (.builtin id) = pure (.type "method_descriptor")) (hm : MtR X id r) (ho : PE X o to) (ha : PA X (e :: es) t)
    (hbase : attributeBase o name X.env (eval o X.env) = eval o X.env := by rfl)
    (hfew : ((backTo cpos (starEach (e :: es) X.env)).all (fun x => !x.1) && (backToKw cpos (keywordEach [] X.env)).all (fun x => x.1.isSome)
      && decide ((e :: es).length + ([] : List Keyword).length + (if ([] : List Keyword).isEmpty then 0 else 1) < 30)) = true := by rfl)
    (hline : (apos.endLine == cpos.line) = true := by rfl) (hs : starEach (e :: es) X.env = (false, eval e X.env) :: starEach es X.env := by rfl) (hplain : (backTo cpos (starEach es X.env)).any (·.1) = false := by rfl) :
    PE X (.Call (.Attribute o name apos) (e :: es) [] cpos) (tBM X.K T r to t) := by
  intro pins s σ H Q I h
  refine wpAny_Call_method_late hbase hfew hline rfl (thn (ho pins s σ H _ I h) fun v s1 ⟨x, H1, I1, r1, ty, q1⟩ => ?_)
  obtain ⟨h1, h2⟩ := sf I1 r1 ty
  refine ⟨T, id, pa, slot, hty, h1, h2, ?_⟩
  have hA := ha cpos pins s1 σ H1 _ I1 q1
  rw [hs] at hA ⊢
  refine Calls.callWith_builtin (by show (false || (backTo cpos (starEach es X.env)).any (·.1)) = false; rw [hplain] <;> rfl) (Calls.evalArgs_plain ?_)
  exact thn hA fun us s2 ⟨vs, H2, I2, r2, q2⟩ => hm pins s2 σ H2 x vs v us Q I2 r1 r2 q2
end
end L2

namespace L2
open PySem PySem.Spec PyProof.Rows

def MtM (X : Cx) (id : String) (r : V → List V → Hp → VK → Prop) : Prop :=
  ∀ (pins : List (Addr × Obj)) (s : Shared) (σ : St) (H : Hp) (x : V) (xs : List V) (v : Value) (us : List Value) (Q : VK), Inv X pins σ H s → RelV x v → Vals xs us → r x xs H Q →
    wpAny (model X.prog X.w) X.A (call (.builtin id) (v :: us)) (EP X pins σ Q) X.xe s

theorem Vals.one : ∀ {x : V} {us : List Value}, Vals [x] us → ∃ u, us = [u] ∧ RelV x u
  | _, _, .cons r .nil => ⟨_, rfl, r⟩
theorem Vals.zero : ∀ {us : List Value}, Vals [] us → us = []
  | _, .nil => rfl
theorem Vals.dropLast {xs : List V} {us : List Value} (h : Vals xs us) : Vals xs.dropLast us.dropLast := by
  induction h with
  | nil => exact .nil
  | cons r t ih =>
    cases t with
    | nil => exact .nil
    | cons q t' => exact .cons r ih
theorem qE {α : Type} (l : List α) : l.eraseIdx (l.length - 1) = l.dropLast := by
  induction l with
  | nil => rfl
  | cons a r ih =>
    cases r with
    | nil => rfl
    | cons b r =>
      have e : (a :: b :: r).length - 1 = ((b :: r).length - 1) + 1 := by
        have h1 : (a :: b :: r).length = r.length + 2 := rfl
        have h2 : (b :: r).length = r.length + 1 := rfl
        omega
      rw [e, List.eraseIdx_cons_succ, ih]
      all_goals rfl
section
variable {X : Cx} {pins : List (Addr × Obj)} {σ : St} {H : Hp} {s : Shared} {l b : Addr} {xs ys zs : List V}

theorem Inv.lset {its its' : List Value} {n : Nat} {f : Array Value → Array Value} {t' : Nat} (I : Inv X pins σ H s) (hH : H l = some (.lst xs))
    (e : s.heap.get? l = some { cls := .type "list", data := .seq its.toArray n }) (hf : f its.toArray = its'.toArray) (hv : Vals ys its') (hz : ys.length ≤ sizeLine) :
    Inv X pins σ (upd H l (.lst ys)) { s with heap := s.heap.update l (Obj.mapSeq f), toks := t' } := by
  have q := PySem.IsL.update e f
  rw [hf] at q
  refine I.write (x := l) (e := l) (by rw [hH]; exact trivial) (.inl rfl) (fun b' u hb hu => (Heap.get?_update_other s.heap (Obj.mapSeq f) (Ne.symm hb)).trans hu) ⟨_, q⟩ ?_
  exact ⟨hz, its', _, hv, q⟩
theorem Inv.fresh (I : Inv X pins σ H s) : H s.heap.objs.size = none := I.hok.fresh (Nat.le_refl _)
theorem Inv.lstM (I : Inv X pins σ H s) (hH : H l = some (.lst xs)) : xs.length ≤ sizeLine ∧ ∃ (its : List Value) (n : Nat), Vals xs its ∧ xs.length = its.length ∧ s.heap.get? l = some { cls := .type "list", data := .seq its.toArray n } := by
  obtain ⟨z, its, n, r, e⟩ := I.hok l _ hH
  exact ⟨z, its, n, r, r.length, e⟩

end

section
variable {X : Cx}

def qb : V → List V → Hp → VK → Prop := fun x vs H Q => ∃ l xs y, x = .ref l ∧ vs = [y] ∧ H l = some (.lst xs) ∧ xs.length < sizeLine ∧ Q .non (upd H l (.lst (xs ++ [y])))
theorem jH : MtM X "list.append" qb := by
  intro pins s σ H x vs v us Q I rx rv h
  obtain ⟨l, xs, y, rfl, rfl, hH, hz, q⟩ := h
  cases rx
  obtain ⟨u, rfl, ru⟩ := rv.one
  obtain ⟨z, its, n, r, hl, e⟩ := I.lstM hH
  refine call_meets F.slot_list_append ⟨_, e, rfl⟩ F.entry_list_append (F.args_list_append_2 _ _) (PySem.list_append l its.toArray n u (by rw [List.size_toArray]; omega)) ⟨e, ?_⟩
  refine ⟨.non, _, I.lset (its' := its ++ [u]) hH e (by simp) (r.append (.cons ru .nil)) ?_, rfl, q⟩
  rw [List.length_append, List.length_singleton]
  omega

def vt : V → List V → Hp → VK → Prop := fun x vs H Q => ∃ l xs y, x = .ref l ∧ vs = [] ∧ H l = some (.lst xs) ∧ xs[xs.length - 1]? = some y ∧ Q y (upd H l (.lst xs.dropLast))
theorem vN : MtM X "list.pop" vt := by
  intro pins s σ H x vs v us Q I rx rv h
  obtain ⟨l, xs, y, rfl, rfl, hH, hy, q⟩ := h
  cases rx
  have hus := rv.zero
  subst hus
  obtain ⟨z, its, n, r, hl, e⟩ := I.lstM hH
  obtain ⟨u, hu, ru⟩ := r.get hy
  have hy' : its.toArray[its.toArray.size - 1]? = some u := by
    show its.toArray[its.length - 1]? = some u
    rw [← Array.getElem?_toList, ← hl]
    exact hu
  refine call_meets F.slot_list_pop ⟨_, e, rfl⟩ F.entry_list_pop (F.args_list_pop_1 _) (MeetsSeq.list_pop_last l its.toArray n u hy' (by rw [List.size_toArray]; omega)) ⟨e, ?_⟩
  refine ⟨y, _, I.lset (its' := its.dropLast) hH e ?_ r.dropLast ?_, ru, q⟩
  · show its.toArray.eraseIdxIfInBounds (its.toArray.size - 1) = its.dropLast.toArray
    rw [List.size_toArray, List.eraseIdxIfInBounds_toArray, qE]
  · rw [List.length_dropLast]
    omega

end

section
variable {prog : Program} {w : World} {A : Around} {E : Value → Shared → Prop} {s : Shared}
end

section
variable {X : Cx}
end
end L2

namespace Att
open PySem PySem.W PySem.Calls PyProof.Rows

theorem mP {P : Params} {h : Heap} : ∀ (ns : List Int) (vs : List Value), WellAll P h vs (ns.map WData.int) → IntsAre vs ns := by
  intro ns
  induction ns with
  | nil =>
    intro vs w
    rw [List.map_nil] at w
    cases w
    exact .nil
  | cons n ns ih =>
    intro vs w
    rw [List.map_cons] at w
    cases w with
    | cons a b =>
      cases a
      exact .cons _ _ (ih _ b)

theorem rT {l : OpenLaw} {n : Nat} (hn : l.most = some n) {P : Params} {h : Heap} {args : List WData} {vals : List Value}
    (hpre : l.row.toRowW.claim.pre args = true) (hwl : WellAll P h vals args) :
    ∃ a vs ns, vals = [Value.ref a] ∧ args = [WData.list (ns.map WData.int)] ∧ h.get? a = some { cls := .type "list", data := .seq vs.toArray } ∧ IntsAre vs ns ∧ ns.length ≤ n := by
  have hsh : WShape.hasAll [] args [.list .int] = true := (pre_splitW hpre).1
  have hc : l.pre.holds [] { args := args } = true := (pre_splitW hpre).2
  obtain ⟨d, r, rfl, h1, h2⟩ := hasAllW_cons hsh
  obtain rfl := hasAllW_nil h2
  obtain ⟨xs, rfl, h3⟩ := hasW_list h1
  obtain ⟨ns, rfl⟩ := items_int h3
  have hlen : ns.length ≤ n := by
    unfold OpenLaw.pre at hc
    have h4 : (WTm.not (.lt (.lit (.int (n : Int))) (.len (.arg 0)))).holds [] { args := [.list (ns.map .int)] } = true := by
      have h4 := (holds_andW hc).1
      rw [hn] at h4
      exact h4
    have h5 := condW_of h4 (w_not (w_lt w_lit (w_len_list (w_arg rfl))))
    rw [List.length_map] at h5
    refine Nat.le_of_not_lt fun q => ?_
    have q' : (n : Int) < ((ns.length : Nat) : Int) := by omega
    first
      | (rw [decide_eq_true q'] at h5; exact absurd h5 (by decide))
      | (simp at h5; omega)
  cases hwl with
  | cons w1 w2 =>
    cases w2
    cases w1 with
    | list ho hall => exact ⟨_, _, ns, rfl, rfl, ho, mP ns _ hall, hlen⟩

theorem rM (l : OpenLaw) (args : List WData) : l.row.toRowW.claim.post args (.bool true) args = true :=
  postW_of (r := l.row.toRowW) (X := (true == true))
    (show WShape.has [] (.bool true) .bool = true by first | rfl | decide | simp [WShape.has, WShape.arms, WShape.armsAll])
    (show (WTm.eq .res (.lit (.bool true))).value [] { args := args, res := some (.bool true), after := args } = some (.bool (true == true)) from w_eq_bool (w_res rfl) w_lit) rfl

theorem attach_call {l : OpenLaw} {n : Nat} {q : Program} {loose : List Str} {XP : (Str → Option Value) → Heap → Prop} {YP : World → Heap → Prop} {d : DefRec}
    (hn : l.most = some n) (hdf : d.params.defaults = [])
    (call : ∀ (w : World) (s₀ s₁ : Shared) (mg mb : Str → Option Value) (fa : Addr) (o : Obj) (pm cd doc : Value) (a : Addr) (vs : List Value) (ns : List Int),
      Ground q loose [] XP w s₀ mg mb s₁.heap → YP w s₁.heap →
      s₁.heap.get? fa = some o → o.data = .func (docDef d.name d.params d.body d.scope pm cd doc) → s₁.heap.CodeRec cd d.name → mg d.name = some (.ref fa) →
      s₁.heap.get? a = some { cls := .type "list", data := .seq vs.toArray } → IntsAre vs ns → ns.length ≤ n → s₁.gens = #[] →
      codeAny (model l.prog w) callerA (.call (.ref fa) ⟨[.ref a], []⟩) (fun r s' => r = .ok (.ret (.bool true)) ∧ OldK s₁.heap s'.heap ∧ s'.os = s₁.os ∧ AllBare s'.gens) s₁) :
    WalkO q loose XP YP l.row.toRowW d [] (fun f vs => PySem.call f vs) := by
  intro w s₀ s₁ mg mb G Y fa o pm cd doc dV kV ho hd hcd hD hmg hg args vals as hpre hlay hrd hwl hlo
  obtain rfl : dV = .none := Dflts.none hD hdf
  obtain rfl : kV = .none := Dflts.noKw hD
  obtain ⟨a, vs, ns, rfl, rfl, hobj, hints, hlen⟩ := rT hn hpre hwl
  refine enter_call (codeAny_mono (call w s₀ s₁ mg mb fa o pm cd doc a vs ns G Y ho (fd_plain hd) hcd hmg hobj hints hlen hg) fun r s' hq => ?_)
  obtain ⟨rfl, h2, h3, h4⟩ := hq
  exact ⟨.inl ⟨.bool true, .bool true, [], rfl, fun _ => rfl, .bool true, rM l _, fun _ => ⟨List.Pairwise.nil, fun _ hm => (nomatch hm)⟩⟩, h2, h3, h4⟩

section
variable {prog : Program} {w : World} {A : Around} {E : Value → Shared → Prop} {s : Shared} {K : Frag}

end
end Att

namespace L2
open PySem PySem.Spec PyProof.Rows

theorem kX : ∀ {vs : List Value} {ns : List Int}, IntsAre vs ns → Vals (ns.map V.int) vs
  | _, _, .nil => .nil
  | _, _, .cons n t h => .cons ⟨t, rfl⟩ (kX h)

def tT (H : Hp) : Prop := ∀ b, H b = none ∨ ∃ o xs, H b = some (.frz o (.lst xs))

theorem tN {P : Program} {w : World} {K : PySem.W.Frag} {mg mb : Str → Option Value} {CX : CXT} {k : Nat} {fa a : Addr} {fd : FuncData} {x : Str} {sp : Sp} {s₁ : Shared} {vs : List Value} {ns : List Int}
    (KX : K.In s₁.heap) (hns : s₁.heap.Ns mainGlobals mg) (hb : s₁.heap.Ns builtinsNs mb) (hbb : ∀ x : Str, x ≠ "__name__" → mb x = bootBuiltins x) (hlim : s₁.heap.NoLimit) (hg : s₁.gens = #[])
    (ha : s₁.heap.get? a = some { cls := .type "list", data := .seq vs.toArray }) (hi : IntsAre vs ns) (hl : ns.length ≤ sizeLine) (hr : Room k callerA)
    (F : ∀ base : Heap, K.In base → base.Ns mainGlobals mg → FnOk P w K mg base CX k fa fd [x] sp) (hbind : ∀ (s : Shared) (u : Value), BindsTo s fd ⟨[u], []⟩ [(x, u)])
    (hsp : ∀ H : Hp, tT H → SqL K H a (ns.map V.int) → sp [.ref a] H (fun v _ => v = .bl true) fun _ _ _ => False)
    (hCX : ∀ H e s', CX [] H s₁ (fun _ _ _ => False) e s' → False) :
    codeAny (model P w) callerA (.call (.ref fa) ⟨[.ref a], []⟩) (fun r s' => r = .ok (.ret (.bool true)) ∧ OldK s₁.heap s'.heap ∧ s'.os = s₁.os ∧ AllBare s'.gens) s₁ := by
  have rv := kX hi
  have lenV := hi.length
  -- from an abstract heap in which nothing but the script may be tracked
  have core : ∀ H : Hp, tT H → SqL K H a (ns.map V.int) → HOk P w H s₁.heap → (∀ b, H b ≠ none → b = a) → (H a ≠ none → K.lookup a = none) →
      codeAny (model P w) callerA (.call (.ref fa) ⟨[.ref a], []⟩) (fun r s' => r = .ok (.ret (.bool true)) ∧ OldK s₁.heap s'.heap ∧ s'.os = s₁.os ∧ AllBare s'.gens) s₁ := by
    intro H hO hS hok hA hK
    have base_of : ∀ {b : Addr} {o : Obj}, s₁.heap.get? b = some o → H b = none → (kP s₁.heap H).get? b = some o := fun e n => tM e n
    have noA : ∀ {b : Addr} {o : Obj} {es : Array DictEntry} {ep : Nat}, s₁.heap.get? b = some o → o.data = .dict es ep → H b = none := fun {b o es ep} e d => by
      cases q : H b with
      | none => rfl
      | some u =>
        have e' : b = a := hA b (by rw [q]; simp)
        subst e'
        rw [ha] at e; cases e
        have d' : Data.seq vs.toArray _ = Data.dict es ep := d
        cases d'
    have nsK : ∀ {b : Addr} {m : Str → Option Value}, s₁.heap.Ns b m → (kP s₁.heap H).Ns b m := fun {b m} ⟨o, es, ep, e, d, r⟩ => ⟨o, es, ep, base_of e (noA e d), d, r⟩
    have hKb : K.In (kP s₁.heap H) := fun b o e => base_of (KX b o e) (by
      cases q : H b with
      | none => rfl
      | some u =>
        have e' : b = a := hA b (by rw [q]; simp)
        subst e'
        rw [hK (by rw [q]; simp)] at e; cases e)
    have hM : Mod K mg (kP s₁.heap H) := ⟨hKb, nsK hns, ⟨mb, nsK hb, hbb⟩, let ⟨mc, h1, h2⟩ := hlim; ⟨mc, nsK h1, h2⟩⟩
    have e0 : Env0 P w K mg (kP s₁.heap H) callerA [] s₁ H := ⟨rfl, hM, fun b o e => uQ e, Nat.le_of_eq (rG _ _), trivial, fun b hb => absurd (show b ∈ ([] : List Addr) from hb) (by simp), hok, .of_eq hg⟩
    refine codeAny_mono ((F _ hKb (nsK hns)).run callerA [] s₁ H ⟨[.ref a], []⟩ [.ref a] [.ref a] _ _ hr e0 (hbind s₁ (.ref a)) (.cons rfl .nil) (hsp H hO hS)) fun r s' h => ?_
    cases r with
    | error e => exact (hCX H e s' h).elim
    | ok fl =>
      cases fl with
      | next => exact False.elim h
      | brk => exact False.elim h
      | cont => exact False.elim h
      | ret u =>
        obtain ⟨v, H', os, bare, un, hok', r', q⟩ := h
        have q' : v = .bl true := q
        subst q'
        obtain rfl : u = Value.bool true := r'
        refine ⟨rfl, OldK.of_keep fun b o e => ?_, os, bare⟩
        cases q : H b with
        | none => exact un.keep b o e q (by intro z; exact absurd (show b ∈ ([] : List Addr) from z) (by simp)) (by simp)
        | some u =>
          rcases hO b with z | ⟨ob, xs, z⟩
          · rw [q] at z; cases z
          · have z2 := un.frzs b ob _ z
            obtain ⟨e1, _⟩ := hok b _ z
            obtain ⟨e2, _⟩ := hok' b _ z2
            rw [e] at e1; cases e1
            exact e2
  cases hk : K.lookup a with
  | some o =>
    -- the script is one of the module's own objects
    have e := KX a o hk
    rw [ha] at e
    cases e
    refine core (fun _ => none) (fun _ => .inl rfl) (.inr ⟨_, vs.toArray, _, hk, rfl, rfl, rfl, by rw [List.size_toArray, lenV]; exact hl, by simpa using rv⟩) (fun b u z => by have z' : (none : Option HO) = some u := z; cases z') (fun b z => absurd rfl z) fun z => absurd rfl z
  | none =>
    refine core (fun b => if b = a then some (.frz { cls := .type "list", data := .seq vs.toArray } (.lst (ns.map V.int))) else none) (fun b => ?_) (.inl (.inr ⟨{ cls := .type "list", data := .seq vs.toArray }, if_pos rfl⟩)) (fun b u z => ?_) (fun b z => ?_) fun _ => hk
    · by_cases hb : b = a
      · exact .inr ⟨_, _, if_pos hb⟩
      · exact .inl (if_neg hb)
    · by_cases hb : b = a
      · have z' := (if_pos hb).symm.trans z
        cases z'
        subst hb
        exact ⟨ha, by rw [List.length_map]; exact hl, vs, _, rv, ha⟩
      · have z' := (if_neg hb).symm.trans z
        cases z'
    · by_cases hb : b = a
      · exact hb
      · exact absurd (if_neg hb) z
end L2

namespace L2
open PySem PySem.Spec PyProof.Rows

theorem walk_of {l : PySem.W.OpenLaw} {n k : Nat} {q : Program} {loose : List Str} {XP : (Str → Option Value) → Heap → Prop} {YP : World → Heap → Prop} {d : DefRec} {K : Params → PySem.W.Frag} {CX : World → CXT} {sp : World → Sp} {x : Str}
    (hn : l.most = some n) (hn2 : n ≤ sizeLine) (hdf : d.params.defaults = []) (hr : Room k callerA)
    (hY : ∀ (w : World) (h : Heap), YP w h → (K w.params).In h)
    (F : ∀ (w : World) (mg : Str → Option Value) (fa : Addr) (h : Heap), (K w.params).In h → h.Ns mainGlobals mg → mg d.name = some (.ref fa) →
      ∃ fd : FuncData, (∀ (s : Shared) (u : Value), BindsTo s fd ⟨[u], []⟩ [(x, u)]) ∧
        ∀ base : Heap, (K w.params).In base → base.Ns mainGlobals mg → FnOk l.prog w (K w.params) mg base (CX w) k fa fd [x] (sp w))
    (hsp : ∀ (w : World) (H : Hp) (a : Addr) (ns : List Int), ns.length ≤ n → tT H → SqL (K w.params) H a (ns.map V.int) → sp w [.ref a] H (fun v _ => v = .bl true) fun _ _ _ => False)
    (hCX : ∀ (w : World) (H : Hp) (s : Shared) (e : Value) (s' : Shared), CX w [] H s (fun _ _ _ => False) e s' → False) :
    PySem.W.WalkO q loose XP YP l.row.toRowW d [] (fun f vs => PySem.call f vs) := by
  refine Att.attach_call hn hdf fun w s₀ s₁ mg mb fa o pm cd doc a vs ns G Y ho hd hcd hmg hobj hints hlen hg => ?_
  have KX := hY w _ Y
  obtain ⟨fd, hb, hF⟩ := F w mg fa _ KX G.T.g hmg
  exact tN KX G.T.g G.T.b G.T.builtins G.T.nolimit hg hobj hints (Nat.le_trans hlen hn2) hr hF hb (fun H hO hS => hsp w H a ns hlen hO hS) fun H e s' => hCX w H s₁ e s'
end L2


namespace L2
open PySem PySem.Spec PyProof.Rows

def defArgs (s : Stmt) : Arguments := match s with
  | .FunctionDef _ a _ _ _ _ _ _ _ _ => a
  | _ => { posonlyargs := [], args := [], vararg := none, kwonlyargs := [], kw_defaults := [], kwarg := none, defaults := [] }
def defBody (s : Stmt) : List Stmt := match s with
  | .FunctionDef _ _ b _ _ _ _ _ _ _ => b
  | _ => []
def defScope (s : Stmt) : Scope := match s with
  | .FunctionDef _ _ _ _ _ _ sc _ _ _ => sc
  | _ => { kind := .function, names := [], isGenerator := false, isCoroutine := false }

abbrev CX0 : CXT := fun _ _ _ _ _ _ => False
abbrev E0 : XK := fun _ _ _ => False
theorem we {X : Cx} : mQ CX0 X E0 := fun _ _ _ _ _ _ _ h => h.elim

structure Fun (K : PySem.W.Frag) (x qual : Str) (st : Stmt) (f : Addr) (fd : FuncData) : Prop where
  ex : ∃ (oc : Value) (od : Option Addr) (kV doc pm : Value) (an : Option Addr) (cdv ct : Value) (osl : Array (Option Value)),
    fd = PySem.W.fnOf x qual (defArgs st) (defBody st) (defScope st) .none kV doc pm an cdv ct ∧ K.lookup f = some ⟨oc, od, .func fd, osl⟩ ∧ PySem.W.codeIn K cdv qual = true
  kp : PySem.W.keepIn K (.ref f) = true
section
variable {P : Program} {w : World} {K : PySem.W.Frag} {mg : Str → Option Value} {base : Heap}
theorem Fun.ok {x qual : Str} {st : Stmt} {f : Addr} {fd : FuncData} {N ps : List Str} {k : Nat} {sp : Sp} (F : Fun K x qual st f fd) (S : FnScope N ps (defScope st)) (len : ∀ vs H Q E, sp vs H Q E → vs.length = ps.length)
    (hbody : ∀ (cdv : Value) (A : Around) (outer : List Env) (s : Shared) (H : Hp) (vs : List V) (Q : VK) (E : XK), Room k (A.deeper (envOfC qual (defScope st) s.heap.objs.size f cdv)) → sp vs H Q E →
      ∃ t, PSs (lR CX0 P w K mg base N qual (defScope st) f cdv A outer s H E).nox (defBody st) t ∧ t { nx := fun _ H' => Q .non H', rt := Q } (start N vs) H) : FnOk P w K mg base CX0 (k + 1) f fd ps sp := by
  obtain ⟨oc, od, kV, doc, pm, an, cdv, ct, osl, rfl, lk, hcd⟩ := F.ex
  refine vV lk hcd S len fun A outer s H vs Q E hr hsp => ?_
  obtain ⟨t, h, q⟩ := hbody cdv A outer s H vs Q E hr hsp
  exact ⟨t, h.nox, q⟩
theorem Fun.binds {x qual : Str} {st : Stmt} {f : Addr} {fd : FuncData} {ps : List Str} (F : Fun K x qual st f fd)
    (h : ∀ (kV doc pm : Value) (an : Option Addr) (cdv ct : Value) (us : List Value), us.length = ps.length → bindArgs (PySem.W.fnOf x qual (defArgs st) (defBody st) (defScope st) .none kV doc pm an cdv ct) ⟨us, []⟩ = pure (ps.zip us)) : Binds K fd ps [] := by
  obtain ⟨oc, od, kV, doc, pm, an, cdv, ct, osl, rfl, lk, hcd⟩ := F.ex
  exact .all (h kV doc pm an cdv ct)
theorem ju {x qual : Str} {st : Stmt} {f : Addr} {oc : Value} {od an : Option Addr} {osl : Array (Option Value)} {kV doc pm cdv ct : Value} (l : K.lookup f = some ⟨oc, od, .func (PySem.W.fnOf x qual (defArgs st) (defBody st) (defScope st) .none kV doc pm an cdv ct), osl⟩)
    (c : PySem.W.codeIn K cdv qual = true) (k : PySem.W.keepIn K (.ref f) = true) : Fun K x qual st f (PySem.W.fnOf x qual (defArgs st) (defBody st) (defScope st) .none kV doc pm an cdv ct) := ⟨⟨oc, od, kV, doc, pm, an, cdv, ct, osl, rfl, l, c⟩, k⟩
end
theorem jU {A : Around} {k : Nat} (hr : Room k A) : A.units + 1 < cLine := Nat.lt_of_le_of_lt (Nat.add_le_add_left (by decide : 1 ≤ 64) _) hr.units
section
variable {X : Cx}
theorem pv (i : Nat) {x : Str} {pos : Pos} (hN : X.N[i]? = some x := by rfl) (hv : Vis X.env.scope x := by first | exact Or.inl rfl | exact Or.inr (Or.inl rfl) | exact Or.inr (Or.inr rfl)) (hd : (x == ("__debug__" : Str)) = false := by decide)
    (hcd : (x == ("__classdict__" : Str)) = false := by decide) : PE X (.Name x pos) (sZ i) := cg hN hv hd hcd
end

def Same (H H' : Hp) : Prop := ∀ b o, H b = some o → H' b = some o
theorem Same.refl (H : Hp) : Same H H := fun _ _ h => h
theorem Same.trans {H H1 H2 : Hp} (a : Same H H1) (b : Same H1 H2) : Same H H2 := fun c o h => b c o (a c o h)
theorem Same.free {H H' : Hp} (e : Same H H') {l : Addr} (h : H' l = Option.none) : H l = Option.none := by
  cases q : H l with
  | none => rfl
  | some o =>
    rw [e l o q] at h
    cases h
theorem Same.seq {K : PySem.W.Frag} {H H' : Hp} {a : Addr} {xs : List V} (e : Same H H') (h : SqL K H a xs) : SqL K H' a xs := by
  rcases h with (h | ⟨o, h⟩) | h
  · exact .inl (.inl (e _ _ h))
  · exact .inl (.inr ⟨o, e _ _ h⟩)
  · exact .inr h

end L2

set_option Elab.async false
set_option linter.all false
set_option maxRecDepth 100000
namespace L2
open PySem PySem.Spec PyProof.Rows

structure Cal (P : Program) (w : World) (K : PySem.W.Frag) (mg : Str → Option Value) (base : Heap) (CX : CXT) (x : Str) (k : Nat) (ps : List Str) (sp : Sp) : Prop where
  ex : ∃ f fd, FnOk P w K mg base CX k f fd ps sp ∧ Binds K fd ps [] ∧ PySem.W.keepIn K (.ref f) = true ∧ mg x = some (.ref f)

section
variable {X : Cx} {CX : CXT} {x : Str} {j k : Nat} {ps : List Str} {sp : Sp} {E : XK} {p pos : Pos} {e : Expr} {es : List Expr} {t : TA}
theorem sJ (C : Cal X.prog X.w X.K X.mg X.base CX x j ps sp) (hr : Room k X.A) (hg : Gl X x) (hx : mQ CX X E) (ha : PA X (e :: es) t) (hj : j ≤ k := by decide) (hdb : (x == ("__debug__" : Str)) = false := by decide)
    (he : starEach (e :: es) X.env = (false, eval e X.env) :: starEach es X.env := by rfl) (hpl : (backTo pos (starEach es X.env)).any (·.1) = false := by rfl) :
    PE X (.Call (.Name x p) (e :: es) [] pos) (nV sp [] E t) := by
  obtain ⟨f, fd, F, b, kp, m⟩ := C.ex
  exact uO F (hr.mono hj) hg m kp b .nil hx ha hdb he hpl
theorem jc (C : Cal X.prog X.w X.K X.mg X.base CX0 x j ps sp) (hr : Room k X.A) (hg : Gl X x) (ha : PA X (e :: es) t) (hj : j ≤ k := by decide) (hdb : (x == ("__debug__" : Str)) = false := by decide)
    (he : starEach (e :: es) X.env = (false, eval e X.env) :: starEach es X.env := by rfl) (hpl : (backTo pos (starEach es X.env)).any (·.1) = false := by rfl) :
    PE X (.Call (.Name x p) (e :: es) [] pos) (nV sp [] E0 t) := sJ C hr hg we ha hj hdb he hpl
end

inductive Kn where
  | non | bl | int | str | lst | tup | dct
def tyK (T : String) : Option Kn :=
  if T = "int" then some .int else if T = "bool" then some .bl else if T = "str" then some .str else if T = "list" then some .lst else if T = "tuple" then some .tup else none
theorem uJ : tyK "int" = some .int := rfl
theorem sI : tyK "bool" = some .bl := rfl
theorem uP : tyK "str" = some .str := rfl
theorem sO : tyK "list" = some .lst := rfl
theorem sy : tyK "tuple" = some .tup := rfl
def jd : Kn → Kn → Bool
  | .int, .int => true
  | .bl, .int => true
  | .bl, .bl => true
  | .str, .str => true
  | .lst, .lst => true
  | .tup, .tup => true
  | _, _ => false
def uX (a : Addr) : HO := .ext fun h => ∃ o, h.get? a = some o ∧ o.cls = .type "dict"
def Kd (K : PySem.W.Frag) (H : Hp) : V → Kn → Prop
  | .non, k => k = .non
  | .bl _, k => k = .bl
  | .int _, k => k = .int
  | .str _, k => k = .str
  | .ref a, k => (k = .lst ∧ ∃ xs, SqL K H a xs) ∨ (k = .tup ∧ ∃ xs, SqT K H a xs) ∨ (k = .dct ∧ H a = some (uX a))
  | _, _ => False
def uT (K : PySem.W.Frag) : List V → Hp → VK → Prop := fun xs H Q => ∃ x T kt k, xs = [x, .ty T] ∧ tyK T = some kt ∧ Kd K H x k ∧ Q (.bl (jd k kt)) H
theorem tP {T : String} {kt : Kn} (h : tyK T = some kt) : (T = "int" ∧ kt = .int) ∨ (T = "bool" ∧ kt = .bl) ∨ (T = "str" ∧ kt = .str) ∨ (T = "list" ∧ kt = .lst) ∨ (T = "tuple" ∧ kt = .tup) := by
  unfold tyK at h
  split at h
  · next e => exact .inl ⟨e, (Option.some.inj h).symm⟩
  split at h
  · next e => exact .inr (.inl ⟨e, (Option.some.inj h).symm⟩)
  split at h
  · next e => exact .inr (.inr (.inl ⟨e, (Option.some.inj h).symm⟩))
  split at h
  · next e => exact .inr (.inr (.inr (.inl ⟨e, (Option.some.inj h).symm⟩)))
  split at h
  · next e => exact .inr (.inr (.inr (.inr ⟨e, (Option.some.inj h).symm⟩)))
  · cases h
section
variable {X : Cx}
theorem jX : jE X (.builtin "isinstance") (uT X.K) := by
  intro pins s σ H xs us Q I r h
  obtain ⟨x, T, kt, k, rfl, ht, hk, q⟩ := h
  obtain ⟨u, w', rfl, rx, rt⟩ := vals2 r
  obtain rfl : w' = Value.type T := rt
  have f1 : EP X pins σ Q (.bool (jd k kt)) s := ⟨.bl _, H, I, rfl, q⟩
  have f2 : EP X pins σ Q (.bool (jd k kt)) { s with toks := s.toks + 1 } := ⟨.bl _, H, I.tok _, rfl, q⟩
  have hT := tP ht
  clear ht q
  cases x with
  | non =>
    obtain rfl : u = Value.none := rx
    obtain rfl : k = .non := hk
    rcases hT with ⟨rfl, rfl⟩ | ⟨rfl, rfl⟩ | ⟨rfl, rfl⟩ | ⟨rfl, rfl⟩ | ⟨rfl, rfl⟩
    · exact IsiPair.NoneType_int f2
    · exact IsiPair.NoneType_bool f2
    · exact IsiPair.NoneType_str f2
    · exact IsiPair.NoneType_list f2
    · exact IsiPair.NoneType_tuple f2
  | bl b =>
    obtain rfl : u = Value.bool b := rx
    obtain rfl : k = .bl := hk
    rcases hT with ⟨rfl, rfl⟩ | ⟨rfl, rfl⟩ | ⟨rfl, rfl⟩ | ⟨rfl, rfl⟩ | ⟨rfl, rfl⟩
    · first | exact IsiPair.bool_int f1 | exact IsiPair.bool_int f2
    · exact IsiPair.bool_bool f1
    · exact IsiPair.bool_str f2
    · exact IsiPair.bool_list f2
    · exact IsiPair.bool_tuple f2
  | int i =>
    obtain ⟨t, rfl⟩ := rx
    obtain rfl : k = .int := hk
    rcases hT with ⟨rfl, rfl⟩ | ⟨rfl, rfl⟩ | ⟨rfl, rfl⟩ | ⟨rfl, rfl⟩ | ⟨rfl, rfl⟩
    · exact IsiPair.int_int f1
    · exact IsiPair.int_bool f2
    · exact IsiPair.int_str f2
    · exact IsiPair.int_list f2
    · exact IsiPair.int_tuple f2
  | str z =>
    obtain ⟨t, rfl⟩ := rx
    obtain rfl : k = .str := hk
    rcases hT with ⟨rfl, rfl⟩ | ⟨rfl, rfl⟩ | ⟨rfl, rfl⟩ | ⟨rfl, rfl⟩ | ⟨rfl, rfl⟩
    · exact IsiPair.str_int f2
    · exact IsiPair.str_bool f2
    · exact IsiPair.str_str f1
    · exact IsiPair.str_list f2
    · exact IsiPair.str_tuple f2
  | ref a =>
    obtain rfl : u = Value.ref a := rx
    rcases hk with ⟨rfl, xs, hq⟩ | ⟨rfl, xs, hq⟩ | ⟨rfl, hq⟩
    · obtain ⟨its, _, ⟨o, n, e, c, _, _⟩, _⟩ := I.list hq
      rcases hT with ⟨rfl, rfl⟩ | ⟨rfl, rfl⟩ | ⟨rfl, rfl⟩ | ⟨rfl, rfl⟩ | ⟨rfl, rfl⟩
      · exact IsiPair.list_int e c f2
      · exact IsiPair.list_bool e c f2
      · exact IsiPair.list_str e c f2
      · exact IsiPair.list_list e c f1
      · exact IsiPair.list_tuple e c f2
    · obtain ⟨its, _, ⟨o, e, c, _⟩, _⟩ := I.tuple hq
      rcases hT with ⟨rfl, rfl⟩ | ⟨rfl, rfl⟩ | ⟨rfl, rfl⟩ | ⟨rfl, rfl⟩ | ⟨rfl, rfl⟩
      · exact IsiPair.tuple_int e c f2
      · exact IsiPair.tuple_bool e c f2
      · exact IsiPair.tuple_str e c f2
      · exact IsiPair.tuple_list e c f2
      · exact IsiPair.tuple_tuple e c f1
    · obtain ⟨⟨o, e, c⟩, _⟩ := I.hok a _ hq
      rcases hT with ⟨rfl, rfl⟩ | ⟨rfl, rfl⟩ | ⟨rfl, rfl⟩ | ⟨rfl, rfl⟩ | ⟨rfl, rfl⟩
      · exact IsiPair.dict_int e c f2
      · exact IsiPair.dict_bool e c f2
      · exact IsiPair.dict_str e c f2
      · exact IsiPair.dict_list e c f2
      · exact IsiPair.dict_tuple e c f2
  | _ => exact False.elim hk
end

section
variable {X : Cx} {tg : Expr}
end
def rq (J : It) (g : TG) (tb : TS) (D : Ends) (σ : St) (H : Hp) : Prop := ∃ W : Nat → Nat → St → Hp → Prop, (∃ m, W 0 m σ H) ∧ ∀ i m σ H, W i m σ H →
  (J.stop i H ∧ D.nx σ H) ∨ (J.go i H ∧ ∃ N : St → Hp → Prop, (∀ σ' H', N σ' H' → ∃ m', m' < m ∧ W (i + 1) m' σ' H') ∧ ∀ x H', J.yld i H x H' → g x σ H' fun σ2 H2 => tb { D with nx := N, ct := N, bk := D.nx } σ2 H2)
theorem uw {wi : TI} {g : TG} {tb : TS} {D : Ends} {σ : St} {H : Hp} : u5 wi g tb D σ H = wi σ H fun J H1 => rq J g tb D σ H1 := rfl
section
variable {K : PySem.W.Frag} {a : Addr} {xs : List V} {g : TG} {tb : TS} {D : Ends} {σ : St} {H : Hp} {lo : Int} {n : Nat}
theorem ko (xs : List V) (Pv : Nat → St → Hp → Prop) (h0 : Pv 0 σ H) (hl : ∀ i σ H, i ≤ xs.length → Pv i σ H → SqL K H a xs)
    (hs : ∀ i x σ H, xs[i]? = some x → Pv i σ H → g x σ H fun σ2 H2 => tb { D with nx := Pv (i + 1), ct := Pv (i + 1), bk := D.nx } σ2 H2) (hd : ∀ σ H, Pv xs.length σ H → D.nx σ H) : rq (Itl K a) g tb D σ H := sY Pv h0 hl hs hd
theorem n9 (xs : List V) (Pv : Nat → St → Hp → Prop) (h0 : Pv 0 σ H) (hl : ∀ i σ H, i ≤ xs.length → Pv i σ H → SqT K H a xs)
    (hs : ∀ i x σ H, xs[i]? = some x → Pv i σ H → g x σ H fun σ2 H2 => tb { D with nx := Pv (i + 1), ct := Pv (i + 1), bk := D.nx } σ2 H2) (hd : ∀ σ H, Pv xs.length σ H → D.nx σ H) : rq (Itt K a) g tb D σ H := uz Pv h0 hl hs hd
theorem jS (Pv : Nat → St → Hp → Prop) (h0 : Pv 0 σ H)
    (hs : ∀ i σ H, i < n → Pv i σ H → g (.int (lo + i)) σ H fun σ2 H2 => tb { D with nx := Pv (i + 1), ct := Pv (i + 1), bk := D.nx } σ2 H2) (hd : ∀ σ H, Pv n σ H → D.nx σ H) : rq (Itr lo n) g tb D σ H := sC Pv h0 hs hd
end

structure Bits (n : Nat) (i : Int) : Prop where
  lt : i.natAbs < 2 ^ n
theorem Bits.mono {m n : Nat} {i : Int} (h : Bits m i) (le : m ≤ n) : Bits n i := ⟨Nat.lt_of_lt_of_le h.lt (Nat.pow_le_pow_right (by decide) le)⟩
theorem Bits.add {n : Nat} {i j : Int} (h : Bits n i) (h' : Bits n j) : Bits (n + 1) (i + j) := ⟨by
  have := Int.natAbs_add_le i j
  have := h.lt
  have := h'.lt
  rw [Nat.pow_succ]
  omega⟩
theorem Bits.neg {n : Nat} {i : Int} (h : Bits n i) : Bits n (-i) := ⟨by rw [Int.natAbs_neg]; exact h.lt⟩
theorem Bits.sub {n : Nat} {i j : Int} (h : Bits n i) (h' : Bits n j) : Bits (n + 1) (i - j) := by
  rw [Int.sub_eq_add_neg]
  exact h.add h'.neg
theorem Bits.of {n : Nat} {i b : Int} (lo : -b ≤ i) (hi : i ≤ b) (hb : b < ((2 ^ n : Nat) : Int)) : Bits n i := ⟨by omega⟩
theorem Bits.bits {n : Nat} {i : Int} (h : Bits n i) : Builtin.Int.intBits i ≤ n := by
  unfold Builtin.Int.intBits
  split
  · exact Nat.zero_le _
  · have q := h.lt
    rcases Nat.eq_zero_or_pos i.natAbs with h0 | hp
    · rw [h0] at q ⊢
      have : (0 : Nat).log2 = 0 := by decide
      rename_i hz
      exact absurd (by simp; omega) hz
    · have := (Nat.log2_lt (Nat.ne_of_gt hp)).mpr q
      omega
def CMulB (i j : Int) : Prop := Bits 100000 i ∧ Bits 100000 j
theorem CMulB.ok {i j : Int} (h : CMulB i j) : IntMulOk i j := IntMulOk.of_bits (Nat.le_trans h.1.bits (by decide)) (Nat.le_trans h.2.bits (by decide))
def CDivB (_ j : Int) : Prop := 0 < j ∧ Bits 8999 j
theorem CDivB.ok {i j : Int} (h : CDivB i j) : Builtin.divisionGoesByPylong i j = false := by
  refine PyProof.noPylong_of_log2 ?_
  have q := h.2.lt
  have := (Nat.log2_lt (n := j.natAbs) (k := 8999) (by have := h.1; omega)).mpr q
  omega
section
variable {X : Cx}
theorem kC : OpR X (binaryOp .Mult) (rI CMulB fun i j => .int (i * j)) := opI fun _ _ _ _ _ _ _ hc q => mul_int q hc.ok
theorem jv : OpR X (binaryOp .FloorDiv) (rI CDivB fun i j => .int (i / j)) := opI fun i j _ _ _ _ _ hc q => by
  have h1 : (0 : Int) < j := hc.1
  exact floordiv_int (by omega) (by rw [Int.fdiv_eq_ediv_of_nonneg i (by omega)]; exact q) (.inl hc.ok)
def ug (t : TA) (ti : TE) : TE := fun σ H Q => t σ H fun xs H1 => xs.length ≤ sizeLine ∧ ti σ H1 fun y H2 => ∃ i v, y = .int i ∧ 0 ≤ i ∧ xs[i.toNat]? = some v ∧ Q v H2
end
section
variable {X : Cx} {es : List Expr} {b : Expr} {t : TA} {ti : TE} {pos p2 : Pos}
theorem qg (h : PA X es t) (hb : PE X b ti) (hs : p5 b) : PE X (.Subscript (.List es p2) b pos) (ug t ti) := by
  intro pins s σ H Q I hq
  refine Subscript_ (wpAny_List_spliced (thn (h p2 pins s σ H _ I hq) fun us s1 ⟨xs, H1, I1, r, z, q⟩ => ⟨by rw [← r.length]; exact z, ?_⟩))
  have hf : H1 s1.heap.objs.size = none := I1.hok.fresh (Nat.le_refl _)
  have I2 : Inv X (pins ++ [(s1.heap.objs.size, { cls := .type "list", data := .seq us.toArray })]) σ H1 { s1 with heap := s1.heap.push { cls := .type "list", data := .seq us.toArray } } := by
    have J : Inv X pins σ H1 { s1 with heap := s1.heap.push { cls := .type "list", data := .seq us.toArray } } := I1.kept (t' := s1.toks) fun b u e => Heap.get?_push_of_some _ e
    refine J.pins_of fun p hp => ?_
    rcases List.mem_append.mp hp with hp | hp
    · exact J.pin p (List.mem_append_right _ hp)
    · have e := List.mem_singleton.mp hp
      subst e
      exact ⟨Heap.get?_push_size _ rfl, hf, Nat.ne_of_gt I1.lt, I1.nofs (Nat.le_refl _), fun v z => by cases z⟩
  refine thn (hb _ _ σ H1 _ I2 q) fun u s2 ⟨y, H2, I3, ry, i, v, e, h0, ha, q2⟩ => ?_
  subst e
  obtain ⟨t', rfl⟩ := ry
  obtain ⟨hp, _⟩ := I3.pin (s1.heap.objs.size, { cls := .type "list", data := .seq us.toArray }) (List.mem_append_right _ (List.mem_append_right _ (List.mem_singleton.mpr rfl)))
  obtain ⟨w, ew, rw'⟩ := r.get ha
  have I4 : Inv X pins σ H2 s2 := I3.pins_of fun p hp => I3.pin p (List.mem_append_right _ (List.mem_append_left _ hp))
  have hl := r.length
  have hn := kJ
  have hi : i.toNat < us.length := (List.getElem?_eq_some_iff.mp ew).1
  have fin : EP X pins σ Q w s2 := ⟨v, H2, I4, rw', q2⟩
  exact item_listR (l := s1.heap.objs.size) ⟨_, hp, rfl, _, rfl⟩ h0 (by omega) (by simpa using ew) fin (hs _ _)
end
theorem qz : jd .non .bl = false := rfl
theorem pW : jd .non .int = false := rfl
theorem pq : jd .non .str = false := rfl
theorem pM : jd .non .lst = false := rfl
theorem pJ : jd .non .tup = false := rfl
theorem sD : jd .bl .bl = true := rfl
theorem qC : jd .bl .int = true := rfl
theorem rB : jd .bl .str = false := rfl
theorem qJ : jd .bl .lst = false := rfl
theorem qQ : jd .bl .tup = false := rfl
theorem qK : jd .int .bl = false := rfl
theorem pX : jd .int .int = true := rfl
theorem pY : jd .int .str = false := rfl
theorem pG : jd .int .lst = false := rfl
theorem pA : jd .int .tup = false := rfl
theorem qw : jd .str .bl = false := rfl
theorem pR : jd .str .int = false := rfl
theorem oY : jd .str .str = true := rfl
theorem oV : jd .str .lst = false := rfl
theorem pP : jd .str .tup = false := rfl
theorem qO : jd .lst .bl = false := rfl
theorem oZ : jd .lst .int = false := rfl
theorem pT : jd .lst .str = false := rfl
theorem pS : jd .lst .lst = true := rfl
theorem oW : jd .lst .tup = false := rfl
theorem qU : jd .tup .bl = false := rfl
theorem pN : jd .tup .int = false := rfl
theorem pQ : jd .tup .str = false := rfl
theorem pC : jd .tup .lst = false := rfl
theorem oX : jd .tup .tup = true := rfl
theorem qN : jd .dct .bl = false := rfl
theorem pD : jd .dct .int = false := rfl
theorem pU : jd .dct .str = false := rfl
theorem pL : jd .dct .lst = false := rfl
theorem pF : jd .dct .tup = false := rfl
theorem vm {K : PySem.W.Frag} {H : Hp} {k : Kn} : Kd K H .non k = (k = .non) := rfl
theorem v8 {K : PySem.W.Frag} {H : Hp} {k : Kn} {b : Bool} : Kd K H (.bl b) k = (k = .bl) := rfl
theorem vR {K : PySem.W.Frag} {H : Hp} {k : Kn} {i : Int} : Kd K H (.int i) k = (k = .int) := rfl
theorem vf {K : PySem.W.Frag} {H : Hp} {k : Kn} {z : Str} : Kd K H (.str z) k = (k = .str) := rfl
theorem Kd.tup {K : PySem.W.Frag} {H : Hp} {a : Addr} {xs : List V} (h : SqT K H a xs) : Kd K H (.ref a) .tup := .inr (.inl ⟨rfl, xs, h⟩)
theorem Kd.lst {K : PySem.W.Frag} {H : Hp} {a : Addr} {xs : List V} (h : SqL K H a xs) : Kd K H (.ref a) .lst := .inl ⟨rfl, xs, h⟩
theorem Kd.dct {K : PySem.W.Frag} {H : Hp} {a : Addr} (h : H a = some (uX a)) : Kd K H (.ref a) .dct := .inr (.inr ⟨rfl, h⟩)
theorem Kd.ref {K : PySem.W.Frag} {H : Hp} {a : Addr} {k : Kn} (h : Kd K H (.ref a) k) : k ≠ .int ∧ k ≠ .bl ∧ k ≠ .str ∧ k ≠ .non := by
  rcases h with ⟨rfl, _⟩ | ⟨rfl, _⟩ | ⟨rfl, _⟩ <;> exact ⟨(by intro z; cases z), (by intro z; cases z), (by intro z; cases z), (by intro z; cases z)⟩
theorem qx : jM .non .non = true := rfl
theorem qo {x2 : Int} : jM .non (.int x2) = true := rfl
theorem qS {x1 : Int} : jM (.int x1) .non = true := rfl
theorem rF {x2 : Bool} : jM .non (.bl x2) = true := rfl
theorem rS {x1 : Bool} : jM (.bl x1) .non = true := rfl
theorem qH {x2 : Str} : jM .non (.str x2) = true := rfl
theorem qW {x1 : Str} : jM (.str x1) .non = true := rfl
theorem qF {x1 : Int} {x2 : Int} : jM (.int x1) (.int x2) = true := rfl
theorem tF {x1 : Bool} {x2 : Bool} : jM (.bl x1) (.bl x2) = true := rfl
theorem qX {x1 : Str} {x2 : Str} : jM (.str x1) (.str x2) = true := rfl
theorem qV {x1 : Int} {x2 : Str} : jM (.int x1) (.str x2) = true := rfl
theorem rm {x1 : Str} {x2 : Int} : jM (.str x1) (.int x2) = true := rfl
theorem rX {x1 : Bool} {x2 : Str} : jM (.bl x1) (.str x2) = true := rfl
theorem rK {x1 : Str} {x2 : Bool} : jM (.str x1) (.bl x2) = true := rfl
theorem cxK {CX : CXT} {P : Program} {w : World} {K : PySem.W.Frag} {mg : Str → Option Value} {base : Heap} {N : List Str} {qual : Str} {scope : Scope} {f : Addr} {cd : Value} {A : Around} {outer : List Env} {s : Shared} {H : Hp} {E : XK} :
    (lR CX P w K mg base N qual scope f cd A outer s H E).K = K := rfl
theorem j5 : bootBuiltins "len" = some (.builtin "len") := by decide +kernel
theorem uc : bootBuiltins "max" = some (.builtin "max") := by decide +kernel
theorem vU : bootBuiltins "min" = some (.builtin "min") := by decide +kernel
theorem jw : bootBuiltins "isinstance" = some (.builtin "isinstance") := by decide +kernel
theorem vX : bootBuiltins "int" = some (.type "int") := by decide +kernel
theorem uW : bootBuiltins "bool" = some (.type "bool") := by decide +kernel
theorem vZ : bootBuiltins "str" = some (.type "str") := by decide +kernel
theorem mC : bootBuiltins "list" = some (.type "list") := by decide +kernel
theorem nh : bootBuiltins "tuple" = some (.type "tuple") := by decide +kernel
theorem qL : bootBuiltins "sum" = some (.builtin "sum") := by decide +kernel
theorem tK : bootBuiltins "sorted" = some (.builtin "sorted") := by decide +kernel
structure Mg (mg : Str → Option Value) : Prop where
  m_len : mg "len" = none
  m_range : mg "range" = none
  m_abs : mg "abs" = none
  m_max : mg "max" = none
  m_min : mg "min" = none
  m_isinstance : mg "isinstance" = none
  m_int : mg "int" = none
  m_bool : mg "bool" = none
  m_str : mg "str" = none
  m_list : mg "list" = none
  m_tuple : mg "tuple" = none
  m_sum : mg "sum" = none
  m_all : mg "all" = none
  m_enumerate : mg "enumerate" = none
  m_zip : mg "zip" = none
  m_ValueError : mg "ValueError" = none
  m_any : mg "any" = none
  m_set : mg "set" = none
  m_sorted : mg "sorted" = none
end L2

set_option Elab.async false
set_option linter.all false
set_option maxRecDepth 100000
set_option maxHeartbeats 1000000
namespace L2
open PySem PySem.Spec PyProof.Rows
section
variable {prog : Program} {w : World} {A : Around} {R : Result → Shared → Prop} {s : Shared}
theorem o8 {elt target iter : Expr} {ifs : List Expr} {scope : Scope} {pos : Pos} {it acc : Value} {env : Env} (I : Nat → Shared → Prop)
    (turn : ∀ n s, I n s → wpAny (model prog w) A (pyNext it) (fun r s₁ => match r with
      | none => R (.ok .next) s₁
      | some v => wpAny (model prog w) A (letOwnedTupleGo target it v) (fun _ s₁' => wpAny (model prog w) A (assign target env v) (fun _ s₂ =>
          wpAny (model prog w) A (forIn ifs true fun c r => if r = true then do let ok ← isTrue c env (eval c env); pure (ForInStep.yield ok) else pure (ForInStep.yield r)) (fun ok s₃ =>
            if ok = true then wpAny (model prog w) A (eval elt env) (fun x s₄ =>
              wpAny (model prog w) A (call (.builtin "list.append") [acc, x]) (fun _ s₅ => ∃ m, m < n ∧ I m s₅) (fun _ _ => False) s₄) (fun _ _ => False) s₃
            else ∃ m, m < n ∧ I m s₃) (fun _ _ => False) s₂) (fun _ _ => False) s₁') (fun _ _ => False) s₁) (fun _ _ => False) s)
    (n : Nat) (h : I n s) :
    codeAny (model prog w) A (.compLoop (.ListComp elt [⟨target, iter, ifs, 0⟩] scope pos) 0 it acc env) R s := by
  refine codeAny_loop rfl I (fun n s hI => ?_) n h
  show wpAny _ A ((compTurn (.ListComp elt [⟨target, iter, ifs, 0⟩] scope pos) 0 it acc env).onRaise (fun x => do noteFrame x env; theTreesLotGoes x)) _ _ s
  refine wpAny_noted ?_
  rw [compTurn_list]
  refine wpAny_bind (wpAny_standAt (wpAny_bind (wpAny_mono (turn n s hI) (fun r s₁ h₁ => ?_) fun _ _ h' => h'.elim)))
  cases r with
  | none => exact wpAny_pure h₁
  | some v =>
    refine wpAny_bind (wpAny_mono h₁ (fun _ s₁' h₁' => wpAny_bind (wpAny_mono h₁' (fun _ s₂ h₂ => wpAny_bind (wpAny_mono h₂ (fun ok s₃ h₃ => ?_) fun _ _ h' => h'.elim)) fun _ _ h' => h'.elim)) fun _ _ h' => h'.elim)
    cases ok with
    | false => exact wpAny_pure ⟨rfl, h₃⟩
    | true =>
      exact wpAny_bind (wpAny_bind (wpAny_mono h₃ (fun x s₄ h₄ => wpAny_bind (wpAny_mono h₄ (fun _ s₅ h₅ => wpAny_pure (wpAny_pure ⟨rfl, h₅⟩)) fun _ _ h' => h'.elim)) fun _ _ h' => h'.elim))
end

def blk (X : Cx) (scope : Scope) (cl : List (Str × Addr)) (N' : List Str) (s₀ : Shared) (H₀ : Hp) (C : Addr) (pn : List (Addr × Obj)) (ex : List Addr) : Cx where
  prog := X.prog
  w := X.w
  K := X.K
  mg := X.mg
  base := X.base
  A := X.A
  N := N'
  s₀ := s₀
  H₀ := H₀
  env := compEnvC scope cl C X.env
  outer := X.stack
  stack := X.stack
  ex := ex
  fn := fun _ => false
  calm := X.calm
  pn := pn
  xe := fun _ _ => False
def nc (X : Cx) (ifs : List Expr) (t : TT) : Prop :=
  ∀ (pins : List (Addr × Obj)) (s : Shared) (σ : St) (H : Hp) (Q : Bool → Hp → Prop), Inv X pins σ H s → t σ H Q →
    wpAny (model X.prog X.w) X.A (forIn ifs true fun c r => if r = true then do let ok ← isTrue c X.env (eval c X.env); pure (ForInStep.yield ok) else pure (ForInStep.yield r)) (TP X pins σ Q) X.xe s
def vv : TT := fun _ H Q => Q true H
theorem jB {X : Cx} : nc X [] vv := fun _ _ _ H _ I h => wpAny_tests_nil ⟨H, I, h⟩
theorem uv {X : Cx} {c : Expr} {t : TT} (h : PT X c t) : nc X [c] t := fun pins s σ H Q I q => wpAny_tests_one (h pins s σ H Q I q)
def slots (ix : List Nat) (σ : St) : St := ix.map fun j => (σ[j]?).getD none
def nT (D : Addr) (J : It) (g : TG) (tt : TT) (te : TE) (Q : VK) (W : Nat → Nat → St → Hp → Prop) : Prop :=
  ∀ i m τ H2, W i m τ H2 → (J.stop i H2 ∧ Q (.ref D) H2) ∨ (J.go i H2 ∧ ∀ x H3, J.yld i H2 x H3 → g x τ H3 fun τ' H3' => tt τ' H3' fun b H4 =>
    if b = true then te τ' H4 fun v H5 => ∃ ys, H5 D = some (.lst ys) ∧ ys.length < sizeLine ∧ ∃ m', m' < m ∧ W (i + 1) m' τ' (upd H5 D (.lst (ys ++ [v]))) else ∃ m', m' < m ∧ W (i + 1) m' τ' H4)
def qT (ix : List Nat) (nl : Nat) (wi : TI) (g : TG) (tt : TT) (te : TE) : TE := fun σ H Q => wi σ H fun J H1 => ∀ D, H1 D = none →
  ∃ W : Nat → Nat → St → Hp → Prop, (∃ m, W 0 m (slots ix σ ++ List.replicate nl none) (upd H1 D (.lst []))) ∧ nT D J g tt te Q W

structure CompOk (X : Cx) (scope : Scope) (cl : List (Str × Addr)) (N' : List Str) (ix : List Nat) (nl : Nat) : Prop where
  clos : closureFor scope X.env = pure cl
  sub : ∀ y c, cl.lookup y = some c → X.env.cells.lookup y = some c
  has : ∀ p ∈ (relabel scope X.env).names, (p.2 = .cell ∨ p.2 = .free) → (cl.lookup p.1).isSome = true
  cell : ∀ y ∈ scope.names, y.2 ≠ .cell
  kind : scope.kind = .function
  names : ∀ y ∈ scope.names, y.2 = .local → scope.names.lookup y.1 = some .local
  len : N'.length = ix.length + nl
  out : ∀ (i j : Nat) (y : Str), ix[i]? = some j → N'[i]? = some y → X.N[j]? = some y ∧ (X.env.kindOf y = some .cell ∨ X.env.kindOf y = some .free) ∧ ((relabel scope X.env).names.lookup y = some .cell ∨ (relabel scope X.env).names.lookup y = some .free)

theorem fm0 {α : Type} {P : α → Prop} : ∀ p ∈ ([] : List α), P p := fun _ h => nomatch h
theorem fm1 {α : Type} {P : α → Prop} {a : α} {l : List α} (h : P a) (r : ∀ p ∈ l, P p) : ∀ p ∈ a :: l, P p := List.forall_mem_cons.mpr ⟨h, r⟩
def OutsOk (X : Cx) (scope : Scope) : List Nat → List Str → Prop
  | [], _ => True
  | j :: r, y :: t => (X.N[j]? = some y ∧ (X.env.kindOf y = some .cell ∨ X.env.kindOf y = some .free) ∧ ((relabel scope X.env).names.lookup y = some .cell ∨ (relabel scope X.env).names.lookup y = some .free)) ∧ OutsOk X scope r t
  | _ :: _, [] => False
theorem OutsOk.at {X : Cx} {scope : Scope} : ∀ {ix : List Nat} {N : List Str}, OutsOk X scope ix N → ∀ (i j : Nat) (y : Str), ix[i]? = some j → N[i]? = some y → X.N[j]? = some y ∧ (X.env.kindOf y = some .cell ∨ X.env.kindOf y = some .free) ∧ ((relabel scope X.env).names.lookup y = some .cell ∨ (relabel scope X.env).names.lookup y = some .free)
  | [], _, _, i, j, y, h1, _ => by simp at h1
  | _ :: _, [], h, _, _, _, _, _ => h.elim
  | _ :: _, _ :: _, h, 0, j, y, h1, h2 => by
    simp at h1 h2
    subst h1 h2
    exact h.1
  | _ :: _, _ :: _, h, i + 1, j, y, h1, h2 => OutsOk.at h.2 i j y (by simpa using h1) (by simpa using h2)
theorem CompOk.make {X : Cx} {scope : Scope} {cl : List (Str × Addr)} {N' : List Str} {ix : List Nat} {nl : Nat} (clos : closureFor scope X.env = pure cl) (sub : ∀ p ∈ cl, X.env.cells.lookup p.1 = some p.2)
    (has : ((relabel scope X.env).names.all fun p => !(p.2 == .cell || p.2 == .free) || (cl.lookup p.1).isSome) = true) (cell : ∀ y ∈ scope.names, y.2 ≠ .cell) (kind : scope.kind = .function)
    (names : ∀ y ∈ scope.names, y.2 = .local → scope.names.lookup y.1 = some .local) (len : N'.length = ix.length + nl) (out : OutsOk X scope ix N') : CompOk X scope cl N' ix nl :=
  ⟨clos, fun y c h => sub (y, c) (PySem.mem_of_lookup h), fun p hp hc => by
    have q := List.all_eq_true.mp has p hp
    rcases hc with e | e <;> (rw [e] at q; simpa using q), cell, kind, names, len, out.at⟩

section
variable {X : Cx} {pins : List (Addr × Obj)} {σ : St} {H : Hp} {s : Shared}
theorem rO {scope : Scope} {cl : List (Str × Addr)} {N' : List Str} {ix : List Nat} {nl : Nat} {C : Addr} {fp : List Addr} (O : CompOk X scope cl N' ix nl) (I : Inv X pins σ H s) (hC : s.heap.objs.size ≤ C) (f : ∀ b ∈ fp, FpOk X pins H b) (lt : ∀ b ∈ fp, b < s.heap.objs.size) :
    (blk X scope cl N' s H C (X.pn ++ pins) fp).Ok where
  mod := I.ok.mod
  kind := O.kind
  glob := I.ok.glob
  blt := I.ok.blt
  above := hC
  inj := fun x y c h1 h2 => I.ok.inj x y c (O.sub x c h1) (O.sub y c h2)
  has := fun x hx => by
    have hx' : (relabel scope X.env).names.lookup x = some .cell ∨ (relabel scope X.env).names.lookup x = some .free := hx
    rcases hx' with h | h
    · exact Option.isSome_iff_exists.mp (O.has _ (PySem.mem_of_lookup h) (.inl rfl))
    · exact Option.isSome_iff_exists.mp (O.has _ (PySem.mem_of_lookup h) (.inr rfl))
  cab := fun x c h => nomatch (show false = true from h)
  hd := I.ok.hd
  frames := I.ok.frames
  stk := .inl rfl
  exf := fun b hb => ⟨Nat.ne_of_lt (Nat.lt_of_lt_of_le (lt b hb) hC), fun x c h => (f b hb).2.2.2.2.1 x c (O.sub x c h)⟩
  bs := I.bs
  bsz := Nat.le_trans I.ok.bsz I.sz
  noex := fun b o e hb => by
    rcases (f b hb).2.2.2.1 with z | z
    · exact I.ok.noex b o e z
    · exact absurd (Nat.lt_of_lt_of_le (Heap.lt_size e) (Nat.le_trans I.ok.bsz z)) (Nat.lt_irrefl _)
  exfs := fun b hb z => by
    rcases List.mem_cons.mp (I.stkSub b z) with e | e
    · exact (f b hb).2.1 e
    · exact (f b hb).2.2.1 e
  funs := I.stack
  frf := I.stkFree

theorem uM {scope : Scope} {cl : List (Str × Addr)} {N' : List Str} {ix : List Nat} {nl : Nat} {C : Addr} {fp : List Addr} {h' : Heap} {t' : Nat} (O : CompOk X scope cl N' ix nl) (I : Inv X pins σ H s) (hC : s.heap.objs.size ≤ C) (f : ∀ b ∈ fp, FpOk X pins H b) (lt : ∀ b ∈ fp, b < s.heap.objs.size)
    (hn : h'.Ns C fun _ => none) (k : ∀ b o, s.heap.get? b = some o → h'.get? b = some o) :
    Inv (blk X scope cl N' s H C (X.pn ++ pins) fp) [] (slots ix σ ++ List.replicate nl none) H { s with heap := h', toks := t' } := by
  refine ⟨rO O I hC f lt, rfl, I.bare, Un.kept k, ⟨_, hn, fun i x v e1 e2 e3 => ?_⟩, fun x c e => ?_, I.hok.fresh hC, fun x c e => I.freeC x c (O.sub x c e), fun p hp => ?_, I.hok.kept k, ?_⟩
  · have e1 : N'[i]? = some x := e1
    have hi : i < ix.length := by
      by_cases hi : i < ix.length
      · exact hi
      · rw [List.getElem?_append_right (by simpa [slots] using hi)] at e2
        rw [List.getElem?_replicate] at e2
        split at e2 <;> cases e2
    have e2' : (σ[ix[i]]?).getD none = some v := by
      rw [List.getElem?_append_left (by simpa [slots] using hi)] at e2
      simpa [slots, hi] using e2
    have e4 : σ[ix[i]]? = some (some v) := by
      cases q : σ[ix[i]]? with
      | none => rw [q] at e2'; cases e2'
      | some z => rw [q] at e2'; exact congrArg some e2'
    obtain ⟨o1, o2, o3⟩ := O.out i ix[i] x (by simp [hi]) e1
    obtain ⟨m, hm, hl⟩ := I.loc
    have vis : Vis X.env.scope x := by
      rcases o2 with z | z
      · exact .inr (.inl z)
      · exact .inr (.inr z)
    obtain ⟨u, r, l⟩ := hl _ x v o1 e4 vis
    rcases l with ⟨z, _⟩ | ⟨_, c, hc, o, ho, hd⟩
    · rcases o2 with y | y <;> (rw [y] at z; cases z)
    · obtain ⟨c', hc'⟩ := (rO O I hC f lt).has x o3
      have z := O.sub x c' hc'
      rw [hc] at z
      cases z
      exact ⟨u, r, .inr ⟨o3, c, hc', o, k _ _ ho, hd⟩⟩
  · obtain ⟨v, q⟩ := I.cell x c (O.sub x c e)
    exact ⟨v, by obtain ⟨o, ho, hd⟩ := q; exact ⟨o, k _ _ ho, hd⟩⟩
  · have hp' : p ∈ X.pn ++ pins := by
      have z : p ∈ (X.pn ++ pins) ++ [] := hp
      rwa [List.append_nil] at z
    obtain ⟨a1, a2, a3, a4, a5⟩ := I.pin p hp'
    refine ⟨k _ _ a1, a2, Nat.ne_of_lt (Nat.lt_of_lt_of_le (Heap.lt_size a1) hC), fun z => ?_, a5⟩
    rcases List.mem_cons.mp (I.stkSub p.1 z) with e | e
    · exact a3 e
    · exact a4 e
  · show (slots ix σ ++ List.replicate nl none).length = N'.length
    rw [List.length_append, List.length_replicate, O.len]
    simp [slots]

theorem sS {scope : Scope} {cl : List (Str × Addr)} {N' : List Str} {C : Addr} {fp : List Addr} {s' : Shared} {τ : St} {H' : Hp} (I : Inv X pins σ H s) (f : ∀ b ∈ fp, FpOk X pins H b)
    (J : Inv (blk X scope cl N' s H C (X.pn ++ pins) fp) [] τ H' s') : Inv X pins σ H' s' :=
  I.call' J.os J.base J.hok J.bare fun b hb => ⟨(f b hb).2.2.2.1, (f b hb).2.1, (f b hb).2.2.2.2.1, (f b hb).2.2.2.2.2⟩
theorem Inv.letgo {C : Addr} {s' : Shared} {h' : Heap} (J : Inv X pins σ H s') (hsz : X.s₀.heap.objs.size ≤ C) (hL : C ≠ X.env.locals) (hc : ∀ x c, X.env.cells.lookup x = some c → c ≠ C) (hp : ∀ p ∈ X.pn ++ pins, p.1 ≠ C) (hH : H C = none)
    (sb : Heap.SameBut C s'.heap h') : Inv X pins σ H { s' with heap := h' } :=
  J.turned (t' := s'.toks) (it := C) (fun b o hb e => sb.extBut b o hb e) hH hL (.inr hsz) hc hp
theorem tD {elt iter tg : Expr} {ifs : List Expr} {scope : Scope} {pos : Pos} {cl : List (Str × Addr)} {N' : List Str} {C D it : Addr} {fp : List Addr} {tn : Nat → Heap → Prop} {J : It} {g : TG} {tt : TT} {te : TE} {s₄ : Shared} {W : Nat → Nat → St → Hp → Prop} {Q : VK}
    {τ : St} {H₀ : Hp} {s₃ : Shared} {pn : List (Addr × Obj)} {m0 : Nat} {R : Result → Shared → Prop} (hc : X.calm = true) (T : Turn X.prog X.w X.K tg J fp it tn)
    (f : ∀ H', (∀ b ∈ fp, H' b = none) → ∀ b ∈ fp, FpOk (blk X scope cl N' s₃ H₀ C pn fp) [] H' b)
    (hg : PG (blk X scope cl N' s₃ H₀ C pn fp) tg g) (ht : nc (blk X scope cl N' s₃ H₀ C pn fp) ifs tt) (he : PE (blk X scope cl N' s₃ H₀ C pn fp) elt te)
    (I4 : Inv (blk X scope cl N' s₃ H₀ C pn fp) [] τ H s₄) (st : tn 0 s₄.heap) (fr : ∀ b ∈ fp, H b = none) (w0 : W 0 m0 τ H) (hW : nT D J g tt te Q W)
    (fin : ∀ τ' H' s', Inv (blk X scope cl N' s₃ H₀ C pn fp) [] τ' H' s' → Q (.ref D) H' → R (.ok .next) s') :
    codeAny (model X.prog X.w) X.A (.compLoop (.ListComp elt [⟨tg, iter, ifs, 0⟩] scope pos) 0 (.ref it) (.ref D) (compEnvC scope cl C X.env)) R s₄ := by
  refine o8 (fun n s' => ∃ i τ' H', Inv (blk X scope cl N' s₃ H₀ C pn fp) [] τ' H' s' ∧ tn i s'.heap ∧ (∀ b ∈ fp, H' b = none) ∧ W i n τ' H') ?_ m0 ⟨0, τ, H, I4, st, fr, w0⟩
  rintro n s5 ⟨i, τ5, H5, I5, st5, fr5, w5⟩
  rcases hW i n τ5 H5 w5 with ⟨stop, q⟩ | ⟨go, step⟩
  · refine thn (T.done (blk X scope cl N' s₃ H₀ C pn fp) rfl rfl rfl hc i [] s5 τ5 H5 (fun _ _ => False) I5 (f H5 fr5) st5 stop) fun r s6 ⟨hr, I6⟩ => ?_
    subst hr
    exact fin τ5 H5 s6 I6 q
  · refine thn (T.item (blk X scope cl N' s₃ H₀ C pn fp) rfl rfl rfl hc i [] s5 τ5 H5 (fun _ _ => False) I5 (f H5 fr5) st5 go) fun r s6 ⟨u, hr, h6⟩ => ?_
    subst hr
    refine thn h6 fun _ s7 ⟨x, H7, I7, r7, y7, st7, fr7⟩ => ?_
    have I7' := I7.pinned (f H7 fr7) (T.obj _ _ st7)
    have keep : ∀ {τ8 : St} {H8 : Hp} {s8 : Shared}, Inv (blk X scope cl N' s₃ H₀ C pn fp) ([] ++ lq fp s7.heap) τ8 H8 s8 → Inv (blk X scope cl N' s₃ H₀ C pn fp) [] τ8 H8 s8 ∧ tn (i + 1) s8.heap ∧ ∀ b ∈ fp, H8 b = none := fun {τ8 H8 s8} I8 => by
      refine ⟨I8.unpinned, T.keep _ _ _ st7 fun b hb o e => (I8.pin (b, o) (List.mem_append_right _ (List.mem_append_right _ (j4 hb e)))).1, fun b hb => ?_⟩
      obtain ⟨o, e, d⟩ := T.obj _ _ st7 b hb
      exact (I8.pin (b, o) (List.mem_append_right _ (List.mem_append_right _ (j4 hb e)))).2.1
    refine thn (hg _ s7 τ5 H7 x u _ I7' r7 (step x H7 y7)) fun _ s8 ⟨τ8, H8, I8, q8⟩ => ?_
    refine thn (ht _ s8 τ8 H8 _ I8 q8) fun b s9 ⟨H9, I9, q9⟩ => ?_
    cases b with
    | false =>
      obtain ⟨m', hm, w'⟩ := q9
      obtain ⟨k1, k2, k3⟩ := keep I9
      exact ⟨m', hm, i + 1, τ8, H9, k1, k2, k3, w'⟩
    | true =>
      refine thn (he _ s9 τ8 H9 _ I9 q9) fun y s10 ⟨v, H10, I10, r10, ys, hD, hl, m', hm, w'⟩ => ?_
      refine thn (jH _ s10 τ8 H10 (.ref D) [v] (.ref D) [y] (fun _ H11 => W (i + 1) m' τ8 H11) I10 rfl (.cons r10 .nil) ⟨D, ys, v, rfl, rfl, hD, hl, w'⟩) fun z s11 ⟨_, H11, I11, _, w11⟩ => ?_
      obtain ⟨k1, k2, k3⟩ := keep I11
      exact ⟨m', hm, i + 1, τ8, H11, k1, k2, k3, w11⟩
end

section
variable {X : Cx} {elt iter tg : Expr} {ifs : List Expr} {scope : Scope} {pos : Pos} {cl : List (Str × Addr)} {N' : List Str} {ix : List Nat} {nl : Nat} {wi : TI} {g : TG} {tt : TT} {te : TE}
structure Left (X : Cx) (pins : List (Addr × Obj)) (σ : St) (C : Addr) (H : Hp) (s : Shared) : Prop where
  inv : Inv X pins σ H s
  ns : ∃ m, s.heap.Ns C m
  sz : X.s₀.heap.objs.size ≤ C
  loc : C ≠ X.env.locals
  cel : ∀ x c, X.env.cells.lookup x = some c → c ≠ C
  pin : ∀ p ∈ X.pn ++ pins, p.1 ≠ C
  non : H C = none
theorem n5 {pins : List (Addr × Obj)} {σ : St} {H1 : Hp} {s2 : Shared} {Q : VK} {it : Addr} {fp : List Addr} {tn : Nat → Heap → Prop} {J : It} {RR : Value → Addr → Result → Shared → Prop} {E : Value → Shared → Prop}
    (hc : X.calm = true) (O : CompOk X scope cl N' ix nl) (hg : ∀ s₀ H₀ C pn ex, PG (blk X scope cl N' s₀ H₀ C pn ex) tg g) (ht : ∀ s₀ H₀ C pn ex, nc (blk X scope cl N' s₀ H₀ C pn ex) ifs tt)
    (he : ∀ s₀ H₀ C pn ex, PE (blk X scope cl N' s₀ H₀ C pn ex) elt te) (I1 : Inv X pins σ H1 s2) (T : Turn X.prog X.w X.K tg J fp it tn) (st : tn 0 s2.heap) (f1 : ∀ b ∈ fp, FpOk X pins H1 b)
    (q : ∀ D, H1 D = none → ∃ W : Nat → Nat → St → Hp → Prop, (∃ m, W 0 m (slots ix σ ++ List.replicate nl none) (upd H1 D (.lst []))) ∧ nT D J g tt te Q W)
    (fin : ∀ D C H' s', Left X pins σ C H' s' → Q (.ref D) H' → RR (.ref D) C (.ok .next) s') :
    wpAny (model X.prog X.w) X.A (newList []) (fun acc s₃ => wpAny (model X.prog X.w) X.A (newFunctionEnv scope X.env.globals cl [] X.env.qual none .none (some X.env)) (fun cenv s₄ =>
      codeAny (model X.prog X.w) X.A (.compStart (.ListComp elt [⟨tg, iter, ifs, 0⟩] scope pos) 0 (.ref it) acc { cenv with scope := relabel scope X.env }) (RR acc cenv.locals) s₄) E s₃) E s2 := by
  refine wpAny_newObj_type (wpAny_newFunctionEnv O.cell (by intro y hy; simp at hy) (fun h₁ hns₁ hsb₁ => ?_) O.kind)
  have hf : H1 s2.heap.objs.size = none := I1.hok.fresh (Nat.le_refl _)
  obtain ⟨W, ⟨m0, w0⟩, hW⟩ := q s2.heap.objs.size hf
  have lt : ∀ b ∈ fp, b < s2.heap.objs.size := fun b hb => by
    obtain ⟨o, e, _⟩ := T.obj _ _ st b hb
    exact Heap.lt_size e
  have I3 : Inv X pins σ (upd H1 s2.heap.objs.size (.lst [])) { s2 with heap := s2.heap.push { cls := .type "list", data := .seq ([] : List Value).toArray } } :=
    I1.laid (t' := s2.toks) (fun b u e => Heap.get?_push_of_some _ e) (Nat.le_refl _) ⟨Nat.zero_le _, [], 0, .nil, Heap.get?_push_size _ rfl⟩
  have f3 : ∀ b ∈ fp, FpOk X pins (upd H1 s2.heap.objs.size (.lst [])) b := fun b hb => ⟨by rw [i9 (Nat.ne_of_lt (lt b hb))]; exact (f1 b hb).1, (f1 b hb).2⟩
  have sz : (s2.heap.push { cls := .type "list", data := .seq ([] : List Value).toArray }).objs.size = s2.heap.objs.size + 1 := Heap.size_push ..
  have lt3 : ∀ b ∈ fp, b < (s2.heap.push { cls := .type "list", data := .seq ([] : List Value).toArray }).objs.size := fun b hb => by rw [sz]; exact Nat.lt_succ_of_lt (lt b hb)
  have k3 : ∀ b o, (s2.heap.push { cls := .type "list", data := .seq ([] : List Value).toArray }).get? b = some o → h₁.get? b = some o := fun b o e => hsb₁.extBut b o (Nat.ne_of_lt (Heap.lt_size e)) (Heap.get?_push_of_some _ e)
  have I4 := uM (t' := s2.toks + ([] : List (Str × Value)).length) O I3 (Nat.le_refl _) f3 lt3 hns₁ k3
  have st4 : tn 0 h₁ := T.keep _ _ _ st fun b hb o e => k3 b o (Heap.get?_push_of_some _ e)
  have fB : ∀ H', (∀ b ∈ fp, H' b = none) → ∀ b ∈ fp, FpOk (blk X scope cl N' { s2 with heap := s2.heap.push { cls := .type "list", data := .seq ([] : List Value).toArray } } (upd H1 s2.heap.objs.size (.lst [])) (s2.heap.push { cls := .type "list", data := .seq ([] : List Value).toArray }).objs.size (X.pn ++ pins) fp) [] H' b := fun H' hn b hb => by
    refine ⟨hn b hb, Nat.ne_of_lt (lt3 b hb), ?_, .inl hb, fun x c h => (f1 b hb).2.2.2.2.1 x c (O.sub x c h), fun p hp => ?_⟩
    · intro z
      rcases List.mem_cons.mp (I3.stkSub b z) with e | e
      · exact (f1 b hb).2.1 e
      · exact (f1 b hb).2.2.1 e
    · have hp' : p ∈ X.pn ++ pins := by
        have z : p ∈ (X.pn ++ pins) ++ [] := hp
        rwa [List.append_nil] at z
      exact (f1 b hb).2.2.2.2.2 p hp'
  have loop := tD (pos := pos) (iter := iter) (R := RR (.ref s2.heap.objs.size) (s2.heap.push { cls := .type "list", data := .seq ([] : List Value).toArray }).objs.size) hc T fB (hg _ _ _ _ _) (ht _ _ _ _ _) (he _ _ _ _ _) I4 st4 (fun b hb => (f3 b hb).1) w0 hW (fun τ' H' s' J' qf => by
    obtain ⟨m, hm, _⟩ := J'.loc
    refine fin _ _ H' s' ⟨sS I3 f3 J', ⟨m, hm⟩, I3.sz, Nat.ne_of_gt I3.lt, fun x c e z => ?_, fun p hp z => ?_, J'.free⟩ qf
    · obtain ⟨v, o, ho, _⟩ := I3.cell x c e
      exact absurd (Heap.lt_size ho) (by rw [z]; exact Nat.lt_irrefl _)
    · exact absurd (Heap.lt_size (I3.pin p hp).1) (by rw [z]; exact Nat.lt_irrefl _))
  exact codeAny_compStart_list loop (T.self _ 0 _ _ _ st4 loop)
theorem jI (hc : X.calm = true) (O : CompOk X scope cl N' ix nl) (hi : PI X tg iter wi) (hg : ∀ s₀ H₀ C pn ex, PG (blk X scope cl N' s₀ H₀ C pn ex) tg g) (ht : ∀ s₀ H₀ C pn ex, nc (blk X scope cl N' s₀ H₀ C pn ex) ifs tt)
    (he : ∀ s₀ H₀ C pn ex, PE (blk X scope cl N' s₀ H₀ C pn ex) elt te) (hs : ∀ x, foldedSetIterable iter X.env x = pure x := by intro _; rfl) :
    PE X (.ListComp elt [⟨tg, iter, ifs, 0⟩] scope pos) (qT ix nl wi g tt te) := by
  intro pins s σ H Q I h
  rw [eval_ListComp]
  refine wpAny_comprehension_free (use := none) rfl hs O.clos O.kind O.names (thn (hi pins s σ H _ I h) fun xv s1 h1 => thn h1 fun itv s2 h2 => ?_)
  obtain ⟨it, fp, tn, J, H1, rfl, I1, T, st, f1, q⟩ := h2
  refine n5 (RR := fun acc C => compPost (model X.prog X.w) X.A X.xe none (EP X pins σ Q) acc C) hc O hg ht he I1 T st f1 q (fun D C H' s' L qf => ?_)
  obtain ⟨m, hm⟩ := L.ns
  exact ⟨m, hm, fun h' sb => ⟨.ref D, H', L.inv.letgo L.sz L.loc L.cel L.pin L.non sb, rfl, qf⟩⟩
theorem mD {i : Nat} {y : Str} {py spos : Pos} (hN : X.N.Nodup) (hiy : X.N[i]? = some y) (hy : Loc X.env.scope y) (hc : X.calm = true) (O : CompOk X scope cl N' ix nl) (hi : PI X tg iter wi) (hg : ∀ s₀ H₀ C pn ex, PG (blk X scope cl N' s₀ H₀ C pn ex) tg g)
    (ht : ∀ s₀ H₀ C pn ex, nc (blk X scope cl N' s₀ H₀ C pn ex) ifs tt) (he : ∀ s₀ H₀ C pn ex, PE (blk X scope cl N' s₀ H₀ C pn ex) elt te)
    (hsw : swapsWith (.ListComp elt [⟨tg, iter, ifs, 0⟩] scope pos) (some (.Name y py)) spos.line X.env = pure true) (hs : ∀ x, foldedSetIterable iter X.env x = pure x := by intro _; rfl)
    (hf : X.fn y = true ∨ X.env.scope.names.lookup y = some .local := by first | exact .inl rfl | exact .inr rfl | assumption) :
    PS X (.Assign [.Name y py] (.ListComp elt [⟨tg, iter, ifs, 0⟩] scope pos) spos) (qB (qT ix nl wi g tt te) (nS i)) := by
  intro pins s σ H D0 I h
  rw [exec_Assign_Name_used _ _ _ _ hsw]
  refine wpAny_bind (wpAny_standAt (wpAny_bind ?_))
  show wpAny _ X.A (do let _ ← comprehension (.ListComp elt [⟨tg, iter, ifs, 0⟩] scope pos) scope X.env _ (newList []) false (eval iter X.env) (some (assign (.Name y py) X.env))) _ _ s
  refine wpAny_bind (wpAny_mono (wpAny_comprehension_free (use := some (assign (.Name y py) X.env)) (Q := fun _ s' => SP X pins D0 .next s') rfl hs O.clos O.kind O.names (thn (hi pins s σ H _ I h) fun xv s1 h1 => thn h1 fun itv s2 h2 => ?_)) (fun _ s' hq => wpAny_pure (wpAny_pure hq)) fun _ _ e => e)
  obtain ⟨it, fp, tn, J, H1, rfl, I1, T, st, f1, q⟩ := h2
  refine n5 (RR := fun acc C => compPost (model X.prog X.w) X.A X.xe (some (assign (.Name y py) X.env)) (fun _ s' => SP X pins D0 .next s') acc C) hc O hg ht he I1 T st f1 q (fun D C H' s' L qf => ?_)
  obtain ⟨m, hm⟩ := L.ns
  show wpAny _ X.A (assign (.Name y py) X.env (.ref D)) _ _ _
  refine wpAny_assign_Name (nK L.inv hN hiy hy (v := .ref D) rfl (fun s'' I'' z => ?_) hf)
  obtain ⟨a, sb2, ha⟩ := z
  have ne : C ≠ a := by
    rcases ha with e | e
    · rw [e]; exact L.loc
    · exact fun z => L.cel _ a e z.symm
  refine ⟨m, hm.at' fun o e => sb2.extBut C o ne e, fun h' sb => ⟨_, H', I''.letgo L.sz L.loc L.cel L.pin L.non sb, qf⟩⟩
end
end L2

set_option Elab.async false
set_option linter.all false
set_option maxRecDepth 100000
set_option maxHeartbeats 1000000
namespace L2
open PySem PySem.Spec PyProof.Rows
theorem lB (ns ms : List Int) : (((List.range (min ns.length ms.length)).all fun j => ns.getD j 0 == ms.getD j 0) && ns.length == ms.length) = decide (ns = ms) := by
  by_cases h : ns = ms
  · subst h
    simp
  · rw [decide_eq_false h]
    by_cases hl : ns.length = ms.length
    · have : ∃ j, j < ns.length ∧ ns.getD j 0 ≠ ms.getD j 0 := by
        apply Classical.byContradiction
        intro no
        apply h
        apply List.ext_getElem hl
        intro i h1 h2
        apply Classical.byContradiction
        intro ne
        apply no
        refine ⟨i, h1, ?_⟩
        simpa [List.getD, h1, h2] using ne
      obtain ⟨j, hj, ne⟩ := this
      have : ((List.range (min ns.length ms.length)).all fun j => ns.getD j 0 == ms.getD j 0) = false := by
        rw [List.all_eq_false]
        refine ⟨j, by simp; omega, by simpa using ne⟩
      rw [this]
      rfl
    · have : (ns.length == ms.length) = false := by simpa using hl
      rw [this, Bool.and_false]
def okV : V → Bool
  | .ref _ => true
  | x => jP x
theorem kN {x : V} (h : jP x = true) : eqV x x = true := by
  cases x with
  | non => rfl
  | bl b => simp [eqV]
  | int i => simp [eqV]
  | str z => simp [eqV]
  | byt b => exact absurd (show false = true from h) Bool.false_ne_true
  | flt b => exact absurd (show false = true from h) Bool.false_ne_true
  | ref a => exact absurd (show false = true from h) Bool.false_ne_true
  | ty n => exact absurd (show false = true from h) Bool.false_ne_true
theorem rH {A : Around} {s : Shared} {x : V} {u v : Value} (ru : RelV x u) (rv : RelV x v) (h : okV x = true) : SeqAt.EqAt A s u v true := by
  cases x with
  | ref a =>
    obtain rfl : u = Value.ref a := ru
    obtain rfl : v = Value.ref a := rv
    exact SeqAt.EqAt.same _
  | non => have := kM (A := A) (s := s) ru rv rfl rfl; rwa [kN rfl] at this
  | bl b => have := kM (A := A) (s := s) ru rv rfl rfl; rwa [kN rfl] at this
  | int i => have := kM (A := A) (s := s) ru rv rfl rfl; rwa [kN rfl] at this
  | str z => have := kM (A := A) (s := s) ru rv rfl rfl; rwa [kN rfl] at this
  | byt b => exact absurd (show false = true from h) Bool.false_ne_true
  | flt b => exact absurd (show false = true from h) Bool.false_ne_true
  | ty n => exact absurd (show false = true from h) Bool.false_ne_true
def qM (K : PySem.W.Frag) (H : Hp) (a b : Addr) (xs ys : List V) : Prop := (SqL K H a xs ∧ SqL K H b ys) ∨ (SqT K H a xs ∧ SqT K H b ys)
def vG (K : PySem.W.Frag) (neg : Bool) : R2 := fun x y H Q => ∃ a b, x = .ref a ∧ y = .ref b ∧
  ((∃ xs, qM K H a b xs xs ∧ xs.all okV = true ∧ Q (.bl (!neg)) H) ∨ (∃ ns ms : List Int, qM K H a b (ns.map V.int) (ms.map V.int) ∧ Q (.bl (if neg then !decide (ns = ms) else decide (ns = ms))) H))
theorem kK {xs : List V} {its : List Value} (r : Vals xs its) {j : Nat} (h : j < its.length) : ∃ x, xs[j]? = some x ∧ RelV x its[j] := by
  have hl := r.length
  have hj : j < xs.length := by omega
  obtain ⟨u, e, rv⟩ := r.get (i := j) (x := xs[j]) (by simp [hj])
  have e2 : its[j]? = some its[j] := by simp [h]
  rw [e2] at e
  cases e
  exact ⟨xs[j], by simp [hj], rv⟩
theorem oE {A : Around} {s : Shared} {xs : List V} {i1 i2 : List Value} (r1 : Vals xs i1) (r2 : Vals xs i2) (h : xs.all okV = true) : ∀ j (h1 : j < i1.toArray.size) (h2 : j < i2.toArray.size), SeqAt.EqAt A s i1.toArray[j] i2.toArray[j] true := by
  intro j h1 h2
  rw [List.size_toArray] at h1 h2
  obtain ⟨x, e1, v1⟩ := kK r1 h1
  obtain ⟨y, e2, v2⟩ := kK r2 h2
  rw [e1] at e2
  cases e2
  have ok := List.all_eq_true.mp h x (List.mem_of_getElem? e1)
  simpa using rH (A := A) (s := s) v1 v2 ok
theorem nq {A : Around} {s : Shared} {ns ms : List Int} {i1 i2 : List Value} (r1 : Vals (ns.map V.int) i1) (r2 : Vals (ms.map V.int) i2) : ∀ j (h1 : j < i1.toArray.size) (h2 : j < i2.toArray.size), SeqAt.EqAt A s i1.toArray[j] i2.toArray[j] (ns.getD j 0 == ms.getD j 0) := by
  intro j h1 h2
  rw [List.size_toArray] at h1 h2
  obtain ⟨x, e1, v1⟩ := kK r1 h1
  obtain ⟨y, e2, v2⟩ := kK r2 h2
  have l1 : j < ns.length := by have := r1.length; rw [List.length_map] at this; omega
  have l2 : j < ms.length := by have := r2.length; rw [List.length_map] at this; omega
  rw [List.getElem?_map, List.getElem?_eq_getElem l1] at e1
  rw [List.getElem?_map, List.getElem?_eq_getElem l2] at e2
  cases e1
  cases e2
  have := kM (A := A) (s := s) v1 v2 rfl rfl
  simpa [List.getD, l1, l2, eqV] using this
section
variable {X : Cx}
theorem rN (hu : X.A.units < cLine) : OpR X (compareOp .Eq) (vG X.K false) := by
  intro pins s σ H x y v u Q I rx ry h
  obtain ⟨a, b, rfl, rfl, h⟩ := h
  obtain rfl : v = Value.ref a := rx
  obtain rfl : u = Value.ref b := ry
  rcases h with ⟨xs, tw, ok, q⟩ | ⟨ns, ms, tw, q⟩
  · have fin : EP X pins σ Q (.bool true) s := ⟨.bl true, H, I, rfl, q⟩
    rcases tw with ⟨h1, h2⟩ | ⟨h1, h2⟩
    · obtain ⟨i1, r1, p1, _⟩ := I.list h1
      obtain ⟨i2, r2, p2, _⟩ := I.list h2
      have e : ((List.range i1.toArray.size).all fun _ => true) = true := by simp
      exact SeqAt.eq_listAt (e := fun _ => true) p1.isList p2.isList (by rw [List.size_toArray, List.size_toArray, ← r1.length, ← r2.length]) hu (oE r1 r2 ok) (by rw [e]; exact fin)
    · obtain ⟨i1, r1, p1, _⟩ := I.tuple h1
      obtain ⟨i2, r2, p2, _⟩ := I.tuple h2
      have e : (((List.range (min i1.toArray.size i2.toArray.size)).all fun _ => true) && i1.toArray.size == i2.toArray.size) = true := by
        rw [List.size_toArray, List.size_toArray, ← r1.length, ← r2.length]
        simp
      exact SeqAt.eq_tupleAt (e := fun _ => true) p1 p2 hu (oE r1 r2 ok) (by rw [e]; exact fin)
  · have fin : EP X pins σ Q (.bool (decide (ns = ms))) s := ⟨.bl _, H, I, rfl, q⟩
    rcases tw with ⟨h1, h2⟩ | ⟨h1, h2⟩
    · obtain ⟨i1, r1, p1, _⟩ := I.list h1
      obtain ⟨i2, r2, p2, _⟩ := I.list h2
      have n1 : i1.toArray.size = ns.length := by rw [List.size_toArray, ← r1.length, List.length_map]
      have n2 : i2.toArray.size = ms.length := by rw [List.size_toArray, ← r2.length, List.length_map]
      have key := lB ns ms
      by_cases hl : ns.length = ms.length
      · refine SeqAt.eq_listAt (e := fun j => ns.getD j 0 == ms.getD j 0) p1.isList p2.isList (by rw [n1, n2, hl]) hu (nq r1 r2) ?_
        rw [n1]
        rw [hl, Nat.min_self, beq_self_eq_true, Bool.and_true] at key
        rw [hl, key]
        exact fin
      · refine SeqAt.eq_list_lengthsAt p1.isList p2.isList (by rw [n1, n2]; simpa using hl) hu ?_
        rw [decide_eq_false (fun e => hl (by rw [e]))] at fin
        exact fin
    · obtain ⟨i1, r1, p1, _⟩ := I.tuple h1
      obtain ⟨i2, r2, p2, _⟩ := I.tuple h2
      have n1 : i1.toArray.size = ns.length := by rw [List.size_toArray, ← r1.length, List.length_map]
      have n2 : i2.toArray.size = ms.length := by rw [List.size_toArray, ← r2.length, List.length_map]
      refine SeqAt.eq_tupleAt (e := fun j => ns.getD j 0 == ms.getD j 0) p1 p2 hu (nq r1 r2) ?_
      rw [n1, n2, lB]
      exact fin
end
end L2

set_option Elab.async false
set_option linter.all false
set_option maxRecDepth 100000
set_option maxHeartbeats 1000000
namespace L2
open PySem PySem.Spec PyProof.Rows
def lX (D : Addr) (g : TG) (tt : TT) (te : TE) (x : V) (τ : St) (H : Hp) (R : St → Hp → Prop) : Prop := g x τ H fun τ' H' => tt τ' H' fun b H4 =>
  if b = true then te τ' H4 fun v H5 => ∃ ys, H5 D = some (.lst ys) ∧ ys.length < sizeLine ∧ R τ' (upd H5 D (.lst (ys ++ [v]))) else R τ' H4
def nW (D : Addr) (J : It) (g : TG) (tt : TT) (te : TE) (Q : VK) (τ : St) (H : Hp) : Prop := ∃ W : Nat → Nat → St → Hp → Prop, (∃ m, W 0 m τ H) ∧ nT D J g tt te Q W
theorem sL {ix : List Nat} {nl : Nat} {wi : TI} {g : TG} {tt : TT} {te : TE} {σ : St} {H : Hp} {Q : VK} :
    qT ix nl wi g tt te σ H Q = wi σ H fun J H1 => ∀ D, H1 D = none → nW D J g tt te Q (slots ix σ ++ List.replicate nl none) (upd H1 D (.lst [])) := rfl
section
variable {K : PySem.W.Frag} {D a : Addr} {g : TG} {tt : TT} {te : TE} {Q : VK} {τ : St} {H : Hp}
theorem jY {lo : Int} {n : Nat} (Pv : Nat → St → Hp → Prop) (h0 : Pv 0 τ H)
    (hs : ∀ i τ H (R : St → Hp → Prop), i < n → Pv i τ H → (∀ τ' H', Pv (i + 1) τ' H' → R τ' H') → lX D g tt te (.int (lo + i)) τ H R) (hd : ∀ τ H, Pv n τ H → Q (.ref D) H) : nW D (Itr lo n) g tt te Q τ H := by
  refine ⟨fun i m τ H => m = n - i ∧ i ≤ n ∧ Pv i τ H, ⟨n, by simp, Nat.zero_le _, h0⟩, ?_⟩
  rintro i m τ H2 ⟨rfl, hi, p⟩
  by_cases hlt : i < n
  · refine .inr ⟨hlt, fun x H' y => ?_⟩
    obtain ⟨e, y⟩ := y
    subst e y
    exact hs i τ _ (fun τ' H' => ∃ m', m' < n - i ∧ m' = n - (i + 1) ∧ i + 1 ≤ n ∧ Pv (i + 1) τ' H') hlt p fun τ' H' p' => ⟨_, by omega, rfl, hlt, p'⟩
  · have e : i = n := by omega
    subst e
    exact .inl ⟨Nat.le_refl _, hd τ H2 p⟩
theorem jL (xs : List V) (Pv : Nat → St → Hp → Prop) (h0 : Pv 0 τ H) (hl : ∀ i τ H, i ≤ xs.length → Pv i τ H → SqL K H a xs)
    (hs : ∀ i x τ H (R : St → Hp → Prop), xs[i]? = some x → Pv i τ H → (∀ τ' H', Pv (i + 1) τ' H' → R τ' H') → lX D g tt te x τ H R) (hd : ∀ τ H, Pv xs.length τ H → Q (.ref D) H) : nW D (Itl K a) g tt te Q τ H := by
  refine ⟨fun i m τ H => m = xs.length - i ∧ i ≤ xs.length ∧ Pv i τ H, ⟨xs.length, by simp, Nat.zero_le _, h0⟩, ?_⟩
  rintro i m τ H2 ⟨rfl, hi, p⟩
  have q := hl i τ H2 hi p
  by_cases hlt : i < xs.length
  · have hx : xs[i]? = some xs[i] := by simp [hlt]
    refine .inr ⟨⟨xs, _, q, hx⟩, fun x H' y => ?_⟩
    obtain ⟨e, y⟩ := y
    subst e
    have e2 := y xs q
    rw [hx] at e2
    cases e2
    exact hs i _ τ _ (fun τ' H' => ∃ m', m' < xs.length - i ∧ m' = xs.length - (i + 1) ∧ i + 1 ≤ xs.length ∧ Pv (i + 1) τ' H') hx p fun τ' H' p' => ⟨_, by omega, rfl, hlt, p'⟩
  · have e : i = xs.length := by omega
    subst e
    exact .inl ⟨⟨xs, q, Nat.le_refl _⟩, hd τ H2 p⟩
theorem su (xs : List V) (Pv : Nat → St → Hp → Prop) (h0 : Pv 0 τ H) (hl : ∀ i τ H, i ≤ xs.length → Pv i τ H → SqT K H a xs)
    (hs : ∀ i x τ H (R : St → Hp → Prop), xs[i]? = some x → Pv i τ H → (∀ τ' H', Pv (i + 1) τ' H' → R τ' H') → lX D g tt te x τ H R) (hd : ∀ τ H, Pv xs.length τ H → Q (.ref D) H) : nW D (Itt K a) g tt te Q τ H := by
  refine ⟨fun i m τ H => m = xs.length - i ∧ i ≤ xs.length ∧ Pv i τ H, ⟨xs.length, by simp, Nat.zero_le _, h0⟩, ?_⟩
  rintro i m τ H2 ⟨rfl, hi, p⟩
  have q := hl i τ H2 hi p
  by_cases hlt : i < xs.length
  · have hx : xs[i]? = some xs[i] := by simp [hlt]
    refine .inr ⟨⟨xs, _, q, hx⟩, fun x H' y => ?_⟩
    obtain ⟨e, y⟩ := y
    subst e
    have e2 := y xs q
    rw [hx] at e2
    cases e2
    exact hs i _ τ _ (fun τ' H' => ∃ m', m' < xs.length - i ∧ m' = xs.length - (i + 1) ∧ i + 1 ≤ xs.length ∧ Pv (i + 1) τ' H') hx p fun τ' H' p' => ⟨_, by omega, rfl, hlt, p'⟩
  · have e : i = xs.length := by omega
    subst e
    exact .inl ⟨⟨xs, q, Nat.le_refl _⟩, hd τ H2 p⟩
theorem SqT.lst {H : Hp} {p b : Addr} {xs ys zs : List V} (h : SqT K H b xs) (hp : H p = some (.lst ys)) : SqT K (upd H p (.lst zs)) b xs := by
  rcases h with (h | ⟨o, h⟩) | h
  · exact .inl (.inl (by rw [i9 (nU h hp (by intro z; cases z))]; exact h))
  · exact .inl (.inr ⟨o, by rw [i9 (nU h hp (by intro z; cases z))]; exact h⟩)
  · exact .inr h
end
theorem nE {K : PySem.W.Frag} {neg : Bool} {a b : Addr} {xs : List V} {H : Hp} {Q : VK} (t : qM K H a b xs xs) (ok : xs.all okV = true) (q : Q (.bl (!neg)) H) : vG K neg (.ref a) (.ref b) H Q := ⟨a, b, rfl, rfl, .inl ⟨xs, t, ok, q⟩⟩
section
variable {X : Cx} {K : PySem.W.Frag}
theorem j8 (h : X.K = K) : IxR X (sF K) := by subst h; exact jg
theorem mX (h : X.K = K) : IxR X (sQ K) := by subst h; exact jx
end
end L2

set_option Elab.async false
set_option linter.all false
set_option maxRecDepth 100000
set_option maxHeartbeats 1000000
namespace L2
open PySem PySem.Spec PyProof.Rows
section
variable {prog : Program} {w : World} {A : Around} {E : Value → Shared → Prop} {s : Shared}
theorem mw {it l : Addr} {i : Nat} {items : Array Value} {x : Value} {Q : Value → Shared → Prop} (hit : s.heap.IsTupleIter it l i)
    (hl : s.heap.IsTuple l items) (hx : items[i]? = some x) (hQ : ∀ h', h'.IsTupleIter it l (i + 1) → Heap.SameBut it s.heap h' → Q x { s with heap := h' }) :
    wpAny (model prog w) A (Builtin.SmallTypes.nextOf (.ref it)) Q E s := by
  obtain ⟨o, ho, hc, hd⟩ := id hit
  obtain ⟨ol, hol, _, nl, hdl⟩ := hl
  unfold Builtin.SmallTypes.nextOf
  refine wpAny_bind (wpAny_callSpecial?_slot (name := Str.ofString "__next__") hit.typeIs F.slot_tuple_iterator_next
    (wpAny_call_entry F.slot_tuple_iterator_next hit.typeIs F.entry_tuple_iterator_next ?_ (F.args_tuple_iterator_next_1 _)))
  show wpAny _ _ (field (.ref it) 0 >>= _) _ _ s
  refine wpAny_bind (wpAny_field ho hd (x := .ref l) rfl ?_)
  show wpAny _ _ (if (Value.ref l == Value.none) = true then _ else _) _ _ s
  rw [if_neg (show ¬ ((Value.ref l == Value.none) = true) from Bool.false_ne_true)]
  show wpAny _ _ (field (.ref it) 1 >>= _) _ _ s
  refine wpAny_bind (wpAny_field ho hd (x := .int i 0) rfl ?_)
  show wpAny _ _ (seqItems? (.ref l) >>= _) _ _ s
  refine wpAny_bind (wpAny_seqItems hol hdl ?_)
  simp only [Int.toNat_natCast, hx]
  refine wpAny_bind (wpAny_setField ho hd (by simp) (wpAny_pure ⟨x, rfl, wpAny_pure (hQ _ ?_ (Heap.SameBut.update ..))⟩))
  exact ⟨_, Heap.get?_update_self _ ho (Obj.isFreed_of_fields (Obj.data_mapFields hd _)), (Obj.cls_mapFields ..).trans hc, by
    rw [Obj.data_mapFields hd]; simp [rawInt]⟩
theorem m5 {it l : Addr} {i : Nat} {items : Array Value} {Q : Value → Shared → Prop} (hh : A.handled = none) (hit : s.heap.IsTupleIter it l i) (hl : s.heap.IsTuple l items) (hx : items[i]? = none)
    (hE : ∀ h' e, Heap.ExtBut it s.heap h' → (∃ o, h'.get? e = some o ∧ o.cls = .type "StopIteration") → E (.ref e) { s with heap := h' }) :
    wpAny (model prog w) A (Builtin.SmallTypes.nextOf (.ref it)) Q E s := by
  obtain ⟨o, ho, hc, hd⟩ := id hit
  obtain ⟨ol, hol, _, nl, hdl⟩ := hl
  unfold Builtin.SmallTypes.nextOf
  refine wpAny_bind (wpAny_callSpecial?_slot (name := Str.ofString "__next__") hit.typeIs F.slot_tuple_iterator_next
    (wpAny_call_entry F.slot_tuple_iterator_next hit.typeIs F.entry_tuple_iterator_next ?_ (F.args_tuple_iterator_next_1 _)))
  show wpAny _ _ (field (.ref it) 0 >>= _) _ _ s
  refine wpAny_bind (wpAny_field ho hd (x := .ref l) rfl ?_)
  show wpAny _ _ (if (Value.ref l == Value.none) = true then _ else _) _ _ s
  rw [if_neg (show ¬ ((Value.ref l == Value.none) = true) from Bool.false_ne_true)]
  show wpAny _ _ (field (.ref it) 1 >>= _) _ _ s
  refine wpAny_bind (wpAny_field ho hd (x := .int i 0) rfl ?_)
  show wpAny _ _ (seqItems? (.ref l) >>= _) _ _ s
  refine wpAny_bind (wpAny_seqItems hol hdl ?_)
  simp only [Int.toNat_natCast, hx]
  refine wpAny_bind (wpAny_rule (wpAny_bind (wpAny_setField ho hd (by simp) ?_)))
  show wpAny _ _ (newExc (.type "StopIteration") [] >>= _) _ _ _
  refine wpAny_bind ?_
  simp only [newExc, newTuple]
  refine wpAny_bind (wpAny_newObj_type ?_ (by size_fits))
  refine wpAny_bind (m := firstArgMember _ _) (wpAny_of_eq (a := Value.none) (by first | rfl | (simp only [firstArgMember]; rfl)) ?_)
  refine wpAny_newObj_type ?_ (by size_fits)
  simp only [raiseNew]
  refine wpAny_bind (wpAny_handled ?_)
  first | rw [show A.in1.handled = none from hh] | rw [hh]
  refine wpAny_bind (wpAny_pure (wpAny_throw ?_))
  exact hE _ _ (((Heap.SameBut.update ..).extBut.push _).push _) ⟨_, Heap.get?_push_size _ rfl, rfl⟩
end
theorem Draws.tuple {prog : Program} {w : World} {A : Around} (hh : A.handled = none) (it l : Addr) (hne : l ≠ it) (items : Array Value) :
    Draws prog w A it [it, l] items.size (fun i v => items[i]? = some v) (fun i h => h.IsTupleIter it l i ∧ h.IsTuple l items) where
  live := fun _ _ st => let ⟨o, ho, _⟩ := st.1; ⟨o, ho⟩
  frame := fun _ _ _ st hk => ⟨st.1.at fun o e => hk it (by simp) o e, st.2.at fun o e => hk l (by simp) o e⟩
  item := fun i s Q E hi st hQ => by
    refine mw st.1 st.2 (x := items[i]) (by simp [hi]) fun h' hit' hs' => ?_
    exact hQ _ h' s.toks (by simp [hi]) ⟨hit', st.2.extBut hs'.extBut hne⟩ hs'
  done := fun s Q E st hE => m5 hh st.1 st.2 (by simp) hE
section
variable {prog : Program} {w : World} {A : Around} {E : Value → Shared → Prop} {s : Shared}
end
section
variable {X : Cx} {elts : List Expr} {kk : Nat} {tpos : Pos}
end
end L2

set_option Elab.async false
set_option linter.all false
set_option maxRecDepth 100000
set_option maxHeartbeats 1000000
namespace HT
open PySem PySem.Spec PyProof.Rows
section
variable {prog : Program} {w : World} {A : Around} {E : Value → Shared → Prop} {s : Shared}
end
end HT
namespace L2
open PySem PySem.Spec PyProof.Rows
section
variable {X : Cx}
end
theorem rP {xs : List V} {n : Nat} : kh xs none (some (n : Int)) = xs.take n := by
  unfold kh
  rw [HT.sIx_nat, HT.sIx_none, List.drop_zero, Nat.sub_zero]
  by_cases h : n ≤ xs.length
  · rw [Nat.min_eq_left h]
  · rw [Nat.min_eq_right (by omega), List.take_of_length_le (Nat.le_refl _), List.take_of_length_le (by omega)]
end L2

set_option Elab.async false
set_option linter.all false
set_option maxRecDepth 100000
set_option maxHeartbeats 1000000
namespace L2
open PySem PySem.Spec PyProof.Rows
open PySem.Builtin PySem.Builtin.ObjectAttr PySem.Builtin.Getset_descriptor
open PySem.W (Frag Looks looks_findIn looks_specialIn looks_takesIn looks_mroIn looks_subIn looks_typeIn)

def ExcAt (x D : Addr) (h : Heap) : Prop := ∃ o vs, h.get? x = some o ∧ o.cls = .ref D ∧ o.data = .fields vs
structure XCls (K : Frag) (D : Addr) : Prop where
  ga : PySem.W.findIn K (.ref D) "__getattribute__" = some (some (.builtin "BaseException.__getattribute__"))
  gt : PySem.W.findIn K (.ref D) "__getattr__" = some none
  ca : PySem.W.findIn K (.ref D) "__class__" = some (some (.builtin "object.__class__"))
  cn : PySem.W.specialIn K (.builtin "object.__class__") "__get__" = some (some (.builtin "getset_descriptor.__get__"))
  tk : PySem.W.takesIn K (.builtin "object.__class__") = some true
  mo : PySem.W.mroIn K D (.type "object") = some true
  mb : PySem.W.mroIn K D (.type "BaseException") = some true
  is : (PySem.W.clsIn K D).isSome = true
section
variable {prog : Program} {w : World} {A : Around} {E : Value → Shared → Prop} {s : Shared} {K : Frag} {x D : Addr}
theorem ExcAt.type {M : Model} {h : Heap} (I : ExcAt x D h) : Looks M h (typeOf (.ref x)) (.ref D) := by
  obtain ⟨o, vs, e, c, _⟩ := I
  exact c ▸ (Looks.ld e).andThen .now
end
end L2

set_option Elab.async false
set_option linter.all false
set_option maxRecDepth 100000
set_option maxHeartbeats 1000000
namespace L2
open PySem PySem.Spec PyProof.Rows
structure Fly (P : Program) (w : World) (outer : List Env) (H : Hp) (s : Shared) (B : Heap) (H' : Hp) (a C : Addr) (a0 : Value) (s' : Shared) : Prop where
  os : s'.os = s.os
  bare : AllBare s'.gens
  un : Un (frs outer) [] H H' s.heap s'.heap
  hok : HOk P w H' s'.heap
  fly : Heap.FlyingW B outer a (.ref C) a0 s'.heap
  old : ∀ b o, s'.heap.get? b = some o → (∃ o', s.heap.get? b = some o') → b ∉ frs outer → B.get? b = some o
  trk : ∀ b u o, H' b = some u → s'.heap.get? b = some o → B.get? b = some o
  new : H' a = none
  fresh : s.heap.get? a = none
section
variable {P : Program} {w : World} {outer : List Env} {H H' : Hp} {s s' : Shared} {B : Heap} {a C : Addr} {a0 : Value} {h6 : Heap}
end
section
variable {X : Cx} {pins : List (Addr × Obj)} {σ : St} {H H' : Hp} {s s' : Shared} {B : Heap} {a C : Addr} {a0 : Value}
end
section
variable {P : Program} {w : World} {K : PySem.W.Frag} {mg : Str → Option Value} {base : Heap} {N : List Str} {qual : Str} {scope : Scope} {f : Addr} {cd : Value} {A : Around} {outer : List Env} {s : Shared} {H : Hp} {E : XK}
end
abbrev bmVE : List Value := [.type "ValueError", .type "Exception", .type "BaseException", .type "object"]
structure XRaise (K : PySem.W.Frag) (mg : Str → Option Value) (x : Str) (C : Addr) : Prop where
  at_ : mg x = some (.ref C)
  ex : PySem.W.excIn K C bmVE "ValueError.__new__" = true
theorem XRaise.own {K : PySem.W.Frag} {mg : Str → Option Value} {x : Str} {C : Addr} {h : Heap} (R : XRaise K mg x C) (X : K.In h) : OwnCls x C bmVE "ValueError.__new__" mg h := by
  refine ⟨R.at_, ?_⟩
  have q := R.ex
  unfold PySem.W.excIn at q
  split at q
  · rename_i dd cd sl ho
    split at q
    · rename_i C' bm k0 k1 k2 k3 n k5 hm hs
      simp only [Bool.and_eq_true, beq_iff_eq, Bool.not_eq_true'] at q
      obtain ⟨⟨⟨⟨⟨rfl, rfl⟩, hdel⟩, ht⟩, hok⟩, hni⟩ := q
      obtain ⟨nm, bs, mro, ns, qn, hd, sn, sub, ab, col, del⟩ := cd
      dsimp only at hm hdel hok hni
      subst hm hdel
      have hsl : sl = #[k0, k1, k2, k3, some (.builtin "ValueError.__new__"), k5] := by
        obtain ⟨l⟩ := sl
        simp only at hs
        rw [hs]
      subst hsl
      exact ⟨bm, ns, nm, qn, bs, hd, sn, sub, ab, col, dd, k0, k1, k2, k3, k5, _, X _ _ ho, .of_isNs (PySem.W.isNs_of_in X hok), PySem.W.nsMap_none_of_in X hok hni, PySem.W.tail_of_in X ht⟩
    · cases q
  · cases q
section
variable {X : Cx} {pins : List (Addr × Obj)} {σ : St} {H : Hp} {s : Shared} {a : Addr}
end
structure XCatch (K : PySem.W.Frag) (mg : Str → Option Value) (x : Str) (C : Addr) : Prop where
  at_ : mg x = some (.ref C)
  is : PySem.W.clsIn K C ≠ none
  ty : PySem.W.typeIn K (.ref C) = some (.type "type")
  mb : PySem.W.mroIn K C (.type "BaseException") = some true
section
variable {X : Cx} {CX : CXT} {x y n : Str} {j k i : Nat} {ps : List Str} {sp : Sp} {p pos tpos hpos np epos : Pos} {e : Expr} {es : List Expr} {t : TA} {C : Addr} {b₀ : Stmt} {suite : List Stmt} {ts : TS}
end
end L2

set_option Elab.async false
set_option linter.all false
set_option maxRecDepth 100000
set_option maxHeartbeats 1000000
namespace L2
open PySem PySem.Spec PyProof.Rows
section
variable {X : Cx} {K : PySem.W.Frag}
end
structure RoomS (k : Nat) (A : Around) : Prop where
  dp : A.depth + 3 * k + 5 < recursionLimit
  un : A.units + 16 * k + 200 < cLine
structure FnOkS (P : Program) (w : World) (K : PySem.W.Frag) (mg : Str → Option Value) (base : Heap) (CX : CXT) (k : Nat) (f : Addr) (fd : FuncData) (ps : List Str) (sp : Sp) : Prop where
  len : ∀ vs H Q E, sp vs H Q E → vs.length = ps.length
  run : ∀ (A : Around) (outer : List Env) (s : Shared) (H : Hp) (args : Args) (us : List Value) (vs : List V) (Q : VK) (E : XK), RoomS k A → Env0 P w K mg base A outer s H → BindsTo s fd args (ps.zip us) → Vals vs us → sp vs H Q E →
    codeAny (model P w) A (.call (.ref f) args) (CR CX outer P w H s Q E) s
structure CalS (P : Program) (w : World) (K : PySem.W.Frag) (mg : Str → Option Value) (base : Heap) (CX : CXT) (x : Str) (k : Nat) (ps : List Str) (sp : Sp) : Prop where
  ex : ∃ f fd, FnOkS P w K mg base CX k f fd ps sp ∧ Binds K fd ps [] ∧ PySem.W.keepIn K (.ref f) = true ∧ mg x = some (.ref f)
end L2

set_option Elab.async false
set_option linter.all false
set_option maxRecDepth 100000
namespace L2
open PySem PySem.Spec PyProof.Rows
def noStar : Expr → Bool
  | .Starred _ _ => false
  | _ => true
theorem ef {e : Expr} {es : List Expr} {env : Env} (h : noStar e = true) : starEach (e :: es) env = (false, eval e env) :: starEach es env := by
  cases e <;> first | rfl | cases h
theorem star1' {e : Expr} {env : Env} (h : noStar e = true) : starEach [e] env = [(false, eval e env)] := by rw [ef h]; rfl
theorem iY {env : Env} {pos : Pos} : (backTo pos (starEach [] env)).any (·.1) = false := rfl
theorem jf {e : Expr} {es : List Expr} {env : Env} {pos : Pos} (h : noStar e = true) (r : (backTo pos (starEach es env)).any (·.1) = false) : (backTo pos (starEach (e :: es) env)).any (·.1) = false := by
  rw [ef h]
  show (false || (backTo pos (starEach es env)).any (·.1)) = false
  rw [r]
  rfl
def plainT : Expr → Bool
  | .UnaryOp _ _ _ => false
  | .BoolOp _ _ _ => false
  | .IfExp _ _ _ _ => false
  | .Compare _ _ _ _ => false
  | _ => true
theorem lE {e : Expr} {env : Env} (h : plainT e = true) : ∀ whole, isTrue e env whole = (do let v ← whole; standAt e.pos; holding [v] (truthy v)) := by
  intro whole
  cases e <;> first | rfl | cases h
def vo : Expr → Bool
  | .ListComp _ _ _ _ => false
  | .SetComp _ _ _ _ => false
  | .DictComp _ _ _ _ _ => false
  | _ => true
theorem ic {e : Expr} {tg : Option Expr} {n : Nat} {env : Env} (h : vo e = true) : swapsWith e tg n env = pure false := by
  cases e <;> first | rfl | cases h
end L2

set_option Elab.async false
set_option linter.all false
set_option maxRecDepth 100000
set_option maxHeartbeats 1000000
namespace L2
open PySem PySem.Spec PyProof.Rows
end L2

set_option Elab.async false
set_option linter.all false
set_option maxRecDepth 100000
set_option maxHeartbeats 1000000
namespace L2
open PySem PySem.Spec PyProof.Rows
theorem ints_are : ∀ {ns : List Int} {its : List Value}, Vals (ns.map V.int) its → IntsAre its ns
  | [], _, .nil => .nil
  | n :: ns, _, .cons ⟨t, e⟩ r => by subst e; exact .cons n t (ints_are r)
section
variable {X : Cx}
theorem kY (hc : X.calm = true) : jE X (.builtin "sum") (fun xs H Q => ∃ (p : Addr) (ns : List Int), xs = [.ref p] ∧ SqL X.K H p (ns.map V.int) ∧ Q (.int ns.sum) H) := by
  intro pins s σ H xs us Q I r h
  obtain ⟨p, ns, rfl, hq, q⟩ := h
  obtain ⟨u, rfl, rx⟩ := vals1 r
  cases rx
  obtain ⟨its, r', pl, hz⟩ := I.list hq
  have hi := ints_are r'
  obtain ⟨xs, e⟩ := hi.allInts.items
  have hl := pl.isList
  have en := hi.numsOf
  rw [show its = its.toArray.toList from rfl, e, nums_intItems] at en
  rw [e] at hl
  refine sum_intListG (I.ok.hd hc) hl fun h' tk t' k => ⟨.int ns.sum, H, I.kept k, ⟨t', ?_⟩, q⟩
  rw [preSum_eq, List.take_of_length_le (by simp), en]
end
end L2

set_option Elab.async false
set_option linter.all false
set_option maxRecDepth 100000
set_option maxHeartbeats 1000000
namespace L2
open PySem PySem.Spec PyProof.Rows
structure Apart (z TI TO i1 i2 : Addr) (f1 f2 : List Addr) : Prop where
  zTI : z ≠ TI
  zTO : z ≠ TO
  TITO : TI ≠ TO
  TI1 : TI ≠ i1
  TI2 : TI ≠ i2
  m1 : i1 ∈ f1
  m2 : i2 ∈ f2
  z1 : z ∉ f1
  z2 : z ∉ f2
  t1 : TO ∉ f1
  t2 : TO ∉ f2
  i12 : i1 ∉ f2
  i21 : i2 ∉ f1
section
variable {prog : Program} {w : World} {A : Around} {E : Value → Shared → Prop} {s : Shared} {z TI TO i1 i2 : Addr} {f1 f2 : List Addr} {n1 n2 k : Nat} {P1 P2 : Nat → Value → Prop} {S1 S2 : Nat → Heap → Prop}
end
end L2

set_option Elab.async false
set_option linter.all false
set_option maxRecDepth 100000
set_option maxHeartbeats 1000000
namespace L2
open PySem PySem.Spec PyProof.Rows
end L2

set_option Elab.async false
set_option linter.all false
set_option maxRecDepth 100000
set_option maxHeartbeats 1000000
namespace L2
open PySem PySem.Spec PyProof.Rows
section
variable {X : Cx}
section
variable {K : PySem.W.Frag} {D : Ends} {g : TG} {tb : TS} {σ : St} {H : Hp} {a : Addr}
end
section
variable {K : PySem.W.Frag} {D a : Addr} {g : TG} {tt : TT} {te : TE} {Q : VK} {τ : St} {H : Hp}
end
end
end L2

set_option Elab.async false
set_option linter.all false
set_option maxRecDepth 100000
set_option maxHeartbeats 1000000
namespace L2
open PySem PySem.Spec PyProof.Rows
abbrev sgn (c : Nat) : V := .str ⟨#[c]⟩
abbrev txt (cs : List Nat) : Str := ⟨cs.toArray⟩
section
variable {X : Cx} {tg : Expr}
end
section
variable {g : TG} {tb : TS} {D : Ends} {σ : St} {H : Hp}
end
section
variable {D : Addr} {g : TG} {tt : TT} {te : TE} {Q : VK} {τ : St} {H : Hp}
end
section
variable {X : Cx}
theorem oH : ∀ cs : List Nat, Str.join "" (cs.map fun c => (⟨#[c]⟩ : Str)) = txt cs
  | [] => rfl
  | [c] => rfl
  | c :: d :: cs => by
    have ih := oH (d :: cs)
    show (⟨#[c]⟩ : Str) ++ "" ++ Str.join "" ((d :: cs).map fun c => (⟨#[c]⟩ : Str)) = txt (c :: d :: cs)
    rw [ih]
    apply Str.ext'
    simp [Str.cps_append]
    rfl
theorem qk : ∀ {ts : List Str} {its : List Value}, Vals (ts.map V.str) its → ∃ l : List (Str × Tok), its = strValues l ∧ l.map (·.1) = ts
  | [], _, .nil => ⟨[], rfl, rfl⟩
  | z :: ts, _, .cons ⟨t, e⟩ r => by
    subst e
    obtain ⟨l, e1, e2⟩ := qk r
    exact ⟨(z, t) :: l, by rw [e1]; rfl, by rw [List.map_cons, e2]⟩
def rJoin (K : PySem.W.Frag) : V → List V → Hp → VK → Prop := fun x vs H Q => ∃ (p : Addr) (cs : List Nat), x = .str "" ∧ vs = [.ref p] ∧ SqL K H p (cs.map sgn) ∧ cs.length ≤ 1000 ∧ Q (.str (txt cs)) H
theorem ow : ∀ (ts : List Str) (n : Nat), (∀ z ∈ ts, z.length = 1) → ts.foldl (fun a p => a + p.length + ("" : Str).length) n = n + ts.length
  | [], n, _ => rfl
  | z :: ts, n, h => by
    rw [List.foldl_cons, ow ts _ fun y hy => h y (List.mem_cons_of_mem _ hy), h z (List.mem_cons_self ..), List.length_cons, show ("" : Str).length = 0 from rfl]
    omega
theorem qd : MtR X "str.join" (rJoin X.K) := by
  intro pins s σ H x vs v us Q I rx rv h
  obtain ⟨p, cs, rfl, rfl, hq, hz, q⟩ := h
  obtain ⟨t, rfl⟩ := rx
  obtain ⟨u, rfl, ru⟩ := vals1 rv
  cases ru
  obtain ⟨its, r, pl, _⟩ := I.list hq
  have r' : Vals ((cs.map fun c => (⟨#[c]⟩ : Str)).map V.str) its := by rw [List.map_map]; exact r
  obtain ⟨l, e1, e2⟩ := qk r'
  have hl := pl.isList
  rw [e1] at hl
  have one : ∀ z ∈ cs.map (fun c => (⟨#[c]⟩ : Str)), z.length = 1 := fun z hz => by
    obtain ⟨c, _, rfl⟩ := List.mem_map.mp hz
    rfl
  have tot : Builtin.Str.tooLong ((l.map (·.1)).toArray.foldl (· + ·.length + ("" : Str).length) 0) = false := by
    rw [e2, List.foldl_toArray, ow _ _ one, List.length_map]
    unfold Builtin.Str.tooLong
    rw [sizeLine_eq]
    simp
    omega
  refine call_meets PySem.F.slot_str_join (typeIs_str s _ t) PySem.F.entry_str_join (PySem.F.args_str_join_2 _ _) (meets_str_join_list "" t p l tot) ⟨hl, ?_⟩
  have fin : ∀ (tk' : Tok) (s' : Shared), Inv X pins σ H s' → EP X pins σ Q (.str (txt cs) tk') s' := fun tk' s' I' => ⟨.str (txt cs), H, I', ⟨tk', rfl⟩, q⟩
  have gl : Builtin.Str.glued "" (l.map (·.1)) = txt cs := by
    rw [StrLaws.glued_eq_join, e2, oH]
  have sz : (txt cs).length ≤ sizeLine := by
    show cs.toArray.size ≤ sizeLine
    rw [List.size_toArray, sizeLine_eq]
    omega
  match l, e2, gl with
  | [p1], e2, gl =>
    obtain ⟨z, tz⟩ := p1
    have : z = txt cs := gl
    subst this
    exact fin tz s I
  | [], e2, gl =>
    refine ⟨by rw [gl]; exact sz, ?_⟩
    rw [gl]
    exact fin _ _ (I.tok _)
  | p1 :: p2 :: r2, e2, gl =>
    refine ⟨by rw [gl]; exact sz, ?_⟩
    rw [gl]
    exact fin _ _ (I.tok _)
def nQ (c : Nat) : Bool := decide (97 ≤ c) && decide (c ≤ 122)
end
end L2

set_option Elab.async false
set_option linter.all false
set_option maxRecDepth 100000
set_option maxHeartbeats 1000000
namespace L2
open PySem PySem.Spec PyProof.Rows
deriving instance DecidableEq for Kn
section
variable {X : Cx}
theorem lJ : jE X (.type "tuple") (fun xs H Q => ∃ p ys, xs = [.ref p] ∧ SqL X.K H p ys ∧ ∀ l, H l = none → Q (.ref l) (upd H l (.tup ys))) := by
  intro pins s σ H xs us Q I r h
  obtain ⟨p, ys, rfl, hq, q⟩ := h
  exact nN pins s σ H _ us Q I r ⟨p, ys, rfl, .inl ⟨hq, q⟩⟩
theorem mh : jE X (.type "list") (fun xs H Q => ∃ p ys, xs = [.ref p] ∧ SqL X.K H p ys ∧ ∀ l, H l = none → Q (.ref l) (upd H l (.lst ys))) := by
  intro pins s σ H xs us Q I r h
  obtain ⟨p, ys, rfl, hq, q⟩ := h
  exact oK pins s σ H _ us Q I r ⟨p, ys, rfl, .inl hq, q⟩
end
end L2

set_option Elab.async false
set_option linter.all false
set_option maxRecDepth 100000
set_option maxHeartbeats 1000000
namespace PySem
open Sem (wp)
namespace SetL
theorem jT : plainId "set.update.loop" = true := by decide +kernel
theorem kR : entryFor table "set.update.loop" = some Builtin.«set.update.loop» := entryFor_of_tree (by kernel_rfl)
section
variable {prog : Program} {w : World} {A : Around} {R : Result → Shared → Prop} {I : Addr} {fp wr : List Addr} {n : Nat} {P : Nat → Value → Prop} {St : Nat → Heap → Prop}
end
section
variable {prog : Program} {w : World} {A : Around} {E : Value → Shared → Prop} {s : Shared}
end
end SetL
end PySem
namespace L2
open PySem PySem.Spec PyProof.Rows
section
variable {X : Cx}
end
end L2

set_option Elab.async false
set_option linter.all false
set_option maxRecDepth 100000
set_option maxHeartbeats 1000000
namespace L2
open PySem PySem.Spec PyProof.Rows
mutual
inductive Rep (K : PySem.W.Frag) (H : Hp) : V → PyData → Prop
  | non : Rep K H .non .none
  | bl (b : Bool) : Rep K H (.bl b) (.bool b)
  | int (i : Int) : Rep K H (.int i) (.int i)
  | str (z : Str) : Rep K H (.str z) (.str z)
  | lst {a : Addr} {xs : List V} {ds : List PyData} : SqL K H a xs → RepAll K H xs ds → Rep K H (.ref a) (.list ds)
  | tup {a : Addr} {xs : List V} {ds : List PyData} : SqT K H a xs → RepAll K H xs ds → Rep K H (.ref a) (.tuple ds)
inductive RepAll (K : PySem.W.Frag) (H : Hp) : List V → List PyData → Prop
  | nil : RepAll K H [] []
  | cons {x : V} {d : PyData} {xs : List V} {ds : List PyData} : Rep K H x d → RepAll K H xs ds → RepAll K H (x :: xs) (d :: ds)
end
section
variable {X : Cx} {pins : List (Addr × Obj)} {σ : St} {H : Hp} {s : Shared}
mutual
theorem Rep.reads (I : Inv X pins σ H s) : ∀ {v : V} {d : PyData} {u : Value}, Rep X.K H v d → RelV v u → ∃ as, Reads s.heap u d as
  | _, _, u, .non, r => by
    obtain rfl : u = Value.none := r
    exact ⟨[], .none⟩
  | _, _, u, .bl b, r => by
    obtain rfl : u = Value.bool b := r
    exact ⟨[], .bool b⟩
  | _, _, u, .int i, r => by
    obtain ⟨t, rfl⟩ := r
    exact ⟨[], .int i t⟩
  | _, _, u, .str z, r => by
    obtain ⟨t, rfl⟩ := r
    exact ⟨[], .str z t⟩
  | _, _, u, .lst (a := a) h ra, r => by
    obtain rfl : u = Value.ref a := r
    obtain ⟨its, rv, ⟨o, n, e, c, _, dt⟩, _⟩ := I.list h
    obtain ⟨as, ra'⟩ := RepAll.reads I ra rv
    exact ⟨a :: as, .list e c dt (by simpa using ra')⟩
  | _, _, u, .tup (a := a) h ra, r => by
    obtain rfl : u = Value.ref a := r
    obtain ⟨its, rv, ⟨o, e, c, n, dt⟩, _⟩ := I.tuple h
    obtain ⟨as, ra'⟩ := RepAll.reads I ra rv
    exact ⟨as, .tuple e c dt (by simpa using ra')⟩
theorem RepAll.reads (I : Inv X pins σ H s) : ∀ {xs : List V} {ds : List PyData} {us : List Value}, RepAll X.K H xs ds → Vals xs us → ∃ as, ReadsAll s.heap us ds as
  | _, _, _, .nil, .nil => ⟨[], .nil⟩
  | _, _, _, .cons h r, .cons rv rs => by
    obtain ⟨as, h1⟩ := Rep.reads I h rv
    obtain ⟨bs, h2⟩ := RepAll.reads I r rs
    exact ⟨as ++ bs, .cons h1 h2⟩
end
end
def qy (d : PyData) : Prop := d.canLay0 = true ∧ d.depth ≤ 40
theorem wk {A : Around} {k : Nat} (hr : Room k A) : A.units + 60 < cLine := Nat.lt_of_le_of_lt (Nat.add_le_add_left (by decide : 60 ≤ 64) _) hr.units
section
variable {X : Cx}
def wm (K : PySem.W.Frag) (neg : Bool) : R2 := fun x y H Q => ∃ d e, Rep K H x d ∧ Rep K H y e ∧ qy d ∧ qy e ∧ Q (.bl (if neg then !PyData.eqv d e else PyData.eqv d e)) H
theorem vK (hu : X.A.units + 60 < cLine) : OpR X (compareOp .Eq) (wm X.K false) := by
  intro pins s σ H x y v u Q I rx ry h
  obtain ⟨d, e, hd, he, fd, fe, q⟩ := h
  obtain ⟨as, r1⟩ := hd.reads I rx
  obtain ⟨bs, r2⟩ := he.reads I ry
  exact SeqAt.compareEq_reads r1 r2 fd.1 fe.1 (by have := fd.2; have := fe.2; omega) ⟨.bl _, H, I, rfl, q⟩
end
end L2

set_option Elab.async false
set_option linter.all false
set_option maxRecDepth 100000
set_option maxHeartbeats 1000000
namespace HT
open PySem PyProof.Rows
section
open PySem.SeqAt
open PySem.AutoSeq1 (wpAny_loadPart')
open PySem.MeetsSeq PySem.MeetsSeq2 PySem.MeetsSeq3

end
end HT

set_option Elab.async false
set_option linter.all false
set_option maxRecDepth 100000
set_option maxHeartbeats 1000000
namespace HT
open PySem PyProof.Rows PySem.SeqAt
section
variable {l b : Addr}
theorem kX {ns : List Int} {its : List Value} (r : L2.Vals (ns.map L2.V.int) its) : IntsAre its ns := L2.ints_are r
end
end HT
namespace L2
open PySem PySem.Spec PyProof.Rows
end L2

set_option Elab.async false
set_option linter.all false
set_option maxRecDepth 100000
set_option maxHeartbeats 1000000
namespace L2
open PySem PySem.Spec PyProof.Rows
section
variable {K : PySem.W.Frag} {a : Addr} {g : TG} {tt : TT} {te : TE} {Q : VK} {H : Hp}
end
end L2

set_option Elab.async false
set_option linter.all false
set_option maxRecDepth 100000
set_option maxHeartbeats 1000000
namespace L2
open PySem PySem.Spec PyProof.Rows
section
variable {prog : Program} {w : World} {A : Around} {E : Value → Shared → Prop} {s : Shared} {z TI TO i1 i2 : Addr}
end
end L2

set_option Elab.async false
set_option linter.all false
set_option maxRecDepth 100000
set_option maxHeartbeats 1000000
namespace L2
open PySem PySem.Spec PyProof.Rows
section
variable {X : Cx}
end
section
variable {K : PySem.W.Frag} {a b : Addr} {g : TG} {tt : TT} {te : TE} {Q : VK} {H : Hp}
end
end L2

set_option Elab.async false
set_option linter.all false
set_option maxRecDepth 100000
set_option maxHeartbeats 1000000
namespace L2
open PySem PySem.Spec PyProof.Rows
section
variable {X : Cx}
end
section
variable {X : Cx} {CX : CXT} {x y : Str} {j k : Nat} {ps : List Str} {sp : Sp} {p pos tpos hpos np epos : Pos} {e : Expr} {es : List Expr} {t : TA} {C : Addr} {b₀ : Stmt} {suite : List Stmt} {ts : TS}
end
theorem vC {X : Cx} {K : PySem.W.Frag} {T : String} {o e : Expr} {es : List Expr} {to : TE} {t : TA} {name : Str} {apos cpos : Pos} {id : String} {r : V → List V → Hp → VK → Prop} (hK : X.K = K) (pa : PlainAttrs T) (slot : Slot T name id) (hty : typeOf (.builtin id) = pure (.type "method_descriptor")) (hm : MtR X id r) (ho : PE X o to) (ha : PA X (e :: es) t)
    (hbase : attributeBase o name X.env (eval o X.env) = eval o X.env := by rfl)
    (hfew : ((backTo cpos (starEach (e :: es) X.env)).all (fun x => !x.1) && (backToKw cpos (keywordEach [] X.env)).all (fun x => x.1.isSome)
      && decide ((e :: es).length + ([] : List Keyword).length + (if ([] : List Keyword).isEmpty then 0 else 1) < 30)) = true := by rfl)
    (hline : (apos.endLine == cpos.line) = true := by rfl) (hs : starEach (e :: es) X.env = (false, eval e X.env) :: starEach es X.env := by rfl) (hplain : (backTo cpos (starEach es X.env)).any (·.1) = false := by rfl) :
    PE X (.Call (.Attribute o name apos) (e :: es) [] cpos) (tBM K T r to t) := by
  subst hK
  exact kj pa slot hty hm ho ha hbase hfew hline hs hplain
end L2

set_option Elab.async false
set_option linter.all false
set_option maxRecDepth 100000
set_option maxHeartbeats 1000000
namespace L2
open PySem PySem.Spec PyProof.Rows
structure Mk0 (K : PySem.W.Frag) (C : Addr) : Prop where
  makes : PySem.W.makesIn K C = true
  init : PySem.W.findIn K (.ref C) "__init__" = some (some (.builtin "object.__init__"))
  kp : PySem.W.keepIn K (.ref C) = true
section
variable {X : Cx} {C : Addr} {x : Str} {p pos apos : Pos}
end
structure MkC (P : Program) (w : World) (K : PySem.W.Frag) (mg : Str → Option Value) (base : Heap) (x : Str) (C : Addr) (k : Nat) (ps : List Str) (sp : Sp) : Prop where
  ex : ∃ f fd, Mk K C f ∧ FnOk P w K mg base CX0 k f fd ps sp ∧ Binds K fd ps []
  at_ : mg x = some (.ref C)
section
variable {X : Cx} {C : Addr} {x : Str} {j k : Nat} {ps : List Str} {sp : Sp} {p pos apos : Pos} {e o : Expr} {es : List Expr} {t : TA} {ta : TE} {m : Str}
structure Disp (P : Program) (w : World) (K : PySem.W.Frag) (mg : Str → Option Value) (base : Heap) (m : Str) (k : Nat) (ps : List Str) (C : Addr) (sp : Sp) : Prop where
  cls : Cls K C
  ex : ∃ f fd, Meth K C m f ∧ FnOk P w K mg base CX0 k f fd ps sp ∧ Binds K fd ps []
end
structure ICls (K : PySem.W.Frag) (C : Addr) : Prop where
  cl : Cls K C
  ha : PySem.W.findIn K (.ref C) "__class__" = some (some (.builtin "object.__class__"))
  hn : PySem.W.specialIn K (.builtin "object.__class__") "__get__" = some (some (.builtin "getset_descriptor.__get__"))
  htk : PySem.W.takesIn K (.builtin "object.__class__") = some true
  hm : PySem.W.mroIn K C (.type "object") = some true
section
variable {X : Cx} {a b c d : Expr} {ta tb tc td : TE} {pos : Pos}
end
end L2

set_option Elab.async false
set_option linter.all false
set_option maxRecDepth 100000
set_option maxHeartbeats 1000000
namespace L2
open PySem PySem.Spec PyProof.Rows
section
variable {prog : Program} {w : World} {A : Around} {E : Value → Shared → Prop} {s : Shared} {z TI TO i1 i2 : Addr}
end
end L2

set_option Elab.async false
set_option linter.all false
set_option maxRecDepth 100000
set_option maxHeartbeats 1000000
namespace HT
open PySem PySem.Spec PyProof.Rows
section
variable {prog : Program} {w : World} {A : Around} {E : Value → Shared → Prop} {s : Shared}
end
end HT
namespace L2
open PySem PySem.Spec PyProof.Rows
end L2

set_option Elab.async false
set_option linter.all false
set_option maxRecDepth 100000
set_option maxHeartbeats 1000000
namespace L2
open PySem PySem.Spec PyProof.Rows
section
variable {X : Cx} {CX : CXT} {x y n z : Str} {j k i iz : Nat} {ps : List Str} {sp : Sp} {p zpos pos tpos hpos np epos : Pos} {e : Expr} {es : List Expr} {t : TA} {C : Addr} {b₀ : Stmt} {suite : List Stmt} {ts : TS}
end
end L2

set_option Elab.async false
set_option linter.all false
set_option maxRecDepth 100000
set_option maxHeartbeats 1000000
namespace L2
open PySem PySem.Spec PyProof.Rows
theorem kW : ∀ ns : List Int, (ns.map V.int).all jP = true
  | [] => rfl
  | _ :: ns => by rw [List.map_cons, List.all_cons, kW ns]; rfl
theorem tO {X : Cx} {K : PySem.W.Frag} {tg l : Expr} {tl : TE} (h : X.K = K) (hl : PE X l tl) : PI X tg l (qY K tl) := by subst h; exact jC hl
theorem sH {X : Cx} {K : PySem.W.Frag} (h : X.K = K) : SlR X (sE K) := by subst h; exact ng
theorem sR {X : Cx} {K : PySem.W.Frag} (h : X.K = K) : MtR X "str.join" (rJoin K) := by subst h; exact qd
end L2

set_option Elab.async false
set_option linter.all false
set_option maxRecDepth 100000
set_option maxHeartbeats 1000000
namespace L2
open PySem PySem.Spec PyProof.Rows
structure CompOkC (X : Cx) (scope : Scope) (y : Str) (cl : List (Str × Addr)) (N' : List Str) (ix : List Nat) (nl : Nat) : Prop where
  clos : closureFor scope X.env = pure cl
  sub : ∀ z c, cl.lookup z = some c → X.env.cells.lookup z = some c
  has : ∀ p ∈ (relabel scope X.env).names, (p.2 = .cell ∨ p.2 = .free) → (((y, 0) :: cl).lookup p.1).isSome = true
  lay : ∀ n, cellsFrom n scope.names cl = (y, n) :: cl
  push : ∀ h : Heap, pushCells h scope.names = h.push { cls := .type "cell", data := .cell none }
  kind : scope.kind = .function
  names : ∀ z ∈ scope.names, z.2 = .local → scope.names.lookup z.1 = some .local
  len : N'.length = ix.length + nl
  out : ∀ (i j : Nat) (x : Str), ix[i]? = some j → N'[i]? = some x → (x == y) = false ∧ X.N[j]? = some x ∧ (X.env.kindOf x = some .cell ∨ X.env.kindOf x = some .free) ∧ ((relabel scope X.env).names.lookup x = some .cell ∨ (relabel scope X.env).names.lookup x = some .free)
def OutsOkC (X : Cx) (scope : Scope) (y : Str) : List Nat → List Str → Prop
  | [], _ => True
  | j :: r, x :: t => ((x == y) = false ∧ X.N[j]? = some x ∧ (X.env.kindOf x = some .cell ∨ X.env.kindOf x = some .free) ∧ ((relabel scope X.env).names.lookup x = some .cell ∨ (relabel scope X.env).names.lookup x = some .free)) ∧ OutsOkC X scope y r t
  | _ :: _, [] => False
theorem OutsOkC.at {X : Cx} {scope : Scope} {y : Str} : ∀ {ix : List Nat} {N : List Str}, OutsOkC X scope y ix N → ∀ (i j : Nat) (x : Str), ix[i]? = some j → N[i]? = some x → (x == y) = false ∧ X.N[j]? = some x ∧ (X.env.kindOf x = some .cell ∨ X.env.kindOf x = some .free) ∧ ((relabel scope X.env).names.lookup x = some .cell ∨ (relabel scope X.env).names.lookup x = some .free)
  | [], _, _, i, j, y, h1, _ => by simp at h1
  | _ :: _, [], h, _, _, _, _, _ => h.elim
  | _ :: _, _ :: _, h, 0, j, y, h1, h2 => by
    simp at h1 h2
    subst h1 h2
    exact h.1
  | _ :: _, _ :: _, h, i + 1, j, y, h1, h2 => OutsOkC.at h.2 i j y (by simpa using h1) (by simpa using h2)
section
variable {X : Cx} {pins : List (Addr × Obj)} {σ : St} {H : Hp} {s : Shared}
end

section
variable {X : Cx} {elt iter tg : Expr} {ifs : List Expr} {scope : Scope} {pos : Pos} {y : Str} {cl : List (Str × Addr)} {N' : List Str} {ix : List Nat} {nl : Nat} {wi : TI} {g : TG} {tt : TT} {te : TE}
end
end L2

set_option Elab.async false
set_option linter.all false
set_option maxRecDepth 100000
set_option maxHeartbeats 1000000
namespace L2
open PySem PySem.Spec PyProof.Rows
section
variable {prog : Program} {w : World} {A : Around} {s : Shared} {R : Result → Shared → Prop}
variable {I : Addr} {fp wr : List Addr} {G : Array GenState → Array GenState → Prop} {n : Nat} {P : Nat → Value → Prop} {St : Nat → Shared → Prop} {T : String}
end
section
variable {prog : Program} {w : World} {A : Around} {E : Value → Shared → Prop} {s : Shared}
variable {I : Addr} {fp wr : List Addr} {G : Array GenState → Array GenState → Prop} {n : Nat} {P : Nat → Value → Prop} {St : Nat → Shared → Prop} {T : String}
end
section
variable {X : Cx} {pins : List (Addr × Obj)} {σ : St} {H : Hp} {s : Shared}
end
section
variable {X : Cx} {e : Expr} {t : TA} {p1 p2 pos1 pos2 : Pos}
end
def IsRvd (h : Heap) (a l : Addr) (i : Int) : Prop := ∃ o, h.get? a = some o ∧ o.cls = .type "reversed" ∧ o.data = .fields #[.ref l, rawInt i]
end L2

set_option Elab.async false
set_option linter.all false
set_option maxRecDepth 100000
set_option maxHeartbeats 1000000
namespace L2
open PySem PySem.Spec PyProof.Rows
section
variable {prog : Program} {w : World} {A : Around} {E : Value → Shared → Prop} {s : Shared}
theorem IsRvd.typeIs {a l : Addr} {i : Int} (x : IsRvd s.heap a l i) : s.TypeIs (.ref a) "reversed" := let ⟨o, ho, hc, _⟩ := x; ⟨o, ho, hc⟩
theorem IsRvd.at {h h' : Heap} {a l : Addr} {i : Int} (x : IsRvd h a l i) (e : ∀ o, h.get? a = some o → h'.get? a = some o) : IsRvd h' a l i := let ⟨o, ho, r⟩ := x; ⟨o, e _ ho, r⟩
end
section
variable {X : Cx} {e : Expr} {t : TA} {p1 p2 pos1 pos2 : Pos}
end
end L2

set_option Elab.async false
set_option linter.all false
set_option maxRecDepth 100000
set_option maxHeartbeats 1000000
namespace L2
open PySem PySem.Spec PyProof.Rows
end L2

set_option Elab.async false
set_option linter.all false
set_option maxRecDepth 100000
set_option maxHeartbeats 1000000
namespace L2
open PySem PySem.Spec PyProof.Rows
section
variable {κ : Type} [DecidableEq κ]
def jz (kvs : List (κ × V)) (k : κ) : Option V := (kvs.find? fun kv => decide (kv.1 = k)).map (·.2)
def putK (kvs : List (κ × V)) (k : κ) (v : V) : List (κ × V) :=
  if (kvs.any fun kv => decide (kv.1 = k)) = true then kvs.map (fun kv => if kv.1 = k then (kv.1, v) else kv) else kvs ++ [(k, v)]
def t7 (kvs : List (κ × V)) (k : κ) : List (κ × V) := kvs.filter fun kv => decide (kv.1 ≠ k)

theorem kO {p : κ × V} {r : List (κ × V)} {k : κ} (e : p.1 = k) : jz (p :: r) k = some p.2 := by simp [jz, List.find?_cons, e]
theorem kg {p : κ × V} {r : List (κ × V)} {k : κ} (e : ¬ p.1 = k) : jz (p :: r) k = jz r k := by simp [jz, List.find?_cons, e]
theorem kc (k : κ) : ∀ kvs : List (κ × V), (kvs.any fun kv => decide (kv.1 = k)) = (jz kvs k).isSome
  | [] => rfl
  | p :: r => by
    rw [List.any_cons]
    by_cases e : p.1 = k
    · simp only [kO e, decide_eq_true e, Bool.true_or, Option.isSome_some]
    · rw [kg e, decide_eq_false e, Bool.false_or]; exact kc k r
theorem jZ (kvs : List (κ × V)) (k : κ) (v : V) : (putK kvs k v).length ≤ kvs.length + 1 := by
  unfold putK
  split
  · rw [List.length_map]; omega
  · rw [List.length_append, List.length_cons, List.length_nil]; omega
theorem sP {kvs : List (κ × V)} {k : κ} (v : V) (h : jz kvs k = none) : putK kvs k v = kvs ++ [(k, v)] := by
  unfold putK
  rw [kc, h]
  exact if_neg (by decide)

theorem RelO.isSome_eq {o : Option V} {u : Option Value} (r : RelO o u) : o.isSome = u.isSome := by
  cases o with
  | none => cases u with
    | none => rfl
    | some _ => exact (show False from r).elim
  | some _ => cases u with
    | none => exact (show False from r).elim
    | some _ => rfl
theorem RelO.getD {o : Option V} {u : Option Value} {d : V} {d' : Value} (r : RelO o u) (rd : RelV d d') : RelV (o.getD d) (u.getD d') := by
  cases o with
  | none => cases u with
    | none => exact rd
    | some _ => exact (show False from r).elim
  | some _ => cases u with
    | none => exact (show False from r).elim
    | some _ => exact r

theorem KV.val {kvs : List (κ × V)} {vs : List (κ × Value)} (r : KV kvs vs) (k : κ) : RelO (jz kvs k) (valueAt vs k) := by
  unfold KV at r
  induction r with
  | nil => exact True.intro
  | @cons p q ps qs h t ih =>
    obtain ⟨h1, h2⟩ := h
    by_cases e : p.1 = k
    · have e' : q.1 = k := h1.symm.trans e
      have b : valueAt (q :: qs) k = some q.2 := by simp [valueAt, List.find?_cons, e']
      rw [kO e, b]; exact h2
    · have e' : ¬ q.1 = k := fun z => e (h1.trans z)
      have b : valueAt (q :: qs) k = valueAt qs k := by simp [valueAt, List.find?_cons, e']
      rw [kg e, b]; exact ih
theorem KV.any {kvs : List (κ × V)} {vs : List (κ × Value)} (r : KV kvs vs) (k : κ) : (kvs.any fun kv => decide (kv.1 = k)) = vs.any fun kv => decide (kv.1 = k) := by
  unfold KV at r
  induction r with
  | nil => rfl
  | cons h t ih => rw [List.any_cons, List.any_cons, ih, h.1]
theorem KV.repl {kvs : List (κ × V)} {vs : List (κ × Value)} (r : KV kvs vs) (k : κ) {y : V} {u : Value} (ry : RelV y u) :
    KV (kvs.map fun kv => if kv.1 = k then (kv.1, y) else kv) (vs.map fun kv => if kv.1 = k then (kv.1, u) else kv) := by
  unfold KV at r ⊢
  induction r with
  | nil => exact .nil
  | @cons p q ps qs h t ih =>
    rw [List.map_cons, List.map_cons]
    refine .cons ?_ ih
    obtain ⟨h1, h2⟩ := h
    by_cases e : p.1 = k
    · rw [if_pos e, if_pos (h1.symm.trans e)]; exact ⟨h1, ry⟩
    · rw [if_neg e, if_neg (fun z => e (h1.trans z))]; exact ⟨h1, h2⟩
theorem KV.put {kvs : List (κ × V)} {vs : List (κ × Value)} (r : KV kvs vs) (k : κ) {y : V} {u : Value} (ry : RelV y u) : KV (putK kvs k y) (stored vs k u) := by
  unfold putK stored
  rw [r.any k]
  by_cases e : (vs.any fun kv => decide (kv.1 = k)) = true
  · rw [if_pos e, if_pos e]; exact r.repl k ry
  · rw [if_neg e, if_neg e]; exact Paired.snoc r ⟨rfl, ry⟩
theorem KV.drop {kvs : List (κ × V)} {vs : List (κ × Value)} (r : KV kvs vs) (k : κ) : KV (t7 kvs k) (without vs k) := by
  unfold KV at r ⊢
  unfold t7 without
  induction r with
  | nil => exact .nil
  | @cons p q ps qs h t ih =>
    obtain ⟨h1, h2⟩ := h
    rw [List.filter_cons, List.filter_cons]
    by_cases e : p.1 = k
    · have a : ¬ decide (p.1 ≠ k) = true := by simp [e]
      have b : ¬ decide (q.1 ≠ k) = true := by simp [h1.symm.trans e]
      rw [if_neg a, if_neg b]; exact ih
    · have e' : ¬ q.1 = k := fun z => e (h1.trans z)
      have a : decide (p.1 ≠ k) = true := by simp [e]
      have b : decide (q.1 ≠ k) = true := by simp [e']
      rw [if_pos a, if_pos b]; exact .cons ⟨h1, h2⟩ ih
theorem KV.keys {kvs : List (κ × V)} {vs : List (κ × Value)} (r : KV kvs vs) : kvs.map (·.1) = vs.map (·.1) := by
  unfold KV at r
  induction r with
  | nil => rfl
  | cons h t ih => rw [List.map_cons, List.map_cons, ih, h.1]
theorem KV.length {kvs : List (κ × V)} {vs : List (κ × Value)} (r : KV kvs vs) : kvs.length = vs.length := Paired.length r
end


theorem kT {P : Program} {w : World} {k : Key} {u : Value} (r : RelV (kV k) u) : (jb P w).is k u = true := by
  cases k with
  | inl i => obtain ⟨t, e⟩ := (show ∃ t, u = Value.int i t from r); subst e; exact pB P w i t
  | inr x => obtain ⟨t, e⟩ := (show ∃ t, u = Value.str x t from r); subst e; exact pe P w x t
theorem nG {P : Program} {w : World} : ∀ {ks : List Key} {us : List Value}, Vals (ks.map kV) us → ItemsAre (jb P w) ks us
  | [], _, r => by rw [List.map_nil] at r; cases r; exact .nil
  | k :: ks, _, r => by
    rw [List.map_cons] at r
    cases r with
    | cons h t => exact .cons (kT h) (nG t)

abbrev KT (H : Hp) : List (List Key × V) → List (List Key × Addr × Value) → Prop := Paired fun p q => p.1 = q.1 ∧ H q.2.1 = some (.tup (p.1.map kV)) ∧ RelV p.2 q.2.2
theorem KT.val {H : Hp} {kvs : List (List Key × V)} {xs : List (List Key × Addr × Value)} (r : KT H kvs xs) (k : List Key) : RelO (jz kvs k) ((atKey xs k).map (·.2)) := by
  induction r with
  | nil => exact True.intro
  | @cons p q ps qs h t ih =>
    obtain ⟨h1, _, h2⟩ := h
    by_cases e : p.1 = k
    · have e' : q.1 = k := h1.symm.trans e
      have b : atKey (q :: qs) k = some q.2 := by simp [atKey, List.find?_cons, e']
      rw [kO e, b]; exact h2
    · have e' : ¬ q.1 = k := fun z => e (h1.trans z)
      have b : atKey (q :: qs) k = atKey qs k := by simp [atKey, List.find?_cons, e']
      rw [kg e, b]; exact ih
theorem KT.repl {H : Hp} {kvs : List (List Key × V)} {xs : List (List Key × Addr × Value)} (r : KT H kvs xs) (k : List Key) {y : V} {u : Value} (ry : RelV y u) :
    KT H (kvs.map fun kv => if kv.1 = k then (kv.1, y) else kv) (xs.map (putAt k u)) := by
  induction r with
  | nil => exact .nil
  | @cons p q ps qs h t ih =>
    rw [List.map_cons, List.map_cons]
    refine .cons ?_ ih
    obtain ⟨h1, h2, h3⟩ := h
    unfold putAt
    by_cases e : p.1 = k
    · rw [if_pos e, if_pos (h1.symm.trans e)]; exact ⟨h1, h2, ry⟩
    · rw [if_neg e, if_neg (fun z => e (h1.trans z))]; exact ⟨h1, h2, h3⟩
theorem KT.put {H : Hp} {kvs : List (List Key × V)} {xs : List (List Key × Addr × Value)} (r : KT H kvs xs) (k : List Key) {b : Addr} {y : V} {u : Value} (hb : H b = some (.tup (k.map kV))) (ry : RelV y u) :
    KT H (putK kvs k y) (storedH xs k b u) := by
  have e : (kvs.any fun kv => decide (kv.1 = k)) = (atKey xs k).isSome := by
    rw [kc, (r.val k).isSome_eq, Option.isSome_map]
  unfold putK storedH
  rw [e]
  by_cases q : (atKey xs k).isSome = true
  · rw [if_pos q, if_pos q]; exact r.repl k ry
  · rw [if_neg q, if_neg q]; exact Paired.snoc r ⟨rfl, hb, ry⟩
theorem KT.keeps {H H' : Hp} {kvs : List (List Key × V)} {xs : List (List Key × Addr × Value)} (r : KT H kvs xs) (ht : ∀ b ys, H b = some (.tup ys) → H' b = some (.tup ys)) : KT H' kvs xs :=
  Paired.mapP r fun _ _ z => ⟨z.1, ht _ _ z.2.1, z.2.2⟩

section
variable {P : Program} {w : World} {H : Hp} {h : Heap} {a : Addr}
theorem t9 {u : HO} (ok : HOk P w H h) (e : Rd H a u) : ObjOk P w H h a u := e.ok ok
theorem kq {kvs : List (Key × V)} (ok : HOk P w H h) (e : Rd H a (.dK kvs)) : kvs.length ≤ sizeLine ∧ (a == sysModules) = false ∧ ∃ vs, KV kvs vs ∧ h.DictOf (jb P w) a vs :=
  show ObjOk P w H h a (.dK kvs) from t9 ok e
theorem ur {kvs : List (Key × V)} (ok : HOk P w H h) (e : H a = some (.dK kvs)) : kvs.length ≤ sizeLine ∧ (a == sysModules) = false ∧ ∃ vs, KV kvs vs ∧ h.DictOf (jb P w) a vs := kq ok (.inl e)
theorem mj {ks : List Key} (ok : HOk P w H h) (e : H a = some (.tup (ks.map kV))) : (tupleKind (jb P w)).is h ks a := by
  obtain ⟨_, its, r, ⟨o, h1, h2, n, h3⟩, _⟩ := (show ObjOk P w H h a (.tup (ks.map kV)) from ok a _ e)
  exact ⟨o, its.toArray, n, h1, h2, h3, by simpa using nG r⟩
theorem mq {kvs : List (List Key × V)} (ok : HOk P w H h) (e : Rd H a (.dT kvs)) : kvs.length ≤ sizeLine ∧ (a == sysModules) = false ∧
    ∃ xs, KT H kvs xs ∧ h.DictOfH (tupleKind (jb P w)) a xs := by
  obtain ⟨z, y, xs, r, o, es, ep, h1, h2, h3, h4, h5⟩ := (show ObjOk P w H h a (.dT kvs) from t9 ok e)
  refine ⟨z, y, xs, r, o, es, ep, h1, h2, h3, h4, fun x hx => ?_, h5⟩
  have all : ∀ {l : List (List Key × V)} {m : List (List Key × Addr × Value)}, KT H l m → ∀ x ∈ m, (tupleKind (jb P w)).is h x.1 x.2.1 := by
    intro l m q
    induction q with
    | nil => intro x hx; exact nomatch hx
    | @cons p q ps qs hq t ih =>
      intro x hx
      rcases List.mem_cons.mp hx with e | hx
      · subst e
        exact mj ok (by rw [← hq.1]; exact hq.2.1)
      · exact ih x hx
  exact all r x hx
theorem wg {kvs : List (List Key × V)} (ok : HOk P w H h) (e : H a = some (.dT kvs)) : kvs.length ≤ sizeLine ∧ (a == sysModules) = false ∧
    ∃ xs, KT H kvs xs ∧ h.DictOfH (tupleKind (jb P w)) a xs := mq ok (.inl e)
end

def DGet (H : Hp) (a : Addr) (y : V) (r : Option V) : Prop :=
  (∃ kvs k, Rd H a (.dK kvs) ∧ y = kV k ∧ r = jz kvs k) ∨ ∃ kvs k b, Rd H a (.dT kvs) ∧ y = .ref b ∧ H b = some (.tup (k.map kV)) ∧ r = jz kvs k
def DPut (H : Hp) (a : Addr) (y v : V) (H' : Hp) : Prop :=
  (∃ kvs k, H a = some (.dK kvs) ∧ y = kV k ∧ kvs.length < sizeLine ∧ H' = upd H a (.dK (putK kvs k v))) ∨
  ∃ kvs k b, H a = some (.dT kvs) ∧ y = .ref b ∧ H b = some (.tup (k.map kV)) ∧ kvs.length < sizeLine ∧ H' = upd H a (.dT (putK kvs k v))
theorem DGet.k {H : Hp} {a : Addr} {kvs : List (Key × V)} {k : Key} (e : H a = some (.dK kvs)) : DGet H a (kV k) (jz kvs k) := .inl ⟨kvs, k, .inl e, rfl, rfl⟩
theorem DGet.t {H : Hp} {a b : Addr} {kvs : List (List Key × V)} {k : List Key} (e : H a = some (.dT kvs)) (eb : H b = some (.tup (k.map kV))) : DGet H a (.ref b) (jz kvs k) := .inr ⟨kvs, k, b, .inl e, rfl, eb, rfl⟩
theorem DPut.k {H : Hp} {a : Addr} {kvs : List (Key × V)} {k : Key} {v : V} (e : H a = some (.dK kvs)) (hl : kvs.length < sizeLine) : DPut H a (kV k) v (upd H a (.dK (putK kvs k v))) := .inl ⟨kvs, k, e, rfl, hl, rfl⟩
theorem DPut.t {H : Hp} {a b : Addr} {kvs : List (List Key × V)} {k : List Key} {v : V} (e : H a = some (.dT kvs)) (eb : H b = some (.tup (k.map kV))) (hl : kvs.length < sizeLine) :
    DPut H a (.ref b) v (upd H a (.dT (putK kvs k v))) := .inr ⟨kvs, k, b, e, rfl, eb, hl, rfl⟩


section
variable {X : Cx} {pins : List (Addr × Obj)} {σ : St} {H : Hp} {s : Shared} {a : Addr} {y v : V} {u r : Value} {o : Option V} {A : Around} {E : Value → Shared → Prop}

theorem Inv.big (I : Inv X pins σ H s) : sysModules < s.heap.objs.size := by
  have h : mainGlobals < s.heap.objs.size := (I.mod.glob.keeps I.bk).lt
  exact Nat.lt_trans (by decide) h

theorem r9 {Q : Value → Shared → Prop} (hu : A.units + 1 < cLine) (I : Inv X pins σ H s) (g : DGet H a y (some v)) (ry : RelV y u) (h : ∀ w' s', Inv X pins σ H s' → RelV v w' → Q w' s') :
    wpAny (model X.prog X.w) A (getItem (.ref a) u) Q E s := by
  rcases g with ⟨kvs, k, e, ey, l⟩ | ⟨kvs, k, b, e, ey, eb, l⟩
  · subst ey
    obtain ⟨z, hd, vs, rel, dd⟩ := kq I.hok e
    obtain ⟨w', hw, rw'⟩ := RelO.some_of (v := v) (o := valueAt vs k) (by rw [l]; exact rel.val k)
    exact wpAny_getItem_of (kT ry) dd.mapOf hw (h w' _ (I.tok _) rw')
  · subst ey
    cases (show u = Value.ref b from ry)
    obtain ⟨z, hd, xs, rel, dd⟩ := mq I.hok e
    obtain ⟨w', hw, rw'⟩ := RelO.some_of (v := v) (o := (atKey xs k).map (·.2)) (by rw [l]; exact rel.val k)
    obtain ⟨p, hp, hp2⟩ := Option.map_eq_some_iff.mp hw
    refine wpAny_getItem_heap (tupleKind_room_in1 hu) (mj I.hok eb) dd hp ?_
    rw [hp2]
    exact h w' _ (I.tok _) rw'
theorem mZ {h' : Heap} {t' : Nat} {ob : HO} (I : Inv X pins σ H s) (mu : Mut (H a)) (hs : Heap.SameBut a s.heap h') (he : ∃ q, h'.get? a = some q) (new : ObjOk X.prog X.w (upd H a ob) h' a ob) :
    Inv X pins σ (upd H a ob) { s with heap := h', toks := t' } :=
  I.write (x := a) (e := a) mu (.inl rfl) (fun b q hb z => (hs.2 b hb).trans z) he new
theorem oh {P : Program} {w : World} {H' : Hp} {h' : Heap} {kvs : List (Key × V)} {vs : List (Key × Value)} (z : kvs.length ≤ sizeLine) (hd : (a == sysModules) = false) (rel : KV kvs vs) (dd : h'.DictOf (jb P w) a vs) :
    ObjOk P w H' h' a (.dK kvs) := ⟨z, hd, vs, rel, dd⟩
theorem rZ {H' : Hp} {Q : Unit → Shared → Prop} (hu : A.units + 1 < cLine) (I : Inv X pins σ H s) (g : DPut H a y v H') (ry : RelV y u) (rv : RelV v r) (h : ∀ s', Inv X pins σ H' s' → Q () s') :
    wpAny (model X.prog X.w) A (setItem (.ref a) u r) Q E s := by
  rcases g with ⟨kvs, k, e, ey, l, eH⟩ | ⟨kvs, k, b, e, ey, eb, l, eH⟩
  · subst ey eH
    obtain ⟨z, hd, vs, rel, dd⟩ := ur I.hok e
    have hz : vs.length ≤ sizeLine := by rw [← rel.length]; exact z
    have hl : (putK kvs k v).length ≤ sizeLine := by have := jZ kvs k v; omega
    refine wpAny_setItem_pairs (hsz := hz) (kT ry) dd fun h' dd' hs => h _ ?_
    have he : ∃ q, h'.get? a = some q := let ⟨q, _, _, hq, _⟩ := dd'; ⟨q, hq⟩
    exact mZ I (by rw [e]; exact True.intro) hs he (oh hl hd (rel.put k rv) dd')
  · subst ey eH
    cases (show u = Value.ref b from ry)
    obtain ⟨z, hd, xs, rel, dd⟩ := wg I.hok e
    have hz : xs.length ≤ sizeLine := by rw [← Paired.length rel]; exact z
    have hl : (putK kvs k v).length ≤ sizeLine := by have := jZ kvs k v; omega
    refine wpAny_setItem_heap (hsz := hz) (tupleKind_room_in1 hu) (mj I.hok eb) dd fun h' dd' hs => h _ ?_
    obtain ⟨q, es, ep, hq, h2, h3, h4, _, h5⟩ := dd'
    refine mZ I (by rw [e]; exact True.intro) hs ⟨q, hq⟩ ⟨hl, hd, _, (rel.put k eb rv).keeps fun c ys ec => ?_, q, es, ep, hq, h2, h3, h4, h5⟩
    rw [i9 (nU ec e (fun z => nomatch z))]
    exact ec
end

section
variable {X : Cx} {pins : List (Addr × Obj)} {σ : St} {H : Hp} {s : Shared} {a : Addr} {kvs : List (Key × V)} {k : Key} {u : Value} {A : Around} {E : Value → Shared → Prop}
end


def vn (i : Expr) : Prop := ∀ ov iv, subscripted i false ov iv = operate [ov, iv] (getItem ov iv)
theorem uH {prog : Program} {w : World} {A : Around} {E : Value → Shared → Prop} {s : Shared} {env : Env} {value slice : Expr} {pos : Pos} {T id : String} {Q : Value → Shared → Prop}
    (hl : typeLookup (.type T) "__getitem__" = pure (some (.builtin id))) (hs : vn slice)
    (h : wpAny (model prog w) A (eval value env) (fun o s₁ => wpAny (model prog w) A (eval slice env) (fun i s₂ => s₂.TypeIs o T ∧ wpAny (model prog w) A (getItem o i) Q E s₂) E s₁) E s) :
    wpAny (model prog w) A (eval (.Subscript value slice pos) env) Q E s := by
  refine Subscript_ (wpAny_mono h (fun o s₁ h₁ => wpAny_mono h₁ (fun i s₂ h₂ => ?_) fun _ _ x => x) fun _ _ x => x)
  obtain ⟨hT, h₂⟩ := h₂
  unfold subscriptTail
  refine wpAny_bind ?_
  rw [getitemInPython_of_ne hT.not_modules]
  refine wpAny_bind (wpAny_specialOf hT hl ?_)
  have fin : wpAny (model prog w) A (subscripted slice false o i) (fun r s₃ => wpAny (model prog w) A (letTemporaryGo value o r >>= fun _ => pure r) Q E s₃) E s₂ := by
    rw [hs o i]
    exact wpAny_operating (wpAny_mono h₂ (fun r s₃ h₃ => wpAny_bind (wpAny_letTemporaryGo (wpAny_pure h₃))) fun _ _ x => x)
  first
    | exact wpAny_pure (wpAny_bind fin)
    | exact wpAny_bind (wpAny_pure (wpAny_bind fin))
    | exact wpAny_bind fin

theorem pI {X : Cx} {pins : List (Addr × Obj)} {σ : St} {H : Hp} {s : Shared} {a : Addr} {y : V} {o : Option V} (I : Inv X pins σ H s) (g : DGet H a y o) : s.TypeIs (.ref a) "dict" := by
  rcases g with ⟨kvs, k, e, _, _⟩ | ⟨kvs, k, b, e, _, _, _⟩
  · obtain ⟨_, _, vs, _, dd⟩ := kq I.hok e
    exact dd.typeIs
  · obtain ⟨_, _, xs, _, dd⟩ := mq I.hok e
    exact dd.typeIs
def ud (td ty : TE) : TE := fun σ H Q => td σ H fun x H1 => ty σ H1 fun y H2 => ∃ a v, x = .ref a ∧ DGet H2 a y (some v) ∧ Q v H2
def uu (td ty tv : TE) : TS := fun D σ H => tv σ H fun v H1 => td σ H1 fun x H2 => ty σ H2 fun y H3 => ∃ a H4, x = .ref a ∧ DPut H3 a y v H4 ∧ D.nx σ H4
section
variable {X : Cx} {o i e value : Expr} {pos pos' tpos : Pos} {td ty tv : TE}
theorem qj (hu : X.A.units + 1 < cLine) (ho : PE X o td) (hi : PE X i ty) (hs : vn i) : PE X (.Subscript o i pos) (ud td ty) := by
  intro pins s σ H Q I h
  refine uH PySem.F.slot_dict_getitem.lookup hs (thn (ho pins s σ H _ I h) fun u s1 ⟨x, H1, I1, rx, q1⟩ => thn (hi pins s1 σ H1 _ I1 q1) fun iv s2 ⟨y, H2, I2, ry, a, v, ex, g, q2⟩ => ?_)
  subst ex
  obtain rfl : u = Value.ref a := rx
  exact ⟨pI I2 g, r9 hu I2 g ry fun w' s3 I3 rw' => ⟨v, H2, I3, rw', q2⟩⟩
theorem ni (hu : X.A.units + 1 < cLine) (ho : PE X o td) (hi : PE X i ty) (hv : PE X value tv) (hs : swapsWith value (some (.Subscript o i pos')) pos.line X.env = pure false) :
    PS X (.Assign [.Subscript o i pos'] value pos) (uu td ty tv) := by
  intro pins s σ H D I h
  refine wpAny_Assign_Subscript (thn (hv pins s σ H _ I h) fun r s1 ⟨v, H1, I1, rv, q1⟩ => thn (ho pins s1 σ H1 _ I1 q1) fun u s2 ⟨x, H2, I2, rx, q2⟩ => thn (hi pins s2 σ H2 _ I2 q2) fun iv s3 ⟨y, H3, I3, ry, a, H4, ex, g, q3⟩ => ?_) hs
  subst ex
  obtain rfl : u = Value.ref a := rx
  exact rZ hu I3 g ry rv fun s4 I4 => ⟨σ, H4, I4, q3⟩
end


theorem n8 {P : Program} {w : World} {H : Hp} (h : Heap) (hb : sysModules < h.objs.size) : ObjOk P w H (h.push { cls := .type "dict", data := .dict #[] }) h.objs.size (.dK []) :=
  ⟨Nat.zero_le _, beq_eq_false_iff_ne.mpr (Ne.symm (Nat.ne_of_lt hb)), [], .nil, Heap.DictOf.new h⟩
def rU : TE := fun _ H Q => ∀ p, H p = none → Q (.ref p) (upd H p (.dK []))
section
variable {X : Cx} {pos : Pos}
theorem tV : PE X (.Dict [] [] pos) rU := fun pins s σ H Q I h =>
  wpAny_Dict_empty ⟨.ref s.heap.objs.size, _, I.laid (a := s.heap.objs.size) (o := .dK []) (t' := s.toks) (fun _ _ q => Heap.get?_push_of_some _ q) (Nat.le_refl _) (n8 s.heap I.big), rfl, h _ (I.hok.fresh (Nat.le_refl _))⟩
end

def mz : List (TE × TE) → St → Hp → (List (V × V) → Hp → Prop) → Prop
  | [], _, H, Q => Q [] H
  | (tk, tv) :: r, σ, H, Q => tk σ H fun x H1 => tv σ H1 fun y H2 => mz r σ H2 fun ps H3 => Q ((x, y) :: ps) H3
abbrev VV : List (V × V) → List (Value × Value) → Prop := Paired fun p q => RelV p.1 q.1 ∧ RelV p.2 q.2
def PPs (X : Cx) (pos : Pos) (keys : List (Option Expr)) (values : List Expr) (trs : List (TE × TE)) : Prop :=
  ∀ (pins : List (Addr × Obj)) (s : Shared) (σ : St) (H : Hp) (Q : List (V × V) → Hp → Prop), Inv X pins σ H s → mz trs σ H Q →
    wpAny (model X.prog X.w) X.A (evalPairs (pairTrees keys values X.env pos)) (fun vs s' => ∃ ps H', Inv X pins σ H' s' ∧ VV ps vs ∧ Q ps H') X.xe s
theorem uI {X : Cx} {pos : Pos} : PPs X pos [] [] [] := fun pins s σ H Q I h => pairTrees_nil_walk ⟨[], H, I, .nil, h⟩
theorem sW {X : Cx} {pos : Pos} {k v : Expr} {ks : List (Option Expr)} {vs : List Expr} {tk tv : TE} {trs : List (TE × TE)} (hk : PE X k tk) (hv : PE X v tv) (hr : PPs X pos ks vs trs) :
    PPs X pos (some k :: ks) (v :: vs) ((tk, tv) :: trs) := fun pins s σ H Q I h =>
  pairTrees_cons_walk (thn (hk pins s σ H _ I h) fun u s1 ⟨x, H1, I1, rx, q1⟩ => thn (hv pins s1 σ H1 _ I1 q1) fun w2 s2 ⟨y, H2, I2, ry, q2⟩ =>
    thn (hr pins s2 σ H2 _ I2 q2) fun ws s3 ⟨ps, H3, I3, rel, q3⟩ => ⟨(x, y) :: ps, H3, I3, .cons ⟨rx, ry⟩ rel, q3⟩)

def kF (kvs more : List (Key × V)) : List (Key × V) := more.foldl (fun acc kv => putK acc kv.1 kv.2) kvs
theorem KV.merge : ∀ {more : List (Key × V)} {rs : List (Key × Value)} {kvs : List (Key × V)} {vs : List (Key × Value)}, KV more rs → KV kvs vs → KV (kF kvs more) (merged vs rs) := by
  intro more rs kvs vs r
  unfold KV at r
  induction r generalizing kvs vs with
  | nil => intro q; exact q
  | @cons p q ps qs h t ih =>
    intro r0
    have e : KV (putK kvs p.1 p.2) (stored vs q.1 q.2) := by
      have := r0.put p.1 h.2
      rw [← h.1]; exact this
    exact ih e
theorem kU : ∀ (more kvs : List (Key × V)), (kF kvs more).length ≤ kvs.length + more.length
  | [], kvs => by show kvs.length ≤ kvs.length + 0; omega
  | p :: r, kvs => by
    have h1 := kU r (putK kvs p.1 p.2)
    have h2 := jZ kvs p.1 p.2
    show (kF (putK kvs p.1 p.2) r).length ≤ _
    rw [List.length_cons]; omega
theorem l0 {P : Program} {w : World} : ∀ {kvs : List (Key × V)} {ws : List (Value × Value)}, VV (kvs.map fun kv => (kV kv.1, kv.2)) ws → ∃ rs, Carries (jb P w) ws rs ∧ KV kvs rs
  | [], _, r => by rw [List.map_nil] at r; cases r; exact ⟨[], True.intro, .nil⟩
  | p :: kvs, _, r => by
    rw [List.map_cons] at r
    cases r with
    | @cons a b as bs h t =>
      obtain ⟨rs, c, q⟩ := l0 (P := P) (w := w) t
      obtain ⟨b1, b2⟩ := b
      exact ⟨(p.1, b2) :: rs, ⟨kT h.1, rfl, c⟩, .cons ⟨rfl, h.2⟩ q⟩
def ua (trs : List (TE × TE)) : TE := fun σ H Q => ∀ p, H p = none → mz trs σ (upd H p (.dK [])) fun ps H2 => H2 p = some (.dK []) ∧ ∃ kvs : List (Key × V), ps = kvs.map (fun kv => (kV kv.1, kv.2)) ∧ kvs.length ≤ 15 ∧ Q (.ref p) (upd H2 p (.dK (kF [] kvs)))
theorem ux {X : Cx} {pos : Pos} {keys : List (Option Expr)} {values : List Expr} {trs : List (TE × TE)} (h : PPs X pos keys values trs) (hall : keys.all (·.isSome) = true) (hl : keys.length = values.length) (h0 : keys ≠ [])
    (h15 : keys.length ≤ 15) : PE X (.Dict keys values pos) (ua trs) := by
  intro pins s σ H Q I q
  have hn := I.hok.fresh (Nat.le_refl s.heap.objs.size)
  have I1 := I.laid (a := s.heap.objs.size) (o := .dK []) (h' := s.heap.push { cls := .type "dict", data := .dict #[] }) (t' := s.toks) (fun _ _ q => Heap.get?_push_of_some _ q) (Nat.le_refl _) (n8 s.heap I.big)
  refine wpAny_Dict_walk (knd := jb X.prog X.w) hall hl h0 h15 (thn (h pins _ σ _ _ I1 (q _ hn)) fun ws s2 ⟨ps, H2, I2, rel, e, kvs, ep, lk, q2⟩ => ?_)
  subst ep
  obtain ⟨rs, c, rk⟩ := l0 (P := X.prog) (w := X.w) rel
  obtain ⟨z, hd, vs0, r0, dd⟩ := ur I2.hok e
  cases r0
  refine ⟨rs, c, dd, fun h' dd' hs => ⟨.ref s.heap.objs.size, _, ?_, rfl, q2⟩⟩
  have hz : (kF [] kvs).length ≤ sizeLine := by
    have h1 := kU kvs []
    rw [List.length_nil] at h1
    rw [sizeLine_eq]; omega
  have he : ∃ q, h'.get? s.heap.objs.size = some q := let ⟨q, _, _, hq, _⟩ := dd'; ⟨q, hq⟩
  exact mZ I2 (by rw [e]; exact True.intro) hs he (oh hz hd (rk.merge .nil) dd')


structure M1 (X : Cx) (o : Expr) (m : Str) (apos : Pos) (e : Expr) (cpos : Pos) : Prop where
  base : attributeBase o m X.env (eval o X.env) = eval o X.env
  few : ((backTo cpos (starEach [e] X.env)).all (fun x => !x.1) && (backToKw cpos (keywordEach [] X.env)).all (fun x => x.1.isSome)
    && decide (([e] : List Expr).length + ([] : List Keyword).length + (if ([] : List Keyword).isEmpty then 0 else 1) < 30)) = true
  line : (apos.endLine == cpos.line) = true
  trees : backTo cpos (starEach [e] X.env) = [(false, eval e X.env)]
structure M2 (X : Cx) (o : Expr) (m : Str) (apos : Pos) (e f : Expr) (cpos : Pos) : Prop where
  base : attributeBase o m X.env (eval o X.env) = eval o X.env
  few : ((backTo cpos (starEach [e, f] X.env)).all (fun x => !x.1) && (backToKw cpos (keywordEach [] X.env)).all (fun x => x.1.isSome)
    && decide (([e, f] : List Expr).length + ([] : List Keyword).length + (if ([] : List Keyword).isEmpty then 0 else 1) < 30)) = true
  line : (apos.endLine == cpos.line) = true
  trees : backTo cpos (starEach [e, f] X.env) = [(false, eval e X.env), (false, eval f X.env)]

def IsD (H : Hp) (a : Addr) : Prop := (∃ kvs, Rd H a (.dK kvs)) ∨ ∃ kvs, Rd H a (.dT kvs)
theorem vE {X : Cx} {pins : List (Addr × Obj)} {σ : St} {H : Hp} {s : Shared} {a : Addr} (I : Inv X pins σ H s) (d : IsD H a) :
    s.TypeIs (.ref a) "dict" ∧ (∀ b, Value.ref a = .ref b → ∃ ob, s.heap.get? b = some ob ∧ ob.dict = none) ∧ (a == sysModules) = false := by
  rcases d with ⟨kvs, e⟩ | ⟨kvs, e⟩
  · obtain ⟨_, hd, vs, _, dd⟩ := kq I.hok e
    refine ⟨dd.typeIs, fun b q => ?_, hd⟩
    cases q
    obtain ⟨ob, _, _, h1, h2, _⟩ := dd
    exact ⟨ob, h1, h2.2.1⟩
  · obtain ⟨_, hd, xs, _, dd⟩ := mq I.hok e
    refine ⟨dd.typeIs, fun b q => ?_, hd⟩
    cases q
    obtain ⟨ob, _, _, h1, h2, _⟩ := dd
    exact ⟨ob, h1, h2.2.1⟩

section
variable {X : Cx} {pins : List (Addr × Obj)} {σ : St} {H : Hp} {s : Shared} {a : Addr} {y d : V} {u r : Value} {o : Option V} {A : Around} {E : Value → Shared → Prop}
theorem u6 {Q : Value → Shared → Prop} (hu : A.units + 1 < cLine) (I : Inv X pins σ H s) (g : DGet H a y o) (ry : RelV y u) (rd : RelV d r) (h : ∀ w' s', Inv X pins σ H s' → RelV (o.getD d) w' → Q w' s') :
    wpAny (model X.prog X.w) A (call (.builtin "dict.get") [.ref a, u, r]) Q E s := by
  rcases g with ⟨kvs, k, e, ey, l⟩ | ⟨kvs, k, b, e, ey, eb, l⟩
  · subst ey
    obtain ⟨z, hd, vs, rel, dd⟩ := kq I.hok e
    refine call_meetsIn PySem.F.slot_dict_get dd.typeIs PySem.F.entry_dict_get (PySem.F.args_dict_get_3 _ _ _) (meets_dict_get_default (jb X.prog X.w) a (kT ry) hd r) ⟨_, dd.mapOf, h _ _ (I.tok _) ?_⟩
    rw [l]
    exact (rel.val k).getD rd
  · subst ey
    cases (show u = Value.ref b from ry)
    obtain ⟨z, hd, xs, rel, dd⟩ := mq I.hok e
    refine call_meetsIn PySem.F.slot_dict_get dd.typeIs PySem.F.entry_dict_get (PySem.F.args_dict_get_3 _ _ _) (meetsH_dict_get_default (tupleKind (jb X.prog X.w)) a b hd r) ⟨tupleKind_room_in1 hu, k, xs, mj I.hok eb, dd, h _ _ (I.tok _) ?_⟩
    rw [l]
    exact (rel.val k).getD rd
end

def sr (td ty tx : TE) : TE := fun σ H Q => td σ H fun x H1 => ∃ a, x = .ref a ∧ IsD H1 a ∧ ty σ H1 fun y H2 => tx σ H2 fun z H3 => ∃ o, DGet H3 a y o ∧ Q (o.getD z) H3
section
variable {X : Cx} {o e f : Expr} {apos cpos : Pos} {td ty tx : TE}
theorem lP (hu : X.A.units + 1 < cLine) (ho : PE X o td) (he : PE X e ty) (hf : PE X f tx) (m : M2 X o "get" apos e f cpos) : PE X (.Call (.Attribute o "get" apos) [e, f] [] cpos) (sr td ty tx) := by
  intro pins s σ H Q I h
  refine wpAny_Call_method m.base m.few m.line PySem.F.plainAttrs_dict PySem.F.slot_dict_get PySem.F.type_dict_get (thn (ho pins s σ H _ I h) fun u s1 ⟨x, H1, I1, rx, a, ex, d, q1⟩ => ?_)
  subst ex
  obtain rfl : u = Value.ref a := rx
  obtain ⟨t1, t2, _⟩ := vE I1 d
  refine ⟨t1, t2, ?_⟩
  rw [m.trees]
  refine Calls.callWith_builtin rfl (Calls.evalArgs_plain (Calls.spliced_cons (thn (he pins s1 σ H1 _ I1 q1) fun iv s2 ⟨y, H2, I2, ry, q2⟩ =>
    Calls.spliced_cons (thn (hf pins s2 σ H2 _ I2 q2) fun fv s3 ⟨z, H3, I3, rz, ov, g, q3⟩ => Calls.spliced_nil ?_))))
  exact u6 hu I3 g ry rz fun w' s4 I4 rw' => ⟨_, H3, I4, rw', q3⟩
end

section
variable {X : Cx} {pins : List (Addr × Obj)} {σ : St} {H : Hp} {s : Shared} {a : Addr} {kvs : List (Key × V)} {A : Around} {E : Value → Shared → Prop}
end


section
variable {X : Cx} {pins : List (Addr × Obj)} {σ : St} {H : Hp} {s : Shared} {a : Addr} {y : V} {u : Value} {A : Around} {E : Value → Shared → Prop}
end
end L2
namespace L2
open PySem PySem.Spec PyProof.Rows
section
variable {κ : Type} [DecidableEq κ]
end
end L2

set_option Elab.async false
set_option linter.all false
set_option maxRecDepth 100000
set_option maxHeartbeats 1000000
namespace L2
open PySem PySem.Spec PyProof.Rows
def KEnt (P : Params) : List DictEntry → List (Str × V) → Prop
  | [], [] => True
  | e :: es, kv :: r => (∃ t, e.key = .str kv.1 t) ∧ e.hash = PyData.keyHash P kv.1 ∧ RelV kv.2 e.val ∧ KEnt P es r
  | _, _ => False
structure KDct (P : Params) (K : PySem.W.Frag) (a : Addr) (kvs : List (Str × V)) : Prop where
  sm : (a == sysModules) = false
  nd : (kvs.map (·.1)).Nodup
  ob : ∃ es ep, K.lookup a = some ⟨.type "dict", none, .dict es ep, #[]⟩ ∧ KEnt P es.toList kvs
def kvK (kvs : List (Str × V)) : List (Key × V) := kvs.map fun kv => (.inr kv.1, kv.2)
theorem KEnt.pairs {prog : Program} {w : World} : ∀ {es : List DictEntry} {kvs : List (Str × V)}, KEnt w.params es kvs → ∃ vs : List (Key × Value), KV (kvK kvs) vs ∧ Pairs (jb prog w) es vs ∧ ∀ e ∈ es, ∃ k, (jb prog w).is k e.key = true ∧ e.hash = (jb prog w).hash k
  | [], [], _ => ⟨[], .nil, .nil, fun e h => by cases h⟩
  | e :: es, kv :: r, ⟨⟨t, hk⟩, hh, rv, t2⟩ => by
    obtain ⟨vs, h1, h2, h3⟩ := KEnt.pairs (prog := prog) t2
    have is : (jb prog w).is (.inr kv.1) e.key = true := by rw [hk]; exact kT (k := .inr kv.1) (u := .str kv.1 t) ⟨t, rfl⟩
    refine ⟨(.inr kv.1, e.val) :: vs, .cons ⟨rfl, rv⟩ h1, .cons is rfl h2, fun e' he => ?_⟩
    rcases List.mem_cons.mp he with rfl | he
    · exact ⟨_, is, hh⟩
    · exact h3 e' he
  | [], _ :: _, h => h.elim
  | _ :: _, [], h => h.elim
theorem nJ : ∀ {l : List Str}, l.Nodup → (l.map (Sum.inr : Str → Key)).Nodup
  | [], _ => .nil
  | a :: l, h => by
    rw [List.nodup_cons] at h
    rw [List.map_cons, List.nodup_cons]
    refine ⟨fun m => ?_, nJ h.2⟩
    obtain ⟨b, hb, e⟩ := List.mem_map.mp m
    injection e with e
    exact h.1 (e ▸ hb)
section
variable {X : Cx} {pins : List (Addr × Obj)} {σ : St} {H : Hp} {s : Shared} {a : Addr} {k : Str} {v : V} {u : Value} {A : Around} {E : Value → Shared → Prop} {kvs : List (Str × V)}
theorem KDct.dict (I : Inv X pins σ H s) (D : KDct X.w.params X.K a kvs) : ∃ vs : List (Key × Value), KV (kvK kvs) vs ∧ s.heap.DictOf (jb X.prog X.w) a vs := by
  obtain ⟨sm, nd, es, ep, hl, he⟩ := D
  obtain ⟨vs, h1, h2, h3⟩ := he.pairs (prog := X.prog) (w := X.w)
  refine ⟨vs, h1, _, es, ep, I.kIn a _ hl, ⟨rfl, rfl, rfl⟩, rfl, fun e m => h3 e (by simpa using m), h2, ?_⟩
  rw [← h1.keys]
  have : (kvK kvs).map (·.1) = (kvs.map (·.1)).map (Sum.inr : Str → Key) := by
    unfold kvK
    rw [List.map_map, List.map_map]
    rfl
  rw [this]
  exact nJ nd
end
section
variable {X : Cx} {o i : Expr} {pos : Pos} {td ty : TE}
end
end L2

set_option Elab.async false
set_option linter.all false
set_option maxRecDepth 100000
set_option maxHeartbeats 1000000
namespace PySem
open Sem (wp)
namespace DictL
section
variable {prog : Program} {w : World} {A : Around} {E : Value → Shared → Prop} {s : Shared}
theorem uN : typeLookup (.type "list") (Str.ofString "__getattribute__") = pure (some (.builtin "list.__getattribute__")) := by kernel_rfl
theorem nj : typeLookup (.type "list") (Str.ofString "keys") = pure none := by kernel_rfl
theorem uB {l : Addr} {xs : Array Value} {n : Nat} {sl : Array (Option Value)} {t : Tok} {R : Result → Shared → Prop} (ho : s.heap.get? l = some { cls := .type "list", dict := none, data := .seq xs n, slots := sl }) (hh : A.handled = none)
    (h : ∀ h' tk e, s.heap.NewAttrErr h' e (.ref l) (Str.ofString "keys") → R (.error (.ref e)) { s with heap := h', toks := tk }) : codeAny (model prog w) A (.call (.builtin "list.__getattribute__") ⟨[.ref l, .str (Str.ofString "keys") t], []⟩) R s :=
  codeAny_call_builtin F.slot_list_getattribute.plain am_entry_list_getattribute (F.slot_list_getattribute.check _ _ _ _ _ _ _ _ ⟨_, ho, rfl⟩ (F.args_list_getattribute_2 _ _)
    (meets_getattribute_miss_list l xs n sl (Str.ofString "keys") t nj (by decide) (by decide) prog w A R s ⟨ho, hh, h⟩))
theorem m7 {l : Addr} {xs : Array Value} {n : Nat} {sl : Array (Option Value)} {Q : Option Value → Shared → Prop} (ho : s.heap.get? l = some { cls := .type "list", dict := none, data := .seq xs n, slots := sl }) (hh : A.handled = none)
    (h : ∀ h' tk, (∀ b o, s.heap.get? b = some o → h'.get? b = some o) → Q none { s with heap := h', toks := tk }) : wpAny (model prog w) A (getAttr? (.ref l) (Str.ofString "keys")) Q E s := by
  have hT : s.TypeIs (.ref l) "list" := ⟨_, ho, rfl⟩
  unfold getAttr? mkText getAttrBy? getAttrBy getAttrByItsOwn hookBefore callGetattribute getattributeRaised
  have h1 := uN
  have h2 := nj
  wp_walk
  refine wpAny_of_eq (F.slot_list_getattribute.bind _) ?_
  dsimp only
  refine wpAny_call (uB ho hh fun h' tk e ne => ?_)
  obtain ⟨kp, nw, t, u, he⟩ := ne
  have h3 := sub_AttributeError
  have h4 := am_list_getattr_none
  dsimp only
  unfold hookBehind hookOrError attributeErrorLeaves
  wp_walk
  exact h h' tk kp
end
theorem pair_items {M : Model} {A : Around} {E : Value → Shared → Prop} {s : Shared} {b : Addr} {o : Obj} {m : Nat} {x y : Value} {Q : List Value → Shared → Prop} (ho : s.heap.get? b = some o) (hc : o.cls = .type "tuple") (hd : o.data = .seq #[x, y] m) (h : Q [x, y] s) : wpAny M A (Builtin.Dict.pairItems (.ref b)) Q E s := by
  unfold Builtin.Dict.pairItems
  have hT : s.TypeIs (.ref b) "tuple" := ⟨_, ho, hc⟩
  refine wpAny_bind (wpAny_typeOf hT ?_)
  rw [if_pos (by decide)]
  refine wpAny_bind (wpAny_seqItems ho hd (wpAny_pure h))
theorem jT : plainId "dict.update.loop" = true := by decide +kernel
theorem kR : entryFor table "dict.update.loop" = some Builtin.«dict.update.loop» := entryFor_of_tree (by kernel_rfl)
section
variable {prog : Program} {w : World} {A : Around} {R : Result → Shared → Prop} {I : Addr} {fp wr : List Addr} {n : Nat} {P : Nat → Value → Prop} {St : Nat → Heap → Prop} {K : Type} [DecidableEq K] {knd : KeyKind prog w K}
theorem rf (kvs : List (K × Value)) (k : K) (v : Value) : (stored kvs k v).length ≤ kvs.length + 1 := by
  unfold stored
  split <;> simp
def qi (n : Nat) (tb : Nat → Addr) (ku u : Nat → Value) (h : Heap) : Prop := ∀ i, i < n → ∃ o m, h.get? (tb i) = some o ∧ o.cls = .type "tuple" ∧ o.data = .seq #[ku i, u i] m
theorem lG (W : Walks prog w A.in1 I fp wr n P St) (a : Addr) (ha : a ∉ fp) (hw : a ∉ wr) (tb : Nat → Addr) (ku u : Nat → Value) (kk : Nat → K) (hval : ∀ i v, P i v → v = .ref (tb i)) (hk : ∀ i, i < n → knd.is (kk i) (ku i) = true) (ht : ∀ i, i < n → tb i ∉ a :: wr) :
    ∀ (k i : Nat) (s : Shared) (kvs : List (K × Value)) (c : Int) (tk0 : Tok), n - i = k → i ≤ n → St i s.heap → qi n tb ku u s.heap →
    s.heap.DictOf knd a kvs → kvs.length + k ≤ sizeLine →
    (∀ h' tk, h'.DictOf knd a (((List.range n).drop i).foldl (fun q j => stored q (kk j) (u j)) kvs) → (∀ b o, b ∉ a :: wr → s.heap.get? b = some o → h'.get? b = some o) → R (.ok (.ret .none)) { s with heap := h', toks := tk }) →
    codeAny (model prog w) A (.builtin "dict.update.loop" ⟨[.ref a, .ref I, .int c tk0, .none], []⟩) R s := by
  intro k
  induction k with
  | zero =>
    intro i s kvs c tk0 hk' hi hst hT hS hb hR
    have hin : i = n := by omega
    subst hin
    refine codeAny_builtin kR ?_
    rw [Around.under_plainId jT _]
    show wpAny _ A.in1 (pyNext (.ref I) >>= _) _ _ s
    refine wpAny_bind (W.done s _ _ hst fun h' tk hk' => ?_)
    dsimp only
    unfold Builtin.Dict.addKeywords
    wp_walk
    obtain ⟨o, es, ep, ho, r⟩ := hS
    refine hR h' tk ?_ fun b o hbw e => hk' b o (fun z => hbw (List.mem_cons_of_mem _ z)) e
    rw [List.drop_of_length_le (by simp)]
    exact ⟨o, es, ep, hk' a o hw ho, r⟩
  | succ k ih =>
    intro i s kvs c tk0 hk' hi hst hT hS hb hR
    have hlt : i < n := by omega
    have hd : (List.range n).drop i = i :: (List.range n).drop (i + 1) := by
      rw [List.drop_eq_getElem_cons (by simpa using hlt)]; simp
    refine codeAny_builtin kR ?_
    rw [Around.under_plainId jT _]
    show wpAny _ A.in1 (pyNext (.ref I) >>= _) _ _ s
    refine wpAny_bind (W.item i s _ _ hlt hst fun v h' tk hP hst' hkp => ?_)
    obtain rfl := hval i v hP
    obtain ⟨o, m, ho, hc, hd2⟩ := hT i hlt
    have ho' := hkp _ _ (fun z => ht i hlt (List.mem_cons_of_mem _ z)) ho
    obtain ⟨od, es, ep, hod, rr⟩ := hS
    have hS' : h'.DictOf knd a kvs := ⟨od, es, ep, hkp a od hw hod, rr⟩
    dsimp only
    refine wpAny_bind (wpAny_holding (wpAny_bind (wpAny_tryCatch (pair_items ho' hc hd2 ?_))))
    dsimp only
    refine wpAny_holding (wpAny_dictSet_pairs (hk i hlt) hS' (fun h2 hS2 hsb => ?_) (by omega))
    refine wpAny_pure ⟨plainId_quiet jT _, ih (i + 1) _ (stored kvs (kk i) (u i)) _ _ (by omega) hlt ?_ (fun j hj => ?_) hS2 ?_ fun h3 tk3 hS3 hk3 => ?_⟩
    · exact W.frame _ _ _ hst' fun b hbf o e => hsb.2 b (fun z => ha (z ▸ hbf)) ▸ e
    · obtain ⟨o, m, h1, h2, h3⟩ := hT j hj
      refine ⟨o, m, ?_, h2, h3⟩
      have e1 := hkp _ _ (fun z => ht j hj (List.mem_cons_of_mem _ z)) h1
      exact (hsb.2 _ (fun z => ht j hj (z ▸ List.mem_cons_self ..))).trans e1
    · have := rf kvs (kk i) (u i)
      omega
    · have := hR h3 tk3
      rw [hd, List.foldl_cons] at this
      refine this hS3 fun b o hbw e => hk3 b o hbw ((hsb.2 b (fun z => hbw (z ▸ List.mem_cons_self ..))).trans (hkp b o (fun z => hbw (List.mem_cons_of_mem _ z)) e))
end
section
variable {prog : Program} {w : World} {A : Around} {E : Value → Shared → Prop} {s : Shared} {K : Type} [DecidableEq K] {knd : KeyKind prog w K}
theorem pZ {l d : Addr} {xs : Array Value} {n : Nat} {sl : Array (Option Value)} {Q : PySem.Fin → Shared → Prop} (ho : s.heap.get? l = some { cls := .type "list", dict := none, data := .seq xs n, slots := sl }) (hh : A.handled = none)
    (h : ∀ (h' : Heap) (tk : Nat), (∀ b o, s.heap.get? b = some o → h'.get? b = some o) → True → Q (.again (.builtin "dict.update.loop" ⟨[.ref d, .ref h'.objs.size, rawInt 0, .none], []⟩)) { s with heap := h'.push { cls := .type "list_iterator", data := .fields #[.ref l, rawInt 0] }, toks := tk }) :
    wpAny (model prog w) A (Builtin.Dict.updateFrom "dict.__init__" d (.ref l) [] .none) Q E s := by
  unfold Builtin.Dict.updateFrom
  refine wpAny_bind (wpAny_typeOf ⟨_, ho, rfl⟩ ?_)
  dsimp only
  rw [if_pos (by decide)]
  refine wpAny_bind (m7 ho hh fun h' tk kp => ?_)
  rw [if_pos (by rfl)]
  have hl' : h'.IsList l xs := ⟨_, kp _ _ ho, rfl, n, rfl⟩
  wp_walk using wpAny_pyIter_list hl'
  exact h h' tk kp trivial
theorem kr {M : Model} {self x : Value} {Q : Unit → Shared → Prop} (hT : s.TypeIs self "dict") (h : Q () s) : wpAny M A (Builtin.Dict.notOrdered "__init__" ⟨[self, x], []⟩) Q E s := by
  unfold Builtin.Dict.notOrdered
  refine wpAny_bind (wpAny_typeOf (show s.TypeIs (([self, x] : List Value).headD .none) "dict" from hT) ?_)
  rw [if_neg (by decide)]
  exact wpAny_pure h
set_option maxHeartbeats 4000000 in
theorem call_dict_pairs {l : Addr} {its : List Value} {tb : Nat → Addr} {ku u : Nat → Value} {kk : Nat → K} {Q : Value → Shared → Prop} (hh : A.handled = none) (hl : ∃ n sl, s.heap.get? l = some { cls := .type "list", dict := none, data := .seq its.toArray n, slots := sl }) (hi : ∀ (j : Nat) (v : Value), its[j]? = some v → v = .ref (tb j)) (hp : qi its.length tb ku u s.heap) (hk : ∀ i, i < its.length → knd.is (kk i) (ku i) = true) (hb : its.length ≤ sizeLine)
    (h : ∀ h' tk, h'.DictOf knd s.heap.objs.size ((List.range its.length).foldl (fun q j => stored q (kk j) (u j)) []) → (∀ b o, s.heap.get? b = some o → h'.get? b = some o) → Q (.ref s.heap.objs.size) { s with heap := h', toks := tk }) :
    wpAny (model prog w) A (call (.type "dict") [.ref l]) Q E s := by
  obtain ⟨n, sl, hl⟩ := hl
  obtain ⟨c, tl, hmro⟩ := F.kt_called_dict.mro
  have hmade := F.kt_called_dict.made
  have hsub := F.kt_called_dict.sub
  refine wpAny_call (codeAny_of_tree ?_)
  show wpAny _ _ (callAny (.type "dict") _) _ _ _
  refine wpAny_pure ⟨Code.quiet_builtin _ (by decide +kernel), codeAny_builtin F.entry_type_call ?_⟩
  rw [Around.under_plain (weight_type_call_type "dict" [.ref l] []) rfl]
  have h1 := F.kt_called_dict.notType
  have h2 := F.kt_called_dict.canCreate
  have hct := F.kt_typeCall_dict_1 (.ref l)
  repeat (any_goals (first | assumption | wp_step))
  refine codeAny_mono (kt_code_dict_new (E := E) (.ref l) (Q₁ := fun obj s₁ => obj = .ref s.heap.objs.size ∧ s₁ = { s with heap := s.heap.push { cls := .type "dict", data := .dict #[] } }) ⟨rfl, rfl⟩) fun r s₁ hr => ?_
  cases r with
  | error e => exact hr
  | ok fl =>
    cases fl with
    | ret obj =>
      obtain ⟨rfl, rfl⟩ := hr
      have hS : (s.heap.push { cls := .type "dict", data := .dict #[] }).get? s.heap.objs.size = some { cls := .type "dict", data := .dict #[] } := Heap.get?_push_size _ rfl
      have hT : Shared.TypeIs { s with heap := s.heap.push { cls := .type "dict", data := .dict #[] } } (.ref s.heap.objs.size) "dict" := ⟨_, hS, rfl⟩
      have hli := F.kt_called_dict.init.lookup
      have hbi := F.kt_called_dict.init.bind (.ref s.heap.objs.size)
      repeat (any_goals (first | assumption | wp_step))
      refine codeAny_mono (codeAny_call_builtin (R := wants (fun r s₂ => r = .none ∧ Q (.ref s.heap.objs.size) s₂) E) F.kt_called_dict.init.plain F.entry_dict_init (F.slot_dict_init.check _ _ _ _ _ _ _ _ hT (F.args_dict_init_2 _ _) ?_)) fun r₂ s₂ hr₂ => ?_
      · have ho' : (s.heap.push { cls := .type "dict", data := .dict #[] }).get? l = some { cls := .type "list", dict := none, data := .seq its.toArray n, slots := sl } := Heap.get?_push_of_some _ hl
        have hlt : l < s.heap.objs.size := Heap.lt_size hl
        have hsz : (s.heap.push { cls := .type "dict", data := .dict #[] }).objs.size = s.heap.objs.size + 1 := Heap.size_push ..
        unfold Builtin.«dict.__init__» Builtin.Dict.selfAndRest Builtin.Dict.notOrdered Builtin.Dict.addrOf Builtin.Dict.updateCommon
        refine wpAny_bind (wpAny_bind (kr hT ?_))
        dsimp only
        refine wpAny_bind (wpAny_pure (wpAny_pure ?_))
        dsimp only
        refine pZ (d := s.heap.objs.size) ho' hh fun h' tk kp _ => ?_
        have kp' : ∀ b o, s.heap.get? b = some o → h'.get? b = some o := fun b o e => kp b o (Heap.get?_push_of_some _ e)
        have lt' : s.heap.objs.size < h'.objs.size := Heap.lt_size (kp _ _ hS)
        refine ⟨plainId_quiet jT _, ?_⟩
        refine lG (knd := knd) (Walks.list (A := A.in1.in1) hh _ l (show l ≠ h'.objs.size from Nat.ne_of_lt (Nat.lt_trans hlt lt')) its.toArray) s.heap.objs.size ?_ ?_ tb ku u kk (fun j v hP => hi j v (by simpa using hP)) (fun i h => hk i (by simpa using h)) ?_ its.toArray.size 0 _ [] 0 0 (Nat.sub_zero _) (Nat.zero_le _) ⟨⟨_, Heap.get?_push_size _ rfl, rfl, rfl⟩, ?_⟩ ?_ ?_ ?_ ?_
        · intro hm
          rcases List.mem_cons.mp hm with e | hm
          · exact absurd e (Nat.ne_of_lt lt')
          · exact absurd (List.mem_singleton.mp hm) (Nat.ne_of_gt hlt)
        · exact fun hm => absurd (List.mem_singleton.mp hm) (Nat.ne_of_lt lt')
        · intro i hi2 hm
          obtain ⟨o, m, ho2, _⟩ := hp i (by simpa using hi2)
          have lt2 := Heap.lt_size ho2
          rcases List.mem_cons.mp hm with e | hm
          · exact absurd e (Nat.ne_of_lt lt2)
          · exact absurd (List.mem_singleton.mp hm) (Nat.ne_of_lt (Nat.lt_trans lt2 lt'))
        · exact ⟨_, Heap.get?_push_of_some _ (kp' _ _ hl), rfl, n, rfl⟩
        · exact fun i hi2 => let ⟨o, m, a, b, c⟩ := hp i (by simpa using hi2); ⟨o, m, Heap.get?_push_of_some _ (kp' _ _ a), b, c⟩
        · exact ⟨_, #[], 0, Heap.get?_push_of_some _ (kp _ _ hS), ⟨rfl, rfl, rfl⟩, rfl, fun e he => by simp at he, .nil, .nil⟩
        · simpa using hb
        · intro h2 tk2 hD hk2
          refine ⟨rfl, h h2 tk2 (by simpa using hD) fun b o e => hk2 b o (fun hm => ?_) (Heap.get?_push_of_some _ (kp' _ _ e))⟩
          have lt2 := Heap.lt_size e
          rcases List.mem_cons.mp hm with z | hm
          · exact absurd z (Nat.ne_of_lt lt2)
          · exact absurd (List.mem_singleton.mp hm) (Nat.ne_of_lt (Nat.lt_trans lt2 lt'))
      · cases r₂ with
        | error e => exact hr₂
        | ok fl₂ =>
          cases fl₂ with
          | ret r =>
            obtain ⟨rfl, hq⟩ := hr₂
            repeat (any_goals (first | assumption | wp_step))
          | _ => exact hr₂.elim
    | _ => exact hr.elim
end
end DictL
end PySem

set_option Elab.async false
set_option linter.all false
set_option maxRecDepth 100000
set_option maxHeartbeats 1000000
namespace L2
open PySem PySem.Spec PyProof.Rows
def kQ (kvs : List (Key × V)) : List (Key × V) := kvs.foldl (fun q kv => putK q kv.1 kv.2) []
theorem se (kvs : List (Key × V)) : (kQ kvs).length ≤ kvs.length := by
  have : ∀ (kvs q : List (Key × V)), (kvs.foldl (fun q kv => putK q kv.1 kv.2) q).length ≤ q.length + kvs.length := by
    intro kvs
    induction kvs with
    | nil => intro q; exact Nat.le_refl _
    | cons a l ih =>
      intro q
      have h1 := ih (putK q a.1 a.2)
      have h2 := jZ q a.1 a.2
      rw [List.foldl_cons, List.length_cons]
      omega
  have := this kvs []
  simpa [kQ] using this
section
variable {X : Cx}
theorem qp (hc : X.calm = true) : jE X (.type "dict") (fun xs H Q => ∃ (p : Addr) (ps : List Addr) (kvs : List (Key × V)), xs = [.ref p] ∧ SqL X.K H p (ps.map V.ref) ∧ ps.length = kvs.length ∧ (∀ (j : Nat) (a : Addr) (kv : Key × V), ps[j]? = some a → kvs[j]? = some kv → SqT X.K H a [kV kv.1, kv.2]) ∧ ∀ d, H d = none → Q (.ref d) (upd H d (.dK (kQ kvs)))) := by
  intro pins s σ H xs us Q I r h
  obtain ⟨p, ps, kvs, rfl, hq, hl, ht, q⟩ := h
  obtain ⟨u, rfl, rx⟩ := vals1 r
  cases rx
  obtain ⟨its, r', ⟨o, n, e, c, dn, dt⟩, hz⟩ := I.list hq
  have len := r'.length
  rw [List.length_map] at len hz
  obtain ⟨g, hg⟩ := Classical.axiomOfChoice (r := fun (j : Nat) (g : Addr × Key × Value × Value) => ∀ a kv, ps[j]? = some a → kvs[j]? = some kv → g.1 = a ∧ g.2.1 = kv.1 ∧ (∃ o m, s.heap.get? a = some o ∧ o.cls = .type "tuple" ∧ o.data = .seq #[g.2.2.1, g.2.2.2] m) ∧ RelV (kV kv.1) g.2.2.1 ∧ RelV kv.2 g.2.2.2) (fun j => by
    by_cases hj : j < ps.length
    · have e1 : ps[j]? = some ps[j] := List.getElem?_eq_getElem hj
      have e2 : kvs[j]? = some (kvs[j]'(by omega)) := List.getElem?_eq_getElem (by omega)
      obtain ⟨its2, rv, ⟨o2, h1, h2, m2, h3⟩, _⟩ := I.tuple (ht j _ _ e1 e2)
      cases rv with
      | cons ra rv =>
        cases rv with
        | cons rb rv =>
          cases rv with
          | nil => exact ⟨(ps[j], (kvs[j]'(by omega)).1, _, _), fun a kv h4 h5 => by
              rw [e1] at h4
              rw [e2] at h5
              injection h4 with h4
              injection h5 with h5
              subst h4 h5
              exact ⟨rfl, rfl, ⟨o2, m2, h1, h2, h3⟩, ra, rb⟩⟩
    · exact ⟨(0, .inl 0, .none, .none), fun a kv h4 => absurd (List.getElem?_eq_some_iff.mp h4).1 hj⟩)
  have at_ : ∀ j, j < ps.length → ∃ a kv, ps[j]? = some a ∧ kvs[j]? = some kv := fun j hj => ⟨_, _, List.getElem?_eq_getElem hj, List.getElem?_eq_getElem (by omega)⟩
  have nn : its.length = ps.length := len.symm
  obtain ⟨cls, dd, data, sl⟩ := o
  simp only at c dn dt
  subst c dn dt
  refine PySem.DictL.call_dict_pairs (knd := jb X.prog X.w) (tb := fun j => (g j).1) (ku := fun j => (g j).2.2.1) (u := fun j => (g j).2.2.2) (kk := fun j => (g j).2.1) (I.ok.hd hc) ⟨n, sl, e⟩ (fun j v ev => ?_) (fun j hj => ?_) (fun j hj => ?_) (by rw [nn]; exact hz) fun h' tk hD hk => ?_
  · obtain ⟨hj, e'⟩ := List.getElem?_eq_some_iff.mp ev
    obtain ⟨a, kv, h1, h2⟩ := at_ j (by omega)
    obtain ⟨x, hx, rv⟩ := kK r' hj
    rw [List.getElem?_map, h1] at hx
    injection hx with hx
    subst hx
    rw [← e', (show its[j] = Value.ref a from rv), (hg j a kv h1 h2).1]
  · obtain ⟨a, kv, h1, h2⟩ := at_ j (by omega)
    obtain ⟨g1, _, ⟨o, m, h3, h4, h5⟩, _⟩ := hg j a kv h1 h2
    exact ⟨o, m, (show s.heap.get? (g j).1 = some o by rw [g1]; exact h3), h4, h5⟩
  · obtain ⟨a, kv, h1, h2⟩ := at_ j (by omega)
    obtain ⟨_, g2, _, g3, _⟩ := hg j a kv h1 h2
    show (jb X.prog X.w).is (g j).2.1 (g j).2.2.1 = true
    rw [g2]
    exact kT g3
  · have rel : ∀ m, m ≤ kvs.length → KV ((kvs.take m).foldl (fun q kv => putK q kv.1 kv.2) []) ((List.range m).foldl (fun q j => stored q (g j).2.1 (g j).2.2.2) []) := by
      intro m
      induction m with
      | zero => intro _; exact .nil
      | succ m ih =>
        intro hm
        have e2 : kvs[m]? = some (kvs[m]'(by omega)) := List.getElem?_eq_getElem (by omega)
        obtain ⟨_, g2, _, _, g4⟩ := hg m (ps[m]'(by omega)) _ (List.getElem?_eq_getElem (by omega)) e2
        rw [List.range_succ, List.foldl_append, List.take_succ, e2, List.foldl_append]
        show KV (putK _ _ _) (stored _ _ _)
        rw [g2]
        exact (ih (by omega)).put _ g4
    have rel' : KV (kQ kvs) ((List.range its.length).foldl (fun q j => stored q (g j).2.1 (g j).2.2.2) []) := by
      have := rel kvs.length (Nat.le_refl _)
      rw [List.take_length] at this
      rw [nn, hl]
      exact this
    have hd : (s.heap.objs.size == sysModules) = false := by
      have := I.big
      exact beq_false_of_ne fun z => by rw [z] at this; exact absurd this (Nat.lt_irrefl _)
    exact ⟨.ref s.heap.objs.size, _, I.laid (o := .dK (kQ kvs)) hk (Nat.le_refl _) (oh (by have := se kvs; omega) hd rel' hD), rfl, q _ (I.hok.fresh (Nat.le_refl _))⟩
end
end L2

set_option Elab.async false
set_option linter.all false
set_option maxRecDepth 100000
set_option maxHeartbeats 1000000
namespace PySem
open Sem (wp)
namespace DictE
section
variable {prog : Program} {w : World} {A : Around} {E : Value → Shared → Prop} {s : Shared} {K : Type} [DecidableEq K] {knd : KeyKind prog w K}
theorem kr {M : Model} {self x : Value} {Q : Unit → Shared → Prop} (hT : s.TypeIs self "dict") (h : Q () s) : wpAny M A (Builtin.Dict.notOrdered "__eq__" ⟨[self, x], []⟩) Q E s := by
  unfold Builtin.Dict.notOrdered
  first
    | (refine wpAny_bind (wpAny_typeOf (show s.TypeIs (([self, x] : List Value).headD .none) "dict" from hT) ?_)
       rw [if_neg (by decide)]
       exact wpAny_pure h)
    | (rw [if_neg (by decide)]
       exact wpAny_pure h)
    | (rw [if_pos (by decide)]
       refine wpAny_bind (wpAny_typeOf (show s.TypeIs (([self, x] : List Value).headD .none) "dict" from hT) ?_)
       rw [if_neg (by decide)]
       exact wpAny_pure h)
    | exact wpAny_pure h
theorem eq_tree {a b : Addr} {Q : Value → Shared → Prop} (hu : A.units < cLine) (ha : s.TypeIs (.ref a) "dict") (hb : s.TypeIs (.ref b) "dict") (h : wpAny (model prog w) A.in1 (Builtin.Dict.samePairs "dict.__eq__" a b) (fun r s' => Q (.bool r) s') E s) : wpAny (model prog w) A (compareOp .Eq (.ref a) (.ref b)) Q E s := by
  show wpAny (model prog w) A (richCompare .Eq (.ref a) (.ref b)) Q E s
  refine wpAny_richCompare_same_room ha hb F.slot_dict_eq (wpAny_call (codeAny_call_builtin F.slot_dict_eq.plain F.entry_dict_eq (F.slot_dict_eq.check _ _ _ _ _ _ _ _ ha (F.args_dict_eq_2 _ _) ?_))) hu
  unfold Builtin.«dict.__eq__»
  wp_step
  unfold Builtin.Dict.dictSlotArgs
  refine wpAny_bind ?_
  dsimp only
  refine wpAny_bind (kr ha ?_)
  refine wpAny_of_eq (a := (Value.ref a, Value.ref b)) rfl ?_
  refine wpAny_bind (wpAny_isInstance hb F.kt_called_dict.sub ?_)
  rw [if_neg (by decide)]
  refine wpAny_bind (wpAny_pure (wpAny_bind (wpAny_pure (wpAny_bind ?_))))
  refine wpAny_mono h (fun r s' hq => wpAny_pure ?_) (fun e s' he => he)
  cases r
  · exact ⟨(fun z => by cases z), hq⟩
  · exact ⟨(fun z => by cases z), hq⟩
theorem pairs_len : ∀ {es : List DictEntry} {kvs : List (K × Value)}, Pairs knd es kvs → es.length = kvs.length
  | _, _, .nil => rfl
  | _, _, .cons _ _ t => by rw [List.length_cons, List.length_cons, pairs_len t]
theorem pairs_at : ∀ {es : List DictEntry} {kvs : List (K × Value)}, Pairs knd es kvs → ∀ {i : Nat} {e : DictEntry}, es[i]? = some e → ∃ k v, (k, v) ∈ kvs ∧ knd.is k e.key = true ∧ e.val = v
  | _, _, .nil, i, e, h => by simp at h
  | _, _, .cons (kv := kv) a b t, 0, e, h => by
    simp at h
    subst h
    exact ⟨kv.1, kv.2, List.mem_cons_self, a, b⟩
  | _, _, .cons a b t, i + 1, e, h => by
    obtain ⟨k, v, m, h1, h2⟩ := pairs_at t (i := i) (e := e) (by simpa using h)
    exact ⟨k, v, List.mem_cons_of_mem _ m, h1, h2⟩
theorem tS {fs : Array DictEntry} {p : DictEntry → Bool} {v : Value} (h : (fs.find? p).map (·.val) = some v) : ∃ j f, fs.findIdx? p = some j ∧ fs[j]? = some f ∧ f.val = v := by
  obtain ⟨f, hf, hv⟩ := Option.map_eq_some_iff.mp h
  obtain ⟨pf, i, hi, e, hno⟩ := Array.find?_eq_some_iff_getElem.mp hf
  refine ⟨i, f, ?_, by rw [Array.getElem?_eq_getElem hi, e], hv⟩
  rw [Array.findIdx?_eq_some_iff_getElem]
  exact ⟨hi, by rw [e]; exact pf, fun j hj => by simpa using hno j hj⟩
theorem same_true {a b : Addr} {kvs kvs' : List (K × Value)} {Q : Bool → Shared → Prop} (ha : (a == sysModules) = false) (hb : (b == sysModules) = false) (d1 : s.heap.DictOf knd a kvs) (d2 : s.heap.DictOf knd b kvs') (hn : kvs.length = kvs'.length)
    (hv : ∀ k v, (k, v) ∈ kvs → ∃ v', valueAt kvs' k = some v' ∧ ∃ i t t', v = .int i t ∧ v' = .int i t') (h : ∀ tk, Q true { s with toks := tk }) : wpAny (model prog w) A (Builtin.Dict.samePairs "dict.__eq__" a b) Q E s := by
  obtain ⟨oa, es, n, g1, x1, e1, k1, p1, nd1⟩ := d1
  obtain ⟨ob, fs, m, g2, x2, e2, k2, p2, nd2⟩ := d2
  unfold Builtin.Dict.samePairs Builtin.Dict.showsAll dictEntries dictEpoch
  rw [if_neg (by rw [ha]; decide), if_neg (by rw [hb]; decide)]
  refine wpAny_bind (wpAny_pure (wpAny_bind (wpAny_pure (wpAny_bind (wpAny_bind (wpAny_loadPart' g1 ?_))))))
  rw [e1]
  refine wpAny_pure (wpAny_bind (wpAny_bind (wpAny_loadPart' g2 ?_)))
  rw [e2]
  refine wpAny_pure ?_
  have l1 : es.size = kvs.length := by rw [← Array.length_toList]; exact pairs_len p1
  have l2 : fs.size = kvs'.length := by rw [← Array.length_toList]; exact pairs_len p2
  rw [if_neg (by rw [l1, l2, hn]; simp)]
  refine wpAny_bind (wpAny_bind (wpAny_loadPart' g1 ?_))
  rw [e1]
  refine wpAny_pure (wpAny_bind ?_)
  rw [Std.Legacy.Range.forIn_eq_forIn_range']
  have hm := (show Heap.DictOf knd s.heap b kvs' from ⟨ob, fs, m, g2, x2, e2, k2, p2, nd2⟩).mapOf
  have hfind : ∀ k, findBy knd.is fs k = valueAt kvs' k := by
    obtain ⟨o', es', ep', g', _, d', _, hf⟩ := hm
    rw [g2] at g'
    injection g' with g'
    subst g'
    rw [e2] at d'
    injection d' with d'
    subst d'
    exact hf
  refine wpAny_forIn_list _ (fun l r s' => (∀ j ∈ l, j < es.size) ∧ r = (none, ()) ∧ ∃ tk, s' = { s with toks := tk }) _ ?_ ?_ _ _ ⟨?_, rfl, s.toks, rfl⟩
  · rintro i rest r s' ⟨hl, rfl, tk, rfl⟩
    have hi : i < es.size := hl i List.mem_cons_self
    have ge : es[i]? = some es[i] := Array.getElem?_eq_getElem hi
    obtain ⟨k, v, mk, ik, hvl⟩ := pairs_at p1 (i := i) (e := es[i]) (by rw [Array.getElem?_toList]; exact ge)
    obtain ⟨v', hv', z, t, t', ev, ev'⟩ := hv k v mk
    obtain ⟨k0, ik0, hh⟩ := k1 es[i] (Array.getElem_mem hi)
    obtain rfl : k0 = k := knd.inj _ _ _ ik0 ik
    obtain ⟨j, f, fi, fj, fv⟩ := tS (fs := fs) (p := fun e => knd.is k0 e.key) (v := v') (by rw [← hv']; exact hfind k0)
    refine wpAny_bind (wpAny_bind (wpAny_loadPart' g1 ?_))
    rw [e1]
    refine wpAny_pure ?_
    rw [ge]
    refine wpAny_bind (wpAny_holding (wpAny_bind ?_))
    rw [hh]
    refine wpAny_dictFind_of ik g2 e2 k2 ?_
    rw [fi]
    refine wpAny_bind (wpAny_bind (wpAny_loadPart' g2 ?_))
    rw [e2]
    refine wpAny_pure ?_
    rw [fj]
    refine wpAny_holding ?_
    rw [hvl, fv, ev, ev']
    refine (intKind prog w).eqBool (a := z) (b := z) (by simp [intKind, Value.isInt]) (by simp [intKind, Value.isInt]) ?_
    rw [decide_eq_true rfl, if_neg (by decide)]
    refine wpAny_bind (wpAny_bind (wpAny_loadPart' g1 ?_))
    rw [e1]
    refine wpAny_pure ?_
    rw [if_neg (by simp)]
    exact wpAny_pure ⟨fun j hj => hl j (List.mem_cons_of_mem _ hj), rfl, _, rfl⟩
  · rintro r s' ⟨_, rfl, tk, rfl⟩
    exact wpAny_pure (h tk)
  · intro j hj
    simp [Std.Legacy.Range.size] at hj
    omega
end
end DictE
end PySem

set_option Elab.async false
set_option linter.all false
set_option maxRecDepth 100000
set_option maxHeartbeats 1000000
namespace L2
open PySem PySem.Spec PyProof.Rows
theorem KV.mem {κ : Type} : ∀ {kvs : List (κ × V)} {vs : List (κ × Value)}, KV kvs vs → ∀ {k : κ} {v : Value}, (k, v) ∈ vs → ∃ x, (k, x) ∈ kvs ∧ RelV x v
  | _, _, .nil, k, v, h => by cases h
  | _, _, .cons (a := p) (b := q) a t, k, v, h => by
    rcases List.mem_cons.mp h with e | h
    · subst e
      exact ⟨p.2, by rw [show k = p.1 from a.1.symm]; exact List.mem_cons_self, a.2⟩
    · obtain ⟨x, m, r⟩ := KV.mem t h
      exact ⟨x, List.mem_cons_of_mem _ m, r⟩
section
variable {X : Cx}
def vY : R2 := fun x y H Q => ∃ a b kvs kvs', x = .ref a ∧ y = .ref b ∧ Rd H a (.dK kvs) ∧ Rd H b (.dK kvs') ∧ kvs.length = kvs'.length ∧ (∀ k v, (k, v) ∈ kvs → ∃ i : Int, v = .int i ∧ jz kvs' k = some (.int i)) ∧ Q (.bl true) H
theorem uL (hu : X.A.units < cLine) : OpR X (compareOp .Eq) vY := by
  intro pins s σ H x y v u Q I rx ry h
  obtain ⟨a, b, kvs, kvs', rfl, rfl, h1, h2, hn, hv, q⟩ := h
  obtain rfl : v = Value.ref a := rx
  obtain rfl : u = Value.ref b := ry
  obtain ⟨_, sa, vs, rel, d1⟩ := kq I.hok h1
  obtain ⟨_, sb, vs', rel', d2⟩ := kq I.hok h2
  refine PySem.DictE.eq_tree hu d1.typeIs d2.typeIs (PySem.DictE.same_true sa sb d1 d2 (by rw [← rel.length, ← rel'.length]; exact hn) (fun k w m => ?_) fun tk => ⟨.bl true, H, I.tok _, rfl, q⟩)
  obtain ⟨x, mx, rxw⟩ := rel.mem m
  obtain ⟨i, rfl, e⟩ := hv k x mx
  obtain ⟨t, rfl⟩ := rxw
  obtain ⟨w', hw, rw'⟩ := RelO.some_of (v := V.int i) (o := valueAt vs' k) (by rw [← e]; exact rel'.val k)
  obtain ⟨t', rfl⟩ := rw'
  exact ⟨_, hw, i, t, t', rfl, rfl⟩
end
end L2

set_option Elab.async false
set_option linter.all false
set_option maxRecDepth 100000
set_option maxHeartbeats 1000000
namespace PySem
open Sem (wp)
open PyProof.Rows
namespace SortD
section
variable {prog : Program} {w : World} {A : Around} {E : Value → Shared → Prop} {s : Shared} {K : Type} [DecidableEq K] {knd : KeyKind prog w K}
theorem oM {M : Model} {x : Value} {Q : Unit → Shared → Prop} (h : Q () s) : wpAny M A (checkBuiltinCall "sorted" ⟨[x], []⟩) Q E s := by
  unfold checkBuiltinCall
  rw [kind_sorted]
  exact wpAny_of_eq (args_sorted1 x) h
theorem rD {B : Addr} {vs : List Value} {ss : List Str} {n : Nat} {Q : Value → Shared → Prop} (hB : s.heap.get? B = some (seqObj "list" vs.toArray n)) (hS : StrsAre vs ss) (hn : vs.length < 64)
    (h : ∀ out ss', StrsAre out.toList ss' → ss'.Perm ss → sortedS ss' = true → Q .none { s with heap := sortedHeap s.heap B vs out }) : wpAny (model prog w) A (call (.builtin "list.sort") [.ref B]) Q E s := by
  refine wpAny_call (codeAny_call_builtin F.slot_list_sort.plain entry_list_sort (F.slot_list_sort.check _ _ _ _ _ _ _ _ ⟨_, hB, rfl⟩ (args_list_sort _) ?_))
  refine list_sort_treeK strKind_oneLt hB hS.keysOf (fun v1 v2 r e => by subst e; exact keyKind_strs hS) hn fun st hp hs => ?_
  obtain ⟨ss', h1, h2, h3⟩ := sorted_out_str hS hp hs
  exact h _ _ h1 h2 h3
theorem mH : ∀ {vs : List Value} {ss : List Str}, vs.length = ss.length → (∀ (i : Nat) (v : Value) (x : Str), vs[i]? = some v → ss[i]? = some x → ∃ t, v = .str x t) → StrsAre vs ss
  | [], [], _, _ => .nil
  | v :: vs, x :: ss, hl, h => by
    obtain ⟨t, rfl⟩ := h 0 v x rfl rfl
    exact .cons x t (mH (by simpa using hl) fun i v x h1 h2 => h (i + 1) v x (by simpa using h1) (by simpa using h2))
  | [], _ :: _, h, _ => by simp at h
  | _ :: _, [], h, _ => by simp at h
theorem call_sorted_dict {d : Addr} {kvs : List (K × Value)} {ss : List Str} {Q : Value → Shared → Prop} (hh : A.handled = none) (hs : (d == sysModules) = false) (hD : s.heap.DictOf knd d kvs) (hl : ss.length = kvs.length) (hn : kvs.length < 64)
    (hk : ∀ (i : Nat) (k : K) (v x : Value) (y : Str), kvs[i]? = some (k, x) → ss[i]? = some y → knd.is k v = true → ∃ t, v = .str y t)
    (h : ∀ (h1 h' : Heap) (tk : Nat) (out : Array Value) (e : Nat) (ss' : List Str), (∀ b o, s.heap.get? b = some o → h1.get? b = some o) → (∀ b o, h1.get? b = some o → h'.get? b = some o) → h'.get? h1.objs.size = some (seqObj "list" out e) → StrsAre out.toList ss' → ss'.Perm ss → sortedS ss' = true → Q (.ref h1.objs.size) { s with heap := h', toks := tk }) :
    wpAny (model prog w) A (call (.builtin "sorted") [.ref d]) Q E s := by
  obtain ⟨o, es, ep, g1, x1, e1, k1, p1, nd⟩ := hD
  refine wpAny_call (codeAny_call_builtin plain_sorted entry_sorted (oM ?_))
  unfold Builtin.sorted
  refine wpAny_bind (wpAny_of_eq (a := ()) rfl ?_)
  refine wpAny_bind (W.kdu_collect (W.kdl_dict (knd := knd) (kvs := kvs) (ep := ep) hs) hh ⟨o, es, g1, x1, e1, k1, p1, nd⟩ (Nat.le_trans (Nat.le_of_lt hn) (by decide)) fun h1 tk1 acc kp hacc => ?_)
  obtain ⟨za, ha⟩ := hacc
  have la : acc.toList.length = ss.length := by rw [Array.length_toList, za, hl]
  have hS : StrsAre acc.toList ss := mH la fun i v y h1 h2 => by
    rw [Array.getElem?_toList] at h1
    obtain ⟨k, x, e2, e3⟩ := ha i v h1
    exact hk i k v x y e2 h2 e3
  refine wpAny_bind (wpAny_newList (hsz := Nat.le_trans (m := 64) (by rw [la]; omega) (by decide)) ?_)
  have hB : (h1.push { cls := Value.type "list", data := Data.seq acc.toList.toArray }).get? h1.objs.size = some (seqObj "list" acc.toList.toArray 0) := Heap.get?_push_size _ rfl
  refine wpAny_bind (wpAny_holding (rD (B := h1.objs.size) hB hS (by rw [la]; omega) fun out ss' s1 s2 s3 => wpAny_pure ?_))
  obtain ⟨e, he⟩ := sortedHeap_at (out := out) hB
  refine h h1 _ _ out e ss' kp (fun b o hb1 => ?_) he s1 s2 s3
  have lb := Heap.lt_size hb1
  rw [sortedHeap_old (Nat.ne_of_lt lb) (by rw [Heap.size_push]; exact Nat.lt_succ_of_lt lb)]
  exact Heap.get?_push_of_some _ hb1
end
end SortD
end PySem
namespace L2
open PySem PySem.Spec PyProof.Rows
theorem nC : ∀ {vs : List Value} {ss : List Str}, StrsAre vs ss → Vals (ss.map V.str) vs
  | _, _, .nil => .nil
  | _, _, .cons y t h => .cons ⟨t, rfl⟩ (nC h)
section
variable {X : Cx}
theorem nX (hc : X.calm = true) : jE X (.builtin "sorted") (fun xs H Q => ∃ (a : Addr) (kvs : List (Key × V)) (ss : List Str), xs = [.ref a] ∧ Rd H a (.dK kvs) ∧ kvs.map (·.1) = ss.map (Sum.inr : Str → Key) ∧ ss.length < 64 ∧ ∀ l ss', H l = none → ss'.Perm ss → sortedS ss' = true → Q (.ref l) (upd H l (.lst (ss'.map V.str)))) := by
  intro pins s σ H xs us Q I r h
  obtain ⟨a, kvs, ss, rfl, hd, hk, hn, q⟩ := h
  obtain ⟨u, rfl, rx⟩ := vals1 r
  cases rx
  obtain ⟨_, sa, vs, rel, dd⟩ := kq I.hok hd
  have ek := rel.keys
  have l1 : ss.length = vs.length := by
    have := congrArg List.length (hk.symm.trans ek)
    simpa using this
  refine PySem.SortD.call_sorted_dict (knd := jb X.prog X.w) (ss := ss) (I.ok.hd hc) sa dd l1 (by omega) (fun i k v x y h1 h2 h3 => ?_) fun h1 h' tk out e ss' kp kp2 he hS hp hs => ?_
  · have : (vs.map (·.1))[i]? = some (Sum.inr y : Key) := by rw [← ek, hk, List.getElem?_map, h2]; rfl
    rw [List.getElem?_map, h1] at this
    injection this with this
    have hk2 : k = .inr y := this
    subst hk2
    have h4 : Value.isStrOf y v = true := h3
    cases v with
    | str z t =>
      have : z = y := by simpa [Value.isStrOf] using h4
      exact ⟨t, by rw [this]⟩
    | _ => cases h4
  · have I1 : Inv X pins σ H { s with heap := h1, toks := tk } := I.kept kp
    have len : ss'.length ≤ sizeLine := Nat.le_trans (m := 64) (by rw [hp.length_eq]; omega) (by decide)
    exact ⟨.ref h1.objs.size, _, I1.laid (t' := tk) (o := .lst (ss'.map V.str)) kp2 (Nat.le_refl _) ⟨by rw [List.length_map]; exact len, out.toList, e, nC hS, by simpa using he⟩, rfl, q _ _ (I1.hok.fresh (Nat.le_refl _)) hp hs⟩
end
theorem vd : bootBuiltins "dict" = some (.type "dict") := by decide +kernel
def vJ : R2 := fun x y H Q => ∃ a b : Str, x = .str a ∧ y = .str b ∧ Q (.bl (!decide (b.cps.toList < a.cps.toList))) H
theorem vp {X : Cx} : OpR X (compareOp .LtE) vJ := by
  intro pins s σ H x y v u Q I rx ry h
  obtain ⟨a, b, rfl, rfl, q⟩ := h
  obtain ⟨t, rfl⟩ := rx
  obtain ⟨t', rfl⟩ := ry
  exact P.le_str (i8 I q rfl)
theorem pV {X : Cx} {K : PySem.W.Frag} (h : X.K = K) : jE X (.type "list") (fun xs H Q => ∃ p ys, xs = [.ref p] ∧ SqL K H p ys ∧ ∀ l, H l = none → Q (.ref l) (upd H l (.lst ys))) := by
  subst h
  exact mh
end L2

set_option Elab.async false
set_option linter.all false
set_option maxRecDepth 100000
set_option maxHeartbeats 1000000
namespace Tb
open PySem L2 PyProof.Rows
abbrev Dc := List (Str × Int)
def ks (d : Dc) : List Str := d.map (·.1)
def gt : Dc → Str → Int
  | [], _ => 0
  | p :: d, k => if p.1 = k then p.2 else gt d k
def ad : Dc → Str → Int → Dc
  | [], k, n => [(k, n)]
  | p :: d, k, n => if p.1 = k then (p.1, p.2 + n) :: d else p :: ad d k n
def sm (d : Dc) : Int := (d.map (·.2)).sum
def toK (d : Dc) : List (Key × V) := d.map fun p => (.inr p.1, .int p.2)
def adAll (d rows : Dc) : Dc := rows.foldl (fun d p => ad d p.1 p.2) d
def cs (rows : Dc) (s : Str) : Int := (rows.map fun p => if p.1 = s then p.2 else 0).sum
theorem gt_ad (d : Dc) (k : Str) (n : Int) (j : Str) : gt (ad d k n) j = if j = k then gt d k + n else gt d j := by
  induction d with
  | nil =>
    by_cases h : j = k
    · subst h; simp [ad, gt]
    · simp [ad, gt, h, Ne.symm h]
  | cons p d ih =>
    by_cases h1 : p.1 = k
    · by_cases h : j = k
      · simp [ad, gt, h1, h]
      · simp [ad, gt, h1, h, Ne.symm h]
    · by_cases h : j = k
      · subst h; simp [ad, gt, h1, ih]
      · by_cases h2 : p.1 = j
        · simp [ad, gt, h1, h2, h]
        · simp [ad, gt, h1, h2, h, ih]
theorem v7 (d : Dc) (k : Str) (n : Int) : sm (ad d k n) = sm d + n := by
  induction d with
  | nil => simp [ad, sm]
  | cons p d ih =>
    by_cases h : p.1 = k
    · simp only [ad, h, if_true, sm, List.map_cons, List.sum_cons]; omega
    · simp only [ad, h, if_false, sm, List.map_cons, List.sum_cons] at ih ⊢; omega
theorem mem_ad {d : Dc} {k : Str} {n : Int} {j : Str} : j ∈ ks (ad d k n) ↔ j = k ∨ j ∈ ks d := by
  induction d with
  | nil => simp [ad, ks]
  | cons p d ih =>
    by_cases h : p.1 = k
    · simp only [ad, h, if_true, ks, List.map_cons, List.mem_cons]
      constructor
      · rintro (h | h)
        · exact .inl h
        · exact .inr (.inr h)
      · rintro (h | h | h)
        · exact .inl h
        · exact .inl h
        · exact .inr h
    · simp only [ad, h, if_false, ks, List.map_cons, List.mem_cons] at ih ⊢
      rw [ih]
      constructor
      · rintro (h | h | h)
        · exact .inr (.inl h)
        · exact .inl h
        · exact .inr (.inr h)
      · rintro (h | h | h)
        · exact .inr (.inl h)
        · exact .inl h
        · exact .inr (.inr h)
theorem nd_ad {d : Dc} {k : Str} {n : Int} (h : (ks d).Nodup) : (ks (ad d k n)).Nodup := by
  induction d with
  | nil => simp [ad, ks]
  | cons p d ih =>
    have h' : (p.1 :: ks d).Nodup := h
    rw [List.nodup_cons] at h'
    by_cases e : p.1 = k
    · simp only [ad, e, if_true]
      show (k :: ks d).Nodup
      rw [← e]
      exact h
    · simp only [ad, e, if_false]
      show (p.1 :: ks (ad d k n)).Nodup
      rw [List.nodup_cons]
      refine ⟨fun m => ?_, ih h'.2⟩
      rcases mem_ad.mp m with z | z
      · exact e z
      · exact h'.1 z
theorem pos_ad {d : Dc} {k : Str} {n c : Int} (h : ∀ p ∈ d, c ≤ p.2) (hn : c ≤ n) (h0 : 0 ≤ n) : ∀ p ∈ ad d k n, c ≤ p.2 := by
  induction d with
  | nil => intro p hp; rw [List.mem_singleton.mp hp]; exact hn
  | cons q d ih =>
    intro p hp
    by_cases e : q.1 = k
    · simp only [ad, e, if_true] at hp
      rcases List.mem_cons.mp hp with rfl | hp
      · have := h q List.mem_cons_self
        show c ≤ q.2 + n
        omega
      · exact h p (List.mem_cons_of_mem _ hp)
    · simp only [ad, e, if_false] at hp
      rcases List.mem_cons.mp hp with rfl | hp
      · exact h p List.mem_cons_self
      · exact ih (fun p hp => h p (List.mem_cons_of_mem _ hp)) p hp
theorem gt_not {d : Dc} {k : Str} (h : k ∉ ks d) : gt d k = 0 := by
  induction d with
  | nil => rfl
  | cons p d ih =>
    have h1 : p.1 ≠ k := fun e => h (by rw [← e]; exact List.mem_cons_self)
    simp only [gt, h1, if_false]
    exact ih fun m => h (List.mem_cons_of_mem _ m)
theorem sj {d : Dc} {k : Str} (h : k ∈ ks d) : (k, gt d k) ∈ d := by
  induction d with
  | nil => cases h
  | cons p d ih =>
    by_cases e : p.1 = k
    · simp only [gt, e, if_true]
      rw [← e]
      exact List.mem_cons_self
    · simp only [gt, e, if_false]
      have h' : k ∈ p.1 :: ks d := h
      rcases List.mem_cons.mp h' with z | z
      · exact absurd z.symm e
      · exact List.mem_cons_of_mem _ (ih z)
theorem vW {d : Dc} (hn : (ks d).Nodup) {p : Str × Int} (h : p ∈ d) : gt d p.1 = p.2 := by
  induction d with
  | nil => cases h
  | cons q d ih =>
    have hn' : (q.1 :: ks d).Nodup := hn
    rw [List.nodup_cons] at hn'
    rcases List.mem_cons.mp h with rfl | h
    · simp [gt]
    · have : q.1 ≠ p.1 := fun e => hn'.1 (by rw [e]; exact List.mem_map.mpr ⟨p, h, rfl⟩)
      simp only [gt, this, if_false]
      exact ih hn'.2 h
theorem kI {a b : Str} : ((Sum.inr a : Key) = Sum.inr b) = (a = b) := propext ⟨fun e => by injection e, fun e => by rw [e]⟩
theorem val_in {d : Dc} {k : Str} (h : k ∈ ks d) : jz (toK d) (.inr k) = some (.int (gt d k)) := by
  induction d with
  | nil => cases h
  | cons p d ih =>
    by_cases e : p.1 = k
    · rw [show toK (p :: d) = (.inr p.1, .int p.2) :: toK d from rfl, kO (by rw [kI]; exact e)]
      simp [gt, e]
    · rw [show toK (p :: d) = (.inr p.1, .int p.2) :: toK d from rfl, kg (by rw [kI]; exact e)]
      have h' : k ∈ p.1 :: ks d := h
      rcases List.mem_cons.mp h' with z | z
      · exact absurd z.symm e
      · rw [ih z]; simp [gt, e]
theorem mV {d : Dc} {k : Str} (h : k ∉ ks d) : jz (toK d) (.inr k) = none := by
  induction d with
  | nil => rfl
  | cons p d ih =>
    have e : ¬ p.1 = k := fun e => h (by rw [← e]; exact List.mem_cons_self)
    rw [show toK (p :: d) = (.inr p.1, .int p.2) :: toK d from rfl, kg (by rw [kI]; exact e)]
    exact ih fun m => h (List.mem_cons_of_mem _ m)
theorem val_getD {d : Dc} {k : Str} : (jz (toK d) (.inr k)).getD (.int 0) = .int (gt d k) := by
  by_cases h : k ∈ ks d
  · rw [val_in h]; rfl
  · rw [mV h, gt_not h]; rfl
theorem put_ad {d : Dc} {k : Str} {n : Int} (hn : (ks d).Nodup) : putK (toK d) (.inr k) (.int (gt d k + n)) = toK (ad d k n) := by
  have rest : ∀ {d : Dc} {v : V}, k ∉ ks d → (toK d).map (fun kv => if kv.1 = (Sum.inr k : Key) then (kv.1, v) else kv) = toK d := fun {d v} h => by
    induction d with
    | nil => rfl
    | cons p d ih =>
      have e : ¬ p.1 = k := fun e => h (by rw [← e]; exact List.mem_cons_self)
      show (if (Sum.inr p.1 : Key) = Sum.inr k then _ else _) :: (toK d).map _ = _
      rw [if_neg (by rw [kI]; exact e), ih fun m => h (List.mem_cons_of_mem _ m)]
      rfl
  by_cases h : k ∈ ks d
  · have ha : ((toK d).any fun kv => decide (kv.1 = (Sum.inr k : Key))) = true := by rw [kc, val_in h]; rfl
    unfold putK
    rw [if_pos ha]
    clear ha
    induction d with
    | nil => cases h
    | cons p d ih =>
      have hn' : (p.1 :: ks d).Nodup := hn
      rw [List.nodup_cons] at hn'
      by_cases e : p.1 = k
      · show (if (Sum.inr p.1 : Key) = Sum.inr k then ((Sum.inr p.1 : Key), V.int (gt (p :: d) k + n)) else _) :: (toK d).map _ = _
        rw [if_pos (by rw [e]), rest (by rw [← e]; exact hn'.1)]
        simp [ad, gt, e, toK]
      · have h' : k ∈ p.1 :: ks d := h
        have hk : k ∈ ks d := by
          rcases List.mem_cons.mp h' with z | z
          · exact absurd z.symm e
          · exact z
        show (if (Sum.inr p.1 : Key) = Sum.inr k then _ else _) :: (toK d).map _ = _
        rw [if_neg (by rw [kI]; exact e)]
        have := ih hn'.2 hk
        rw [show gt (p :: d) k = gt d k by simp [gt, e]]
        simp only [ad, e, if_false]
        rw [show toK (p :: ad d k n) = (.inr p.1, .int p.2) :: toK (ad d k n) from rfl, ← this]
  · have ha : ¬ ((toK d).any fun kv => decide (kv.1 = (Sum.inr k : Key))) = true := by rw [kc, mV h]; decide
    unfold putK
    rw [if_neg ha, gt_not h, Int.zero_add]
    have : ∀ {d : Dc}, k ∉ ks d → ad d k n = d ++ [(k, n)] := fun {d} h => by
      induction d with
      | nil => rfl
      | cons p d ih =>
        have e : ¬ p.1 = k := fun e => h (by rw [← e]; exact List.mem_cons_self)
        simp only [ad, e, if_false]
        rw [ih fun m => h (List.mem_cons_of_mem _ m)]
        rfl
    rw [this h]
    simp [toK]
theorem adAll_snoc (d rows : Dc) (p : Str × Int) : adAll d (rows ++ [p]) = ad (adAll d rows) p.1 p.2 := by
  unfold adAll
  rw [List.foldl_append]
  rfl
theorem adAll_app (d a b : Dc) : adAll d (a ++ b) = adAll (adAll d a) b := List.foldl_append
theorem gt_all (d rows : Dc) (s : Str) : gt (adAll d rows) s = gt d s + cs rows s := by
  induction rows generalizing d with
  | nil => simp [adAll, cs]
  | cons p rows ih =>
    show gt (adAll (ad d p.1 p.2) rows) s = _
    rw [ih, gt_ad]
    by_cases h : s = p.1
    · subst h; simp [cs]; omega
    · simp [cs, h, Ne.symm h]
theorem sm_all (d rows : Dc) : sm (adAll d rows) = sm d + sm rows := by
  induction rows generalizing d with
  | nil => simp [adAll, sm]
  | cons p rows ih =>
    show sm (adAll (ad d p.1 p.2) rows) = _
    rw [ih, v7]
    simp [sm]
    omega
theorem nd_all {d rows : Dc} (h : (ks d).Nodup) : (ks (adAll d rows)).Nodup := by
  induction rows generalizing d with
  | nil => exact h
  | cons p rows ih => exact ih (nd_ad h)
theorem mem_all {d rows : Dc} {s : Str} : s ∈ ks (adAll d rows) ↔ s ∈ ks d ∨ s ∈ ks rows := by
  induction rows generalizing d with
  | nil => simp [adAll, ks]
  | cons p rows ih =>
    show s ∈ ks (adAll (ad d p.1 p.2) rows) ↔ _
    rw [ih, mem_ad]
    show _ ↔ s ∈ ks d ∨ s ∈ p.1 :: ks rows
    rw [List.mem_cons]
    constructor
    · rintro ((h | h) | h)
      · exact .inr (.inl h)
      · exact .inl h
      · exact .inr (.inr h)
    · rintro (h | h | h)
      · exact .inl (.inr h)
      · exact .inl (.inl h)
      · exact .inr h
theorem pos_all {d rows : Dc} {c : Int} (h : ∀ p ∈ d, c ≤ p.2) (hr : ∀ p ∈ rows, c ≤ p.2 ∧ 0 ≤ p.2) : ∀ p ∈ adAll d rows, c ≤ p.2 := by
  induction rows generalizing d with
  | nil => exact h
  | cons q rows ih => exact ih (pos_ad h (hr q List.mem_cons_self).1 (hr q List.mem_cons_self).2) fun p hp => hr p (List.mem_cons_of_mem _ hp)
def jJ (a b : Str) : Prop := decide (b.cps.toList < a.cps.toList) = false
theorem pH {a b c : Str} (h1 : jJ a b) (h2 : jJ b c) : jJ a c := by
  unfold jJ at *
  cases e : decide (c.cps.toList < a.cps.toList) with
  | false => rfl
  | true =>
    rcases PyProof.Rows.strKind.negTrans c.cps.toList b.cps.toList a.cps.toList e with z | z
    · exact absurd (z.symm.trans h2) (by decide)
    · exact absurd (z.symm.trans h1) (by decide)
theorem mL {a b : Str} (h1 : jJ a b) (h2 : jJ b a) : a = b := by
  have e : a.cps.toList = b.cps.toList := PyProof.Rows.strKind.total _ _ h2 h1
  cases a
  cases b
  simpa using e
theorem tU {a b : Str} (h1 : jJ a b) (ne : a ≠ b) : decide (a.cps.toList < b.cps.toList) = true := by
  cases e : decide (a.cps.toList < b.cps.toList) with
  | true => rfl
  | false => exact absurd (mL h1 e) ne
theorem lz : ∀ {x : Str} {r : List Str}, risingS x r = true → (x :: r).Pairwise jJ
  | x, [], _ => List.pairwise_singleton _ _
  | x, y :: r, h => by
    rw [PyProof.Rows.risingS.eq_2, Bool.and_eq_true, PyProof.Rows.ltCps_eq] at h
    have ih := lz h.2
    have xy : jJ x y := by simpa [jJ] using h.1
    rw [List.pairwise_cons]
    refine ⟨fun z hz => ?_, ih⟩
    rcases List.mem_cons.mp hz with rfl | hz
    · exact xy
    · exact pH xy ((List.pairwise_cons.mp ih).1 z hz)
theorem j9 {ss : List Str} (h : sortedS ss = true) : ss.Pairwise jJ := by
  cases ss with
  | nil => exact .nil
  | cons x r => exact lz h
theorem lI : ∀ {l m : List Str}, l.Perm m → l.Pairwise jJ → m.Pairwise jJ → l = m
  | [], m, p, _, _ => (p.nil_eq).symm ▸ rfl
  | a :: l, [], p, _, _ => by have := p.length_eq; simp at this
  | a :: l, b :: m, p, h1, h2 => by
    have e : a = b := by
      have ma := p.mem_iff.mp (List.mem_cons_self (a := a) (l := l))
      have mb := p.mem_iff.mpr (List.mem_cons_self (a := b) (l := m))
      rcases List.mem_cons.mp ma with z | z
      · exact z
      · rcases List.mem_cons.mp mb with y | y
        · exact y.symm
        · exact mL ((List.pairwise_cons.mp h1).1 b y) ((List.pairwise_cons.mp h2).1 a z)
    subst e
    rw [lI (List.Perm.cons_inv p) (List.pairwise_cons.mp h1).2 (List.pairwise_cons.mp h2).2]
def rowsOf (ss : List Str) (d : Dc) : Dc := (ss.filter fun s => decide (0 < gt d s)).map fun s => (s, gt d s)
def isTab (d T : Dc) : Prop := ∃ ss : List Str, ss.Perm (ks d) ∧ sortedS ss = true ∧ T = rowsOf ss d
theorem mW (ss : List Str) (d : Dc) : ks (rowsOf ss d) = ss.filter fun s => decide (0 < gt d s) := by
  unfold ks rowsOf
  rw [List.map_map]
  exact List.map_id _
theorem tG {l m : List Int} (p : l.Perm m) : l.sum = m.sum := by
  induction p with
  | nil => rfl
  | cons x _ ih => rw [List.sum_cons, List.sum_cons, ih]
  | swap x y l => simp only [List.sum_cons]; omega
  | trans _ _ a b => rw [a, b]
theorem uU {d : Dc} (hn : (ks d).Nodup) : ((ks d).map (gt d)).sum = sm d := by
  have : (ks d).map (gt d) = d.map (·.2) := by
    unfold ks
    rw [List.map_map]
    exact List.map_congr_left fun p hp => vW hn hp
  rw [this]
  rfl
theorem v9 {d : Dc} (h : ∀ p ∈ d, 0 ≤ p.2) (s : Str) : 0 ≤ gt d s := by
  by_cases m : s ∈ ks d
  · exact h _ (sj m)
  · rw [gt_not m]; exact Int.le_refl _
theorem tab_sm {d T : Dc} (hn : (ks d).Nodup) (h0 : ∀ p ∈ d, 0 ≤ p.2) (h : isTab d T) : sm T = sm d := by
  obtain ⟨ss, p, _, rfl⟩ := h
  have : ∀ l : List Str, sm (rowsOf l d) = (l.map (gt d)).sum := by
    intro l
    induction l with
    | nil => rfl
    | cons x l ih =>
      have g0 := v9 h0 x
      by_cases e : 0 < gt d x
      · have : rowsOf (x :: l) d = (x, gt d x) :: rowsOf l d := by simp [rowsOf, e]
        rw [this, List.map_cons, List.sum_cons, ← ih]
        rfl
      · have : rowsOf (x :: l) d = rowsOf l d := by simp [rowsOf, e]
        rw [this, List.map_cons, List.sum_cons, ← ih]
        omega
  rw [this, tG (p.map _), uU hn]
theorem tab_mem {d T : Dc} (h : isTab d T) {s : Str} : s ∈ ks T ↔ 0 < gt d s := by
  obtain ⟨ss, p, _, rfl⟩ := h
  rw [mW, List.mem_filter, decide_eq_true_eq]
  constructor
  · exact fun h => h.2
  · intro h
    refine ⟨p.mem_iff.mpr ?_, h⟩
    by_cases m : s ∈ ks d
    · exact m
    · rw [gt_not m] at h; omega
theorem tab_gt {d T : Dc} (h : isTab d T) {p : Str × Int} (hp : p ∈ T) : p.2 = gt d p.1 ∧ 1 ≤ p.2 := by
  obtain ⟨ss, _, _, rfl⟩ := h
  obtain ⟨s, hs, rfl⟩ := List.mem_map.mp hp
  have := of_decide_eq_true (List.mem_filter.mp hs).2
  exact ⟨rfl, by show 1 ≤ gt d s; omega⟩
theorem tab_nd {d T : Dc} (hn : (ks d).Nodup) (h : isTab d T) : (ks T).Nodup := by
  obtain ⟨ss, p, _, rfl⟩ := h
  rw [mW]
  exact List.Pairwise.filter _ (p.nodup_iff.mpr hn)
theorem tab_up {d T : Dc} (hn : (ks d).Nodup) (h : isTab d T) : (ks T).Pairwise fun a b => decide (a.cps.toList < b.cps.toList) = true := by
  have nd := tab_nd hn h
  obtain ⟨ss, p, so, rfl⟩ := h
  rw [mW] at nd ⊢
  have pw := (j9 so).filter (fun s => decide (0 < gt d s))
  exact (List.Pairwise.and pw nd).imp fun h => tU h.1 h.2
theorem tab_uniq {d T T' : Dc} (h : isTab d T) (h' : isTab d T') : T = T' := by
  obtain ⟨ss, p, so, rfl⟩ := h
  obtain ⟨ss', p', so', rfl⟩ := h'
  rw [lI (p.trans p'.symm) (j9 so) (j9 so')]
theorem tab_due {d T e : Dc} (hn : (ks d).Nodup) (h : isTab d T) (he : (ks e).Nodup) (hp : ∀ p ∈ e, 1 ≤ p.2) (hg : ∀ s, gt e s = gt d s) : (toK T).length = (toK e).length ∧ ∀ k v, (k, v) ∈ toK T → ∃ i : Int, v = .int i ∧ jz (toK e) k = some (.int i) := by
  have mem : ∀ s, s ∈ ks T ↔ s ∈ ks e := fun s => by
    rw [tab_mem h, ← hg]
    constructor
    · intro z
      by_cases m : s ∈ ks e
      · exact m
      · rw [gt_not m] at z; omega
    · intro m
      have := hp _ (sj m)
      show 0 < gt e s
      have : 1 ≤ gt e s := this
      omega
  constructor
  · have a := List.Nodup.length_le_of_subset (tab_nd hn h) (fun s hs => (mem s).mp hs)
    have b := List.Nodup.length_le_of_subset he (fun s hs => (mem s).mpr hs)
    unfold ks at a b
    rw [List.length_map, List.length_map] at a b
    unfold toK
    rw [List.length_map, List.length_map]
    omega
  · intro k v m
    obtain ⟨p, hp, e2⟩ := List.mem_map.mp m
    injection e2 with e3 e4
    subst e3 e4
    refine ⟨_, rfl, ?_⟩
    rw [val_in ((mem _).mp (List.mem_map.mpr ⟨p, hp, rfl⟩)), hg, (tab_gt h hp).1]
theorem dictP_rows {T : Dc} (hn : (ks T).Nodup) : kQ (toK T) = toK T := by
  have : ∀ (a b : Dc), (ks (a ++ b)).Nodup → (toK b).foldl (fun q kv => putK q kv.1 kv.2) (toK a) = toK (a ++ b) := by
    intro a b
    induction b generalizing a with
    | nil => intro _; rw [List.append_nil]; rfl
    | cons p b ih =>
      intro h
      have h2 : (ks (a ++ [p] ++ b)).Nodup := by rw [List.append_assoc]; exact h
      have nk : p.1 ∉ ks a := by
        unfold ks at h ⊢
        rw [List.map_append, List.map_cons, List.nodup_append] at h
        exact fun m => h.2.2 p.1 m p.1 List.mem_cons_self rfl
      show (toK b).foldl _ (putK (toK a) (.inr p.1) (.int p.2)) = _
      rw [sP _ (mV nk)]
      have := ih (a ++ [p]) h2
      rw [List.append_assoc] at this
      rw [show toK a ++ [((Sum.inr p.1 : Key), V.int p.2)] = toK (a ++ [p]) by unfold toK; rw [List.map_append]; rfl]
      exact this
  have := this [] T (by simpa using hn)
  simpa [kQ, toK] using this
end Tb

set_option linter.all false
namespace MthL
def pk (ws : List Int) (w : Int) (i : Nat) : Bool := decide (0 < ws.getD i 0 ∧ ws.getD i 0 ≤ w ∧ ∀ j, j < i → ws.getD j 0 ≠ ws.getD i 0)
def rk (ws : List Int) (w : Int) : Nat := ((List.range ws.length).filter (pk ws w)).length
theorem first {ws : List Int} {w : Int} (h : w ∈ ws) : ∃ i, i < ws.length ∧ ws.getD i 0 = w ∧ ∀ j, j < i → ws.getD j 0 ≠ w := by
  induction ws with
  | nil => cases h
  | cons a ws ih =>
    by_cases e : a = w
    · exact ⟨0, Nat.zero_lt_succ _, e, fun j hj => absurd hj (Nat.not_lt_zero _)⟩
    · obtain ⟨i, h1, h2, h3⟩ := ih ((List.mem_cons.mp h).resolve_left fun z => e z.symm)
      refine ⟨i + 1, Nat.succ_lt_succ h1, h2, fun j hj => ?_⟩
      cases j with
      | zero => exact e
      | succ j => exact h3 j (Nat.lt_of_succ_lt_succ hj)
theorem below {ws : List Int} (w : Int) : (∀ o ∈ ws, 0 < o → w ≤ o) ∨ ∃ v ∈ ws, 0 < v ∧ v < w ∧ ∀ o ∈ ws, o < w → o ≤ v := by
  induction ws with
  | nil => exact .inl fun o ho => by cases ho
  | cons a ws ih =>
    by_cases ha : 0 < a ∧ a < w
    · rcases ih with ih | ⟨v, h1, h2, h3, h4⟩
      · refine .inr ⟨a, List.mem_cons_self .., ha.1, ha.2, fun o ho hl => ?_⟩
        rcases List.mem_cons.mp ho with rfl | ho
        · exact Int.le_refl _
        · by_cases h0 : 0 < o
          · have := ih o ho h0
            omega
          · omega
      · by_cases hv : a ≤ v
        · refine .inr ⟨v, List.mem_cons_of_mem _ h1, h2, h3, fun o ho hl => ?_⟩
          rcases List.mem_cons.mp ho with rfl | ho
          · exact hv
          · exact h4 o ho hl
        · refine .inr ⟨a, List.mem_cons_self .., ha.1, ha.2, fun o ho hl => ?_⟩
          rcases List.mem_cons.mp ho with rfl | ho
          · exact Int.le_refl _
          · have := h4 o ho hl
            omega
    · rcases ih with ih | ⟨v, h1, h2, h3, h4⟩
      · refine .inl fun o ho h0 => ?_
        rcases List.mem_cons.mp ho with rfl | ho
        · omega
        · exact ih o ho h0
      · refine .inr ⟨v, List.mem_cons_of_mem _ h1, h2, h3, fun o ho hl => ?_⟩
        rcases List.mem_cons.mp ho with rfl | ho
        · omega
        · exact h4 o ho hl
end MthL

set_option linter.all false
namespace Mth
def cell (ns : List Int) (k : Int) : Int :=
  if k < (ns.length : Int) then ns.getD k.toNat 0 % 10 ^ 60
  else (if 0 < (ns.length : Int) then ns.getD (k * 7 % (ns.length : Int)).toNat 0 % 10 ^ 60 * 48271 + k * k * 69621 else 7919 * k + 5) % 2147483647 * 16807 % 2147483629
def gcd (a b : Int) : Int := (Int.gcd a b : Nat)
structure IsShare (t b x y : Int) : Prop where
  pos : 0 < y
  low : gcd x y = 1
  eq : x * b = t * y
  le1 : x.natAbs ≤ t.natAbs
  le2 : y.natAbs ≤ b.natAbs
def tot (s r : Int × Int) : Int × Int := (s.1 * r.2 + r.1 * s.2, s.2 * r.2)
structure Low (T : Int × Int) (x y : Int) : Prop where
  pos : 0 < y
  low : gcd x y = 1
  eq : x * T.2 = T.1 * y
end Mth

set_option Elab.async false
set_option linter.all false
set_option maxRecDepth 100000
set_option maxHeartbeats 4000000
namespace My
open PySem L2
def nR (K : PySem.W.Frag) : Sp := fun vs H Q _ => ∃ (a : Addr) (ns : List Int), vs = [.ref a] ∧ SqL K H a (ns.map V.int) ∧ ns.length ≤ 63 ∧ ∀ H', Q (.bl true) H'
theorem qe {ns : List Int} {k : Int} (h0 : 0 ≤ k) (h1 : k < ns.length) : atI (ns.map V.int) k = some (.int (ns.getD k.toNat 0)) := by
  have e : k = ((k.toNat : Nat) : Int) := by omega
  have h2 : k.toNat < ns.length := by omega
  have q : (ns.map V.int)[k.toNat]? = some (.int (ns.getD k.toNat 0)) := by
    rw [List.getElem?_map, List.getElem?_eq_getElem h2]
    simp [List.getD, h2]
  have := jr q
  rw [← e] at this
  exact this
theorem qG {n : Nat} {i : Int} (lo : -(10 ^ 61) ≤ i) (hi : i ≤ 10 ^ 61) (hn : 204 ≤ n := by decide) : Bits n i := (Bits.of (n := 204) (b := 10 ^ 61) lo hi (by decide)).mono hn
theorem ia {H : Hp} {p : Addr} (h : H p = none) (o : HO) : Same H (upd H p o) := fun b u q => by rw [i9 (jA q h)]; exact q
theorem Same.tup {K : PySem.W.Frag} {H H' : Hp} {a : Addr} {xs : List V} (e : Same H H') (h : SqT K H a xs) : SqT K H' a xs := by
  rcases h with (h | ⟨o, h⟩) | h
  · exact .inl (.inl (e _ _ h))
  · exact .inl (.inr ⟨o, e _ _ h⟩)
  · exact .inr h
theorem q4 {n : Int} (h0 : 0 ≤ n := by decide) (h1 : n ≤ 1000000 := by decide) : vq 10 n := ⟨h0, h1, by decide⟩
theorem mT {i j : Int} (a : -(10 ^ 61) ≤ i) (b : i ≤ 10 ^ 61) (c : -(10 ^ 61) ≤ j) (d : j ≤ 10 ^ 61) : CMulB i j := ⟨qG a b, qG c d⟩
theorem cdiv {i j : Int} (a : 0 < j) (b : j ≤ 10 ^ 61) : CDivB i j := ⟨a, qG (by omega) b⟩
theorem uG {n j : Nat} (h : j < n) : ixN n (j : Int) = some j := by
  unfold ixN
  rw [if_pos (by omega), if_pos (by omega)]
  rfl
theorem jR {K : PySem.W.Frag} {H : Hp} {p : Addr} (h : H p = none) (xs : List V) : ∃ H1, H1 = upd H p (.lst xs) ∧ Same H H1 ∧ SqL K H1 p xs := ⟨_, rfl, ia h _, SqL.of fz⟩
theorem i0 {H H' : Hp} {l : Addr} (e : Same H H') (h : H l = none) (o : HO) : Same H (upd H' l o) := fun b u hb => by rw [i9 (jA hb h)]; exact e _ _ hb


local macro_rules | `(tactic| trivial) => `(tactic| simp only [ua, mz, uu, rU, ud, sr, vJ, vt, sU, rJoin, sL, lX, slots, Option.getD_some, Option.getD_none, vv, jD, qB, nS, tOp, tC, sZ, tCB, uq, vP, nV, rI, rI0, vg, uV, tZ, tB, u7, tOr, uS, uh, um, ug, tY, u9, vh, ue, tSl, t8, ql, uY, tX, vS, vH, uo, tBM, qb, rEq, rNe, uT, sF, sQ, vB, sE, qz, pW, pq, pM, pJ, sD, qC, rB, qJ, qQ, qK, pX, pY, pG, pA, qw, pR, oY, oV, pP, qO, oZ, pT, pS, oW, qU, pN, pQ, pC, oX, qN, pD, pU, pL, pF, vm, v8, vR, vf, qx, qo, qS, rF, rS, qH, qW, qF, tF, qX, qV, rm, rX, rK, decide_true, decide_false, uw, qY, u0, tW, sU, uJ, sI, uP, sO, sy, L2.start, cxK, Int.reduceToNat, List.map_cons, List.map_nil, List.length_cons, List.length_nil, Nat.reduceAdd, Nat.reduceSub, Nat.zero_add, List.replicate_succ, List.replicate_zero, List.cons_append, List.nil_append, List.append_nil, List.getElem?_cons_zero, List.getElem?_cons_succ, List.set_cons_zero, List.set_cons_succ, Option.some.injEq, V.int.injEq, V.bl.injEq, V.ref.injEq, V.str.injEq, V.ty.injEq, List.cons.injEq, exists_eq_left', exists_eq_left, exists_eq_right, exists_and_left, exists_and_right, and_true, true_and, and_assoc, exists_const, decide_eq_true_eq, Bool.not_eq_true', Bool.not_true, Bool.not_false, Bool.not_not, decide_eq_false_iff_not, ite_not, Bool.false_eq_true, if_true, if_false, reduceCtorEq, and_false, false_and, exists_false, or_false, false_or, ↓reduceIte, eq_self, reduceIte])
local macro_rules | `(tactic| decreasing_trivial) => `(tactic| first | exact Or.inl rfl | exact Or.inr (Or.inl rfl) | exact Or.inr (Or.inr rfl))
def top (i : Nat) : Stmt := PySem.Challenge.pw_tariffgate_k52_tables_come_to_prices.main.body.getD i (.Pass ⟨0, 0, 0, 0⟩)
theorem e8 : (("lots" : Str) == ("__debug__" : Str)) = false := by decide
theorem fb : (("lots" : Str) == ("__classdict__" : Str)) = false := by decide
theorem iw : (("inputs" : Str) == ("__debug__" : Str)) = false := by decide
theorem iy : (("inputs" : Str) == ("__classdict__" : Str)) = false := by decide
theorem gn : (("sum" : Str) == ("__debug__" : Str)) = false := by decide
theorem gp : ("sum" : Str) ≠ "__name__" := by decide
theorem iE : (("place" : Str) == ("__debug__" : Str)) = false := by decide
theorem iF : (("place" : Str) == ("__classdict__" : Str)) = false := by decide
theorem cv : (("tables" : Str) == ("__debug__" : Str)) = false := by decide
theorem cw : (("tables" : Str) == ("__classdict__" : Str)) = false := by decide
theorem dE : (("lot" : Str) == ("__debug__" : Str)) = false := by decide
theorem dG : (("lot" : Str) == ("__classdict__" : Str)) = false := by decide
theorem dI : (("worths" : Str) == ("__debug__" : Str)) = false := by decide
theorem dJ : (("worths" : Str) == ("__classdict__" : Str)) = false := by decide
theorem io : (("land" : Str) == ("__debug__" : Str)) = false := by decide
theorem iq : (("land" : Str) == ("__classdict__" : Str)) = false := by decide
theorem iG : (("worth" : Str) == ("__debug__" : Str)) = false := by decide
theorem iH : (("worth" : Str) == ("__classdict__" : Str)) = false := by decide
theorem dL : (("price_of_inputs" : Str) == ("__debug__" : Str)) = false := by decide
theorem iA : (("sorted" : Str) == ("__debug__" : Str)) = false := by decide
theorem iB : ("sorted" : Str) ≠ "__name__" := by decide
theorem gP : (("table_of" : Str) == ("__debug__" : Str)) = false := by decide
theorem aP : (("_law_script" : Str) == ("__debug__" : Str)) = false := by decide
theorem aQ : (("_law_script" : Str) == ("__classdict__" : Str)) = false := by decide
theorem aN : (("_law_k" : Str) == ("__debug__" : Str)) = false := by decide
theorem aO : (("_law_k" : Str) == ("__classdict__" : Str)) = false := by decide
theorem bB : (("len" : Str) == ("__debug__" : Str)) = false := by decide
theorem bC : ("len" : Str) ≠ "__name__" := by decide
theorem av : (("_law_cell" : Str) == ("__debug__" : Str)) = false := by decide
theorem aw : (("_law_cell" : Str) == ("__classdict__" : Str)) = false := by decide
theorem eS : (("_law_by" : Str) == ("__debug__" : Str)) = false := by decide
theorem eU : (("_law_by" : Str) == ("__classdict__" : Str)) = false := by decide
theorem cY : (("_law_thing" : Str) == ("__debug__" : Str)) = false := by decide
theorem cZ : (("_law_thing" : Str) == ("__classdict__" : Str)) = false := by decide
theorem aR : (("isinstance" : Str) == ("__debug__" : Str)) = false := by decide
theorem aS : ("isinstance" : Str) ≠ "__name__" := by decide
theorem iS : (("int" : Str) == ("__debug__" : Str)) = false := by decide
theorem iT : ("int" : Str) ≠ "__name__" := by decide
theorem iI : (("bool" : Str) == ("__debug__" : Str)) = false := by decide
theorem iJ : ("bool" : Str) ≠ "__name__" := by decide
theorem bY : (("_law_size" : Str) == ("__debug__" : Str)) = false := by decide
theorem bZ : (("_law_size" : Str) == ("__classdict__" : Str)) = false := by decide
theorem eJ : (("tuple" : Str) == ("__debug__" : Str)) = false := by decide
theorem eK : ("tuple" : Str) ≠ "__name__" := by decide
theorem cA : (("_law_mix" : Str) == ("__debug__" : Str)) = false := by decide
theorem gq : (("_law_base" : Str) == ("__debug__" : Str)) = false := by decide
theorem gr : (("_law_base" : Str) == ("__classdict__" : Str)) = false := by decide
theorem bD : (("_law_many" : Str) == ("__debug__" : Str)) = false := by decide
theorem bE : (("_law_many" : Str) == ("__classdict__" : Str)) = false := by decide
theorem aZ : (("_law_at" : Str) == ("__debug__" : Str)) = false := by decide
theorem ba : (("_law_at" : Str) == ("__classdict__" : Str)) = false := by decide
theorem da : (("_law_names" : Str) == ("__debug__" : Str)) = false := by decide
theorem db : (("_law_names" : Str) == ("__classdict__" : Str)) = false := by decide
theorem ax : (("_law_row" : Str) == ("__debug__" : Str)) = false := by decide
theorem ay : (("_law_row" : Str) == ("__classdict__" : Str)) = false := by decide
theorem cb : (("_law_some" : Str) == ("__debug__" : Str)) = false := by decide
theorem cc : (("_law_some" : Str) == ("__classdict__" : Str)) = false := by decide
theorem dM : (("_law_near" : Str) == ("__debug__" : Str)) = false := by decide
theorem dN : (("_law_near" : Str) == ("__classdict__" : Str)) = false := by decide
theorem iC : (("max" : Str) == ("__debug__" : Str)) = false := by decide
theorem iD : ("max" : Str) ≠ "__name__" := by decide
theorem iU : (("min" : Str) == ("__debug__" : Str)) = false := by decide
theorem iV : ("min" : Str) ≠ "__name__" := by decide
theorem ag : (("_law_lots_here" : Str) == ("__debug__" : Str)) = false := by decide
theorem ai : (("_law_lots_here" : Str) == ("__classdict__" : Str)) = false := by decide
theorem bg : (("_law_lands_here" : Str) == ("__debug__" : Str)) = false := by decide
theorem bh : (("_law_lands_here" : Str) == ("__classdict__" : Str)) = false := by decide
theorem aT : (("_law_cells" : Str) == ("__debug__" : Str)) = false := by decide
theorem aU : (("_law_cells" : Str) == ("__classdict__" : Str)) = false := by decide
theorem aG : (("_law_inputs_here" : Str) == ("__debug__" : Str)) = false := by decide
theorem aH : (("_law_inputs_here" : Str) == ("__classdict__" : Str)) = false := by decide
theorem bb : (("_law_total" : Str) == ("__debug__" : Str)) = false := by decide
theorem bc : (("_law_total" : Str) == ("__classdict__" : Str)) = false := by decide
theorem cB : (("_law_way" : Str) == ("__debug__" : Str)) = false := by decide
theorem cC : (("_law_way" : Str) == ("__classdict__" : Str)) = false := by decide
theorem bd : (("_law_own" : Str) == ("__debug__" : Str)) = false := by decide
theorem bf : (("_law_own" : Str) == ("__classdict__" : Str)) = false := by decide
theorem bS : (("_law_price" : Str) == ("__debug__" : Str)) = false := by decide
theorem bT : (("_law_price" : Str) == ("__classdict__" : Str)) = false := by decide
theorem fc : (("_law_inputs" : Str) == ("__debug__" : Str)) = false := by decide
theorem fg : (("_law_number" : Str) == ("__debug__" : Str)) = false := by decide
theorem fH : (("_law_lands" : Str) == ("__debug__" : Str)) = false := by decide
theorem bF : (("_law_cell_at" : Str) == ("__debug__" : Str)) = false := by decide
theorem gQ : (("_law_lot" : Str) == ("__debug__" : Str)) = false := by decide
theorem aD : (("_law_found" : Str) == ("__debug__" : Str)) = false := by decide
theorem aE : (("_law_found" : Str) == ("__classdict__" : Str)) = false := by decide
theorem aI : (("_law_due_here" : Str) == ("__debug__" : Str)) = false := by decide
theorem aJ : (("_law_due_here" : Str) == ("__classdict__" : Str)) = false := by decide
theorem dO : (("_law_land" : Str) == ("__debug__" : Str)) = false := by decide
theorem dS : (("_law_land" : Str) == ("__classdict__" : Str)) = false := by decide
theorem dc : (("_law_place" : Str) == ("__debug__" : Str)) = false := by decide
theorem de : (("_law_place" : Str) == ("__classdict__" : Str)) = false := by decide
theorem fJ : (("_law_worth" : Str) == ("__debug__" : Str)) = false := by decide
theorem fK : (("_law_worth" : Str) == ("__classdict__" : Str)) = false := by decide
theorem bj : (("_law_table_here" : Str) == ("__debug__" : Str)) = false := by decide
theorem bn : (("_law_table_here" : Str) == ("__classdict__" : Str)) = false := by decide
theorem fL : (("_law_ahead" : Str) == ("__debug__" : Str)) = false := by decide
theorem fM : (("_law_ahead" : Str) == ("__classdict__" : Str)) = false := by decide
theorem eh : (("list" : Str) == ("__debug__" : Str)) = false := by decide
theorem ei : ("list" : Str) ≠ "__name__" := by decide
theorem iK : (("dict" : Str) == ("__debug__" : Str)) = false := by decide
theorem iL : ("dict" : Str) ≠ "__name__" := by decide
theorem iW : (("str" : Str) == ("__debug__" : Str)) = false := by decide
theorem iX : ("str" : Str) ≠ "__name__" := by decide
theorem fN : (("_law_whole" : Str) == ("__debug__" : Str)) = false := by decide
theorem bI : (("_law_handed" : Str) == ("__debug__" : Str)) = false := by decide
theorem bJ : (("_law_handed" : Str) == ("__classdict__" : Str)) = false := by decide
theorem gu : (("_law_kept" : Str) == ("__debug__" : Str)) = false := by decide
theorem gv : (("_law_kept" : Str) == ("__classdict__" : Str)) = false := by decide
theorem gw : (("_law_lots" : Str) == ("__debug__" : Str)) = false := by decide
theorem ce : (("worths_of" : Str) == ("__debug__" : Str)) = false := by decide
theorem fO : (("_law_table" : Str) == ("__debug__" : Str)) = false := by decide
theorem gR : (("_law_due" : Str) == ("__debug__" : Str)) = false := by decide
abbrev aq : Stmt := top 1
theorem dU : FnScope ["lots", "inputs"] ["lots", "inputs"] (defScope aq) := ⟨rfl, rfl, rfl, by decide +kernel, rfl, by decide +kernel, by decide +kernel⟩
theorem dA : Vis (defScope aq) "inputs" := by decreasing_trivial
theorem cL : (defScope aq).names.lookup ("sum" : Str) = some .globalImplicit := by rfl
abbrev ak : Stmt := top 2
theorem bq : FnScope ["lots", "tables", "lot", "worths", "place", "land", "worth"] ["lots", "tables", "lot"] (defScope ak) := ⟨rfl, rfl, rfl, by decide +kernel, rfl, by decide +kernel, by decide +kernel⟩
theorem gx : Vis (defScope ak) "lots" := by decreasing_trivial
theorem gy : Vis (defScope ak) "tables" := by decreasing_trivial
theorem bG : Vis (defScope ak) "lot" := by decreasing_trivial
theorem cf : Vis (defScope ak) "worths" := by decreasing_trivial
theorem gz : Loc (defScope ak) "worths" := by first | exact Or.inl rfl | exact Or.inr rfl
theorem gA : Vis (defScope ak) "place" := by decreasing_trivial
theorem gB : Loc (defScope ak) "place" := by first | exact Or.inl rfl | exact Or.inr rfl
theorem dW : Vis (defScope ak) "land" := by decreasing_trivial
theorem gC : Loc (defScope ak) "land" := by first | exact Or.inl rfl | exact Or.inr rfl
theorem gD : Vis (defScope ak) "worth" := by decreasing_trivial
theorem gE : Loc (defScope ak) "worth" := by first | exact Or.inl rfl | exact Or.inr rfl
theorem bU : (defScope ak).names.lookup ("price_of_inputs" : Str) = some .globalImplicit := by rfl
theorem ej : (defScope ak).names.lookup ("sorted" : Str) = some .globalImplicit := by rfl
abbrev au : Stmt := top 3
theorem cj : FnScope ["lots", "tables", "lot"] ["lots"] (defScope au) := ⟨rfl, rfl, rfl, by decide +kernel, rfl, by decide +kernel, by decide +kernel⟩
theorem df : Vis (defScope au) "lots" := by decreasing_trivial
theorem bV : Vis (defScope au) "tables" := by decreasing_trivial
theorem fP : Loc (defScope au) "tables" := by first | exact Or.inl rfl | exact Or.inr rfl
theorem fQ : Vis (defScope au) "lot" := by decreasing_trivial
theorem fR : Loc (defScope au) "lot" := by first | exact Or.inl rfl | exact Or.inr rfl
theorem cV : (defScope au).names.lookup ("table_of" : Str) = some .globalImplicit := by rfl
abbrev aA : Stmt := top 5
theorem fh : FnScope ["_law_script", "_law_k"] ["_law_script", "_law_k"] (defScope aA) := ⟨rfl, rfl, rfl, by decide +kernel, rfl, by decide +kernel, by decide +kernel⟩
theorem cx : Vis (defScope aA) "_law_script" := by decreasing_trivial
theorem cy : Vis (defScope aA) "_law_k" := by decreasing_trivial
theorem em : (defScope aA).names.lookup ("len" : Str) = some .globalImplicit := by rfl
abbrev aY : Stmt := top 6
theorem iu : FnScope ["_law_cell", "_law_by"] ["_law_cell", "_law_by"] (defScope aY) := ⟨rfl, rfl, rfl, by decide +kernel, rfl, by decide +kernel, by decide +kernel⟩
theorem gS : Vis (defScope aY) "_law_cell" := by decreasing_trivial
theorem gU : Vis (defScope aY) "_law_by" := by decreasing_trivial
abbrev aB : Stmt := top 7
theorem gF : FnScope ["_law_thing"] ["_law_thing"] (defScope aB) := ⟨rfl, rfl, rfl, by decide +kernel, rfl, by decide +kernel, by decide +kernel⟩
theorem dh : Vis (defScope aB) "_law_thing" := by decreasing_trivial
theorem br : (defScope aB).names.lookup ("isinstance" : Str) = some .globalImplicit := by rfl
theorem eV : (defScope aB).names.lookup ("int" : Str) = some .globalImplicit := by rfl
theorem eL : (defScope aB).names.lookup ("bool" : Str) = some .globalImplicit := by rfl
abbrev ao : Stmt := top 8
theorem bz : FnScope ["_law_cell", "_law_size", "_law_wide", "_law_by"] ["_law_cell"] (defScope ao) := ⟨rfl, rfl, rfl, by decide +kernel, rfl, by decide +kernel, by decide +kernel⟩
theorem cM : Vis (defScope ao) "_law_cell" := by decreasing_trivial
theorem fk : Vis (defScope ao) "_law_size" := by decreasing_trivial
theorem fm : Loc (defScope ao) "_law_size" := by first | exact Or.inl rfl | exact Or.inr rfl
theorem fo : Loc (defScope ao) "_law_wide" := by first | exact Or.inl rfl | exact Or.inr rfl
theorem fq : Loc (defScope ao) "_law_by" := by first | exact Or.inl rfl | exact Or.inr rfl
theorem dX : (defScope ao).names.lookup ("tuple" : Str) = some .globalImplicit := by rfl
theorem dY : (defScope ao).names.lookup ("range" : Str) = some .globalImplicit := by rfl
abbrev ac : Stmt := top 9
theorem az : FnScope ["_law_cell", "_law_letters", "_law_by", "_law_base", "_law_many", "_law_size", "_law_at", "_law_names", "_law_k", "_law_row"] ["_law_cell"] (defScope ac) := ⟨rfl, rfl, rfl, by decide +kernel, rfl, by decide +kernel, by decide +kernel⟩
theorem bA : Vis (defScope ac) "_law_cell" := by decreasing_trivial
theorem fS : Loc (defScope ac) "_law_letters" := by first | exact Or.inl rfl | exact Or.inr rfl
theorem fT : Loc (defScope ac) "_law_by" := by first | exact Or.inl rfl | exact Or.inr rfl
theorem fU : Vis (defScope ac) "_law_base" := by decreasing_trivial
theorem fV : Loc (defScope ac) "_law_base" := by first | exact Or.inl rfl | exact Or.inr rfl
theorem di : Vis (defScope ac) "_law_many" := by decreasing_trivial
theorem fW : Loc (defScope ac) "_law_many" := by first | exact Or.inl rfl | exact Or.inr rfl
theorem dj : Vis (defScope ac) "_law_size" := by decreasing_trivial
theorem fX : Loc (defScope ac) "_law_size" := by first | exact Or.inl rfl | exact Or.inr rfl
theorem dm : Vis (defScope ac) "_law_at" := by decreasing_trivial
theorem fY : Loc (defScope ac) "_law_at" := by first | exact Or.inl rfl | exact Or.inr rfl
theorem dq : Vis (defScope ac) "_law_names" := by decreasing_trivial
theorem fZ : Loc (defScope ac) "_law_names" := by first | exact Or.inl rfl | exact Or.inr rfl
theorem gb : Vis (defScope ac) "_law_k" := by decreasing_trivial
theorem gc : Loc (defScope ac) "_law_k" := by first | exact Or.inl rfl | exact Or.inr rfl
theorem bW : Vis (defScope ac) "_law_row" := by decreasing_trivial
theorem gd : Loc (defScope ac) "_law_row" := by first | exact Or.inl rfl | exact Or.inr rfl
theorem bo : (defScope ac).names.lookup ("range" : Str) = some .globalImplicit := by rfl
abbrev aa : Stmt := top 10
theorem aK : FnScope ["_law_cell", "_law_many", "_law_some", "_law_by", "_law_near", "_law_k", "_law_at"] ["_law_cell", "_law_many"] (defScope aa) := ⟨rfl, rfl, rfl, by decide +kernel, rfl, by decide +kernel, by decide +kernel⟩
theorem bK : Vis (defScope aa) "_law_cell" := by decreasing_trivial
theorem cN : Vis (defScope aa) "_law_many" := by decreasing_trivial
theorem bL : Vis (defScope aa) "_law_some" := by decreasing_trivial
theorem ft : Loc (defScope aa) "_law_some" := by first | exact Or.inl rfl | exact Or.inr rfl
theorem fu : Vis (defScope aa) "_law_by" := by decreasing_trivial
theorem fw : Loc (defScope aa) "_law_by" := by first | exact Or.inl rfl | exact Or.inr rfl
theorem cO : Vis (defScope aa) "_law_near" := by decreasing_trivial
theorem cP : Loc (defScope aa) "_law_near" := by first | exact Or.inl rfl | exact Or.inr rfl
theorem bM : Vis (defScope aa) "_law_k" := by decreasing_trivial
theorem fA : Loc (defScope aa) "_law_k" := by first | exact Or.inl rfl | exact Or.inr rfl
theorem bN : Vis (defScope aa) "_law_at" := by decreasing_trivial
theorem fC : Loc (defScope aa) "_law_at" := by first | exact Or.inl rfl | exact Or.inr rfl
theorem eM : (defScope aa).names.lookup ("max" : Str) = some .globalImplicit := by rfl
theorem eN : (defScope aa).names.lookup ("min" : Str) = some .globalImplicit := by rfl
theorem dZ : (defScope aa).names.lookup ("range" : Str) = some .globalImplicit := by rfl
theorem cQ : (defScope aa).names.lookup ("_law_mix" : Str) = some .globalImplicit := by rfl
abbrev aj : Stmt := top 11
theorem aM : FnScope ["_law_lots_here", "_law_lands_here", "_law_cells", "_law_inputs_here", "_law_total", "_law_way", "_law_own", "_law_price"] ["_law_lots_here", "_law_lands_here", "_law_cells"] (defScope aj) := ⟨rfl, rfl, rfl, by decide +kernel, rfl, by decide +kernel, by decide +kernel⟩
theorem gW : Vis (defScope aj) "_law_lots_here" := by decreasing_trivial
theorem eB : Vis (defScope aj) "_law_lands_here" := by decreasing_trivial
theorem bt : Vis (defScope aj) "_law_cells" := by decreasing_trivial
theorem bQ : Vis (defScope aj) "_law_inputs_here" := by decreasing_trivial
theorem gX : Loc (defScope aj) "_law_inputs_here" := by first | exact Or.inl rfl | exact Or.inr rfl
theorem cD : Vis (defScope aj) "_law_total" := by decreasing_trivial
theorem gY : Loc (defScope aj) "_law_total" := by first | exact Or.inl rfl | exact Or.inr rfl
theorem cE : Vis (defScope aj) "_law_way" := by decreasing_trivial
theorem gZ : Loc (defScope aj) "_law_way" := by first | exact Or.inl rfl | exact Or.inr rfl
theorem cF : Vis (defScope aj) "_law_own" := by decreasing_trivial
theorem bR : Loc (defScope aj) "_law_own" := by first | exact Or.inl rfl | exact Or.inr rfl
theorem g9 : Vis (defScope aj) "_law_price" := by decreasing_trivial
theorem hG : Loc (defScope aj) "_law_price" := by first | exact Or.inl rfl | exact Or.inr rfl
theorem cR : (defScope aj).names.lookup ("_law_inputs" : Str) = some .globalImplicit := by rfl
theorem du : (defScope aj).names.lookup ("len" : Str) = some .globalImplicit := by rfl
theorem dv : (defScope aj).names.lookup ("sum" : Str) = some .globalImplicit := by rfl
theorem gf : (defScope aj).names.lookup ("max" : Str) = some .globalImplicit := by rfl
theorem cS : (defScope aj).names.lookup ("_law_number" : Str) = some .globalImplicit := by rfl
theorem eW : (defScope aj).names.lookup ("tuple" : Str) = some .globalImplicit := by rfl
abbrev al : Stmt := top 12
theorem bu : FnScope ["_law_script", "_law_lands_here", "_law_lots_here", "_law_j", "_law_cells"] ["_law_script"] (defScope al) := ⟨rfl, rfl, rfl, by decide +kernel, rfl, by decide +kernel, by decide +kernel⟩
theorem d6 : Vis (defScope al) "_law_script" := by decreasing_trivial
theorem gG : Vis (defScope al) "_law_lands_here" := by decreasing_trivial
theorem gH : Loc (defScope al) "_law_lands_here" := by first | exact Or.inl rfl | exact Or.inr rfl
theorem ck : Vis (defScope al) "_law_lots_here" := by decreasing_trivial
theorem gI : Loc (defScope al) "_law_lots_here" := by first | exact Or.inl rfl | exact Or.inr rfl
theorem gJ : Loc (defScope al) "_law_j" := by first | exact Or.inl rfl | exact Or.inr rfl
theorem gK : Vis (defScope al) "_law_cells" := by decreasing_trivial
theorem gL : Loc (defScope al) "_law_cells" := by first | exact Or.inl rfl | exact Or.inr rfl
theorem cT : (defScope al).names.lookup ("_law_lands" : Str) = some .globalImplicit := by rfl
theorem cu : (defScope al).names.lookup ("_law_cell_at" : Str) = some .globalImplicit := by rfl
theorem cm : (defScope al).names.lookup ("range" : Str) = some .globalImplicit := by rfl
theorem fD : (defScope al).names.lookup ("len" : Str) = some .globalImplicit := by rfl
theorem dC : (defScope al).names.lookup ("_law_lot" : Str) = some .globalImplicit := by rfl
abbrev af : Stmt := top 13
theorem aC : FnScope ["_law_found", "_law_lots_here", "_law_k", "_law_land", "_law_number_here", "_law_price", "_law_inputs_here", "_law_due_here", "_law_own", "_law_at", "_law_place", "_law_worth"] ["_law_found", "_law_lots_here", "_law_k"] (defScope af) := ⟨rfl, rfl, rfl, by decide +kernel, rfl, by decide +kernel, by decide +kernel⟩
theorem hJ : Vis (defScope af) "_law_found" := by decreasing_trivial
theorem eE : Vis (defScope af) "_law_lots_here" := by decreasing_trivial
theorem hU : Vis (defScope af) "_law_k" := by decreasing_trivial
theorem eF : Vis (defScope af) "_law_land" := by decreasing_trivial
theorem hV : Loc (defScope af) "_law_land" := by first | exact Or.inl rfl | exact Or.inr rfl
theorem hX : Loc (defScope af) "_law_number_here" := by first | exact Or.inl rfl | exact Or.inr rfl
theorem h7 : Vis (defScope af) "_law_price" := by decreasing_trivial
theorem h8 : Loc (defScope af) "_law_price" := by first | exact Or.inl rfl | exact Or.inr rfl
theorem ie : Vis (defScope af) "_law_inputs_here" := by decreasing_trivial
theorem ig : Loc (defScope af) "_law_inputs_here" := by first | exact Or.inl rfl | exact Or.inr rfl
theorem bw : Vis (defScope af) "_law_due_here" := by decreasing_trivial
theorem ii : Loc (defScope af) "_law_due_here" := by first | exact Or.inl rfl | exact Or.inr rfl
theorem cG : Vis (defScope af) "_law_own" := by decreasing_trivial
theorem eG : Loc (defScope af) "_law_own" := by first | exact Or.inl rfl | exact Or.inr rfl
theorem eI : Vis (defScope af) "_law_at" := by decreasing_trivial
theorem ij : Loc (defScope af) "_law_at" := by first | exact Or.inl rfl | exact Or.inr rfl
theorem d7 : Vis (defScope af) "_law_place" := by decreasing_trivial
theorem gM : Loc (defScope af) "_law_place" := by first | exact Or.inl rfl | exact Or.inr rfl
theorem gN : Vis (defScope af) "_law_worth" := by decreasing_trivial
theorem gO : Loc (defScope af) "_law_worth" := by first | exact Or.inl rfl | exact Or.inr rfl
abbrev ae : Stmt := top 14
theorem aX : FnScope ["_law_table_here", "_law_price", "_law_due_here", "_law_total", "_law_ahead", "_law_row"] ["_law_table_here", "_law_price", "_law_due_here"] (defScope ae) := ⟨rfl, rfl, rfl, by decide +kernel, rfl, by decide +kernel, by decide +kernel⟩
theorem bX : Vis (defScope ae) "_law_table_here" := by decreasing_trivial
theorem gh : Vis (defScope ae) "_law_price" := by decreasing_trivial
theorem gi : Vis (defScope ae) "_law_due_here" := by decreasing_trivial
theorem dw : Vis (defScope ae) "_law_total" := by decreasing_trivial
theorem dy : Loc (defScope ae) "_law_total" := by first | exact Or.inl rfl | exact Or.inr rfl
theorem gj : Vis (defScope ae) "_law_ahead" := by decreasing_trivial
theorem dz : Loc (defScope ae) "_law_ahead" := by first | exact Or.inl rfl | exact Or.inr rfl
theorem aF : Vis (defScope ae) "_law_row" := by decreasing_trivial
theorem gk : Loc (defScope ae) "_law_row" := by first | exact Or.inl rfl | exact Or.inr rfl
theorem aW : (defScope ae).names.lookup ("isinstance" : Str) = some .globalImplicit := by rfl
theorem eO : (defScope ae).names.lookup ("list" : Str) = some .globalImplicit := by rfl
theorem eA : (defScope ae).names.lookup ("tuple" : Str) = some .globalImplicit := by rfl
theorem eX : (defScope ae).names.lookup ("len" : Str) = some .globalImplicit := by rfl
theorem eY : (defScope ae).names.lookup ("str" : Str) = some .globalImplicit := by rfl
theorem cH : (defScope ae).names.lookup ("_law_whole" : Str) = some .globalImplicit := by rfl
theorem eP : (defScope ae).names.lookup ("dict" : Str) = some .globalImplicit := by rfl
abbrev ar : Stmt := top 15
theorem cU : FnScope ["_law_script", "_law_lots_here", "_law_handed", "_law_found", "_law_k", "_law_kept"] ["_law_script"] (defScope ar) := ⟨rfl, rfl, rfl, by decide +kernel, rfl, by decide +kernel, by decide +kernel⟩
theorem ir : Vis (defScope ar) "_law_script" := by decreasing_trivial
theorem bO : Vis (defScope ar) "_law_lots_here" := by decreasing_trivial
theorem iM : Loc (defScope ar) "_law_lots_here" := by first | exact Or.inl rfl | exact Or.inr rfl
theorem fE : Vis (defScope ar) "_law_handed" := by decreasing_trivial
theorem iN : Loc (defScope ar) "_law_handed" := by first | exact Or.inl rfl | exact Or.inr rfl
theorem bP : Vis (defScope ar) "_law_found" := by decreasing_trivial
theorem iO : Loc (defScope ar) "_law_found" := by first | exact Or.inl rfl | exact Or.inr rfl
theorem fF : Vis (defScope ar) "_law_k" := by decreasing_trivial
theorem iP : Loc (defScope ar) "_law_k" := by first | exact Or.inl rfl | exact Or.inr rfl
theorem iQ : Vis (defScope ar) "_law_kept" := by decreasing_trivial
theorem iR : Loc (defScope ar) "_law_kept" := by first | exact Or.inl rfl | exact Or.inr rfl
theorem eZ : (defScope ar).names.lookup ("_law_lots" : Str) = some .globalImplicit := by rfl
theorem e7 : (defScope ar).names.lookup ("list" : Str) = some .globalImplicit := by rfl
theorem bH : (defScope ar).names.lookup ("worths_of" : Str) = some .globalImplicit := by rfl
theorem eQ : (defScope ar).names.lookup ("isinstance" : Str) = some .globalImplicit := by rfl
theorem cz : (defScope ar).names.lookup ("len" : Str) = some .globalImplicit := by rfl
theorem im : (defScope ar).names.lookup ("range" : Str) = some .globalImplicit := by rfl
theorem eR : (defScope ar).names.lookup ("_law_table" : Str) = some .globalImplicit := by rfl
theorem fG : (defScope ar).names.lookup ("_law_due" : Str) = some .globalImplicit := by rfl
theorem d8 : (defScope ar).names.lookup ("_law_cell_at" : Str) = some .globalImplicit := by rfl

def nameB (cs : List Nat) : Bool := decide (1 ≤ cs.length ∧ cs.length ≤ 8) && cs.all nQ
abbrev asc (cs : List Nat) : Prop := cs.all (fun c => decide (c < 128)) = true
inductive NameV (K : PySem.W.Frag) (H : Hp) : V → Bool → Prop
  | no {v : V} {k : Kn} : Kd K H v k → k ≠ .str → NameV K H v false
  | txt {cs : List Nat} : asc cs → cs.length ≤ 1000 → NameV K H (.str (txt cs)) (nameB cs)
structure Lt where
  q : Addr
  np : Addr
  ip : Addr
  cs : List Nat
  nv : List Int
  pr : Int
  is : List Int
def refs (gs : List Lt) : List V := gs.map fun g => V.ref g.q
structure LtAt (K : PySem.W.Frag) (H : Hp) (g : Lt) : Prop where
  tq : SqT K H g.q [.str (txt g.cs), .ref g.np, .int g.pr, .ref g.ip]
  tn : SqT K H g.np (g.nv.map V.int)
  ti : H g.ip = some (.tup (g.is.map V.int))
theorem LtAt.same {K : PySem.W.Frag} {H H' : Hp} {g : Lt} (h : LtAt K H g) (e : Same H H') : LtAt K H' g := ⟨Same.tup e h.tq, Same.tup e h.tn, e _ _ h.ti⟩
theorem LtAt.upd {K : PySem.W.Frag} {H : Hp} {g : Lt} {l : Addr} {xs ys : List V} (h : LtAt K H g) (d : H l = some (.lst xs)) : LtAt K (upd H l (.lst ys)) g :=
  ⟨SqT.lst h.tq d, SqT.lst h.tn d, by rw [i9 (nU h.ti d (by intro z; cases z))]; exact h.ti⟩
def jt (gs : List Lt) (j : Int) : Int := ((gs[j.toNat]?).map (·.pr)).getD 0
def sumP (gs : List Lt) (is : List Int) : Int := (is.map (jt gs)).sum
structure GoodL (gs : List Lt) (g : Lt) : Prop where
  name : nameB g.cs = true
  nl1 : 1 ≤ g.nv.length
  nl4 : g.nv.length ≤ 4
  nin : ∀ i ∈ g.nv, 1 ≤ i ∧ i ≤ 99
  p1 : 1 ≤ g.pr
  p2 : g.pr ≤ 10 ^ 12
  il : g.is.length ≤ 4
  iin : ∀ i ∈ g.is, 0 ≤ i ∧ i < gs.length
  nd : ∀ i ∈ g.is, g.is.count i = 1
  sm : sumP gs g.is ≤ g.pr
def Lots (gs : List Lt) : Prop := ∀ (i : Nat) g, gs[i]? = some g → GoodL (gs.take i) g
theorem jF (gs : List Lt) : (refs gs).length = gs.length := List.length_map ..
theorem uF (gs : List Lt) : (refs gs).all okV = true := by
  rw [List.all_eq_true]
  intro x hx
  obtain ⟨r, _, rfl⟩ := List.mem_map.mp hx
  rfl
theorem uK {gs : List Lt} {i : Nat} {x : V} (h : (refs gs)[i]? = some x) : ∃ g, gs[i]? = some g ∧ x = .ref g.q := by
  unfold refs at h
  rw [List.getElem?_map] at h
  cases e : gs[i]? with
  | none => rw [e] at h; cases h
  | some r => rw [e] at h; exact ⟨r, rfl, (Option.some.inj h).symm⟩
theorem sG {gs : List Lt} {i : Nat} {g : Lt} (h : gs[i]? = some g) : (refs gs)[i]? = some (.ref g.q) := by
  unfold refs
  rw [List.getElem?_map, h]
  rfl
theorem j6 {gs : List Lt} {i : Nat} {g : Lt} (h : gs[i]? = some g) : atI (refs gs) (i : Int) = some (.ref g.q) := jr (sG h)
theorem rQ (gs : List Lt) (g : Lt) : refs (gs ++ [g]) = refs gs ++ [.ref g.q] := by
  unfold refs
  rw [List.map_append]
  rfl
theorem take_snoc {α : Type} {gs : List α} {i : Nat} {g : α} (h : gs[i]? = some g) : gs.take (i + 1) = gs.take i ++ [g] := by
  rw [List.take_add_one, h]
  rfl
theorem mJ {cs : List Nat} (h : nameB cs = true) : (1 ≤ cs.length ∧ cs.length ≤ 8) ∧ cs.all nQ = true := by
  unfold nameB at h
  rw [Bool.and_eq_true, decide_eq_true_iff] at h
  exact h
def kZ (K : PySem.W.Frag) : Sp := fun vs H Q _ => ∃ (a ip : Addr) (gs : List Lt) (is : List Int), vs = [.ref a, .ref ip] ∧ SqL K H a (refs gs) ∧ (∀ g ∈ gs, LtAt K H g) ∧ SqT K H ip (is.map V.int) ∧ is.length ≤ 4 ∧ (∀ i ∈ is, 0 ≤ i ∧ i < (gs.length : Int)) ∧ ∀ H', Same H H' → Q (.int (sumP gs is)) H'
theorem Lots.take {gs : List Lt} (h : Lots gs) (n : Nat) : Lots (gs.take n) := fun i g hg => by
  rw [List.getElem?_take] at hg
  split at hg
  · rename_i hi
    have := h i g hg
    rw [List.take_take, Nat.min_eq_left (by omega)]
    exact this
  · cases hg
section
variable {P : Program} {w : World} {K : PySem.W.Frag} {mg : Str → Option Value} {base : Heap} {f : Addr} {fd : FuncData}
theorem lC (F : Fun K "price_of_inputs" "price_of_inputs" aq f fd) (M : Mg mg) : FnOk P w K mg base CX0 1 f fd ["lots", "inputs"] (kZ K) := by
  refine F.ok dU (fun vs H Q E h => ?_) (fun cdv A outer s H vs Q E hr h => ?_)
  · obtain ⟨a, ip, gs, is, rfl, _⟩ := h
    rfl
  obtain ⟨a, ip, gs, is, rfl, L, at_, T, l4, iin, q⟩ := h
  refine ⟨_, (@g8 _ _ _ (@je _ _ _ _ (@ja _ _ _ _ _ _ _ _ _ (kY rfl) cL M.m_sum qL (@eo _ _ _ _ _ (@jI _ _ _ _ _ _ _ _ _ _ _ _ _ _ _ rfl (CompOk.make (N' := ["lots", "place"]) (ix := [0]) (nl := 1) (by rfl) (fm1 rfl fm0) (by rfl) (by decide +kernel) rfl (by decide +kernel) rfl (And.intro ⟨rfl, .inl rfl, .inl rfl⟩ True.intro)) (@oR _ _ _ _ (@cg _ 1 _ _ rfl dA iw iy)) (fun _ _ _ _ _ => (@i6 _ _ 1 _ (show List.Nodup (["lots", "place"] : List Str) from by decide) rfl (Or.inl rfl) (by first | exact .inl rfl | exact .inr rfl | assumption))) (fun _ _ _ _ _ => (@jB _)) (fun _ _ _ _ _ => (@i7 _ _ _ _ _ _ _ (mX (K := K) rfl) (@i7 _ _ _ _ _ _ _ (@j8 _ K rfl) (@pv _ 0 _ _ (by rfl) (by first | exact Or.inl rfl | exact Or.inr (Or.inl rfl) | exact Or.inr (Or.inr rfl)) (by decide) (by decide)) (@pv _ 1 _ _ (by rfl) (by first | exact Or.inl rfl | exact Or.inr (Or.inl rfl) | exact Or.inr (Or.inr rfl)) (by decide) (by decide)) (fun _ _ => rfl)) (@eu _ _ _ _) (fun _ _ => rfl))) (by intro _; rfl)) (@ff _) (ef rfl)) gp gn (ef rfl) iY))), ?_⟩
  trivial
  refine ⟨⟨_, T⟩, fun D hD => ?_⟩
  obtain ⟨Pc, hC⟩ : ∃ Pc : Nat → St → Hp → Prop, Pc = fun i τ H' => ∃ z, H' D = some (.lst (((is.map (jt gs)).take i).map V.int)) ∧ Same H H' ∧ τ = [some (.ref a), z] := ⟨_, rfl⟩
  refine su (is.map V.int) Pc ?_ (fun i τ H' _ h => by rw [hC] at h; obtain ⟨z, _, e, _⟩ := h; exact Same.tup e T) ?_ ?_
  · rw [hC]
    exact ⟨_, fz, ia hD _, rfl⟩
  · intro i x τ H' R hx h next
    rw [hC] at h
    obtain ⟨z, d1, d2, rfl⟩ := h
    rw [List.getElem?_map] at hx
    obtain ⟨o, ho, rfl⟩ := Option.map_eq_some_iff.mp hx
    have li := (List.getElem?_eq_some_iff.mp ho).1
    have oi := iin o (List.mem_of_getElem? ho)
    obtain ⟨j, hj⟩ : ∃ j : Nat, o = (j : Int) := ⟨o.toNat, by omega⟩
    subst hj
    have er : gs[j]? = some (gs[j]'(by omega)) := List.getElem?_eq_getElem _
    obtain ⟨g, hg⟩ : ∃ g, gs[j]? = some g := ⟨_, er⟩
    have ga := at_ g (List.mem_of_getElem? hg)
    have ep : jt gs (j : Int) = g.pr := by
      unfold jt
      rw [Int.toNat_natCast, hg]
      rfl
    trivial
    refine ⟨_, d2.seq L, _, j6 hg, _, rfl, _, Same.tup d2 ga.tq, _, rfl, _, d1, by rw [List.length_map, List.length_take, List.length_map]; exact Nat.lt_of_lt_of_le (m := 64) (by omega) (by decide), next _ _ ?_⟩
    rw [hC]
    refine ⟨_, ?_, i0 d2 hD _, rfl⟩
    rw [fz, List.take_add_one, List.getElem?_map, ho, List.map_append]
    show _ = some (HO.lst (_ ++ [V.int (jt gs (j : Int))]))
    rw [ep]
  · intro τ H' h
    rw [hC] at h
    obtain ⟨z, d1, d2, rfl⟩ := h
    rw [List.length_map, List.take_of_length_le (by rw [List.length_map]; exact Nat.le_refl _)] at d1
    refine ⟨_, rfl, _, SqL.of d1, ?_⟩
    exact q _ d2
end

def lQ : Sp := fun vs H Q _ => ∃ i, vs = [.int i] ∧ Q (.bl true) H
abbrev lettersS : Str := "abcdefghijklmnopqrstuvwxyz"
theorem mK : ∀ r : Nat, r < 26 → lettersS.cps.toList[r]? = some (97 + r) := by decide +kernel
def kD (K : PySem.W.Frag) : Sp := fun vs H Q _ => ∃ (a : Addr) (ns : List Int) (k : Int), vs = [.ref a, .int k] ∧ SqL K H a (ns.map V.int) ∧ 0 ≤ k ∧ ∀ i : Int, Q (.int i) H
theorem mF {K : PySem.W.Frag} {H : Hp} {a : Addr} {ns : List Int} {k : Int} {Q : VK} {E : XK} (h : SqL K H a (ns.map V.int)) (h0 : 0 ≤ k) (q : ∀ i, Q (.int i) H) : kD K [.ref a, .int k] H Q E := ⟨a, ns, k, rfl, h, h0, q⟩
def mE : Sp := fun vs H Q _ => ∃ c b : Int, vs = [.int c, .int b] ∧ 0 ≤ b ∧ b ≤ 100000 ∧ ∀ i : Int, 0 ≤ i → i < 999983 → Q (.int i) H
def lN (K : PySem.W.Frag) : Sp := fun vs H Q _ => ∃ c : Int, vs = [.int c] ∧ ∀ (r : Addr) (nv : List Int) H', Same H H' → H' r = some (.tup (nv.map V.int)) → 1 ≤ nv.length → nv.length ≤ 4 → (∀ i ∈ nv, 1 ≤ i ∧ i ≤ 99) → Q (.ref r) H'
def m8 (K : PySem.W.Frag) : Sp := fun vs H Q _ => ∃ c : Int, vs = [.int c] ∧ ∀ (r : Addr) (css : List (List Nat)) H', Same H H' → H' r = some (.lst (css.map fun cs => V.str (txt cs))) → 1 ≤ css.length → css.length ≤ 7 → (∀ cs ∈ css, nameB cs = true) → Q (.ref r) H'
theorem nF {ks : List Int} (h : ∀ i ∈ ks, 0 ≤ i ∧ i < 26) (l1 : 1 ≤ ks.length) (l8 : ks.length ≤ 8) : nameB (ks.map fun i => 97 + i.toNat) = true := by
  unfold nameB
  rw [List.length_map, decide_eq_true ⟨l1, l8⟩, Bool.true_and, List.all_eq_true]
  intro c hc
  obtain ⟨i, hi, rfl⟩ := List.mem_map.mp hc
  have := h i hi
  unfold nQ
  rw [decide_eq_true (by omega), decide_eq_true (by omega)]
  rfl
section
variable {P : Program} {w : World} {K : PySem.W.Frag} {mg : Str → Option Value} {base : Heap} {f : Addr} {fd : FuncData}
theorem mU (F : Fun K "_law_cell_at" "_law_cell_at" aA f fd) (M : Mg mg) : FnOk P w K mg base CX0 1 f fd ["_law_script", "_law_k"] (kD K) := by
  refine F.ok fh (fun vs H Q E h => ?_) (fun cdv A outer s H vs Q E hr h => ?_)
  · obtain ⟨a, ns, k, rfl, _⟩ := h
    rfl
  obtain ⟨a, ns, k, rfl, hS, h0, q⟩ := h
  refine ⟨_, (@ez _ _ _ _ _ (@jK _ _ _ _ _ _ _ _ (@jl _ _ _ _ _ _ _ _ (@rA _) (@cg _ 1 _ _ rfl cy aN aO) (@ja _ _ _ _ _ _ _ _ _ jk em M.m_len j5 (@eo _ _ _ _ _ (@cg _ 0 _ _ rfl cx aP aQ) (@ff _) (ef rfl)) bC bB (ef rfl) iY) (jj _)) (@g8 _ _ _ (@je _ _ _ _ (@i7 _ _ _ _ _ _ _ (@jg _) (@cg _ 0 _ _ rfl cx aP aQ) (@cg _ 1 _ _ rfl cy aN aO) (fun _ _ => rfl)))) (@jq _)) (@g8 _ _ _ (@je _ _ _ _ (@eu _ _ _ _)))), ?_⟩
  trivial
  refine ⟨_, .inl hS, ?_⟩
  rw [List.length_map]
  by_cases hk : k < (ns.length : Int)
  · rw [if_pos hk]
    exact ⟨_, hS, _, qe h0 hk, q _⟩
  · rw [if_neg hk]
    exact q _
theorem qt (F : Fun K "_law_mix" "_law_mix" aY f fd) (M : Mg mg) : FnOk P w K mg base CX0 1 f fd ["_law_cell", "_law_by"] mE := by
  refine F.ok iu (fun vs H Q E h => ?_) (fun cdv A outer s H vs Q E hr h => ?_)
  · obtain ⟨c, b, rfl, _⟩ := h
    rfl
  obtain ⟨c, b, rfl, b0, b1, q⟩ := h
  refine ⟨_, (@g8 _ _ _ (@je _ _ _ _ (@g5 _ _ _ _ _ _ _ _ (@jh _) (@g5 _ _ _ _ _ _ _ _ (@kC _) (@g5 _ _ _ _ _ _ _ _ (@jh _) (@cg _ 0 _ _ rfl gS av aw) (@eu _ _ _ _)) (@cg _ 1 _ _ rfl gU eS eU)) (@eu _ _ _ _)))), ?_⟩
  trivial
  have c0 := Int.emod_nonneg c (show (1000003 : Int) ≠ 0 by decide)
  have c1 := Int.emod_lt_of_pos c (show (0 : Int) < 1000003 by decide)
  exact ⟨by decide, mT (by omega) (by omega) (by omega) (by omega), by decide, q _ (Int.emod_nonneg _ (by decide)) (Int.emod_lt_of_pos _ (by decide))⟩
theorem nY (F : Fun K "_law_whole" "_law_whole" aB f fd) (M : Mg mg) : FnOk P w K mg base CX0 1 f fd ["_law_thing"] lQ := by
  refine F.ok gF (fun vs H Q E h => ?_) (fun cdv A outer s H vs Q E hr h => ?_)
  · obtain ⟨i, rfl, _⟩ := h
    rfl
  obtain ⟨i, rfl, q⟩ := h
  refine ⟨_, (@g8 _ _ _ (@je _ _ _ _ (@lY _ _ _ _ _ _ _ (@ja _ _ _ _ _ _ _ _ _ jX br M.m_isinstance jw (@eo _ _ _ _ _ (@cg _ 0 _ _ rfl dh cY cZ) (@eo _ _ _ _ _ (@j7 _ _ (.ty "int") _ _ eV M.m_int vX rfl iT iS) (@ff _) (ef rfl)) (ef rfl)) aS aR (ef rfl) (jf rfl iY)) (@oF _ _ _ _ _ (@vL _ _ _ _ (@ja _ _ _ _ _ _ _ _ _ jX br M.m_isinstance jw (@eo _ _ _ _ _ (@cg _ 0 _ _ rfl dh cY cZ) (@eo _ _ _ _ _ (@j7 _ _ (.ty "bool") _ _ eL M.m_bool uW rfl iJ iI) (@ff _) (ef rfl)) (ef rfl)) aS aR (ef rfl) (jf rfl iY))))))), ?_⟩
  trivial
  exact q
theorem nM (F : Fun K "_law_number" "_law_number" ao f fd) (M : Mg mg) (aV : Cal P w K mg base CX0 "_law_mix" 1 ["_law_cell", "_law_by"] mE) : FnOk P w K mg base CX0 2 f fd ["_law_cell"] (lN K) := by
  refine F.ok bz (fun vs H Q E h => ?_) (fun cdv A outer s H vs Q E hr h => ?_)
  · obtain ⟨c, rfl, _⟩ := h
    rfl
  obtain ⟨c, rfl, q⟩ := h
  refine ⟨_, (@ez _ _ _ _ _ (@iZ _ _ 1 _ _ _ _ bz.nd rfl fm (@g5 _ _ _ _ _ _ _ _ (@jo _) (@eu _ _ _ _) (@g5 _ _ _ _ _ _ _ _ (@jh _) (@cg _ 0 _ _ rfl cM av aw) (@eu _ _ _ _))) (ic rfl) (.inl rfl)) (@ez _ _ _ _ _ (@iZ _ _ 2 _ _ _ _ bz.nd rfl fo (@qg _ _ _ _ _ _ _ (@eo _ _ _ _ _ (@eu _ _ _ _) (@eo _ _ _ _ _ (@eu _ _ _ _) (@eo _ _ _ _ _ (@eu _ _ _ _) (@eo _ _ _ _ _ (@eu _ _ _ _) (@ff _) (ef rfl)) (ef rfl)) (ef rfl)) (ef rfl)) (@g5 _ _ _ _ _ _ _ _ (@jh _) (@g5 _ _ _ _ _ _ _ _ (@jv _) (@cg _ 0 _ _ rfl cM av aw) (@eu _ _ _ _)) (@eu _ _ _ _)) (fun _ _ => rfl)) (ic rfl) (.inl rfl)) (@ez _ _ _ _ _ (@iZ _ _ 3 _ _ _ _ bz.nd rfl fq (@jN _ _ _ _ (@eo _ _ _ _ _ (@eu _ _ _ _) (@eo _ _ _ _ _ (@eu _ _ _ _) (@eo _ _ _ _ _ (@eu _ _ _ _) (@eo _ _ _ _ _ (@eu _ _ _ _) (@ff _) (ef rfl)) (ef rfl)) (ef rfl)) (ef rfl))) (ic rfl) (.inl rfl)) (@g8 _ _ _ (@je _ _ _ _ (@j3 _ _ _ _ _ _ _ _ _ lJ dX M.m_tuple nh (@eo _ _ _ _ _ (@jI _ _ _ _ _ _ _ _ _ _ _ _ _ _ _ rfl (CompOk.make (N' := ["_law_wide", "_law_by", "_law_cell", "_law_k"]) (ix := [2, 3, 0]) (nl := 1) (by rfl) (fm1 rfl (fm1 rfl (fm1 rfl fm0))) (by rfl) (by decide +kernel) rfl (by decide +kernel) rfl (And.intro ⟨rfl, .inl rfl, .inl rfl⟩ (And.intro ⟨rfl, .inl rfl, .inl rfl⟩ (And.intro ⟨rfl, .inl rfl, .inl rfl⟩ True.intro)))) (@jy _ _ _ _ _ _ dY M.m_range (@eo _ _ _ _ _ (@cg _ 1 _ _ rfl fk bY bZ) (@ff _) (ef rfl)) (star1' rfl)) (fun _ _ _ _ _ => (@i6 _ _ 3 _ (show List.Nodup (["_law_wide", "_law_by", "_law_cell", "_law_k"] : List Str) from by decide) rfl (Or.inl rfl) (by first | exact .inl rfl | exact .inr rfl | assumption))) (fun _ _ _ _ _ => (@jB _)) (fun _ _ _ _ _ => (@g5 _ _ _ _ _ _ _ _ (@jo _) (@eu _ _ _ _) (@g5 _ _ _ _ _ _ _ _ (@jh _) (@jc _ _ _ _ _ _ _ _ _ _ _ aV hr rfl (@eo _ _ _ _ _ (@g5 _ _ _ _ _ _ _ _ (@jo _) (@g5 _ _ _ _ _ _ _ _ (@jv _) (@pv _ 2 _ _ (by rfl) (by first | exact Or.inl rfl | exact Or.inr (Or.inl rfl) | exact Or.inr (Or.inr rfl)) (by decide) (by decide)) (@eu _ _ _ _)) (@g5 _ _ _ _ _ _ _ _ (@kC _) (@eu _ _ _ _) (@pv _ 3 _ _ (by rfl) (by first | exact Or.inl rfl | exact Or.inr (Or.inl rfl) | exact Or.inr (Or.inr rfl)) (by decide) (by decide)))) (@eo _ _ _ _ _ (@i7 _ _ _ _ _ _ _ (@j8 _ K rfl) (@pv _ 1 _ _ (by rfl) (by first | exact Or.inl rfl | exact Or.inr (Or.inl rfl) | exact Or.inr (Or.inr rfl)) (by decide) (by decide)) (@pv _ 3 _ _ (by rfl) (by first | exact Or.inl rfl | exact Or.inr (Or.inl rfl) | exact Or.inr (Or.inr rfl)) (by decide) (by decide)) (fun _ _ => rfl)) (@ff _) (ef rfl)) (ef rfl)) (by decide) cA (ef rfl) (jf rfl iY)) (@pv _ 0 _ _ (by rfl) (by first | exact Or.inl rfl | exact Or.inr (Or.inl rfl) | exact Or.inr (Or.inr rfl)) (by decide) (by decide))))) (by intro _; rfl)) (@ff _) (ef rfl)) eK eJ (ef rfl) iY)))))), ?_⟩
  have c0 := Int.emod_nonneg c (show (4 : Int) ≠ 0 by decide)
  have c1 := Int.emod_lt_of_pos c (show (0 : Int) < 4 by decide)
  have d0 := Int.emod_nonneg (c / 4) (show (4 : Int) ≠ 0 by decide)
  have d1 := Int.emod_lt_of_pos (c / 4) (show (0 : Int) < 4 by decide)
  obtain ⟨wd, hw⟩ : ∃ wd, ([V.int 2, V.int 2, V.int 3, V.int 99] : List V)[(c / 4 % 4).toNat]? = some wd := ⟨_, List.getElem?_eq_getElem (by show (c / 4 % 4).toNat < 4; omega)⟩
  obtain ⟨wi, rfl, w1, w99⟩ : ∃ wi : Int, wd = .int wi ∧ 1 ≤ wi ∧ wi ≤ 99 := by
    have := List.mem_of_getElem? hw
    simp only [List.mem_cons, List.not_mem_nil, or_false] at this
    rcases this with rfl | rfl | rfl | rfl <;> exact ⟨_, rfl, by decide, by decide⟩
  trivial
  refine ⟨by decide, by decide, cdiv (by decide) (by decide), by decide, by omega, _, hw, by decide, fun bl hbl => ?_⟩
  obtain ⟨H1, g1, S1, L1⟩ := jR (K := K) hbl [.int 48271, .int 69621, .int 16807, .int 39373]
  rw [← g1]
  clear g1
  refine ⟨by omega, by omega, fun D hD => ?_⟩
  obtain ⟨Pc, hC⟩ : ∃ Pc : Nat → St → Hp → Prop, Pc = fun i τ H' => ∃ (ks : List Int) (z : Option V), H' D = some (.lst (ks.map V.int)) ∧ ks.length = i ∧ (∀ i ∈ ks, 1 ≤ i ∧ i ≤ 99) ∧ Same H1 H' ∧ τ = [some (.int wi), some (.ref bl), some (.int c), z] := ⟨_, rfl⟩
  refine jY Pc ?_ ?_ ?_
  · rw [hC]
    exact ⟨[], _, fz, rfl, (fun _ h => by cases h), ia hD _, rfl⟩
  · intro i τ H' R hi g next
    rw [hC] at g
    obtain ⟨ks, z, e1, kl, ki, e, rfl⟩ := g
    have hi4 : i < 4 := by omega
    obtain ⟨bv, hb⟩ : ∃ bv, ([V.int 48271, V.int 69621, V.int 16807, V.int 39373] : List V)[i]? = some bv := ⟨_, List.getElem?_eq_getElem hi4⟩
    obtain ⟨b, rfl, b0, b1⟩ : ∃ b : Int, bv = .int b ∧ 0 ≤ b ∧ b ≤ 100000 := by
      have := List.mem_of_getElem? hb
      simp only [List.mem_cons, List.not_mem_nil, or_false] at this
      rcases this with rfl | rfl | rfl | rfl <;> exact ⟨_, rfl, by decide, by decide⟩
    have hb' : atI [V.int 48271, V.int 69621, V.int 16807, V.int 39373] (0 + (i : Int)) = some (.int b) := by
      rw [Int.zero_add]
      exact jr hb
    trivial
    refine ⟨cdiv (by decide) (by decide), mT (by decide) (by decide) (by omega) (by omega), _, e.seq L1, _, hb', _, _, rfl, b0, b1, fun v v0 v1 => ⟨_, rfl, by omega, _, e1, by rw [List.length_map]; exact Nat.lt_of_lt_of_le (m := 64) (by omega) (by decide), next _ _ ?_⟩⟩
    have x0 := Int.emod_nonneg v (show wi ≠ 0 by omega)
    have x1 := Int.emod_lt_of_pos v (show 0 < wi by omega)
    rw [hC]
    refine ⟨ks ++ [1 + v % wi], _, by rw [fz, List.map_append]; rfl, by rw [List.length_append, kl]; rfl, fun j hj => ?_, i0 e hD _, rfl⟩
    rcases List.mem_append.mp hj with hj | hj
    · exact ki j hj
    · rw [List.mem_singleton.mp hj]
      omega
  · intro τ H' g
    rw [hC] at g
    obtain ⟨ks, z, e1, kl, ki, e, rfl⟩ := g
    refine ⟨_, rfl, _, SqL.of e1, fun t ht => ?_⟩
    exact q _ ks _ (S1.trans (e.trans (ia ht _))) fz (by omega) (by omega) ki
theorem oG (F : Fun K "_law_lands" "_law_lands" ac f fd) (M : Mg mg) (aV : Cal P w K mg base CX0 "_law_mix" 1 ["_law_cell", "_law_by"] mE) : FnOk P w K mg base CX0 2 f fd ["_law_cell"] (m8 K) := by
  refine F.ok az (fun vs H Q E h => ?_) (fun cdv A outer s H vs Q E hr h => ?_)
  · obtain ⟨c, rfl, _⟩ := h
    rfl
  obtain ⟨c, rfl, q⟩ := h
  refine ⟨_, (@ez _ _ _ _ _ (@iZ _ _ 1 _ _ _ _ az.nd rfl fS (@lA _ _ _ _) (ic rfl) (.inl rfl)) (@ez _ _ _ _ _ (@iZ _ _ 2 _ _ _ _ az.nd rfl fT (@jN _ _ _ _ (@eo _ _ _ _ _ (@eu _ _ _ _) (@eo _ _ _ _ _ (@eu _ _ _ _) (@eo _ _ _ _ _ (@eu _ _ _ _) (@eo _ _ _ _ _ (@eu _ _ _ _) (@eo _ _ _ _ _ (@eu _ _ _ _) (@eo _ _ _ _ _ (@eu _ _ _ _) (@eo _ _ _ _ _ (@eu _ _ _ _) (@eo _ _ _ _ _ (@eu _ _ _ _) (@ff _) (ef rfl)) (ef rfl)) (ef rfl)) (ef rfl)) (ef rfl)) (ef rfl)) (ef rfl)) (ef rfl))) (ic rfl) (.inl rfl)) (@ez _ _ _ _ _ (@iZ _ _ 3 _ _ _ _ az.nd rfl fV (@jI _ _ _ _ _ _ _ _ _ _ _ _ _ _ _ rfl (CompOk.make (N' := ["_law_cell", "_law_by", "_law_k"]) (ix := [0, 2]) (nl := 1) (by rfl) (fm1 rfl (fm1 rfl fm0)) (by rfl) (by decide +kernel) rfl (by decide +kernel) rfl (And.intro ⟨rfl, .inl rfl, .inl rfl⟩ (And.intro ⟨rfl, .inl rfl, .inl rfl⟩ True.intro))) (@jy _ _ _ _ _ _ bo M.m_range (@eo _ _ _ _ _ (@eu _ _ _ _) (@ff _) (ef rfl)) (star1' rfl)) (fun _ _ _ _ _ => (@i6 _ _ 2 _ (show List.Nodup (["_law_cell", "_law_by", "_law_k"] : List Str) from by decide) rfl (Or.inl rfl) (by first | exact .inl rfl | exact .inr rfl | assumption))) (fun _ _ _ _ _ => (@jB _)) (fun _ _ _ _ _ => (@g5 _ _ _ _ _ _ _ _ (@jh _) (@jc _ _ _ _ _ _ _ _ _ _ _ aV hr rfl (@eo _ _ _ _ _ (@g5 _ _ _ _ _ _ _ _ (@jo _) (@pv _ 0 _ _ (by rfl) (by first | exact Or.inl rfl | exact Or.inr (Or.inl rfl) | exact Or.inr (Or.inr rfl)) (by decide) (by decide)) (@pv _ 2 _ _ (by rfl) (by first | exact Or.inl rfl | exact Or.inr (Or.inl rfl) | exact Or.inr (Or.inr rfl)) (by decide) (by decide))) (@eo _ _ _ _ _ (@i7 _ _ _ _ _ _ _ (@j8 _ K rfl) (@pv _ 1 _ _ (by rfl) (by first | exact Or.inl rfl | exact Or.inr (Or.inl rfl) | exact Or.inr (Or.inr rfl)) (by decide) (by decide)) (@pv _ 2 _ _ (by rfl) (by first | exact Or.inl rfl | exact Or.inr (Or.inl rfl) | exact Or.inr (Or.inr rfl)) (by decide) (by decide)) (fun _ _ => rfl)) (@ff _) (ef rfl)) (ef rfl)) (by decide) cA (ef rfl) (jf rfl iY)) (@eu _ _ _ _))) (by intro _; rfl)) (by rfl) (.inl rfl)) (@ez _ _ _ _ _ (@iZ _ _ 4 _ _ _ _ az.nd rfl fW (@qg _ _ _ _ _ _ _ (@eo _ _ _ _ _ (@eu _ _ _ _) (@eo _ _ _ _ _ (@eu _ _ _ _) (@eo _ _ _ _ _ (@eu _ _ _ _) (@ff _) (ef rfl)) (ef rfl)) (ef rfl)) (@g5 _ _ _ _ _ _ _ _ (@jh _) (@g5 _ _ _ _ _ _ _ _ (@jv _) (@cg _ 0 _ _ rfl bA av aw) (@eu _ _ _ _)) (@eu _ _ _ _)) (fun _ _ => rfl)) (ic rfl) (.inl rfl)) (@ez _ _ _ _ _ (@jK _ _ _ _ _ _ _ _ (@jl _ _ _ _ _ _ _ _ (@mR _) (@g5 _ _ _ _ _ _ _ _ (@jh _) (@cg _ 0 _ _ rfl bA av aw) (@eu _ _ _ _)) (@eu _ _ _ _) (jj _)) (@g8 _ _ _ (@je _ _ _ _ (@jI _ _ _ _ _ _ _ _ _ _ _ _ _ _ _ rfl (CompOk.make (N' := ["_law_letters", "_law_base", "_law_k"]) (ix := [1, 3]) (nl := 1) (by rfl) (fm1 rfl (fm1 rfl fm0)) (by rfl) (by decide +kernel) rfl (by decide +kernel) rfl (And.intro ⟨rfl, .inl rfl, .inl rfl⟩ (And.intro ⟨rfl, .inl rfl, .inl rfl⟩ True.intro))) (@jy _ _ _ _ _ _ bo M.m_range (@eo _ _ _ _ _ (@cg _ 4 _ _ rfl di bD bE) (@ff _) (ef rfl)) (star1' rfl)) (fun _ _ _ _ _ => (@i6 _ _ 2 _ (show List.Nodup (["_law_letters", "_law_base", "_law_k"] : List Str) from by decide) rfl (Or.inl rfl) (by first | exact .inl rfl | exact .inr rfl | assumption))) (fun _ _ _ _ _ => (@jB _)) (fun _ _ _ _ _ => (@vC _ K _ _ _ _ _ _ _ _ _ _ _ rfl PySem.F.plainAttrs_str PySem.F.slot_str_join PySem.F.type_str_join (sR (K := K) rfl) (@lA _ _ _ _) (@eo _ _ _ _ _ (@jI _ _ _ _ _ _ _ _ _ _ _ _ _ _ _ rfl (CompOk.make (N' := ["_law_letters", "_law_n"]) (ix := [0]) (nl := 1) (by rfl) (fm1 rfl fm0) (by rfl) (by decide +kernel) rfl (by decide +kernel) rfl (And.intro ⟨rfl, (by first | exact .inl rfl | exact .inr rfl), (by first | exact .inl rfl | exact .inr rfl)⟩ True.intro)) (@tO _ K _ _ _ rfl (@lO _ _ _ _ _ _ _ _ _ _ (sH (K := K) rfl) (@pv _ 1 _ _ (by rfl) (by first | exact Or.inl rfl | exact Or.inr (Or.inl rfl) | exact Or.inr (Or.inr rfl)) (by decide) (by decide)) (@qh _) (@lF _ _ _ (@g5 _ _ _ _ _ _ _ _ (@jo _) (@pv _ 2 _ _ (by rfl) (by first | exact Or.inl rfl | exact Or.inr (Or.inl rfl) | exact Or.inr (Or.inr rfl)) (by decide) (by decide)) (@eu _ _ _ _))))) (fun _ _ _ _ _ => (@i6 _ _ 1 _ (show List.Nodup (["_law_letters", "_law_n"] : List Str) from by decide) rfl (Or.inl rfl) (by first | exact .inl rfl | exact .inr rfl | assumption))) (fun _ _ _ _ _ => (@jB _)) (fun _ _ _ _ _ => (@i7 _ _ _ _ _ _ _ r8 (@pv _ 0 _ _ (by rfl) (by first | exact Or.inl rfl | exact Or.inr (Or.inl rfl) | exact Or.inr (Or.inr rfl)) (by decide) (by decide)) (@pv _ 1 _ _ (by rfl) (by first | exact Or.inl rfl | exact Or.inr (Or.inl rfl) | exact Or.inr (Or.inr rfl)) (by decide) (by decide)) (fun _ _ => rfl))) (by intro _; rfl)) (@ff _) (ef rfl)) (by rfl) (by rfl) (by rfl) (by rfl) (by rfl))) (by intro _; rfl)))) (@jq _)) (@ez _ _ _ _ _ (@iZ _ _ 5 _ _ _ _ az.nd rfl fX (@g5 _ _ _ _ _ _ _ _ (@jo _) (@eu _ _ _ _) (@g5 _ _ _ _ _ _ _ _ (@jh _) (@g5 _ _ _ _ _ _ _ _ (@jv _) (@cg _ 0 _ _ rfl bA av aw) (@eu _ _ _ _)) (@eu _ _ _ _))) (ic rfl) (.inl rfl)) (@ez _ _ _ _ _ (@iZ _ _ 6 _ _ _ _ az.nd rfl fY (@g5 _ _ _ _ _ _ _ _ (@jh _) (@g5 _ _ _ _ _ _ _ _ (@jv _) (@cg _ 0 _ _ rfl bA av aw) (@eu _ _ _ _)) (@cg _ 5 _ _ rfl dj bY bZ)) (ic rfl) (.inl rfl)) (@ez _ _ _ _ _ (@iZ _ _ 7 _ _ _ _ az.nd rfl fZ (@jN _ _ _ _ (@ff _)) (ic rfl) (.inl rfl)) (@ez _ _ _ _ _ (@jO _ _ _ _ _ _ _ _ PassesOwn.never rfl (@jy _ _ _ _ _ _ bo M.m_range (@eo _ _ _ _ _ (@cg _ 4 _ _ rfl di bD bE) (@ff _) (ef rfl)) (star1' rfl)) (@i6 _ _ 8 _ az.nd rfl gc (.inl rfl)) (@ez _ _ _ _ _ (@iZ _ _ 9 _ _ _ _ az.nd rfl gd (@lO _ _ _ _ _ _ _ _ _ _ (@ng _) (@cg _ 3 _ _ rfl fU gq gr) (@qh _) (@lF _ _ _ (@cg _ 5 _ _ rfl dj bY bZ))) (ic rfl) (.inl rfl)) (@ez _ _ _ _ _ (@rE _ _ _ _ _ _ (@g5 _ _ _ _ _ _ _ _ (@jh _) (@g5 _ _ _ _ _ _ _ _ (@jo _) (@i7 _ _ _ _ _ _ _ (@jg _) (@cg _ 9 _ _ rfl bW ax ay) (@cg _ 6 _ _ rfl dm aZ ba) (fun _ _ => rfl)) (@g5 _ _ _ _ _ _ _ _ (@kC _) (@eu _ _ _ _) (@cg _ 8 _ _ rfl gb aN aO))) (@eu _ _ _ _)) (@uZ _ _ _ _ _ _ _ (@cg _ 9 _ _ rfl bW ax ay) (@cg _ 6 _ _ rfl dm aZ ba) set_list (by intro _; rfl)) (by rfl) (by rfl) (by rfl)) (@g8 _ _ _ (@jW _ _ _ _ (@kj _ _ _ _ _ _ _ _ _ _ _ _ PySem.F.plainAttrs_list PySem.F.slot_list_append PySem.F.type_list_append jH (@cg _ 7 _ _ rfl dq da db) (@eo _ _ _ _ _ (@kj _ _ _ _ _ _ _ _ _ _ _ _ PySem.F.plainAttrs_str PySem.F.slot_str_join PySem.F.type_str_join qd (@lA _ _ _ _) (@eo _ _ _ _ _ (@jI _ _ _ _ _ _ _ _ _ _ _ _ _ _ _ rfl (CompOk.make (N' := ["_law_letters", "_law_n"]) (ix := [1]) (nl := 1) (by rfl) (fm1 rfl fm0) (by rfl) (by decide +kernel) rfl (by decide +kernel) rfl (And.intro ⟨rfl, .inl rfl, .inl rfl⟩ True.intro)) (@jC _ _ _ _ (@cg _ 9 _ _ rfl bW ax ay)) (fun _ _ _ _ _ => (@i6 _ _ 1 _ (show List.Nodup (["_law_letters", "_law_n"] : List Str) from by decide) rfl (Or.inl rfl) (by first | exact .inl rfl | exact .inr rfl | assumption))) (fun _ _ _ _ _ => (@jB _)) (fun _ _ _ _ _ => (@i7 _ _ _ _ _ _ _ r8 (@pv _ 0 _ _ (by rfl) (by first | exact Or.inl rfl | exact Or.inr (Or.inl rfl) | exact Or.inr (Or.inr rfl)) (by decide) (by decide)) (@pv _ 1 _ _ (by rfl) (by first | exact Or.inl rfl | exact Or.inr (Or.inl rfl) | exact Or.inr (Or.inr rfl)) (by decide) (by decide)) (fun _ _ => rfl))) (by intro _; rfl)) (@ff _) (ef rfl)) (by rfl) (by rfl) (by rfl) (by rfl) (by rfl)) (@ff _) (ef rfl)) (by rfl) (by rfl) (by rfl) (by rfl) (by rfl)) (ic rfl))))) (by intro _; rfl)) (@g8 _ _ _ (@je _ _ _ _ (@cg _ 7 _ _ rfl dq da db)))))))))))), ?_⟩
  have n0 := Int.emod_nonneg (c / 2) (show (3 : Int) ≠ 0 by decide)
  have n1 := Int.emod_lt_of_pos (c / 2) (show (0 : Int) < 3 by decide)
  obtain ⟨wd, hw⟩ : ∃ wd, ([V.int 4, V.int 4, V.int 7] : List V)[(c / 2 % 3).toNat]? = some wd := ⟨_, List.getElem?_eq_getElem (by show (c / 2 % 3).toNat < 3; omega)⟩
  obtain ⟨mn, rfl, mn1, mn7⟩ : ∃ mn : Int, wd = .int mn ∧ 1 ≤ mn ∧ mn ≤ 7 := by
    have := List.mem_of_getElem? hw
    simp only [List.mem_cons, List.not_mem_nil, or_false] at this
    rcases this with rfl | rfl | rfl <;> exact ⟨_, rfl, by decide, by decide⟩
  trivial
  refine ⟨by decide, fun bl hbl => ?_⟩
  obtain ⟨H1, g1, S1, L1⟩ := jR (K := K) hbl [.int 48271, .int 69621, .int 16807, .int 39373, .int 40692, .int 52774, .int 45991, .int 62089]
  rw [← g1]
  clear g1
  refine ⟨by decide, by decide, fun B hB => ?_⟩
  obtain ⟨Pc, hC⟩ : ∃ Pc : Nat → St → Hp → Prop, Pc = fun i τ H' => ∃ (ks : List Int) (z : Option V), H' B = some (.lst (ks.map V.int)) ∧ ks.length = i ∧ (∀ i ∈ ks, 0 ≤ i ∧ i < 26) ∧ Same H1 H' ∧ τ = [some (.int c), some (.ref bl), z] := ⟨_, rfl⟩
  refine jY Pc ?_ ?_ ?_
  · rw [hC]
    exact ⟨[], _, fz, rfl, (fun _ h => by cases h), ia hB _, rfl⟩
  · intro i τ H' R hi g next
    rw [hC] at g
    obtain ⟨ks, z, e1, kl, ki, e, rfl⟩ := g
    have hi8 : i < 8 := hi
    obtain ⟨bv, hb⟩ : ∃ bv, ([.int 48271, .int 69621, .int 16807, .int 39373, .int 40692, .int 52774, .int 45991, .int 62089] : List V)[i]? = some bv := ⟨_, List.getElem?_eq_getElem hi8⟩
    obtain ⟨b, rfl, b0, b1⟩ : ∃ b : Int, bv = .int b ∧ 0 ≤ b ∧ b ≤ 100000 := by
      have := List.mem_of_getElem? hb
      simp only [List.mem_cons, List.not_mem_nil, or_false] at this
      rcases this with rfl | rfl | rfl | rfl | rfl | rfl | rfl | rfl <;> exact ⟨_, rfl, by decide, by decide⟩
    have hb' : atI [.int 48271, .int 69621, .int 16807, .int 39373, .int 40692, .int 52774, .int 45991, .int 62089] (0 + (i : Int)) = some (V.int b) := by
      rw [Int.zero_add]
      exact jr hb
    trivial
    refine ⟨_, e.seq L1, _, hb', _, _, rfl, b0, b1, fun v v0 v1 => ⟨_, rfl, by decide, _, e1, by rw [List.length_map]; exact Nat.lt_of_lt_of_le (m := 64) (by omega) (by decide), next _ _ ?_⟩⟩
    rw [hC]
    refine ⟨ks ++ [v % 26], _, by rw [fz, List.map_append]; rfl, by rw [List.length_append, kl]; rfl, fun j hj => ?_, i0 e hB _, rfl⟩
    rcases List.mem_append.mp hj with hj | hj
    · exact ki j hj
    · rw [List.mem_singleton.mp hj]
      exact ⟨Int.emod_nonneg _ (by decide), Int.emod_lt_of_pos _ (by decide)⟩
  intro τ H2 g
  rw [hC] at g
  obtain ⟨bs, z, dB, bl8, bi, e2, rfl⟩ := g
  clear hC Pc
  have S02 := S1.trans e2
  refine ⟨by decide, cdiv (by decide) (by decide), by decide, by omega, _, hw, by decide, ?_⟩
  by_cases w3 : c % 3 = 0
  · rw [if_pos w3]
    refine ⟨_, rfl, by omega, by omega, fun D hD => ?_⟩
    obtain ⟨Pc, hC⟩ : ∃ Pc : Nat → St → Hp → Prop, Pc = fun i τ H' => ∃ (css : List (List Nat)) (z : Option V), H' D = some (.lst (css.map fun cs => V.str (txt cs))) ∧ css.length = i ∧ (∀ cs ∈ css, nameB cs = true) ∧ Same H2 H' ∧ τ = [some (.str lettersS), some (.ref B), z] := ⟨_, rfl⟩
    refine jY Pc ?_ ?_ ?_
    · rw [hC]
      exact ⟨[], _, fz, rfl, (fun _ h => by cases h), ia hD _, rfl⟩
    · intro i τ H3 R hi g next
      rw [hC] at g
      obtain ⟨css, z, dD, cl, ci, e3, rfl⟩ := g
      have ec : kh (bs.map V.int) none (some (0 + (i : Int) + 1)) = (bs.take (i + 1)).map V.int := by
        have := rP (xs := bs.map V.int) (n := i + 1)
        rw [List.map_take, ← this]
        congr 2
        omega
      trivial
      refine ⟨rfl, _, SqL.of (e3 _ _ dB), fun s1 hs1 => ?_⟩
      rw [ec]
      obtain ⟨H4, g4, S4, L4⟩ : ∃ H4, H4 = upd H3 s1 (.lst ((bs.take (i + 1)).map V.int)) ∧ Same H3 H4 ∧ H4 s1 = some (.lst ((bs.take (i + 1)).map V.int)) := ⟨_, rfl, ia hs1 _, fz⟩
      rw [← g4]
      clear g4
      obtain ⟨ks, hks⟩ : ∃ ks, ks = bs.take (i + 1) := ⟨_, rfl⟩
      rw [← hks] at L4
      have hk : ∀ j ∈ ks, 0 ≤ j ∧ j < 26 := fun j hj => bi j (List.mem_of_mem_take (hks ▸ hj))
      have lk : ks.length = i + 1 := by rw [hks, List.length_take]; omega
      refine ⟨⟨_, SqL.of L4⟩, fun D2 hD2 => ?_⟩
      obtain ⟨Pd, hQ⟩ : ∃ Pd : Nat → St → Hp → Prop, Pd = fun j τ H5 => ∃ z, H5 D2 = some (.lst (((ks.map fun i => 97 + i.toNat).take j).map sgn)) ∧ Same H4 H5 ∧ τ = [some (.str lettersS), z] := ⟨_, rfl⟩
      refine jL (ks.map V.int) Pd ?_ (fun j τ H5 _ h => by rw [hQ] at h; obtain ⟨z, _, e, _⟩ := h; exact SqL.of (e _ _ L4)) ?_ ?_
      · rw [hQ]
        exact ⟨_, fz, ia hD2 _, rfl⟩
      · intro j v τ H5 R5 hv h nx5
        rw [hQ] at h
        obtain ⟨z, c1, c2, rfl⟩ := h
        rw [List.getElem?_map] at hv
        obtain ⟨o, ho, rfl⟩ := Option.map_eq_some_iff.mp hv
        have oi := hk o (List.mem_of_getElem? ho)
        have lj := (List.getElem?_eq_some_iff.mp ho).1
        obtain ⟨r, hr'⟩ : ∃ r : Nat, o = (r : Int) := ⟨o.toNat, by omega⟩
        subst hr'
        trivial
        refine ⟨by decide, 97 + r, jr (mK r (by omega)), _, c1, by rw [List.length_map, List.length_take, List.length_map]; exact Nat.lt_of_lt_of_le (m := 64) (by omega) (by decide), nx5 _ _ ?_⟩
        rw [hQ]
        refine ⟨_, ?_, i0 c2 hD2 _, rfl⟩
        rw [fz, List.take_add_one, List.getElem?_map, ho, List.map_append]
        rfl
      intro τ5 H5 h5
      rw [hQ] at h5
      obtain ⟨z5, c1, c2, rfl⟩ := h5
      rw [List.length_map, List.take_of_length_le (by rw [List.length_map]; exact Nat.le_refl _)] at c1
      refine ⟨_, rfl, _, SqL.of c1, by rw [List.length_map]; omega, _, (S4.trans c2) _ _ dD, by rw [List.length_map]; exact Nat.lt_of_lt_of_le (m := 64) (by omega) (by decide), next _ _ ?_⟩
      rw [hC]
      refine ⟨css ++ [ks.map fun i => 97 + i.toNat], _, by rw [fz, List.map_append]; rfl, by rw [List.length_append, cl]; rfl, fun cs hcs => ?_, i0 (e3.trans (S4.trans c2)) hD _, rfl⟩
      rcases List.mem_append.mp hcs with hcs | hcs
      · exact ci cs hcs
      · rw [List.mem_singleton.mp hcs]
        exact nF hk (by omega) (by omega)
    · intro τ H3 g
      rw [hC] at g
      obtain ⟨css, z, dD, cl, ci, e3, rfl⟩ := g
      exact q _ css _ (S02.trans e3) dD (by omega) (by omega) ci
  · rw [if_neg w3]
    have z0 := Int.emod_nonneg (c / 3) (show (8 : Int) ≠ 0 by decide)
    have z1 := Int.emod_lt_of_pos (c / 3) (show (0 : Int) < 8 by decide)
    have a0 := Int.emod_nonneg (c / 24) (show (1 + c / 3 % 8) ≠ 0 by omega)
    have a1 := Int.emod_lt_of_pos (c / 24) (show 0 < 1 + c / 3 % 8 by omega)
    refine ⟨cdiv (by decide) (by decide), by decide, cdiv (by decide) (by decide), by omega, by decide, fun p1 hp1 => ⟨_, rfl, by omega, by omega, ?_⟩⟩
    obtain ⟨sn, hsn⟩ : ∃ sn : Nat, 1 + c / 3 % 8 = (sn : Int) := ⟨(1 + c / 3 % 8).toNat, by omega⟩
    rw [hsn] at a0 a1
    rw [hsn]
    obtain ⟨an, han⟩ : ∃ an : Nat, c / 24 % (sn : Int) = (an : Int) := ⟨(c / 24 % (sn : Int)).toNat, by omega⟩
    rw [han] at a0 a1
    rw [han]
    obtain ⟨Pv, hP⟩ : ∃ Pv : Nat → St → Hp → Prop, Pv = fun i σ H' => ∃ (css : List (List Nat)) (y z : Option V), H' p1 = some (.lst (css.map fun cs => V.str (txt cs))) ∧ css.length = i ∧ (∀ cs ∈ css, nameB cs = true) ∧ Same H2 H' ∧ σ = [some (.int c), some (.str lettersS), some (.ref bl), some (.ref B), some (.int mn), some (.int sn), some (.int an), some (.ref p1), y, z] := ⟨_, rfl⟩
    refine jS Pv ?_ ?_ ?_
    · rw [hP]
      exact ⟨[], _, _, fz, rfl, (fun _ h => by cases h), ia hp1 _, rfl⟩
    · intro i σ H3 hi g
      rw [hP] at g
      obtain ⟨css, y, z, dD, cl, ci, e3, rfl⟩ := g
      trivial
      refine ⟨_, SqL.of (e3 _ _ dB), fun s1 hs1 => ?_⟩
      rw [rP, ← List.map_take]
      have lt : (bs.take sn).length = sn := by rw [List.length_take]; omega
      obtain ⟨Hs, gs, Ss, Ls⟩ : ∃ Hs, Hs = upd H3 s1 (.lst ((bs.take sn).map V.int)) ∧ Same H3 Hs ∧ Hs s1 = some (.lst ((bs.take sn).map V.int)) := ⟨_, rfl, ia hs1 _, fz⟩
      rw [← gs]
      clear gs
      refine ⟨_, SqL.of Ls, _, qe (by omega) (by omega), mT (by decide) (by decide) (by omega) (by omega), _, rfl, by decide, ?_⟩
      obtain ⟨nv, hnv, nv0, nv1⟩ : ∃ nv : Int, ((bs.take sn).getD ((an : Nat) : Int).toNat 0 + 3 * (0 + (i : Int))) % 26 = nv ∧ 0 ≤ nv ∧ nv < 26 := ⟨_, rfl, Int.emod_nonneg _ (by decide), Int.emod_lt_of_pos _ (by decide)⟩
      rw [hnv]
      clear hnv
      refine ⟨_, Ls, an, uG (by rw [List.length_map]; omega), ?_⟩
      have es : ((bs.take sn).map V.int).set an (V.int nv) = ((bs.take sn).set an nv).map V.int := (List.map_set ..).symm
      rw [es]
      obtain ⟨ks, hks⟩ : ∃ ks, ks = (bs.take sn).set an nv := ⟨_, rfl⟩
      rw [← hks]
      have hk : ∀ j ∈ ks, 0 ≤ j ∧ j < 26 := fun j hj => by
        rw [hks] at hj
        rcases List.mem_or_eq_of_mem_set hj with hj | rfl
        · exact bi j (List.mem_of_mem_take hj)
        · exact ⟨nv0, nv1⟩
      have lk : ks.length = sn := by rw [hks, List.length_set, lt]
      obtain ⟨H4, g4, S4, L4⟩ : ∃ H4, H4 = upd Hs s1 (.lst (ks.map V.int)) ∧ Same H3 H4 ∧ H4 s1 = some (.lst (ks.map V.int)) := ⟨_, rfl, i0 Ss hs1 _, fz⟩
      rw [← g4]
      clear g4
      refine ⟨.inl ⟨rfl, _, SqL.of (S4 _ _ dD)⟩, rfl, ?_⟩
      refine ⟨⟨_, SqL.of L4⟩, fun D2 hD2 => ?_⟩
      obtain ⟨Pd, hQ⟩ : ∃ Pd : Nat → St → Hp → Prop, Pd = fun j τ H5 => ∃ z, H5 D2 = some (.lst (((ks.map fun i => 97 + i.toNat).take j).map sgn)) ∧ Same H4 H5 ∧ τ = [some (.str lettersS), z] := ⟨_, rfl⟩
      refine jL (ks.map V.int) Pd ?_ (fun j τ H5 _ h => by rw [hQ] at h; obtain ⟨z, _, e, _⟩ := h; exact SqL.of (e _ _ L4)) ?_ ?_
      · rw [hQ]
        exact ⟨_, fz, ia hD2 _, rfl⟩
      · intro j v τ H5 R5 hv h nx5
        rw [hQ] at h
        obtain ⟨z, c1, c2, rfl⟩ := h
        rw [List.getElem?_map] at hv
        obtain ⟨o, ho, rfl⟩ := Option.map_eq_some_iff.mp hv
        have oi := hk o (List.mem_of_getElem? ho)
        have lj := (List.getElem?_eq_some_iff.mp ho).1
        obtain ⟨r, hr'⟩ : ∃ r : Nat, o = (r : Int) := ⟨o.toNat, by omega⟩
        subst hr'
        trivial
        refine ⟨by decide, 97 + r, jr (mK r (by omega)), _, c1, by rw [List.length_map, List.length_take, List.length_map]; exact Nat.lt_of_lt_of_le (m := 64) (by omega) (by decide), nx5 _ _ ?_⟩
        rw [hQ]
        refine ⟨_, ?_, i0 c2 hD2 _, rfl⟩
        rw [fz, List.take_add_one, List.getElem?_map, ho, List.map_append]
        rfl
      intro τ5 H5 h5
      rw [hQ] at h5
      obtain ⟨z5, c1, c2, rfl⟩ := h5
      rw [List.length_map, List.take_of_length_le (by rw [List.length_map]; exact Nat.le_refl _)] at c1
      refine ⟨_, rfl, _, SqL.of c1, by rw [List.length_map]; omega, _, (S4.trans c2) _ _ dD, by rw [List.length_map]; exact Nat.lt_of_lt_of_le (m := 64) (by omega) (by decide), ?_⟩
      rw [hP]
      refine ⟨css ++ [ks.map fun i => 97 + i.toNat], _, _, by rw [fz, List.map_append]; rfl, by rw [List.length_append, cl]; rfl, fun cs hcs => ?_, i0 (e3.trans (S4.trans c2)) hp1 _, rfl⟩
      rcases List.mem_append.mp hcs with hcs | hcs
      · exact ci cs hcs
      · rw [List.mem_singleton.mp hcs]
        exact nF hk (by omega) (by omega)
    · intro σ H3 g
      rw [hP] at g
      obtain ⟨css, y, z, dD, cl, ci, e3, rfl⟩ := g
      trivial
      exact q _ css _ (S02.trans e3) dD (by omega) (by omega) ci
end

def lK (K : PySem.W.Frag) : Sp := fun vs H Q _ => ∃ (c : Int) (many : Nat), vs = [.int c, .int many] ∧ many ≤ 24 ∧ ∀ (r : Addr) (is : List Int) H', Same H H' → H r = none → H' r = some (.lst (is.map V.int)) → is.length ≤ 4 → (∀ i ∈ is, 0 ≤ i ∧ i < (many : Int)) → is.Nodup → Q (.ref r) H'
theorem lH (ks : List Int) (j : Int) : inV (.int j) (ks.map V.int) = decide (j ∈ ks) := by
  unfold inV
  rw [List.any_map]
  by_cases h : j ∈ ks
  · rw [decide_eq_true h, List.any_eq_true]
    exact ⟨j, h, by simp [eqV]⟩
  · rw [decide_eq_false h, List.any_eq_false]
    intro x hx
    have : x ≠ j := fun z => h (z ▸ hx)
    simp [eqV, this]
theorem nI (ks : List Int) : (ks.map V.int).all jP = true := kW ks
theorem qm {K : PySem.W.Frag} {H : Hp} {b l : Addr} {xs ys : List V} (h : SqL K H b xs) (n : b ≠ l) : SqL K (upd H l (.lst ys)) b xs := by
  rcases h with (h | ⟨o, h⟩) | h
  · exact .inl (.inl (by rw [i9 n]; exact h))
  · exact .inl (.inr ⟨o, by rw [i9 n]; exact h⟩)
  · exact .inr h
section
variable {P : Program} {w : World} {K : PySem.W.Frag} {mg : Str → Option Value} {base : Heap} {f : Addr} {fd : FuncData}
theorem nO (F : Fun K "_law_inputs" "_law_inputs" aa f fd) (M : Mg mg) (aV : Cal P w K mg base CX0 "_law_mix" 1 ["_law_cell", "_law_by"] mE) : FnOk P w K mg base CX0 2 f fd ["_law_cell", "_law_many"] (lK K) := by
  refine F.ok aK (fun vs H Q E h => ?_) (fun cdv A outer s H vs Q E hr h => ?_)
  · obtain ⟨c, many, rfl, _⟩ := h
    rfl
  obtain ⟨c, many, rfl, m24, q⟩ := h
  refine ⟨_, (@ez _ _ _ _ _ (@iZ _ _ 2 _ _ _ _ aK.nd rfl ft (@jN _ _ _ _ (@ff _)) (ic rfl) (.inl rfl)) (@ez _ _ _ _ _ (@iZ _ _ 3 _ _ _ _ aK.nd rfl fw (@jN _ _ _ _ (@eo _ _ _ _ _ (@eu _ _ _ _) (@eo _ _ _ _ _ (@eu _ _ _ _) (@eo _ _ _ _ _ (@eu _ _ _ _) (@eo _ _ _ _ _ (@eu _ _ _ _) (@ff _) (ef rfl)) (ef rfl)) (ef rfl)) (ef rfl))) (ic rfl) (.inl rfl)) (@ez _ _ _ _ _ (@iZ _ _ 4 _ _ _ _ aK.nd rfl cP (@ja _ _ _ _ _ _ _ _ _ (nD rfl) eM M.m_max uc (@eo _ _ _ _ _ (@eu _ _ _ _) (@eo _ _ _ _ _ (@cg _ 1 _ _ rfl cN bD bE) (@ff _) (ef rfl)) (ef rfl)) iD iC (ef rfl) (jf rfl iY)) (ic rfl) (.inl rfl)) (@ez _ _ _ _ _ (@jK _ _ _ _ _ _ _ _ (@jl _ _ _ _ _ _ _ _ (@mR _) (@g5 _ _ _ _ _ _ _ _ (@jh _) (@g5 _ _ _ _ _ _ _ _ (@jv _) (@cg _ 0 _ _ rfl bK av aw) (@eu _ _ _ _)) (@eu _ _ _ _)) (@eu _ _ _ _) (jj _)) (@g8 _ _ _ (@iZ _ _ 4 _ _ _ _ aK.nd rfl cP (@ja _ _ _ _ _ _ _ _ _ (rC rfl) eN M.m_min vU (@eo _ _ _ _ _ (@cg _ 4 _ _ rfl cO dM dN) (@eo _ _ _ _ _ (@eu _ _ _ _) (@ff _) (ef rfl)) (ef rfl)) iV iU (ef rfl) (jf rfl iY)) (ic rfl) (.inl rfl))) (@jq _)) (@ez _ _ _ _ _ (@jO _ _ _ _ _ _ _ _ PassesOwn.never rfl (@jy _ _ _ _ _ _ dZ M.m_range (@eo _ _ _ _ _ (@g5 _ _ _ _ _ _ _ _ (@jh _) (@cg _ 0 _ _ rfl bK av aw) (@eu _ _ _ _)) (@ff _) (ef rfl)) (star1' rfl)) (@i6 _ _ 5 _ aK.nd rfl fA (.inl rfl)) (@ez _ _ _ _ _ (@iZ _ _ 6 _ _ _ _ aK.nd rfl fC (@g5 _ _ _ _ _ _ _ _ (@kL _) (@g5 _ _ _ _ _ _ _ _ (@kL _) (@cg _ 1 _ _ rfl cN bD bE) (@eu _ _ _ _)) (@g5 _ _ _ _ _ _ _ _ (@jh _) (@jc _ _ _ _ _ _ _ _ _ _ _ aV hr cQ (@eo _ _ _ _ _ (@g5 _ _ _ _ _ _ _ _ (@jo _) (@g5 _ _ _ _ _ _ _ _ (@jv _) (@cg _ 0 _ _ rfl bK av aw) (@eu _ _ _ _)) (@g5 _ _ _ _ _ _ _ _ (@kC _) (@cg _ 5 _ _ rfl bM aN aO) (@cg _ 5 _ _ rfl bM aN aO))) (@eo _ _ _ _ _ (@i7 _ _ _ _ _ _ _ (@jg _) (@cg _ 3 _ _ rfl fu eS eU) (@cg _ 5 _ _ rfl bM aN aO) (fun _ _ => rfl)) (@ff _) (ef rfl)) (ef rfl)) (by decide) cA (ef rfl) (jf rfl iY)) (@cg _ 4 _ _ rfl cO dM dN))) (ic rfl) (.inl rfl)) (@g8 _ _ _ (@jK _ _ _ _ _ _ _ _ (@PW.pt _ _ _ (@vO _ _ _ _ _ _ _ (@jl _ _ _ _ _ _ _ _ (@v5 _) (@cg _ 6 _ _ rfl bN aZ ba) (@eu _ _ _ _) (jj _)) (@uy _ _ _ _ (@jl _ _ _ _ _ _ _ _ (@ou _) (@cg _ 6 _ _ rfl bN aZ ba) (@cg _ 2 _ _ rfl bL cb cc) (by with_unfolding_all rfl))))) (@g8 _ _ _ (@jW _ _ _ _ (@kj _ _ _ _ _ _ _ _ _ _ _ _ PySem.F.plainAttrs_list PySem.F.slot_list_append PySem.F.type_list_append jH (@cg _ 2 _ _ rfl bL cb cc) (@eo _ _ _ _ _ (@cg _ 6 _ _ rfl bN aZ ba) (@ff _) (ef rfl)) (by rfl) (by rfl) (by rfl) (by rfl) (by rfl)) (ic rfl))) (@jq _)))) (by intro _; rfl)) (@g8 _ _ _ (@je _ _ _ _ (@cg _ 2 _ _ rfl bL cb cc)))))))), ?_⟩
  have c0 := Int.emod_nonneg c (show (5 : Int) ≠ 0 by decide)
  have c1 := Int.emod_lt_of_pos c (show (0 : Int) < 5 by decide)
  trivial
  refine ⟨by decide, fun r hr0 => ⟨by decide, fun bl hbl => ?_⟩⟩
  have hne : bl ≠ r := fun z => by rw [z, fz] at hbl; cases hbl
  obtain ⟨H1, g1, S1, L1⟩ := jR (K := K) hbl [.int 48271, .int 69621, .int 16807, .int 39373]
  rw [← g1]
  clear g1
  have d1 : H1 r = some (.lst (([] : List Int).map V.int)) := S1 _ _ fz
  have S0 : Same H H1 := (ia hr0 _).trans S1
  refine ⟨cdiv (by decide) (by decide), by decide, ?_⟩
  obtain ⟨nm, hnm, nm1⟩ : ∃ nm : Int, (if (many : Int) > 1 then (many : Int) else 1) = nm ∧ 1 ≤ nm := ⟨_, rfl, by split <;> omega⟩
  rw [hnm]
  by_cases w2 : c / 5 % 2 = 1
  · rw [if_pos w2]
    obtain ⟨nr, hnr, nr1⟩ : ∃ nr : Int, (if 3 < nm then 3 else nm) = nr ∧ 1 ≤ nr := ⟨_, rfl, by split <;> omega⟩
    rw [hnr]
    refine ⟨by decide, by omega, by omega, ?_⟩
    obtain ⟨Pv, hP⟩ : ∃ Pv : Nat → St → Hp → Prop, Pv = fun i σ H' => ∃ (is : List Int) (y z : Option V), H' r = some (.lst (is.map V.int)) ∧ is.length ≤ i ∧ (∀ i ∈ is, 0 ≤ i ∧ i < (many : Int)) ∧ is.Nodup ∧ Same H H' ∧ SqL K H' bl [.int 48271, .int 69621, .int 16807, .int 39373] ∧ σ = [some (.int c), some (.int many), some (.ref r), some (.ref bl), some (.int nr), y, z] := ⟨_, rfl⟩
    refine jS Pv ?_ ?_ ?_
    · rw [hP]
      exact ⟨[], _, _, d1, Nat.le_refl _, (fun _ h => by cases h), .nil, S0, L1, rfl⟩
    · intro i σ H' hi g
      rw [hP] at g
      obtain ⟨is, y, z, dr, il, iin, nd, e, Lb, rfl⟩ := g
      have hi4 : i < 4 := by omega
      obtain ⟨bv, hb⟩ : ∃ bv, ([V.int 48271, V.int 69621, V.int 16807, V.int 39373] : List V)[i]? = some bv := ⟨_, List.getElem?_eq_getElem hi4⟩
      obtain ⟨b, rfl, b0, b1⟩ : ∃ b : Int, bv = .int b ∧ 0 ≤ b ∧ b ≤ 100000 := by
        have := List.mem_of_getElem? hb
        simp only [List.mem_cons, List.not_mem_nil, or_false] at this
        rcases this with rfl | rfl | rfl | rfl <;> exact ⟨_, rfl, by decide, by decide⟩
      have hb' : atI [V.int 48271, V.int 69621, V.int 16807, V.int 39373] (0 + (i : Int)) = some (.int b) := by
        rw [Int.zero_add]
        exact jr hb
      trivial
      refine ⟨cdiv (by decide) (by decide), mT (by omega) (by omega) (by omega) (by omega), _, Lb, _, hb', _, _, rfl, b0, b1, fun v v0 v1 => ⟨_, rfl, by omega, ?_⟩⟩
      have x0 := Int.emod_nonneg v (show nr ≠ 0 by omega)
      obtain ⟨at', ha, am⟩ : ∃ at' : Int, (many : Int) - 1 - v % nr = at' ∧ at' < (many : Int) := ⟨_, rfl, by omega⟩
      rw [ha]
      by_cases a0 : 0 ≤ at'
      · rw [if_pos a0]
        refine ⟨_, _, rfl, .inl (SqL.of dr), rfl, nI is, _, rfl, ?_⟩
        rw [lH]
        by_cases hin : at' ∈ is
        · rw [decide_eq_true hin, if_neg (by decide), hP]
          exact ⟨is, _, _, dr, by omega, iin, nd, e, Lb, rfl⟩
        · rw [decide_eq_false hin, if_pos (by decide)]
          refine ⟨.inl ⟨rfl, _, SqL.of dr⟩, _, dr, by rw [List.length_map]; exact Nat.lt_of_lt_of_le (m := 64) (by omega) (by decide), ?_⟩
          rw [hP]
          refine ⟨is ++ [at'], _, _, by rw [fz, List.map_append]; rfl, by rw [List.length_append]; show is.length + 1 ≤ i + 1; omega, fun j hj => ?_, ?_, i0 e hr0 _, ?_, rfl⟩
          · rcases List.mem_append.mp hj with hj | hj
            · exact iin j hj
            · rw [List.mem_singleton.mp hj]
              exact ⟨a0, am⟩
          · rw [List.nodup_append]
            refine ⟨nd, List.nodup_cons.mpr ⟨List.not_mem_nil, .nil⟩, fun x hx y hy => ?_⟩
            rw [List.mem_singleton.mp hy]
            exact fun z => hin (z ▸ hx)
          · exact qm Lb hne
      · rw [if_neg a0, hP]
        exact ⟨is, _, _, dr, by omega, iin, nd, e, Lb, rfl⟩
    · intro σ H' g
      rw [hP] at g
      obtain ⟨is, y, z, dr, il, iin, nd, e, Lb, rfl⟩ := g
      trivial
      exact q _ is _ e hr0 dr (by omega) iin nd
  · rw [if_neg w2]
    obtain ⟨nr, hnr, nr1⟩ : ∃ nr : Int, nm = nr ∧ 1 ≤ nr := ⟨_, rfl, nm1⟩
    rw [hnr]
    refine ⟨by decide, by omega, by omega, ?_⟩
    obtain ⟨Pv, hP⟩ : ∃ Pv : Nat → St → Hp → Prop, Pv = fun i σ H' => ∃ (is : List Int) (y z : Option V), H' r = some (.lst (is.map V.int)) ∧ is.length ≤ i ∧ (∀ i ∈ is, 0 ≤ i ∧ i < (many : Int)) ∧ is.Nodup ∧ Same H H' ∧ SqL K H' bl [.int 48271, .int 69621, .int 16807, .int 39373] ∧ σ = [some (.int c), some (.int many), some (.ref r), some (.ref bl), some (.int nr), y, z] := ⟨_, rfl⟩
    refine jS Pv ?_ ?_ ?_
    · rw [hP]
      exact ⟨[], _, _, d1, Nat.le_refl _, (fun _ h => by cases h), .nil, S0, L1, rfl⟩
    · intro i σ H' hi g
      rw [hP] at g
      obtain ⟨is, y, z, dr, il, iin, nd, e, Lb, rfl⟩ := g
      have hi4 : i < 4 := by omega
      obtain ⟨bv, hb⟩ : ∃ bv, ([V.int 48271, V.int 69621, V.int 16807, V.int 39373] : List V)[i]? = some bv := ⟨_, List.getElem?_eq_getElem hi4⟩
      obtain ⟨b, rfl, b0, b1⟩ : ∃ b : Int, bv = .int b ∧ 0 ≤ b ∧ b ≤ 100000 := by
        have := List.mem_of_getElem? hb
        simp only [List.mem_cons, List.not_mem_nil, or_false] at this
        rcases this with rfl | rfl | rfl | rfl <;> exact ⟨_, rfl, by decide, by decide⟩
      have hb' : atI [V.int 48271, V.int 69621, V.int 16807, V.int 39373] (0 + (i : Int)) = some (.int b) := by
        rw [Int.zero_add]
        exact jr hb
      trivial
      refine ⟨cdiv (by decide) (by decide), mT (by omega) (by omega) (by omega) (by omega), _, Lb, _, hb', _, _, rfl, b0, b1, fun v v0 v1 => ⟨_, rfl, by omega, ?_⟩⟩
      have x0 := Int.emod_nonneg v (show nr ≠ 0 by omega)
      obtain ⟨at', ha, am⟩ : ∃ at' : Int, (many : Int) - 1 - v % nr = at' ∧ at' < (many : Int) := ⟨_, rfl, by omega⟩
      rw [ha]
      by_cases a0 : 0 ≤ at'
      · rw [if_pos a0]
        refine ⟨_, _, rfl, .inl (SqL.of dr), rfl, nI is, _, rfl, ?_⟩
        rw [lH]
        by_cases hin : at' ∈ is
        · rw [decide_eq_true hin, if_neg (by decide), hP]
          exact ⟨is, _, _, dr, by omega, iin, nd, e, Lb, rfl⟩
        · rw [decide_eq_false hin, if_pos (by decide)]
          refine ⟨.inl ⟨rfl, _, SqL.of dr⟩, _, dr, by rw [List.length_map]; exact Nat.lt_of_lt_of_le (m := 64) (by omega) (by decide), ?_⟩
          rw [hP]
          refine ⟨is ++ [at'], _, _, by rw [fz, List.map_append]; rfl, by rw [List.length_append]; show is.length + 1 ≤ i + 1; omega, fun j hj => ?_, ?_, i0 e hr0 _, ?_, rfl⟩
          · rcases List.mem_append.mp hj with hj | hj
            · exact iin j hj
            · rw [List.mem_singleton.mp hj]
              exact ⟨a0, am⟩
          · rw [List.nodup_append]
            refine ⟨nd, List.nodup_cons.mpr ⟨List.not_mem_nil, .nil⟩, fun x hx y hy => ?_⟩
            rw [List.mem_singleton.mp hy]
            exact fun z => hin (z ▸ hx)
          · exact qm Lb hne
      · rw [if_neg a0, hP]
        exact ⟨is, _, _, dr, by omega, iin, nd, e, Lb, rfl⟩
    · intro σ H' g
      rw [hP] at g
      obtain ⟨is, y, z, dr, il, iin, nd, e, Lb, rfl⟩ := g
      trivial
      exact q _ is _ e hr0 dr (by omega) iin nd
end

theorem wo {s1 s2 tl : TS} {D : Ends} {σ : St} {H : Hp} (h : ∀ tl', tl' = tl → jD s1 (jD s2 tl') D σ H) : jD s1 (jD s2 tl) D σ H := h tl rfl
def qZ (K : PySem.W.Frag) : Sp := fun vs H Q _ => ∃ (a ld cl : Addr) (gs : List Lt) (css : List (List Nat)) (x0 x1 x2 : Int), vs = [.ref a, .ref ld, .ref cl] ∧ SqL K H a (refs gs) ∧ (∀ g ∈ gs, LtAt K H g) ∧ Lots gs ∧ gs.length ≤ 23 ∧
  SqL K H ld (css.map fun cs => V.str (txt cs)) ∧ 1 ≤ css.length ∧ (∀ cs ∈ css, nameB cs = true) ∧ SqL K H cl [.int x0, .int x1, .int x2] ∧ ∀ g H', Same H H' → LtAt K H' g → GoodL gs g → Q (.ref g.q) H'
theorem uE {gs : List Lt} (lo : Lots gs) {j : Int} (h0 : 0 ≤ j) (h1 : j < (gs.length : Int)) : 1 ≤ jt gs j ∧ jt gs j ≤ 10 ^ 12 := by
  have hg : gs[j.toNat]? = some (gs[j.toNat]'(by omega)) := List.getElem?_eq_getElem _
  have G := lo _ _ hg
  unfold jt
  rw [hg]
  exact ⟨G.p1, G.p2⟩
theorem p9 {gs : List Lt} (lo : Lots gs) : ∀ {is : List Int}, (∀ i ∈ is, 0 ≤ i ∧ i < (gs.length : Int)) → 0 ≤ sumP gs is
  | [], _ => Int.le_refl _
  | i :: is, h => by
    have h1 := h i (List.mem_cons_self ..)
    have := uE lo h1.1 h1.2
    have ih := p9 lo (is := is) fun j hj => h j (List.mem_cons_of_mem _ hj)
    unfold sumP at ih ⊢
    rw [List.map_cons, List.sum_cons]
    omega
theorem wz {s1 s2 s3 s4 s5 s6 tl : TS} {D : Ends} {σ : St} {H : Hp} (h : ∀ tl', tl' = tl → jD s1 (jD s2 (jD s3 (jD s4 (jD s5 (jD s6 tl'))))) D σ H) : jD s1 (jD s2 (jD s3 (jD s4 (jD s5 (jD s6 tl))))) D σ H := h tl rfl
theorem emod_le {x m : Int} (h : 0 ≤ x) (hm : 0 < m) : x % m ≤ x := by
  rw [Int.emod_def]
  exact Int.sub_le_self x (Int.mul_nonneg (Int.le_of_lt hm) (Int.ediv_nonneg h (Int.le_of_lt hm)))
theorem pO {is : List Int} (h : is.Nodup) : ∀ i ∈ is, is.count i = 1 := by
  induction is with
  | nil => intro i hi; cases hi
  | cons j is ih =>
    intro i hi
    rw [List.nodup_cons] at h
    rw [List.count_cons]
    rcases List.mem_cons.mp hi with rfl | hi
    · rw [List.count_eq_zero.mpr h.1]
      simp
    · have : j ≠ i := fun z => h.1 (z ▸ hi)
      rw [ih h.2 i hi]
      simp [this]
section
variable {P : Program} {w : World} {K : PySem.W.Frag} {mg : Str → Option Value} {base : Heap} {f : Addr} {fd : FuncData}
theorem qR (F : Fun K "_law_lot" "_law_lot" aj f fd) (M : Mg mg) (cq : Cal P w K mg base CX0 "_law_inputs" 2 ["_law_cell", "_law_many"] (lK K)) (cr : Cal P w K mg base CX0 "_law_number" 2 ["_law_cell"] (lN K)) : FnOk P w K mg base CX0 3 f fd ["_law_lots_here", "_law_lands_here", "_law_cells"] (qZ K) := by
  refine F.ok aM (fun vs H Q E h => ?_) (fun cdv A outer s H vs Q E hr h => ?_)
  · obtain ⟨a, ld, cl, gs, css, x0, x1, x2, rfl, _⟩ := h
    rfl
  obtain ⟨a, ld, cl, gs, css, x0, x1, x2, rfl, L, at_, lo, l23, LD, lc, cn, LC, q⟩ := h
  refine ⟨_, (@ez _ _ _ _ _ (@iZ _ _ 3 _ _ _ _ aM.nd rfl gX (@jc _ _ _ _ _ _ _ _ _ _ _ cq hr cR (@eo _ _ _ _ _ (@i7 _ _ _ _ _ _ _ (@jg _) (@cg _ 2 _ _ rfl bt aT aU) (@eu _ _ _ _) (fun _ _ => rfl)) (@eo _ _ _ _ _ (@ja _ _ _ _ _ _ _ _ _ jk du M.m_len j5 (@eo _ _ _ _ _ (@cg _ 0 _ _ rfl gW ag ai) (@ff _) (ef rfl)) bC bB (ef rfl) iY) (@ff _) (ef rfl)) (ef rfl)) (by decide) fc (ef rfl) (jf rfl iY)) (ic rfl) (.inl rfl)) (@ez _ _ _ _ _ (@sX _ _ _ _ _ _ PassesOwn.never (@jl _ _ _ _ _ _ _ _ (@qA _) (@ja _ _ _ _ _ _ _ _ _ (kY rfl) dv M.m_sum qL (@eo _ _ _ _ _ (@jI _ _ _ _ _ _ _ _ _ _ _ _ _ _ _ rfl (CompOk.make (N' := ["_law_lots_here", "_law_at"]) (ix := [0]) (nl := 1) (by rfl) (fm1 rfl fm0) (by rfl) (by decide +kernel) rfl (by decide +kernel) rfl (And.intro ⟨rfl, .inl rfl, .inl rfl⟩ True.intro)) (@jC _ _ _ _ (@cg _ 3 _ _ rfl bQ aG aH)) (fun _ _ _ _ _ => (@i6 _ _ 1 _ (show List.Nodup (["_law_lots_here", "_law_at"] : List Str) from by decide) rfl (Or.inl rfl) (by first | exact .inl rfl | exact .inr rfl | assumption))) (fun _ _ _ _ _ => (@jB _)) (fun _ _ _ _ _ => (@i7 _ _ _ _ _ _ _ (mX (K := K) rfl) (@i7 _ _ _ _ _ _ _ (@j8 _ K rfl) (@pv _ 0 _ _ (by rfl) (by first | exact Or.inl rfl | exact Or.inr (Or.inl rfl) | exact Or.inr (Or.inr rfl)) (by decide) (by decide)) (@pv _ 1 _ _ (by rfl) (by first | exact Or.inl rfl | exact Or.inr (Or.inl rfl) | exact Or.inr (Or.inr rfl)) (by decide) (by decide)) (fun _ _ => rfl)) (@eu _ _ _ _) (fun _ _ => rfl))) (by intro _; rfl)) (@ff _) (ef rfl)) gp gn (ef rfl) iY) (@g5 _ _ _ _ _ _ _ _ (@kL _) (@g5 _ _ _ _ _ _ _ _ (@mG _) (@eu _ _ _ _) (@eu _ _ _ _)) (@g5 _ _ _ _ _ _ _ _ (@mG _) (@eu _ _ _ _) (@eu _ _ _ _))) (jj _)) (@g8 _ _ _ (@jW _ _ _ _ (@vz _ _ _ _ _ _ _ _ _ PySem.F.plainAttrs_list PySem.F.slot_list_pop PySem.F.type_list_pop vN (@cg _ 3 _ _ rfl bQ aG aH) (by rfl) (by rfl)) (ic rfl)))) (@ez _ _ _ _ _ (@iZ _ _ 4 _ _ _ _ aM.nd rfl gY (@ja _ _ _ _ _ _ _ _ _ (kY rfl) dv M.m_sum qL (@eo _ _ _ _ _ (@jI _ _ _ _ _ _ _ _ _ _ _ _ _ _ _ rfl (CompOk.make (N' := ["_law_lots_here", "_law_at"]) (ix := [0]) (nl := 1) (by rfl) (fm1 rfl fm0) (by rfl) (by decide +kernel) rfl (by decide +kernel) rfl (And.intro ⟨rfl, .inl rfl, .inl rfl⟩ True.intro)) (@jC _ _ _ _ (@cg _ 3 _ _ rfl bQ aG aH)) (fun _ _ _ _ _ => (@i6 _ _ 1 _ (show List.Nodup (["_law_lots_here", "_law_at"] : List Str) from by decide) rfl (Or.inl rfl) (by first | exact .inl rfl | exact .inr rfl | assumption))) (fun _ _ _ _ _ => (@jB _)) (fun _ _ _ _ _ => (@i7 _ _ _ _ _ _ _ (mX (K := K) rfl) (@i7 _ _ _ _ _ _ _ (@j8 _ K rfl) (@pv _ 0 _ _ (by rfl) (by first | exact Or.inl rfl | exact Or.inr (Or.inl rfl) | exact Or.inr (Or.inr rfl)) (by decide) (by decide)) (@pv _ 1 _ _ (by rfl) (by first | exact Or.inl rfl | exact Or.inr (Or.inl rfl) | exact Or.inr (Or.inr rfl)) (by decide) (by decide)) (fun _ _ => rfl)) (@eu _ _ _ _) (fun _ _ => rfl))) (by intro _; rfl)) (@ff _) (ef rfl)) gp gn (ef rfl) iY) (ic rfl) (.inl rfl)) (@ez _ _ _ _ _ (@iZ _ _ 5 _ _ _ _ aM.nd rfl gZ (@g5 _ _ _ _ _ _ _ _ (@jh _) (@i7 _ _ _ _ _ _ _ (@jg _) (@cg _ 2 _ _ rfl bt aT aU) (@eu _ _ _ _) (fun _ _ => rfl)) (@eu _ _ _ _)) (ic rfl) (.inl rfl)) (@ez _ _ _ _ _ (@iZ _ _ 6 _ _ _ _ aM.nd rfl bR (@g5 _ _ _ _ _ _ _ _ (@jh _) (@g5 _ _ _ _ _ _ _ _ (@jv _) (@i7 _ _ _ _ _ _ _ (@jg _) (@cg _ 2 _ _ rfl bt aT aU) (@eu _ _ _ _) (fun _ _ => rfl)) (@eu _ _ _ _)) (@g5 _ _ _ _ _ _ _ _ (@mG _) (@eu _ _ _ _) (@eu _ _ _ _))) (ic rfl) (.inl rfl)) (@ez _ _ _ _ _ (@jK _ _ _ _ _ _ _ _ (@jl _ _ _ _ _ _ _ _ (@rA _) (@cg _ 5 _ _ rfl cE cB cC) (@eu _ _ _ _) (jj _)) (@g8 _ _ _ (@iZ _ _ 6 _ _ _ _ aM.nd rfl bR (@g5 _ _ _ _ _ _ _ _ (@jh _) (@cg _ 6 _ _ rfl cF bd bf) (@eu _ _ _ _)) (ic rfl) (.inl rfl))) (@jq _)) (@ez _ _ _ _ _ (@jK _ _ _ _ _ _ _ _ (@jl _ _ _ _ _ _ _ _ (@mR _) (@cg _ 5 _ _ rfl cE cB cC) (@eu _ _ _ _) (jj _)) (@g8 _ _ _ (@iZ _ _ 6 _ _ _ _ aM.nd rfl bR (@g5 _ _ _ _ _ _ _ _ (@jh _) (@cg _ 6 _ _ rfl cF bd bf) (@g5 _ _ _ _ _ _ _ _ (@jo _) (@cg _ 4 _ _ rfl cD bb bc) (@eu _ _ _ _))) (ic rfl) (.inl rfl))) (@jq _)) (@ez _ _ _ _ _ (@jK _ _ _ _ _ _ _ _ (@jl _ _ _ _ _ _ _ _ (@mR _) (@cg _ 5 _ _ rfl cE cB cC) (@eu _ _ _ _) (jj _)) (@g8 _ _ _ (@iZ _ _ 6 _ _ _ _ aM.nd rfl bR (@g5 _ _ _ _ _ _ _ _ (@kL _) (@g5 _ _ _ _ _ _ _ _ (@mG _) (@eu _ _ _ _) (@eu _ _ _ _)) (@cg _ 4 _ _ rfl cD bb bc)) (ic rfl) (.inl rfl))) (@jq _)) (@ez _ _ _ _ _ (@iZ _ _ 7 _ _ _ _ aM.nd rfl hG (@ja _ _ _ _ _ _ _ _ _ (nD rfl) gf M.m_max uc (@eo _ _ _ _ _ (@eu _ _ _ _) (@eo _ _ _ _ _ (@g5 _ _ _ _ _ _ _ _ (@jo _) (@cg _ 4 _ _ rfl cD bb bc) (@cg _ 6 _ _ rfl cF bd bf)) (@ff _) (ef rfl)) (ef rfl)) iD iC (ef rfl) (jf rfl iY)) (ic rfl) (.inl rfl)) (@g8 _ _ _ (@je _ _ _ _ (@n6 _ _ _ _ _ (@eo _ _ _ _ _ (@i7 _ _ _ _ _ _ _ (@jg _) (@cg _ 1 _ _ rfl eB bg bh) (@g5 _ _ _ _ _ _ _ _ (@jh _) (@i7 _ _ _ _ _ _ _ (@jg _) (@cg _ 2 _ _ rfl bt aT aU) (@eu _ _ _ _) (fun _ _ => rfl)) (@ja _ _ _ _ _ _ _ _ _ jk du M.m_len j5 (@eo _ _ _ _ _ (@cg _ 1 _ _ rfl eB bg bh) (@ff _) (ef rfl)) bC bB (ef rfl) iY)) (fun _ _ => rfl)) (@eo _ _ _ _ _ (@jc _ _ _ _ _ _ _ _ _ _ _ cr hr cS (@eo _ _ _ _ _ (@g5 _ _ _ _ _ _ _ _ (@jv _) (@i7 _ _ _ _ _ _ _ (@jg _) (@cg _ 2 _ _ rfl bt aT aU) (@eu _ _ _ _) (fun _ _ => rfl)) (@eu _ _ _ _)) (@ff _) (ef rfl)) (by decide) fg (ef rfl) iY) (@eo _ _ _ _ _ (@cg _ 7 _ _ rfl g9 bS bT) (@eo _ _ _ _ _ (@j3 _ _ _ _ _ _ _ _ _ lJ eW M.m_tuple nh (@eo _ _ _ _ _ (@cg _ 3 _ _ rfl bQ aG aH) (@ff _) (ef rfl)) eK eJ (ef rfl) iY) (@ff _) (ef rfl)) (ef rfl)) (ef rfl)) (ef rfl)))))))))))))), ?_⟩
  refine wo fun tl htl => ?_
  trivial
  refine ⟨_, LC, _, rfl, _, .inl L, ?_⟩
  rw [jF]
  refine ⟨_, _, rfl, by omega, fun r is0 H1 e1 hr0 dr0 il0 iin0 nd0 => ?_⟩
  refine ⟨fun m σ H' => ∃ is : List Int, is.length = m ∧ H' r = some (.lst (is.map V.int)) ∧ is.length ≤ 4 ∧ (∀ i ∈ is, 0 ≤ i ∧ i < (gs.length : Int)) ∧ is.Nodup ∧ Same H H' ∧ σ = [some (.ref a), some (.ref ld), some (.ref cl), some (.ref r), none, none, none, none], ⟨_, is0, rfl, dr0, il0, iin0, nd0, e1, rfl⟩, ?_⟩
  rintro m σ Hc ⟨is, rfl, dr, il, iin, nd, eC, rfl⟩
  trivial
  refine ⟨⟨_, SqL.of dr⟩, fun D hD => ?_⟩
  obtain ⟨Pc, hC⟩ : ∃ Pc : Nat → St → Hp → Prop, Pc = fun i τ H' => ∃ z, H' D = some (.lst (((is.map (jt gs)).take i).map V.int)) ∧ Same Hc H' ∧ τ = [some (.ref a), z] := ⟨_, rfl⟩
  refine jL (is.map V.int) Pc ?_ (fun i τ H' _ h => by rw [hC] at h; obtain ⟨z, _, e, _⟩ := h; exact SqL.of (e _ _ dr)) ?_ ?_
  · rw [hC]
    exact ⟨_, fz, ia hD _, rfl⟩
  · intro i x τ H' R hx h next
    rw [hC] at h
    obtain ⟨z, d1, d2, rfl⟩ := h
    rw [List.getElem?_map] at hx
    obtain ⟨o, ho, rfl⟩ := Option.map_eq_some_iff.mp hx
    have li := (List.getElem?_eq_some_iff.mp ho).1
    have oi := iin o (List.mem_of_getElem? ho)
    obtain ⟨j, hj⟩ : ∃ j : Nat, o = (j : Int) := ⟨o.toNat, by omega⟩
    subst hj
    obtain ⟨g, hg⟩ : ∃ g, gs[j]? = some g := ⟨_, List.getElem?_eq_getElem (show j < gs.length by omega)⟩
    have ga := ((at_ g (List.mem_of_getElem? hg)).same eC).same d2
    have ep : jt gs (j : Int) = g.pr := by
      unfold jt
      rw [Int.toNat_natCast, hg]
      rfl
    trivial
    refine ⟨_, (eC.trans d2).seq L, _, j6 hg, _, rfl, _, ga.tq, _, rfl, _, d1, by rw [List.length_map, List.length_take, List.length_map]; exact Nat.lt_of_lt_of_le (m := 64) (by omega) (by decide), next _ _ ?_⟩
    rw [hC]
    refine ⟨_, ?_, i0 d2 hD _, rfl⟩
    rw [fz, List.take_add_one, List.getElem?_map, ho, List.map_append]
    show _ = some (HO.lst (_ ++ [V.int (jt gs (j : Int))]))
    rw [ep]
  intro τ H' h
  rw [hC] at h
  obtain ⟨z, d1, d2, rfl⟩ := h
  rw [List.length_map, List.take_of_length_le (by rw [List.length_map]; exact Nat.le_refl _)] at d1
  clear hC Pc
  refine ⟨_, rfl, _, SqL.of d1, q4, q4, ?_⟩
  have es : (is.map (jt gs)).sum = sumP gs is := rfl
  rw [es]
  have e2 := eC.trans d2
  have dr2 := d2 _ _ dr
  by_cases big : (10 : Int) ^ 12 - 10 ^ 9 < sumP gs is
  · rw [if_pos big]
    have l1 : 1 ≤ is.length := by
      cases is with
      | nil => exact absurd big (show ¬ ((10 : Int) ^ 12 - 10 ^ 9 < 0) by decide)
      | cons i is => exact Nat.le_add_left ..
    refine ⟨_, fun _ _ h => h, .inl ⟨rfl, _, SqL.of dr2⟩, _, dr2, ⟨_, List.getElem?_eq_getElem (by rw [List.length_map]; omega)⟩, ?_⟩
    refine ⟨_, ?_, is.dropLast, rfl, by rw [fz, ← List.map_dropLast], by rw [List.length_dropLast]; omega, fun i hi => iin i (List.dropLast_subset is hi), nd.sublist (List.dropLast_sublist is), i0 e2 hr0 _, rfl⟩
    rw [List.length_dropLast]
    omega
  rw [if_neg big]
  have nn := p9 lo iin
  clear d1 hD D
  obtain ⟨Hd, hHd⟩ : ∃ Hd, Hd = H' := ⟨_, rfl⟩
  subst hHd
  clear d2 eC dr
  have eC := e2
  have dr := dr2
  clear e2 dr2
  rw [htl]
  clear htl tl
  refine wz fun tl6 htl6 => ?_
  have TL6 : ∀ (H5 : Hp) (wy own : Int), Same H H5 → H5 r = some (.lst (is.map V.int)) → 0 ≤ own → sumP gs is + own ≤ 10 ^ 12 → tl6 { nx := fun x H' => Q V.non H', rt := Q } [some (V.ref a), some (V.ref ld), some (V.ref cl), some (V.ref r), some (V.int (sumP gs is)), some (V.int wy), some (V.int own), none] H5 := by
    intro H5 wy own e5 d5 o0 o1
    rw [htl6]
    trivial
    have lp : 0 < ((css.map fun cs => V.str (txt cs)).length : Int) := by rw [List.length_map]; omega
    have j0 := Int.emod_nonneg x0 (Int.ne_of_gt lp)
    have j1 := Int.emod_lt_of_pos x0 lp
    obtain ⟨j, hj⟩ : ∃ j : Nat, x0 % ((css.map fun cs => V.str (txt cs)).length : Int) = (j : Int) := ⟨(x0 % ((css.map fun cs => V.str (txt cs)).length : Int)).toNat, by omega⟩
    rw [hj, List.length_map] at j1
    obtain ⟨cs, hcs⟩ : ∃ cs, css[j]? = some cs := ⟨_, List.getElem?_eq_getElem (show j < css.length by omega)⟩
    have hx : (css.map fun cs => V.str (txt cs))[j]? = some (.str (txt cs)) := by rw [List.getElem?_map, hcs]; rfl
    refine ⟨_, e5.seq LC, _, rfl, _, .inl (e5.seq LD), _, rfl, lp, _, e5.seq LD, _, by rw [hj]; exact jr hx, _, e5.seq LC, _, rfl, _, rfl, cdiv (by decide) (by decide), _, rfl, fun np nv H6 e6 dn l1 l4 nin => ?_⟩
    refine ⟨_, SqL.of (e6 _ _ d5), fun ip hip => ?_⟩
    obtain ⟨H7, g7, S7, T7⟩ : ∃ H7, H7 = upd H6 ip (.tup (is.map V.int)) ∧ Same H6 H7 ∧ H7 ip = some (.tup (is.map V.int)) := ⟨_, rfl, ia hip _, fz⟩
    rw [← g7]
    clear g7
    refine ⟨by decide, fun t ht => ?_⟩
    obtain ⟨pr, hpr, p1, p2, p3⟩ : ∃ pr : Int, (if sumP gs is + own > 1 then sumP gs is + own else 1) = pr ∧ 1 ≤ pr ∧ pr ≤ 10 ^ 12 ∧ sumP gs is ≤ pr := ⟨_, rfl, by split <;> omega, by split <;> omega, by split <;> omega⟩
    rw [hpr]
    refine q ⟨t, np, ip, cs, nv, pr, is⟩ _ (e5.trans (e6.trans (S7.trans (ia ht _)))) ⟨SqT.of fz, SqT.of ((S7.trans (ia ht _)) _ _ dn), (ia ht _) _ _ T7⟩ ⟨cn cs (List.mem_of_getElem? hcs), l1, l4, nin, p1, p2, il, iin, pO nd, p3⟩
  trivial
  refine ⟨⟨_, SqL.of dr⟩, fun D hD => ?_⟩
  obtain ⟨Pc, hC⟩ : ∃ Pc : Nat → St → Hp → Prop, Pc = fun i τ H' => ∃ z, H' D = some (.lst (((is.map (jt gs)).take i).map V.int)) ∧ Same Hd H' ∧ τ = [some (.ref a), z] := ⟨_, rfl⟩
  refine jL (is.map V.int) Pc ?_ (fun i τ H' _ h => by rw [hC] at h; obtain ⟨z, _, e, _⟩ := h; exact SqL.of (e _ _ dr)) ?_ ?_
  · rw [hC]
    exact ⟨_, fz, ia hD _, rfl⟩
  · intro i x τ H' R hx h next
    rw [hC] at h
    obtain ⟨z, d1, d2, rfl⟩ := h
    rw [List.getElem?_map] at hx
    obtain ⟨o, ho, rfl⟩ := Option.map_eq_some_iff.mp hx
    have li := (List.getElem?_eq_some_iff.mp ho).1
    have oi := iin o (List.mem_of_getElem? ho)
    obtain ⟨j, hj⟩ : ∃ j : Nat, o = (j : Int) := ⟨o.toNat, by omega⟩
    subst hj
    obtain ⟨g, hg⟩ : ∃ g, gs[j]? = some g := ⟨_, List.getElem?_eq_getElem (show j < gs.length by omega)⟩
    have ga := ((at_ g (List.mem_of_getElem? hg)).same eC).same d2
    have ep : jt gs (j : Int) = g.pr := by
      unfold jt
      rw [Int.toNat_natCast, hg]
      rfl
    trivial
    refine ⟨_, (eC.trans d2).seq L, _, j6 hg, _, rfl, _, ga.tq, _, rfl, _, d1, by rw [List.length_map, List.length_take, List.length_map]; exact Nat.lt_of_lt_of_le (m := 64) (by omega) (by decide), next _ _ ?_⟩
    rw [hC]
    refine ⟨_, ?_, i0 d2 hD _, rfl⟩
    rw [fz, List.take_add_one, List.getElem?_map, ho, List.map_append]
    show _ = some (HO.lst (_ ++ [V.int (jt gs (j : Int))]))
    rw [ep]
  intro τ H' h
  rw [hC] at h
  obtain ⟨z, d1, d2, rfl⟩ := h
  rw [List.length_map, List.take_of_length_le (by rw [List.length_map]; exact Nat.le_refl _)] at d1
  clear hC Pc
  refine ⟨_, rfl, _, SqL.of d1, ?_⟩
  rw [es]
  have e9 := eC.trans d2
  have dr9 := d2 _ _ dr
  have o0 := Int.emod_nonneg (x2 / 8) (show (10 ^ 9 : Int) ≠ 0 by decide)
  have o1 := Int.emod_lt_of_pos (x2 / 8) (show (0 : Int) < 10 ^ 9 by decide)
  have o3 := Int.emod_nonneg (x2 / 8 % 10 ^ 9) (show (3 : Int) ≠ 0 by decide)
  have o4 := Int.emod_lt_of_pos (x2 / 8 % 10 ^ 9) (show (0 : Int) < 3 by decide)
  have o5 := Int.emod_nonneg (x2 / 8 % 10 ^ 9) (show (sumP gs is + 1) ≠ 0 by omega)
  have o6 : x2 / 8 % 10 ^ 9 % (sumP gs is + 1) ≤ x2 / 8 % 10 ^ 9 := emod_le o0 (by omega)
  refine ⟨_, e9.seq LC, _, rfl, _, rfl, by decide, _, e9.seq LC, _, rfl, _, rfl, cdiv (by decide) (by decide), q4, by decide, ?_⟩
  by_cases w1 : x2 % 8 < 2
  · rw [if_pos w1]
    refine ⟨by decide, ?_⟩
    rw [if_neg (by omega), if_neg (by omega)]
    exact TL6 _ _ _ e9 dr9 o3 (by omega)
  rw [if_neg w1]
  by_cases w2 : x2 % 8 = 2
  · rw [if_pos w2]
    refine ⟨by omega, ?_⟩
    rw [if_neg (by omega)]
    exact TL6 _ _ _ e9 dr9 o5 (by omega)
  rw [if_neg w2]
  by_cases w3 : x2 % 8 = 3
  · rw [if_pos w3]
    exact ⟨q4, TL6 _ _ _ e9 dr9 (by omega) (by omega)⟩
  · rw [if_neg w3]
    exact TL6 _ _ _ e9 dr9 o0 (by omega)
end

def oJ (K : PySem.W.Frag) : Sp := fun vs H Q _ => ∃ (a : Addr) (ns : List Int), vs = [.ref a] ∧ SqL K H a (ns.map V.int) ∧ ∀ (r : Addr) (gs : List Lt) H', Same H H' → H r = none → H' r = some (.lst (refs gs)) → (∀ g ∈ gs, LtAt K H' g) → Lots gs → 1 ≤ gs.length → gs.length ≤ 21 → Q (.ref r) H'
theorem Lots.snoc {gs : List Lt} {g : Lt} (h : Lots gs) (hg : GoodL gs g) : Lots (gs ++ [g]) := fun i x hx => by
  by_cases hi : i < gs.length
  · rw [List.getElem?_append_left hi] at hx
    have := h i x hx
    rw [List.take_append_of_le_length (Nat.le_of_lt hi)]
    exact this
  · have hl := (List.getElem?_eq_some_iff.mp hx).1
    rw [List.length_append] at hl
    have l1 : [g].length = 1 := rfl
    have e : i = gs.length := by omega
    subst e
    rw [List.getElem?_append_right (Nat.le_refl _), Nat.sub_self] at hx
    cases hx
    rw [List.take_append_of_le_length (Nat.le_refl _), List.take_of_length_le (Nat.le_refl _)]
    exact hg
theorem wc (xs : List V) : (kh xs (some 2) (some 62)).length ≤ 60 := by
  unfold kh
  have e1 : HT.sIx xs.length 0 (some 2) = min 2 xs.length := HT.sIx_nat xs.length 0 2
  have e2 : HT.sIx xs.length xs.length (some 62) = min 62 xs.length := HT.sIx_nat xs.length xs.length 62
  rw [e1, e2, List.length_take, List.length_drop]
  omega
section
variable {P : Program} {w : World} {K : PySem.W.Frag} {mg : Str → Option Value} {base : Heap} {f : Addr} {fd : FuncData}
theorem pK (F : Fun K "_law_lots" "_law_lots" al f fd) (M : Mg mg) (aL : Cal P w K mg base CX0 "_law_cell_at" 1 ["_law_script", "_law_k"] (kD K)) (cI : Cal P w K mg base CX0 "_law_lands" 2 ["_law_cell"] (m8 K))
    (d9 : Cal P w K mg base CX0 "_law_lot" 3 ["_law_lots_here", "_law_lands_here", "_law_cells"] (qZ K)) : FnOk P w K mg base CX0 4 f fd ["_law_script"] (oJ K) := by
  refine F.ok bu (fun vs H Q E h => ?_) (fun cdv A outer s H vs Q E hr h => ?_)
  · obtain ⟨a, ns, rfl, _⟩ := h
    rfl
  obtain ⟨a, ns, rfl, hS, q⟩ := h
  refine ⟨_, (@ez _ _ _ _ _ (@iZ _ _ 1 _ _ _ _ bu.nd rfl gH (@jc _ _ _ _ _ _ _ _ _ _ _ cI hr cT (@eo _ _ _ _ _ (@jc _ _ _ _ _ _ _ _ _ _ _ aL hr cu (@eo _ _ _ _ _ (@cg _ 0 _ _ rfl d6 aP aQ) (@eo _ _ _ _ _ (@eu _ _ _ _) (@ff _) (ef rfl)) (ef rfl)) (by decide) bF (ef rfl) (jf rfl iY)) (@ff _) (ef rfl)) (by decide) fH (ef rfl) iY) (ic rfl) (.inl rfl)) (@ez _ _ _ _ _ (@iZ _ _ 2 _ _ _ _ bu.nd rfl gI (@jN _ _ _ _ (@ff _)) (ic rfl) (.inl rfl)) (@ez _ _ _ _ _ (@jO _ _ _ _ _ _ _ _ PassesOwn.never rfl (@jy _ _ _ _ _ _ cm M.m_range (@eo _ _ _ _ _ (@g5 _ _ _ _ _ _ _ _ (@jo _) (@eu _ _ _ _) (@g5 _ _ _ _ _ _ _ _ (@jv _) (@ja _ _ _ _ _ _ _ _ _ jk fD M.m_len j5 (@eo _ _ _ _ _ (@lO _ _ _ _ _ _ _ _ _ _ (@ng _) (@cg _ 0 _ _ rfl d6 aP aQ) (@lF _ _ _ (@eu _ _ _ _)) (@lF _ _ _ (@eu _ _ _ _))) (@ff _) (ef rfl)) bC bB (ef rfl) iY) (@eu _ _ _ _))) (@ff _) (ef rfl)) (star1' rfl)) (@i6 _ _ 3 _ bu.nd rfl gJ (.inl rfl)) (@ez _ _ _ _ _ (@mD _ _ _ _ _ _ _ _ _ _ _ _ _ _ _ 4 _ _ _ bu.nd rfl gL rfl (CompOk.make (N' := ["_law_script", "_law_j", "_law_k"]) (ix := [0, 3]) (nl := 1) (by rfl) (fm1 rfl (fm1 rfl fm0)) (by rfl) (by decide +kernel) rfl (by decide +kernel) rfl (And.intro ⟨rfl, .inl rfl, .inl rfl⟩ (And.intro ⟨rfl, .inl rfl, .inl rfl⟩ True.intro))) (@jy _ _ _ _ _ _ cm M.m_range (@eo _ _ _ _ _ (@eu _ _ _ _) (@ff _) (ef rfl)) (star1' rfl)) (fun _ _ _ _ _ => (@i6 _ _ 2 _ (show List.Nodup (["_law_script", "_law_j", "_law_k"] : List Str) from by decide) rfl (Or.inl rfl) (by first | exact .inl rfl | exact .inr rfl | assumption))) (fun _ _ _ _ _ => (@jB _)) (fun _ _ _ _ _ => (@jc _ _ _ _ _ _ _ _ _ _ _ aL hr rfl (@eo _ _ _ _ _ (@pv _ 0 _ _ (by rfl) (by first | exact Or.inl rfl | exact Or.inr (Or.inl rfl) | exact Or.inr (Or.inr rfl)) (by decide) (by decide)) (@eo _ _ _ _ _ (@g5 _ _ _ _ _ _ _ _ (@jo _) (@g5 _ _ _ _ _ _ _ _ (@jo _) (@eu _ _ _ _) (@g5 _ _ _ _ _ _ _ _ (@kC _) (@eu _ _ _ _) (@pv _ 1 _ _ (by rfl) (by first | exact Or.inl rfl | exact Or.inr (Or.inl rfl) | exact Or.inr (Or.inr rfl)) (by decide) (by decide)))) (@pv _ 2 _ _ (by rfl) (by first | exact Or.inl rfl | exact Or.inr (Or.inl rfl) | exact Or.inr (Or.inr rfl)) (by decide) (by decide))) (@ff _) (ef rfl)) (ef rfl)) (by decide) bF (ef rfl) (jf rfl iY))) (by rfl) (by intro _; rfl) (by first | exact .inl rfl | exact .inr rfl | assumption)) (@g8 _ _ _ (@jW _ _ _ _ (@kj _ _ _ _ _ _ _ _ _ _ _ _ PySem.F.plainAttrs_list PySem.F.slot_list_append PySem.F.type_list_append jH (@cg _ 2 _ _ rfl ck ag ai) (@eo _ _ _ _ _ (@jc _ _ _ _ _ _ _ _ _ _ _ d9 hr dC (@eo _ _ _ _ _ (@cg _ 2 _ _ rfl ck ag ai) (@eo _ _ _ _ _ (@cg _ 1 _ _ rfl gG bg bh) (@eo _ _ _ _ _ (@cg _ 4 _ _ rfl gK aT aU) (@ff _) (ef rfl)) (ef rfl)) (ef rfl)) (by decide) gQ (ef rfl) (jf rfl (jf rfl iY))) (@ff _) (ef rfl)) (by rfl) (by rfl) (by rfl) (by rfl) (by rfl)) (ic rfl)))) (by intro _; rfl)) (@g8 _ _ _ (@je _ _ _ _ (@cg _ 2 _ _ rfl ck ag ai)))))), ?_⟩
  trivial
  refine mF hS (by decide) fun c => ⟨_, rfl, fun ld css H1 e1 dl l1 l7 cn => ?_⟩
  trivial
  refine ⟨by decide, fun r hr0 => ?_⟩
  have Sr := ia hr0 (.lst [])
  refine ⟨_, (e1.trans Sr).seq hS, fun sl hsl => ?_⟩
  have c60 := wc (ns.map V.int)
  obtain ⟨H2, g2, S2, L2'⟩ := jR (K := K) hsl (kh (ns.map V.int) (some 2) (some 62))
  rw [← g2]
  clear g2
  refine ⟨_, .inl L2', cdiv (by decide) (by decide), by omega, by omega, ?_⟩
  obtain ⟨ln, hln, ln60⟩ : ∃ ln : Nat, (kh (ns.map V.int) (some 2) (some 62)).length = ln ∧ ln ≤ 60 := ⟨_, rfl, c60⟩
  rw [hln]
  obtain ⟨Pv, hP⟩ : ∃ Pv : Nat → St → Hp → Prop, Pv = fun i σ H' => ∃ (gs : List Lt) (y z : Option V), H' r = some (.lst (refs gs)) ∧ gs.length = i ∧ (∀ g ∈ gs, LtAt K H' g) ∧ Lots gs ∧ Same H1 H' ∧ σ = [some (.ref a), some (.ref ld), some (.ref r), y, z] := ⟨_, rfl⟩
  refine jS Pv ?_ ?_ ?_
  · rw [hP]
    exact ⟨[], _, _, S2 _ _ fz, rfl, (fun _ h => by cases h), (fun i g h => by simp at h), Sr.trans S2, rfl⟩
  · intro i σ H3 hi g
    rw [hP] at g
    obtain ⟨gs, y, z, dr, gl, ga, lo, e3, rfl⟩ := g
    trivial
    refine ⟨by decide, by decide, fun D hD => ?_⟩
    obtain ⟨Pc, hC⟩ : ∃ Pc : Nat → St → Hp → Prop, Pc = fun j τ H' => ∃ (ks : List Int) (z : Option V), H' D = some (.lst (ks.map V.int)) ∧ ks.length = j ∧ Same H3 H' ∧ τ = [some (.ref a), some (.int (0 + (i : Int))), z] := ⟨_, rfl⟩
    refine jY Pc ?_ ?_ ?_
    · rw [hC]
      exact ⟨[], _, fz, rfl, ia hD _, rfl⟩
    · intro j τ H' R hj g next
      rw [hC] at g
      obtain ⟨ks, z, d1, kl, e, rfl⟩ := g
      have hj3 : j < 3 := hj
      trivial
      refine ⟨mT (by decide) (by decide) (by omega) (by omega), mF ((e1.trans (e3.trans e)).seq hS) (by omega) fun v => ⟨_, d1, by rw [List.length_map]; exact Nat.lt_of_lt_of_le (m := 64) (by omega) (by decide), next _ _ ?_⟩⟩
      rw [hC]
      exact ⟨ks ++ [v], _, by rw [fz, List.map_append]; rfl, by rw [List.length_append, kl]; rfl, i0 e hD _, rfl⟩
    · intro τ H4 g
      rw [hC] at g
      obtain ⟨ks, z, d1, kl, e4, rfl⟩ := g
      obtain ⟨x0, x1, x2, hk⟩ : ∃ x0 x1 x2, ks = [x0, x1, x2] := by
        match ks, kl with
        | [x0, x1, x2], _ => exact ⟨x0, x1, x2, rfl⟩
      rw [hk] at d1
      have dr4 := e4 _ _ dr
      refine ⟨.inl ⟨rfl, _, SqL.of dr4⟩, ?_⟩
      refine ⟨_, _, _, gs, css, x0, x1, x2, rfl, SqL.of dr4, fun g hg => (ga g hg).same e4, lo, by omega, SqL.of ((e3.trans e4) _ _ dl), l1, cn, SqL.of d1, fun g H5 e5 gg good => ?_⟩
      have dr5 := e5 _ _ dr4
      refine ⟨_, dr5, by rw [jF]; exact Nat.lt_of_lt_of_le (m := 64) (by omega) (by decide), ?_⟩
      rw [hP]
      refine ⟨gs ++ [g], _, _, by rw [fz, rQ], by rw [List.length_append, gl]; rfl, fun g' hg => ?_, Lots.snoc lo good, i0 (e3.trans (e4.trans e5)) hr0 _, rfl⟩
      rcases List.mem_append.mp hg with hg | hg
      · exact ((ga g' hg).same (e4.trans e5)).upd dr5
      · rw [List.mem_singleton.mp hg]
        exact gg.upd dr5
  · intro σ H3 g
    rw [hP] at g
    obtain ⟨gs, y, z, dr, gl, ga, lo, e3, rfl⟩ := g
    trivial
    exact q _ gs _ (e1.trans e3) (e1.free hr0) dr ga lo (by omega) (by omega)
end

theorem jV {α : Type} {l : List α} {x y : α} {i : Nat} (h : (l ++ [x])[i]? = some y) : (i < l.length ∧ l[i]? = some y) ∨ (i = l.length ∧ y = x) := by
  by_cases hi : i < l.length
  · rw [List.getElem?_append_left hi] at h
    exact .inl ⟨hi, h⟩
  · rw [List.getElem?_append_right (by omega)] at h
    by_cases e : i - l.length = 0
    · rw [e] at h
      injection h with h
      exact .inr ⟨by omega, h.symm⟩
    · rw [List.getElem?_eq_none (by show 1 ≤ _; omega)] at h
      cases h
inductive PrR (H : Hp) : List Addr → Tb.Dc → Prop
  | nil : PrR H [] []
  | cons {p : Addr} {s : Str} {n : Int} {ps : List Addr} {r : Tb.Dc} : H p = some (.tup [.str s, .int n]) → PrR H ps r → PrR H (p :: ps) ((s, n) :: r)
theorem PrR.same {H H' : Hp} {ps : List Addr} {r : Tb.Dc} (h : PrR H ps r) (e : Same H H') : PrR H' ps r := by
  induction h with
  | nil => exact .nil
  | cons a _ ih => exact .cons (e _ _ a) ih
theorem PrR.upd {H : Hp} {l : Addr} {o o' : HO} {ps : List Addr} {r : Tb.Dc} (h : PrR H ps r) (hl : H l = some o) (ne : ∀ xs, o ≠ .tup xs) : PrR (upd H l o') ps r := by
  induction h with
  | nil => exact .nil
  | @cons p s n ps r a _ ih =>
    refine .cons ?_ ih
    have : p ≠ l := fun e => by rw [e, hl] at a; injection a with a; exact ne _ a
    rw [i9 this]
    exact a
theorem PrR.length {H : Hp} {ps : List Addr} {r : Tb.Dc} (h : PrR H ps r) : ps.length = r.length := by
  induction h with
  | nil => rfl
  | cons _ _ ih => rw [List.length_cons, List.length_cons, ih]
theorem PrR.at {H : Hp} {ps : List Addr} {r : Tb.Dc} (h : PrR H ps r) : ∀ {i : Nat} {x : V}, (ps.map V.ref)[i]? = some x → ∃ p q, x = .ref p ∧ ps[i]? = some p ∧ r[i]? = some q ∧ H p = some (.tup [.str q.1, .int q.2]) := by
  induction h with
  | nil => intro i x e; simp at e
  | cons a _ ih =>
    intro i x e
    cases i with
    | zero => simp at e; exact ⟨_, _, e.symm, rfl, rfl, a⟩
    | succ i => exact ih (by simpa using e)
theorem PrR.snoc {H : Hp} {ps : List Addr} {r : Tb.Dc} {p : Addr} {s : Str} {n : Int} (h : PrR H ps r) (e : H p = some (.tup [.str s, .int n])) : PrR H (ps ++ [p]) (r ++ [(s, n)]) := by
  induction h with
  | nil => exact .cons e .nil
  | cons a _ ih => exact .cons a ih
def TabR (H : Hp) (l : Addr) (T : Tb.Dc) : Prop := ∃ ps : List Addr, H l = some (.lst (ps.map V.ref)) ∧ PrR H ps T
theorem TabR.same {H H' : Hp} {l : Addr} {T : Tb.Dc} (h : TabR H l T) (e : Same H H') : TabR H' l T := let ⟨ps, a, b⟩ := h; ⟨ps, e _ _ a, b.same e⟩
theorem TabR.upd {H : Hp} {l x : Addr} {o o' : HO} {T : Tb.Dc} (h : TabR H l T) (n : l ≠ x) (hx : H x = some o) (ne : ∀ xs, o ≠ .tup xs) : TabR (upd H x o') l T :=
  let ⟨ps, a, b⟩ := h; ⟨ps, by rw [i9 n]; exact a, b.upd hx ne⟩
def lands (gs : List Lt) : List Str := gs.map fun g => txt g.cs
structure GoodT (gs : List Lt) (T : Tb.Dc) : Prop where
  nd : (Tb.ks T).Nodup
  pos : ∀ p ∈ T, 1 ≤ p.2
  sub : ∀ s ∈ Tb.ks T, s ∈ lands gs
theorem GoodT.len {gs : List Lt} {T : Tb.Dc} (h : GoodT gs T) : T.length ≤ gs.length := by
  have := List.Nodup.length_le_of_subset h.nd (fun s hs => h.sub s hs)
  unfold Tb.ks lands at this
  rwa [List.length_map, List.length_map] at this
def ins (Ts : List Tb.Dc) (is : List Int) : Tb.Dc := is.flatMap fun j => (Ts[j.toNat]?).getD []
theorem om (Ts : List Tb.Dc) (is : List Int) (j : Int) : ins Ts (is ++ [j]) = ins Ts is ++ (Ts[j.toNat]?).getD [] := by
  unfold ins
  rw [List.flatMap_append]
  simp
def lu (gs : List Lt) (g : Lt) : Tb.Dc := [(txt g.cs, g.pr - sumP gs g.is)]
def dOf (gs : List Lt) (Ts : List Tb.Dc) (g : Lt) : Tb.Dc := Tb.adAll (lu gs g) (ins Ts g.is)
structure TabsAt (H : Hp) (gs : List Lt) (ts : List Addr) (Ts : List Tb.Dc) : Prop where
  len : ts.length = Ts.length
  at_ : ∀ (j : Nat) (t : Addr) (T : Tb.Dc), ts[j]? = some t → Ts[j]? = some T → TabR H t T
  good : ∀ T ∈ Ts, GoodT gs T
theorem TabsAt.same {H H' : Hp} {gs : List Lt} {ts : List Addr} {Ts : List Tb.Dc} (h : TabsAt H gs ts Ts) (e : Same H H') : TabsAt H' gs ts Ts := ⟨h.len, fun j t T a b => (h.at_ j t T a b).same e, h.good⟩
theorem jQ {gs : List Lt} {Ts : List Tb.Dc} (h : ∀ T ∈ Ts, GoodT gs T) (is : List Int) : (∀ p ∈ ins Ts is, 1 ≤ p.2) ∧ ∀ s ∈ Tb.ks (ins Ts is), s ∈ lands gs := by
  have one : ∀ p ∈ ins Ts is, ∃ T, T ∈ Ts ∧ p ∈ T := fun p hp => by
    obtain ⟨j, _, hj⟩ := List.mem_flatMap.mp hp
    cases e : Ts[j.toNat]? with
    | none => rw [e] at hj; cases hj
    | some T => rw [e] at hj; exact ⟨T, List.mem_of_getElem? e, hj⟩
  refine ⟨fun p hp => ?_, fun s hs => ?_⟩
  · obtain ⟨T, m, hp⟩ := one p hp
    exact (h T m).pos p hp
  · obtain ⟨p, hp, rfl⟩ := List.mem_map.mp hs
    obtain ⟨T, m, hp⟩ := one p hp
    exact (h T m).sub _ (List.mem_map.mpr ⟨p, hp, rfl⟩)
structure DOk (gs : List Lt) (d : Tb.Dc) : Prop where
  nd : (Tb.ks d).Nodup
  nn : ∀ p ∈ d, 0 ≤ p.2
  sub : ∀ s ∈ Tb.ks d, s ∈ lands gs
theorem DOk.len {gs : List Lt} {T : Tb.Dc} (h : DOk gs T) : T.length ≤ gs.length := by
  have := List.Nodup.length_le_of_subset h.nd (fun s hs => h.sub s hs)
  unfold Tb.ks lands at this
  rwa [List.length_map, List.length_map] at this
theorem DOk.all {gs : List Lt} {d rows : Tb.Dc} (h : DOk gs d) (hp : ∀ p ∈ rows, 1 ≤ p.2) (hs : ∀ s ∈ Tb.ks rows, s ∈ lands gs) : DOk gs (Tb.adAll d rows) :=
  ⟨Tb.nd_all h.nd, Tb.pos_all h.nn fun p m => by have := hp p m; omega, fun s m => (Tb.mem_all.mp m).elim (h.sub s) (hs s)⟩
def m9 (K : PySem.W.Frag) : Sp := fun vs H Q _ => ∃ (a tb : Addr) (gs : List Lt) (g : Lt) (ts : List Addr) (Ts : List Tb.Dc), vs = [.ref a, .ref tb, .ref g.q] ∧ SqL K H a (refs gs) ∧ (∀ g ∈ gs, LtAt K H g) ∧ LtAt K H g ∧ g ∈ gs ∧ gs.length ≤ 24 ∧ g.is.length ≤ 4 ∧ (∀ i ∈ g.is, 0 ≤ i ∧ i < (ts.length : Int)) ∧ ts.length ≤ gs.length ∧ sumP gs g.is ≤ g.pr ∧ H tb = some (.lst (ts.map V.ref)) ∧ TabsAt H gs ts Ts ∧
  ∀ l T H', Same H H' → H l = none → TabR H' l T → Tb.isTab (dOf gs Ts g) T → Q (.ref l) H'
theorem oQ {gs : List Lt} {Ts : List Tb.Dc} {g : Lt} (gm : g ∈ gs) (sp : sumP gs g.is ≤ g.pr) (h : ∀ T ∈ Ts, GoodT gs T) : DOk gs (dOf gs Ts g) :=
  DOk.all ⟨List.nodup_cons.mpr ⟨List.not_mem_nil, List.nodup_nil⟩, (fun p m => by rw [List.mem_singleton.mp m]; show 0 ≤ g.pr - sumP gs g.is; omega), fun s m => by rw [List.mem_singleton.mp m]; exact List.mem_map.mpr ⟨g, gm, rfl⟩⟩ (jQ h _).1 (jQ h _).2
theorem tH {gs : List Lt} {d T : Tb.Dc} (dk : DOk gs d) (h : Tb.isTab d T) : GoodT gs T :=
  ⟨Tb.tab_nd dk.nd h, fun p m => (Tb.tab_gt h m).2, fun s m => by
    have := (Tb.tab_mem h).mp m
    by_cases k : s ∈ Tb.ks d
    · exact dk.sub s k
    · rw [Tb.gt_not k] at this; omega⟩
theorem rJ {gs : List Lt} {i : Nat} {j : Int} (h0 : 0 ≤ j) (h : j < ((gs.take i).length : Int)) : jt (gs.take i) j = jt gs j := by
  unfold jt
  rw [List.length_take] at h
  rw [List.getElem?_take_of_lt (by omega)]
theorem nu {gs : List Lt} {i : Nat} : ∀ {is : List Int}, (∀ j ∈ is, 0 ≤ j ∧ j < ((gs.take i).length : Int)) → sumP (gs.take i) is = sumP gs is
  | [], _ => rfl
  | j :: is, h => by
    have h1 := h j List.mem_cons_self
    have ih := nu (is := is) fun k m => h k (List.mem_cons_of_mem _ m)
    unfold sumP at ih ⊢
    rw [List.map_cons, List.map_cons, List.sum_cons, List.sum_cons, ih, rJ h1.1 h1.2]
theorem Lots.own {gs : List Lt} (h : Lots gs) {i : Nat} {g : Lt} (e : gs[i]? = some g) : sumP gs g.is ≤ g.pr ∧ (∀ j ∈ g.is, 0 ≤ j ∧ j < (i : Int)) ∧ g.is.length ≤ 4 := by
  have G := h i g e
  have li := (List.getElem?_eq_some_iff.mp e).1
  have lt : (gs.take i).length = i := by rw [List.length_take]; omega
  refine ⟨by rw [← nu (i := i) (fun j m => G.iin j m)]; exact G.sm, fun j m => by have := G.iin j m; rw [lt] at this; exact this, G.il⟩
section
variable {P : Program} {w : World} {K : PySem.W.Frag} {mg : Str → Option Value} {base : Heap} {f : Addr} {fd : FuncData}
theorem o7 (F : Fun K "table_of" "table_of" ak f fd) (M : Mg mg) (bp : Cal P w K mg base CX0 "price_of_inputs" 1 ["lots", "inputs"] (kZ K)) : FnOk P w K mg base CX0 2 f fd ["lots", "tables", "lot"] (m9 K) := by
  refine F.ok bq (fun vs H Q E h => ?_) (fun cdv A outer s H vs Q E hr h => ?_)
  · obtain ⟨a, tb, gs, g, ts, Ts, rfl, _⟩ := h
    rfl
  obtain ⟨a, tb, gs, g, ts, Ts, rfl, L, at_, ga, gm, g24, il, iin, tl, sp, TB, TA, q⟩ := h
  refine ⟨_, (@ez _ _ _ _ _ (@iZ _ _ 3 _ _ _ _ bq.nd rfl gz (@ux _ _ _ _ _ (@sW _ _ _ _ _ _ _ _ _ (@i7 _ _ _ _ _ _ _ (@jx _) (@cg _ 2 _ _ rfl bG dE dG) (@eu _ _ _ _) (fun _ _ => rfl)) (@g5 _ _ _ _ _ _ _ _ (@kL _) (@i7 _ _ _ _ _ _ _ (@jx _) (@cg _ 2 _ _ rfl bG dE dG) (@eu _ _ _ _) (fun _ _ => rfl)) (@jc _ _ _ _ _ _ _ _ _ _ _ bp hr bU (@eo _ _ _ _ _ (@cg _ 0 _ _ rfl gx e8 fb) (@eo _ _ _ _ _ (@i7 _ _ _ _ _ _ _ (@jx _) (@cg _ 2 _ _ rfl bG dE dG) (@eu _ _ _ _) (fun _ _ => rfl)) (@ff _) (ef rfl)) (ef rfl)) (by decide) dL (ef rfl) (jf rfl iY))) (@uI _ _)) rfl rfl (by simp) (by decide)) (ic rfl) (.inl rfl)) (@ez _ _ _ _ _ (@jO _ _ _ _ _ _ _ _ PassesOwn.never rfl (@oR _ _ _ _ (@i7 _ _ _ _ _ _ _ (@jx _) (@cg _ 2 _ _ rfl bG dE dG) (@eu _ _ _ _) (fun _ _ => rfl))) (@i6 _ _ 4 _ bq.nd rfl gB (.inl rfl)) (@g8 _ _ _ (@jO _ _ _ _ _ _ _ _ PassesOwn.never rfl (@jC _ _ _ _ (@i7 _ _ _ _ _ _ _ (@jg _) (@cg _ 1 _ _ rfl gy cv cw) (@cg _ 4 _ _ rfl gA iE iF) (fun _ _ => rfl))) (@oq _ _ _ _ _ _ rfl (@jG _ _ _ _ _ (@i6 _ _ 5 _ bq.nd rfl gC (.inl rfl)) (@jG _ _ _ _ _ (@i6 _ _ 6 _ bq.nd rfl gE (.inl rfl)) (@m6 _) (by rfl)) (by rfl)) (by rfl) (by rfl)) (@g8 _ _ _ (@ni _ _ _ _ _ _ _ _ _ (jU hr) (@cg _ 3 _ _ rfl cf dI dJ) (@cg _ 5 _ _ rfl dW io iq) (@g5 _ _ _ _ _ _ _ _ (@jo _) (@lP _ _ _ _ _ _ _ _ _ (jU hr) (@cg _ 3 _ _ rfl cf dI dJ) (@cg _ 5 _ _ rfl dW io iq) (@eu _ _ _ _) ⟨rfl, rfl, rfl, rfl⟩) (@cg _ 6 _ _ rfl gD iG iH)) (ic rfl))) (by intro _; rfl))) (by intro _; rfl)) (@g8 _ _ _ (@je _ _ _ _ (@jI _ _ _ _ _ _ _ _ _ _ _ _ _ _ _ rfl (CompOk.make (N' := ["worths", "land"]) (ix := [3]) (nl := 1) (by rfl) (fm1 rfl fm0) (by rfl) (by decide +kernel) rfl (by decide +kernel) rfl (And.intro ⟨rfl, .inl rfl, .inl rfl⟩ True.intro)) (@jC _ _ _ _ (@ja _ _ _ _ _ _ _ _ _ (nX rfl) ej M.m_sorted tK (@eo _ _ _ _ _ (@cg _ 3 _ _ rfl cf dI dJ) (@ff _) (ef rfl)) iB iA (ef rfl) iY)) (fun _ _ _ _ _ => (@i6 _ _ 1 _ (show List.Nodup (["worths", "land"] : List Str) from by decide) rfl (Or.inl rfl) (by first | exact .inl rfl | exact .inr rfl | assumption))) (fun _ _ _ _ _ => (@uv _ _ _ (@jl _ _ _ _ _ _ _ _ (@qA _) (@qj _ _ _ _ _ _ (jU hr) (@pv _ 0 _ _ (by rfl) (by first | exact Or.inl rfl | exact Or.inr (Or.inl rfl) | exact Or.inr (Or.inr rfl)) (by decide) (by decide)) (@pv _ 1 _ _ (by rfl) (by first | exact Or.inl rfl | exact Or.inr (Or.inl rfl) | exact Or.inr (Or.inr rfl)) (by decide) (by decide)) (fun _ _ => rfl)) (@eu _ _ _ _) (jj _)))) (fun _ _ _ _ _ => (@n6 _ _ _ _ _ (@eo _ _ _ _ _ (@pv _ 1 _ _ (by rfl) (by first | exact Or.inl rfl | exact Or.inr (Or.inl rfl) | exact Or.inr (Or.inr rfl)) (by decide) (by decide)) (@eo _ _ _ _ _ (@qj _ _ _ _ _ _ (jU hr) (@pv _ 0 _ _ (by rfl) (by first | exact Or.inl rfl | exact Or.inr (Or.inl rfl) | exact Or.inr (Or.inr rfl)) (by decide) (by decide)) (@pv _ 1 _ _ (by rfl) (by first | exact Or.inl rfl | exact Or.inr (Or.inl rfl) | exact Or.inr (Or.inr rfl)) (by decide) (by decide)) (fun _ _ => rfl)) (@ff _) (ef rfl)) (ef rfl)))) (by intro _; rfl)))))), ?_⟩
  trivial
  intro p hp
  obtain ⟨H1, g1, S1, D1⟩ : ∃ H1, H1 = upd H p (.dK []) ∧ Same H H1 ∧ H1 p = some (.dK []) := ⟨_, rfl, ia hp _, fz⟩
  rw [← g1]
  clear g1
  refine ⟨_, Same.tup S1 ga.tq, _, rfl, _, Same.tup S1 ga.tq, _, rfl, _, Same.tup S1 ga.tq, _, rfl, ?_⟩
  refine ⟨a, g.ip, gs, g.is, rfl, S1.seq L, fun g m => (at_ g m).same S1, SqT.of (S1 _ _ ga.ti), il, (fun i m => by have := iin i m; omega), fun H2 S2 => ?_⟩
  refine ⟨_, rfl, _, rfl, S2 _ _ D1, [(.inr (txt g.cs), .int (g.pr - sumP gs g.is))], rfl, (by show 1 ≤ 15; decide), ?_⟩
  have e0 : kF [] [((Sum.inr (txt g.cs) : Key), V.int (g.pr - sumP gs g.is))] = Tb.toK (lu gs g) := rfl
  rw [e0]
  obtain ⟨H3, g3, D3⟩ : ∃ H3, H3 = upd H2 p (.dK (Tb.toK (lu gs g))) ∧ H3 p = some (.dK (Tb.toK (lu gs g))) := ⟨_, rfl, fz⟩
  have S03 : Same H H3 := by rw [g3]; exact i0 (S1.trans S2) hp _
  rw [← g3]
  clear g3 e0 S1 S2 D1
  have gland : txt g.cs ∈ lands gs := List.mem_map.mpr ⟨g, gm, rfl⟩
  have d0 : DOk gs (lu gs g) := ⟨List.nodup_cons.mpr ⟨List.not_mem_nil, List.nodup_nil⟩, (fun p m => by rw [List.mem_singleton.mp m]; show 0 ≤ g.pr - sumP gs g.is; omega), fun s m => by rw [List.mem_singleton.mp m]; exact gland⟩
  have dAt : ∀ i, DOk gs (Tb.adAll (lu gs g) (ins Ts (g.is.take i))) := fun i => d0.all (jQ TA.good _).1 (jQ TA.good _).2
  refine ⟨_, Same.tup S03 ga.tq, _, rfl, g.ip, rfl, ⟨_, SqT.of (S03 _ _ ga.ti)⟩, ?_⟩
  obtain ⟨Pv, hP⟩ : ∃ Pv : Nat → St → Hp → Prop, Pv = fun i σ H' => ∃ y4 y5 y6 : Option V, H' p = some (.dK (Tb.toK (Tb.adAll (lu gs g) (ins Ts (g.is.take i))))) ∧ Same H H' ∧ σ = [some (V.ref a), some (V.ref tb), some (V.ref g.q), some (V.ref p), y4, y5, y6] := ⟨_, rfl⟩
  refine n9 (g.is.map V.int) Pv ?_ (fun i σ H' _ h => by rw [hP] at h; obtain ⟨_, _, _, _, e, _⟩ := h; exact SqT.of (e _ _ ga.ti)) ?_ ?_
  · rw [hP]
    exact ⟨_, _, _, D3, S03, rfl⟩
  · intro i x σ H' hx h
    rw [hP] at h
    obtain ⟨y4, y5, y6, dP, e, rfl⟩ := h
    rw [List.getElem?_map] at hx
    obtain ⟨j, hj, rfl⟩ := Option.map_eq_some_iff.mp hx
    have ji := iin j (List.mem_of_getElem? hj)
    obtain ⟨jn, rfl⟩ : ∃ jn : Nat, j = jn := ⟨j.toNat, by omega⟩
    have et : ts[jn]? = some (ts[jn]'(by omega)) := List.getElem?_eq_getElem _
    have eT : Ts[jn]? = some (Ts[jn]'(by rw [← TA.len]; omega)) := List.getElem?_eq_getElem _
    obtain ⟨t, ht⟩ : ∃ t, ts[jn]? = some t := ⟨_, et⟩
    obtain ⟨T, hT⟩ : ∃ T, Ts[jn]? = some T := ⟨_, eT⟩
    clear et eT
    obtain ⟨ps, tl1, tp⟩ := TA.at_ jn t T ht hT
    have gT := TA.good T (List.mem_of_getElem? hT)
    trivial
    refine ⟨_, SqL.of (e _ _ TB), _, jr (by rw [List.getElem?_map, ht]; rfl), t, rfl, ⟨_, SqL.of (e _ _ tl1)⟩, ?_⟩
    obtain ⟨d, hd⟩ : ∃ d, d = Tb.adAll (lu gs g) (ins Ts (g.is.take i)) := ⟨_, rfl⟩
    have dk := dAt i
    rw [← hd] at dP dk
    obtain ⟨Pw, hW⟩ : ∃ Pw : Nat → St → Hp → Prop, Pw = fun k σ H2 => ∃ y5 y6 : Option V, H2 p = some (.dK (Tb.toK (Tb.adAll d (T.take k)))) ∧ Same H H2 ∧ σ = [some (V.ref a), some (V.ref tb), some (V.ref g.q), some (V.ref p), some (V.int jn), y5, y6] := ⟨_, rfl⟩
    refine ko (ps.map V.ref) Pw ?_ (fun k σ H2 _ h => by rw [hW] at h; obtain ⟨_, _, _, e2, _⟩ := h; exact SqL.of (e2 _ _ tl1)) ?_ ?_
    · rw [hW]
      exact ⟨_, _, dP, e, rfl⟩
    · intro k x σ H2 hx h
      rw [hW] at h
      obtain ⟨y5, y6, dQ, e2, rfl⟩ := h
      obtain ⟨pp, qq, rfl, hp1, hq, hpp⟩ := tp.at hx
      trivial
      have dk2 : DOk gs (Tb.adAll d (T.take k)) := dk.all (fun p m => gT.pos p (List.mem_of_mem_take m)) (fun s m => by
        obtain ⟨p, hp, rfl⟩ := List.mem_map.mp m
        exact gT.sub _ (List.mem_map.mpr ⟨p, List.mem_of_mem_take hp, rfl⟩))
      have l2 := dk2.len
      refine ⟨_, SqT.of (e2 _ _ hpp), rfl, _, _, rfl, _, _, rfl, rfl, .inl ⟨_, .inl dQ⟩, _, DGet.k (k := .inr qq.1) dQ, _, Tb.val_getD, qq.2, rfl, _, DPut.k (k := .inr qq.1) dQ (by unfold Tb.toK; rw [List.length_map]; exact Nat.lt_of_le_of_lt (m := 24) (by omega) (by decide)), ?_⟩
      rw [hW]
      exact ⟨_, _, by rw [fz, Tb.put_ad dk2.nd, take_snoc hq, Tb.adAll_snoc], i0 e2 hp _, rfl⟩
    · intro σ H2 h
      rw [hW] at h
      obtain ⟨y5, y6, dQ, e2, rfl⟩ := h
      rw [List.length_map, tp.length, List.take_length, hd] at dQ
      show Pv (i + 1) _ _
      rw [hP]
      refine ⟨_, _, _, ?_, e2, rfl⟩
      rw [take_snoc hj, om, Int.toNat_natCast, hT, Tb.adAll_app]
      exact dQ
  · intro σ H' h
    rw [hP] at h
    obtain ⟨y4, y5, y6, dP, e, rfl⟩ := h
    rw [List.length_map, List.take_length] at dP
    have dk := dAt g.is.length
    rw [List.take_length] at dk
    obtain ⟨d, hd⟩ : ∃ d, d = dOf gs Ts g := ⟨_, rfl⟩
    have dP' : H' p = some (.dK (Tb.toK d)) := by rw [hd]; exact dP
    have dk' : DOk gs d := by rw [hd]; exact dk
    have ld := dk'.len
    trivial
    refine ⟨_, .inl dP', Tb.ks d, by unfold Tb.toK Tb.ks; rw [List.map_map, List.map_map]; rfl, by unfold Tb.ks; rw [List.length_map]; omega, fun l ss' hl pm so => ?_⟩
    obtain ⟨H4, g4, S4, L4⟩ := jR (K := K) hl (ss'.map V.str)
    rw [← g4]
    clear g4
    refine ⟨⟨_, L4⟩, fun D hD => ?_⟩
    have lss : ss'.length ≤ 24 := by
      have := pm.length_eq
      unfold Tb.ks at this
      rw [List.length_map] at this
      omega
    obtain ⟨Pc, hC⟩ : ∃ Pc : Nat → St → Hp → Prop, Pc = fun i τ H5 => ∃ (z : Option V) (ps : List Addr), H5 D = some (.lst (ps.map V.ref)) ∧ PrR H5 ps (Tb.rowsOf (ss'.take i) d) ∧ ps.length ≤ i ∧ Same H4 H5 ∧ τ = [some (.ref p), z] := ⟨_, rfl⟩
    refine jL (ss'.map V.str) Pc ?_ (fun i τ H5 _ h => by rw [hC] at h; obtain ⟨_, _, _, _, _, e5, _⟩ := h; exact e5.seq L4) ?_ ?_
    · rw [hC]
      exact ⟨_, [], fz, .nil, Nat.le_refl _, ia hD _, rfl⟩
    · intro i x τ H5 R hx h next
      rw [hC] at h
      obtain ⟨z, ps, d1, d2, d3, d4, rfl⟩ := h
      rw [List.getElem?_map] at hx
      obtain ⟨y, hy, rfl⟩ := Option.map_eq_some_iff.mp hx
      have li := (List.getElem?_eq_some_iff.mp hy).1
      trivial
      have hyk : y ∈ Tb.ks d := pm.mem_iff.mp (List.mem_of_getElem? hy)
      have dg : DGet H5 p (.str y) (some (.int (Tb.gt d y))) := by
        rw [← Tb.val_in hyk]
        exact DGet.k (k := .inr y) (d4 _ _ (S4 _ _ dP'))
      refine ⟨_, dg, _, rfl, ?_⟩
      have stp : Tb.rowsOf (ss'.take (i + 1)) d = Tb.rowsOf (ss'.take i) d ++ (if 0 < Tb.gt d y then [(y, Tb.gt d y)] else []) := by
        rw [take_snoc hy]
        unfold Tb.rowsOf
        rw [List.filter_append, List.map_append]
        by_cases h0 : 0 < Tb.gt d y
        · simp [h0]
        · simp [h0]
      by_cases h0 : 0 < Tb.gt d y
      · rw [if_pos h0]
        refine ⟨_, dg, by decide, fun p1 hp1 => ?_⟩
        obtain ⟨H6, g6, S6, T6⟩ : ∃ H6, H6 = upd H5 p1 (.tup [.str y, .int (Tb.gt d y)]) ∧ Same H5 H6 ∧ H6 p1 = some (.tup [.str y, .int (Tb.gt d y)]) := ⟨_, rfl, ia hp1 _, fz⟩
        rw [← g6]
        clear g6
        refine ⟨_, S6 _ _ d1, by rw [List.length_map]; exact Nat.lt_of_le_of_lt d3 (Nat.lt_of_lt_of_le (m := 64) (by omega) (by decide)), next _ _ ?_⟩
        rw [hC]
        exact ⟨_, ps ++ [p1], by rw [fz, List.map_append]; rfl, by rw [stp, if_pos h0]; exact ((d2.same S6).snoc T6).upd (S6 _ _ d1) (fun xs z => by cases z), by rw [List.length_append]; simp; omega, i0 (d4.trans S6) hD _, rfl⟩
      · rw [if_neg h0]
        exact next _ _ (by rw [hC]; exact ⟨_, ps, d1, by rw [stp, if_neg h0, List.append_nil]; exact d2, by omega, d4, rfl⟩)
    · intro τ H5 h
      rw [hC] at h
      obtain ⟨z, ps, d1, d2, d3, d4, rfl⟩ := h
      rw [List.length_map, List.take_length] at d2
      have hDn : H D = none := by
        cases eD : H D with
        | none => rfl
        | some o => rw [S4 _ _ (e _ _ eD)] at hD; cases hD
      exact q D _ H5 (e.trans (S4.trans d4)) hDn ⟨ps, d1, d2⟩ ⟨ss', by rw [← hd]; exact pm, so, by rw [← hd]⟩
def oN (gs : List Lt) (Ts : List Tb.Dc) : Prop := ∀ (i : Nat) (T : Tb.Dc), Ts[i]? = some T → ∃ g, gs[i]? = some g ∧ Tb.isTab (dOf gs (Ts.take i) g) T
def lV (K : PySem.W.Frag) : Sp := fun vs H Q _ => ∃ (a : Addr) (gs : List Lt), vs = [.ref a] ∧ SqL K H a (refs gs) ∧ (∀ g ∈ gs, LtAt K H g) ∧ Lots gs ∧ gs.length ≤ 24 ∧
  ∀ l ts Ts H', Same H H' → H l = none → H' l = some (.lst ((ts : List Addr).map V.ref)) → ts.length = gs.length → (∀ t ∈ ts, H t = none ∧ t ≠ l) → ts.Nodup → TabsAt H' gs ts Ts → oN gs Ts → Q (.ref l) H'
theorem oA (F : Fun K "worths_of" "worths_of" au f fd) (M : Mg mg) (cW : Cal P w K mg base CX0 "table_of" 2 ["lots", "tables", "lot"] (m9 K)) : FnOk P w K mg base CX0 3 f fd ["lots"] (lV K) := by
  refine F.ok cj (fun vs H Q E h => ?_) (fun cdv A outer s H vs Q E hr h => ?_)
  · obtain ⟨a, gs, rfl, _⟩ := h
    rfl
  obtain ⟨a, gs, rfl, L, at_, lo, g24, q⟩ := h
  refine ⟨_, (@ez _ _ _ _ _ (@iZ _ _ 1 _ _ _ _ cj.nd rfl fP (@jN _ _ _ _ (@ff _)) (ic rfl) (.inl rfl)) (@ez _ _ _ _ _ (@jO _ _ _ _ _ _ _ _ PassesOwn.never rfl (@jC _ _ _ _ (@cg _ 0 _ _ rfl df e8 fb)) (@i6 _ _ 2 _ cj.nd rfl fR (.inl rfl)) (@g8 _ _ _ (@jW _ _ _ _ (@kj _ _ _ _ _ _ _ _ _ _ _ _ PySem.F.plainAttrs_list PySem.F.slot_list_append PySem.F.type_list_append jH (@cg _ 1 _ _ rfl bV cv cw) (@eo _ _ _ _ _ (@jc _ _ _ _ _ _ _ _ _ _ _ cW hr cV (@eo _ _ _ _ _ (@cg _ 0 _ _ rfl df e8 fb) (@eo _ _ _ _ _ (@cg _ 1 _ _ rfl bV cv cw) (@eo _ _ _ _ _ (@cg _ 2 _ _ rfl fQ dE dG) (@ff _) (ef rfl)) (ef rfl)) (ef rfl)) (by decide) gP (ef rfl) (jf rfl (jf rfl iY))) (@ff _) (ef rfl)) (by rfl) (by rfl) (by rfl) (by rfl) (by rfl)) (ic rfl))) (by intro _; rfl)) (@g8 _ _ _ (@je _ _ _ _ (@cg _ 1 _ _ rfl bV cv cw))))), ?_⟩
  trivial
  refine ⟨by decide, fun p hp => ?_⟩
  obtain ⟨H1, g1, S1, L1⟩ : ∃ H1, H1 = upd H p (.lst []) ∧ Same H H1 ∧ H1 p = some (.lst []) := ⟨_, rfl, ia hp _, fz⟩
  rw [← g1]
  clear g1
  refine ⟨⟨_, S1.seq L⟩, ?_⟩
  obtain ⟨Pv, hP⟩ : ∃ Pv : Nat → St → Hp → Prop, Pv = fun i σ H' => ∃ (y : Option V) (ts : List Addr) (Ts : List Tb.Dc), H' p = some (.lst (ts.map V.ref)) ∧ ts.length = i ∧ (∀ t ∈ ts, H t = none ∧ t ≠ p) ∧ ts.Nodup ∧ TabsAt H' gs ts Ts ∧ oN gs Ts ∧ Same H H' ∧ σ = [some (V.ref a), some (V.ref p), y] := ⟨_, rfl⟩
  refine ko (refs gs) Pv ?_ (fun i σ H' _ h => by rw [hP] at h; obtain ⟨_, _, _, _, _, _, _, _, _, e, _⟩ := h; exact e.seq L) ?_ ?_
  · rw [hP]
    exact ⟨_, [], [], L1, rfl, (fun t m => by cases m), List.nodup_nil, ⟨rfl, (fun j t T h => by cases h), fun T m => by cases m⟩, (fun i T h => by cases h), S1, rfl⟩
  · intro i x σ H' hx h
    rw [hP] at h
    obtain ⟨y, ts, Ts, TB, lt, tf, tn, TA, TT, e, rfl⟩ := h
    obtain ⟨g, hg, rfl⟩ := uK hx
    have li := (List.getElem?_eq_some_iff.mp hg).1
    have gm := List.mem_of_getElem? hg
    obtain ⟨sp, iin, il⟩ := Lots.own lo hg
    trivial
    refine ⟨.inl ⟨rfl, _, SqL.of TB⟩, a, p, gs, g, ts, Ts, rfl, e.seq L, fun g m => (at_ g m).same e, (at_ g gm).same e, gm, g24, il, (fun j m => by have := iin j m; omega), by omega, sp, TB, TA, fun l T H2 S2 hl TR it => ?_⟩
    have TB2 := S2 _ _ TB
    have hlp : l ≠ p := fun z => by rw [z, TB] at hl; cases hl
    have hlH : H l = none := by
      cases eD : H l with
      | none => rfl
      | some o => rw [e _ _ eD] at hl; cases hl
    have lTs := TA.len
    have there : ∀ t ∈ ts, t ≠ l := fun t m z => by
      obtain ⟨j, hj⟩ := List.mem_iff_getElem?.mp m
      have lj := (List.getElem?_eq_some_iff.mp hj).1
      obtain ⟨ps, h1, _⟩ := TA.at_ j t _ hj (List.getElem?_eq_getElem (by omega))
      rw [z, hl] at h1
      cases h1
    have nt : ∀ (xs : List V), HO.lst (ts.map V.ref) ≠ .tup xs := fun xs z => by cases z
    refine ⟨_, TB2, by rw [List.length_map]; exact Nat.lt_of_lt_of_le (m := 64) (by omega) (by decide), ?_⟩
    rw [hP]
    refine ⟨_, ts ++ [l], Ts ++ [T], by rw [fz, List.map_append]; rfl, by rw [List.length_append, lt]; rfl, fun t m => ?_, ?_, ⟨by rw [List.length_append, List.length_append, lTs]; rfl, fun j t T' h1 h2 => ?_, fun T' m => ?_⟩, fun j T' h => ?_, i0 (e.trans S2) hp _, rfl⟩
    · rcases List.mem_append.mp m with m | m
      · exact tf t m
      · rw [List.mem_singleton.mp m]; exact ⟨hlH, hlp⟩
    · rw [List.nodup_append]
      exact ⟨tn, List.nodup_cons.mpr ⟨List.not_mem_nil, List.nodup_nil⟩, fun t m b mb => by rw [List.mem_singleton.mp mb]; exact there t m⟩
    · rcases jV h1 with ⟨l1, h1⟩ | ⟨l1, rfl⟩
      · rcases jV h2 with ⟨_, h2⟩ | ⟨l2, _⟩
        · exact ((TA.at_ j t T' h1 h2).same S2).upd (tf t (List.mem_of_getElem? h1)).2 TB2 nt
        · omega
      · rcases jV h2 with ⟨l2, _⟩ | ⟨_, rfl⟩
        · omega
        · exact TR.upd hlp TB2 nt
    · rcases List.mem_append.mp m with m | m
      · exact TA.good T' m
      · rw [List.mem_singleton.mp m]; exact tH (oQ gm sp TA.good) it
    · rcases jV h with ⟨l1, h⟩ | ⟨l1, rfl⟩
      · obtain ⟨g', h1, h2⟩ := TT j T' h
        refine ⟨g', h1, ?_⟩
        rw [List.take_append_of_le_length (by omega)]
        exact h2
      · refine ⟨g, by rw [l1, ← lTs, lt]; exact hg, ?_⟩
        rw [l1, List.take_append_of_le_length (Nat.le_refl _), List.take_length]
        exact it
  · intro σ H' h
    rw [hP] at h
    obtain ⟨y, ts, Ts, TB, lt, tf, tn, TA, TT, e, rfl⟩ := h
    rw [jF] at lt
    trivial
    exact q p ts Ts H' e hp TB lt tf tn TA TT
end

theorem lS {Ts : List Tb.Dc} {i : Nat} : ∀ {is : List Int}, (∀ j ∈ is, 0 ≤ j ∧ j < (i : Int)) → ins (Ts.take i) is = ins Ts is
  | [], _ => rfl
  | j :: is, h => by
    have h1 := h j List.mem_cons_self
    have ih := lS (Ts := Ts) (is := is) fun k m => h k (List.mem_cons_of_mem _ m)
    unfold ins at ih ⊢
    rw [List.flatMap_cons, List.flatMap_cons, ih, List.getElem?_take_of_lt (by omega)]
theorem sd (a b : Tb.Dc) : Tb.sm (a ++ b) = Tb.sm a + Tb.sm b := by
  unfold Tb.sm
  rw [List.map_append, List.sum_append]
theorem uD {gs : List Lt} {Ts : List Tb.Dc} (lo : Lots gs) (TT : oN gs Ts) (good : ∀ T ∈ Ts, GoodT gs T) : ∀ (i : Nat) (T : Tb.Dc) (g : Lt), Ts[i]? = some T → gs[i]? = some g → Tb.sm T = g.pr := by
  intro i
  induction i using Nat.strongRecOn with
  | ind i ih =>
    intro T g hT hg
    obtain ⟨g', hg', it⟩ := TT i T hT
    rw [hg] at hg'
    injection hg' with hg'
    subst hg'
    obtain ⟨sp, iin, il⟩ := Lots.own lo hg
    have dk : DOk gs (dOf gs (Ts.take i) g) := oQ (List.mem_of_getElem? hg) sp fun T m => good T (List.mem_of_mem_take m)
    rw [Tb.tab_sm dk.nd dk.nn it]
    unfold dOf
    rw [Tb.sm_all, lS iin]
    have lT := (List.getElem?_eq_some_iff.mp hT).1
    have lg := (List.getElem?_eq_some_iff.mp hg).1
    have : ∀ is : List Int, (∀ j ∈ is, 0 ≤ j ∧ j < (i : Int)) → Tb.sm (ins Ts is) = sumP gs is := by
      intro is
      induction is with
      | nil => intro _; rfl
      | cons j is ihs =>
        intro h
        have h1 := h j List.mem_cons_self
        obtain ⟨jn, rfl⟩ : ∃ jn : Nat, j = jn := ⟨j.toNat, by omega⟩
        have eT : Ts[jn]? = some (Ts[jn]'(by omega)) := List.getElem?_eq_getElem _
        have eg : gs[jn]? = some (gs[jn]'(by omega)) := List.getElem?_eq_getElem _
        have e1 := ih jn (by omega) _ _ eT eg
        have e2 := ihs fun k m => h k (List.mem_cons_of_mem _ m)
        unfold ins sumP at e2 ⊢
        rw [List.flatMap_cons, sd, e2, List.map_cons, List.sum_cons, Int.toNat_natCast, eT]
        unfold jt
        rw [Int.toNat_natCast, eg]
        show Tb.sm Ts[jn] + _ = gs[jn].pr + _
        rw [e1]
    rw [this _ iin]
    show (g.pr - sumP gs g.is + 0) + _ = _
    omega
theorem r6 {gs : List Lt} {Ts Ts' : List Tb.Dc} (h : oN gs Ts) (h' : oN gs Ts') (l : Ts.length = Ts'.length) : Ts = Ts' := by
  have : ∀ i, i ≤ Ts.length → Ts.take i = Ts'.take i := by
    intro i
    induction i with
    | zero => intro _; rfl
    | succ i ih =>
      intro hi
      have e1 : Ts[i]? = some (Ts[i]'(by omega)) := List.getElem?_eq_getElem _
      have e2 : Ts'[i]? = some (Ts'[i]'(by omega)) := List.getElem?_eq_getElem _
      obtain ⟨g, hg, it⟩ := h i _ e1
      obtain ⟨g', hg', it'⟩ := h' i _ e2
      rw [hg] at hg'
      injection hg' with hg'
      subst hg'
      rw [ih (by omega)] at it
      rw [take_snoc e1, take_snoc e2, ih (by omega), Tb.tab_uniq it it']
  have := this Ts.length (Nat.le_refl _)
  rwa [List.take_length, l, List.take_length] at this
theorem sN {gs : List Lt} (lo : Lots gs) {s : Str} (h : s ∈ lands gs) : decide (([] : List Nat) < s.cps.toList) = true := by
  obtain ⟨g, m, rfl⟩ := List.mem_map.mp h
  obtain ⟨i, hi⟩ := List.mem_iff_getElem?.mp m
  have := (mJ (lo i g hi).name).1.1
  show decide (([] : List Nat) < g.cs) = true
  cases e : g.cs with
  | nil => rw [e] at this; simp at this
  | cons a b => exact decide_eq_true (List.nil_lt_cons _ _)
def rj (K : PySem.W.Frag) : Sp := fun vs H Q _ => ∃ (fl a : Addr) (k : Nat) (gs : List Lt) (g : Lt) (ts : List Addr) (Ts : List Tb.Dc), vs = [.ref fl, .ref a, .int (k : Int)] ∧ SqL K H a (refs gs) ∧ (∀ g ∈ gs, LtAt K H g) ∧ Lots gs ∧ gs.length ≤ 24 ∧ gs[k]? = some g ∧ H fl = some (.lst (ts.map V.ref)) ∧ ts.length = gs.length ∧ TabsAt H gs ts Ts ∧
  ∀ l e H', Same H H' → H l = none → H' l = some (.dK (Tb.toK e)) → (Tb.ks e).Nodup → (∀ p ∈ e, 1 ≤ p.2) → (∀ s, Tb.gt e s = Tb.gt (dOf gs Ts g) s) → Q (.ref l) H'
def rg (K : PySem.W.Frag) : Sp := fun vs H Q _ => ∃ (t dl : Addr) (pr : Int) (T e : Tb.Dc), vs = [.ref t, .int pr, .ref dl] ∧ TabR H t T ∧ H dl = some (.dK (Tb.toK e)) ∧ T.length ≤ 24 ∧ (Tb.ks T).Nodup ∧ (∀ p ∈ T, 1 ≤ p.2) ∧ (Tb.ks T).Pairwise (fun a b => decide (a.cps.toList < b.cps.toList) = true) ∧ (∀ s ∈ Tb.ks T, decide (([] : List Nat) < s.cps.toList) = true) ∧ Tb.sm T = pr ∧ (Tb.toK T).length = (Tb.toK e).length ∧ (∀ k v, (k, v) ∈ Tb.toK T → ∃ i : Int, v = .int i ∧ jz (Tb.toK e) k = some (.int i)) ∧ ∀ H', Same H H' → Q (.bl true) H'
section
variable {P : Program} {w : World} {K : PySem.W.Frag} {mg : Str → Option Value} {base : Heap} {f : Addr} {fd : FuncData}
theorem qu (F : Fun K "_law_due" "_law_due" af f fd) (M : Mg mg) : FnOk P w K mg base CX0 1 f fd ["_law_found", "_law_lots_here", "_law_k"] (rj K) := by
  refine F.ok aC (fun vs H Q E h => ?_) (fun cdv A outer s H vs Q E hr h => ?_)
  · obtain ⟨fl, a, k, gs, g, ts, Ts, rfl, _⟩ := h
    rfl
  obtain ⟨fl, a, k, gs, g, ts, Ts, rfl, L, at_, lo, g24, hg, TB, lt, TA, q⟩ := h
  refine ⟨_, (@ez _ _ _ _ _ (@rE _ _ _ _ _ _ (@i7 _ _ _ _ _ _ _ (@jg _) (@cg _ 1 _ _ rfl eE ag ai) (@cg _ 2 _ _ rfl hU aN aO) (fun _ _ => rfl)) (@oq _ _ _ _ _ _ rfl (@jG _ _ _ _ _ (@i6 _ _ 3 _ aC.nd rfl hV (.inl rfl)) (@jG _ _ _ _ _ (@i6 _ _ 4 _ aC.nd rfl hX (.inl rfl)) (@jG _ _ _ _ _ (@i6 _ _ 5 _ aC.nd rfl h8 (.inl rfl)) (@jG _ _ _ _ _ (@i6 _ _ 6 _ aC.nd rfl ig (.inl rfl)) (@m6 _) (by rfl)) (by rfl)) (by rfl)) (by rfl)) (by rfl) (by rfl)) (by rfl) (by rfl) (by rfl)) (@ez _ _ _ _ _ (@iZ _ _ 7 _ _ _ _ aC.nd rfl ii (@tV _ _) (ic rfl) (.inl rfl)) (@ez _ _ _ _ _ (@iZ _ _ 8 _ _ _ _ aC.nd rfl eG (@cg _ 5 _ _ rfl h7 bS bT) (ic rfl) (.inl rfl)) (@ez _ _ _ _ _ (@jO _ _ _ _ _ _ _ _ PassesOwn.never rfl (@oR _ _ _ _ (@cg _ 6 _ _ rfl ie aG aH)) (@i6 _ _ 9 _ aC.nd rfl ij (.inl rfl)) (@ez _ _ _ _ _ (@iZ _ _ 8 _ _ _ _ aC.nd rfl eG (@g5 _ _ _ _ _ _ _ _ (@kL _) (@cg _ 8 _ _ rfl cG bd bf) (@i7 _ _ _ _ _ _ _ (@jx _) (@i7 _ _ _ _ _ _ _ (@jg _) (@cg _ 1 _ _ rfl eE ag ai) (@cg _ 9 _ _ rfl eI aZ ba) (fun _ _ => rfl)) (@eu _ _ _ _) (fun _ _ => rfl))) (ic rfl) (.inl rfl)) (@g8 _ _ _ (@jO _ _ _ _ _ _ _ _ PassesOwn.never rfl (@jC _ _ _ _ (@i7 _ _ _ _ _ _ _ (@jg _) (@cg _ 0 _ _ rfl hJ aD aE) (@cg _ 9 _ _ rfl eI aZ ba) (fun _ _ => rfl))) (@oq _ _ _ _ _ _ rfl (@jG _ _ _ _ _ (@i6 _ _ 10 _ aC.nd rfl gM (.inl rfl)) (@jG _ _ _ _ _ (@i6 _ _ 11 _ aC.nd rfl gO (.inl rfl)) (@m6 _) (by rfl)) (by rfl)) (by rfl) (by rfl)) (@g8 _ _ _ (@ni _ _ _ _ _ _ _ _ _ (jU hr) (@cg _ 7 _ _ rfl bw aI aJ) (@cg _ 10 _ _ rfl d7 dc de) (@g5 _ _ _ _ _ _ _ _ (@jo _) (@lP _ _ _ _ _ _ _ _ _ (jU hr) (@cg _ 7 _ _ rfl bw aI aJ) (@cg _ 10 _ _ rfl d7 dc de) (@eu _ _ _ _) ⟨rfl, rfl, rfl, rfl⟩) (@cg _ 11 _ _ rfl gN fJ fK)) (ic rfl))) (by intro _; rfl)))) (by intro _; rfl)) (@ez _ _ _ _ _ (@jK _ _ _ _ _ _ _ _ (@jl _ _ _ _ _ _ _ _ (@qA _) (@cg _ 8 _ _ rfl cG bd bf) (@eu _ _ _ _) (jj _)) (@g8 _ _ _ (@ni _ _ _ _ _ _ _ _ _ (jU hr) (@cg _ 7 _ _ rfl bw aI aJ) (@cg _ 3 _ _ rfl eF dO dS) (@g5 _ _ _ _ _ _ _ _ (@jo _) (@lP _ _ _ _ _ _ _ _ _ (jU hr) (@cg _ 7 _ _ rfl bw aI aJ) (@cg _ 3 _ _ rfl eF dO dS) (@eu _ _ _ _) ⟨rfl, rfl, rfl, rfl⟩) (@cg _ 8 _ _ rfl cG bd bf)) (ic rfl))) (@jq _)) (@g8 _ _ _ (@je _ _ _ _ (@cg _ 7 _ _ rfl bw aI aJ)))))))), ?_⟩
  trivial
  have gm := List.mem_of_getElem? hg
  have ga := at_ g gm
  have lk := (List.getElem?_eq_some_iff.mp hg).1
  obtain ⟨sp, iin, il⟩ := Lots.own lo hg
  refine ⟨_, L, _, j6 hg, _, rfl, _, ga.tq, rfl, _, _, rfl, _, _, rfl, _, _, rfl, _, _, rfl, rfl, fun p hp => ?_⟩
  obtain ⟨H1, g1, S1, D1⟩ : ∃ H1, H1 = upd H p (.dK []) ∧ Same H H1 ∧ H1 p = some (.dK []) := ⟨_, rfl, ia hp _, fz⟩
  rw [← g1]
  clear g1
  refine ⟨g.ip, rfl, ⟨_, SqT.of (S1 _ _ ga.ti)⟩, ?_⟩
  have d0 : DOk gs [] := ⟨List.nodup_nil, (fun p m => by cases m), fun s m => by cases m⟩
  have dAt : ∀ i, DOk gs (Tb.adAll [] (ins Ts (g.is.take i))) := fun i => d0.all (jQ TA.good _).1 (jQ TA.good _).2
  obtain ⟨Pv, hP⟩ : ∃ Pv : Nat → St → Hp → Prop, Pv = fun i σ H' => ∃ y9 y10 y11 : Option V, H' p = some (.dK (Tb.toK (Tb.adAll [] (ins Ts (g.is.take i))))) ∧ Same H H' ∧ σ = [some (V.ref fl), some (V.ref a), some (V.int k), some (V.str (txt g.cs)), some (V.ref g.np), some (V.int g.pr), some (V.ref g.ip), some (V.ref p), some (V.int (g.pr - sumP gs (g.is.take i))), y9, y10, y11] := ⟨_, rfl⟩
  refine n9 (g.is.map V.int) Pv ?_ (fun i σ H' _ h => by rw [hP] at h; obtain ⟨_, _, _, _, e, _⟩ := h; exact SqT.of (e _ _ ga.ti)) ?_ ?_
  · rw [hP]
    exact ⟨_, _, _, D1, S1, by rw [show g.pr - sumP gs (g.is.take 0) = g.pr from Int.sub_zero _]⟩
  · intro i x σ H' hx h
    rw [hP] at h
    obtain ⟨y9, y10, y11, dP, e, rfl⟩ := h
    rw [List.getElem?_map] at hx
    obtain ⟨j, hj, rfl⟩ := Option.map_eq_some_iff.mp hx
    have ji := iin j (List.mem_of_getElem? hj)
    obtain ⟨jn, rfl⟩ : ∃ jn : Nat, j = jn := ⟨j.toNat, by omega⟩
    have lTs := TA.len
    obtain ⟨t, ht⟩ : ∃ t, ts[jn]? = some t := ⟨_, List.getElem?_eq_getElem (by omega)⟩
    obtain ⟨T, hT⟩ : ∃ T, Ts[jn]? = some T := ⟨_, List.getElem?_eq_getElem (by omega)⟩
    obtain ⟨g2, hg2⟩ : ∃ g2, gs[jn]? = some g2 := ⟨_, List.getElem?_eq_getElem (by omega)⟩
    obtain ⟨ps, tl1, tp⟩ := TA.at_ jn t T ht hT
    have gT := TA.good T (List.mem_of_getElem? hT)
    have ep : sumP gs (g.is.take (i + 1)) = sumP gs (g.is.take i) + g2.pr := by
      rw [take_snoc hj]
      unfold sumP
      rw [List.map_append, List.sum_append]
      show _ + (jt gs (jn : Int) + 0) = _
      unfold jt
      rw [Int.toNat_natCast, hg2]
      show _ + (g2.pr + 0) = _
      omega
    trivial
    refine ⟨_, e.seq L, _, j6 hg2, _, rfl, _, Same.tup e (at_ g2 (List.mem_of_getElem? hg2)).tq, _, rfl, _, rfl, ?_⟩
    refine ⟨_, SqL.of (e _ _ TB), _, jr (by rw [List.getElem?_map, ht]; rfl), t, rfl, ⟨_, SqL.of (e _ _ tl1)⟩, ?_⟩
    obtain ⟨d, hd⟩ : ∃ d, d = Tb.adAll [] (ins Ts (g.is.take i)) := ⟨_, rfl⟩
    have dk := dAt i
    rw [← hd] at dP dk
    obtain ⟨Pw, hW⟩ : ∃ Pw : Nat → St → Hp → Prop, Pw = fun m σ H2 => ∃ y10 y11 : Option V, H2 p = some (.dK (Tb.toK (Tb.adAll d (T.take m)))) ∧ Same H H2 ∧ σ = [some (V.ref fl), some (V.ref a), some (V.int k), some (V.str (txt g.cs)), some (V.ref g.np), some (V.int g.pr), some (V.ref g.ip), some (V.ref p), some (V.int (g.pr - sumP gs (g.is.take i) - g2.pr)), some (V.int jn), y10, y11] := ⟨_, rfl⟩
    refine ko (ps.map V.ref) Pw ?_ (fun m σ H2 _ h => by rw [hW] at h; obtain ⟨_, _, _, e2, _⟩ := h; exact SqL.of (e2 _ _ tl1)) ?_ ?_
    · rw [hW]
      exact ⟨_, _, dP, e, rfl⟩
    · intro m x σ H2 hx h
      rw [hW] at h
      obtain ⟨y10, y11, dQ, e2, rfl⟩ := h
      obtain ⟨pp, qq, rfl, hp1, hq, hpp⟩ := tp.at hx
      trivial
      have dk2 : DOk gs (Tb.adAll d (T.take m)) := dk.all (fun p m => gT.pos p (List.mem_of_mem_take m)) (fun s m => by
        obtain ⟨p, hp, rfl⟩ := List.mem_map.mp m
        exact gT.sub _ (List.mem_map.mpr ⟨p, List.mem_of_mem_take hp, rfl⟩))
      have l2 := dk2.len
      refine ⟨_, SqT.of (e2 _ _ hpp), rfl, _, _, rfl, _, _, rfl, rfl, .inl ⟨_, .inl dQ⟩, _, DGet.k (k := .inr qq.1) dQ, _, Tb.val_getD, qq.2, rfl, _, DPut.k (k := .inr qq.1) dQ (by unfold Tb.toK; rw [List.length_map]; exact Nat.lt_of_le_of_lt (m := 24) (by omega) (by decide)), ?_⟩
      rw [hW]
      exact ⟨_, _, by rw [fz, Tb.put_ad dk2.nd, take_snoc hq, Tb.adAll_snoc], i0 e2 hp _, rfl⟩
    · intro σ H2 h
      rw [hW] at h
      obtain ⟨y10, y11, dQ, e2, rfl⟩ := h
      rw [List.length_map, tp.length, List.take_length, hd] at dQ
      show Pv (i + 1) _ _
      rw [hP]
      refine ⟨some (V.int jn), y10, y11, ?_, e2, ?_⟩
      · rw [take_snoc hj, om, Int.toNat_natCast, hT, Tb.adAll_app]
        exact dQ
      · rw [ep, show g.pr - (sumP gs (g.is.take i) + g2.pr) = g.pr - sumP gs (g.is.take i) - g2.pr by omega]
  · intro σ H' h
    rw [hP] at h
    obtain ⟨y9, y10, y11, dP, e, rfl⟩ := h
    rw [List.length_map, List.take_length] at dP
    rw [List.length_map, List.take_length]
    have dk := dAt g.is.length
    rw [List.take_length] at dk
    obtain ⟨d, hd⟩ : ∃ d, d = Tb.adAll [] (ins Ts g.is) := ⟨_, rfl⟩
    rw [← hd] at dP dk
    have dpos : ∀ p ∈ d, 1 ≤ p.2 := by
      rw [hd]
      exact Tb.pos_all (fun p m => by cases m) fun p m => by have := (jQ TA.good _).1 p m; omega
    have gtd : ∀ s, Tb.gt (dOf gs Ts g) s = (if s = txt g.cs then g.pr - sumP gs g.is else 0) + Tb.gt d s := fun s => by
      unfold dOf
      rw [Tb.gt_all, hd, Tb.gt_all]
      show (if txt g.cs = s then _ else (0 : Int)) + _ = _ + (0 + _)
      by_cases hs : s = txt g.cs
      · rw [if_pos hs.symm, if_pos hs]; omega
      · rw [if_neg (fun z => hs z.symm), if_neg hs]; omega
    have ld := dk.len
    trivial
    by_cases h0 : 0 < g.pr - sumP gs g.is
    · rw [if_pos h0]
      refine ⟨.inl ⟨_, .inl dP⟩, _, DGet.k (k := .inr (txt g.cs)) dP, _, Tb.val_getD, _, DPut.k (k := .inr (txt g.cs)) dP (by unfold Tb.toK; rw [List.length_map]; exact Nat.lt_of_le_of_lt (m := 24) (by omega) (by decide)), ?_⟩
      refine q p (Tb.ad d (txt g.cs) (g.pr - sumP gs g.is)) _ (i0 e hp _) hp (by rw [fz, Tb.put_ad dk.nd]) (Tb.nd_ad dk.nd) (Tb.pos_ad dpos (by omega) (by omega)) fun s => ?_
      rw [Tb.gt_ad, gtd]
      by_cases hs : s = txt g.cs
      · rw [if_pos hs, if_pos hs, hs]; omega
      · rw [if_neg hs, if_neg hs]; omega
    · rw [if_neg h0]
      refine q p d _ e hp dP dk.nd dpos fun s => ?_
      rw [gtd]
      split <;> omega
theorem oO (F : Fun K "_law_table" "_law_table" ae f fd) (M : Mg mg) (m_dict : mg "dict" = none) (cJ : Cal P w K mg base CX0 "_law_whole" 1 ["_law_thing"] lQ) : FnOk P w K mg base CX0 2 f fd ["_law_table_here", "_law_price", "_law_due_here"] (rg K) := by
  refine F.ok aX (fun vs H Q E h => ?_) (fun cdv A outer s H vs Q E hr h => ?_)
  · obtain ⟨t, dl, pr, T, e, rfl, _⟩ := h
    rfl
  obtain ⟨t, dl, pr, T, e, rfl, ⟨ps, tl, tp⟩, hd, l24, nd, pos, up, ne, sm, len, eqd, q⟩ := h
  refine ⟨_, (@ez _ _ _ _ _ (@jK _ _ _ _ _ _ _ _ (@kE _ _ _ _ (@kG _ _ _ (@ja _ _ _ _ _ _ _ _ _ jX aW M.m_isinstance jw (@eo _ _ _ _ _ (@cg _ 0 _ _ rfl bX bj bn) (@eo _ _ _ _ _ (@j7 _ _ (.ty "list") _ _ eO M.m_list mC rfl ei eh) (@ff _) (ef rfl)) (ef rfl)) aS aR (ef rfl) (jf rfl iY)) (lE rfl))) (@g8 _ _ _ (@je _ _ _ _ (@lZ _ _ _ _))) (@jq _)) (@ez _ _ _ _ _ (@iZ _ _ 3 _ _ _ _ aX.nd rfl dy (@eu _ _ _ _) (ic rfl) (.inl rfl)) (@ez _ _ _ _ _ (@iZ _ _ 4 _ _ _ _ aX.nd rfl dz (@lA _ _ _ _) (ic rfl) (.inl rfl)) (@ez _ _ _ _ _ (@jO _ _ _ _ _ _ _ _ PassesOwn.never rfl (@jC _ _ _ _ (@cg _ 0 _ _ rfl bX bj bn)) (@i6 _ _ 5 _ aX.nd rfl gk (.inl rfl)) (@ez _ _ _ _ _ (@jK _ _ _ _ _ _ _ _ (@PW.pt _ _ _ (@mO _ _ _ _ _ _ _ (@kE _ _ _ _ (@kG _ _ _ (@ja _ _ _ _ _ _ _ _ _ jX aW M.m_isinstance jw (@eo _ _ _ _ _ (@cg _ 5 _ _ rfl aF ax ay) (@eo _ _ _ _ _ (@j7 _ _ (.ty "tuple") _ _ eA M.m_tuple nh rfl eK eJ) (@ff _) (ef rfl)) (ef rfl)) aS aR (ef rfl) (jf rfl iY)) (lE rfl))) (@mO _ _ _ _ _ _ _ (@jl _ _ _ _ _ _ _ _ (@uf _) (@ja _ _ _ _ _ _ _ _ _ jk eX M.m_len j5 (@eo _ _ _ _ _ (@cg _ 5 _ _ rfl aF ax ay) (@ff _) (ef rfl)) bC bB (ef rfl) iY) (@eu _ _ _ _) (jj _)) (@mO _ _ _ _ _ _ _ (@kE _ _ _ _ (@kG _ _ _ (@ja _ _ _ _ _ _ _ _ _ jX aW M.m_isinstance jw (@eo _ _ _ _ _ (@i7 _ _ _ _ _ _ _ (@jx _) (@cg _ 5 _ _ rfl aF ax ay) (@eu _ _ _ _) (fun _ _ => rfl)) (@eo _ _ _ _ _ (@j7 _ _ (.ty "str") _ _ eY M.m_str vZ rfl iX iW) (@ff _) (ef rfl)) (ef rfl)) aS aR (ef rfl) (jf rfl iY)) (lE rfl))) (@oj _ _ _ _ (@kE _ _ _ _ (@kG _ _ _ (@jc _ _ _ _ _ _ _ _ _ _ _ cJ hr cH (@eo _ _ _ _ _ (@i7 _ _ _ _ _ _ _ (@jx _) (@cg _ 5 _ _ rfl aF ax ay) (@eu _ _ _ _) (fun _ _ => rfl)) (@ff _) (ef rfl)) (by decide) fN (ef rfl) iY) (lE rfl)))))))) (@g8 _ _ _ (@je _ _ _ _ (@lZ _ _ _ _))) (@jq _)) (@ez _ _ _ _ _ (@jK _ _ _ _ _ _ _ _ (@PW.pt _ _ _ (@mO _ _ _ _ _ _ _ (@jl _ _ _ _ _ _ _ _ vp (@i7 _ _ _ _ _ _ _ (@jx _) (@cg _ 5 _ _ rfl aF ax ay) (@eu _ _ _ _) (fun _ _ => rfl)) (@cg _ 4 _ _ rfl gj fL fM) (jj _)) (@oj _ _ _ _ (@jl _ _ _ _ _ _ _ _ (@rA _) (@i7 _ _ _ _ _ _ _ (@jx _) (@cg _ 5 _ _ rfl aF ax ay) (@eu _ _ _ _) (fun _ _ => rfl)) (@eu _ _ _ _) (jj _))))) (@g8 _ _ _ (@je _ _ _ _ (@lZ _ _ _ _))) (@jq _)) (@ez _ _ _ _ _ (@iZ _ _ 4 _ _ _ _ aX.nd rfl dz (@i7 _ _ _ _ _ _ _ (@jx _) (@cg _ 5 _ _ rfl aF ax ay) (@eu _ _ _ _) (fun _ _ => rfl)) (ic rfl) (.inl rfl)) (@g8 _ _ _ (@iZ _ _ 3 _ _ _ _ aX.nd rfl dy (@g5 _ _ _ _ _ _ _ _ (@jo _) (@cg _ 3 _ _ rfl dw bb bc) (@i7 _ _ _ _ _ _ _ (@jx _) (@cg _ 5 _ _ rfl aF ax ay) (@eu _ _ _ _) (fun _ _ => rfl))) (ic rfl) (.inl rfl)))))) (by intro _; rfl)) (@g8 _ _ _ (@je _ _ _ _ (@lY _ _ _ _ _ _ _ (@kH _ _ _ _ _ _ _ _ (@mR _) (@cg _ 3 _ _ rfl dw bb bc) (@cg _ 1 _ _ rfl gh bS bT) (jj _)) (@oF _ _ _ _ _ (@kH _ _ _ _ _ _ _ _ (uL (Nat.lt_of_succ_lt (jU hr))) (@j3 _ _ _ _ _ _ _ _ _ (qp rfl) eP m_dict vd (@eo _ _ _ _ _ (@cg _ 0 _ _ rfl bX bj bn) (@ff _) (ef rfl)) iL iK (ef rfl) iY) (@cg _ 2 _ _ rfl gi aI aJ) (jj _)))))))))), ?_⟩
  trivial
  refine ⟨.lst, .inl ⟨rfl, _, SqL.of tl⟩, ?_⟩
  rw [if_neg (by decide)]
  refine ⟨⟨_, SqL.of tl⟩, ?_⟩
  obtain ⟨Pv, hP⟩ : ∃ Pv : Nat → St → Hp → Prop, Pv = fun i σ H' => ∃ (y5 : Option V) (ah : Str), (∀ p ∈ T.drop i, decide (ah.cps.toList < p.1.cps.toList) = true) ∧ Same H H' ∧ σ = [some (V.ref t), some (V.int pr), some (V.ref dl), some (V.int (Tb.sm (T.take i))), some (V.str ah), y5] := ⟨_, rfl⟩
  refine ko (ps.map V.ref) Pv ?_ (fun i σ H' _ h => by rw [hP] at h; obtain ⟨_, _, _, e, _⟩ := h; exact SqL.of (e _ _ tl)) ?_ ?_
  · rw [hP]
    exact ⟨_, _, fun p m => ne _ (List.mem_map.mpr ⟨p, m, rfl⟩), Same.refl _, rfl⟩
  · intro i x σ H' hx h
    rw [hP] at h
    obtain ⟨y5, ah, ha, e2, rfl⟩ := h
    obtain ⟨pp, qq, rfl, hp1, hq, hpp⟩ := tp.at hx
    have T2 : SqT K H' pp [.str qq.1, .int qq.2] := SqT.of (e2 _ _ hpp)
    have li := (List.getElem?_eq_some_iff.mp hq).1
    have ed : T.drop i = qq :: T.drop (i + 1) := by
      rw [List.drop_eq_getElem_cons li]
      congr 1
      exact (List.getElem?_eq_some_iff.mp hq).2
    have hq1 := ha qq (by rw [ed]; exact List.mem_cons_self)
    have q1 := pos qq (List.mem_of_getElem? hq)
    trivial
    refine ⟨.tup, .inr (.inl ⟨rfl, _, T2⟩), ?_⟩
    rw [if_neg (by decide)]
    refine ⟨_, .inr T2, ?_⟩
    rw [if_pos (by rfl)]
    refine ⟨_, T2, _, rfl, .str, rfl, ?_⟩
    rw [if_neg (by decide)]
    refine ⟨_, T2, _, rfl, qq.2, rfl, _, rfl, ?_⟩
    rw [if_neg (by decide)]
    refine ⟨_, T2, _, rfl, _, rfl, ?_⟩
    rw [if_pos (of_decide_eq_true hq1)]
    refine ⟨_, T2, _, rfl, _, rfl, ?_⟩
    rw [if_neg (by omega)]
    refine ⟨_, T2, _, rfl, _, T2, _, rfl, _, rfl, ?_⟩
    rw [hP]
    refine ⟨_, qq.1, fun p m => ?_, e2, by rw [take_snoc hq, sd]; show _ = [_, _, _, some (V.int (_ + (qq.2 + 0))), _, _]; rw [Int.add_zero]⟩
    have up2 : (Tb.ks (T.drop i)).Pairwise (fun a b => decide (a.cps.toList < b.cps.toList) = true) := by
      unfold Tb.ks at up ⊢
      rw [List.map_drop]
      exact up.drop
    rw [ed] at up2
    exact (List.pairwise_cons.mp up2).1 _ (List.mem_map.mpr ⟨p, m, rfl⟩)
  · intro σ H' h
    rw [hP] at h
    obtain ⟨y5, ah, ha, e2, rfl⟩ := h
    rw [List.length_map, tp.length, List.take_length, sm]
    trivial
    refine ⟨ps, SqL.of (e2 _ _ tl), Tb.toK T, by rw [tp.length]; unfold Tb.toK; rw [List.length_map], fun j a kv h1 h2 => ?_, fun d hd2 => ?_⟩
    · obtain ⟨pp, qq, h3, h4, hq, hpp⟩ := tp.at (i := j) (x := .ref a) (by rw [List.getElem?_map, h1]; rfl)
      injection h3 with h3
      subst h3
      unfold Tb.toK at h2
      rw [List.getElem?_map, hq] at h2
      injection h2 with h2
      subst h2
      exact SqT.of (e2 _ _ hpp)
    · rw [Tb.dictP_rows nd]
      have hdl : dl ≠ d := fun z => by rw [← z, e2 _ _ hd] at hd2; cases hd2
      exact ⟨d, dl, Tb.toK T, Tb.toK e, rfl, rfl, .inl fz, .inl (by rw [i9 hdl]; exact e2 _ _ hd), len, eqd, q _ (e2.trans (ia hd2 _))⟩
end

def ly (p : Str × Int) : PyData := .tuple [.str p.1, .int p.2]
def kB (T : Tb.Dc) : PyData := .list (T.map ly)
theorem uA {K : PySem.W.Frag} {H : Hp} {ps : List Addr} {r : Tb.Dc} (h : PrR H ps r) : RepAll K H (ps.map V.ref) (r.map ly) := by
  induction h with
  | nil => exact .nil
  | cons a _ ih => exact .cons (.tup (SqT.of a) (.cons (.str _) (.cons (.int _) .nil))) ih
theorem tQ {K : PySem.W.Frag} {H : Hp} {l : Addr} {T : Tb.Dc} (h : TabR H l T) : Rep K H (.ref l) (kB T) :=
  let ⟨_, a, b⟩ := h; .lst (SqL.of a) (uA b)
theorem lM {K : PySem.W.Frag} {H : Hp} : ∀ {ts : List Addr} {Ts : List Tb.Dc}, ts.length = Ts.length → (∀ (j : Nat) (t : Addr) (T : Tb.Dc), ts[j]? = some t → Ts[j]? = some T → TabR H t T) → RepAll K H (ts.map V.ref) (Ts.map kB)
  | [], [], _, _ => .nil
  | [], _ :: _, l, _ => by cases l
  | _ :: _, [], l, _ => by cases l
  | t :: ts, T :: Ts, l, h => .cons (tQ (h 0 t T rfl rfl)) (lM (Nat.succ.inj l) fun j t T a b => h (j + 1) t T a b)
theorem tE {gs : List Lt} (lo : Lots gs) {s : Str} (h : s ∈ lands gs) : PyData.canLay0 (.str s) = true := by
  obtain ⟨g, m, rfl⟩ := List.mem_map.mp h
  obtain ⟨i, hi⟩ := List.mem_iff_getElem?.mp m
  have a := (mJ (lo i g hi).name).2
  show (txt g.cs).cps.all (· < 0x110000) = true
  rw [List.all_toArray, List.all_eq_true]
  intro c hc
  have := List.all_eq_true.mp a c hc
  unfold nQ at this
  rw [Bool.and_eq_true, decide_eq_true_iff, decide_eq_true_iff] at this
  exact decide_eq_true (by omega)
theorem oB {gs : List Lt} (lo : Lots gs) : ∀ {T : Tb.Dc}, (∀ s ∈ Tb.ks T, s ∈ lands gs) → PyData.canLayAll0 (T.map ly) = true ∧ PyData.depthAll (T.map ly) ≤ 1
  | [], _ => ⟨rfl, Nat.zero_le _⟩
  | p :: T, h => by
    obtain ⟨a, b⟩ := oB lo (T := T) fun s m => h s (List.mem_cons_of_mem _ m)
    have c := tE lo (h p.1 List.mem_cons_self)
    refine ⟨?_, ?_⟩
    · show ((PyData.canLay0 (.str p.1) && true) && PyData.canLayAll0 (T.map ly)) = true
      rw [a, c]
      rfl
    · show max (max 0 (max 0 0) + 1) (PyData.depthAll (T.map ly)) ≤ 1
      omega
theorem nB {gs : List Lt} (lo : Lots gs) : ∀ {Ts : List Tb.Dc}, (∀ T ∈ Ts, GoodT gs T) → PyData.canLayAll0 (Ts.map kB) = true ∧ PyData.depthAll (Ts.map kB) ≤ 2
  | [], _ => ⟨rfl, Nat.zero_le _⟩
  | T :: Ts, h => by
    obtain ⟨a, b⟩ := nB lo (Ts := Ts) fun s m => h s (List.mem_cons_of_mem _ m)
    obtain ⟨c, d⟩ := oB lo (h T List.mem_cons_self).sub
    refine ⟨?_, ?_⟩
    · show (PyData.canLayAll0 (T.map ly) && PyData.canLayAll0 (Ts.map kB)) = true
      rw [a, c]
      rfl
    · show max (PyData.depthAll (T.map ly) + 1) (PyData.depthAll (Ts.map kB)) ≤ 2
      omega
section
variable {P : Program} {w : World} {K : PySem.W.Frag} {mg : Str → Option Value} {base : Heap} {f : Addr} {fd : FuncData}
theorem ve (F : Fun K "law" "law" ar f fd) (M : Mg mg) (bx : Cal P w K mg base CX0 "worths_of" 3 ["lots"] (lV K)) (aL : Cal P w K mg base CX0 "_law_cell_at" 1 ["_law_script", "_law_k"] (kD K)) (cX : Cal P w K mg base CX0 "_law_lots" 4 ["_law_script"] (oJ K))
    (ee : Cal P w K mg base CX0 "_law_due" 1 ["_law_found", "_law_lots_here", "_law_k"] (rj K)) (cK : Cal P w K mg base CX0 "_law_table" 2 ["_law_table_here", "_law_price", "_law_due_here"] (rg K)) : FnOk P w K mg base CX0 5 f fd ["_law_script"] (nR K) := by
  refine F.ok cU (fun vs H Q E h => ?_) (fun cdv A outer s H vs Q E hr h => ?_)
  · obtain ⟨a, ns, rfl, _⟩ := h
    rfl
  obtain ⟨a, ns, rfl, hS, hl, q⟩ := h
  refine ⟨_, (@ez _ _ _ _ _ (@iZ _ _ 1 _ _ _ _ cU.nd rfl iM (@jc _ _ _ _ _ _ _ _ _ _ _ cX hr eZ (@eo _ _ _ _ _ (@cg _ 0 _ _ rfl ir aP aQ) (@ff _) (ef rfl)) (by decide) gw (ef rfl) iY) (ic rfl) (.inl rfl)) (@ez _ _ _ _ _ (@iZ _ _ 2 _ _ _ _ cU.nd rfl iN (@j3 _ _ _ _ _ _ _ _ _ mh e7 M.m_list mC (@eo _ _ _ _ _ (@cg _ 1 _ _ rfl bO ag ai) (@ff _) (ef rfl)) ei eh (ef rfl) iY) (ic rfl) (.inl rfl)) (@ez _ _ _ _ _ (@iZ _ _ 3 _ _ _ _ cU.nd rfl iO (@jc _ _ _ _ _ _ _ _ _ _ _ bx hr bH (@eo _ _ _ _ _ (@cg _ 2 _ _ rfl fE bI bJ) (@ff _) (ef rfl)) (by decide) ce (ef rfl) iY) (ic rfl) (.inl rfl)) (@ez _ _ _ _ _ (@jK _ _ _ _ _ _ _ _ (@PW.pt _ _ _ (@mO _ _ _ _ _ _ _ (@kE _ _ _ _ (@kG _ _ _ (@ja _ _ _ _ _ _ _ _ _ jX eQ M.m_isinstance jw (@eo _ _ _ _ _ (@cg _ 3 _ _ rfl bP aD aE) (@eo _ _ _ _ _ (@j7 _ _ (.ty "list") _ _ e7 M.m_list mC rfl ei eh) (@ff _) (ef rfl)) (ef rfl)) aS aR (ef rfl) (jf rfl iY)) (lE rfl))) (@oj _ _ _ _ (@jl _ _ _ _ _ _ _ _ (@uf _) (@ja _ _ _ _ _ _ _ _ _ jk cz M.m_len j5 (@eo _ _ _ _ _ (@cg _ 3 _ _ rfl bP aD aE) (@ff _) (ef rfl)) bC bB (ef rfl) iY) (@ja _ _ _ _ _ _ _ _ _ jk cz M.m_len j5 (@eo _ _ _ _ _ (@cg _ 1 _ _ rfl bO ag ai) (@ff _) (ef rfl)) bC bB (ef rfl) iY) (jj _))))) (@g8 _ _ _ (@je _ _ _ _ (@lZ _ _ _ _))) (@jq _)) (@ez _ _ _ _ _ (@jO _ _ _ _ _ _ _ _ PassesOwn.never rfl (@jy _ _ _ _ _ _ im M.m_range (@eo _ _ _ _ _ (@ja _ _ _ _ _ _ _ _ _ jk cz M.m_len j5 (@eo _ _ _ _ _ (@cg _ 1 _ _ rfl bO ag ai) (@ff _) (ef rfl)) bC bB (ef rfl) iY) (@ff _) (ef rfl)) (star1' rfl)) (@i6 _ _ 4 _ cU.nd rfl iP (.inl rfl)) (@g8 _ _ _ (@jK _ _ _ _ _ _ _ _ (@kE _ _ _ _ (@kG _ _ _ (@jc _ _ _ _ _ _ _ _ _ _ _ cK hr eR (@eo _ _ _ _ _ (@i7 _ _ _ _ _ _ _ (@jg _) (@cg _ 3 _ _ rfl bP aD aE) (@cg _ 4 _ _ rfl fF aN aO) (fun _ _ => rfl)) (@eo _ _ _ _ _ (@i7 _ _ _ _ _ _ _ (@jx _) (@i7 _ _ _ _ _ _ _ (@jg _) (@cg _ 1 _ _ rfl bO ag ai) (@cg _ 4 _ _ rfl fF aN aO) (fun _ _ => rfl)) (@eu _ _ _ _) (fun _ _ => rfl)) (@eo _ _ _ _ _ (@jc _ _ _ _ _ _ _ _ _ _ _ ee hr fG (@eo _ _ _ _ _ (@cg _ 3 _ _ rfl bP aD aE) (@eo _ _ _ _ _ (@cg _ 1 _ _ rfl bO ag ai) (@eo _ _ _ _ _ (@cg _ 4 _ _ rfl fF aN aO) (@ff _) (ef rfl)) (ef rfl)) (ef rfl)) (by decide) gR (ef rfl) (jf rfl (jf rfl iY))) (@ff _) (ef rfl)) (ef rfl)) (ef rfl)) (by decide) fO (ef rfl) (jf rfl (jf rfl iY))) (lE rfl))) (@g8 _ _ _ (@je _ _ _ _ (@lZ _ _ _ _))) (@jq _))) (by intro _; rfl)) (@ez _ _ _ _ _ (@mD _ _ _ _ _ _ _ _ _ _ _ _ _ _ _ 5 _ _ _ cU.nd rfl iR rfl (CompOk.make (N' := ["_law_table_here"]) (ix := []) (nl := 1) (by rfl) fm0 (by rfl) (by decide +kernel) rfl (by decide +kernel) rfl True.intro) (@jC _ _ _ _ (@cg _ 3 _ _ rfl bP aD aE)) (fun _ _ _ _ _ => (@i6 _ _ 0 _ (show List.Nodup (["_law_table_here"] : List Str) from by decide) rfl (Or.inl rfl) (by first | exact .inl rfl | exact .inr rfl | assumption))) (fun _ _ _ _ _ => (@jB _)) (fun _ _ _ _ _ => (@j3 _ _ _ _ _ _ _ _ _ (pV (K := K) rfl) rfl M.m_list mC (@eo _ _ _ _ _ (@pv _ 0 _ _ (by rfl) (by first | exact Or.inl rfl | exact Or.inr (Or.inl rfl) | exact Or.inr (Or.inr rfl)) (by decide) (by decide)) (@ff _) (ef rfl)) ei eh (ef rfl) iY)) (by rfl) (by intro _; rfl) (by first | exact .inl rfl | exact .inr rfl | assumption)) (@ez _ _ _ _ _ (@jW _ _ _ _ (@kj _ _ _ _ _ _ _ _ _ _ _ _ PySem.F.plainAttrs_list PySem.F.slot_list_append PySem.F.type_list_append jH (@i7 _ _ _ _ _ _ _ (@jg _) (@cg _ 3 _ _ rfl bP aD aE) (@g5 _ _ _ _ _ _ _ _ (@jh _) (@jc _ _ _ _ _ _ _ _ _ _ _ aL hr d8 (@eo _ _ _ _ _ (@cg _ 0 _ _ rfl ir aP aQ) (@eo _ _ _ _ _ (@eu _ _ _ _) (@ff _) (ef rfl)) (ef rfl)) (by decide) bF (ef rfl) (jf rfl iY)) (@ja _ _ _ _ _ _ _ _ _ jk cz M.m_len j5 (@eo _ _ _ _ _ (@cg _ 1 _ _ rfl bO ag ai) (@ff _) (ef rfl)) bC bB (ef rfl) iY)) (fun _ _ => rfl)) (@eo _ _ _ _ _ (@n6 _ _ _ _ _ (@eo _ _ _ _ _ (@lA _ _ _ _) (@eo _ _ _ _ _ (@eu _ _ _ _) (@ff _) (ef rfl)) (ef rfl))) (@ff _) (ef rfl)) (by rfl) (by rfl) (by rfl) (by rfl) (by rfl)) (ic rfl)) (@ez _ _ _ _ _ (@jW _ _ _ _ (@kj _ _ _ _ _ _ _ _ _ _ _ _ PySem.F.plainAttrs_list PySem.F.slot_list_append PySem.F.type_list_append jH (@cg _ 3 _ _ rfl bP aD aE) (@eo _ _ _ _ _ (@jN _ _ _ _ (@ff _)) (@ff _) (ef rfl)) (by rfl) (by rfl) (by rfl) (by rfl) (by rfl)) (ic rfl)) (@g8 _ _ _ (@je _ _ _ _ (@lY _ _ _ _ _ _ _ (@kH _ _ _ _ _ _ _ _ (vK (wk hr)) (@jc _ _ _ _ _ _ _ _ _ _ _ bx hr bH (@eo _ _ _ _ _ (@cg _ 2 _ _ rfl fE bI bJ) (@ff _) (ef rfl)) (by decide) ce (ef rfl) iY) (@cg _ 5 _ _ rfl iQ gu gv) (jj _)) (@lY _ _ _ _ _ _ _ (@kH _ _ _ _ _ _ _ _ (@rN _ (Nat.lt_of_succ_lt (jU hr))) (@cg _ 2 _ _ rfl fE bI bJ) (@cg _ 1 _ _ rfl bO ag ai) (jj _)) (@oF _ _ _ _ _ (@kH _ _ _ _ _ _ _ _ (@rN _ (Nat.lt_of_succ_lt (jU hr))) (@jc _ _ _ _ _ _ _ _ _ _ _ bx hr bH (@eo _ _ _ _ _ (@jN _ _ _ _ (@ff _)) (@ff _) (ef rfl)) (by decide) ce (ef rfl) iY) (@jN _ _ _ _ (@ff _)) (jj _))))))))))))))), ?_⟩
  trivial
  refine ⟨a, ns, rfl, hS, fun r gs H1 S1 hr1 dR ga lo g1 g21 => ?_⟩
  refine ⟨_, rfl, _, SqL.of dR, fun hd hhd => ?_⟩
  obtain ⟨H2, e2, S2, dH⟩ := jR (K := K) hhd (refs gs)
  rw [← e2]
  clear e2
  have ga2 : ∀ g ∈ gs, LtAt K H2 g := fun g m => (ga g m).same S2
  have dR2 := S2 _ _ dR
  clear ga
  refine ⟨hd, gs, rfl, dH, ga2, lo, by omega, fun fl ts Ts H3 S3 hfl dF lts tf tn TA TT => ?_⟩
  have lTs := TA.len
  refine ⟨.lst, .inl ⟨rfl, _, SqL.of dF⟩, ?_⟩
  rw [if_neg (by decide)]
  refine ⟨_, rfl, _, .inl (SqL.of dF), _, rfl, _, .inl (SqL.of (S3 _ _ dR2)), ?_⟩
  rw [if_pos (by rw [List.length_map, jF, lts])]
  refine ⟨_, rfl, _, .inl (SqL.of (S3 _ _ dR2)), by omega, by rw [jF]; omega, ?_⟩
  rw [jF, Int.toNat_natCast]
  obtain ⟨Pv, hP⟩ : ∃ Pv : Nat → St → Hp → Prop, Pv = fun i σ H' => ∃ y : Option V, Same H3 H' ∧ σ = [some (V.ref a), some (V.ref r), some (V.ref hd), some (V.ref fl), y, none] := ⟨_, rfl⟩
  refine jS Pv ?_ ?_ ?_
  · rw [hP]
    exact ⟨_, Same.refl _, rfl⟩
  · intro i σ H' hi h
    rw [hP] at h
    obtain ⟨y, e, rfl⟩ := h
    obtain ⟨t, ht⟩ : ∃ t, ts[i]? = some t := ⟨_, List.getElem?_eq_getElem (by omega)⟩
    obtain ⟨T, hT⟩ : ∃ T, Ts[i]? = some T := ⟨_, List.getElem?_eq_getElem (by omega)⟩
    obtain ⟨g, hg⟩ : ∃ g, gs[i]? = some g := ⟨_, List.getElem?_eq_getElem (by omega)⟩
    have gm := List.mem_of_getElem? hg
    have S2' := S3.trans e
    have gT := TA.good T (List.mem_of_getElem? hT)
    obtain ⟨g', hg', it⟩ := TT i T hT
    rw [hg] at hg'
    injection hg' with hg'
    subst hg'
    obtain ⟨sp, iin, il⟩ := Lots.own lo hg
    have dk : DOk gs (dOf gs (Ts.take i) g) := oQ gm sp fun T m => TA.good T (List.mem_of_mem_take m)
    have ed : dOf gs (Ts.take i) g = dOf gs Ts g := by
      unfold dOf
      rw [lS iin]
    rw [ed] at it dk
    rw [Int.zero_add]
    trivial
    refine ⟨_, SqL.of (e _ _ dF), _, jr (by rw [List.getElem?_map, ht]; rfl), _, SqL.of (S2' _ _ dR2), _, j6 hg, _, rfl, _, Same.tup S2' (ga2 g gm).tq, _, rfl, ?_⟩
    refine ⟨fl, r, i, gs, g, ts, Ts, rfl, SqL.of (S2' _ _ dR2), fun g m => (ga2 g m).same S2', lo, by omega, hg, e _ _ dF, lts, TA.same e, fun l e2 H4 S4 hl dl nd pos eq => ?_⟩
    obtain ⟨d1, d2⟩ := Tb.tab_due dk.nd it nd pos eq
    have tr := (TA.at_ i t T ht hT).same (e.trans S4)
    refine ⟨t, l, g.pr, T, e2, rfl, tr, dl, by have := gT.len; omega, gT.nd, gT.pos, Tb.tab_up dk.nd it, fun s m => sN lo (gT.sub s m), uD lo TT TA.good i T g hT hg, d1, d2, fun H5 S5 => ⟨_, rfl, ?_⟩⟩
    rw [if_neg (by decide)]
    rw [hP]
    exact ⟨_, e.trans (S4.trans S5), rfl⟩
  · intro σ H' h
    rw [hP] at h
    obtain ⟨y, e, rfl⟩ := h
    trivial
    refine ⟨⟨_, SqL.of (e _ _ dF)⟩, fun D hD => ?_⟩
    obtain ⟨Pc, hC⟩ : ∃ Pc : Nat → St → Hp → Prop, Pc = fun i τ H5 => ∃ (z : Option V) (ks : List Addr), H5 D = some (.lst (ks.map V.ref)) ∧ ks.length = i ∧ (∀ k ∈ ks, H' k = none ∧ k ≠ D) ∧ (∀ (j : Nat) (k : Addr) (T : Tb.Dc), ks[j]? = some k → (Ts.take i)[j]? = some T → TabR H5 k T) ∧ Same H' H5 ∧ τ = [z] := ⟨_, rfl⟩
    refine jL (ts.map V.ref) Pc ?_ (fun i τ H5 _ h => by rw [hC] at h; obtain ⟨_, _, _, _, _, _, e5, _⟩ := h; exact SqL.of (e5 _ _ (e _ _ dF))) ?_ ?_
    · rw [hC]
      exact ⟨_, [], fz, rfl, (fun k m => by cases m), (fun j k T h => by cases h), ia hD _, rfl⟩
    · intro i x τ H5 R hx h next
      rw [hC] at h
      obtain ⟨z, ks, d1, d2, d3, d4, d5, rfl⟩ := h
      rw [List.getElem?_map] at hx
      obtain ⟨t, ht, rfl⟩ := Option.map_eq_some_iff.mp hx
      have li := (List.getElem?_eq_some_iff.mp ht).1
      obtain ⟨T, hT⟩ : ∃ T, Ts[i]? = some T := ⟨_, List.getElem?_eq_getElem (by omega)⟩
      obtain ⟨ps, p1, p2⟩ := (TA.at_ i t T ht hT).same (e.trans d5)
      trivial
      refine ⟨_, SqL.of p1, fun l hl => ?_⟩
      have S6 := ia hl (.lst (ps.map V.ref))
      have T6 : upd H5 l (.lst (ps.map V.ref)) l = some (.lst (ps.map V.ref)) := fz
      generalize upd H5 l (.lst (ps.map V.ref)) = H6 at S6 T6 ⊢
      have hlD : l ≠ D := fun z => by rw [z, d1] at hl; cases hl
      have hl' : H' l = none := by
        cases eD : H' l with
        | none => rfl
        | some o => rw [d5 _ _ eD] at hl; cases hl
      have d1' := S6 _ _ d1
      have nt : ∀ (xs : List V), HO.lst (ks.map V.ref) ≠ .tup xs := fun xs z => by cases z
      refine ⟨_, d1', by rw [List.length_map]; exact Nat.lt_of_lt_of_le (m := 64) (by omega) (by decide), next _ _ ?_⟩
      rw [hC]
      refine ⟨_, ks ++ [l], by rw [fz, List.map_append]; rfl, by rw [List.length_append, d2]; rfl, fun k m => ?_, fun j k T' h1 h2 => ?_, i0 (d5.trans S6) hD _, rfl⟩
      · rcases List.mem_append.mp m with m | m
        · exact d3 k m
        · rw [List.mem_singleton.mp m]; exact ⟨hl', hlD⟩
      · rw [take_snoc hT] at h2
        have lt : (Ts.take i).length = i := by rw [List.length_take]; omega
        rcases jV h1 with ⟨l1, h1⟩ | ⟨l1, rfl⟩
        · rcases jV h2 with ⟨_, h2⟩ | ⟨l2, _⟩
          · exact ((d4 j k T' h1 h2).same S6).upd (d3 k (List.mem_of_getElem? h1)).2 d1' nt
          · omega
        · rcases jV h2 with ⟨l2, _⟩ | ⟨_, rfl⟩
          · omega
          · exact TabR.upd ⟨ps, T6, p2.same S6⟩ hlD d1' nt
    · intro τ H5 h
      rw [hC] at h
      obtain ⟨z, ks, d1, d2, d3, d4, d5, rfl⟩ := h
      rw [List.length_map, lTs, List.take_length] at d4
      rw [List.length_map] at d2
      have S25 := S3.trans (e.trans d5)
      have S05 := S1.trans (S2.trans S25)
      have fl5 := d5 _ _ (e _ _ dF)
      refine ⟨a, ns, 1, rfl, S05.seq hS, by decide, fun ci => ⟨_, .inl (SqL.of (S25 _ _ dR2)), ci, rfl, by rw [jF]; omega, ?_⟩⟩
      rw [jF]
      have m0 := Int.emod_nonneg ci (b := (gs.length : Int)) (by omega)
      have m1 := Int.emod_lt_of_pos ci (b := (gs.length : Int)) (by omega)
      obtain ⟨jn, hj⟩ : ∃ jn : Nat, ci % (gs.length : Int) = jn := ⟨(ci % (gs.length : Int)).toNat, by omega⟩
      rw [hj]
      obtain ⟨t, ht⟩ : ∃ t, ts[jn]? = some t := ⟨_, List.getElem?_eq_getElem (by omega)⟩
      obtain ⟨T, hT⟩ : ∃ T, Ts[jn]? = some T := ⟨_, List.getElem?_eq_getElem (by omega)⟩
      obtain ⟨ps, p1, p2⟩ := (TA.at_ jn t T ht hT).same (e.trans d5)
      have tm := List.mem_of_getElem? ht
      obtain ⟨ht2, htf⟩ := tf t tm
      have lT := (TA.good T (List.mem_of_getElem? hT)).len
      refine ⟨_, SqL.of fl5, _, jr (by rw [List.getElem?_map, ht]; rfl), (show tyV K "list" (V.ref t) H5 from .inl ⟨rfl, _, SqL.of p1⟩), by decide, fun p hp => ⟨t, rfl, ?_⟩⟩
      have S6 := ia hp (.tup [.str "a", .int 1])
      generalize upd H5 p (.tup [.str "a", .int 1]) = H6 at S6 ⊢
      refine ⟨_, S6 _ _ p1, by rw [List.length_map, p2.length]; exact Nat.lt_of_lt_of_le (m := 64) (by omega) (by decide), ?_⟩
      have ne1 : ∀ (xs : List V), HO.lst (ps.map V.ref) ≠ .tup xs := fun xs z => by cases z
      have t6 := S6 _ _ p1
      have S27 := i0 (S25.trans S6) ht2 (.lst (ps.map V.ref ++ [.ref p]))
      have fl7 : upd H6 t (.lst (ps.map V.ref ++ [.ref p])) fl = some (.lst (ts.map V.ref)) := by rw [i9 htf.symm]; exact S6 _ _ fl5
      have ht' : H' t ≠ none := fun z => by
        obtain ⟨_, z1, _⟩ := (TA.at_ jn t T ht hT).same e
        rw [z] at z1
        cases z1
      have htD : D ≠ t := fun z => ht' (z ▸ hD)
      have D7 : upd H6 t (.lst (ps.map V.ref ++ [.ref p])) D = some (.lst (ks.map V.ref)) := by rw [i9 htD]; exact S6 _ _ d1
      have k7 : ∀ (j : Nat) (k : Addr) (T : Tb.Dc), ks[j]? = some k → Ts[j]? = some T → TabR (upd H6 t (.lst (ps.map V.ref ++ [.ref p]))) k T := fun j k T h1 h2 =>
        ((d4 j k T h1 h2).same S6).upd (fun z => ht' (z ▸ (d3 k (List.mem_of_getElem? h1)).1)) t6 ne1
      generalize upd H6 t (.lst (ps.map V.ref ++ [.ref p])) = H7 at S27 fl7 D7 k7 ⊢
      refine ⟨.inl ⟨rfl, _, SqL.of fl7⟩, by decide, fun p8 hp8 => ?_⟩
      have S8 := ia hp8 (.lst [])
      generalize upd H7 p8 (.lst []) = H8 at S8 ⊢
      have ne2 : ∀ (xs : List V), HO.lst (ts.map V.ref) ≠ .tup xs := fun xs z => by cases z
      have fl' : H' fl ≠ none := fun z => by rw [e _ _ dF] at z; cases z
      have fl8 := S8 _ _ fl7
      have S29 := i0 (S27.trans S8) hfl (.lst (ts.map V.ref ++ [.ref p8]))
      have D9 : upd H8 fl (.lst (ts.map V.ref ++ [.ref p8])) D = some (.lst (ks.map V.ref)) := by rw [i9 (show D ≠ fl from fun z => fl' (z ▸ hD))]; exact S8 _ _ D7
      have k9 : ∀ (j : Nat) (k : Addr) (T : Tb.Dc), ks[j]? = some k → Ts[j]? = some T → TabR (upd H8 fl (.lst (ts.map V.ref ++ [.ref p8]))) k T := fun j k T h1 h2 =>
        ((k7 j k T h1 h2).same S8).upd (fun z => fl' (z ▸ (d3 k (List.mem_of_getElem? h1)).1)) fl8 ne2
      refine ⟨_, fl8, by rw [List.length_map]; exact Nat.lt_of_lt_of_le (m := 64) (by omega) (by decide), ?_⟩
      generalize upd H8 fl (.lst (ts.map V.ref ++ [.ref p8])) = H9 at S29 D9 k9 ⊢
      refine ⟨hd, gs, rfl, S29.seq dH, fun g m => (ga2 g m).same S29, lo, by omega, fun fl2 ts2 Ts2 HA SA hfl2 dF2 lts2 _ _ TA2 TT2 => ?_⟩
      have eT : Ts2 = Ts := r6 TT2 TT (by have := TA2.len; omega)
      subst eT
      obtain ⟨f1, f2⟩ := nB lo TA.good
      have f1' : (PyData.list (Ts2.map kB)).canLay0 = true := f1
      have fl0 : qy (.list (Ts2.map kB)) := ⟨f1', by show PyData.depthAll _ + 1 ≤ 40; omega⟩
      refine ⟨.list (Ts2.map kB), .list (Ts2.map kB), .lst (SqL.of dF2) (lM TA2.len TA2.at_), .lst (SqL.of (SA _ _ D9)) (lM (by omega) fun j k T h1 h2 => (k9 j k T h1 h2).same SA), fl0, fl0, ?_⟩
      rw [if_neg (by decide), PySem.SeqAt.eqv_refl _ f1']
      refine ⟨_, rfl, ?_⟩
      rw [if_pos rfl]
      have S2A := S29.trans SA
      refine nE (.inl ⟨S2A.seq dH, SqL.of (S2A _ _ dR2)⟩) (uF gs) ⟨_, rfl, ?_⟩
      rw [if_pos (by decide)]
      refine ⟨by decide, fun en hen => ⟨_, [], rfl, SqL.of fz, (fun g hg => by cases hg), (fun i g h => by simp at h), by decide, fun n4 ts4 Ts4 HD eD hn4 dn4 l4 _ _ _ _ => ⟨by decide, fun en2 hen2 => ?_⟩⟩⟩
      have e4 : ts4 = [] := List.length_eq_zero_iff.mp l4
      subst e4
      exact nE (.inl ⟨SqL.of ((ia hen2 _) _ _ dn4), SqL.of fz⟩) rfl (q _)
end

theorem all_mk {l : PySem.W.OpenLaw} {w : World} {K : PySem.W.Frag} {h : Heap} {mg : Str → Option Value} {fa f1 f2 f3 f4 f5 f6 f7 f8 f9 f10 f11 f12 f13 f14 : Addr} (X : K.In h) (G : h.Ns mainGlobals mg) (hfa : mg "law" = some (.ref fa))
    {od1 an1 od2 an2 od3 an3 od4 an4 od5 an5 od6 an6 od7 an7 od8 an8 od9 an9 od10 an10 od11 an11 od12 an12 od13 an13 od14 an14 : Option Addr} {sl1 sl2 sl3 sl4 sl5 sl6 sl7 sl8 sl9 sl10 sl11 sl12 sl13 sl14 : Array (Option Value)} {oc1 kV1 dc1 pm1 cd1 ct1 oc2 kV2 dc2 pm2 cd2 ct2 oc3 kV3 dc3 pm3 cd3 ct3 oc4 kV4 dc4 pm4 cd4 ct4 oc5 kV5 dc5 pm5 cd5 ct5 oc6 kV6 dc6 pm6 cd6 ct6 oc7 kV7 dc7 pm7 cd7 ct7 oc8 kV8 dc8 pm8 cd8 ct8 oc9 kV9 dc9 pm9 cd9 ct9 oc10 kV10 dc10 pm10 cd10 ct10 oc11 kV11 dc11 pm11 cd11 ct11 oc12 kV12 dc12 pm12 cd12 ct12 oc13 kV13 dc13 pm13 cd13 ct13 oc14 kV14 dc14 pm14 cd14 ct14 : Value}
    (a1 : PySem.W.nsIn K mainGlobals "price_of_inputs" = some (some (.ref f1))) (l1 : K.lookup f1 = some ⟨oc1, od1, .func (PySem.W.fnOf "price_of_inputs" "price_of_inputs" (defArgs aq) (defBody aq) (defScope aq) .none kV1 dc1 pm1 an1 cd1 ct1), sl1⟩) (c1 : PySem.W.codeIn K cd1 "price_of_inputs" = true) (k1 : PySem.W.keepIn K (.ref f1) = true)
    (a2 : PySem.W.nsIn K mainGlobals "table_of" = some (some (.ref f2))) (l2 : K.lookup f2 = some ⟨oc2, od2, .func (PySem.W.fnOf "table_of" "table_of" (defArgs ak) (defBody ak) (defScope ak) .none kV2 dc2 pm2 an2 cd2 ct2), sl2⟩) (c2 : PySem.W.codeIn K cd2 "table_of" = true) (k2 : PySem.W.keepIn K (.ref f2) = true)
    (a3 : PySem.W.nsIn K mainGlobals "worths_of" = some (some (.ref f3))) (l3 : K.lookup f3 = some ⟨oc3, od3, .func (PySem.W.fnOf "worths_of" "worths_of" (defArgs au) (defBody au) (defScope au) .none kV3 dc3 pm3 an3 cd3 ct3), sl3⟩) (c3 : PySem.W.codeIn K cd3 "worths_of" = true) (k3 : PySem.W.keepIn K (.ref f3) = true)
    (a4 : PySem.W.nsIn K mainGlobals "_law_cell_at" = some (some (.ref f4))) (l4 : K.lookup f4 = some ⟨oc4, od4, .func (PySem.W.fnOf "_law_cell_at" "_law_cell_at" (defArgs aA) (defBody aA) (defScope aA) .none kV4 dc4 pm4 an4 cd4 ct4), sl4⟩) (c4 : PySem.W.codeIn K cd4 "_law_cell_at" = true) (k4 : PySem.W.keepIn K (.ref f4) = true)
    (a5 : PySem.W.nsIn K mainGlobals "_law_mix" = some (some (.ref f5))) (l5 : K.lookup f5 = some ⟨oc5, od5, .func (PySem.W.fnOf "_law_mix" "_law_mix" (defArgs aY) (defBody aY) (defScope aY) .none kV5 dc5 pm5 an5 cd5 ct5), sl5⟩) (c5 : PySem.W.codeIn K cd5 "_law_mix" = true) (k5 : PySem.W.keepIn K (.ref f5) = true)
    (a6 : PySem.W.nsIn K mainGlobals "_law_whole" = some (some (.ref f6))) (l6 : K.lookup f6 = some ⟨oc6, od6, .func (PySem.W.fnOf "_law_whole" "_law_whole" (defArgs aB) (defBody aB) (defScope aB) .none kV6 dc6 pm6 an6 cd6 ct6), sl6⟩) (c6 : PySem.W.codeIn K cd6 "_law_whole" = true) (k6 : PySem.W.keepIn K (.ref f6) = true)
    (a7 : PySem.W.nsIn K mainGlobals "_law_number" = some (some (.ref f7))) (l7 : K.lookup f7 = some ⟨oc7, od7, .func (PySem.W.fnOf "_law_number" "_law_number" (defArgs ao) (defBody ao) (defScope ao) .none kV7 dc7 pm7 an7 cd7 ct7), sl7⟩) (c7 : PySem.W.codeIn K cd7 "_law_number" = true) (k7 : PySem.W.keepIn K (.ref f7) = true)
    (a8 : PySem.W.nsIn K mainGlobals "_law_lands" = some (some (.ref f8))) (l8 : K.lookup f8 = some ⟨oc8, od8, .func (PySem.W.fnOf "_law_lands" "_law_lands" (defArgs ac) (defBody ac) (defScope ac) .none kV8 dc8 pm8 an8 cd8 ct8), sl8⟩) (c8 : PySem.W.codeIn K cd8 "_law_lands" = true) (k8 : PySem.W.keepIn K (.ref f8) = true)
    (a9 : PySem.W.nsIn K mainGlobals "_law_inputs" = some (some (.ref f9))) (l9 : K.lookup f9 = some ⟨oc9, od9, .func (PySem.W.fnOf "_law_inputs" "_law_inputs" (defArgs aa) (defBody aa) (defScope aa) .none kV9 dc9 pm9 an9 cd9 ct9), sl9⟩) (c9 : PySem.W.codeIn K cd9 "_law_inputs" = true) (k9 : PySem.W.keepIn K (.ref f9) = true)
    (a10 : PySem.W.nsIn K mainGlobals "_law_lot" = some (some (.ref f10))) (l10 : K.lookup f10 = some ⟨oc10, od10, .func (PySem.W.fnOf "_law_lot" "_law_lot" (defArgs aj) (defBody aj) (defScope aj) .none kV10 dc10 pm10 an10 cd10 ct10), sl10⟩) (c10 : PySem.W.codeIn K cd10 "_law_lot" = true) (k10 : PySem.W.keepIn K (.ref f10) = true)
    (a11 : PySem.W.nsIn K mainGlobals "_law_lots" = some (some (.ref f11))) (l11 : K.lookup f11 = some ⟨oc11, od11, .func (PySem.W.fnOf "_law_lots" "_law_lots" (defArgs al) (defBody al) (defScope al) .none kV11 dc11 pm11 an11 cd11 ct11), sl11⟩) (c11 : PySem.W.codeIn K cd11 "_law_lots" = true) (k11 : PySem.W.keepIn K (.ref f11) = true)
    (a12 : PySem.W.nsIn K mainGlobals "_law_due" = some (some (.ref f12))) (l12 : K.lookup f12 = some ⟨oc12, od12, .func (PySem.W.fnOf "_law_due" "_law_due" (defArgs af) (defBody af) (defScope af) .none kV12 dc12 pm12 an12 cd12 ct12), sl12⟩) (c12 : PySem.W.codeIn K cd12 "_law_due" = true) (k12 : PySem.W.keepIn K (.ref f12) = true)
    (a13 : PySem.W.nsIn K mainGlobals "_law_table" = some (some (.ref f13))) (l13 : K.lookup f13 = some ⟨oc13, od13, .func (PySem.W.fnOf "_law_table" "_law_table" (defArgs ae) (defBody ae) (defScope ae) .none kV13 dc13 pm13 an13 cd13 ct13), sl13⟩) (c13 : PySem.W.codeIn K cd13 "_law_table" = true) (k13 : PySem.W.keepIn K (.ref f13) = true)
    (a14 : PySem.W.nsIn K mainGlobals "law" = some (some (.ref f14))) (l14 : K.lookup f14 = some ⟨oc14, od14, .func (PySem.W.fnOf "law" "law" (defArgs ar) (defBody ar) (defScope ar) .none kV14 dc14 pm14 an14 cd14 ct14), sl14⟩) (c14 : PySem.W.codeIn K cd14 "law" = true) (k14 : PySem.W.keepIn K (.ref f14) = true)
    (z_dict : PySem.W.nsIn K mainGlobals "dict" = some none)
    (z_len : PySem.W.nsIn K mainGlobals "len" = some none)
    (z_range : PySem.W.nsIn K mainGlobals "range" = some none)
    (z_abs : PySem.W.nsIn K mainGlobals "abs" = some none)
    (z_max : PySem.W.nsIn K mainGlobals "max" = some none)
    (z_min : PySem.W.nsIn K mainGlobals "min" = some none)
    (z_isinstance : PySem.W.nsIn K mainGlobals "isinstance" = some none)
    (z_int : PySem.W.nsIn K mainGlobals "int" = some none)
    (z_bool : PySem.W.nsIn K mainGlobals "bool" = some none)
    (z_str : PySem.W.nsIn K mainGlobals "str" = some none)
    (z_list : PySem.W.nsIn K mainGlobals "list" = some none)
    (z_tuple : PySem.W.nsIn K mainGlobals "tuple" = some none)
    (z_sum : PySem.W.nsIn K mainGlobals "sum" = some none)
    (z_all : PySem.W.nsIn K mainGlobals "all" = some none)
    (z_enumerate : PySem.W.nsIn K mainGlobals "enumerate" = some none)
    (z_zip : PySem.W.nsIn K mainGlobals "zip" = some none)
    (z_ValueError : PySem.W.nsIn K mainGlobals "ValueError" = some none)
    (z_any : PySem.W.nsIn K mainGlobals "any" = some none)
    (z_set : PySem.W.nsIn K mainGlobals "set" = some none)
    (z_sorted : PySem.W.nsIn K mainGlobals "sorted" = some none)
    : ∃ fd : FuncData, (∀ (s : Shared) (v : Value), BindsTo s fd ⟨[v], []⟩ [("_law_script", v)]) ∧ ∀ base : Heap, K.In base → base.Ns mainGlobals mg → FnOk l.prog w K mg base CX0 5 fa fd ["_law_script"] (nR K) := by
  have e := hfa.symm.trans (PySem.W.mg_of X G a14)
  cases e
  have F1 := ju (st := aq) l1 c1 k1
  have F2 := ju (st := ak) l2 c2 k2
  have F3 := ju (st := au) l3 c3 k3
  have F4 := ju (st := aA) l4 c4 k4
  have F5 := ju (st := aY) l5 c5 k5
  have F6 := ju (st := aB) l6 c6 k6
  have F7 := ju (st := ao) l7 c7 k7
  have F8 := ju (st := ac) l8 c8 k8
  have F9 := ju (st := aa) l9 c9 k9
  have F10 := ju (st := aj) l10 c10 k10
  have F11 := ju (st := al) l11 c11 k11
  have F12 := ju (st := af) l12 c12 k12
  have F13 := ju (st := ae) l13 c13 k13
  have F14 := ju (st := ar) l14 c14 k14
  have b1 := F1.binds (ps := ["lots", "inputs"]) fun _ _ _ _ _ _ us hl => match us, hl with | [_, _], _ => rfl
  have b2 := F2.binds (ps := ["lots", "tables", "lot"]) fun _ _ _ _ _ _ us hl => match us, hl with | [_, _, _], _ => rfl
  have b3 := F3.binds (ps := ["lots"]) fun _ _ _ _ _ _ us hl => match us, hl with | [_], _ => rfl
  have b4 := F4.binds (ps := ["_law_script", "_law_k"]) fun _ _ _ _ _ _ us hl => match us, hl with | [_, _], _ => rfl
  have b5 := F5.binds (ps := ["_law_cell", "_law_by"]) fun _ _ _ _ _ _ us hl => match us, hl with | [_, _], _ => rfl
  have b6 := F6.binds (ps := ["_law_thing"]) fun _ _ _ _ _ _ us hl => match us, hl with | [_], _ => rfl
  have b7 := F7.binds (ps := ["_law_cell"]) fun _ _ _ _ _ _ us hl => match us, hl with | [_], _ => rfl
  have b8 := F8.binds (ps := ["_law_cell"]) fun _ _ _ _ _ _ us hl => match us, hl with | [_], _ => rfl
  have b9 := F9.binds (ps := ["_law_cell", "_law_many"]) fun _ _ _ _ _ _ us hl => match us, hl with | [_, _], _ => rfl
  have b10 := F10.binds (ps := ["_law_lots_here", "_law_lands_here", "_law_cells"]) fun _ _ _ _ _ _ us hl => match us, hl with | [_, _, _], _ => rfl
  have b11 := F11.binds (ps := ["_law_script"]) fun _ _ _ _ _ _ us hl => match us, hl with | [_], _ => rfl
  have b12 := F12.binds (ps := ["_law_found", "_law_lots_here", "_law_k"]) fun _ _ _ _ _ _ us hl => match us, hl with | [_, _, _], _ => rfl
  have b13 := F13.binds (ps := ["_law_table_here", "_law_price", "_law_due_here"]) fun _ _ _ _ _ _ us hl => match us, hl with | [_, _, _], _ => rfl
  have M : Mg mg := ⟨PySem.W.mg_none_of X G z_len, PySem.W.mg_none_of X G z_range, PySem.W.mg_none_of X G z_abs, PySem.W.mg_none_of X G z_max, PySem.W.mg_none_of X G z_min, PySem.W.mg_none_of X G z_isinstance, PySem.W.mg_none_of X G z_int, PySem.W.mg_none_of X G z_bool, PySem.W.mg_none_of X G z_str, PySem.W.mg_none_of X G z_list, PySem.W.mg_none_of X G z_tuple, PySem.W.mg_none_of X G z_sum, PySem.W.mg_none_of X G z_all, PySem.W.mg_none_of X G z_enumerate, PySem.W.mg_none_of X G z_zip, PySem.W.mg_none_of X G z_ValueError, PySem.W.mg_none_of X G z_any, PySem.W.mg_none_of X G z_set, PySem.W.mg_none_of X G z_sorted⟩
  refine ⟨PySem.W.fnOf "law" "law" (defArgs ar) (defBody ar) (defScope ar) .none kV14 dc14 pm14 an14 cd14 ct14, fun s v => .of_eq rfl, fun base _ _ => ?_⟩
  have m_dict : mg "dict" = none := PySem.W.mg_none_of X G z_dict
  have bp : Cal l.prog w K mg base CX0 "price_of_inputs" 1 ["lots", "inputs"] (kZ K) := ⟨⟨_, _, lC F1 M, b1, k1, PySem.W.mg_of X G a1⟩⟩
  have cW : Cal l.prog w K mg base CX0 "table_of" 2 ["lots", "tables", "lot"] (m9 K) := ⟨⟨_, _, o7 F2 M bp, b2, k2, PySem.W.mg_of X G a2⟩⟩
  have bx : Cal l.prog w K mg base CX0 "worths_of" 3 ["lots"] (lV K) := ⟨⟨_, _, oA F3 M cW, b3, k3, PySem.W.mg_of X G a3⟩⟩
  have aL : Cal l.prog w K mg base CX0 "_law_cell_at" 1 ["_law_script", "_law_k"] (kD K) := ⟨⟨_, _, mU F4 M, b4, k4, PySem.W.mg_of X G a4⟩⟩
  have aV : Cal l.prog w K mg base CX0 "_law_mix" 1 ["_law_cell", "_law_by"] (mE) := ⟨⟨_, _, qt F5 M, b5, k5, PySem.W.mg_of X G a5⟩⟩
  have cJ : Cal l.prog w K mg base CX0 "_law_whole" 1 ["_law_thing"] (lQ) := ⟨⟨_, _, nY F6 M, b6, k6, PySem.W.mg_of X G a6⟩⟩
  have cr : Cal l.prog w K mg base CX0 "_law_number" 2 ["_law_cell"] (lN K) := ⟨⟨_, _, nM F7 M aV, b7, k7, PySem.W.mg_of X G a7⟩⟩
  have cI : Cal l.prog w K mg base CX0 "_law_lands" 2 ["_law_cell"] (m8 K) := ⟨⟨_, _, oG F8 M aV, b8, k8, PySem.W.mg_of X G a8⟩⟩
  have cq : Cal l.prog w K mg base CX0 "_law_inputs" 2 ["_law_cell", "_law_many"] (lK K) := ⟨⟨_, _, nO F9 M aV, b9, k9, PySem.W.mg_of X G a9⟩⟩
  have d9 : Cal l.prog w K mg base CX0 "_law_lot" 3 ["_law_lots_here", "_law_lands_here", "_law_cells"] (qZ K) := ⟨⟨_, _, qR F10 M cq cr, b10, k10, PySem.W.mg_of X G a10⟩⟩
  have cX : Cal l.prog w K mg base CX0 "_law_lots" 4 ["_law_script"] (oJ K) := ⟨⟨_, _, pK F11 M aL cI d9, b11, k11, PySem.W.mg_of X G a11⟩⟩
  have ee : Cal l.prog w K mg base CX0 "_law_due" 1 ["_law_found", "_law_lots_here", "_law_k"] (rj K) := ⟨⟨_, _, qu F12 M, b12, k12, PySem.W.mg_of X G a12⟩⟩
  have cK : Cal l.prog w K mg base CX0 "_law_table" 2 ["_law_table_here", "_law_price", "_law_due_here"] (rg K) := ⟨⟨_, _, oO F13 M m_dict cJ, b13, k13, PySem.W.mg_of X G a13⟩⟩
  exact ve F14 M bx aL cX ee cK
theorem walk {l : PySem.W.OpenLaw} {q : Program} {loose : List Str} {XP : (Str → Option Value) → Heap → Prop} {YP : World → Heap → Prop} {d : DefRec} {K : Params → PySem.W.Frag} (hn : l.most = some 63) (hdf : d.params.defaults = [])
    (hY : ∀ (w : World) (h : Heap), YP w h → (K w.params).In h)
    (F : ∀ (w : World) (mg : Str → Option Value) (fa : Addr) (h : Heap), (K w.params).In h → h.Ns mainGlobals mg → mg d.name = some (.ref fa) →
      ∃ fd : FuncData, (∀ (s : Shared) (u : Value), BindsTo s fd ⟨[u], []⟩ [("_law_script", u)]) ∧ ∀ base : Heap, (K w.params).In base → base.Ns mainGlobals mg → FnOk l.prog w (K w.params) mg base CX0 5 fa fd ["_law_script"] (nR (K w.params))) :
    PySem.W.WalkO q loose XP YP l.row.toRowW d [] (fun f vs => PySem.call f vs) :=
  L2.walk_of (n := 63) (k := 5) (x := "_law_script") (CX := fun _ => CX0) (sp := fun w => nR (K w.params)) hn (by decide) hdf ⟨rfl, by decide, by decide⟩ hY F (fun _ _ a ns hl _ hS => ⟨a, ns, rfl, hS, hl, fun _ => rfl⟩) fun _ _ _ _ _ z => z
end My
namespace PySem.W.Fast
theorem tw15637686033733820145:True:=⟨⟩
theorem tw10819664339954540086:True:=⟨⟩
theorem tw18126233366683975453:True:=⟨⟩
theorem tw7140223166539142970:True:=⟨⟩
theorem tw14903130783236039358:True:=⟨⟩
theorem tw4950210017788096852:True:=⟨⟩
theorem tw14045635046476319362:True:=⟨⟩
theorem tw10649796812790314751:True:=⟨⟩
theorem tw7225283263108738574:True:=⟨⟩
theorem tw1957121800194289129:True:=⟨⟩
theorem tw14541814326429215650:True:=⟨⟩
theorem tw8112245907082281757:True:=⟨⟩
theorem tw8403243767826626151:True:=⟨⟩
theorem tw8727176259105093050:True:=⟨⟩
theorem tw534686571093264567:True:=⟨⟩
theorem tw3552025174237794745:True:=⟨⟩
theorem tw1481921849853456506:True:=⟨⟩
theorem tw4756244543193946136:True:=⟨⟩
theorem tw4001652227003187968:True:=⟨⟩
theorem tw3340897013366368233:True:=⟨⟩
theorem tw14054923379171487931:True:=⟨⟩
theorem tw11997811218290422143:True:=⟨⟩
theorem tw3714139933720188270:True:=⟨⟩
theorem tw15720689942024761996:True:=⟨⟩
theorem tw5834813614912184700:True:=⟨⟩
theorem tw3638759371801078630:True:=⟨⟩
theorem tw14983408011745360335:True:=⟨⟩
theorem tw7764597373218825517:True:=⟨⟩
theorem tw6214124809277790328:True:=⟨⟩
theorem tw10696389625565802119:True:=⟨⟩
theorem tw15762020979667328617:True:=⟨⟩
theorem tw18318714937229615315:True:=⟨⟩
theorem tw2523158264337352692:True:=⟨⟩
theorem tw12780358170159366330:True:=⟨⟩
theorem tw5800591917609410921:True:=⟨⟩
theorem tw16160855389757712758:True:=⟨⟩
theorem tw14878964985628476475:True:=⟨⟩
theorem tw14453648705936534937:True:=⟨⟩
theorem tw4940745759980974836:True:=⟨⟩
theorem tw409944690676556066:True:=⟨⟩
theorem tw14198524058412166611:True:=⟨⟩
theorem tw914127656927849934:True:=⟨⟩
theorem tw14238858347918947143:True:=⟨⟩
theorem tw9905986791834303119:True:=⟨⟩
theorem tw9954274990421118505:True:=⟨⟩
theorem tw12600363664115406774:True:=⟨⟩
theorem tw8268458948952368758:True:=⟨⟩
theorem tw8429765453692148804:True:=⟨⟩
theorem tw11852783782659888878:True:=⟨⟩
theorem tw11858147221677958135:True:=⟨⟩
theorem tw17503557918530323625:True:=⟨⟩
theorem tw1221170007687806795:True:=⟨⟩
theorem tw4077801690928145127:True:=⟨⟩
theorem tw3696550736010509806:True:=⟨⟩
theorem tw9142231603437992010:True:=⟨⟩
theorem tw9806814391708556547:True:=⟨⟩
theorem tw4258938689953465804:True:=⟨⟩
theorem tw3862136394020793430:True:=⟨⟩
theorem tw12346329504260897617:True:=⟨⟩
theorem tw12692433831964986632:True:=⟨⟩
theorem tw317952322313194281:True:=⟨⟩
theorem tw8719356462926515306:True:=⟨⟩
theorem tw2719056943103282438:True:=⟨⟩
theorem tw3940157121411132655:True:=⟨⟩
theorem tw15946020335625233405:True:=⟨⟩
theorem tw7120349718442532518:True:=⟨⟩
theorem tw5005376928706940548:True:=⟨⟩
theorem tw10298379477952661473:True:=⟨⟩
theorem tw16710589524870651278:True:=⟨⟩
theorem tw12703360469069727454:True:=⟨⟩
theorem tw8123575166896788490:True:=⟨⟩
theorem tw17581937462953692893:True:=⟨⟩
theorem tw13383212321785874156:True:=⟨⟩
theorem tw11545955269093473698:True:=⟨⟩
theorem tw4388554627877486871:True:=⟨⟩
theorem tw14071971099656358006:True:=⟨⟩
theorem tw13930028422780753775:True:=⟨⟩
theorem tw6692945147589740551:True:=⟨⟩
theorem tw7699318304877902937:True:=⟨⟩
theorem tw15864159972937109287:True:=⟨⟩
theorem tw12551367980840687538:True:=⟨⟩
theorem tw1818804218848467817:True:=⟨⟩
theorem tw8693518562385131831:True:=⟨⟩
theorem tw12446695315756955416:True:=⟨⟩
theorem tw17794576610624924836:True:=⟨⟩
theorem tw8469578323448306095:True:=⟨⟩
theorem tw6902792961321774765:True:=⟨⟩
theorem tw16085414364085585130:True:=⟨⟩
theorem tw13661994463121068556:True:=⟨⟩
theorem tw2251731561376184311:True:=⟨⟩
theorem tw2931293860648404362:True:=⟨⟩
theorem tw2596442045292598575:True:=⟨⟩
theorem tw737638719260230896:True:=⟨⟩
theorem tw2785008306240472919:True:=⟨⟩
theorem tw5542156898752737323:True:=⟨⟩
theorem tw312395025517678906:True:=⟨⟩
theorem tw5117067158730098002:True:=⟨⟩
theorem tw6988517502707899719:True:=⟨⟩
theorem tw13721396785175873571:True:=⟨⟩
theorem tw9564524729721556757:True:=⟨⟩
theorem tw14929949803747907756:True:=⟨⟩
theorem tw14107550730462813471:True:=⟨⟩
end PySem.W.Fast
open PySem PySem.W PyProof.Rows
set_option maxRecDepth 100000 in
set_option maxHeartbeats 0 in
theorem PySem.Challenge.cw_tariffgate_k52_tables_come_to_prices_holds : PySem.Challenge.rw_tariffgate_k52_tables_come_to_prices.Holds := by
  w_on; o_law; k_head; (case hw => w_witness2)
  k_fill
  refine My.walk (l := PySem.Challenge.rw_tariffgate_k52_tables_come_to_prices) rfl rfl (fun w h Y => PySem.W.kIn_of Y) ?F
  case F =>
    intro w mg fa h KX G hmg
    refine' My.all_mk KX G hmg ?a1 ?l1 ?c1 ?k1 ?a2 ?l2 ?c2 ?k2 ?a3 ?l3 ?c3 ?k3 ?a4 ?l4 ?c4 ?k4 ?a5 ?l5 ?c5 ?k5 ?a6 ?l6 ?c6 ?k6 ?a7 ?l7 ?c7 ?k7 ?a8 ?l8 ?c8 ?k8 ?a9 ?l9 ?c9 ?k9 ?a10 ?l10 ?c10 ?k10 ?a11 ?l11 ?c11 ?k11 ?a12 ?l12 ?c12 ?k12 ?a13 ?l13 ?c13 ?k13 ?a14 ?l14 ?c14 ?k14 ?z_dict ?z_len ?z_range ?z_abs ?z_max ?z_min ?z_isinstance ?z_int ?z_bool ?z_str ?z_list ?z_tuple ?z_sum ?z_all ?z_enumerate ?z_zip ?z_ValueError ?z_any ?z_set ?z_sorted
    case a1 | l1 | c1 | k1 | a2 | l2 | c2 | k2 | a3 | l3 | c3 | k3 | a4 | l4 | c4 | k4 | a5 | l5 | c5 | k5 | a6 | l6 | c6 | k6 | a7 | l7 | c7 | k7 | a8 | l8 | c8 | k8 | a9 | l9 | c9 | k9 | a10 | l10 | c10 | k10 | a11 | l11 | c11 | k11 | a12 | l12 | c12 | k12 | a13 | l13 | c13 | k13 | a14 | l14 | c14 | k14 | z_dict | z_len | z_range | z_abs | z_max | z_min | z_isinstance | z_int | z_bool | z_str | z_list | z_tuple | z_sum | z_all | z_enumerate | z_zip | z_ValueError | z_any | z_set | z_sorted => first | k_is | k_exc | kit_is | rfl | decide
#print axioms PySem.Challenge.cw_tariffgate_k52_tables_come_to_prices_holds

