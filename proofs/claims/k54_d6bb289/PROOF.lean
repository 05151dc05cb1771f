import PyProof.Rows.All
import Wide.All
import OpenK.AllK
import Wide.FinOn
import Lean
import PyProof.EqAt
import PyProof.EqKinds
import PyProof.TupleCall
import PyProof.NeKinds
import PyProof.Draws
import PyProof.EnumMake
import PyProof.WalksEnum
import PyProof.Rows.EnumRows
import PyProof.ExcArgsOwn
import PyProof.ExcAttrAll.ValueError
import PyProof.ExcBaseAll.ValueError
import KE.KIsAll
import KE.KTryOn
import KE.RegKIsAll
import OpenK.KOwn
import PyProof.ZipIter
import PyProof.StrWalks
import PyProof.DictTable
import PyProof.SetNew
import PyProof.SetRoads
import PyProof.P3In
import PyProof.NeData
import PySem.Challenge.RW_tariffgate_k54_joined_rules
set_option Elab.async false
set_option linter.all false
set_option maxRecDepth 100000
namespace L2
open PySem PySem.Spec PyProof.Rows

abbrev Key := Sum Int Str
def keyIs : Key → Value → Bool
  | .inl k, v => Value.isInt k v
  | .inr x, v => Value.isStrOf x v
def keyH (w : World) : Key → Int
  | .inl k => hashInt k
  | .inr x => hashStr w x
theorem keyIs_shape : ∀ {k : Key} {v : Value}, keyIs k v = true → (∃ i t, k = Sum.inl i ∧ v = Value.int i t) ∨ (∃ x t, k = Sum.inr x ∧ v = Value.str x t)
  | .inl i, v, h => by
    obtain ⟨t, e⟩ := Value.isInt_shape (k := i) (v := v) h
    exact .inl ⟨i, t, rfl, e⟩
  | .inr x, v, h => by
    obtain ⟨t, e⟩ := Value.isStrOf_shape (x := x) (v := v) h
    exact .inr ⟨x, t, rfl, e⟩
theorem key_ll (a b : Int) : decide ((Sum.inl a : Key) = Sum.inl b) = (a == b) := by
  by_cases e : a = b
  · subst e; simp
  · have h : ¬ (Sum.inl a : Key) = Sum.inl b := fun q => e (Sum.inl.inj q)
    rw [decide_eq_false h]
    exact (beq_eq_false_iff_ne.mpr e).symm
theorem key_rr (a b : Str) : decide ((Sum.inr a : Key) = Sum.inr b) = decide (a = b) := by
  by_cases e : a = b
  · subst e; simp
  · have h : ¬ (Sum.inr a : Key) = Sum.inr b := fun q => e (Sum.inr.inj q)
    rw [decide_eq_false h, decide_eq_false e]
theorem key_lr (a : Int) (b : Str) : decide ((Sum.inl a : Key) = Sum.inr b) = false := decide_eq_false (fun q => nomatch q)
theorem key_rl (a : Str) (b : Int) : decide ((Sum.inr a : Key) = Sum.inl b) = false := decide_eq_false (fun q => nomatch q)

def mixKind (prog : Program) (w : World) : PySem.KeyKind prog w Key where
  is := keyIs
  hash := keyH w
  inj := fun v a b ha hb => by
    rcases keyIs_shape ha with ⟨i, t, rfl, rfl⟩ | ⟨x, t, rfl, rfl⟩
    · rcases keyIs_shape hb with ⟨j, u, rfl, e⟩ | ⟨y, u, rfl, e⟩
      · injection e with e1 _; rw [e1]
      · exact nomatch e
    · rcases keyIs_shape hb with ⟨j, u, rfl, e⟩ | ⟨y, u, rfl, e⟩
      · exact nomatch e
      · injection e with e1 _; rw [e1]
  byValue := fun k v h => by
    rcases keyIs_shape h with ⟨i, t, rfl, rfl⟩ | ⟨x, t, rfl, rfl⟩ <;> rfl
  pyHash := fun hv h => by
    rcases keyIs_shape hv with ⟨i, t, rfl, rfl⟩ | ⟨x, t, rfl, rfl⟩
    · exact wpAny_pyHash_int h
    · exact wpAny_pyHash_str h
  eqBool := fun hu hv h => by
    rcases keyIs_shape hu with ⟨i, t, rfl, rfl⟩ | ⟨x, t, rfl, rfl⟩
    · rcases keyIs_shape hv with ⟨j, u, rfl, rfl⟩ | ⟨y, u, rfl, rfl⟩
      · rw [key_ll] at h; exact wpAny_eqBool_int h
      · rw [key_lr] at h; exact SeqAt.EqAt.int_str i t y u _ _ _ _ h
    · rcases keyIs_shape hv with ⟨j, u, rfl, rfl⟩ | ⟨y, u, rfl, rfl⟩
      · rw [key_rl] at h; exact SeqAt.EqAt.str_int x t j u _ _ _ _ h
      · rw [key_rr] at h; exact wpAny_eqBool_str h
  «strs» := fun k x t v h => by
    rcases keyIs_shape h with ⟨i, u, rfl, e⟩ | ⟨y, u, rfl, e⟩
    · exact nomatch e
    · injection e with e1 _
      subst e1
      cases v <;> rfl

end L2

namespace L2
open PySem PySem.Spec PyProof.Rows

inductive V where
  | non | bl (b : Bool) | int (i : Int) | str (x : Str) | byt (b : Array UInt8) | flt (b : UInt64) | ref (a : Addr) | ty (n : String)
  deriving DecidableEq

def RelV : V → Value → Prop
  | .non, u => u = Value.none
  | .bl b, u => u = Value.bool b
  | .int i, u => ∃ t, u = Value.int i t
  | .str x, u => ∃ t, u = Value.str x t
  | .byt b, u => ∃ t, u = Value.bytes b t
  | .flt b, u => ∃ t, u = Value.float b t
  | .ref a, u => u = Value.ref a
  | .ty n, u => u = Value.type n

abbrev Vals : List V → List Value → Prop := Paired RelV
theorem Vals.length {xs : List V} {us : List Value} (r : Vals xs us) : xs.length = us.length := Paired.length r
theorem Vals.get : ∀ {xs : List V} {us : List Value} {i : Nat} {x : V}, Vals xs us → xs[i]? = some x → ∃ u, us[i]? = some u ∧ RelV x u
  | _, _, _, _, .nil, e => by simp at e
  | _, _, 0, _, .cons r _, e => by simp at e; subst e; exact ⟨_, rfl, r⟩
  | _, _, i + 1, x, .cons _ t, e => by
    obtain ⟨u, h1, h2⟩ := Vals.get (i := i) (x := x) t (by simpa using e)
    exact ⟨u, by simpa using h1, h2⟩
theorem Vals.set {x : V} {u : Value} (r : RelV x u) : ∀ {xs : List V} {us : List Value} (i : Nat), Vals xs us → Vals (xs.set i x) (us.set i u)
  | _, _, _, .nil => .nil
  | _, _, 0, .cons _ t => .cons r t
  | _, _, i + 1, .cons q t => .cons q (Vals.set r i t)
theorem Vals.append : ∀ {xs ys : List V} {us ws : List Value}, Vals xs us → Vals ys ws → Vals (xs ++ ys) (us ++ ws)
  | _, _, _, _, .nil, s => s
  | _, _, _, _, .cons r t, s => .cons r (Vals.append t s)
theorem Vals.take : ∀ {xs : List V} {us : List Value} (n : Nat), Vals xs us → Vals (xs.take n) (us.take n)
  | _, _, 0, _ => .nil
  | _, _, _ + 1, .nil => .nil
  | _, _, n + 1, .cons r t => .cons r (Vals.take n t)
theorem Vals.drop : ∀ {xs : List V} {us : List Value} (n : Nat), Vals xs us → Vals (xs.drop n) (us.drop n)
  | _, _, 0, r => r
  | _, _, _ + 1, .nil => .nil
  | _, _, n + 1, .cons _ t => Vals.drop n t
theorem Vals.none_of : ∀ {xs : List V} {us : List Value} {i : Nat}, Vals xs us → xs[i]? = none → us[i]? = none := fun {xs us i} r e => by
  have h1 := r.length
  have h2 : xs.length ≤ i := List.getElem?_eq_none_iff.mp e
  exact List.getElem?_eq_none_iff.mpr (by omega)

def RelO : Option V → Option Value → Prop
  | some v, some u => RelV v u
  | none, none => True
  | _, _ => False
def KV {κ : Type} : List (κ × V) → List (κ × Value) → Prop := Paired fun (p : κ × V) (q : κ × Value) => p.1 = q.1 ∧ RelV p.2 q.2

def kV : Key → V
  | .inl i => .int i
  | .inr x => .str x

inductive HO where
  /-- a list -/
  | lst (xs : List V)
  /-- a tuple (never changes) -/
  | tup (xs : List V)
  /-- a dict whose keys are ints and texts; one whose keys are tuples of ints and texts (the empty one is both) -/
  | dK (kvs : List (Key × V)) | dT (kvs : List (List Key × V))
  /-- a set of ints: its members, its size -/
  | set (S : Int → Bool) (n : Nat)
  /-- an instance of the class at C, its dict at dx, its attributes -/
  | ins (C dx : Addr) (fs : List (Str × V))
  /-- the dict of the instance at x -/
  | own (x : Addr)
  /-- the dict of an exception -/
  | xd (fs : List (Str × V))
  /-- a bound method, f of x -/
  | met (f x : Addr)
  /-- a range object lo, lo + 1, .. below hi -/
  | rng (lo hi : Int)
  /-- a thing that is known to the object (the script; a dict while a loop walks it): read, never written while it is so -/
  | frz (o : Obj) (u : HO)
  /-- a code object's table -/
  | tbl (ps : Array Value)
  /-- any other thing, by what is true of its one object (a def of one's own: SetO a S n := HO.ext fun h => ..) -/
  | ext (φ : Heap → Prop)

abbrev Hp := Addr → Option HO
def upd (H : Hp) (a : Addr) (o : HO) : Hp := fun b => if b = a then some o else H b
theorem upd_same {H : Hp} {a : Addr} {o : HO} : upd H a o a = some o := by unfold upd; rw [if_pos rfl]
theorem upd_ne {H : Hp} {a b : Addr} {o : HO} (h : b ≠ a) : upd H a o b = H b := by unfold upd; rw [if_neg h]
theorem ne_of {H : Hp} {a b : Addr} {o u : HO} (h : H a = some o) (h' : H b = some u) (d : o ≠ u) : a ≠ b := by
  intro e; subst e; rw [h] at h'; exact d (Option.some.inj h')
theorem ne_of_none {H : Hp} {a b : Addr} {o : HO} (h : H a = some o) (h' : H b = none) : a ≠ b := by
  intro e; subst e; rw [h] at h'; cases h'

section
variable (P : Program) (w : World)
def NoD (h : Heap) (a : Addr) : Prop := ∃ o, h.get? a = some o ∧ o.dict = none
def ObjOk (H : Hp) (h : Heap) (a : Addr) : HO → Prop
  | .lst xs => xs.length ≤ sizeLine ∧ ∃ (its : List Value) (n : Nat), Vals xs its ∧ h.get? a = some { cls := .type "list", data := .seq its.toArray n }
  | .tup xs => xs.length ≤ sizeLine ∧ ∃ its : List Value, Vals xs its ∧ IsTup h a its.toArray ∧ NoD h a
  | .dK kvs => kvs.length ≤ sizeLine ∧ (a == sysModules) = false ∧ ∃ vs, KV kvs vs ∧ h.DictOf (mixKind P w) a vs
  | .dT kvs => kvs.length ≤ sizeLine ∧ (a == sysModules) = false ∧ ∃ xs : List (List Key × Addr × Value),
      Paired (fun (p : List Key × V) (q : List Key × Addr × Value) => p.1 = q.1 ∧ H q.2.1 = some (.tup (p.1.map kV)) ∧ RelV p.2 q.2.2) kvs xs ∧
      ∃ o es ep, h.get? a = some o ∧ o.ExactDict ∧ o.data = .dict es ep ∧ es.toList = xs.map (entryOfKey (tupleKind (mixKind P w))) ∧ (xs.map (·.1)).Nodup
  | .set S n => h.SetOf (intKind P w) a S n
  | .ins C dx fs => H dx = some (.own a) ∧ fs.length ≤ 1000 ∧ dx ≠ a ∧ h.get? a = some (PySem.W.instObj C dx) ∧
      ∃ mA, h.Ns1 dx mA ∧ (∀ f, RelO (fs.lookup f) (mA f)) ∧ PySem.Within mA (fs.map (·.1))
  | .own _ => ∃ o, h.get? a = some o
  | .xd fs => ∃ mA, h.Ns1 a mA ∧ ∀ f, RelO (fs.lookup f) (mA f)
  | .rng lo hi => ∃ t u v, h.get? a = some { cls := .type "range", data := .fields #[.int lo t, .int hi u, .int 1 v] }
  | .frz o u => h.get? a = some o ∧ ObjOk H h a u
  | .tbl ps => h.get? a = some { cls := .none, data := .fields ps }
  | .met f x => h.get? a = some (PySem.W.methodObj (.ref f) (.ref x))
  | .ext φ => φ h ∧ (∃ o, h.get? a = some o) ∧ ∀ h1 h2 : Heap, φ h1 → (∀ o, h1.get? a = some o → h2.get? a = some o) → φ h2
def HOk (H : Hp) (h : Heap) : Prop := ∀ a o, H a = some o → ObjOk P w H h a o
end

section
variable {P : Program} {w : World} {H H' : Hp} {h h' : Heap} {a : Addr} {o : HO}
theorem ObjOk.lt (x : ObjOk P w H h a o) : a < h.objs.size := by
  cases o with
  | lst xs => obtain ⟨_, _, _, _, e⟩ := x; exact Heap.lt_size e
  | tup xs => obtain ⟨_, _, _, p, _⟩ := x; exact p.lt
  | dK kvs => obtain ⟨_, _, _, _, o, _, _, e, _⟩ := x; exact Heap.lt_size e
  | dT kvs => obtain ⟨_, _, _, _, o, _, _, e, _⟩ := x; exact Heap.lt_size e
  | set S n => obtain ⟨o, _, _, _, e, _⟩ := x; exact Heap.lt_size e
  | ins C dx fs => obtain ⟨_, _, _, e, _⟩ := x; exact Heap.lt_size e
  | own y => obtain ⟨_, e⟩ := x; exact Heap.lt_size e
  | xd fs => obtain ⟨_, ⟨_, _, _, e, _⟩, _⟩ := x; exact Heap.lt_size e
  | rng lo hi => obtain ⟨_, _, _, e⟩ := x; exact Heap.lt_size e
  | frz ob u => obtain ⟨e, _⟩ := x; exact Heap.lt_size e
  | tbl ps => exact Heap.lt_size (show h.get? a = some _ from x)
  | met f y => exact Heap.lt_size (show h.get? a = some _ from x)
  | ext φ => obtain ⟨_, ⟨_, e⟩, _⟩ := x; exact Heap.lt_size e
theorem Paired.mapP {α β : Type} {F G : α → β → Prop} : ∀ {l₁ : List α} {l₂ : List β}, Paired F l₁ l₂ → (∀ a b, F a b → G a b) → Paired G l₁ l₂
  | _, _, .nil, _ => .nil
  | _, _, .cons r t, f => .cons (f _ _ r) (Paired.mapP t f)
theorem ObjOk.stay (x : ObjOk P w H h a o) (k : ∀ b u, (b = a ∨ H b = some (.own a)) → h.get? b = some u → h'.get? b = some u)
    (ho : ∀ b, H b = some (.own a) → H' b = some (.own a)) (ht : ∀ b xs, H b = some (.tup xs) → H' b = some (.tup xs)) : ObjOk P w H' h' a o := by
  induction o with
  | lst xs => obtain ⟨z, its, n, r, e⟩ := x; exact ⟨z, its, n, r, k _ _ (.inl rfl) e⟩
  | tup xs => obtain ⟨z, its, r, ⟨ob, e, c⟩, o2, e2, d2⟩ := x; exact ⟨z, its, r, ⟨ob, k _ _ (.inl rfl) e, c⟩, o2, k _ _ (.inl rfl) e2, d2⟩
  | dK kvs => obtain ⟨z, y, vs, r, ob, es, ep, e, c⟩ := x; exact ⟨z, y, vs, r, ob, es, ep, k _ _ (.inl rfl) e, c⟩
  | dT kvs =>
    obtain ⟨z, y, xs, r, ob, es, ep, e, c⟩ := x
    exact ⟨z, y, xs, Paired.mapP r fun p q z => ⟨z.1, ht _ _ z.2.1, z.2.2⟩, ob, es, ep, k _ _ (.inl rfl) e, c⟩
  | set S n => obtain ⟨ob, es, ep, t, e, c⟩ := x; exact ⟨ob, es, ep, t, k _ _ (.inl rfl) e, c⟩
  | ins C dx fs =>
    obtain ⟨d, z, ne, e, mA, ⟨od, es, ep, e2, c⟩, r⟩ := x
    exact ⟨ho _ d, z, ne, k _ _ (.inl rfl) e, mA, ⟨od, es, ep, k _ _ (.inr d) e2, c⟩, r⟩
  | own y => obtain ⟨ob, e⟩ := x; exact ⟨ob, k _ _ (.inl rfl) e⟩
  | xd fs => obtain ⟨mA, ⟨od, es, ep, e, c⟩, r⟩ := x; exact ⟨mA, ⟨od, es, ep, k _ _ (.inl rfl) e, c⟩, r⟩
  | rng lo hi => obtain ⟨t, u, v, e⟩ := x; exact ⟨t, u, v, k _ _ (.inl rfl) e⟩
  | frz ob u ih => obtain ⟨e, q⟩ := x; exact ⟨k _ _ (.inl rfl) e, ih q⟩
  | tbl ps =>
    have e : h.get? a = some { cls := .none, data := .fields ps } := x
    show h'.get? a = some { cls := .none, data := .fields ps }
    exact k a _ (.inl rfl) e
  | met f y =>
    have e : h.get? a = some (PySem.W.methodObj (.ref f) (.ref y)) := x
    show h'.get? a = some (PySem.W.methodObj (.ref f) (.ref y))
    exact k a _ (.inl rfl) e
  | ext φ => obtain ⟨p, ⟨o, e⟩, st⟩ := x; exact ⟨st _ _ p fun o q => k _ _ (.inl rfl) q, ⟨o, k _ _ (.inl rfl) e⟩, st⟩
theorem HOk.lt (x : HOk P w H h) (e : H a = some o) : a < h.objs.size := (x a o e).lt
theorem HOk.fresh (x : HOk P w H h) (e : h.objs.size ≤ a) : H a = none := by
  cases q : H a with
  | none => rfl
  | some u => exact absurd (Nat.lt_of_lt_of_le (x.lt q) e) (Nat.lt_irrefl _)
theorem HOk.kept (x : HOk P w H h) (k : ∀ b u, h.get? b = some u → h'.get? b = some u) : HOk P w H h' := fun a o e =>
  (x a o e).stay (fun b u _ q => k b u q) (fun _ q => q) fun _ _ q => q
theorem HOk.laid (x : HOk P w H h) (k : ∀ b u, h.get? b = some u → h'.get? b = some u) (hp : h.objs.size ≤ a) (new : ObjOk P w (upd H a o) h' a o) : HOk P w (upd H a o) h' := fun b u e => by
  have hn := x.fresh hp
  by_cases hb : b = a
  · subst hb; rw [upd_same] at e; cases e; exact new
  · rw [upd_ne hb] at e
    exact (x b u e).stay (fun c v _ q => k c v q) (fun c q => by rw [upd_ne (ne_of_none q hn)]; exact q) fun c xs q => by rw [upd_ne (ne_of_none q hn)]; exact q
end

def Rd (H : Hp) (a : Addr) (u : HO) : Prop := H a = some u ∨ ∃ o, H a = some (.frz o u)
theorem Rd.of {H : Hp} {a : Addr} {u : HO} (h : H a = some u) : Rd H a u := .inl h
theorem Rd.ok {P : Program} {w : World} {H : Hp} {h : Heap} {a : Addr} {u : HO} (r : Rd H a u) (x : HOk P w H h) : ObjOk P w H h a u := by
  rcases r with r | ⟨o, r⟩
  · exact x a u r
  · obtain ⟨_, q⟩ := x a _ r
    exact q
def Mut : Option HO → Prop
  | some (.lst _) => True
  | some (.dK _) => True
  | some (.dT _) => True
  | some (.set _ _) => True
  | some (.ins _ _ _) => True
  | some (.ext _) => True
  | _ => False
section
variable {P : Program} {w : World} {H : Hp} {h h' : Heap} {x e : Addr} {o' : HO}
theorem HOk.write (ok : HOk P w H h) (mu : Mut (H x)) (he : e = x ∨ H e = some (.own x)) (k : ∀ b u, b ≠ e → h.get? b = some u → h'.get? b = some u) (heo : ∃ u, h'.get? e = some u)
    (new : ObjOk P w (upd H x o') h' x o') : HOk P w (upd H x o') h' := fun b u q => by
  have nown : ∀ c y, H c = some (.own y) → c ≠ x := fun c y r z => by subst z; rw [r] at mu; exact mu
  have ntup : ∀ c xs, H c = some (.tup xs) → c ≠ x := fun c xs r z => by subst z; rw [r] at mu; exact mu
  by_cases hb : b = x
  · subst hb; rw [upd_same] at q; cases q; exact new
  · rw [upd_ne hb] at q
    by_cases hbe : b = e
    · have q' : H b = some (.own x) := by
        rcases he with z | z
        · exact absurd (hbe.trans z) hb
        · rw [hbe]; exact z
      rw [q] at q'; cases q'
      obtain ⟨v, hv⟩ := heo
      exact ⟨v, by rw [hbe]; exact hv⟩
    · refine (ok b u q).stay (fun c v hc r => k c v ?_ r) (fun c r => by rw [upd_ne (nown c b r)]; exact r) fun c xs r => by rw [upd_ne (ntup c xs r)]; exact r
      rcases hc with rfl | hc
      · exact hbe
      · rintro rfl
        rcases he with z | z
        · exact nown c b hc z
        · rw [hc] at z; cases z; exact hb rfl
end

structure Un (fs ex : List Addr) (H H' : Hp) (h h' : Heap) : Prop where
  keep : ∀ b o, h.get? b = some o → H b = none → b ∉ fs → b ∉ ex → h'.get? b = some o
  slot : ∀ b o, h.get? b = some o → H b = none → b ∈ fs → b ∉ ex → ∃ sl, h'.get? b = some { o with slots := sl }
  free : ∀ b o, h.get? b = some o → H b = none → b ∉ ex → H' b = none
  there : ∀ b o, h.get? b = some o → b ∉ ex → ∃ o', h'.get? b = some o'
  tups : ∀ b xs, H b = some (.tup xs) → H' b = some (.tup xs)
  frzs : ∀ b o u, H b = some (.frz o u) → H' b = some (.frz o u)
  tbls : ∀ b ps, H b = some (.tbl ps) → ∃ more, H' b = some (.tbl (ps ++ more))
section
variable {fs fs' ex ex' : List Addr} {H H1 H2 : Hp} {h h1 h2 h' : Heap} {a x e : Addr} {o : HO}
theorem Un.any (u : Un fs ex H H1 h h1) {b : Addr} {ob : Obj} (q : h.get? b = some ob) (n : H b = none) (hx : b ∉ ex) : ∃ sl, h1.get? b = some { ob with slots := sl } := by
  by_cases hb : b ∈ fs
  · exact u.slot b ob q n hb hx
  · exact ⟨ob.slots, u.keep b ob q n hb hx⟩
theorem Un.trans (a : Un fs ex H H1 h h1) (b : Un fs ex H1 H2 h1 h2) : Un fs ex H H2 h h2 where
  keep := fun c ob q n hc hx => b.keep c ob (a.keep c ob q n hc hx) (a.free c ob q n hx) hc hx
  slot := fun c ob q n hc hx => by
    obtain ⟨sl, e1⟩ := a.slot c ob q n hc hx
    obtain ⟨sl', e2⟩ := b.slot c _ e1 (a.free c ob q n hx) hc hx
    exact ⟨sl', e2⟩
  free := fun c ob q n hx => by
    obtain ⟨o', e1⟩ := a.there c ob q hx
    exact b.free c o' e1 (a.free c ob q n hx) hx
  there := fun c ob q hx => by
    obtain ⟨o', e1⟩ := a.there c ob q hx
    exact b.there c o' e1 hx
  tups := fun c xs q => b.tups c xs (a.tups c xs q)
  frzs := fun c ob xs q => b.frzs c ob xs (a.frzs c ob xs q)
  tbls := fun c ps q => by
    obtain ⟨m1, e1⟩ := a.tbls c ps q
    obtain ⟨m2, e2⟩ := b.tbls c _ e1
    exact ⟨m1 ++ m2, by rw [e2, Array.append_assoc]⟩
theorem Un.kept (k : ∀ b u, h.get? b = some u → h'.get? b = some u) : Un fs ex H H h h' :=
  ⟨fun b ob q _ _ _ => k b ob q, fun b ob q _ _ _ => ⟨ob.slots, k b ob q⟩, fun _ _ _ n _ => n, fun b ob q _ => ⟨ob, k b ob q⟩, fun _ _ q => q, fun _ _ _ q => q, fun _ ps q => ⟨#[], by rw [q]; simp⟩⟩
theorem Un.refl : Un fs ex H H h h := Un.kept fun _ _ q => q
theorem Un.laid (k : ∀ b u, h.get? b = some u → h'.get? b = some u) (hp : h.objs.size ≤ a) (hn : H a = none) : Un fs ex H (upd H a o) h h' where
  keep := fun b u q _ _ _ => k b u q
  slot := fun b u q _ _ _ => ⟨u.slots, k b u q⟩
  free := fun b u q n _ => by rw [upd_ne (Nat.ne_of_lt (Nat.lt_of_lt_of_le (Heap.lt_size q) hp))]; exact n
  there := fun b u q _ => ⟨u, k b u q⟩
  tups := fun b xs q => by rw [upd_ne (ne_of_none q hn)]; exact q
  frzs := fun b u xs q => by rw [upd_ne (ne_of_none q hn)]; exact q
  tbls := fun b ps q => ⟨#[], by rw [upd_ne (ne_of_none q hn), q]; simp⟩
theorem Un.write (mu : Mut (H x)) (he : e = x ∨ H e = some (.own x)) (k : ∀ b u, b ≠ e → h.get? b = some u → h'.get? b = some u) (heo : ∃ u, h'.get? e = some u) : Un fs ex H (upd H x o) h h' := by
  have hx : ∀ b, H b = none → b ≠ x := fun b n z => by subst z; rw [n] at mu; exact mu
  have hb : ∀ b, H b = none → b ≠ e := fun b n z => by
    subst z
    rcases he with r | r
    · exact hx b n r
    · rw [n] at r; cases r
  have hm : ∀ b u, H b = some u → ¬ Mut (some u) → b ≠ x := fun b u q nm z => by subst z; rw [q] at mu; exact nm mu
  refine ⟨fun b u q n _ _ => k b u (hb b n) q, fun b u q n _ _ => ⟨u.slots, k b u (hb b n) q⟩, fun b u q n _ => by rw [upd_ne (hx b n)]; exact n, fun b u q _ => ?_,
    fun b xs q => by rw [upd_ne (hm b _ q fun z => z)]; exact q, fun b u xs q => by rw [upd_ne (hm b _ q fun z => z)]; exact q, fun b ps q => ⟨#[], by rw [upd_ne (hm b _ q fun z => z), q]; simp⟩⟩
  by_cases hbe : b = e
  · subst hbe; exact heo
  · exact ⟨u, k b u hbe q⟩
theorem Un.mono (u : Un fs ex H H1 h h1) (hs : ∀ b ∈ fs, b ∈ fs') (hx : ∀ b ∈ ex, b ∈ ex') : Un fs' ex' H H1 h h1 :=
  ⟨fun b ob q n hb he => u.keep b ob q n (fun z => hb (hs b z)) fun z => he (hx b z), fun _ _ q n _ he => u.any q n fun z => he (hx _ z), fun b ob q n he => u.free b ob q n fun z => he (hx b z), fun b ob q he => u.there b ob q fun z => he (hx b z), u.tups, u.frzs, u.tbls⟩
end

def trk (h : Heap) (H : Hp) : List Addr := (List.range h.objs.size).filter fun a => (H a).isSome
def hidT (h : Heap) (H : Hp) : Heap := PySem.W.hideAll h (trk h H)
theorem hidT_size (h : Heap) (H : Hp) : (hidT h H).objs.size = h.objs.size := PySem.W.hideAll_size _ _
theorem hidT_get {h : Heap} {H : Hp} {b : Addr} {o : Obj} (e : h.get? b = some o) (n : H b = none) : (hidT h H).get? b = some o :=
  PySem.W.hideAll_get _ e fun hm => by
    have q : (H b).isSome = true := (List.mem_filter.mp hm).2
    rw [n] at q; simp at q
theorem of_hidT {h : Heap} {H : Hp} {b : Addr} {o : Obj} (e : (hidT h H).get? b = some o) : h.get? b = some o ∧ H b = none := by
  have e' : h.get? b = some o := PySem.W.of_hideAll (trk h H) e
  refine ⟨e', ?_⟩
  cases q : H b with
  | none => rfl
  | some x =>
    have hm : b ∈ trk h H := List.mem_filter.mpr ⟨List.mem_range.mpr (Heap.lt_size e'), by simp [q]⟩
    have z : (hidT h H).get? b = none := PySem.W.hideAll_none (trk h H) hm
    rw [z] at e; cases e

def allNews (g h : Heap) (L : Addr) : List (Addr × Obj) := (List.range h.objs.size).filterMap fun a => if a = L ∨ (g.get? a).isSome = true then none else (h.get? a).map fun o => (a, o)
def rest (g h : Heap) (L d : Addr) : List (Addr × Obj) := (allNews g h L).filter fun p => decide (p.1 ≠ d)
end L2

namespace L2
open PySem PySem.Spec PyProof.Rows

structure Mod (K : PySem.W.Frag) (mg : Str → Option Value) (base : Heap) : Prop where
  kin : K.In base
  glob : base.Ns mainGlobals mg
  blt : ∃ mb, base.Ns builtinsNs mb ∧ ∀ x : Str, x ≠ "__name__" → mb x = bootBuiltins x
  nolimit : base.NoLimit

structure Cx where
  prog : Program
  w : World
  K : PySem.W.Frag
  mg : Str → Option Value
  base : Heap
  A : Around
  N : List Str
  s₀ : Shared
  H₀ : Hp
  env : Env
  outer : List Env
  stack : List Env
  ex : List Addr
  fn : Str → Bool
  calm : Bool
  pn : List (Addr × Obj)
  xe : Value → Shared → Prop
def frs (l : List Env) : List Addr := l.filterMap (·.frame)
abbrev Cx.fs (X : Cx) : List Addr := frs X.outer

def Vis (sc : Scope) (x : Str) : Prop := sc.names.lookup x = some .local ∨ sc.names.lookup x = some .cell ∨ sc.names.lookup x = some .free
def Loc (sc : Scope) (x : Str) : Prop := sc.names.lookup x = some .local ∨ sc.names.lookup x = some .cell
def Look (env : Env) (h : Heap) (m : Str → Option Value) (x : Str) (u : Value) : Prop :=
  (env.kindOf x = some .local ∧ m x = some u) ∨ ((env.kindOf x = some .cell ∨ env.kindOf x = some .free) ∧ ∃ c, env.cells.lookup x = some c ∧ h.IsCell c (some u))

structure Cx.Ok (X : Cx) : Prop where
  mod : Mod X.K X.mg X.base
  kind : X.env.scope.kind = .function
  glob : X.env.globals = mainGlobals
  blt : X.env.builtins = builtinsNs
  above : X.s₀.heap.objs.size ≤ X.env.locals
  inj : ∀ x y c, X.env.cells.lookup x = some c → X.env.cells.lookup y = some c → x = y
  has : ∀ x, (X.env.kindOf x = some .cell ∨ X.env.kindOf x = some .free) → ∃ c, X.env.cells.lookup x = some c
  cab : ∀ x c, X.fn x = true → X.env.cells.lookup x = some c → X.s₀.heap.objs.size ≤ c
  hd : X.calm = true → X.A.handled = none
  frames : X.A.frames = some X.stack
  stk : X.stack = X.outer ∨ (X.stack = X.env :: X.outer ∧ X.env.frame = some X.env.locals)
  exf : ∀ b ∈ X.ex, b ≠ X.env.locals ∧ ∀ x c, X.env.cells.lookup x = some c → c ≠ b
  bs : ∀ b o, X.base.get? b = some o → X.s₀.heap.get? b = some o ∧ X.H₀ b = none
  bsz : X.base.objs.size ≤ X.s₀.heap.objs.size
  noex : ∀ b o, X.base.get? b = some o → b ∉ X.ex
  exfs : ∀ b ∈ X.ex, b ∉ X.fs
  funs : X.s₀.heap.FunFrames X.base X.outer
  frf : ∀ b ∈ X.fs, X.H₀ b = none

structure Inv (X : Cx) (pins : List (Addr × Obj)) (σ : List (Option V)) (H : Hp) (s : Shared) : Prop where
  ok : X.Ok
  os : s.os = X.s₀.os
  bare : AllBare s.gens
  base : Un X.fs X.ex X.H₀ H X.s₀.heap s.heap
  loc : ∃ m, s.heap.Ns X.env.locals m ∧ ∀ (i : Nat) (x : Str) (v : V), X.N[i]? = some x → σ[i]? = some (some v) → Vis X.env.scope x → ∃ u, RelV v u ∧ Look X.env s.heap m x u
  cell : ∀ x c, X.env.cells.lookup x = some c → ∃ v, s.heap.IsCell c v
  free : H X.env.locals = none
  freeC : ∀ x c, X.env.cells.lookup x = some c → H c = none
  pin : ∀ p ∈ X.pn ++ pins, s.heap.get? p.1 = some p.2 ∧ H p.1 = none ∧ p.1 ≠ X.env.locals ∧ p.1 ∉ X.fs ∧ ∀ v, p.2.data ≠ .cell v
  hok : HOk X.prog X.w H s.heap
  len : σ.length = X.N.length

section
variable {X : Cx} {pins : List (Addr × Obj)} {σ : List (Option V)} {H H' : Hp} {s : Shared} {h' : Heap}

theorem Cx.Ok.nofr (ok : X.Ok) {b : Addr} {o : Obj} (e : X.base.get? b = some o) : b ∉ X.fs := fun hb => by
  have := (ok.funs.mem hb).1
  rw [e] at this; cases this
theorem Inv.bs (I : Inv X pins σ H s) : ∀ b o, X.base.get? b = some o → s.heap.get? b = some o ∧ H b = none := fun b o e =>
  ⟨I.base.keep b o (I.ok.bs b o e).1 (I.ok.bs b o e).2 (I.ok.nofr e) (I.ok.noex b o e), I.base.free b o (I.ok.bs b o e).1 (I.ok.bs b o e).2 (I.ok.noex b o e)⟩
theorem Inv.bk (I : Inv X pins σ H s) : ∀ b o, X.base.get? b = some o → s.heap.get? b = some o := fun b o e => (I.bs b o e).1
theorem Inv.mod (I : Inv X pins σ H s) : Mod X.K X.mg X.base := I.ok.mod
theorem Inv.kIn (I : Inv X pins σ H s) : X.K.In s.heap := I.ok.mod.kin.keeps I.bk
theorem Inv.nolimit (I : Inv X pins σ H s) : s.heap.NoLimit := I.ok.mod.nolimit.keeps I.bk
theorem Inv.fr (I : Inv X pins σ H s) : ∃ m, Fr X.base X.env.locals s.heap m :=
  let ⟨m, hn, _⟩ := I.loc
  ⟨m, hn, I.bk, Nat.le_trans I.ok.bsz I.ok.above⟩
theorem Inv.lt (I : Inv X pins σ H s) : X.env.locals < s.heap.objs.size := let ⟨_, hn, _⟩ := I.loc; hn.lt
theorem Inv.sz (I : Inv X pins σ H s) : X.s₀.heap.objs.size ≤ s.heap.objs.size := Nat.le_trans I.ok.above (Nat.le_of_lt I.lt)
theorem Inv.nofs (I : Inv X pins σ H s) {a : Addr} (h : s.heap.objs.size ≤ a) : a ∉ X.fs := fun hb => by
  obtain ⟨_, o, ho, _⟩ := I.ok.funs.mem hb
  exact absurd (Nat.lt_of_lt_of_le (Heap.lt_size ho) (Nat.le_trans I.sz h)) (Nat.lt_irrefl _)
theorem Inv.cne (I : Inv X pins σ H s) : ∀ x c, X.env.cells.lookup x = some c → c ≠ X.env.locals := fun x c e z => by
  obtain ⟨v, o, ho, hd⟩ := I.cell x c e
  obtain ⟨m, ⟨o', es, ep, ho', hd', _⟩, _⟩ := I.loc
  rw [z, ho'] at ho; cases ho; rw [hd'] at hd; cases hd
theorem Inv.funs (I : Inv X pins σ H s) : s.heap.FunFrames X.base X.outer := by
  have all : ∀ (l : List Env), (∀ b ∈ frs l, b ∈ X.fs) → X.s₀.heap.FunFrames X.base l → s.heap.FunFrames X.base l := by
    intro l
    induction l with
    | nil => intro _ _; trivial
    | cons env r ih =>
      intro hs hl
      obtain ⟨hk, ⟨L, o, hf, hn, ho, hd⟩, hr⟩ := hl
      have hL : L ∈ X.fs := hs L (by unfold frs; rw [List.filterMap_cons, hf]; exact List.mem_cons_self)
      obtain ⟨sl, e⟩ := I.base.slot L o ho (I.ok.frf L hL) hL fun z => I.ok.exfs L z hL
      exact ⟨hk, ⟨L, _, hf, hn, e, hd⟩, ih (fun b hb => hs b (by unfold frs; rw [List.filterMap_cons, hf]; exact List.mem_cons_of_mem _ hb)) hr⟩
  exact all X.outer (fun _ hb => hb) I.ok.funs

theorem Inv.stack (I : Inv X pins σ H s) : s.heap.FunFrames X.base X.stack := by
  rcases I.ok.stk with e | ⟨e, hf⟩
  · rw [e]; exact I.funs
  · rw [e]
    obtain ⟨m, hn, _⟩ := I.loc
    refine .cons (by rw [I.ok.kind]; decide) hf hn ?_ I.funs
    exact Heap.get?_none_of_le (Nat.le_trans I.ok.bsz I.ok.above)
theorem Inv.stkSub (I : Inv X pins σ H s) : ∀ b ∈ frs X.stack, b ∈ X.env.locals :: X.fs := fun b hb => by
  rcases I.ok.stk with e | ⟨e, hf⟩
  · rw [e] at hb; exact List.mem_cons_of_mem _ hb
  · rw [e] at hb
    unfold frs at hb
    rw [List.filterMap_cons, hf] at hb
    exact hb
theorem Inv.stkFree (I : Inv X pins σ H s) : ∀ b ∈ frs X.stack, H b = none := fun b hb => by
  rcases List.mem_cons.mp (I.stkSub b hb) with e | hb
  · rw [e]; exact I.free
  · obtain ⟨_, o, ho, _⟩ := I.ok.funs.mem hb
    exact I.base.free b o ho (I.ok.frf b hb) fun z => I.ok.exfs b z hb

theorem Inv.step {g' : Array GenState} {t' : Nat} {d' : Drawn} {ch : List Addr} (I : Inv X pins σ H s)
    (hch : ∀ b ∈ ch, (b ∈ X.ex ∨ X.s₀.heap.objs.size ≤ b) ∧ b ≠ X.env.locals ∧ (∀ x c, X.env.cells.lookup x = some c → c ≠ b) ∧ ∀ p ∈ X.pn ++ pins, p.1 ≠ b)
    (keep : ∀ b o, b ≠ X.env.locals → b ∉ X.fs → b ∉ ch → s.heap.get? b = some o → H b = none → h'.get? b = some o)
    (slot : ∀ b o, b ≠ X.env.locals → b ∈ X.fs → b ∉ ch → s.heap.get? b = some o → H b = none → ∃ sl, h'.get? b = some { o with slots := sl }) (free : ∀ b o, b ∉ ch → s.heap.get? b = some o → H b = none → H' b = none)
    (there : ∀ b o, b ∉ ch → s.heap.get? b = some o → ∃ o', h'.get? b = some o')
    (tups : ∀ b xs, H b = some (.tup xs) → H' b = some (.tup xs)) (frzs : ∀ b o u, H b = some (.frz o u) → H' b = some (.frz o u)) (tbls : ∀ b ps, H b = some (.tbl ps) → ∃ more, H' b = some (.tbl (ps ++ more)))
    (ns : ∀ m, s.heap.Ns X.env.locals m → h'.Ns X.env.locals m) (hok : HOk X.prog X.w H' h') (hg : AllBare g') :
    Inv X pins σ H' { s with heap := h', gens := g', drawn := d', toks := t' } := by
  have neL : ∀ b o, X.s₀.heap.get? b = some o → b ≠ X.env.locals := fun b o e => Nat.ne_of_lt (Nat.lt_of_lt_of_le (Heap.lt_size e) I.ok.above)
  have neC : ∀ b o, X.s₀.heap.get? b = some o → b ∉ X.ex → b ∉ ch := fun b o e hx hb => by
    rcases (hch b hb).1 with z | z
    · exact hx z
    · exact absurd (Nat.lt_of_lt_of_le (Heap.lt_size e) z) (Nat.lt_irrefl _)
  have cellK : ∀ x c, X.env.cells.lookup x = some c → ∀ v, s.heap.IsCell c v → h'.IsCell c v := fun x c e v ⟨o, ho, hd⟩ => by
    have nch : c ∉ ch := fun z => (hch c z).2.2.1 x c e rfl
    by_cases hc : c ∈ X.fs
    · obtain ⟨sl, q⟩ := slot c o (I.cne x c e) hc nch ho (I.freeC x c e)
      exact ⟨_, q, hd⟩
    · exact ⟨o, keep c o (I.cne x c e) hc nch ho (I.freeC x c e), hd⟩
  refine ⟨I.ok, I.os, hg, ⟨fun b o e n hb hx => ?_, fun b o e n hb hx => ?_, fun b o e n hx => ?_, fun b o e hx => ?_, fun b xs e => tups b xs (I.base.tups b xs e), fun b o xs e => frzs b o xs (I.base.frzs b o xs e), fun b ps e => ?_⟩, ?_, fun x c e => ?_, ?_, fun x c e => ?_, fun p hp => ?_, hok, I.len⟩
  · exact keep b o (neL b o e) hb (neC b o e hx) (I.base.keep b o e n hb hx) (I.base.free b o e n hx)
  · obtain ⟨sl, e1⟩ := I.base.slot b o e n hb hx
    obtain ⟨sl', e2⟩ := slot b _ (neL b o e) hb (neC b o e hx) e1 (I.base.free b o e n hx)
    exact ⟨sl', e2⟩
  · obtain ⟨o', e1⟩ := I.base.there b o e hx
    exact free b o' (neC b o e hx) e1 (I.base.free b o e n hx)
  · obtain ⟨o', e1⟩ := I.base.there b o e hx
    exact there b o' (neC b o e hx) e1
  · obtain ⟨m1, e1⟩ := I.base.tbls b ps e
    obtain ⟨m2, e2⟩ := tbls b _ e1
    exact ⟨m1 ++ m2, by rw [e2, Array.append_assoc]⟩
  · obtain ⟨m, hn, hl⟩ := I.loc
    refine ⟨m, ns m hn, fun i x v e1 e2 e3 => ?_⟩
    obtain ⟨u, r, l⟩ := hl i x v e1 e2 e3
    refine ⟨u, r, ?_⟩
    rcases l with l | ⟨k, c, e, z⟩
    · exact .inl l
    · exact .inr ⟨k, c, e, cellK x c e _ z⟩
  · obtain ⟨v, z⟩ := I.cell x c e
    exact ⟨v, cellK x c e v z⟩
  · obtain ⟨m, ⟨o, _, _, ho, _⟩, _⟩ := I.loc
    exact free _ o (fun z => (hch _ z).2.1 rfl) ho I.free
  · obtain ⟨v, o, ho, hd⟩ := I.cell x c e
    exact free c o (fun z => (hch c z).2.2.1 x c e rfl) ho (I.freeC x c e)
  · obtain ⟨e, n, ne, nf, d⟩ := I.pin p hp
    have nch : p.1 ∉ ch := fun z => (hch p.1 z).2.2.2 p hp rfl
    exact ⟨keep p.1 p.2 ne nf nch e n, free p.1 p.2 nch e n, ne, nf, d⟩
theorem Inv.un {t' : Nat} (I : Inv X pins σ H s) (u : Un X.fs [] H H' s.heap h') (hok : HOk X.prog X.w H' h') : Inv X pins σ H' { s with heap := h', toks := t' } := by
  obtain ⟨m, ⟨o, es, ep, ho, r⟩, _⟩ := id I.loc
  obtain ⟨sl, hL⟩ := u.any ho I.free (by simp)
  exact I.step (g' := s.gens) (d' := s.drawn) (ch := []) (fun _ z => nomatch z) (fun b o _ hb _ e n => u.keep b o e n hb (by simp)) (fun b o _ hb _ e n => u.slot b o e n hb (by simp)) (fun b o _ e n => u.free b o e n (by simp)) (fun b o _ e => u.there b o e (by simp)) u.tups u.frzs u.tbls (fun m' hm => by
    obtain ⟨o', es', ep', ho', r'⟩ := hm
    rw [ho] at ho'; cases ho'
    exact ⟨_, es', ep', hL, r'⟩) hok I.bare
theorem Inv.call {g' : Array GenState} {t' : Nat} {d' : Drawn} {ch : List Addr} (I : Inv X pins σ H s) (u : Un (frs X.stack) ch H H' s.heap h') (hok : HOk X.prog X.w H' h') (hg : AllBare g')
    (hch : ∀ b ∈ ch, (b ∈ X.ex ∨ X.s₀.heap.objs.size ≤ b) ∧ b ≠ X.env.locals ∧ (∀ x c, X.env.cells.lookup x = some c → c ≠ b) ∧ ∀ p ∈ X.pn ++ pins, p.1 ≠ b) :
    Inv X pins σ H' { s with heap := h', gens := g', drawn := d', toks := t' } := by
  obtain ⟨m, ⟨o, es, ep, ho, r⟩, _⟩ := id I.loc
  obtain ⟨sl, hL⟩ := u.any ho I.free fun z => (hch _ z).2.1 rfl
  exact I.step (ch := ch) hch (fun b o hL hb hc e n => u.keep b o e n (fun z => (List.mem_cons.mp (I.stkSub b z)).elim hL hb) hc) (fun b o _ _ hc e n => u.any e n hc) (fun b o hc e n => u.free b o e n hc) (fun b o hc e => u.there b o e hc) u.tups u.frzs u.tbls (fun m' hm => by
    obtain ⟨o', es', ep', ho', r'⟩ := hm
    rw [ho] at ho'; cases ho'
    exact ⟨_, es', ep', hL, r'⟩) hok hg
theorem Inv.turned {t' : Nat} {it : Addr} (I : Inv X pins σ H s) (k : ∀ b o, b ≠ it → s.heap.get? b = some o → h'.get? b = some o) (hn : H it = none) (hL : it ≠ X.env.locals)
    (h1 : it ∈ X.ex ∨ X.s₀.heap.objs.size ≤ it) (h2 : ∀ x c, X.env.cells.lookup x = some c → c ≠ it) (h3 : ∀ p ∈ X.pn ++ pins, p.1 ≠ it) : Inv X pins σ H { s with heap := h', toks := t' } := by
  have nit : ∀ b u, H b = some u → b ≠ it := fun b u e z => by rw [z, hn] at e; cases e
  refine I.step (g' := s.gens) (d' := s.drawn) (ch := [it]) (fun b hb => ?_) (fun b o _ _ hc e _ => k b o (fun z => hc (by simp [z])) e) (fun b o _ _ hc e _ => ⟨o.slots, k b o (fun z => hc (by simp [z])) e⟩) (fun _ _ _ _ n => n)
    (fun b o hc e => ⟨o, k b o (fun z => hc (by simp [z])) e⟩) (fun _ _ e => e) (fun _ _ _ e => e) (fun b ps e => ⟨#[], by rw [e]; simp⟩) (fun m hm => ?_) (fun b u e => ?_) I.bare
  · have e : b = it := by simpa using hb
    subst e
    exact ⟨h1, hL, h2, h3⟩
  · obtain ⟨o, es, ep, ho, r⟩ := hm
    exact ⟨o, es, ep, k _ o (Ne.symm hL) ho, r⟩
  · refine (I.hok b u e).stay (fun c v hc q => k c v ?_ q) (fun _ q => q) fun _ _ q => q
    rcases hc with z | z
    · rw [z]; exact nit b u e
    · exact nit c _ z
theorem Inv.tok (I : Inv X pins σ H s) (t : Nat) : Inv X pins σ H { s with toks := t } := I.un (h' := s.heap) (t' := t) Un.refl I.hok
theorem Inv.kept {t' : Nat} (I : Inv X pins σ H s) (k : ∀ b u, s.heap.get? b = some u → h'.get? b = some u) : Inv X pins σ H { s with heap := h', toks := t' } := I.un (Un.kept k) (I.hok.kept k)
theorem Inv.laid {a : Addr} {o : HO} {t' : Nat} (I : Inv X pins σ H s) (k : ∀ b u, s.heap.get? b = some u → h'.get? b = some u) (hp : s.heap.objs.size ≤ a) (new : ObjOk X.prog X.w (upd H a o) h' a o) :
    Inv X pins σ (upd H a o) { s with heap := h', toks := t' } := I.un (Un.laid k hp (I.hok.fresh hp)) (I.hok.laid k hp new)
theorem Inv.write {x e : Addr} {o : HO} {t' : Nat} (I : Inv X pins σ H s) (mu : Mut (H x)) (he : e = x ∨ H e = some (.own x)) (k : ∀ b u, b ≠ e → s.heap.get? b = some u → h'.get? b = some u) (heo : ∃ u, h'.get? e = some u)
    (new : ObjOk X.prog X.w (upd H x o) h' x o) : Inv X pins σ (upd H x o) { s with heap := h', toks := t' } := I.un (Un.write mu he k heo) (I.hok.write mu he k heo new)
theorem Inv.pins_of {pins' : List (Addr × Obj)} (I : Inv X pins σ H s) (h : ∀ p ∈ pins', s.heap.get? p.1 = some p.2 ∧ H p.1 = none ∧ p.1 ≠ X.env.locals ∧ p.1 ∉ X.fs ∧ ∀ v, p.2.data ≠ .cell v) : Inv X pins' σ H s :=
  ⟨I.ok, I.os, I.bare, I.base, I.loc, I.cell, I.free, I.freeC, fun p hp => (List.mem_append.mp hp).elim (fun z => I.pin p (List.mem_append_left _ z)) (h p), I.hok, I.len⟩

theorem nodup_ix {N : List Str} (hN : N.Nodup) {i j : Nat} {x : Str} (a : N[i]? = some x) (b : N[j]? = some x) : i = j := by
  obtain ⟨h1, e1⟩ := List.getElem?_eq_some_iff.mp a
  obtain ⟨h2, e2⟩ := List.getElem?_eq_some_iff.mp b
  exact (List.getElem_inj hN).mp (e1.trans e2.symm)

theorem store_ok2 {M : Model} {A : Around} {E : Value → Shared → Prop} {i : Nat} {x : Str} {v : V} {u : Value} {Q : Unit → Shared → Prop} (I : Inv X pins σ H s) (hN : X.N.Nodup) (hi : X.N[i]? = some x) (hx : Loc X.env.scope x) (r : RelV v u)
    (h : ∀ s', Inv X pins (σ.set i (some v)) H s' → (∃ a, Heap.SameBut a s.heap s'.heap ∧ (a = X.env.locals ∨ X.env.cells.lookup x = some a)) → Q () s') (hf : X.fn x = true ∨ X.env.scope.names.lookup x = some .local := by first | exact .inl rfl | exact .inr rfl | assumption) : wpAny M A (storeName X.env x u) Q E s := by
  obtain ⟨m, hn, hl⟩ := id I.loc
  have hcls : (X.env.scope.kind == .class || (X.env.scope.kind == .module && X.env.locals != X.env.globals)) = false := by rw [I.ok.kind]; rfl
  have hiσ : i < σ.length := by rw [I.len]; exact (List.getElem?_eq_some_iff.mp hi).1
  have cne := I.cne
  have tracked : ∀ {a : Addr} {h' : Heap}, (∃ o, s.heap.get? a = some o ∧ H a = none) → Heap.SameBut a s.heap h' → HOk X.prog X.w H h' := fun {a h'} ha hs b ob e => by
    obtain ⟨_, _, hfree⟩ := ha
    refine (I.hok b ob e).stay (fun c w' hc q => (hs.2 c ?_).trans q) (fun _ q => q) fun _ _ q => q
    rintro rfl
    rcases hc with rfl | hc
    · rw [hfree] at e; cases e
    · rw [hfree] at hc; cases hc
  rcases hx with hk | hk
  · refine wpAny_storeName_local hk hn (fun h' hn' hs => ?_) hcls
    obtain ⟨oL, _, _, hoL, _⟩ := id hn
    refine h _ ⟨I.ok, I.os, I.bare, ⟨fun b o e n hb hx => ?_, fun b o e n hb hx => ?_, I.base.free, fun b o e hx => ?_, I.base.tups, I.base.frzs, I.base.tbls⟩, ⟨_, hn', fun j y v' e1 e2 e3 => ?_⟩, fun y c e => ?_, I.free, I.freeC, fun p hp => ?_, tracked ⟨oL, hoL, I.free⟩ hs, by simpa using I.len⟩ ⟨_, hs, .inl rfl⟩
    · exact (hs.2 b (Nat.ne_of_lt (Nat.lt_of_lt_of_le (Heap.lt_size e) I.ok.above))).trans (I.base.keep b o e n hb hx)
    · obtain ⟨sl, e1⟩ := I.base.slot b o e n hb hx
      exact ⟨sl, (hs.2 b (Nat.ne_of_lt (Nat.lt_of_lt_of_le (Heap.lt_size e) I.ok.above))).trans e1⟩
    · obtain ⟨o', e1⟩ := I.base.there b o e hx
      exact ⟨o', (hs.2 b (Nat.ne_of_lt (Nat.lt_of_lt_of_le (Heap.lt_size e) I.ok.above))).trans e1⟩
    · by_cases hj : j = i
      · subst hj
        rw [hi] at e1; cases e1
        rw [List.getElem?_set_self hiσ] at e2
        cases e2
        exact ⟨u, r, .inl ⟨hk, by simp⟩⟩
      · rw [List.getElem?_set_ne (Ne.symm hj)] at e2
        obtain ⟨u', r', q⟩ := hl j y v' e1 e2 e3
        refine ⟨u', r', ?_⟩
        rcases q with ⟨k, e⟩ | ⟨k, c, e, z⟩
        · refine .inl ⟨k, ?_⟩
          have : y ≠ x := fun e => hj (nodup_ix hN e1 (e ▸ hi))
          simp [this, e]
        · exact .inr ⟨k, c, e, z.sameBut hs (cne y c e)⟩
    · obtain ⟨w', z⟩ := I.cell y c e
      exact ⟨w', z.sameBut hs (cne y c e)⟩
    · obtain ⟨e, n, ne, nf, d⟩ := I.pin p hp
      exact ⟨(hs.2 p.1 ne).trans e, n, ne, nf, d⟩
  · have hfn : X.fn x = true := by
      rcases hf with z | z
      · exact z
      · rw [z] at hk; cases hk
    obtain ⟨c, hc⟩ := I.ok.has x (.inl hk)
    obtain ⟨w', z⟩ := I.cell x c hc
    refine wpAny_storeName_cell I.ok.kind hk hc z (fun h' hc' hs => ?_)
    obtain ⟨oc, hoc, hocd⟩ := id z
    refine h { s with heap := h' } ⟨I.ok, I.os, I.bare, ⟨fun b o e n hb hx => ?_, fun b o e n hb hx => ?_, I.base.free, fun b o e hx => ?_, I.base.tups, I.base.frzs, I.base.tbls⟩, ⟨m, hn.sameBut hs (Ne.symm (cne x c hc)), fun j y v' e1 e2 e3 => ?_⟩, fun y c' e => ?_, I.free, I.freeC, fun p hp => ?_, tracked ⟨oc, hoc, I.freeC x c hc⟩ hs, by simpa using I.len⟩ ⟨c, hs, .inr hc⟩
    · exact (hs.2 b (Nat.ne_of_lt (Nat.lt_of_lt_of_le (Heap.lt_size e) (I.ok.cab x c hfn hc)))).trans (I.base.keep b o e n hb hx)
    · obtain ⟨sl, e1⟩ := I.base.slot b o e n hb hx
      exact ⟨sl, (hs.2 b (Nat.ne_of_lt (Nat.lt_of_lt_of_le (Heap.lt_size e) (I.ok.cab x c hfn hc)))).trans e1⟩
    · obtain ⟨o', e1⟩ := I.base.there b o e hx
      exact ⟨o', (hs.2 b (Nat.ne_of_lt (Nat.lt_of_lt_of_le (Heap.lt_size e) (I.ok.cab x c hfn hc)))).trans e1⟩
    · by_cases hj : j = i
      · subst hj
        rw [hi] at e1; cases e1
        rw [List.getElem?_set_self hiσ] at e2
        cases e2
        exact ⟨u, r, .inr ⟨.inl hk, c, hc, hc'⟩⟩
      · rw [List.getElem?_set_ne (Ne.symm hj)] at e2
        obtain ⟨u', r', q⟩ := hl j y v' e1 e2 e3
        refine ⟨u', r', ?_⟩
        rcases q with q | ⟨k, c', e, z'⟩
        · exact .inl q
        · refine .inr ⟨k, c', e, z'.sameBut hs ?_⟩
          rintro rfl
          exact hj (nodup_ix hN e1 (I.ok.inj _ _ _ e hc ▸ hi))
    · by_cases hcc : c' = c
      · subst hcc; exact ⟨_, hc'⟩
      · obtain ⟨w2, z2⟩ := I.cell y c' e
        exact ⟨w2, z2.sameBut hs hcc⟩
    · obtain ⟨e, n, ne, nf, d⟩ := I.pin p hp
      refine ⟨(hs.2 p.1 ?_).trans e, n, ne, nf, d⟩
      intro q
      rw [q, hoc] at e
      have q' : oc = p.2 := Option.some.inj e
      exact d w' (by rw [← q']; exact hocd)
theorem store_ok {M : Model} {A : Around} {E : Value → Shared → Prop} {i : Nat} {x : Str} {v : V} {u : Value} {Q : Unit → Shared → Prop} (I : Inv X pins σ H s) (hN : X.N.Nodup) (hi : X.N[i]? = some x) (hx : Loc X.env.scope x) (r : RelV v u)
    (h : ∀ s', Inv X pins (σ.set i (some v)) H s' → Q () s') (hf : X.fn x = true ∨ X.env.scope.names.lookup x = some .local := by first | exact .inl rfl | exact .inr rfl | assumption) : wpAny M A (storeName X.env x u) Q E s :=
  store_ok2 I hN hi hx r (fun s' I' _ => h s' I') hf
theorem Inv.call' {s' : Shared} {ch : List Addr} (I : Inv X pins σ H s) (ho : s'.os = s.os) (u : Un (frs X.stack) ch H H' s.heap s'.heap) (hok : HOk X.prog X.w H' s'.heap) (hg : AllBare s'.gens)
    (hch : ∀ b ∈ ch, (b ∈ X.ex ∨ X.s₀.heap.objs.size ≤ b) ∧ b ≠ X.env.locals ∧ (∀ x c, X.env.cells.lookup x = some c → c ≠ b) ∧ ∀ p ∈ X.pn ++ pins, p.1 ≠ b) : Inv X pins σ H' s' := by
  obtain ⟨h', g', d', t', o'⟩ := s'
  have e : o' = s.os := ho
  subst e
  exact I.call (g' := g') (t' := t') (d' := d') u hok hg hch
end

abbrev XK := Value → Option Addr → Hp → Prop
abbrev St := List (Option V)
abbrev VK := V → Hp → Prop
abbrev TE := St → Hp → VK → Prop
abbrev TT := St → Hp → (Bool → Hp → Prop) → Prop
abbrev TA := St → Hp → (List V → Hp → Prop) → Prop
structure Ends where
  nx : St → Hp → Prop
  rt : VK
  bk : St → Hp → Prop := fun _ _ => False
  ct : St → Hp → Prop := fun _ _ => False
abbrev TS := Ends → St → Hp → Prop

def EP (X : Cx) (pins : List (Addr × Obj)) (σ : St) (Q : VK) (u : Value) (s' : Shared) : Prop := ∃ v H', Inv X pins σ H' s' ∧ RelV v u ∧ Q v H'
def TP (X : Cx) (pins : List (Addr × Obj)) (σ : St) (Q : Bool → Hp → Prop) (b : Bool) (s' : Shared) : Prop := ∃ H', Inv X pins σ H' s' ∧ Q b H'
def AP (X : Cx) (pins : List (Addr × Obj)) (σ : St) (Q : List V → Hp → Prop) (us : List Value) (s' : Shared) : Prop := ∃ vs H', Inv X pins σ H' s' ∧ Vals vs us ∧ Q vs H'
def SP (X : Cx) (pins : List (Addr × Obj)) (D : Ends) (f : Flow) (s' : Shared) : Prop :=
  match f with
  | .next => ∃ σ' H', Inv X pins σ' H' s' ∧ D.nx σ' H'
  | .brk => ∃ σ' H', Inv X pins σ' H' s' ∧ D.bk σ' H'
  | .cont => ∃ σ' H', Inv X pins σ' H' s' ∧ D.ct σ' H'
  | .ret u => ∃ v σ' H', Inv X pins σ' H' s' ∧ RelV v u ∧ D.rt v H'

def PE (X : Cx) (e : Expr) (t : TE) : Prop :=
  ∀ (pins : List (Addr × Obj)) (s : Shared) (σ : St) (H : Hp) (Q : VK), Inv X pins σ H s → t σ H Q → wpAny (model X.prog X.w) X.A (eval e X.env) (EP X pins σ Q) X.xe s
def PT (X : Cx) (e : Expr) (t : TT) : Prop :=
  ∀ (pins : List (Addr × Obj)) (s : Shared) (σ : St) (H : Hp) (Q : Bool → Hp → Prop), Inv X pins σ H s → t σ H Q → wpAny (model X.prog X.w) X.A (isTrue e X.env (eval e X.env)) (TP X pins σ Q) X.xe s
def PW (X : Cx) (e : Expr) (t : TT) : Prop :=
  ∀ (whole : Sem Value) (pins : List (Addr × Obj)) (s : Shared) (σ : St) (H : Hp) (Q : Bool → Hp → Prop), Inv X pins σ H s → t σ H Q → wpAny (model X.prog X.w) X.A (isTrue e X.env whole) (TP X pins σ Q) X.xe s
theorem PW.pt {X : Cx} {e : Expr} {t : TT} (h : PW X e t) : PT X e t := h _
def PA (X : Cx) (es : List Expr) (t : TA) : Prop :=
  ∀ (pos : Pos) (pins : List (Addr × Obj)) (s : Shared) (σ : St) (H : Hp) (Q : List V → Hp → Prop), Inv X pins σ H s → t σ H Q → wpAny (model X.prog X.w) X.A (spliced (backTo pos (starEach es X.env))) (AP X pins σ Q) X.xe s
def PS (X : Cx) (st : Stmt) (t : TS) : Prop :=
  ∀ (pins : List (Addr × Obj)) (s : Shared) (σ : St) (H : Hp) (D : Ends), Inv X pins σ H s → t D σ H → wpAny (model X.prog X.w) X.A (exec st X.env) (SP X pins D) X.xe s
def PSs (X : Cx) (st : List Stmt) (t : TS) : Prop :=
  ∀ (pins : List (Addr × Obj)) (s : Shared) (σ : St) (H : Hp) (D : Ends), Inv X pins σ H s → t D σ H → wpAny (model X.prog X.w) X.A (execs st X.env) (SP X pins D) X.xe s
theorem thn {α : Type} {t : Sem α} {Q Q' : α → Shared → Prop} {M : Model} {A : Around} {E : Value → Shared → Prop} {s : Shared} (h : wpAny M A t Q E s) (hQ : ∀ a s, Q a s → Q' a s) : wpAny M A t Q' E s := wpAny_mono h hQ fun _ _ x => x
end L2

namespace L2
open PySem PySem.Spec PyProof.Rows
section
variable {X : Cx}

def tVar (i : Nat) : TE := fun σ H Q => ∃ v, σ[i]? = some (some v) ∧ Q v H
def tC (v : V) : TE := fun _ H Q => Q v H
theorem pe_var {i : Nat} {x : Str} {pos : Pos} (hN : X.N[i]? = some x) (hv : Vis X.env.scope x) (hd : (x == ("__debug__" : Str)) = false := by decide) (hcd : (x == ("__classdict__" : Str)) = false := by decide) : PE X (.Name x pos) (tVar i) := by
  intro pins s σ H Q I h
  obtain ⟨v, e, h⟩ := h
  obtain ⟨m, hn, hl⟩ := I.loc
  obtain ⟨u, r, l⟩ := hl i x v hN e hv
  have fin : EP X pins σ Q u s := ⟨v, H, I, r, h⟩
  rcases l with ⟨hk, hm⟩ | ⟨hk, c, hc, hcell⟩
  · exact wpAny_Name (wpAny_loadName_local I.ok.kind hk hn hm fin) hd
  · rcases hk with hk | hk
    · exact wpAny_Name (wpAny_loadName_cell I.ok.kind hk hc hcell fin) hd
    · exact wpAny_Name (wpAny_loadName_free I.ok.kind hk hc hcell fin hcd) hd
theorem pe_int {i j pos} : PE X (.Constant (.int i) j pos) (tC (.int i)) := fun _ _ _ H _ I h => wpAny_Constant_int ⟨.int i, H, I.tok _, ⟨_, rfl⟩, h⟩
theorem pe_bl {b j pos} : PE X (.Constant (.bool b) j pos) (tC (.bl b)) := fun _ _ _ H _ I h => Constant_bool ⟨.bl b, H, I, rfl, h⟩
theorem pe_non {j pos} : PE X (.Constant .none j pos) (tC .non) := fun _ _ _ H _ I h => Constant_none ⟨.non, H, I, rfl, h⟩
theorem pe_str {x j pos} : PE X (.Constant (.str x) j pos) (tC (.str x)) := fun _ _ _ H _ I h => Calls.Constant_str ⟨.str x, H, I.tok _, ⟨_, rfl⟩, h⟩

def Gl (X : Cx) (x : Str) : Prop := X.env.kindOf x = some .globalImplicit
theorem ld_glob {E : Value → Shared → Prop} {pins : List (Addr × Obj)} {s : Shared} {σ : St} {H : Hp} {x : Str} {u : Value} {pos : Pos} {Q : Value → Shared → Prop} (I : Inv X pins σ H s) (hg : Gl X x) (hm : X.mg x = some u) (h : Q u s)
    (hd : (x == ("__debug__" : Str)) = false := by decide) : wpAny (model X.prog X.w) X.A (eval (.Name x pos) X.env) Q E s :=
  Calls.Name_function_global I.ok.kind hg (Calls.loadGlobal_global (by rw [I.ok.glob]; exact I.mod.glob.keeps I.bk) hm h) hd
theorem ld_blt {E : Value → Shared → Prop} {pins : List (Addr × Obj)} {s : Shared} {σ : St} {H : Hp} {x : Str} {u : Value} {pos : Pos} {Q : Value → Shared → Prop} (I : Inv X pins σ H s) (hg : Gl X x) (hm : X.mg x = none) (hv : bootBuiltins x = some u) (h : Q u s)
    (hn : x ≠ "__name__" := by decide) (hd : (x == ("__debug__" : Str)) = false := by decide) : wpAny (model X.prog X.w) X.A (eval (.Name x pos) X.env) Q E s := by
  obtain ⟨mb, h1, h2⟩ := I.mod.blt
  exact Calls.Name_function_global I.ok.kind hg (Calls.loadGlobal_builtin (by rw [I.ok.glob]; exact I.mod.glob.keeps I.bk) hm (by rw [I.ok.blt]; exact h1.keeps I.bk) ((h2 x hn).trans hv) h) hd
theorem pe_glob {x : Str} {v : V} {u : Value} {pos : Pos} (hg : Gl X x) (hm : X.mg x = some u) (r : RelV v u) (hd : (x == ("__debug__" : Str)) = false := by decide) : PE X (.Name x pos) (tC v) :=
  fun _ _ _ H _ I h => ld_glob I hg hm ⟨v, H, I, r, h⟩ hd
theorem pe_bltn {x : Str} {v : V} {u : Value} {pos : Pos} (hg : Gl X x) (hm : X.mg x = none) (hv : bootBuiltins x = some u) (r : RelV v u) (hn : x ≠ "__name__" := by decide) (hd : (x == ("__debug__" : Str)) = false := by decide) : PE X (.Name x pos) (tC v) :=
  fun _ _ _ H _ I h => ld_blt I hg hm hv ⟨v, H, I, r, h⟩ hn hd

variable {a b : Expr} {ta tb : TE} {pos : Pos}
def tB (t : TE) : TT := fun σ H Q => t σ H fun x H1 => ∃ c, x = .bl c ∧ Q c H1
theorem pt_val {e : Expr} {t : TE} (h : PE X e t) (he : ∀ whole, isTrue e X.env whole = (do let v ← whole; standAt e.pos; holding [v] (truthy v)) := by intro _; rfl) : PT X e (tB t) := by
  intro pins s σ H Q I hw
  refine isTrue_plain (thn (h pins s σ H _ I hw) fun v s1 ⟨x, H1, I1, r1, q1⟩ => ?_) (he _)
  obtain ⟨d, rfl, q⟩ := q1
  cases r1
  exact wpAny_truthy_bool ⟨H1, I1, q⟩

variable {tA tB' : TT} {rest : List Expr}
def tAnd (t u : TT) : TT := fun σ H Q => t σ H fun c H1 => if c = true then u σ H1 Q else Q false H1
def tOr (t u : TT) : TT := fun σ H Q => t σ H fun c H1 => if c = true then Q true H1 else u σ H1 Q
def tNot (t : TT) : TT := fun σ H Q => t σ H fun c H1 => Q (!c) H1
theorem pw_and1 (ha : PT X a tA) : PW X (.BoolOp .And [a] pos) tA := by
  intro wh pins s σ H Q I h
  refine isTrue_and (thn (ha pins s σ H Q I h) fun c s1 e => ?_)
  cases c with
  | true => exact isTrue_and_nil e
  | false => exact e
theorem pw_or1 (ha : PT X a tA) : PW X (.BoolOp .Or [a] pos) tA := by
  intro wh pins s σ H Q I h
  refine isTrue_or (thn (ha pins s σ H Q I h) fun c s1 e => ?_)
  cases c with
  | false => exact isTrue_or_nil e
  | true => exact e
theorem pw_and (ha : PT X a tA) (hb : PW X (.BoolOp .And (b :: rest) pos) tB') : PW X (.BoolOp .And (a :: b :: rest) pos) (tAnd tA tB') := by
  intro wh pins s σ H Q I h
  refine isTrue_and (thn (ha pins s σ H _ I h) fun c s1 ⟨H1, I1, q1⟩ => ?_)
  cases c with
  | true => exact hb wh pins s1 σ H1 Q I1 q1
  | false => exact ⟨H1, I1, q1⟩
theorem pw_or (ha : PT X a tA) (hb : PW X (.BoolOp .Or (b :: rest) pos) tB') : PW X (.BoolOp .Or (a :: b :: rest) pos) (tOr tA tB') := by
  intro wh pins s σ H Q I h
  refine isTrue_or (thn (ha pins s σ H _ I h) fun c s1 ⟨H1, I1, q1⟩ => ?_)
  cases c with
  | true => exact ⟨H1, I1, q1⟩
  | false => exact hb wh pins s1 σ H1 Q I1 q1
theorem pt_not (ha : PT X a tA) : PT X (.UnaryOp .Not a pos) (tNot tA) := by
  intro pins s σ H Q I h
  exact isTrue_not (ha pins s σ H (fun c H1 => Q (!c) H1) I h)
def tAndV (ta tb : TE) : TE := fun σ H Q => ta σ H fun x H1 => ∃ c, x = .bl c ∧ if c = true then tb σ H1 Q else Q (.bl false) H1
def tOrV (ta tb : TE) : TE := fun σ H Q => ta σ H fun x H1 => ∃ c, x = .bl c ∧ if c = true then Q (.bl true) H1 else tb σ H1 Q
def tNotV (ta : TE) : TE := fun σ H Q => ta σ H fun x H1 => ∃ c, x = .bl c ∧ Q (.bl (!c)) H1
theorem pe_one {op} {t : TE} (h : PE X a t) : PE X (.BoolOp op [a] pos) t := fun pins s σ H Q I hw => BoolOp_one (h pins s σ H Q I hw)
theorem pe_and (ha : PE X a ta) (hb : PE X (.BoolOp .And (b :: rest) pos) tb) : PE X (.BoolOp .And (a :: b :: rest) pos) (tAndV ta tb) := by
  intro pins s σ H Q I h
  refine BoolOp_and (thn (ha pins s σ H _ I h) fun v s1 ⟨x, H1, I1, r1, q1⟩ => ?_)
  obtain ⟨c, rfl, q1⟩ := q1
  cases r1
  refine wpAny_truthy_bool ?_
  cases c with
  | true => exact hb pins s1 σ H1 Q I1 q1
  | false => exact ⟨.bl false, H1, I1, rfl, q1⟩
theorem pe_or (ha : PE X a ta) (hb : PE X (.BoolOp .Or (b :: rest) pos) tb) : PE X (.BoolOp .Or (a :: b :: rest) pos) (tOrV ta tb) := by
  intro pins s σ H Q I h
  refine BoolOp_or (thn (ha pins s σ H _ I h) fun v s1 ⟨x, H1, I1, r1, q1⟩ => ?_)
  obtain ⟨c, rfl, q1⟩ := q1
  cases r1
  refine wpAny_truthy_bool ?_
  cases c with
  | false => exact hb pins s1 σ H1 Q I1 q1
  | true => exact ⟨.bl true, H1, I1, rfl, q1⟩
theorem pe_not (ha : PE X a ta) : PE X (.UnaryOp .Not a pos) (tNotV ta) := by
  intro pins s σ H Q I h
  refine UnaryOp_ (thn (ha pins s σ H _ I h) fun v s1 ⟨x, H1, I1, r1, q1⟩ => ?_)
  obtain ⟨c, rfl, q1⟩ := q1
  cases r1
  exact not_of (wpAny_truthy_bool ⟨.bl (!c), H1, I1, rfl, q1⟩)
def tIf (t : TT) (ta tb : TE) : TE := fun σ H Q => t σ H fun c H1 => if c = true then ta σ H1 Q else tb σ H1 Q
end
end L2

namespace L2
open PySem PySem.Spec PyProof.Rows

def SqL (K : PySem.W.Frag) (H : Hp) (a : Addr) (xs : List V) : Prop :=
  Rd H a (.lst xs) ∨
    ∃ (o : Obj) (its : Array Value) (n : Nat), K.lookup a = some o ∧ o.cls = .type "list" ∧ o.dict = none ∧ o.data = .seq its n ∧ its.size ≤ sizeLine ∧ Vals xs its.toList
def SqT (K : PySem.W.Frag) (H : Hp) (a : Addr) (xs : List V) : Prop :=
  Rd H a (.tup xs) ∨
    ∃ (o : Obj) (its : Array Value) (n : Nat), K.lookup a = some o ∧ o.cls = .type "tuple" ∧ o.data = .seq its n ∧ its.size ≤ sizeLine ∧ Vals xs its.toList
def absV : Value → Option V
  | .none => some .non
  | .bool b => some (.bl b)
  | .int i _ => some (.int i)
  | .str x _ => some (.str x)
  | .bytes b _ => some (.byt b)
  | .float b _ => some (.flt b)
  | .ref a => some (.ref a)
  | .type n => some (.ty n)
  | _ => none
theorem RelV.abs {x : V} {u : Value} (r : RelV x u) : absV u = some x := by
  cases x with
  | non => cases r; rfl
  | bl _ => cases r; rfl
  | int _ => obtain ⟨t, rfl⟩ := r; rfl
  | str _ => obtain ⟨t, rfl⟩ := r; rfl
  | byt _ => obtain ⟨t, rfl⟩ := r; rfl
  | flt _ => obtain ⟨t, rfl⟩ := r; rfl
  | ref _ => cases r; rfl
  | ty _ => cases r; rfl
theorem RelV.inj {x y : V} {u : Value} (r : RelV x u) (q : RelV y u) : x = y := Option.some.inj (r.abs.symm.trans q.abs)
theorem Vals.inj : ∀ {xs ys : List V} {us : List Value}, Vals xs us → Vals ys us → xs = ys
  | _, _, _, .nil, .nil => rfl
  | _, _, _, .cons r t, .cons r' t' => by rw [r.inj r', Vals.inj t t']
section
variable {X : Cx} {pins : List (Addr × Obj)} {σ : St} {H : Hp} {s : Shared} {a : Addr} {xs ys : List V}
theorem SqL.of {K : PySem.W.Frag} (h : H a = some (.lst xs)) : SqL K H a xs := .inl (.inl h)
theorem SqT.of {K : PySem.W.Frag} (h : H a = some (.tup xs)) : SqT K H a xs := .inl (.inl h)
theorem Inv.list (I : Inv X pins σ H s) (h : SqL X.K H a xs) : ∃ its : List Value, Vals xs its ∧ PlainL s.heap a its.toArray ∧ xs.length ≤ sizeLine := by
  rcases h with h | ⟨o, its, n, hk, hc, hd, hs, hz, r⟩
  · obtain ⟨z, its, n, r, e⟩ := h.ok I.hok
    exact ⟨its, r, ⟨_, n, e, rfl, rfl, rfl⟩, z⟩
  · refine ⟨its.toList, r, ⟨o, n, I.kIn a o hk, hc, hd, by simpa using hs⟩, ?_⟩
    have e := r.length
    simp only [Array.length_toList] at e
    omega
theorem Inv.tuple (I : Inv X pins σ H s) (h : SqT X.K H a xs) : ∃ its : List Value, Vals xs its ∧ IsTup s.heap a its.toArray ∧ xs.length ≤ sizeLine := by
  rcases h with h | ⟨o, its, n, hk, hc, hs, hz, r⟩
  · obtain ⟨z, its, r, p, _⟩ := h.ok I.hok
    exact ⟨its, r, p, z⟩
  · refine ⟨its.toList, r, ⟨o, I.kIn a o hk, hc, n, by simpa using hs⟩, ?_⟩
    have e := r.length
    simp only [Array.length_toList] at e
    omega
theorem Inv.list_inj (I : Inv X pins σ H s) (h : SqL X.K H a xs) (h' : SqL X.K H a ys) : xs = ys := by
  obtain ⟨its, r, ⟨o, n, e, _, _, d⟩, _⟩ := I.list h
  obtain ⟨its', r', ⟨o', n', e', _, _, d'⟩, _⟩ := I.list h'
  rw [e] at e'; cases e'
  rw [d] at d'
  injection d' with d1 _
  have : its = its' := by simpa using congrArg Array.toList d1
  subst this
  exact r.inj r'
end

abbrev Cx.wish (X : Cx) (E : Value → Shared → Prop) : Cx := { X with xe := E }
abbrev Cx.nox (X : Cx) : Cx := X.wish fun _ _ => False
theorem Cx.Ok.wish {X : Cx} (ok : X.Ok) (E : Value → Shared → Prop) : (X.wish E).Ok :=
  ⟨ok.mod, ok.kind, ok.glob, ok.blt, ok.above, ok.inj, ok.has, ok.cab, ok.hd, ok.frames, ok.stk, ok.exf, ok.bs, ok.bsz, ok.noex, ok.exfs, ok.funs, ok.frf⟩
theorem Cx.Ok.unwish {X : Cx} {E : Value → Shared → Prop} (ok : (X.wish E).Ok) : X.Ok :=
  ⟨ok.mod, ok.kind, ok.glob, ok.blt, ok.above, ok.inj, ok.has, ok.cab, ok.hd, ok.frames, ok.stk, ok.exf, ok.bs, ok.bsz, ok.noex, ok.exfs, ok.funs, ok.frf⟩
section
variable {X : Cx} {pins : List (Addr × Obj)} {σ : St} {H : Hp} {s : Shared} {E : Value → Shared → Prop}
theorem Inv.wish (I : Inv X pins σ H s) (E : Value → Shared → Prop) : Inv (X.wish E) pins σ H s := ⟨I.ok.wish E, I.os, I.bare, I.base, I.loc, I.cell, I.free, I.freeC, I.pin, I.hok, I.len⟩
theorem Inv.unwish (I : Inv (X.wish E) pins σ H s) : Inv X pins σ H s := ⟨I.ok.unwish, I.os, I.bare, I.base, I.loc, I.cell, I.free, I.freeC, I.pin, I.hok, I.len⟩
theorem SP.unwish {D : Ends} {f : Flow} {s' : Shared} (h : SP (X.wish E) pins D f s') : SP X pins D f s' := by
  cases f with
  | next => obtain ⟨σ', H', I, q⟩ := h; exact ⟨σ', H', I.unwish, q⟩
  | brk => obtain ⟨σ', H', I, q⟩ := h; exact ⟨σ', H', I.unwish, q⟩
  | cont => obtain ⟨σ', H', I, q⟩ := h; exact ⟨σ', H', I.unwish, q⟩
  | ret u => obtain ⟨v, σ', H', I, r, q⟩ := h; exact ⟨v, σ', H', I.unwish, r, q⟩
theorem PE.nox {e : Expr} {t : TE} (h : PE X.nox e t) : PE X e t := fun pins s σ H Q I hw =>
  wpAny_mono (h pins s σ H Q (I.wish _) hw) (fun _ _ ⟨v, H', I', r, q⟩ => ⟨v, H', I'.unwish, r, q⟩) fun _ _ z => False.elim z
theorem PT.nox {e : Expr} {t : TT} (h : PT X.nox e t) : PT X e t := fun pins s σ H Q I hw =>
  wpAny_mono (h pins s σ H Q (I.wish _) hw) (fun _ _ ⟨H', I', q⟩ => ⟨H', I'.unwish, q⟩) fun _ _ z => False.elim z
theorem PSs.nox {st : List Stmt} {t : TS} (h : PSs X.nox st t) : PSs X st t := fun pins s σ H D I hw =>
  wpAny_mono (h pins s σ H D (I.wish _) hw) (fun _ _ q => q.unwish) fun _ _ z => False.elim z
end

section
variable {X : Cx} {st : Stmt} {rest : List Stmt} {t u : TS} {e : Expr} {te : TE} {pos : Pos}
def tNext : TS := fun D σ H => D.nx σ H
def tSeq (t u : TS) : TS := fun D σ H => t { D with nx := u D } σ H
theorem pss_nil : PSs X [] tNext := fun _ _ σ H _ I h => wpAny_execs_nil ⟨σ, H, I, h⟩
theorem pss_cons (h1 : PS X st t) (h2 : PSs X rest u) : PSs X (st :: rest) (tSeq t u) := by
  intro pins s σ H D I h
  refine wpAny_execs_cons (thn (h1 pins s σ H { D with nx := u D } I h) fun f s1 q => ?_)
  cases f with
  | next =>
    obtain ⟨σ', H', I', q⟩ := q
    exact h2 pins s1 σ' H' D I' q
  | ret v => exact q
  | brk => exact q
  | cont => exact q
theorem pss_one (h1 : PS X st t) : PSs X [st] t := by
  intro pins s σ H D I h
  refine wpAny_execs_cons (thn (h1 pins s σ H D I h) fun f s1 q => ?_)
  cases f with
  | next => exact wpAny_execs_nil q
  | ret v => exact q
  | brk => exact q
  | cont => exact q
def tCont : TS := fun D σ H => D.ct σ H
theorem Inv.quiet {pins : List (Addr × Obj)} {σ : St} {H : Hp} {s : Shared} (I : Inv X pins σ H s) : interactive X.env = false := by simp [interactive, I.ok.kind]
def tDrop (te : TE) : TS := fun D σ H => te σ H fun _ H1 => D.nx σ H1
def tRet (te : TE) : TS := fun D σ H => te σ H D.rt
theorem ps_ret (he : PE X e te) : PS X (.Return (some e) pos) (tRet te) := by
  intro pins s σ H D I h
  exact wpAny_Return_some (thn (he pins s σ H _ I h) fun v s1 ⟨x, H1, I1, r1, q1⟩ => ⟨x, σ, H1, I1, r1, q1⟩)
def tRetN : TS := fun D _ H => D.rt .non H
def tIfS (c : TT) (t u : TS) : TS := fun D σ H => c σ H fun b H1 => if b = true then t D σ H1 else u D σ H1
theorem ps_if {c : Expr} {a b : List Stmt} {tc : TT} (hc : PT X c tc) (ha : PSs X a t) (hb : PSs X b u) : PS X (.If c a b pos) (tIfS tc t u) := by
  intro pins s σ H D I h
  refine wpAny_If (thn (hc pins s σ H _ I h) fun d s1 ⟨H1, I1, q1⟩ => ?_)
  cases d with
  | true => exact ha pins s1 σ H1 D I1 q1
  | false => exact hb pins s1 σ H1 D I1 q1
def tNever : TS := fun _ _ _ => False
end

abbrev TG := V → St → Hp → (St → Hp → Prop) → Prop
abbrev TGs := List V → St → Hp → (St → Hp → Prop) → Prop
def PG (X : Cx) (target : Expr) (t : TG) : Prop :=
  ∀ (pins : List (Addr × Obj)) (s : Shared) (σ : St) (H : Hp) (v : V) (u : Value) (Q : St → Hp → Prop), Inv X pins σ H s → RelV v u → t v σ H Q →
    wpAny (model X.prog X.w) X.A (assign target X.env u) (fun _ s' => ∃ σ' H', Inv X pins σ' H' s' ∧ Q σ' H') X.xe s
def PGs (X : Cx) (ts : List Expr) (t : TGs) : Prop :=
  ∀ (pins : List (Addr × Obj)) (s : Shared) (σ : St) (H : Hp) (vs : List V) (us : List Value) (Q : St → Hp → Prop), Inv X pins σ H s → Vals vs us → t vs σ H Q →
    wpAny (model X.prog X.w) X.A (assignInOrder ((assignEach ts X.env).map (·.2)) us) (fun _ s' => ∃ σ' H', Inv X pins σ' H' s' ∧ Q σ' H') X.xe s
abbrev TSet := V → V → V → Hp → (Hp → Prop) → Prop
section
variable {X : Cx} {pos : Pos}
def gName (i : Nat) : TG := fun v σ H Q => Q (σ.set i (some v)) H
theorem pg_name {i : Nat} {x : Str} (hN : X.N.Nodup) (hi : X.N[i]? = some x) (hx : Loc X.env.scope x) (hf : X.fn x = true ∨ X.env.scope.names.lookup x = some .local := by first | exact .inl rfl | exact .inr rfl | assumption) : PG X (.Name x pos) (gName i) := by
  intro pins s σ H v u Q I r h
  exact wpAny_assign_Name (store_ok I hN hi hx r (fun s' I' => ⟨_, H, I', h⟩) hf)
def gNil : TGs := fun vs σ H Q => vs = [] ∧ Q σ H
def gCons (t : TG) (u : TGs) : TGs := fun vs σ H Q => ∃ v r, vs = v :: r ∧ t v σ H fun σ' H' => u r σ' H' Q
theorem pgs_nil : PGs X [] gNil := by
  intro pins s σ H vs us Q I r h
  obtain ⟨e, h⟩ := h
  subst e
  cases r
  exact assignInOrder_nil ⟨σ, H, I, h⟩
theorem pgs_cons {e : Expr} {es : List Expr} {t : TG} {u : TGs} (h1 : PG X e t) (h2 : PGs X es u)
    (hs : (assignEach (e :: es) X.env).map (·.2) = assign e X.env :: (assignEach es X.env).map (·.2) := by rfl) : PGs X (e :: es) (gCons t u) := by
  intro pins s σ H vs us Q I r h
  obtain ⟨v, vr, e1, h⟩ := h
  subst e1
  cases r with
  | cons r rr =>
    rw [hs]
    refine assignInOrder_cons (thn (h1 pins s σ H _ _ _ I r h) fun _ s1 ⟨σ1, H1, I1, q1⟩ => ?_)
    exact h2 pins s1 σ1 H1 _ _ Q I1 rr q1
def gTup (K : PySem.W.Frag) (n : Nat) (t : TGs) : TG := fun v σ H Q => ∃ a xs, v = .ref a ∧ SqT K H a xs ∧ xs.length = n ∧ t xs σ H Q
theorem pg_tup {es : List Expr} {k : Nat} {t : TGs} {n : Nat} (hc : X.calm = true) (h : PGs X es t)
    (hn : (assignEach es X.env).length = n := by rfl) (hst : (assignEach es X.env).findIdx? (·.1) = none := by rfl) : PG X (.Tuple es k pos) (gTup X.K n t) := by
  intro pins s σ H v u Q I r hw
  obtain ⟨a, xs, e1, hq, hl, hw⟩ := hw
  subst e1
  cases r
  obtain ⟨its, rv, ht, hz⟩ := I.tuple hq
  refine assign_Tuple_tuple (I.ok.hd hc) ht (by simp [hn, ← hl, rv.length]) hst fun h' hx => ?_
  have I1 : Inv X pins σ H { s with heap := h' } := I.kept (t' := s.toks) fun b o e => hx b o (Nat.ne_of_lt (Heap.lt_size e)) e
  exact h pins _ σ H xs _ Q I1 (by simpa using rv) hw
def gSub (to ti : TE) (t : TSet) : TG := fun v σ H Q => to σ H fun o H1 => ti σ H1 fun i H2 => t o i v H2 fun H3 => Q σ H3
def tAsg (te : TE) (g : TG) : TS := fun D σ H => te σ H fun x H1 => g x σ H1 D.nx
theorem ps_set {i : Nat} {x : Str} {e : Expr} {te : TE} {pos' : Pos} (hN : X.N.Nodup) (hi : X.N[i]? = some x) (hx : Loc X.env.scope x) (he : PE X e te) (hs : swapsWith e (some (.Name x pos')) pos.line X.env = pure false := by rfl) (hf : X.fn x = true ∨ X.env.scope.names.lookup x = some .local := by first | exact .inl rfl | exact .inr rfl | assumption) :
    PS X (.Assign [.Name x pos'] e pos) (tAsg te (gName i)) := by
  intro pins s σ H D I h
  refine wpAny_Assign_Name (thn (he pins s σ H _ I h) fun v s1 ⟨y, H1, I1, r1, q1⟩ => ?_) hs
  exact store_ok I1 hN hi hx r1 (fun s2 I2 => ⟨_, H1, I2, q1⟩) hf
def tPar (i j : Nat) (ta : TA) : TS := fun D σ H => ta σ H fun vs H1 => ∃ v w, vs = [v, w] ∧ D.nx ((σ.set i (some v)).set j (some w)) H1
end

section
variable {X : Cx} {pos : Pos}
def tWhile (c : TT) (tb : TS) : TS := fun D σ H => ∃ W : Nat → St → Hp → Prop, (∃ m, W m σ H) ∧ ∀ m σ H, W m σ H →
  c σ H fun b H1 => if b = true then ∃ N : St → Hp → Prop, (∀ σ' H', N σ' H' → ∃ m', m' < m ∧ W m' σ' H') ∧ tb { D with nx := N, ct := N, bk := D.nx } σ H1 else D.nx σ H1
theorem ps_while {c : Expr} {body : List Stmt} {tc : TT} {tb : TS} (hp : PassesOwn (model X.prog X.w) X.A X.env X.xe) (hc : PT X c tc) (hb : PSs X body tb) : PS X (.While c body [] pos) (tWhile tc tb) := by
  intro pins s σ H D I h
  obtain ⟨W, ⟨m0, w0⟩, turn⟩ := h
  refine wpAny_While (codeAny_whileLoop (fun n s' => ∃ σ' H', Inv X pins σ' H' s' ∧ W n σ' H') ?_ m0 ⟨σ, H, I, w0⟩)
  rintro n s1 ⟨σ1, H1, I1, w1⟩
  refine wpAny_passesOwn hp (thn (hc pins s1 σ1 H1 _ I1 (turn n σ1 H1 w1)) fun b s2 ⟨H2, I2, q2⟩ => ?_)
  cases b with
  | true =>
    obtain ⟨N, hN, q2⟩ := q2
    rw [if_pos rfl]
    refine wpAny_passesOwn hp (thn (hb pins s2 σ1 H2 _ I2 q2) fun f s3 q3 => ?_)
    cases f with
    | next =>
      obtain ⟨σ3, H3, I3, n3⟩ := q3
      obtain ⟨m', hm, w3⟩ := hN σ3 H3 n3
      exact ⟨m', hm, σ3, H3, I3, w3⟩
    | cont =>
      obtain ⟨σ3, H3, I3, n3⟩ := q3
      obtain ⟨m', hm, w3⟩ := hN σ3 H3 n3
      exact ⟨m', hm, σ3, H3, I3, w3⟩
    | brk => exact q3
    | ret v => exact q3
  | false =>
    rw [if_neg Bool.false_ne_true]
    exact wpAny_execs_nil ⟨σ1, H2, I2, q2⟩
end

structure It where
  go : Nat → Hp → Prop
  yld : Nat → Hp → V → Hp → Prop
  stop : Nat → Hp → Prop
def FpOk (X : Cx) (pins : List (Addr × Obj)) (H : Hp) (b : Addr) : Prop :=
  H b = none ∧ b ≠ X.env.locals ∧ b ∉ X.fs ∧ (b ∈ X.ex ∨ X.s₀.heap.objs.size ≤ b) ∧ (∀ x c, X.env.cells.lookup x = some c → c ≠ b) ∧ ∀ p ∈ X.pn ++ pins, p.1 ≠ b
theorem Inv.fpOk {X : Cx} {pins : List (Addr × Obj)} {σ : St} {H H' : Hp} {s : Shared} {b : Addr} (I : Inv X pins σ H s) (hb : s.heap.objs.size ≤ b) (hn : H' b = none) : FpOk X pins H' b := by
  refine ⟨hn, Nat.ne_of_gt (Nat.lt_of_lt_of_le I.lt hb), I.nofs hb, .inr (Nat.le_trans I.sz hb), fun x c e z => ?_, fun p hp z => ?_⟩
  · obtain ⟨v, q⟩ := I.cell x c e
    exact absurd (Nat.lt_of_lt_of_le q.lt (by rw [z]; exact hb)) (Nat.lt_irrefl _)
  · exact absurd (Nat.lt_of_lt_of_le (Heap.lt_size (I.pin p hp).1) (by rw [z]; exact hb)) (Nat.lt_irrefl _)
structure Turn (P : Program) (w : World) (K : PySem.W.Frag) (tg : Expr) (J : It) (fp : List Addr) (it : Addr) (tn : Nat → Heap → Prop) : Prop where
  mem : it ∈ fp
  obj : ∀ i h, tn i h → ∀ b ∈ fp, ∃ o, h.get? b = some o ∧ ∀ v, o.data ≠ .cell v
  keep : ∀ i h h', tn i h → (∀ b ∈ fp, ∀ o, h.get? b = some o → h'.get? b = some o) → tn i h'
  item : ∀ (X : Cx), X.prog = P → X.w = w → X.K = K → X.calm = true → ∀ (i : Nat) (pins : List (Addr × Obj)) (s : Shared) (σ : St) (H : Hp) (E : Value → Shared → Prop), Inv X pins σ H s → (∀ b ∈ fp, FpOk X pins H b) → tn i s.heap → J.go i H →
    wpAny (model P w) X.A (pyNext (.ref it)) (fun r s1 => ∃ u, r = some u ∧
      wpAny (model P w) X.A (letOwnedTupleGo tg (.ref it) u) (fun _ s2 => ∃ x H', Inv X pins σ H' s2 ∧ RelV x u ∧ J.yld i H x H' ∧ tn (i + 1) s2.heap ∧ ∀ b ∈ fp, H' b = none) E s1) E s
  done : ∀ (X : Cx), X.prog = P → X.w = w → X.K = K → X.calm = true → ∀ (i : Nat) (pins : List (Addr × Obj)) (s : Shared) (σ : St) (H : Hp) (E : Value → Shared → Prop), Inv X pins σ H s → (∀ b ∈ fp, FpOk X pins H b) → tn i s.heap → J.stop i H →
    wpAny (model P w) X.A (pyNext (.ref it)) (fun r s1 => r = none ∧ Inv X pins σ H s1) E s
  self : ∀ (A : Around) (i : Nat) (s : Shared) (Q : Value → Shared → Prop) (E : Value → Shared → Prop), tn i s.heap → Q (.ref it) s → wpAny (model P w) A (pyIter (.ref it)) Q E s
abbrev TI := St → Hp → (It → Hp → Prop) → Prop
def PIE (X : Cx) (pins : List (Addr × Obj)) (σ : St) (tg : Expr) (R : It → Hp → Prop) (itv : Value) (s2 : Shared) : Prop :=
  ∃ (it : Addr) (fp : List Addr) (tn : Nat → Heap → Prop) (J : It) (H' : Hp), itv = .ref it ∧ Inv X pins σ H' s2 ∧ Turn X.prog X.w X.K tg J fp it tn ∧ tn 0 s2.heap ∧ (∀ b ∈ fp, FpOk X pins H' b) ∧ R J H'
def PI (X : Cx) (tg iter : Expr) (wi : TI) : Prop :=
  ∀ (pins : List (Addr × Obj)) (s : Shared) (σ : St) (H : Hp) (R : It → Hp → Prop), Inv X pins σ H s → wi σ H R →
    wpAny (model X.prog X.w) X.A (eval iter X.env) (fun v s1 => wpAny (model X.prog X.w) X.A (pyIter v) (PIE X pins σ tg R) X.xe s1) X.xe s

theorem go_of {M : Model} {A : Around} {E : Value → Shared → Prop} {s : Shared} {tg : Expr} {it : Addr} {u : Value} {o : Obj} {n : String} {vs : Array Value} {Q : Unit → Shared → Prop} (ho : s.heap.get? it = some o) (hc : o.cls = .type n) (hd : o.data = .fields vs)
    (hn : ["enumerate", "zip", "dict_itemiterator", "dict_reverseitemiterator", "odict_iterator", "itertools.zip_longest", "itertools.pairwise"].contains n = false) (hQ : Q () s) : wpAny M A (letOwnedTupleGo tg (.ref it) u) Q E s := by
  unfold letOwnedTupleGo
  cases tg <;> first
    | exact wpAny_pure hQ
    | (cases u <;> first
        | exact wpAny_pure hQ
        | (refine wpAny_bind (wpAny_load ho ?_)
           rw [hc, hd]
           show wpAny M A (if (["enumerate", "zip", "dict_itemiterator", "dict_reverseitemiterator", "odict_iterator", "itertools.zip_longest", "itertools.pairwise"].contains n && vs[0]? == some (rawInt _)) = true then _ else _) Q E s
           rw [if_neg (by intro h; rw [hn, Bool.false_and] at h; cases h)]
           exact wpAny_pure hQ))

def Itl (K : PySem.W.Frag) (a : Addr) : It :=
  ⟨fun i H => ∃ xs x, SqL K H a xs ∧ xs[i]? = some x, fun i H x H' => H' = H ∧ ∀ xs, SqL K H a xs → xs[i]? = some x, fun i H => ∃ xs, SqL K H a xs ∧ xs.length ≤ i⟩
def Itt (K : PySem.W.Frag) (a : Addr) : It :=
  ⟨fun i H => ∃ xs x, SqT K H a xs ∧ xs[i]? = some x, fun i H x H' => H' = H ∧ ∀ xs, SqT K H a xs → xs[i]? = some x, fun i H => ∃ xs, SqT K H a xs ∧ xs.length ≤ i⟩
def Itr (lo : Int) (n : Nat) : It := ⟨fun i _ => i < n, fun i H x H' => H' = H ∧ x = .int (lo + i), fun i _ => n ≤ i⟩
theorem turn_list {P : Program} {w : World} {K : PySem.W.Frag} {tg : Expr} (a it : Addr) : Turn P w K tg (Itl K a) [it] it (fun i h => h.IsListIter it a i) where
  mem := by simp
  obj := fun i h st b hb => by
    have e : b = it := by simpa using hb
    subst e
    obtain ⟨o, e, c, d⟩ := st
    exact ⟨o, e, fun v z => by rw [d] at z; cases z⟩
  keep := fun i h h' st k => st.at fun o e => k it (by simp) o e
  item := by
    intro X hP hw hK hc i pins s σ H E I hf st hg
    subst hP hw hK
    obtain ⟨xs, x, hq, hx⟩ := hg
    obtain ⟨its, rv, p, hz⟩ := I.list hq
    obtain ⟨u, hu, ru⟩ := rv.get hx
    obtain ⟨f0, f1, f2, f3, f4, f5⟩ := hf it (by simp)
    refine wpAny_pyNext_list_item st p.isList (x := u) (by simpa using hu) fun h' st' sb => ?_
    have I1 : Inv X pins σ H { s with heap := h' } := I.turned (t' := s.toks) (fun b o hb e => (sb.2 b hb).trans e) f0 f1 f3 f4 f5
    obtain ⟨o, e, c, d⟩ := id st'
    exact ⟨u, rfl, go_of (s := { s with heap := h' }) e c d (by decide) ⟨x, H, I1, ru, ⟨rfl, fun ys hy => by rw [I.list_inj hy hq]; exact hx⟩, st', fun b hb => (hf b hb).1⟩⟩
  done := by
    intro X hP hw hK hc i pins s σ H E I hf st hg
    subst hP hw hK
    obtain ⟨xs, hq, hx⟩ := hg
    obtain ⟨its, rv, p, hz⟩ := I.list hq
    obtain ⟨f0, f1, f2, f3, f4, f5⟩ := hf it (by simp)
    have hl := rv.length
    exact wpAny_pyNext_list_end (I.ok.hd hc) st p.isList (by simp; omega) fun h' eb => ⟨rfl, I.turned (t' := s.toks) (fun b o hb e => eb b o hb e) f0 f1 f3 f4 f5⟩
  self := fun _ _ _ _ _ st h => wpAny_pyIter_listiter st h
theorem turn_range {P : Program} {w : World} {K : PySem.W.Frag} {tg : Expr} (it : Addr) (lo : Int) (n : Nat) : Turn P w K tg (Itr lo n) [it] it (fun i h => IsRangeIter h it (lo + (i : Nat) * 1) ((n : Int) - (i : Nat)) 1) where
  mem := by simp
  obj := fun i h st b hb => by
    have e : b = it := by simpa using hb
    subst e
    exact ⟨_, st, fun v z => by
      have z' : Data.fields _ = Data.cell v := z
      cases z'⟩
  keep := fun i h h' st k => k it (by simp) _ st
  item := by
    intro X hP hw hK hc i pins s σ H E I hf st hg
    subst hP hw hK
    obtain ⟨f0, f1, f2, f3, f4, f5⟩ := hf it (by simp)
    have W := Walks.range (prog := X.prog) (w := X.w) (I.ok.hd hc) it lo 1 n
    refine W.item i s _ _ hg st fun v h' tk hv st' kk => ?_
    obtain ⟨t, rfl⟩ := hv
    have I1 : Inv X pins σ H { s with heap := h', toks := tk } := I.turned (fun b o hb e => kk b o (by simpa using hb) e) f0 f1 f3 f4 f5
    refine ⟨_, rfl, go_of (s := { s with heap := h', toks := tk }) (n := "range_iterator") st' rfl rfl (by decide) ⟨.int (lo + i), H, I1, ⟨t, ?_⟩, ⟨rfl, rfl⟩, st', fun b hb => (hf b hb).1⟩⟩
    rw [Int.mul_one]
  done := by
    intro X hP hw hK hc i pins s σ H E I hf st hg
    subst hP hw hK
    obtain ⟨f0, f1, f2, f3, f4, f5⟩ := hf it (by simp)
    exact wpAny_pyNext_range_end (I.ok.hd hc) st (by have : n ≤ i := hg; omega) fun h' eb => ⟨rfl, I.turned (t' := s.toks) (fun b o hb e => eb b o hb e) f0 f1 f3 f4 f5⟩
  self := fun _ _ _ _ _ st h => wpAny_pyIter_rangeiter st h
end L2

namespace L2
open PySem PySem.Spec PyProof.Rows
section
variable {X : Cx} {tg : Expr}
def iList (K : PySem.W.Frag) (tl : TE) : TI := fun σ H R => tl σ H fun x H1 => ∃ a, x = .ref a ∧ (∃ xs, SqL K H1 a xs) ∧ R (Itl K a) H1
def iTup (K : PySem.W.Frag) (tl : TE) : TI := fun σ H R => tl σ H fun x H1 => ∃ a, x = .ref a ∧ (∃ xs, SqT K H1 a xs) ∧ R (Itt K a) H1
theorem pi_list {l : Expr} {tl : TE} (hl : PE X l tl) : PI X tg l (iList X.K tl) := by
  intro pins s σ H R I h
  refine thn (hl pins s σ H _ I h) fun v s1 ⟨x, H1, I1, r1, q1⟩ => ?_
  obtain ⟨a, e, ⟨xs, hq⟩, q⟩ := q1
  subst e
  cases r1
  obtain ⟨its, rv, p, hz⟩ := I1.list hq
  refine wpAny_pyIter_list p.isList ?_
  refine ⟨s1.heap.objs.size, [s1.heap.objs.size], _, _, H1, rfl, I1.kept (t' := s1.toks) fun b o e => Heap.get?_push_of_some _ e, turn_list a _, ⟨_, Heap.get?_push_size _ rfl, rfl, rfl⟩, fun b hb => ?_, q⟩
  have e : b = s1.heap.objs.size := by simpa using hb
  subst e
  exact I1.fpOk (Nat.le_refl _) (I1.hok.fresh (Nat.le_refl _))
theorem range_it {pins : List (Addr × Obj)} {σ : St} {H : Hp} {s : Shared} {R : It → Hp → Prop} {E : Value → Shared → Prop} {lo hi : Int} {t u v : Tok} {tk : Nat} (I : Inv X pins σ H s) (h1 : -(2 ^ 62) ≤ lo) (h2 : lo < 2 ^ 62) (h3 : -(2 ^ 62) ≤ hi) (h4 : hi < 2 ^ 62)
    (q : R (Itr lo (hi - lo).toNat) H) : wpAny (model X.prog X.w) X.A (pyIter (.ref s.heap.objs.size)) (PIE X pins σ tg R) E { s with heap := s.heap.push { cls := .type "range", data := .fields #[.int lo t, .int hi u, .int 1 v] }, toks := tk } := by
  refine wpAny_pyIter_range (IsRange.new ..) (small_one h1 h2 h3 h4) ?_
  have I1 : Inv X pins σ H { s with heap := s.heap.push { cls := .type "range", data := .fields #[.int lo t, .int hi u, .int 1 v] }, toks := tk } := I.kept fun b o e => Heap.get?_push_of_some _ e
  refine ⟨(s.heap.push { cls := .type "range", data := .fields #[.int lo t, .int hi u, .int 1 v] }).objs.size, [(s.heap.push { cls := .type "range", data := .fields #[.int lo t, .int hi u, .int 1 v] }).objs.size], _, _, H, rfl,
    I1.kept (t' := tk) fun b o e => Heap.get?_push_of_some _ e, turn_range _ lo (hi - lo).toNat, ?_, fun b hb => ?_, q⟩
  · have e1 : lo + ((0 : Nat) : Int) * 1 = lo := by simp
    have e2 : (((hi - lo).toNat : Nat) : Int) - ((0 : Nat) : Int) = Builtin.Range.rangeSize lo hi 1 := by rw [rangeSize_one]; split <;> omega
    show IsRangeIter _ _ (lo + ((0 : Nat) : Int) * 1) ((((hi - lo).toNat : Nat) : Int) - ((0 : Nat) : Int)) 1
    rw [e1, e2]
    exact Heap.get?_push_size _ rfl
  · have e : b = (s.heap.push { cls := .type "range", data := .fields #[.int lo t, .int hi u, .int 1 v] }).objs.size := by simpa using hb
    subst e
    exact I1.fpOk (Nat.le_refl _) (I1.hok.fresh (Nat.le_refl _))
def iRng1 (ta : TA) : TI := fun σ H R => ta σ H fun vs H1 => ∃ j : Int, vs = [.int j] ∧ -(2 ^ 62) ≤ j ∧ j < 2 ^ 62 ∧ R (Itr 0 j.toNat) H1
def iRng2 (ta : TA) : TI := fun σ H R => ta σ H fun vs H1 => ∃ i j : Int, vs = [.int i, .int j] ∧ (-(2 ^ 62) ≤ i ∧ i < 2 ^ 62 ∧ -(2 ^ 62) ≤ j ∧ j < 2 ^ 62) ∧ R (Itr i (j - i).toNat) H1
theorem pi_range1 {a : Expr} {ta : TA} {p pos : Pos} (hg : Gl X "range") (hm : X.mg "range" = none) (ha : PA X [a] ta) (hs : starEach [a] X.env = [(false, eval a X.env)] := by rfl) : PI X tg (.Call (.Name "range" p) [a] [] pos) (iRng1 ta) := by
  intro pins s σ H R I h
  refine Call_ (ld_blt I hg hm boot_range (PyProof.Rows.callWith_type1 (thn (ha pos pins s σ H _ I h) fun us s1 ⟨vs, H1, I1, r1, q1⟩ => ?_) hs rfl))
  obtain ⟨j, e, q1, q2, q⟩ := q1
  subst e
  cases r1 with
  | cons r rr =>
    cases rr
    obtain ⟨t, rfl⟩ := r
    exact call_range_1 (range_it I1 (by omega) (by omega) q1 q2 (by simpa using q))
def tFor (wi : TI) (g : TG) (tb : TS) : TS := fun D σ H => wi σ H fun J H1 => ∃ W : Nat → Nat → St → Hp → Prop, (∃ m, W 0 m σ H1) ∧ ∀ i m σ H, W i m σ H →
  (J.stop i H ∧ D.nx σ H) ∨ (J.go i H ∧ ∃ N : St → Hp → Prop, (∀ σ' H', N σ' H' → ∃ m', m' < m ∧ W (i + 1) m' σ' H') ∧ ∀ x H', J.yld i H x H' → g x σ H' fun σ2 H2 => tb { D with nx := N, ct := N, bk := D.nx } σ2 H2)
def pinsAt (fp : List Addr) (h : Heap) : List (Addr × Obj) := fp.filterMap fun b => (h.get? b).map fun o => (b, o)
theorem mem_pinsAt {fp : List Addr} {h : Heap} {b : Addr} {o : Obj} (hb : b ∈ fp) (e : h.get? b = some o) : (b, o) ∈ pinsAt fp h := List.mem_filterMap.mpr ⟨b, hb, by rw [e]; rfl⟩
theorem of_pinsAt {fp : List Addr} {h : Heap} {p : Addr × Obj} (hp : p ∈ pinsAt fp h) : p.1 ∈ fp ∧ h.get? p.1 = some p.2 := by
  obtain ⟨b, hb, e⟩ := List.mem_filterMap.mp hp
  cases q : h.get? b with
  | none => rw [q] at e; cases e
  | some o =>
    rw [q] at e
    have e' : (b, o) = p := Option.some.inj e
    subst e'
    exact ⟨hb, q⟩
theorem Inv.pinned {pins : List (Addr × Obj)} {σ : St} {H : Hp} {s : Shared} {fp : List Addr} (I : Inv X pins σ H s) (hf : ∀ b ∈ fp, FpOk X pins H b) (ho : ∀ b ∈ fp, ∃ o, s.heap.get? b = some o ∧ ∀ v, o.data ≠ .cell v) : Inv X (pins ++ pinsAt fp s.heap) σ H s :=
  I.pins_of fun p hp => (List.mem_append.mp hp).elim (fun z => I.pin p (List.mem_append_right _ z)) fun z => by
    obtain ⟨hb, e⟩ := of_pinsAt z
    obtain ⟨f0, f1, f2, _⟩ := hf p.1 hb
    obtain ⟨o, e', d⟩ := ho p.1 hb
    rw [e] at e'; cases e'
    exact ⟨e, f0, f1, f2, d⟩
theorem Inv.unpinned {pins pl : List (Addr × Obj)} {σ : St} {H : Hp} {s : Shared} (I : Inv X (pins ++ pl) σ H s) : Inv X pins σ H s := I.pins_of fun p hp => I.pin p (List.mem_append_right _ (List.mem_append_left _ hp))
theorem ps_for {iter : Expr} {body : List Stmt} {wi : TI} {g : TG} {tb : TS} {pos : Pos} (hp : PassesOwn (model X.prog X.w) X.A X.env X.xe) (hc : X.calm = true) (hi : PI X tg iter wi) (hg : PG X tg g) (hb : PSs X body tb)
    (hs : ∀ x, foldedSetIterable iter X.env x = pure x := by intro _; rfl) : PS X (.For tg iter body [] pos) (tFor wi g tb) := by
  intro pins s σ H D I h
  refine wpAny_For (thn (hi pins s σ H _ I h) fun v s1 h1 => thn h1 fun itv s2 h2 => ?_) hs
  obtain ⟨it, fp, tn, J, H2, e, I2, T, st2, f2, W, ⟨m0, w0⟩, turn⟩ := h2
  subst e
  -- what stays true of the iterator's objects through the loop
  have stat : ∀ {H' : Hp}, (∀ b ∈ fp, H' b = none) → ∀ b ∈ fp, FpOk X pins H' b := fun hn b hb => ⟨hn b hb, (f2 b hb).2⟩
  refine codeAny_forLoop_any (fun n s' => ∃ i σ' H', Inv X pins σ' H' s' ∧ tn i s'.heap ∧ (∀ b ∈ fp, H' b = none) ∧ W i n σ' H') ?_ m0 ⟨0, σ, H2, I2, st2, fun b hb => (f2 b hb).1, w0⟩
  rintro n s3 ⟨i, σ3, H3, I3, st3, fr3, w3⟩
  rcases turn i n σ3 H3 w3 with ⟨stop, qn⟩ | ⟨go, N, hN, step⟩
  · refine wpAny_passesOwn hp (thn (T.done X rfl rfl rfl hc i pins s3 σ3 H3 X.xe I3 (stat fr3) st3 stop) fun r s4 ⟨hr, I4⟩ => ?_)
    subst hr
    exact wpAny_execs_nil ⟨σ3, H3, I4, qn⟩
  · refine wpAny_passesOwn hp (thn (T.item X rfl rfl rfl hc i pins s3 σ3 H3 X.xe I3 (stat fr3) st3 go) fun r s4 ⟨u, hr, h4⟩ => ?_)
    subst hr
    refine wpAny_passesOwn hp (thn h4 fun _ s5 ⟨x, H5, I5, r5, y5, st5, fr5⟩ => ?_)
    have I5' := I5.pinned (stat fr5) (T.obj _ _ st5)
    refine wpAny_passesOwn hp (thn (hg _ s5 σ3 H5 x u _ I5' r5 (step x H5 y5)) fun _ s6 ⟨σ6, H6, I6, q6⟩ => ?_)
    refine wpAny_passesOwn hp (thn (hb _ s6 σ6 H6 _ I6 q6) fun f s7 q7 => ?_)
    have again : ∀ {σ7 : St} {H7 : Hp}, Inv X (pins ++ pinsAt fp s5.heap) σ7 H7 s7 → N σ7 H7 → ∃ m, m < n ∧ ∃ i σ' H', Inv X pins σ' H' s7 ∧ tn i s7.heap ∧ (∀ b ∈ fp, H' b = none) ∧ W i m σ' H' := fun {σ7 H7} I7 n7 => by
      obtain ⟨m', hm, w7⟩ := hN σ7 H7 n7
      refine ⟨m', hm, i + 1, σ7, H7, I7.unpinned, T.keep _ _ _ st5 fun b hb o e => (I7.pin (b, o) (List.mem_append_right _ (List.mem_append_right _ (mem_pinsAt hb e)))).1, fun b hb => ?_, w7⟩
      obtain ⟨o, e, d⟩ := T.obj _ _ st5 b hb
      exact (I7.pin (b, o) (List.mem_append_right _ (List.mem_append_right _ (mem_pinsAt hb e)))).2.1
    cases f with
    | next => obtain ⟨σ7, H7, I7, n7⟩ := q7; exact again I7 n7
    | cont => obtain ⟨σ7, H7, I7, n7⟩ := q7; exact again I7 n7
    | brk => obtain ⟨σ7, H7, I7, q7⟩ := q7; exact ⟨σ7, H7, I7.unpinned, q7⟩
    | ret v => obtain ⟨x7, σ7, H7, I7, r7, q7⟩ := q7; exact ⟨x7, σ7, H7, I7.unpinned, r7, q7⟩
end

theorem for_list {K : PySem.W.Frag} {a : Addr} {xs : List V} {g : TG} {tb : TS} {D : Ends} {σ : St} {H : Hp} (Pv : Nat → St → Hp → Prop) (h0 : Pv 0 σ H) (hl : ∀ i σ H, i ≤ xs.length → Pv i σ H → SqL K H a xs)
    (hs : ∀ i x σ H, xs[i]? = some x → Pv i σ H → g x σ H fun σ2 H2 => tb { D with nx := Pv (i + 1), ct := Pv (i + 1), bk := D.nx } σ2 H2) (hd : ∀ σ H, Pv xs.length σ H → D.nx σ H) :
    ∃ W : Nat → Nat → St → Hp → Prop, (∃ m, W 0 m σ H) ∧ ∀ i m σ H, W i m σ H →
      ((Itl K a).stop i H ∧ D.nx σ H) ∨ ((Itl K a).go i H ∧ ∃ N : St → Hp → Prop, (∀ σ' H', N σ' H' → ∃ m', m' < m ∧ W (i + 1) m' σ' H') ∧ ∀ x H', (Itl K a).yld i H x H' → g x σ H' fun σ2 H2 => tb { D with nx := N, ct := N, bk := D.nx } σ2 H2) := by
  refine ⟨fun i m σ H => m = xs.length - i ∧ i ≤ xs.length ∧ Pv i σ H, ⟨xs.length, by simp, Nat.zero_le _, h0⟩, ?_⟩
  rintro i m σ H ⟨rfl, hi, p⟩
  have q := hl i σ H hi p
  by_cases hlt : i < xs.length
  · refine .inr ⟨⟨xs, xs[i], q, by simp [hlt]⟩, Pv (i + 1), fun σ' H' p' => ⟨xs.length - (i + 1), by omega, rfl, hlt, p'⟩, fun x H' y => ?_⟩
    obtain ⟨e, y⟩ := y
    subst e
    exact hs i x σ _ (y xs q) p
  · have e : i = xs.length := by omega
    subst e
    exact .inl ⟨⟨xs, q, Nat.le_refl _⟩, hd σ H p⟩
theorem for_range {lo : Int} {n : Nat} {g : TG} {tb : TS} {D : Ends} {σ : St} {H : Hp} (Pv : Nat → St → Hp → Prop) (h0 : Pv 0 σ H)
    (hs : ∀ i σ H, i < n → Pv i σ H → g (.int (lo + i)) σ H fun σ2 H2 => tb { D with nx := Pv (i + 1), ct := Pv (i + 1), bk := D.nx } σ2 H2) (hd : ∀ σ H, Pv n σ H → D.nx σ H) :
    ∃ W : Nat → Nat → St → Hp → Prop, (∃ m, W 0 m σ H) ∧ ∀ i m σ H, W i m σ H →
      ((Itr lo n).stop i H ∧ D.nx σ H) ∨ ((Itr lo n).go i H ∧ ∃ N : St → Hp → Prop, (∀ σ' H', N σ' H' → ∃ m', m' < m ∧ W (i + 1) m' σ' H') ∧ ∀ x H', (Itr lo n).yld i H x H' → g x σ H' fun σ2 H2 => tb { D with nx := N, ct := N, bk := D.nx } σ2 H2) := by
  refine ⟨fun i m σ H => m = n - i ∧ i ≤ n ∧ Pv i σ H, ⟨n, by simp, Nat.zero_le _, h0⟩, ?_⟩
  rintro i m σ H ⟨rfl, hi, p⟩
  by_cases hlt : i < n
  · refine .inr ⟨hlt, Pv (i + 1), fun σ' H' p' => ⟨n - (i + 1), by omega, rfl, hlt, p'⟩, fun x H' y => ?_⟩
    obtain ⟨e, y⟩ := y
    subst e y
    exact hs i σ _ hlt p
  · have e : i = n := by omega
    subst e
    exact .inl ⟨Nat.le_refl _, hd σ H p⟩
end L2

namespace L2
open PySem PySem.Spec PyProof.Rows

abbrev R2 := V → V → Hp → VK → Prop
def OpR (X : Cx) (f : Value → Value → Sem Value) (r : R2) : Prop :=
  ∀ (pins : List (Addr × Obj)) (s : Shared) (σ : St) (H : Hp) (x y : V) (v u : Value) (Q : VK), Inv X pins σ H s → RelV x v → RelV y u → r x y H Q →
    wpAny (model X.prog X.w) X.A (f v u) (EP X pins σ Q) X.xe s
def UnR (X : Cx) (f : Value → Sem Value) (r : V → Hp → VK → Prop) : Prop :=
  ∀ (pins : List (Addr × Obj)) (s : Shared) (σ : St) (H : Hp) (x : V) (v : Value) (Q : VK), Inv X pins σ H s → RelV x v → r x H Q →
    wpAny (model X.prog X.w) X.A (f v) (EP X pins σ Q) X.xe s
def CallR (X : Cx) (f : Value) (r : List V → Hp → VK → Prop) : Prop :=
  ∀ (pins : List (Addr × Obj)) (s : Shared) (σ : St) (H : Hp) (xs : List V) (us : List Value) (Q : VK), Inv X pins σ H s → Vals xs us → r xs H Q →
    wpAny (model X.prog X.w) X.A (call f us) (EP X pins σ Q) X.xe s
def tOp (r : R2) (ta tb : TE) : TE := fun σ H Q => ta σ H fun x H1 => tb σ H1 fun y H2 => r x y H2 Q
def tUn (r : V → Hp → VK → Prop) (ta : TE) : TE := fun σ H Q => ta σ H fun x H1 => r x H1 Q
def rI (C : Int → Int → Prop) (g : Int → Int → V) : R2 := fun x y H Q => ∃ i j, x = .int i ∧ y = .int j ∧ C i j ∧ Q (g i j) H
def rI0 (g : Int → Int → V) : R2 := fun x y H Q => ∃ i j, x = .int i ∧ y = .int j ∧ Q (g i j) H
def rU (g : Int → V) : V → Hp → VK → Prop := fun x H Q => ∃ i, x = .int i ∧ Q (g i) H

section
variable {X : Cx} {a b c : Expr} {ta tb tc : TE} {pos : Pos}

theorem binT (ha : PE X a ta) (hb : PE X b tb) {pins : List (Addr × Obj)} {s : Shared} {σ : St} {H : Hp} {R : V → V → Hp → Prop} (I : Inv X pins σ H s)
    (h : ta σ H fun x H1 => tb σ H1 fun y H2 => R x y H2) {Q : Value → Shared → Prop} {f : Value → Value → Sem Value}
    (hf : ∀ v u s2 x y H2, Inv X pins σ H2 s2 → RelV x v → RelV y u → R x y H2 → wpAny (model X.prog X.w) X.A (f v u) Q X.xe s2) :
    wpAny (model X.prog X.w) X.A (eval a X.env) (fun v s₁ => wpAny (model X.prog X.w) X.A (eval b X.env) (fun u s₂ => wpAny (model X.prog X.w) X.A (f v u) Q X.xe s₂) X.xe s₁) X.xe s := by
  refine thn (ha pins s σ H _ I h) fun v s1 ⟨x, H1, I1, r1, q1⟩ => ?_
  refine thn (hb pins s1 σ H1 _ I1 q1) fun u s2 ⟨y, H2, I2, r2, q2⟩ => ?_
  exact hf v u s2 x y H2 I2 r1 r2 q2

theorem pe_op {op : Operator} {r : R2} (ho : OpR X (binaryOp op) r) (ha : PE X a ta) (hb : PE X b tb) : PE X (.BinOp a op b pos) (tOp r ta tb) := by
  intro pins s σ H Q I h
  exact wpAny_BinOp (binT ha hb I h fun v u s2 x y H2 I2 rx ry q => ho pins s2 σ H2 x y v u Q I2 rx ry q)
theorem pe_un {op : UnaryOp} {r : V → Hp → VK → Prop} (ho : UnR X (unaryOp op) r) (ha : PE X a ta) : PE X (.UnaryOp op a pos) (tUn r ta) := by
  intro pins s σ H Q I h
  exact UnaryOp_ (thn (ha pins s σ H _ I h) fun v s1 ⟨x, H1, I1, r1, q1⟩ => ho pins s1 σ H1 x v Q I1 r1 q1)
theorem opI {f : Value → Value → Sem Value} {C : Int → Int → Prop} {g : Int → Int → Int}
    (rule : ∀ (i j : Int) (t u : Tok) (s : Shared) (Q : Value → Shared → Prop) (E : Value → Shared → Prop), C i j → Q (.int (g i j) s.toks) { s with toks := s.toks + 1 } → wpAny (model X.prog X.w) X.A (f (.int i t) (.int j u)) Q E s) :
    OpR X f (rI C fun i j => .int (g i j)) := by
  intro pins s σ H x y v u Q I rx ry h
  obtain ⟨i, j, rfl, rfl, hc, q⟩ := h
  obtain ⟨t, rfl⟩ := rx
  obtain ⟨t', rfl⟩ := ry
  exact rule i j t t' s _ _ hc ⟨.int (g i j), H, I.tok _, ⟨_, rfl⟩, q⟩
theorem opI0 {f : Value → Value → Sem Value} {g : Int → Int → Int}
    (rule : ∀ (i j : Int) (t u : Tok) (s : Shared) (Q : Value → Shared → Prop) (E : Value → Shared → Prop), Q (.int (g i j) s.toks) { s with toks := s.toks + 1 } → wpAny (model X.prog X.w) X.A (f (.int i t) (.int j u)) Q E s) :
    OpR X f (rI0 fun i j => .int (g i j)) := by
  intro pins s σ H x y v u Q I rx ry h
  obtain ⟨i, j, rfl, rfl, q⟩ := h
  obtain ⟨t, rfl⟩ := rx
  obtain ⟨t', rfl⟩ := ry
  exact rule i j t t' s _ _ ⟨.int (g i j), H, I.tok _, ⟨_, rfl⟩, q⟩
theorem opB0 {f : Value → Value → Sem Value} {g : Int → Int → Bool}
    (rule : ∀ (i j : Int) (t u : Tok) (s : Shared) (Q : Value → Shared → Prop) (E : Value → Shared → Prop), Q (.bool (g i j)) s → wpAny (model X.prog X.w) X.A (f (.int i t) (.int j u)) Q E s) :
    OpR X f (rI0 fun i j => .bl (g i j)) := by
  intro pins s σ H x y v u Q I rx ry h
  obtain ⟨i, j, rfl, rfl, q⟩ := h
  obtain ⟨t, rfl⟩ := rx
  obtain ⟨t', rfl⟩ := ry
  exact rule i j t t' s _ _ ⟨.bl (g i j), H, I, rfl, q⟩

def CPow (i j : Int) : Prop := 0 ≤ j ∧ j ≤ 1000000 ∧ i.natAbs < 2 ^ 64
theorem op_add : OpR X (binaryOp .Add) (rI0 fun i j => .int (i + j)) := opI0 fun _ _ _ _ _ _ _ q => add_int q
theorem op_sub : OpR X (binaryOp .Sub) (rI0 fun i j => .int (i - j)) := opI0 fun _ _ _ _ _ _ _ q => sub_int q
theorem op_mod : OpR X (binaryOp .Mod) (rI (fun _ j => 0 < j) fun i j => .int (i % j)) := opI fun i j _ _ _ _ _ hc q => by
  have h1 : (0 : Int) < j := hc
  exact mod_int' (by omega) (by rw [Int.fmod_eq_emod_of_nonneg i (by omega)]; exact q)
theorem op_pow : OpR X (binaryOp .Pow) (rI CPow fun i j => .int (i ^ j.toNat)) := opI fun _ _ _ _ _ _ _ hc q => pow_int_small hc.1 hc.2.1 hc.2.2 q
theorem unI {f : Value → Sem Value} {g : Int → Int}
    (rule : ∀ (i : Int) (t : Tok) (s : Shared) (Q : Value → Shared → Prop) (E : Value → Shared → Prop), Q (.int (g i) s.toks) { s with toks := s.toks + 1 } → wpAny (model X.prog X.w) X.A (f (.int i t)) Q E s) :
    UnR X f (rU fun i => .int (g i)) := by
  intro pins s σ H x v Q I rx h
  obtain ⟨i, rfl, q⟩ := h
  obtain ⟨t, rfl⟩ := rx
  exact rule i t s _ _ ⟨.int (g i), H, I.tok _, ⟨_, rfl⟩, q⟩
theorem un_neg : UnR X (unaryOp .USub) (rU fun i => .int (-i)) := unI fun _ _ _ _ _ q => neg_int q
end

def scal : V → V → Bool
  | .non, .non => true | .non, .int _ => true | .int _, .non => true | .non, .bl _ => true | .bl _, .non => true | .non, .str _ => true | .str _, .non => true
  | .int _, .int _ => true | .bl _, .bl _ => true | .str _, .str _ => true | .byt _, .byt _ => true
  | .int _, .str _ => true | .str _, .int _ => true | .bl _, .str _ => true | .str _, .bl _ => true
  | _, _ => false
def rEq : R2 := fun x y H Q => scal x y = true ∧ Q (.bl (decide (x = y))) H
def rNe : R2 := fun x y H Q => scal x y = true ∧ Q (.bl (!decide (x = y))) H

theorem dec_int {i j : Int} : decide (V.int i = V.int j) = (i == j) := by
  rw [Bool.eq_iff_iff]
  simp
theorem dec_bl {i j : Bool} : decide (V.bl i = V.bl j) = (i == j) := by
  rw [Bool.eq_iff_iff]
  simp
theorem dec_str {i j : Str} : decide (V.str i = V.str j) = (i == j) := by
  rw [Bool.eq_iff_iff]
  simp
theorem dec_byt {i j : Array UInt8} : decide (V.byt i = V.byt j) = (i.toList == j.toList) := by
  rw [Bool.eq_iff_iff]
  cases i
  cases j
  simp

section
variable {X : Cx} {a b c : Expr} {ta tb tc : TE} {pos : Pos}
theorem fin_bl {pins : List (Addr × Obj)} {σ : St} {H : Hp} {s : Shared} {Q : VK} {k k' : Bool} (I : Inv X pins σ H s) (q : Q (.bl k) H) (e : k = k') : EP X pins σ Q (.bool k') s := by
  subst e
  exact ⟨.bl k, H, I, rfl, q⟩
theorem op_eq : OpR X (compareOp .Eq) rEq := by
  intro pins s σ H x y v u Q I rx ry h
  obtain ⟨hs, q⟩ := h
  cases x with
  | non =>
    cases rx
    cases y with
    | non => cases ry; exact PySem.EqNone.eq_none_none (fin_bl I q (by simp))
    | bl j => cases ry; exact PySem.EqNone.eq_none_bool (fin_bl I q (by simp))
    | int j => obtain ⟨t', rfl⟩ := ry; exact PySem.EqNone.eq_none_int (fin_bl I q (by simp))
    | str j => obtain ⟨t', rfl⟩ := ry; exact PySem.EqNone.eq_none_str (fin_bl I q (by simp))
    | _ => exact absurd (show false = true from hs) Bool.false_ne_true
  | bl i =>
    cases rx
    cases y with
    | non => cases ry; exact PySem.EqNone.eq_bool_none (fin_bl I q (by simp))
    | bl j => cases ry; exact eq_bool (fin_bl I q dec_bl)
    | str j => obtain ⟨t', rfl⟩ := ry; exact PySem.EqMixed.eq_bool_str (fin_bl I q (by simp))
    | _ => exact absurd (show false = true from hs) Bool.false_ne_true
  | int i =>
    obtain ⟨t, rfl⟩ := rx
    cases y with
    | non => cases ry; exact PySem.EqNone.eq_int_none (fin_bl I q (by simp))
    | int j => obtain ⟨t', rfl⟩ := ry; exact eq_int (fin_bl I q dec_int)
    | str j => obtain ⟨t', rfl⟩ := ry; exact PySem.EqMixed.eq_int_str (fin_bl I q (by simp))
    | _ => exact absurd (show false = true from hs) Bool.false_ne_true
  | str i =>
    obtain ⟨t, rfl⟩ := rx
    cases y with
    | non => cases ry; exact PySem.EqNone.eq_str_none (fin_bl I q (by simp))
    | bl j => cases ry; exact PySem.EqMixed.eq_str_bool (fin_bl I q (by simp))
    | int j => obtain ⟨t', rfl⟩ := ry; exact PySem.EqMixed.eq_str_int (fin_bl I q (by simp))
    | str j => obtain ⟨t', rfl⟩ := ry; exact eq_str (fin_bl I q dec_str)
    | _ => exact absurd (show false = true from hs) Bool.false_ne_true
  | byt i =>
    obtain ⟨t, rfl⟩ := rx
    cases y with
    | byt j => obtain ⟨t', rfl⟩ := ry; exact PySem.W.eq_bytes (fin_bl I q dec_byt)
    | _ => exact absurd (show false = true from hs) Bool.false_ne_true
  | _ => cases y <;> exact absurd (show false = true from hs) Bool.false_ne_true
theorem op_ne : OpR X (compareOp .NotEq) rNe := by
  intro pins s σ H x y v u Q I rx ry h
  obtain ⟨hs, q⟩ := h
  cases x with
  | non =>
    cases rx
    cases y with
    | non => cases ry; exact PySem.EqNone.ne_none_none (fin_bl I q (by simp))
    | bl j => cases ry; exact PySem.EqNone.ne_none_bool (fin_bl I q (by simp))
    | int j => obtain ⟨t', rfl⟩ := ry; exact PySem.EqNone.ne_none_int (fin_bl I q (by simp))
    | str j => obtain ⟨t', rfl⟩ := ry; exact PySem.EqNone.ne_none_str (fin_bl I q (by simp))
    | _ => exact absurd (show false = true from hs) Bool.false_ne_true
  | bl i =>
    cases rx
    cases y with
    | non => cases ry; exact PySem.EqNone.ne_bool_none (fin_bl I q (by simp))
    | bl j => cases ry; exact ne_bool (fin_bl I q (congrArg not dec_bl))
    | str j => obtain ⟨t', rfl⟩ := ry; exact PySem.EqMixed.ne_bool_str (fin_bl I q (by simp))
    | _ => exact absurd (show false = true from hs) Bool.false_ne_true
  | int i =>
    obtain ⟨t, rfl⟩ := rx
    cases y with
    | non => cases ry; exact PySem.EqNone.ne_int_none (fin_bl I q (by simp))
    | int j => obtain ⟨t', rfl⟩ := ry; exact ne_int (fin_bl I q (congrArg not dec_int))
    | str j => obtain ⟨t', rfl⟩ := ry; exact PySem.EqMixed.ne_int_str (fin_bl I q (by simp))
    | _ => exact absurd (show false = true from hs) Bool.false_ne_true
  | str i =>
    obtain ⟨t, rfl⟩ := rx
    cases y with
    | non => cases ry; exact PySem.EqNone.ne_str_none (fin_bl I q (by simp))
    | bl j => cases ry; exact PySem.EqMixed.ne_str_bool (fin_bl I q (by simp))
    | int j => obtain ⟨t', rfl⟩ := ry; exact PySem.EqMixed.ne_str_int (fin_bl I q (by simp))
    | str j => obtain ⟨t', rfl⟩ := ry; exact ne_str (fin_bl I q (congrArg not dec_str))
    | _ => exact absurd (show false = true from hs) Bool.false_ne_true
  | byt i =>
    obtain ⟨t, rfl⟩ := rx
    cases y with
    | byt j => obtain ⟨t', rfl⟩ := ry; exact PySem.W.ne_bytes (fin_bl I q (congrArg not dec_byt))
    | _ => exact absurd (show false = true from hs) Bool.false_ne_true
  | _ => cases y <;> exact absurd (show false = true from hs) Bool.false_ne_true

theorem op_lt : OpR X (compareOp .Lt) (rI0 fun i j => .bl (decide (i < j))) := opB0 fun _ _ _ _ _ _ _ q => lt_int q
theorem op_le : OpR X (compareOp .LtE) (rI0 fun i j => .bl (decide (i ≤ j))) := opB0 fun _ _ _ _ _ _ _ q => le_int q
theorem op_gt : OpR X (compareOp .Gt) (rI0 fun i j => .bl (decide (j < i))) := opB0 fun _ _ _ _ _ _ _ q => gt_int q
theorem op_ge : OpR X (compareOp .GtE) (rI0 fun i j => .bl (decide (j ≤ i))) := opB0 fun _ _ _ _ _ _ _ q => ge_int q
theorem nomark (b : Expr) {op : CmpOp} (h : op ≠ .In := by decide) (h2 : op ≠ .NotIn := by decide) : behindInMarks op b = false := by
  have e1 : (op == CmpOp.In) = false := by cases op <;> first | rfl | exact absurd rfl h
  have e2 : (op == CmpOp.NotIn) = false := by cases op <;> first | rfl | exact absurd rfl h2
  cases b <;> simp [behindInMarks, e1, e2]
theorem pe_cmpR {op : CmpOp} {r : R2} (ho : OpR X (compareOp op) r) (ha : PE X a ta) (hb : PE X b tb) (hm : behindInMarks op b = false) : PE X (.Compare a [op] [b] pos) (tOp r ta tb) := by
  intro pins s σ H Q I h
  exact wpAny_Compare1 (binT ha hb I h fun v u s2 x y H2 I2 rx ry q => ho pins s2 σ H2 x y v u Q I2 rx ry q) hm
def tTest (t : TE) : TT := fun σ H Q => t σ H fun x H' => ∃ k, x = .bl k ∧ Q k H'
theorem pt_cmpR {op : CmpOp} {r : R2} (ho : OpR X (compareOp op) r) (ha : PE X a ta) (hb : PE X b tb) (hm : behindInMarks op b = false) : PT X (.Compare a [op] [b] pos) (tTest (tOp r ta tb)) := by
  intro pins s σ H Q I h
  refine wpAny_isTrue_Compare1 (thn (ha pins s σ H _ I h) fun v s1 ⟨x, H1, I1, r1, q1⟩ => thn (hb pins s1 σ H1 _ I1 q1) fun u s2 ⟨y, H2, I2, r2, q2⟩ =>
    thn (ho pins s2 σ H2 x y v u _ I2 r1 r2 q2) fun c s3 ⟨z, H3, I3, r3, k, e, q3⟩ => ?_) hm
  subst e
  cases r3
  exact wpAny_truthy_bool ⟨H3, I3, q3⟩
def tChain (r r' : R2) (ta tb tc : TE) : TE := fun σ H Q => ta σ H fun x H1 => tb σ H1 fun y H2 => r x y H2 fun z H3 => ∃ k, z = .bl k ∧
  (if k = true then tc σ H3 fun w' H4 => r' y w' H4 Q else Q (.bl false) H3)
theorem pe_chain {op op' : CmpOp} {r r' : R2} (ho : OpR X (compareOp op) r) (ho' : OpR X (compareOp op') r') (ha : PE X a ta) (hb : PE X b tb) (hc : PE X c tc)
    (hm : lastMarks [op, op'] [b, c] = false := by with_unfolding_all rfl) : PE X (.Compare a [op, op'] [b, c] pos) (tChain r r' ta tb tc) := by
  intro pins s σ H Q I h
  refine Compare_chain (thn (ha pins s σ H _ I h) fun v s1 ⟨x, H1, I1, r1, q1⟩ => chain_link (thn (hb pins s1 σ H1 _ I1 q1) fun u s2 ⟨y, H2, I2, r2, q2⟩ =>
    thn (ho pins s2 σ H2 x y v u _ I2 r1 r2 q2) fun d s3 ⟨z, H3, I3, r3, k, e, q3⟩ => ?_)) hm
  subst e
  cases r3
  refine wpAny_truthy_bool ?_
  cases k with
  | false => exact ite_ff ⟨.bl false, H3, I3, rfl, q3⟩
  | true => exact ite_tt (chain_last (thn (hc pins s3 σ H3 _ I3 q3) fun w' s4 ⟨z', H4, I4, r4, q4⟩ => ho' pins s4 σ H4 y z' u w' Q I4 r2 r4 q4))
theorem line63 : (sizeLine : Nat) < 2 ^ 63 := by rw [sizeLine_eq]; decide
theorem vals1 {x : V} {us : List Value} (r : Vals [x] us) : ∃ u, us = [u] ∧ RelV x u := by
  cases r with
  | cons r1 r2 => cases r2; exact ⟨_, rfl, r1⟩
theorem vals2 {x y : V} {us : List Value} (r : Vals [x, y] us) : ∃ u w', us = [u, w'] ∧ RelV x u ∧ RelV y w' := by
  cases r with
  | cons r1 r2 =>
    cases r2 with
    | cons r3 r4 => cases r4; exact ⟨_, _, rfl, r1, r3⟩
theorem call_abs : CallR X (.builtin "abs") (fun xs H Q => ∃ i, xs = [.int i] ∧ Q (.int (if i < 0 then -i else i)) H) := by
  intro pins s σ H xs us Q I r h
  obtain ⟨i, rfl, q⟩ := h
  obtain ⟨u, rfl, t, rfl⟩ := vals1 r
  exact call_abs_int fun u tk => ⟨.int (if i < 0 then -i else i), H, I.tok _, ⟨_, rfl⟩, q⟩
end
end L2

namespace L2
open PySem PySem.Spec PyProof.Rows

structure ObjM (h : Heap) (x dx C : Addr) (mA : Str → Option Value) : Prop where
  obj : h.get? x = some (PySem.W.instObj C dx)
  ns : h.Ns1 dx mA
  ne : dx ≠ x

theorem lookIn_ns {h : Heap} {dx : Addr} {mA : Str → Option Value} (n : h.Ns1 dx mA) : ∃ od, h.get? dx = some od ∧ ∀ name, PySem.W.lookIn name od = some (mA name) := by
  obtain ⟨o, es, ep, ho, hd, hk, _, hm⟩ := n
  refine ⟨o, ho, fun name => ?_⟩
  have e := hm name
  unfold nsFind findBy at e
  rw [← Array.find?_toList] at e
  unfold PySem.W.lookIn
  rw [hd]
  dsimp only
  split
  · rename_i y q
    rw [q] at e
    exact congrArg some e
  · rename_i q
    rw [q] at e
    have a : es.toList.any (·.refKey) = false := by
      rw [List.any_eq_false]
      intro y hy
      obtain ⟨z, t, hkey⟩ := hk y (Array.mem_toList_iff.mp hy)
      simp [DictEntry.refKey, hkey]
    have a' : ¬ es.toList.any (·.refKey) = true := by rw [a]; exact Bool.false_ne_true
    rw [if_neg a']
    exact congrArg some e

theorem ObjM.look {h : Heap} {x dx C : Addr} {mA : Str → Option Value} (I : ObjM h x dx C mA) : ∃ od, PySem.W.InstAt h x (PySem.W.instObj C dx) C (some od) ∧ ∀ name, PySem.W.lookIn name od = some (mA name) :=
  let ⟨od, ho, hl⟩ := lookIn_ns I.ns
  ⟨od, ⟨I.obj, rfl, rfl, ho⟩, hl⟩

section
variable {prog : Program} {w : World} {A : Around} {E : Value → Shared → Prop} {s : Shared} {K : PySem.W.Frag} {x dx C f : Addr} {mA : Str → Option Value} {name : Str} {v : Value}

theorem get_map {expr : Bool} {Q : Value → Shared → Prop} (X : K.In s.heap) (I : ObjM s.heap x dx C mA) (hg : PySem.W.plainGet K C name = true) (hh : PySem.W.hasDictIn K C = true)
    (ha : PySem.W.findIn K (.ref C) name = some none) (hv : mA name = some v) (hv' : PySem.W.handedIn v = true) (h : Q v { s with toks := s.toks + 1 }) :
    wpAny (model prog w) A (getAttr (.ref x) name expr) Q E s := by
  obtain ⟨od, J, hl⟩ := I.look
  exact PySem.W.get_value X J (PySem.W.plainGet_of hg).1 (PySem.W.findObj_own hh ha rfl (by rw [hl, hv])) hv' h

theorem get_meth {pl : Sem Bool} {Q : Value × List Value → Shared → Prop} (X : K.In s.heap) (I : ObjM s.heap x dx C mA) (hg : PySem.W.plainGet K C name = true)
    (hf : PySem.W.findIn K (.ref C) name = some (some (.ref f))) (ht : PySem.W.isFn K (.ref f) = true) (hv : mA name = none) (h : Q (.ref f, [.ref x]) s) :
    wpAny (model prog w) A (getMethod (.ref x) name pl) Q E s := by
  obtain ⟨od, J, hl⟩ := I.look
  exact PySem.W.method_fn X J (PySem.W.plainGet_of hg).1 (PySem.W.plainGet_of hg).2 hf (beq_iff_eq.mp ht) (by show (PySem.W.lookIn name od).map (·.isSome) = some false; rw [hl, hv]; rfl) h

theorem set_map {ns : List Str} {Q : Unit → Shared → Prop} (X : K.In s.heap) (I : ObjM s.heap x dx C mA)
    (hs : PySem.W.findIn K (.ref C) "__setattr__" = some (some (.builtin "object.__setattr__"))) (hp : PySem.W.plainOver K C = true) (ht : PySem.W.takerIn K C name = some none) (hh : PySem.W.hasDictIn K C = true)
    (hw : PySem.Within mA ns) (hsz : ns.length ≤ sizeLine)
    (h : ∀ h', ObjM h' x dx C (fun y => if y = name then some v else mA y) → Heap.SameBut dx s.heap h' → Q () { s with heap := h', toks := s.toks + 2 }) :
    wpAny (model prog w) A (setAttr (.ref x) name v) Q E s := by
  obtain ⟨od, J, hl⟩ := I.look
  refine PySem.W.set_plain X J hs (PySem.W.osa_open (s := { s with toks := s.toks + 1 }) (r := none) X J hp ht fun b => ?_)
  obtain ⟨cd, hc, hd'⟩ := PySem.W.any_some hh
  have hx : s.heap.get? x = some ⟨.ref C, some dx, .plain, #[]⟩ := I.obj
  refine wpAny_bind (wpAny_pure (wpAny_bind (wpAny_bind (wpAny_loadPart hx (wpAny_bind (PySem.W.Looks.here (s := { s with toks := s.toks + 1 }) (PySem.W.looks_clsIn X hc) ?_))))))
  rw [hd']
  refine wpAny_pure (a := some dx) (wpAny_bind (wpAny_pure (wpAny_bind ?_)))
  refine wpAny_nsSet1 (s := { s with toks := s.toks + 1 }) I.ns fun h' hn2 hs2 => ?_
  obtain ⟨oD, esD, epD, hoD, hdD, hcD⟩ := hn2.count (PySem.Within.cons name v hw)
  refine wpAny_bind (wpAny_lookBehind hoD (by rw [hdD]; exact pastItsLine_dict (Nat.le_trans hcD (by rw [List.length_cons]; omega))) ?_)
  exact wpAny_pure (h _ ⟨(hs2.2 _ (Ne.symm I.ne)).trans I.obj, hn2, I.ne⟩ hs2)

theorem make_map {R : Result → Shared → Prop} {vs : List Value} {kw : List (Str × Value)} (X : K.In s.heap) (hm : PySem.W.makesIn K C = true)
    (hi : PySem.W.findIn K (.ref C) "__init__" = some (some (.ref f))) (hf : PySem.W.typeIn K (.ref f) = some (.type "function"))
    (h : codeAny (model prog w) (A.under (.builtin "type.__call__" ⟨.ref C :: vs, kw⟩)) (.call (.ref f) ⟨.ref (s.heap.objs.size + 1) :: vs, kw⟩) (PySem.W.InitBack (s.heap.objs.size + 1) R)
      { s with heap := (s.heap.push PySem.W.emptyDict).push (PySem.W.instObj C s.heap.objs.size) }) :
    codeAny (model prog w) A (.call (.ref C) ⟨vs, kw⟩) R s := by
  obtain ⟨hh, g, d, t, os⟩ := s
  exact PySem.W.make_core (PySem.W.makes_of X hm) (PySem.W.looks_findIn X hi) (fun self => PySem.W.bind_fn X self hf) (.inl rfl) h
theorem make_map0 {R : Result → Shared → Prop} (X : K.In s.heap) (hm : PySem.W.makesIn K C = true)
    (hi : PySem.W.findIn K (.ref C) "__init__" = some (some (.builtin "object.__init__")))
    (hb : ∀ self, PySem.W.Looks (model prog w) s.heap (bindSpecial (.builtin "object.__init__") self) (.builtin "object.__init__", [self]))
    (h : codeAny (model prog w) (A.under (.builtin "type.__call__" ⟨[.ref C], []⟩)) (.call (.builtin "object.__init__") ⟨[.ref (s.heap.objs.size + 1)], []⟩) (PySem.W.InitBack (s.heap.objs.size + 1) R)
      { s with heap := (s.heap.push PySem.W.emptyDict).push (PySem.W.instObj C s.heap.objs.size) }) :
    codeAny (model prog w) A (.call (.ref C) ⟨[], []⟩) R s := by
  obtain ⟨hh, g, d, t, os⟩ := s
  exact PySem.W.make_core (PySem.W.makes_of X hm) (PySem.W.looks_findIn X hi) hb (.inr ⟨rfl, rfl⟩) h
end

def putF (f : Str) (v : V) : List (Str × V) → List (Str × V)
  | [] => [(f, v)]
  | (g, x) :: r => if g = f then (g, v) :: r else (g, x) :: putF f v r
theorem lookup_putF (f g : Str) (v : V) : ∀ fs : List (Str × V), (putF f v fs).lookup g = if g = f then some v else fs.lookup g
  | [] => by
    show List.lookup g [(f, v)] = _
    by_cases h : g = f
    · have hb : (g == f) = true := beq_iff_eq.mpr h
      simp only [List.lookup, hb, if_pos h]
    · have hb : (g == f) = false := beq_eq_false_iff_ne.mpr h
      simp only [List.lookup, hb, if_neg h]
  | (k, x) :: r => by
    have ih := lookup_putF f g v r
    rw [show putF f v ((k, x) :: r) = (if k = f then (k, v) :: r else (k, x) :: putF f v r) from rfl]
    by_cases hk : k = f
    · rw [if_pos hk]
      by_cases h : g = k
      · have hb : (g == k) = true := beq_iff_eq.mpr h
        simp only [List.lookup, hb, if_pos (h.trans hk)]
      · have hb : (g == k) = false := beq_eq_false_iff_ne.mpr h
        simp only [List.lookup, hb, if_neg (fun e : g = f => h (e.trans hk.symm))]
    · rw [if_neg hk]
      by_cases h : g = k
      · have hb : (g == k) = true := beq_iff_eq.mpr h
        simp only [List.lookup, hb, if_neg (fun e : g = f => hk (h.symm.trans e))]
      · have hb : (g == k) = false := beq_eq_false_iff_ne.mpr h
        simp only [List.lookup, hb]
        exact ih
theorem keys_putF (f : Str) (v : V) : ∀ fs : List (Str × V), f ∈ (putF f v fs).map (·.1) ∧ ∀ g, g ∈ fs.map (·.1) → g ∈ (putF f v fs).map (·.1)
  | [] => ⟨by simp [putF], fun g h => by simp at h⟩
  | (k, x) :: r => by
    obtain ⟨i1, i2⟩ := keys_putF f v r
    rw [show putF f v ((k, x) :: r) = (if k = f then (k, v) :: r else (k, x) :: putF f v r) from rfl]
    by_cases hk : k = f
    · rw [if_pos hk]
      subst hk
      exact ⟨by simp, fun g h => by simpa using h⟩
    · rw [if_neg hk]
      refine ⟨?_, fun g h => ?_⟩
      · rw [List.map_cons]
        exact List.mem_cons_of_mem _ i1
      · rw [List.map_cons] at h ⊢
        rcases List.mem_cons.mp h with e | e
        · exact List.mem_cons.mpr (.inl e)
        · exact List.mem_cons_of_mem _ (i2 g e)
theorem length_putF (f : Str) (v : V) : ∀ fs : List (Str × V), (putF f v fs).length ≤ fs.length + 1
  | [] => by simp [putF]
  | (k, x) :: r => by
    have ih := length_putF f v r
    rw [show putF f v ((k, x) :: r) = (if k = f then (k, v) :: r else (k, x) :: putF f v r) from rfl]
    by_cases hk : k = f
    · rw [if_pos hk, List.length_cons, List.length_cons]; omega
    · rw [if_neg hk, List.length_cons, List.length_cons]; omega

theorem RelO.some_of {v : V} {o : Option Value} (r : RelO (some v) o) : ∃ u, o = some u ∧ RelV v u := by
  cases o with
  | none => exact (show False from r).elim
  | some u => exact ⟨u, rfl, r⟩
theorem RelO.none_of {o : Option Value} (r : RelO none o) : o = none := by
  cases o with
  | none => rfl
  | some u => exact (show False from r).elim
theorem handed_of {v : V} {u : Value} (r : RelV v u) : PySem.W.handedIn u = true := by
  cases v with
  | non => cases (show u = Value.none from r); rfl
  | bl b => cases (show u = Value.bool b from r); rfl
  | int i => obtain ⟨t, e⟩ := (show ∃ t, u = Value.int i t from r); cases e; rfl
  | str x => obtain ⟨t, e⟩ := (show ∃ t, u = Value.str x t from r); cases e; rfl
  | byt b => obtain ⟨t, e⟩ := (show ∃ t, u = Value.bytes b t from r); cases e; rfl
  | flt b => obtain ⟨t, e⟩ := (show ∃ t, u = Value.float b t from r); cases e; rfl
  | ref a => cases (show u = Value.ref a from r); rfl
  | ty n => cases (show u = Value.type n from r); rfl

section
variable {P : Program} {w : World} {H H' : Hp} {h h' : Heap} {a C dx : Addr} {fs fs' : List (Str × V)}
theorem ins_get (hok : HOk P w H h) (e : H a = some (.ins C dx fs)) : ∃ mA, ObjM h a dx C mA ∧ (∀ f, RelO (fs.lookup f) (mA f)) ∧ PySem.Within mA (fs.map (·.1)) ∧ fs.length ≤ 1000 ∧ H dx = some (.own a) := by
  obtain ⟨d, z, ne, ob, mA, n, r, q⟩ := (show ObjOk P w H h a (.ins C dx fs) from hok a _ e)
  exact ⟨mA, ⟨ob, n, ne⟩, r, q, z, d⟩
end

structure Cls (K : PySem.W.Frag) (C : Addr) : Prop where
  pg : PySem.W.plainGet K C Str.empty = true
  hd : PySem.W.hasDictIn K C = true
  po : PySem.W.plainOver K C = true
  sa : PySem.W.findIn K (.ref C) "__setattr__" = some (some (.builtin "object.__setattr__"))
theorem Cls.get {K : PySem.W.Frag} {C : Addr} (c : Cls K C) (f : Str) : PySem.W.plainGet K C f = true := c.pg
def NoAttr (K : PySem.W.Frag) (C : Addr) (f : Str) : Prop := PySem.W.findIn K (.ref C) f = some none
theorem NoAttr.taker {K : PySem.W.Frag} {C : Addr} {f : Str} (n : NoAttr K C f) : PySem.W.takerIn K C f = some none := by
  unfold PySem.W.takerIn
  rw [show PySem.W.findIn K (.ref C) f = some none from n]
  rfl
structure Con (K : PySem.W.Frag) (C : Addr) (f : Str) (v : V) (u : Value) : Prop where
  at_ : PySem.W.findIn K (.ref C) f = some (some u)
  rel : RelV v u
  get : PySem.W.specialIn K u "__get__" = some none
  cp : PySem.W.copiedNames.contains f = false
structure Meth (K : PySem.W.Frag) (C : Addr) (m : Str) (f : Addr) : Prop where
  at_ : PySem.W.findIn K (.ref C) m = some (some (.ref f))
  fn : PySem.W.isFn K (.ref f) = true
  kp : PySem.W.keepIn K (.ref f) = true

section
variable {X : Cx} {pins : List (Addr × Obj)} {σ : St} {H : Hp} {s : Shared} {a C dx : Addr} {fs : List (Str × V)} {f : Str} {v : V} {A : Around} {E : Value → Shared → Prop}

theorem getattr_ok {b : Bool} {Q : Value → Shared → Prop} (I : Inv X pins σ H s) (e : H a = some (.ins C dx fs)) (c : Cls X.K C) (n : NoAttr X.K C f) (l : fs.lookup f = some v)
    (h : ∀ u s', Inv X pins σ H s' → RelV v u → Q u s') : wpAny (model X.prog X.w) A (getAttr (.ref a) f b) Q E s := by
  obtain ⟨mA, O, r, _, _, _⟩ := ins_get I.hok e
  obtain ⟨u, hu, ru⟩ := RelO.some_of (v := v) (o := mA f) (by rw [← l]; exact r f)
  exact get_map I.kIn O (c.get f) c.hd n hu (handed_of ru) (h u _ (I.tok _) ru)

theorem getmeth_ok {m : Str} {g : Addr} {pl : Sem Bool} {Q : Value × List Value → Shared → Prop} (I : Inv X pins σ H s) (e : H a = some (.ins C dx fs)) (c : Cls X.K C) (k : Meth X.K C m g) (l : fs.lookup m = none)
    (h : Q (.ref g, [.ref a]) s) : wpAny (model X.prog X.w) A (getMethod (.ref a) m pl) Q E s := by
  obtain ⟨mA, O, r, _, _, _⟩ := ins_get I.hok e
  have hn : mA m = none := RelO.none_of (by rw [← l]; exact r m)
  exact get_meth I.kIn O (c.get m) k.at_ k.fn hn h

theorem setattr_ok {y : V} {u : Value} {Q : Unit → Shared → Prop} (I : Inv X pins σ H s) (e : H a = some (.ins C dx fs)) (c : Cls X.K C) (n : NoAttr X.K C f) (hl : fs.length < 1000) (ry : RelV y u)
    (h : ∀ s', Inv X pins σ (upd H a (.ins C dx (putF f y fs))) s' → Q () s') : wpAny (model X.prog X.w) A (setAttr (.ref a) f u) Q E s := by
  obtain ⟨mA, O, r, wi, _, ho⟩ := ins_get I.hok e
  have hz : (fs.map (·.1)).length ≤ sizeLine := by rw [List.length_map, sizeLine_eq]; omega
  refine set_map I.kIn O c.sa c.po n.taker c.hd wi hz fun h' O' sb => h _ ?_
  have hd : ∃ o, h'.get? dx = some o := let ⟨o, _, _, e', _⟩ := O'.ns; ⟨o, e'⟩
  refine I.write (x := a) (e := dx) (by rw [e]; exact True.intro) (.inr ho) (fun b q hb z => (sb.2 b hb).trans z) hd ?_
  refine ⟨by rw [upd_ne O.ne]; exact ho, ?_, O.ne, O'.obj, _, O'.ns, fun g => ?_, fun g hg => ?_⟩
  · have := length_putF f y fs; omega
  · show RelO ((putF f y fs).lookup g) (if g = f then some u else mA g)
    rw [lookup_putF]
    by_cases q : g = f
    · rw [if_pos q, if_pos q]; exact ry
    · rw [if_neg q, if_neg q]; exact r g
  · by_cases q : g = f
    · rw [q]; exact (keys_putF f y fs).1
    · refine (keys_putF f y fs).2 g (wi g fun z => hg ?_)
      show (if g = f then some u else mA g) = none
      rw [if_neg q]; exact z

theorem Inv.made (I : Inv X pins σ H s) : Inv X pins σ (upd (upd H s.heap.objs.size (.own (s.heap.objs.size + 1))) (s.heap.objs.size + 1) (.ins C s.heap.objs.size []))
    { s with heap := (s.heap.push PySem.W.emptyDict).push (PySem.W.instObj C s.heap.objs.size) } := by
  have e1 : (s.heap.push PySem.W.emptyDict).get? s.heap.objs.size = some PySem.W.emptyDict := Heap.get?_push_size s.heap rfl
  have e2 : ((s.heap.push PySem.W.emptyDict).push (PySem.W.instObj C s.heap.objs.size)).get? (s.heap.objs.size + 1) = some (PySem.W.instObj C s.heap.objs.size) := by
    have := Heap.get?_push_size (s.heap.push PySem.W.emptyDict) (o := PySem.W.instObj C s.heap.objs.size) rfl
    rwa [Heap.size_push] at this
  have e3 : (s.heap.push PySem.W.emptyDict).Ns s.heap.objs.size (fun _ => none) := ⟨PySem.W.emptyDict, #[], _, e1, rfl, (fun e he => absurd he (by simp)), fun _ => rfl⟩
  have I1 := I.laid (a := s.heap.objs.size) (o := .own (s.heap.objs.size + 1)) (h' := s.heap.push PySem.W.emptyDict) (t' := s.toks) (fun b u q => Heap.get?_push_of_some _ q) (Nat.le_refl _) ⟨_, e1⟩
  refine I1.laid (a := s.heap.objs.size + 1) (o := .ins C s.heap.objs.size []) (t' := s.toks) (fun b u q => Heap.get?_push_of_some _ q) (Nat.le_of_eq (Heap.size_push _ _)) ?_
  have ne : s.heap.objs.size ≠ s.heap.objs.size + 1 := Nat.ne_of_lt (Nat.lt_succ_self _)
  refine ⟨by rw [upd_ne ne, upd_same], Nat.zero_le _, ne, e2, fun _ => none, (Heap.Ns1.of_empty e3).at fun o q => Heap.get?_push_of_some _ q, fun _ => True.intro, fun y hy => absurd rfl hy⟩

theorem attr_of {prog : Program} {w : World} {env : Env} {e : Expr} {f : Str} {pos : Pos} {s : Shared} {Q : Value → Shared → Prop} (hb : attributeBase e f env (eval e env) = eval e env)
    (h : wpAny (model prog w) A (eval e env) (fun o s₁ => wpAny (model prog w) A (getAttr o f true) Q E s₁) E s) : wpAny (model prog w) A (eval (.Attribute e f pos) env) Q E s :=
  Attribute_any_ h (by rw [arm_eval_Attribute, hb])
end

def tFld (K : PySem.W.Frag) (ta : TE) (f : Str) : TE := fun σ H Q => ta σ H fun x H1 => ∃ a C dx fs v, x = .ref a ∧ H1 a = some (.ins C dx fs) ∧ Cls K C ∧ NoAttr K C f ∧ fs.lookup f = some v ∧ Q v H1
def sFld (K : PySem.W.Frag) (ta tv : TE) (f : Str) : TS := fun D σ H => tv σ H fun y H1 => ta σ H1 fun x H2 => ∃ a C dx fs, x = .ref a ∧ H2 a = some (.ins C dx fs) ∧ Cls K C ∧ NoAttr K C f ∧ fs.length < 1000 ∧
  D.nx σ (upd H2 a (.ins C dx (putF f y fs)))
section
variable {X : Cx} {o e value : Expr} {f : Str} {pos pos' tpos : Pos} {ta tv : TE}
theorem pe_fld (he : PE X e ta) (hb : attributeBase e f X.env (eval e X.env) = eval e X.env) : PE X (.Attribute e f pos) (tFld X.K ta f) := by
  intro pins s σ H Q I h
  refine attr_of hb (thn (he pins s σ H _ I h) fun u s1 ⟨x, H1, I1, rx, a, C, dx, fs, v, ex, ea, c, n, l, q⟩ => ?_)
  subst ex
  obtain rfl : u = Value.ref a := rx
  exact getattr_ok I1 ea c n l fun u' s2 I2 ru => ⟨v, H1, I2, ru, q⟩
theorem ps_fld (ha : PE X o ta) (hv : PE X value tv) (hs : swapsWith value (some (.Attribute o f pos')) pos.line X.env = pure false) : PS X (.Assign [.Attribute o f pos'] value pos) (sFld X.K ta tv f) := by
  intro pins s σ H D I h
  refine plainObj_wpAny_Assign_Attribute (thn (hv pins s σ H _ I h) fun u s1 ⟨y, H1, I1, ry, q⟩ => thn (ha pins s1 σ H1 _ I1 q) fun ov s2 ⟨x, H2, I2, rx, a, C, dx, fs, ex, ea, c, n, l, q2⟩ => ?_) hs
  subst ex
  obtain rfl : ov = Value.ref a := rx
  exact setattr_ok I2 ea c n l ry fun s3 I3 => ⟨σ, _, I3, q2⟩
end

section
variable {X : Cx} {pins : List (Addr × Obj)} {σ : St} {H : Hp} {s : Shared} {A : Around} {E : Value → Shared → Prop} {Q : Value → Shared → Prop} {c : Value} {b : Bool}
inductive TyOf (K : PySem.W.Frag) (H : Hp) : V → Value → Prop where
  | non : TyOf K H .non (.type "NoneType")
  | bl (x : Bool) : TyOf K H (.bl x) (.type "bool")
  | int (i : Int) : TyOf K H (.int i) (.type "int")
  | str (x : Str) : TyOf K H (.str x) (.type "str")
  | flt (x : UInt64) : TyOf K H (.flt x) (.type "float")
  | lst {a : Addr} {xs : List V} (e : H a = some (.lst xs)) : TyOf K H (.ref a) (.type "list")
  | frz {a : Addr} {o : Obj} {xs : List V} (e : H a = some (.frz o (.lst xs))) : TyOf K H (.ref a) (.type "list")
  | tup {a : Addr} {xs : List V} (e : H a = some (.tup xs)) : TyOf K H (.ref a) (.type "tuple")
  | dK {a : Addr} {kvs : List (Key × V)} (e : H a = some (.dK kvs)) : TyOf K H (.ref a) (.type "dict")
  | dT {a : Addr} {kvs : List (List Key × V)} (e : H a = some (.dT kvs)) : TyOf K H (.ref a) (.type "dict")
  | ins {a C dx : Addr} {fs : List (Str × V)} (e : H a = some (.ins C dx fs)) (cl : Cls K C) (ha : PySem.W.findIn K (.ref C) "__class__" = some (some (.builtin "object.__class__")))
      (hn : PySem.W.specialIn K (.builtin "object.__class__") "__get__" = some (some (.builtin "getset_descriptor.__get__"))) (htk : PySem.W.takesIn K (.builtin "object.__class__") = some true)
      (hm : PySem.W.mroIn K C (.type "object") = some true) : TyOf K H (.ref a) (.ref C)
theorem isinst_ok {x : V} {u t : Value} (I : Inv X pins σ H s) (rx : RelV x u) (ty : TyOf X.K H x t) (e : PySem.W.kitOne X.K t c = some b) (h : ∀ tk, Q (.bool b) { s with toks := tk }) :
    wpAny (model X.prog X.w) A (call (.builtin "isinstance") [u, c]) Q E s := by
  cases ty with
  | non => cases (show u = Value.none from rx); exact PySem.W.kia_one PySem.W.kitx_none I.kIn True.intro e (fun z => nomatch z) h
  | bl y => cases (show u = Value.bool y from rx); exact PySem.W.kia_one PySem.W.kitx_bool I.kIn True.intro e (fun z => nomatch z) h
  | int i => obtain ⟨t, q⟩ := (show ∃ t, u = Value.int i t from rx); cases q; exact PySem.W.kia_one PySem.W.kitx_int I.kIn True.intro e (fun z => nomatch z) h
  | str y => obtain ⟨t, q⟩ := (show ∃ t, u = Value.str y t from rx); cases q; exact PySem.W.kia_one PySem.W.kitx_str I.kIn True.intro e (fun z => nomatch z) h
  | flt y => obtain ⟨t, q⟩ := (show ∃ t, u = Value.float y t from rx); cases q; exact PySem.W.kia_one PySem.W.kitx_float I.kIn True.intro e (fun z => nomatch z) h
  | @lst a xs ea =>
    cases (show u = Value.ref a from rx)
    obtain ⟨_, _, n, _, h1⟩ := (show ObjOk X.prog X.w H s.heap a (.lst xs) from I.hok a _ ea)
    exact PySem.W.kia_one PySem.W.kitx_list I.kIn ⟨_, h1, rfl⟩ e (fun z => nomatch z) h
  | @frz a ob xs ea =>
    cases (show u = Value.ref a from rx)
    obtain ⟨_, _, _, n, _, h1⟩ := (show ObjOk X.prog X.w H s.heap a (.frz ob (.lst xs)) from I.hok a _ ea)
    exact PySem.W.kia_one PySem.W.kitx_list I.kIn ⟨_, h1, rfl⟩ e (fun z => nomatch z) h
  | @tup a xs ea =>
    cases (show u = Value.ref a from rx)
    obtain ⟨_, _, _, p, _⟩ := (show ObjOk X.prog X.w H s.heap a (.tup xs) from I.hok a _ ea)
    obtain ⟨o, h1, h2, _⟩ := p
    exact PySem.W.kia_one PySem.W.kitx_tuple I.kIn ⟨o, h1, h2⟩ e (fun z => nomatch z) h
  | @dK a kvs ea =>
    cases (show u = Value.ref a from rx)
    obtain ⟨_, _, vs, _, p⟩ := (show ObjOk X.prog X.w H s.heap a (.dK kvs) from I.hok a _ ea)
    obtain ⟨o, es, ep, h1, h2, _⟩ := p
    exact PySem.W.kia_one PySem.W.kitx_dict I.kIn ⟨o, h1, h2.1⟩ e (fun z => nomatch z) h
  | @dT a kvs ea =>
    cases (show u = Value.ref a from rx)
    obtain ⟨_, _, xs, _, o, es, ep, h1, h2, _⟩ := (show ObjOk X.prog X.w H s.heap a (.dT kvs) from I.hok a _ ea)
    exact PySem.W.kia_one PySem.W.kitx_dict I.kIn ⟨o, h1, h2.1⟩ e (fun z => nomatch z) h
  | @ins a C dx fs ea cl ha hn htk hm =>
    cases (show u = Value.ref a from rx)
    obtain ⟨mA, O, _⟩ := ins_get I.hok ea
    obtain ⟨od, J, _⟩ := O.look
    exact PySem.W.kia_one (PySem.W.kitx_own (cl.get _) cl.hd ha hn htk hm) I.kIn J e (fun z => nomatch z) h
end
end L2

namespace L2
open PySem PySem.Spec PyProof.Rows

structure Room (k : Nat) (A : Around) : Prop where
  hd : A.handled = none
  dp : A.depth + 3 * k + 5 < recursionLimit
  un : A.units + 16 * k + 200 < cLine
theorem Room.mono {j k : Nat} {A : Around} (r : Room k A) (h : j ≤ k) : Room j A := ⟨r.hd, by have := r.dp; omega, by have := r.un; omega⟩
theorem Room.deeper {k : Nat} {A : Around} (r : Room (k + 1) A) (env : Env) : Room k (A.deeper env) :=
  ⟨r.hd, by have := r.dp; show A.depth + 1 + 3 * k + 5 < _; omega, by have := r.un; show A.units + 3 + 16 * k + 200 < _; omega⟩
theorem Room.in1 {k : Nat} {A : Around} (r : Room (k + 1) A) : Room k A.in1 :=
  ⟨r.hd, by have := r.dp; show A.depth + 3 * k + 5 < _; omega, by have := r.un; show A.units + 1 + 16 * k + 200 < _; omega⟩
theorem make_depth {A : Around} {C : Addr} {us : List Value} {kw : List (Str × Value)} : (A.under (.builtin "type.__call__" ⟨.ref C :: us, kw⟩)).depth = A.depth + 1 := by
  first | rfl | simp [Around.under, Code.weight, Code.isCreation, Code.isGuard, Code.isCaller, Code.frames, Code.isFrame, guardIds]
theorem make_units {A : Around} {C : Addr} {us : List Value} {kw : List (Str × Value)} : (A.under (.builtin "type.__call__" ⟨.ref C :: us, kw⟩)).units = A.units + 1 := by
  first | rfl | simp [Around.under, Code.cUnits, Code.frames, Code.isFrame]
theorem Room.make {k : Nat} {A : Around} (r : Room (k + 1) A) (C : Addr) (us : List Value) (kw : List (Str × Value)) : Room k (A.under (.builtin "type.__call__" ⟨.ref C :: us, kw⟩)) :=
  ⟨r.hd, by have := r.dp; rw [make_depth]; omega, by have := r.un; rw [make_units]; omega⟩
theorem Room.depth {k : Nat} {A : Around} (r : Room k A) : A.depth < recursionLimit := by have := r.dp; omega
theorem Room.units {k : Nat} {A : Around} (r : Room k A) : A.units + 64 < cLine := by have := r.un; omega
def tNil : TA := fun _ H Q => Q [] H
def tCons (ta : TE) (tr : TA) : TA := fun σ H Q => ta σ H fun x H1 => tr σ H1 fun xs H2 => Q (x :: xs) H2
section
variable {X : Cx} {e : Expr} {es : List Expr} {te : TE} {t : TA} {pos : Pos}
theorem pa_nil : PA X [] tNil := fun _ _ _ _ H Q I h => Calls.spliced_nil ⟨[], H, I, .nil, h⟩
theorem pa_cons (ha : PE X e te) (hr : PA X es t) (hs : starEach (e :: es) X.env = (false, eval e X.env) :: starEach es X.env := by rfl) : PA X (e :: es) (tCons te t) := by
  intro pos pins s σ H Q I h
  rw [hs]
  show wpAny _ _ (spliced ((false, eval e X.env) :: backTo pos (starEach es X.env))) _ _ s
  refine Calls.spliced_cons (thn (ha pins s σ H _ I h) fun u s1 ⟨x, H1, I1, r1, q1⟩ => ?_)
  exact thn (hr pos pins s1 σ H1 _ I1 q1) fun us s2 ⟨xs, H2, I2, r2, q2⟩ => ⟨x :: xs, H2, I2, .cons r1 r2, q2⟩

def tTup (t : TA) : TE := fun σ H Q => t σ H fun xs H1 => xs.length ≤ sizeLine ∧ ∀ p, H1 p = none → Q (.ref p) (upd H1 p (.tup xs))
def tLst (t : TA) : TE := fun σ H Q => t σ H fun xs H1 => xs.length ≤ sizeLine ∧ ∀ p, H1 p = none → Q (.ref p) (upd H1 p (.lst xs))
theorem pe_tup {x1} (h : PA X es t) : PE X (.Tuple es x1 pos) (tTup t) := by
  intro pins s σ H Q I hq
  refine wpAny_Tuple_spliced (thn (h pos pins s σ H _ I hq) fun us s1 ⟨xs, H1, I1, r, z, q⟩ => ⟨by rw [← r.length]; exact z, ?_⟩)
  have hf : H1 s1.heap.objs.size = none := I1.hok.fresh (Nat.le_refl _)
  refine ⟨.ref s1.heap.objs.size, upd H1 s1.heap.objs.size (.tup xs), I1.laid (t' := s1.toks) (fun b u e => Heap.get?_push_of_some _ e) (Nat.le_refl _) ?_, rfl, q _ hf⟩
  exact ⟨z, us, r, ⟨_, Heap.get?_push_size _ rfl, rfl, _, rfl⟩, _, Heap.get?_push_size _ rfl, rfl⟩
theorem pe_lst (h : PA X es t) : PE X (.List es pos) (tLst t) := by
  intro pins s σ H Q I hq
  refine wpAny_List_spliced (thn (h pos pins s σ H _ I hq) fun us s1 ⟨xs, H1, I1, r, z, q⟩ => ⟨by rw [← r.length]; exact z, ?_⟩)
  have hf : H1 s1.heap.objs.size = none := I1.hok.fresh (Nat.le_refl _)
  refine ⟨.ref s1.heap.objs.size, upd H1 s1.heap.objs.size (.lst xs), I1.laid (t' := s1.toks) (fun b u e => Heap.get?_push_of_some _ e) (Nat.le_refl _) ?_, rfl, q _ hf⟩
  exact ⟨z, us, 0, r, Heap.get?_push_size _ rfl⟩
end

abbrev Sp := List V → Hp → VK → XK → Prop
abbrev CXT := List Env → Hp → Shared → XK → Value → Shared → Prop

structure Env0 (P : Program) (w : World) (K : PySem.W.Frag) (mg : Str → Option Value) (base : Heap) (A : Around) (outer : List Env) (s : Shared) (H : Hp) : Prop where
  frames : A.frames = some outer
  mod : Mod K mg base
  bs : ∀ b o, base.get? b = some o → s.heap.get? b = some o ∧ H b = none
  bsz : base.objs.size ≤ s.heap.objs.size
  funs : s.heap.FunFrames base outer
  frf : ∀ b ∈ frs outer, H b = none
  hok : HOk P w H s.heap
  bare : AllBare s.gens
def CE (outer : List Env) (P : Program) (w : World) (H : Hp) (s : Shared) (Q : VK) (u : Value) (s' : Shared) : Prop :=
  ∃ v H', s'.os = s.os ∧ AllBare s'.gens ∧ Un (frs outer) [] H H' s.heap s'.heap ∧ HOk P w H' s'.heap ∧ RelV v u ∧ Q v H'
def CR (CX : CXT) (outer : List Env) (P : Program) (w : World) (H : Hp) (s : Shared) (Q : VK) (E : XK) (r : Result) (s' : Shared) : Prop :=
  match r with
  | .ok (.ret u) => CE outer P w H s Q u s'
  | .ok _ => False
  | .error e => CX outer H s E e s'
structure FnOk (P : Program) (w : World) (K : PySem.W.Frag) (mg : Str → Option Value) (base : Heap) (CX : CXT) (k : Nat) (f : Addr) (fd : FuncData) (ps : List Str) (sp : Sp) : Prop where
  len : ∀ vs H Q E, sp vs H Q E → vs.length = ps.length
  run : ∀ (A : Around) (outer : List Env) (s : Shared) (H : Hp) (args : Args) (us : List Value) (vs : List V) (Q : VK) (E : XK), Room k A → Env0 P w K mg base A outer s H → BindsTo s fd args (ps.zip us) → Vals vs us → sp vs H Q E →
    codeAny (model P w) A (.call (.ref f) args) (CR CX outer P w H s Q E) s
theorem FnOk.mono {P : Program} {w : World} {K : PySem.W.Frag} {mg : Str → Option Value} {base : Heap} {CX : CXT} {j k : Nat} {f : Addr} {fd : FuncData} {ps : List Str} {sp : Sp} (F : FnOk P w K mg base CX j f fd ps sp) (h : j ≤ k) :
    FnOk P w K mg base CX k f fd ps sp := ⟨F.len, fun A outer s H args us vs Q E hr => F.run A outer s H args us vs Q E (hr.mono h)⟩
theorem Env0.make {P : Program} {w : World} {K : PySem.W.Frag} {mg : Str → Option Value} {base : Heap} {A : Around} {outer : List Env} {s : Shared} {H : Hp} (e : Env0 P w K mg base A outer s H) (C : Addr) (us : List Value) (kw : List (Str × Value)) :
    Env0 P w K mg base (A.under (.builtin "type.__call__" ⟨.ref C :: us, kw⟩)) outer s H := ⟨by first | exact e.frames | (simpa [Around.under, Code.envs, Code.isFrame, pushEnvs] using e.frames), e.mod, e.bs, e.bsz, e.funs, e.frf, e.hok, e.bare⟩
theorem Env0.in1 {P : Program} {w : World} {K : PySem.W.Frag} {mg : Str → Option Value} {base : Heap} {A : Around} {outer : List Env} {s : Shared} {H : Hp} (e : Env0 P w K mg base A outer s H) :
    Env0 P w K mg base A.in1 outer s H := ⟨e.frames, e.mod, e.bs, e.bsz, e.funs, e.frf, e.hok, e.bare⟩

section
variable {X : Cx} {pins : List (Addr × Obj)} {σ : St} {H : Hp} {s s' : Shared}
theorem Inv.env0 (I : Inv X pins σ H s) : Env0 X.prog X.w X.K X.mg X.base X.A X.stack s H :=
  ⟨I.ok.frames, I.ok.mod, I.bs, Nat.le_trans I.ok.bsz I.sz, I.stack, I.stkFree, I.hok, I.bare⟩
theorem Inv.after {Q : VK} {u : Value} (I : Inv X pins σ H s) (h : CE X.stack X.prog X.w H s Q u s') : EP X pins σ Q u s' := by
  obtain ⟨v, H', os, bare, un, hok, r, q⟩ := h
  obtain ⟨hh, g, d, t, os'⟩ := s'
  obtain rfl : os' = s.os := os
  exact ⟨v, H', I.call (h' := hh) (g' := g) (d' := d) (t' := t) (ch := []) un hok bare (fun b z => absurd z (by simp)), r, q⟩
end

def tCall (sp : Sp) (dvs : List V) (E : XK) (t : TA) : TE := fun σ H Q => t σ H fun vs H1 => sp (vs ++ dvs) H1 Q E
def tMake (C : Addr) (sp : Sp) (dvs : List V) (E : XK) (t : TA) : TE := fun σ H Q => t σ H fun vs H1 => ∀ x dx, H1 x = none → H1 dx = none → dx ≠ x →
  sp (.ref x :: (vs ++ dvs)) (upd (upd H1 dx (.own x)) x (.ins C dx [])) (fun v H2 => v = .non ∧ Q (.ref x) H2) E

def Binds (K : PySem.W.Frag) (fd : FuncData) (ps : List Str) (ds : List Value) : Prop :=
  ∀ (s : Shared) (us : List Value), K.In s.heap → (us ++ ds).length = ps.length → BindsTo s fd ⟨us, []⟩ (ps.zip (us ++ ds))
theorem Binds.all {K : PySem.W.Frag} {fd : FuncData} {ps : List Str} (h : ∀ us : List Value, us.length = ps.length → bindArgs fd ⟨us, []⟩ = pure (ps.zip us)) : Binds K fd ps [] := fun s us _ hl => by
  rw [List.append_nil] at hl ⊢
  exact .of_eq (h us hl)

def Passes (CX : CXT) (X : Cx) (E : XK) : Prop := ∀ (pins : List (Addr × Obj)) (σ : St) (H : Hp) (s : Shared) (e : Value) (s' : Shared), Inv X pins σ H s → CX X.stack H s E e s' → X.xe e s'

section
variable {X : Cx} {CX : CXT} {k : Nat} {f C : Addr} {fd : FuncData} {ps : List Str} {sp : Sp} {dvs : List V} {ds : List Value} {E : XK} {x m : Str} {p pos apos : Pos} {e o : Expr} {es : List Expr} {ta : TE} {t : TA}

theorem run_fn {pins : List (Addr × Obj)} {σ : St} {H : Hp} {s : Shared} {Q : VK} {us : List Value} {vs : List V} (F : FnOk X.prog X.w X.K X.mg X.base CX k f fd ps sp) (hr : Room k X.A) (hb : Binds X.K fd ps ds) (hd : Vals dvs ds) (hx : Passes CX X E)
    (I : Inv X pins σ H s) (r : Vals vs us) (h : sp (vs ++ dvs) H Q E) : wpAny (model X.prog X.w) X.A (call (.ref f) us) (EP X pins σ Q) X.xe s := by
  have r2 : Vals (vs ++ dvs) (us ++ ds) := r.append hd
  have hl : (us ++ ds).length = ps.length := by rw [← r2.length]; exact F.len _ _ _ _ h
  refine wpAny_call (codeAny_mono (F.run X.A X.stack s H ⟨us, []⟩ (us ++ ds) (vs ++ dvs) Q E hr I.env0 (hb s us I.kIn hl) r2 h) fun r s' hq => ?_)
  cases r with
  | error e => exact hx pins σ H s e s' I hq
  | ok fl =>
    cases fl with
    | ret u => exact I.after hq
    | next => exact False.elim hq
    | brk => exact False.elim hq
    | cont => exact False.elim hq

theorem pe_call (F : FnOk X.prog X.w X.K X.mg X.base CX k f fd ps sp) (hr : Room k X.A) (hg : Gl X x) (hm : X.mg x = some (.ref f)) (hk : PySem.W.keepIn X.K (.ref f) = true) (hb : Binds X.K fd ps ds) (hd : Vals dvs ds) (hx : Passes CX X E)
    (ha : PA X (e :: es) t) (hdb : (x == ("__debug__" : Str)) = false := by decide) (he : starEach (e :: es) X.env = (false, eval e X.env) :: starEach es X.env := by rfl) (hpl : (backTo pos (starEach es X.env)).any (·.1) = false := by rfl) :
    PE X (.Call (.Name x p) (e :: es) [] pos) (tCall sp dvs E t) := by
  intro pins s σ H Q I h
  refine wpAny_Call_Name_kw (ld_glob I hg hm ?_ hdb)
  refine PySem.W.callWith_K (h₀ := X.base) I.ok.mod.kin hk (thn (ha pos pins s σ H _ I h) fun us s1 ⟨vs, H1, I1, r, q⟩ => ⟨I1.kIn, ?_⟩) he hpl
  exact run_fn F hr hb hd hx I1 r q
structure Mk (K : PySem.W.Frag) (C f : Addr) : Prop where
  makes : PySem.W.makesIn K C = true
  init : PySem.W.findIn K (.ref C) "__init__" = some (some (.ref f))
  fn : PySem.W.isFn K (.ref f) = true
  kp : PySem.W.keepIn K (.ref C) = true

theorem run_make {pins : List (Addr × Obj)} {σ : St} {H : Hp} {s : Shared} {Q : VK} {us : List Value} {vs : List V} (M : Mk X.K C f) (F : FnOk X.prog X.w X.K X.mg X.base CX k f fd ps sp) (hr : Room (k + 1) X.A) (hb : Binds X.K fd ps ds) (hd : Vals dvs ds)
    (hx : Passes CX X E) (I : Inv X pins σ H s) (r : Vals vs us)
    (h : ∀ x dx, H x = none → H dx = none → dx ≠ x → sp (.ref x :: (vs ++ dvs)) (upd (upd H dx (.own x)) x (.ins C dx [])) (fun v H2 => v = .non ∧ Q (.ref x) H2) E) :
    wpAny (model X.prog X.w) X.A (call (.ref C) us) (EP X pins σ Q) X.xe s := by
  have hq := h (s.heap.objs.size + 1) s.heap.objs.size (I.hok.fresh (Nat.le_succ _)) (I.hok.fresh (Nat.le_refl _)) (Nat.ne_of_lt (Nat.lt_succ_self _))
  have I2 := Inv.made (C := C) I
  have r2 : Vals (V.ref (s.heap.objs.size + 1) :: (vs ++ dvs)) (Value.ref (s.heap.objs.size + 1) :: (us ++ ds)) := .cons rfl (r.append hd)
  have hl : (Value.ref (s.heap.objs.size + 1) :: us ++ ds).length = ps.length := by
    have e := r2.length
    rw [F.len _ _ _ _ hq] at e
    exact e.symm
  refine wpAny_call (make_map (f := f) I.kIn M.makes M.init (beq_iff_eq.mp M.fn) (codeAny_mono (F.run _ X.stack _ _ ⟨Value.ref (s.heap.objs.size + 1) :: us, []⟩ (Value.ref (s.heap.objs.size + 1) :: (us ++ ds)) _ _ E (hr.make C us [])
    (I2.env0.make C us []) (hb _ (Value.ref (s.heap.objs.size + 1) :: us) I2.kIn hl) r2 hq) fun r s' hq' => ?_))
  cases r with
  | error e => exact hx pins σ _ _ e s' I2 hq'
  | ok fl =>
    cases fl with
    | ret u =>
      obtain ⟨v, H', I3, rv, ev, q3⟩ := I2.after hq'
      subst ev
      exact ⟨rv, ⟨V.ref (s.heap.objs.size + 1), H', I3, rfl, q3⟩⟩
    | next => exact False.elim hq'
    | brk => exact False.elim hq'
    | cont => exact False.elim hq'
theorem pe_make (M : Mk X.K C f) (F : FnOk X.prog X.w X.K X.mg X.base CX k f fd ps sp) (hr : Room (k + 1) X.A) (hg : Gl X x) (hm : X.mg x = some (.ref C)) (hb : Binds X.K fd ps ds) (hd : Vals dvs ds) (hx : Passes CX X E)
    (ha : PA X (e :: es) t) (hdb : (x == ("__debug__" : Str)) = false := by decide) (he : starEach (e :: es) X.env = (false, eval e X.env) :: starEach es X.env := by rfl) (hpl : (backTo pos (starEach es X.env)).any (·.1) = false := by rfl) :
    PE X (.Call (.Name x p) (e :: es) [] pos) (tMake C sp dvs E t) := by
  intro pins s σ H Q I h
  refine wpAny_Call_Name_kw (ld_glob I hg hm ?_ hdb)
  refine PySem.W.callWith_K (h₀ := X.base) I.ok.mod.kin M.kp (thn (ha pos pins s σ H _ I h) fun us s1 ⟨vs, H1, I1, r, q⟩ => ⟨I1.kIn, ?_⟩) he hpl
  exact run_make M F hr hb hd hx I1 r q
end

section
variable {X : Cx} {CX : CXT} {k : Nat} {f C : Addr} {fd : FuncData} {ps ks : List Str} {sp : Sp} {E : XK} {x m : Str} {p pos apos kpos : Pos} {e o : Expr} {es : List Expr} {kws : List Keyword} {te ta : TE} {t tk : TA} {nm : Option Str}
structure KBinds (K : PySem.W.Frag) (fd : FuncData) (ps ks : List Str) (g : List Value → List Value → List Value) (gV : List V → List V → List V) : Prop where
  to : ∀ (s : Shared) (us ws : List Value), K.In s.heap → (g us ws).length = ps.length → BindsTo s fd ⟨us, ks.zip ws⟩ (ps.zip (g us ws))
  rel : ∀ {vs : List V} {us : List Value} {zs : List V} {ws : List Value}, Vals vs us → Vals zs ws → Vals (gV vs zs) (g us ws)
variable {g : List Value → List Value → List Value} {gV : List V → List V → List V}
end

structure FnScope (N P : List Str) (sc : Scope) : Prop where
  kind : sc.kind = .function
  co : sc.isCoroutine = false
  gen : sc.isGenerator = false
  nd : N.Nodup
  pre : N.take P.length = P
  par : ∀ x ∈ P, sc.names.lookup x = some .local ∨ sc.names.lookup x = some .cell
  nofree : ∀ y ∈ sc.names, y.2 ≠ .free

theorem bindL_out {kindOf : Str → Option NameKind} {x : Str} : ∀ {binds : List (Str × Value)} {m : Str → Option Value}, (∀ v, (x, v) ∉ binds) → bindL kindOf binds m x = m x
  | [], _, _ => rfl
  | (n, v) :: r, m, h => by
    unfold bindL
    rw [bindL_out fun w hw => h w (List.mem_cons_of_mem _ hw)]
    split
    · have : x ≠ n := by rintro rfl; exact h v List.mem_cons_self
      simp [this]
    · rfl
theorem bindC_out {kindOf : Str → Option NameKind} {x : Str} : ∀ {binds : List (Str × Value)} {m : Str → Option Value}, (∀ v, (x, v) ∉ binds) → bindC kindOf binds m x = m x
  | [], _, _ => rfl
  | (n, v) :: r, m, h => by
    unfold bindC
    rw [bindC_out fun w hw => h w (List.mem_cons_of_mem _ hw)]
    split
    · rfl
    · have : x ≠ n := by rintro rfl; exact h v List.mem_cons_self
      simp [this]
theorem bindL_get {kindOf : Str → Option NameKind} {x : Str} {v : Value} : ∀ {P : List Str} {vs : List Value} {i : Nat} {m : Str → Option Value}, P.Nodup → P[i]? = some x → vs[i]? = some v → kindOf x = some .local →
    bindL kindOf (P.zip vs) m x = some v
  | [], _, _, _, _, h, _, _ => by simp at h
  | _ :: _, [], _, _, _, _, h, _ => by simp at h
  | p :: P, w :: vs, 0, m, nd, h1, h2, hk => by
    simp at h1 h2; subst h1; subst h2
    show bindL kindOf ((p, w) :: P.zip vs) m p = _
    unfold bindL
    rw [bindL_out fun v hv => (List.nodup_cons.mp nd).1 (List.of_mem_zip hv).1, if_pos hk]
    simp
  | p :: P, w :: vs, i + 1, m, nd, h1, h2, hk => by
    show bindL kindOf ((p, w) :: P.zip vs) m x = _
    unfold bindL
    exact bindL_get (i := i) (List.nodup_cons.mp nd).2 (by simpa using h1) (by simpa using h2) hk
theorem bindC_get {kindOf : Str → Option NameKind} {x : Str} {v : Value} : ∀ {P : List Str} {vs : List Value} {i : Nat} {m : Str → Option Value}, P.Nodup → P[i]? = some x → vs[i]? = some v → kindOf x ≠ some .local →
    bindC kindOf (P.zip vs) m x = some v
  | [], _, _, _, _, h, _, _ => by simp at h
  | _ :: _, [], _, _, _, _, h, _ => by simp at h
  | p :: P, w :: vs, 0, m, nd, h1, h2, hk => by
    simp at h1 h2; subst h1; subst h2
    show bindC kindOf ((p, w) :: P.zip vs) m p = _
    unfold bindC
    rw [bindC_out fun v hv => (List.nodup_cons.mp nd).1 (List.of_mem_zip hv).1, if_neg hk]
    simp
  | p :: P, w :: vs, i + 1, m, nd, h1, h2, hk => by
    show bindC kindOf ((p, w) :: P.zip vs) m x = _
    unfold bindC
    exact bindC_get (i := i) (List.nodup_cons.mp nd).2 (by simpa using h1) (by simpa using h2) hk

def start (N : List Str) (vs : List V) : St := vs.map some ++ List.replicate (N.length - vs.length) none

def cxOf (CX : CXT) (P : Program) (w : World) (K : PySem.W.Frag) (mg : Str → Option Value) (base : Heap) (N : List Str) (qual : Str) (scope : Scope) (f : Addr) (cd : Value) (A : Around) (outer : List Env) (s : Shared) (H : Hp) (E : XK) : Cx where
  prog := P
  w := w
  K := K
  mg := mg
  base := base
  A := A.deeper (envOfC qual scope s.heap.objs.size f cd)
  N := N
  s₀ := s
  H₀ := H
  env := envOfC qual scope s.heap.objs.size f cd
  outer := outer
  stack := envOfC qual scope s.heap.objs.size f cd :: outer
  ex := []
  calm := true
  fn := fun _ => true
  pn := []
  xe := fun e s' => wpAny (model P w) (A.deeper (envOfC qual scope s.heap.objs.size f cd)) (leaving (envOfC qual scope s.heap.objs.size f cd) e) (fun _ s'' => CX outer H s E e s'') (fun e' s'' => CX outer H s E e' s'') s'

theorem cell_has {sc : Scope} {n : Nat} {x : Str} (h : sc.names.lookup x = some .cell) : ∃ c, (cellsFrom n sc.names []).lookup x = some c := by
  have q := PySem.W.cellsFrom_some sc.names n [] (.inl h)
  exact Option.isSome_iff_exists.mp q

theorem inv_start {CX : CXT} {P : Program} {w : World} {K : PySem.W.Frag} {mg : Str → Option Value} {base : Heap} {N ps : List Str} {qual : Str} {scope : Scope} {f : Addr} {cd : Value} {A : Around} {outer : List Env} {s s1 : Shared} {H : Hp} {E : XK} {us : List Value} {vs : List V}
    (S : FnScope N ps scope) (hd : A.handled = none) (e0 : Env0 P w K mg base A outer s H) (hl : vs.length = ps.length) (r : Vals vs us)
    (x : InCallC s s.heap.objs.size (bindL (envOfC qual scope s.heap.objs.size f cd).kindOf (ps.zip us) fun _ => none) (cellsFrom (s.heap.objs.size + 1) scope.names []) (bindC (envOfC qual scope s.heap.objs.size f cd).kindOf (ps.zip us) fun _ => none) s1) :
    Inv (cxOf CX P w K mg base N qual scope f cd A outer s H E) [] (start N vs) H s1 := by
  have hpl : ps.length ≤ N.length := by have := congrArg List.length S.pre; rw [List.length_take] at this; omega
  obtain ⟨h1, tk, rfl, hk⟩ := x.done
  have noA : ∀ b : Addr, b ∉ (cxOf CX P w K mg base N qual scope f cd A outer s H E).ex := fun b z => absurd (show b ∈ ([] : List Addr) from z) (by simp)
  refine ⟨⟨e0.mod, S.kind, rfl, rfl, Nat.le_refl _, fun y z c h1 h2 => ?_, fun y hy => ?_, fun y c _ h => ?_, fun _ => hd, Around.frames_deeper e0.frames, .inr ⟨rfl, rfl⟩, fun b z => absurd z (noA b), e0.bs, e0.bsz, fun b _ _ => noA b, fun b z => absurd z (noA b), e0.funs, e0.frf⟩,
    rfl, e0.bare, Un.kept hk, ⟨_, x.toInCall.ns, fun i y v h1 h2 h3 => ?_⟩, fun y c h => ⟨_, x.cell y c h⟩, e0.hok.fresh (Nat.le_refl _), fun y c h => ?_, fun p hp => absurd (show p ∈ ([] : List (Addr × Obj)) from hp) (by simp), e0.hok.kept hk, ?_⟩
  · exact name_of_addr x.apart (PySem.mem_of_lookup h1) (PySem.mem_of_lookup h2)
  · have hy : scope.names.lookup y = some .cell ∨ scope.names.lookup y = some .free := hy
    rcases hy with hy | hy
    · exact cell_has hy
    · exact absurd rfl (S.nofree _ (PySem.mem_of_lookup hy))
  · exact Nat.le_of_lt (x.above y c (PySem.mem_of_lookup h))
  · have hi : i < vs.length := by
      unfold start at h2
      by_cases hi : i < vs.length
      · exact hi
      · rw [List.getElem?_append_right (by simpa using hi)] at h2
        rw [List.getElem?_replicate] at h2
        split at h2 <;> cases h2
    have ha : vs[i]? = some v := by
      unfold start at h2
      rw [List.getElem?_append_left (by simpa using hi), List.getElem?_map] at h2
      cases e : vs[i]? with
      | none => rw [e] at h2; cases h2
      | some a => rw [e] at h2; cases h2; rfl
    obtain ⟨u, hu, rv⟩ := r.get ha
    have hp : ps[i]? = some y := by
      rw [← S.pre, List.getElem?_take_of_lt (by omega)]; exact h1
    have ndP : ps.Nodup := by rw [← S.pre]; exact S.nd.sublist (List.take_sublist _ _)
    refine ⟨u, rv, ?_⟩
    rcases S.par y (List.mem_of_getElem? hp) with k | k
    · exact .inl ⟨k, bindL_get ndP hp hu k⟩
    · obtain ⟨c, e⟩ := cell_has (n := s.heap.objs.size + 1) k
      refine .inr ⟨.inl k, c, e, ?_⟩
      have q := x.cell y c e
      rw [bindC_get ndP hp hu (by show scope.names.lookup y ≠ _; rw [k]; decide)] at q
      exact q
  · exact e0.hok.fresh (Nat.le_of_lt (x.above y c (PySem.mem_of_lookup h)))
  · unfold start
    show _ = N.length
    rw [List.length_append, List.length_map, List.length_replicate]
    omega

theorem fn_of {CX : CXT} {P : Program} {w : World} {K : PySem.W.Frag} {mg : Str → Option Value} {base : Heap} {k : Nat} {f : Addr} {name qual : Str} {params : Arguments} {body : List Stmt} {scope : Scope} {dV kV doc pm cdv ct oc : Value} {an od : Option Addr}
    {osl : Array (Option Value)} {N ps : List Str} {sp : Sp} (lk : K.lookup f = some ⟨oc, od, .func (PySem.W.fnOf name qual params body scope dV kV doc pm an cdv ct), osl⟩) (hcd : PySem.W.codeIn K cdv qual = true) (S : FnScope N ps scope)
    (len : ∀ vs H Q E, sp vs H Q E → vs.length = ps.length)
    (hbody : ∀ (A : Around) (outer : List Env) (s : Shared) (H : Hp) (vs : List V) (Q : VK) (E : XK), Room k (A.deeper (envOfC qual scope s.heap.objs.size f cdv)) → sp vs H Q E →
      ∃ t, PSs (cxOf CX P w K mg base N qual scope f cdv A outer s H E) body t ∧ t { nx := fun _ H' => Q .non H', rt := Q } (start N vs) H) :
    FnOk P w K mg base CX (k + 1) f (PySem.W.fnOf name qual params body scope dV kV doc pm an cdv ct) ps sp := by
  refine ⟨len, fun A outer s H args us vs Q E hr e0 hb r hsp => ?_⟩
  have hl := len _ _ _ _ hsp
  have KX : K.In s.heap := e0.mod.kin.keeps fun b o e => (e0.bs b o e).1
  have lim : s.heap.NoLimit := e0.mod.nolimit.keeps fun b o e => (e0.bs b o e).1
  have hkind : ∀ y ∈ ps.zip us, scope.names.lookup y.1 = some .local ∨ (scope.names.lookup y.1 = some .cell ∧ ((cellsFrom (s.heap.objs.size + 1) scope.names []).lookup y.1).isSome = true) := fun ⟨n, v⟩ hy => by
    rcases S.par n (List.of_mem_zip hy).1 with q | q
    · exact .inl q
    · exact .inr ⟨q, PySem.W.cellsFrom_some _ _ _ (.inl q)⟩
  refine codeAny_call_function hr.depth (KX _ _ lk) rfl S.co S.gen rfl (PySem.W.codeRec_of KX hcd) (hb _ _ _ _ ?_)
  refine wpAny_newFunctionEnv_cells S.kind hkind fun env he s1 x => ?_
  subst he
  refine ⟨lim.keeps x.toInCall.keep, codeAny_func ?_⟩
  obtain ⟨t, ht, hq⟩ := hbody A outer s H vs Q E (hr.deeper _) hsp
  have I : Inv (cxOf CX P w K mg base N qual scope f cdv A outer s H E) [] (start N vs) H s1 := inv_start S hr.hd e0 hl r x
  refine wpAny_mono (ht [] s1 (start N vs) H _ I hq) (fun fl s' hs => ?_) fun e s' hs => hs
  have fin : ∀ {σ' : St} {H' : Hp} {v : V} {u : Value}, Inv (cxOf CX P w K mg base N qual scope f cdv A outer s H E) [] σ' H' s' → RelV v u → Q v H' → CE outer P w H s Q u s' :=
    fun {σ' H' v u} J rv q => ⟨v, H', J.os, J.bare, J.base, J.hok, rv, q⟩
  cases fl with
  | ret u =>
    obtain ⟨v, σ', H', J, rv, q⟩ := hs
    exact fin J rv q
  | next =>
    obtain ⟨σ', H', J, q⟩ := hs
    exact fin (v := V.non) (u := Value.none) J rfl q
  | brk =>
    obtain ⟨_, _, _, q⟩ := hs
    exact False.elim q
  | cont =>
    obtain ⟨_, _, _, q⟩ := hs
    exact False.elim q
end L2

namespace L2
open PySem PySem.Spec PyProof.Rows
section
variable {X : Cx} {x : Str} {p pos : Pos} {e : Expr} {es : List Expr} {t : TA} {id T : String} {r : List V → Hp → VK → Prop}

def tCB (r : List V → Hp → VK → Prop) (t : TA) : TE := fun σ H Q => t σ H fun vs H1 => r vs H1 Q
theorem pe_callB (hc : CallR X (.builtin id) r) (hg : Gl X x) (hm : X.mg x = none) (hv : bootBuiltins x = some (.builtin id)) (ha : PA X (e :: es) t) (hn : x ≠ "__name__" := by decide) (hdb : (x == ("__debug__" : Str)) = false := by decide)
    (he : starEach (e :: es) X.env = (false, eval e X.env) :: starEach es X.env := by rfl) (hpl : (backTo pos (starEach es X.env)).any (·.1) = false := by rfl) : PE X (.Call (.Name x p) (e :: es) [] pos) (tCB r t) := by
  intro pins s σ H Q I h
  refine wpAny_Call_Name_kw (ld_blt I hg hm hv ?_ hn hdb)
  exact PyProof.Rows.callWith_builtin1 (thn (ha pos pins s σ H _ I h) fun us s1 ⟨vs, H1, I1, r1, q1⟩ => hc pins s1 σ H1 vs us Q I1 r1 q1) he hpl
theorem pe_callTy (hc : CallR X (.type T) r) (hg : Gl X x) (hm : X.mg x = none) (hv : bootBuiltins x = some (.type T)) (ha : PA X (e :: es) t) (hn : x ≠ "__name__" := by decide) (hdb : (x == ("__debug__" : Str)) = false := by decide)
    (he : starEach (e :: es) X.env = (false, eval e X.env) :: starEach es X.env := by rfl) (hpl : (backTo pos (starEach es X.env)).any (·.1) = false := by rfl) : PE X (.Call (.Name x p) (e :: es) [] pos) (tCB r t) := by
  intro pins s σ H Q I h
  refine wpAny_Call_Name_kw (ld_blt I hg hm hv ?_ hn hdb)
  exact PyProof.Rows.callWith_type1 (thn (ha pos pins s σ H _ I h) fun us s1 ⟨vs, H1, I1, r1, q1⟩ => hc pins s1 σ H1 vs us Q I1 r1 q1) he hpl
end
end L2

namespace HT
open PySem PyProof.Rows

section
open PySem.SeqAt
open PySem.AutoSeq1 (wpAny_loadPart')
open PySem.MeetsSeq PySem.MeetsSeq2 PySem.MeetsSeq3

end

section
variable {prog : Program} {w : World} {A : Around} {E : Value → Shared → Prop} {s : Shared}

theorem cat_tup {t b : Addr} {vs ws : List Value} {Q : Value → Shared → Prop} (ht : IsTup s.heap t vs.toArray) (hb : IsTup s.heap b ws.toArray) (hv : vs ≠ [])
    (h1 : ws = [] → Q (.ref t) s) (h2 : ws ≠ [] → Q (.ref s.heap.objs.size) { s with heap := s.heap.push { cls := .type "tuple", data := .seq (vs ++ ws).toArray } })
    (hsz : vs.length + ws.length ≤ sizeLine) : wpAny (model prog w) A (binaryOp .Add (.ref t) (.ref b)) Q E s := by
  obtain ⟨⟨cls, dd, data, sl⟩, ho, hc, n, hd⟩ := id ht
  obtain ⟨⟨cls2, dd2, data2, sl2⟩, ho2, hc2, n2, hd2⟩ := id hb
  simp only at hc hd hc2 hd2
  subst hc hd hc2 hd2
  have e : vs.toArray ++ ws.toArray = (vs ++ ws).toArray := by simp
  by_cases hw : ws = []
  · exact concat_meets ⟨_, ho, rfl⟩ ⟨_, ho2, rfl⟩ noFill_tuple_add seq_tuple_add PySem.F.slot_tuple_add PySem.F.entry_tuple_add (PySem.F.args_tuple_add_2 _ _)
      (tuple_addW1 t b vs.toArray ws.toArray n n2 dd dd2 sl sl2 (by simpa using hv) (by simp [hw])) ⟨ho, ho2, h1 hw⟩
  · refine concat_meets ⟨_, ho, rfl⟩ ⟨_, ho2, rfl⟩ noFill_tuple_add seq_tuple_add PySem.F.slot_tuple_add PySem.F.entry_tuple_add (PySem.F.args_tuple_add_2 _ _)
      (tuple_addW2 t b vs.toArray ws.toArray n n2 dd dd2 sl sl2 (by simpa using hv) (by simpa using hw) (by rw [List.size_toArray, List.size_toArray]; exact hsz)) ⟨ho, ho2, ?_⟩
    rw [e]
    exact h2 hw

def sIx (n d : Nat) : Option Int → Nat
  | none => d
  | some v => if v < 0 then (v + (n : Int)).toNat else min v.toNat n
theorem sIx_none (n d : Nat) : sIx n d none = d := rfl
theorem sIx_nat (n d k : Nat) : sIx n d (some (k : Int)) = min k n := by
  show (if (k : Int) < 0 then ((k : Int) + (n : Int)).toNat else min (k : Int).toNat n) = min k n
  rw [if_neg (by omega), Int.toNat_natCast]
theorem sIx_le (n d : Nat) (hd : d ≤ n) (o : Option Int) : sIx n d o ≤ n := by
  cases o with
  | none => exact hd
  | some v =>
    show (if v < 0 then (v + (n : Int)).toNat else min v.toNat n) ≤ n
    by_cases hv : v < 0
    · rw [if_pos hv]; omega
    · rw [if_neg hv]; exact Nat.min_le_right _ _
theorem clip_eq (v : Int) (n d : Nat) : (if v < 0 then max (v + (n : Int)) 0 else min v (n : Int)) = ((sIx n d (some v) : Nat) : Int) := by
  show (if v < 0 then max (v + (n : Int)) 0 else min v (n : Int)) = (((if v < 0 then (v + (n : Int)).toNat else min v.toNat n) : Nat) : Int)
  by_cases hv : v < 0
  · simp only [if_pos hv]; omega
  · simp only [if_neg hv]; omega
theorem adjust_gen (lo hi : Option Int) (n : Nat) : Builtin.Slice.sliceAdjust lo hi 1 (n : Int) = (((sIx n 0 lo : Nat) : Int), ((sIx n n hi : Nat) : Int)) := by
  have h1 : ¬ ((1 : Int) < 0) := by omega
  unfold Builtin.Slice.sliceAdjust
  simp only [h1, if_false]
  refine Prod.ext ?_ ?_
  · cases lo with
    | none => rfl
    | some v => exact clip_eq v n 0
  · cases hi with
    | none => rfl
    | some v => exact clip_eq v n n
theorem places_gen (i j : Nat) : Builtin.Slice.slicePlaces (i : Int) (j : Int) 1 = j - i := by
  unfold Builtin.Slice.slicePlaces
  have h1 : (1 : Int) > 0 := by omega
  simp only [h1, if_true, Int.ediv_one]
  split <;> omega
theorem slicePart_ {v : Value} {o : Option Int} {Q : Option Int → Shared → Prop} (p : IsPart v o) (h : Q o s) : wpAny (model prog w) A (Builtin.Slice.slicePartIndex v) Q E s := by
  cases p with
  | none => exact slicePart_none h
  | int i t => exact slicePart_int h
theorem sliceApplied_gen {sl : Addr} {vl vu : Value} {lo hi : Option Int} {n : Nat} {Q : Int × Int × Nat → Shared → Prop} (hs : s.heap.IsSliceOf sl vl vu .none) (pl : IsPart vl lo) (pu : IsPart vu hi)
    (h : Q (((sIx n 0 lo : Nat) : Int), 1, sIx n n hi - sIx n 0 lo) s) : wpAny (model prog w) A (Builtin.Slice.sliceApplied (.ref sl) (pure (n : Int))) Q E s := by
  obtain ⟨os, hos, hcs, hds⟩ := id hs
  unfold Builtin.Slice.sliceApplied Builtin.Slice.sliceFields
  refine wpAny_bind (wpAny_bind (wpAny_field hos hds (x := vl) rfl (wpAny_bind (wpAny_field hos hds (x := vu) rfl (wpAny_bind (wpAny_field hos hds (x := .none) rfl (wpAny_pure ?_)))))))
  refine wpAny_bind (slicePart_none ?_)
  show wpAny _ _ (if ((1 : Int) == 0) = true then _ else _) _ _ s
  rw [if_neg (by decide)]
  refine wpAny_bind (slicePart_ pl (wpAny_bind (slicePart_ pu (wpAny_bind (wpAny_pure ?_)))))
  show wpAny _ _ (match Builtin.Slice.sliceAdjust lo hi 1 (n : Int) with | (lo, hi) => pure (lo, (1 : Int), Builtin.Slice.slicePlaces lo hi 1)) _ _ s
  rw [adjust_gen lo hi n]
  show wpAny _ _ (pure (((sIx n 0 lo : Nat) : Int), (1 : Int), Builtin.Slice.slicePlaces ((sIx n 0 lo : Nat) : Int) ((sIx n n hi : Nat) : Int) 1)) _ _ s
  rw [places_gen]
  exact wpAny_pure h
theorem pick_gen (xs : Array Value) (i k : Nat) : ((List.range k).filterMap fun (m : Nat) => xs[((i : Int) + (m : Int) * 1).toNat]?).toArray = ((xs.toList.drop i).take k).toArray := by
  have e : (fun (m : Nat) => xs[((i : Int) + (m : Int) * 1).toNat]?) = fun m => xs[i + m]? := by
    funext m
    have : ((i : Int) + (m : Int) * 1).toNat = i + m := by omega
    rw [this]
  rw [e]
  have := pick_run xs i k
  rw [List.filterMap_map] at this
  have e2 : ((fun x => xs[x]?) ∘ fun x => i + x) = fun m => xs[i + m]? := rfl
  rw [e2] at this
  rw [this]

theorem getItem_tuple_cut {t sl : Addr} {items : Array Value} {vl vu : Value} {lo hi : Option Int} {Q : Value → Shared → Prop} (ht : IsTup s.heap t items) (hs : s.heap.IsSliceOf sl vl vu .none) (pl : IsPart vl lo) (pu : IsPart vu hi)
    (hw : ¬ (sIx items.size 0 lo = 0 ∧ sIx items.size items.size hi = items.size))
    (h : Q (.ref s.heap.objs.size) { s with heap := s.heap.push { cls := .type "tuple", data := .seq ((items.toList.drop (sIx items.size 0 lo)).take (sIx items.size items.size hi - sIx items.size 0 lo)).toArray } })
    (hsz : items.size ≤ sizeLine) : wpAny (model prog w) A (getItem (.ref t) (.ref sl)) Q E s := by
  have htake : sizeOk (.seq ((items.toList.drop (sIx items.size 0 lo)).take (sIx items.size items.size hi - sIx items.size 0 lo)).toArray) := by
    show ((items.toList.drop (sIx items.size 0 lo)).take (sIx items.size items.size hi - sIx items.size 0 lo)).toArray.size ≤ sizeLine
    rw [List.size_toArray, List.length_take, List.length_drop, Array.length_toList]
    omega
  have hj : sIx items.size items.size hi ≤ items.size := sIx_le _ _ (Nat.le_refl _) hi
  obtain ⟨os, hos, hcs, hds⟩ := id hs
  have hTs : s.TypeIs (.ref sl) "slice" := ⟨os, hos, hcs⟩
  unfold getItem
  try with_reducible refine wpAny_holding ?_
  first | refine wpAny_bind (wpAny_pure ?_) | skip
  refine wpAny_bind (wpAny_sequenceKey ht.typeIs (by decide) ?_)
  refine wpAny_bind (wpAny_callSpecial?_slot (name := Str.ofString "__getitem__") ht.typeIs PyProof.Rows.slot_tuple_getitem
    (wpAny_call_entry PyProof.Rows.slot_tuple_getitem ht.typeIs entry_tuple_getitem ?_ (args_tuple_getitem _ _)))
  show wpAny _ _ (Builtin.Tuple.tupleItemsOf (.ref t) >>= _) _ _ s
  refine wpAny_bind (tupleItemsOf_ ht ?_)
  refine wpAny_bind (wpAny_typeOf hTs ?_)
  rw [if_pos (by decide)]
  refine wpAny_bind (sliceApplied_gen hs pl pu ?_)
  have hno : ¬ ((((sIx items.size 0 lo : Nat) : Int) == 0 && (1 : Int) == 1 && (sIx items.size items.size hi - sIx items.size 0 lo) == items.size) = true) := by
    intro q
    rw [Bool.and_eq_true, Bool.and_eq_true] at q
    have q1 : ((sIx items.size 0 lo : Nat) : Int) = 0 := eq_of_beq q.1.1
    have q2 : sIx items.size items.size hi - sIx items.size 0 lo = items.size := eq_of_beq q.2
    exact hw ⟨by omega, by omega⟩
  show wpAny _ _ (if (((sIx items.size 0 lo : Nat) : Int) == 0 && (1 : Int) == 1 && (sIx items.size items.size hi - sIx items.size 0 lo) == items.size) = true then _ else _) _ _ s
  rw [if_neg hno, pick_gen]
  first
    | exact wpAny_bind (m := Builtin.Tuple.tupleExact _) (wpAny_newObj_type (wpAny_pure ⟨_, rfl, wpAny_pure h⟩) htake)
    | exact wpAny_bind (m := Builtin.Tuple.tupleExact _) (wpAny_newObj_type (wpAny_bind (wpAny_pure (wpAny_pure ⟨_, rfl, wpAny_pure h⟩))) htake)
    | exact wpAny_bind (wpAny_bind (m := Builtin.Tuple.tupleExact _) (wpAny_newObj_type (wpAny_pure (wpAny_pure ⟨_, rfl, wpAny_pure h⟩)) htake))
    | exact wpAny_bind (wpAny_bind (m := Builtin.Tuple.tupleExact _) (wpAny_newObj_type (wpAny_pure ⟨_, rfl, wpAny_pure h⟩) htake))
end
end HT

namespace L2
open PySem PySem.Spec PyProof.Rows

abbrev TO := St → Hp → (Option Int → Hp → Prop) → Prop
def PO (X : Cx) (e : Option Expr) (t : TO) : Prop :=
  ∀ (pins : List (Addr × Obj)) (s : Shared) (σ : St) (H : Hp) (Q : Option Int → Hp → Prop), Inv X pins σ H s → t σ H Q →
    wpAny (model X.prog X.w) X.A (evalPart e X.env) (fun u s' => ∃ o H', Inv X pins σ H' s' ∧ IsPart u o ∧ Q o H') X.xe s
def tNoPart : TO := fun _ H Q => Q none H
def tPart (t : TE) : TO := fun σ H Q => t σ H fun x H1 => ∃ i, x = .int i ∧ Q (some i) H1

section
variable {X : Cx} {e : Expr} {te : TE} {lo hi : Option Expr} {tl th : TO} {pos p2 : Pos}

theorem po_none : PO X none tNoPart := by
  intro pins s σ H Q I h
  rw [evalPart_none]
  exact wpAny_pure ⟨none, H, I, .none, h⟩
theorem po_some (h : PE X e te) : PO X (some e) (tPart te) := by
  intro pins s σ H Q I hw
  rw [evalPart_some]
  refine thn (h pins s σ H _ I hw) fun u s1 ⟨x, H1, I1, r1, q1⟩ => ?_
  obtain ⟨i, rfl, q⟩ := q1
  obtain ⟨t, rfl⟩ := r1
  exact ⟨some i, H1, I1, .int i t, q⟩

def SlR (X : Cx) (r : V → Option Int → Option Int → Hp → VK → Prop) : Prop :=
  ∀ (pins : List (Addr × Obj)) (s : Shared) (σ : St) (H : Hp) (x : V) (v vl vu : Value) (lo hi : Option Int) (sl : Addr) (Q : VK), Inv X pins σ H s → RelV x v → s.heap.IsSliceOf sl vl vu .none → IsPart vl lo → IsPart vu hi → r x lo hi H Q →
    ∃ T id, typeLookup (.type T) "__getitem__" = pure (some (.builtin id)) ∧ s.TypeIs v T ∧ wpAny (model X.prog X.w) X.A (getItem v (.ref sl)) (EP X pins σ Q) X.xe s
def tSl (r : V → Option Int → Option Int → Hp → VK → Prop) (te : TE) (tl th : TO) : TE := fun σ H Q => te σ H fun x H1 => tl σ H1 fun l H2 => th σ H2 fun u H3 => r x l u H3 Q
theorem pe_slice {r : V → Option Int → Option Int → Hp → VK → Prop} (hr : SlR X r) (he : PE X e te) (hl : PO X lo tl) (hu : PO X hi th) : PE X (.Subscript e (.Slice lo hi none p2) pos) (tSl r te tl th) := by
  intro pins s σ H Q I h
  refine Subscript_ (thn (he pins s σ H _ I h) fun v s1 ⟨x, H1, I1, r1, q1⟩ => ?_)
  refine wpAny_Slice (thn (hl pins s1 σ H1 _ I1 q1) fun vl s2 ⟨l, H2, I2, pl, q2⟩ => thn (hu pins s2 σ H2 _ I2 q2) fun vu s3 ⟨u, H3, I3, pu, q3⟩ => ?_)
  rw [evalPart_none]
  refine wpAny_pure ?_
  have I4 : Inv X pins σ H3 { s3 with heap := s3.heap.push { cls := .type "slice", data := .fields #[vl, vu, .none] } } := I3.kept (t' := s3.toks) fun b ob q => Heap.get?_push_of_some _ q
  obtain ⟨T, id, hT, ht, hg⟩ := hr pins { s3 with heap := s3.heap.push { cls := .type "slice", data := .fields #[vl, vu, .none] } } σ H3 x v vl vu l u s3.heap.objs.size Q I4 r1 (Heap.IsSliceOf.new ..) pl pu q3
  show wpAny (model X.prog X.w) X.A (subscriptTail e (.Slice lo hi none p2) v (.ref s3.heap.objs.size)) (EP X pins σ Q) X.xe { s3 with heap := s3.heap.push { cls := .type "slice", data := .fields #[vl, vu, .none] } }
  exact tail_any (ops := [.ref s3.heap.objs.size, v]) ht hT hg (by with_unfolding_all rfl)

def cutV (xs : List V) (lo hi : Option Int) : List V := (xs.drop (HT.sIx xs.length 0 lo)).take (HT.sIx xs.length xs.length hi - HT.sIx xs.length 0 lo)
theorem cutV_length (xs : List V) (lo hi : Option Int) : (cutV xs lo hi).length ≤ xs.length := by
  unfold cutV
  rw [List.length_take, List.length_drop]
  omega
def rSlT (K : PySem.W.Frag) : V → Option Int → Option Int → Hp → VK → Prop := fun x lo hi H Q => ∃ a xs, x = .ref a ∧ SqT K H a xs ∧
  ¬ (HT.sIx xs.length 0 lo = 0 ∧ HT.sIx xs.length xs.length hi = xs.length) ∧ ∀ p, H p = none → Q (.ref p) (upd H p (.tup (cutV xs lo hi)))
theorem sl_tup : SlR X (rSlT X.K) := by
  intro pins s σ H x v vl vu lo hi sl Q I rx hs pl pu h
  obtain ⟨a, xs, rfl, hx, hw, q⟩ := h
  cases rx
  obtain ⟨its, r, ht, hz⟩ := I.tuple hx
  have hlen : its.toArray.size = xs.length := by rw [List.size_toArray]; exact r.length.symm
  refine ⟨"tuple", _, PyProof.Rows.slot_tuple_getitem.lookup, ht.typeIs, ?_⟩
  refine HT.getItem_tuple_cut ht hs pl pu (by rw [hlen]; exact hw) ?_ (by rw [hlen]; exact hz)
  rw [hlen]
  refine ⟨.ref s.heap.objs.size, _, I.laid (t' := s.toks) (o := .tup (cutV xs lo hi)) (fun b ob q => Heap.get?_push_of_some _ q) (Nat.le_refl _) ?_, rfl, q _ (I.hok.fresh (Nat.le_refl _))⟩
  exact ⟨Nat.le_trans (cutV_length xs lo hi) hz, _, (r.drop (HT.sIx xs.length 0 lo)).take (HT.sIx xs.length xs.length hi - HT.sIx xs.length 0 lo), IsTup.new _ _, _, Heap.get?_push_size _ rfl, rfl⟩

def rCatT (K : PySem.W.Frag) : R2 := fun x y H Q => ∃ a b xs ys, x = .ref a ∧ y = .ref b ∧ SqT K H a xs ∧ SqT K H b ys ∧ xs ≠ [] ∧ xs.length + ys.length ≤ sizeLine ∧
  (ys = [] → Q (.ref a) H) ∧ (ys ≠ [] → ∀ p, H p = none → Q (.ref p) (upd H p (.tup (xs ++ ys))))
theorem Vals.nil_iff {xs : List V} {us : List Value} (r : Vals xs us) : us = [] ↔ xs = [] := by
  cases r with
  | nil => simp
  | cons _ _ => simp
theorem op_catT : OpR X (binaryOp .Add) (rCatT X.K) := by
  intro pins s σ H x y v u Q I rx ry h
  obtain ⟨a, b, xs, ys, rfl, rfl, ha, hb, hx, hz, q1, q2⟩ := h
  cases rx
  cases ry
  obtain ⟨its, r1, p1, _⟩ := I.tuple ha
  obtain ⟨its2, r2, p2, _⟩ := I.tuple hb
  refine HT.cat_tup p1 p2 (fun z => hx (r1.nil_iff.mp z)) (fun z => ⟨.ref a, H, I, rfl, q1 (r2.nil_iff.mp z)⟩) (fun z => ?_) (by rw [← r1.length, ← r2.length]; exact hz)
  refine ⟨.ref s.heap.objs.size, _, I.laid (t' := s.toks) (o := .tup (xs ++ ys)) (fun b ob q => Heap.get?_push_of_some _ q) (Nat.le_refl _) ?_, rfl, q2 (fun w => z (r2.nil_iff.mpr w)) _ (I.hok.fresh (Nat.le_refl _))⟩
  exact ⟨by rw [List.length_append]; exact hz, _, r1.append r2, IsTup.new _ _, _, Heap.get?_push_size _ rfl, rfl⟩
end
end L2

namespace L2
open PySem PySem.Spec PyProof.Rows

def ixN (n : Nat) (i : Int) : Option Nat := if 0 ≤ i then (if i < n then some i.toNat else none) else if -(n : Int) ≤ i then some (i + n).toNat else none
def atI {α : Type} (xs : List α) (i : Int) : Option α := (ixN xs.length i).bind fun j => xs[j]?
theorem ixN_seq {n : Nat} {i : Int} {j : Nat} (h : ixN n i = some j) : seqIndex? i n = some j ∧ j < n ∧ -(n : Int) ≤ i ∧ i < n := by
  unfold ixN at h
  by_cases h0 : 0 ≤ i
  · rw [if_pos h0] at h
    by_cases h1 : i < n
    · rw [if_pos h1] at h
      have e : i.toNat = j := Option.some.inj h
      exact ⟨by rw [seqIndex_of h0 h1, e], by omega, by omega, h1⟩
    · rw [if_neg h1] at h; cases h
  · rw [if_neg h0] at h
    by_cases h1 : -(n : Int) ≤ i
    · rw [if_pos h1] at h
      have e : (i + n).toNat = j := Option.some.inj h
      exact ⟨by rw [seqIndex_neg (by omega) h1, e], by omega, h1, by omega⟩
    · rw [if_neg h1] at h; cases h
theorem atI_get {α : Type} {xs : List α} {i : Int} {v : α} (h : atI xs i = some v) : ∃ j, seqIndex? i xs.length = some j ∧ xs[j]? = some v ∧ j < xs.length ∧ -(xs.length : Int) ≤ i ∧ i < xs.length := by
  unfold atI at h
  cases e : ixN xs.length i with
  | none => rw [e] at h; cases h
  | some j =>
    rw [e] at h
    obtain ⟨h1, h2, h3, h4⟩ := ixN_seq e
    exact ⟨j, h1, h, h2, h3, h4⟩
theorem atI_nat {α : Type} {xs : List α} {j : Nat} {v : α} (h : xs[j]? = some v) : atI xs (j : Int) = some v := by
  have hj : j < xs.length := (List.getElem?_eq_some_iff.mp h).1
  have e : ixN xs.length (j : Int) = some j := by
    unfold ixN
    rw [if_pos (by omega), if_pos (by omega)]; simp
  unfold atI; rw [e]; exact h
def PlainIx (b : Expr) : Prop := ∀ o i, subscripted b false o i = operate [o, i] (getItem o i)
def IxR (X : Cx) (r : R2) : Prop :=
  ∀ (value slice : Expr) (pins : List (Addr × Obj)) (s : Shared) (σ : St) (H : Hp) (x y : V) (v u : Value) (Q : VK), Inv X pins σ H s → RelV x v → RelV y u → r x y H Q →
    subscripted slice false v u = operate [v, u] (getItem v u) → wpAny (model X.prog X.w) X.A (subscriptTail value slice v u) (EP X pins σ Q) X.xe s
section
variable {X : Cx} {a b : Expr} {ta tb : TE} {pos : Pos}
theorem pe_ix {r : R2} (hr : IxR X r) (ha : PE X a ta) (hb : PE X b tb) (hs : PlainIx b) : PE X (.Subscript a b pos) (tOp r ta tb) := by
  intro pins s σ H Q I h
  exact Subscript_ (binT ha hb I h fun v u s2 x y H2 I2 rx ry q => hr a b pins s2 σ H2 x y v u Q I2 rx ry q (hs _ _))

def rIxL (K : PySem.W.Frag) : R2 := fun x y H Q => ∃ p xs i v, x = .ref p ∧ y = .int i ∧ SqL K H p xs ∧ atI xs i = some v ∧ Q v H
def rIxT (K : PySem.W.Frag) : R2 := fun x y H Q => ∃ p xs i v, x = .ref p ∧ y = .int i ∧ SqT K H p xs ∧ atI xs i = some v ∧ Q v H
def rIxS : R2 := fun x y H Q => ∃ z i c, x = .str z ∧ y = .int i ∧ z.length ≤ sizeLine ∧ atI z.cps.toList i = some c ∧ Q (.str ⟨#[c]⟩) H
theorem ix_list : IxR X (rIxL X.K) := by
  intro value slice pins s σ H x y v u Q I rx ry h hs
  obtain ⟨p, xs, i, z, rfl, rfl, hq, he, q⟩ := h
  cases rx
  obtain ⟨t, rfl⟩ := ry
  obtain ⟨its, r, pl, hz⟩ := I.list hq
  obtain ⟨j, h1, h2, h3, h4, h5⟩ := atI_get he
  obtain ⟨w, ew, rw'⟩ := r.get h2
  have hl := r.length
  have hn := line63
  have fin : EP X pins σ Q w s := ⟨z, H, I, rw', q⟩
  by_cases h0 : 0 ≤ i
  · have hj : i.toNat = j := by
      rw [seqIndex_of h0 h5] at h1
      exact Option.some.inj h1
    exact item_listR pl.isList h0 (by omega) (by rw [hj]; simpa using ew) fin hs
  · have hj : (i + (its.toArray.size : Int)).toNat = j := by
      rw [seqIndex_neg (by omega) h4] at h1
      rw [List.size_toArray, ← hl]
      exact Option.some.inj h1
    exact subscriptTail_builtinR (x := w) pl.isList.typeIs slot_list_getitem.lookup
      (wpAny_getItem_list_neg (Q := fun r s' => r = w ∧ EP X pins σ Q r s') pl.isList (by omega) (by rw [List.size_toArray] <;> omega) (by omega) (by rw [hj]; simpa using ew) ⟨rfl, fin⟩) hs
theorem ix_tup : IxR X (rIxT X.K) := by
  intro value slice pins s σ H x y v u Q I rx ry h hs
  obtain ⟨p, xs, i, z, rfl, rfl, hq, he, q⟩ := h
  cases rx
  obtain ⟨t, rfl⟩ := ry
  obtain ⟨its, r, pl, hz⟩ := I.tuple hq
  obtain ⟨j, h1, h2, h3, h4, h5⟩ := atI_get he
  obtain ⟨w, ew, rw'⟩ := r.get h2
  have hl := r.length
  have hn := line63
  have fin : EP X pins σ Q w s := ⟨z, H, I, rw', q⟩
  exact subscriptTail_builtinR (x := w) pl.typeIs slot_tuple_getitem.lookup
    (getItem_tuple (j := j) (Q := fun r s' => r = w ∧ EP X pins σ Q r s') pl (by omega) (by omega) (by rw [List.size_toArray, ← hl]; exact h1) (by simpa using ew) ⟨rfl, fin⟩) hs
def rIx (K : PySem.W.Frag) : R2 := fun x y H Q => rIxL K x y H Q ∨ rIxT K x y H Q ∨ rIxS x y H Q
theorem Inv.lst {pins : List (Addr × Obj)} {σ : St} {H : Hp} {s : Shared} {p : Addr} {xs : List V} (I : Inv X pins σ H s) (h : H p = some (.lst xs)) :
    ∃ (its : List Value) (n : Nat), Vals xs its ∧ s.heap.get? p = some { cls := .type "list", data := .seq its.toArray n } ∧ xs.length ≤ sizeLine := by
  obtain ⟨z, its, n, r, e⟩ := I.hok p _ h
  exact ⟨its, n, r, e, z⟩
def rSetL : V → V → V → Hp → (Hp → Prop) → Prop := fun o i v H Q => ∃ p xs k j, o = .ref p ∧ i = .int k ∧ H p = some (.lst xs) ∧ ixN xs.length k = some j ∧ Q (upd H p (.lst (xs.set j v)))
theorem slice_bounds (lo hi : Option Int) (n : Nat) : (sliceBounds lo hi none n).1 = ((HT.sIx n 0 lo : Nat) : Int) ∧ (sliceBounds lo hi none n).2.1 = ((HT.sIx n n hi : Nat) : Int) ∧ (sliceBounds lo hi none n).2.2 = 1 := by
  refine ⟨?_, ?_, rfl⟩
  · cases lo with
    | none => simp [sliceBounds, HT.sIx]
    | some i =>
      simp only [sliceBounds, HT.sIx, Option.getD_none, show (1 : Int) > 0 by decide, if_true]
      by_cases h : i < 0
      · simp only [h, if_true] <;> omega
      · simp only [h, if_false] <;> omega
  · cases hi with
    | none => simp [sliceBounds, HT.sIx]
    | some i =>
      simp only [sliceBounds, HT.sIx, Option.getD_none, show (1 : Int) > 0 by decide, if_true]
      by_cases h : i < 0
      · simp only [h, if_true] <;> omega
      · simp only [h, if_false] <;> omega
theorem slicePick_cut (its : List Value) (lo hi : Option Int) : slicePick its.toArray lo hi none = ((its.drop (HT.sIx its.length 0 lo)).take (HT.sIx its.length its.length hi - HT.sIx its.length 0 lo)).toArray := by
  obtain ⟨h1, h2, h3⟩ := slice_bounds lo hi its.toArray.size
  unfold slicePick
  rw [h1, h2, h3]
  simp only [sliceRange_one, pick_run, List.size_toArray] <;> rfl
def rSlL (K : PySem.W.Frag) : V → Option Int → Option Int → Hp → VK → Prop := fun x lo hi H Q => ∃ a xs, x = .ref a ∧ SqL K H a xs ∧ ∀ p, H p = none → Q (.ref p) (upd H p (.lst (cutV xs lo hi)))
theorem sl_list : SlR X (rSlL X.K) := by
  intro pins s σ H x v vl vu lo hi sl Q I rx hs pl pu h
  obtain ⟨a, xs, rfl, hx, q⟩ := h
  cases rx
  obtain ⟨its, r, ht, hz⟩ := I.list hx
  have hlen := r.length
  refine ⟨"list", _, slot_list_getitem.lookup, ht.isList.typeIs, ?_⟩
  refine wpAny_getItem_list_slice ht.isList hs pl pu .none (by simp) ?_ (by rw [List.size_toArray] <;> omega)
  rw [slicePick_cut, ← hlen]
  refine ⟨.ref s.heap.objs.size, _, I.laid (t' := s.toks) (o := .lst (cutV xs lo hi)) (fun b ob q => Heap.get?_push_of_some _ q) (Nat.le_refl _) ?_, rfl, q _ (I.hok.fresh (Nat.le_refl _))⟩
  exact ⟨Nat.le_trans (cutV_length xs lo hi) hz, _, 0, (r.drop (HT.sIx xs.length 0 lo)).take (HT.sIx xs.length xs.length hi - HT.sIx xs.length 0 lo), Heap.get?_push_size _ rfl⟩

def flatV : V → Bool
  | .non => true
  | .bl _ => true
  | .int _ => true
  | .str _ => true
  | _ => false
def eqV : V → V → Bool
  | .non, .non => true
  | .bl a, .bl b => a == b
  | .bl a, .int b => (if a then 1 else 0) == b
  | .int a, .bl b => a == (if b then 1 else 0)
  | .int a, .int b => a == b
  | .str a, .str b => a == b
  | _, _ => false
theorem eqAt_V {A : Around} {s : Shared} {y x : V} {u v : Value} (ry : RelV y u) (rx : RelV x v) (fy : flatV y = true) (fx : flatV x = true) : SeqAt.EqAt A s u v (eqV y x) := by
  cases y with
  | non =>
    cases ry
    cases x with
    | non => cases rx; exact SeqAt.EqAt.same _
    | bl b => cases rx; exact SeqAt.EqAt.none_bool b
    | int b => obtain ⟨t, rfl⟩ := rx; exact SeqAt.EqAt.none_int b t
    | str b => obtain ⟨t, rfl⟩ := rx; exact SeqAt.EqAt.none_str b t
    | _ => exact absurd (show false = true from fx) Bool.false_ne_true
  | bl a =>
    cases ry
    cases x with
    | non => cases rx; exact SeqAt.EqAt.bool_none a
    | bl b => cases rx; exact SeqAt.EqAt.bool_bool a b
    | int b => obtain ⟨t, rfl⟩ := rx; exact SeqAt.EqAt.bool_int a b t
    | str b => obtain ⟨t, rfl⟩ := rx; exact SeqAt.EqAt.bool_str a b t
    | _ => exact absurd (show false = true from fx) Bool.false_ne_true
  | int a =>
    obtain ⟨t', rfl⟩ := ry
    cases x with
    | non => cases rx; exact SeqAt.EqAt.int_none a t'
    | bl b => cases rx; exact SeqAt.EqAt.int_bool a t' b
    | int b => obtain ⟨t, rfl⟩ := rx; exact SeqAt.EqAt.int_int a t' b t
    | str b => obtain ⟨t, rfl⟩ := rx; exact SeqAt.EqAt.int_str a t' b t
    | _ => exact absurd (show false = true from fx) Bool.false_ne_true
  | str a =>
    obtain ⟨t', rfl⟩ := ry
    cases x with
    | non => cases rx; exact SeqAt.EqAt.str_none a t'
    | bl b => cases rx; exact SeqAt.EqAt.str_bool a t' b
    | int b => obtain ⟨t, rfl⟩ := rx; exact SeqAt.EqAt.str_int a t' b t
    | str b => obtain ⟨t, rfl⟩ := rx; exact SeqAt.EqAt.str_str a t' b t
    | _ => exact absurd (show false = true from fx) Bool.false_ne_true
  | _ => exact absurd (show false = true from fy) Bool.false_ne_true
def eqU (x : V) (u : Value) : Bool := match u with
  | .none => eqV .non x
  | .bool b => eqV (.bl b) x
  | .int i _ => eqV (.int i) x
  | .str z _ => eqV (.str z) x
  | _ => false
theorem eqU_of {x y : V} {u : Value} (r : RelV y u) (f : flatV y = true) : eqU x u = eqV y x := by
  cases y with
  | non => cases r; rfl
  | bl b => cases r; rfl
  | int i => obtain ⟨t, rfl⟩ := r; rfl
  | str z => obtain ⟨t, rfl⟩ := r; rfl
  | _ => exact absurd (show false = true from f) Bool.false_ne_true
theorem any_eqU {x : V} : ∀ {xs : List V} {us : List Value}, Vals xs us → xs.all flatV = true → us.any (eqU x) = xs.any fun y => eqV y x
  | _, _, .nil, _ => rfl
  | y :: xs, u :: us, .cons r t, f => by
    rw [List.all_cons, Bool.and_eq_true] at f
    rw [List.any_cons, List.any_cons, eqU_of r f.1, any_eqU t f.2]
theorem mem_eqAt {A : Around} {s : Shared} {x : V} {v : Value} (rx : RelV x v) (fx : flatV x = true) : ∀ {xs : List V} {us : List Value}, Vals xs us → xs.all flatV = true → ∀ u ∈ us, SeqAt.EqAt A s u v (eqU x u)
  | _, _, .nil, _ => fun u hu => by cases hu
  | y :: xs, u :: us, .cons r t, f => fun u' hu => by
    rw [List.all_cons, Bool.and_eq_true] at f
    rcases List.mem_cons.mp hu with rfl | hu
    · rw [eqU_of r f.1]; exact eqAt_V r rx f.1 fx
    · exact mem_eqAt rx fx t f.2 u' hu
def inV (x : V) (xs : List V) : Bool := xs.any fun y => eqV y x
def rIn (K : PySem.W.Frag) (neg : Bool) : R2 := fun x y H Q => ∃ p xs, y = .ref p ∧ (SqL K H p xs ∨ SqT K H p xs) ∧ flatV x = true ∧ xs.all flatV = true ∧ Q (.bl (if neg then !inV x xs else inV x xs)) H
theorem op_in_seq : OpR X (compareOp .In) (rIn X.K false) := by
  intro pins s σ H x y v u Q I rx ry h
  obtain ⟨p, xs, rfl, hq, fx, fs, q⟩ := h
  cases ry
  rcases hq with hq | hq
  · obtain ⟨its, r, pl, hz⟩ := I.list hq
    refine SeqAt.in_listAt (eqU x) pl.isList (fun w hw => mem_eqAt rx fx r fs w (by simpa using hw)) ⟨.bl _, H, I, rfl, ?_⟩
    rw [show its.toArray.any (eqU x) = its.any (eqU x) by simp, any_eqU r fs]
    exact q
  · obtain ⟨its, r, pl, hz⟩ := I.tuple hq
    refine SeqAt.in_tupleAt (eqU x) pl (fun w hw => mem_eqAt rx fx r fs w (by simpa using hw)) ⟨.bl _, H, I, rfl, ?_⟩
    rw [show its.toArray.any (eqU x) = its.any (eqU x) by simp, any_eqU r fs]
    exact q
theorem call_len_seq : CallR X (.builtin "len") (fun xs H Q => ∃ p ys, xs = [.ref p] ∧ (SqL X.K H p ys ∨ SqT X.K H p ys) ∧ Q (.int ys.length) H) := by
  intro pins s σ H xs us Q I r h
  obtain ⟨p, ys, rfl, hq, q⟩ := h
  obtain ⟨u, rfl, rx⟩ := vals1 r
  cases rx
  have hn := line63
  rcases hq with hq | hq
  · obtain ⟨its, r', pl, hz⟩ := I.list hq
    have hlen := r'.length
    exact Calls.call_len_list pl.isList (by simp only [List.size_toArray] <;> omega) ⟨.int ys.length, H, I.tok _, ⟨s.toks + 1, by rw [List.size_toArray, hlen]⟩, q⟩
  · obtain ⟨its, r', pl, hz⟩ := I.tuple hq
    have hlen := r'.length
    exact len_tuple pl (by simp only [List.size_toArray] <;> omega) ⟨.int ys.length, H, I.tok _, ⟨s.toks + 1, by rw [List.size_toArray, hlen]⟩, q⟩
theorem call_list_of : CallR X (.type "list") (fun xs H Q => ∃ p ys, xs = [.ref p] ∧ (SqL X.K H p ys ∨ SqT X.K H p ys) ∧ ∀ l, H l = none → Q (.ref l) (upd H l (.lst ys))) := by
  intro pins s σ H xs us Q I r h
  obtain ⟨p, ys, rfl, hq, q⟩ := h
  obtain ⟨u, rfl, rx⟩ := vals1 r
  cases rx
  have fin : ∀ (its : List Value), Vals ys its → ys.length ≤ sizeLine → ∀ (h' : Heap) (c' : Nat), (∀ b o', s.heap.get? b = some o' → h'.get? b = some o') →
      h'.get? s.heap.objs.size = some { cls := .type "list", dict := none, data := .seq its.toArray c', slots := #[] } → EP X pins σ Q (.ref s.heap.objs.size) { s with heap := h' } := fun its r' hz h' c' kp e =>
    ⟨.ref s.heap.objs.size, _, I.laid (t' := s.toks) kp (Nat.le_refl _) (show ObjOk X.prog X.w _ h' _ (.lst ys) from ⟨hz, its, c', r', e⟩), rfl, q _ (I.hok.fresh (Nat.le_refl _))⟩
  rcases hq with hq | hq
  · obtain ⟨its, r', pl, hz⟩ := I.list hq
    have hlen := r'.length
    obtain ⟨o, ho, hc, n, hd⟩ := pl.isList
    exact call_list_seq p (.inl rfl) ho hc hd (fun h' c' kp e => fin its r' hz h' c' kp e) (by simp only [List.size_toArray] <;> omega)
  · obtain ⟨its, r', pl, hz⟩ := I.tuple hq
    have hlen := r'.length
    obtain ⟨o, ho, hc, n, hd⟩ := pl
    exact call_list_seq p (.inr rfl) ho hc hd (fun h' c' kp e => fin its r' hz h' c' kp e) (by simp only [List.size_toArray] <;> omega)
theorem call_tuple_of : CallR X (.type "tuple") (fun xs H Q => ∃ p ys, xs = [.ref p] ∧ ((SqL X.K H p ys ∧ ∀ l, H l = none → Q (.ref l) (upd H l (.tup ys))) ∨ (SqT X.K H p ys ∧ Q (.ref p) H))) := by
  intro pins s σ H xs us Q I r h
  obtain ⟨p, ys, rfl, h⟩ := h
  obtain ⟨u, rfl, rx⟩ := vals1 r
  cases rx
  rcases h with ⟨hq, q⟩ | ⟨hq, q⟩
  · obtain ⟨its, r', pl, hz⟩ := I.list hq
    have hlen := r'.length
    refine call_tuple_list pl.isList (fun h' kp => ?_) (by simp only [List.size_toArray] <;> omega)
    have I1 : Inv X pins σ H { s with heap := h' } := I.kept (t' := s.toks) kp
    have I2 : Inv X pins σ (upd H h'.objs.size (.tup ys)) { s with heap := h'.push { cls := .type "tuple", data := .seq its.toArray } } :=
      I1.laid (t' := s.toks) (fun b o e => Heap.get?_push_of_some _ e) (Nat.le_refl _) (show ObjOk X.prog X.w _ _ _ (.tup ys) from ⟨hz, its, r', IsTup.new _ _, _, Heap.get?_push_size _ rfl, rfl⟩)
    exact ⟨.ref h'.objs.size, _, I2, rfl, q _ (I1.hok.fresh (Nat.le_refl _))⟩
  · obtain ⟨its, r', pl, hz⟩ := I.tuple hq
    exact call_tuple_same pl ⟨.ref p, H, I, rfl, q⟩

def tyV (K : PySem.W.Frag) (T : String) (x : V) (H : Hp) : Prop := match x with
  | .str _ => T = "str"
  | .int _ => T = "int"
  | .ref p => (T = "list" ∧ ∃ xs, SqL K H p xs) ∨ (T = "tuple" ∧ ∃ o, K.lookup p = some o ∧ o.cls = .type "tuple" ∧ o.dict = none) ∨
      (T = "dict" ∧ ((∃ kvs, H p = some (.dK kvs)) ∨ ∃ kvs, H p = some (.dT kvs))) ∨ (T = "set" ∧ ∃ S n, H p = some (.set S n))
  | _ => False
def tBM0 (K : PySem.W.Frag) (T : String) (r : V → List V → Hp → VK → Prop) (to : TE) : TE := fun σ H Q => to σ H fun x H1 => tyV K T x H1 ∧ r x [] H1 Q
def tBM (K : PySem.W.Frag) (T : String) (r : V → List V → Hp → VK → Prop) (to : TE) (t : TA) : TE := fun σ H Q => to σ H fun x H1 => tyV K T x H1 ∧ t σ H1 fun xs H2 => r x xs H2 Q
variable {o e : Expr} {es : List Expr} {to : TE} {t : TA} {name : Str} {apos cpos : Pos} {T id : String} {r : V → List V → Hp → VK → Prop}
end
end L2

namespace L2
open PySem PySem.Spec PyProof.Rows

def MtM (X : Cx) (id : String) (r : V → List V → Hp → VK → Prop) : Prop :=
  ∀ (pins : List (Addr × Obj)) (s : Shared) (σ : St) (H : Hp) (x : V) (xs : List V) (v : Value) (us : List Value) (Q : VK), Inv X pins σ H s → RelV x v → Vals xs us → r x xs H Q →
    wpAny (model X.prog X.w) X.A (call (.builtin id) (v :: us)) (EP X pins σ Q) X.xe s

theorem Vals.one : ∀ {x : V} {us : List Value}, Vals [x] us → ∃ u, us = [u] ∧ RelV x u
  | _, _, .cons r .nil => ⟨_, rfl, r⟩
theorem Vals.two : ∀ {x y : V} {us : List Value}, Vals [x, y] us → ∃ u v, us = [u, v] ∧ RelV x u ∧ RelV y v
  | _, _, _, .cons r (.cons q .nil) => ⟨_, _, rfl, r, q⟩
theorem Vals.zero : ∀ {us : List Value}, Vals [] us → us = []
  | _, .nil => rfl
theorem Vals.dropLast {xs : List V} {us : List Value} (h : Vals xs us) : Vals xs.dropLast us.dropLast := by
  induction h with
  | nil => exact .nil
  | cons r t ih =>
    cases t with
    | nil => exact .nil
    | cons q t' => exact .cons r ih
theorem Vals.reverse {xs : List V} {us : List Value} (h : Vals xs us) : Vals xs.reverse us.reverse := by
  induction h with
  | nil => exact .nil
  | cons r t ih => rw [List.reverse_cons, List.reverse_cons]; exact Vals.append ih (.cons r .nil)
theorem Vals.rep {xs : List V} {us : List Value} (h : Vals xs us) : ∀ k : Nat, Vals (List.replicate k xs).flatten (List.replicate k us).flatten
  | 0 => .nil
  | k + 1 => by
    rw [List.replicate_succ, List.replicate_succ, List.flatten_cons, List.flatten_cons]
    exact Vals.append h (Vals.rep h k)
section
variable {X : Cx} {pins : List (Addr × Obj)} {σ : St} {H : Hp} {s : Shared} {l b : Addr} {xs ys zs : List V}

theorem Inv.lset {its its' : List Value} {n : Nat} {f : Array Value → Array Value} {t' : Nat} (I : Inv X pins σ H s) (hH : H l = some (.lst xs))
    (e : s.heap.get? l = some { cls := .type "list", data := .seq its.toArray n }) (hf : f its.toArray = its'.toArray) (hv : Vals ys its') (hz : ys.length ≤ sizeLine) :
    Inv X pins σ (upd H l (.lst ys)) { s with heap := s.heap.update l (Obj.mapSeq f), toks := t' } := by
  have q := PySem.IsL.update e f
  rw [hf] at q
  refine I.write (x := l) (e := l) (by rw [hH]; exact trivial) (.inl rfl) (fun b' u hb hu => (Heap.get?_update_other s.heap (Obj.mapSeq f) (Ne.symm hb)).trans hu) ⟨_, q⟩ ?_
  exact ⟨hz, its', _, hv, q⟩
theorem Inv.lnew {its : List Value} {t' : Nat} (I : Inv X pins σ H s) (hv : Vals ys its) (hz : ys.length ≤ sizeLine) :
    Inv X pins σ (upd H s.heap.objs.size (.lst ys)) { s with heap := s.heap.push { cls := .type "list", data := .seq its.toArray }, toks := t' } :=
  I.laid (fun _ _ q => Heap.get?_push_of_some _ q) (Nat.le_refl _) ⟨hz, its, 0, hv, Heap.get?_push_size _ rfl⟩
theorem Inv.fresh (I : Inv X pins σ H s) : H s.heap.objs.size = none := I.hok.fresh (Nat.le_refl _)
theorem Inv.lstM (I : Inv X pins σ H s) (hH : H l = some (.lst xs)) : xs.length ≤ sizeLine ∧ ∃ (its : List Value) (n : Nat), Vals xs its ∧ xs.length = its.length ∧ s.heap.get? l = some { cls := .type "list", data := .seq its.toArray n } := by
  obtain ⟨z, its, n, r, e⟩ := I.hok l _ hH
  exact ⟨z, its, n, r, r.length, e⟩

end

section
variable {X : Cx}

def rAppend : V → List V → Hp → VK → Prop := fun x vs H Q => ∃ l xs y, x = .ref l ∧ vs = [y] ∧ H l = some (.lst xs) ∧ xs.length < sizeLine ∧ Q .non (upd H l (.lst (xs ++ [y])))
theorem mt_append : MtM X "list.append" rAppend := by
  intro pins s σ H x vs v us Q I rx rv h
  obtain ⟨l, xs, y, rfl, rfl, hH, hz, q⟩ := h
  cases rx
  obtain ⟨u, rfl, ru⟩ := rv.one
  obtain ⟨z, its, n, r, hl, e⟩ := I.lstM hH
  refine call_meets F.slot_list_append ⟨_, e, rfl⟩ F.entry_list_append (F.args_list_append_2 _ _) (PySem.list_append l its.toArray n u (by rw [List.size_toArray]; omega)) ⟨e, ?_⟩
  refine ⟨.non, _, I.lset (its' := its ++ [u]) hH e (by simp) (r.append (.cons ru .nil)) ?_, rfl, q⟩
  rw [List.length_append, List.length_singleton]
  omega

def rPop : V → List V → Hp → VK → Prop := fun x vs H Q => ∃ l xs y, x = .ref l ∧ vs = [] ∧ H l = some (.lst xs) ∧ xs[xs.length - 1]? = some y ∧ Q y (upd H l (.lst xs.dropLast))
def rReverse : V → List V → Hp → VK → Prop := fun x vs H Q => ∃ l xs, x = .ref l ∧ vs = [] ∧ H l = some (.lst xs) ∧ Q .non (upd H l (.lst xs.reverse))
def rCat : R2 := fun x y H Q => ∃ l b xs zs, x = .ref l ∧ y = .ref b ∧ H l = some (.lst xs) ∧ H b = some (.lst zs) ∧ xs.length + zs.length ≤ sizeLine ∧ ∀ p, H p = none → Q (.ref p) (upd H p (.lst (xs ++ zs)))
theorem op_cat : OpR X (binaryOp .Add) rCat := by
  intro pins s σ H x y v u Q I rx ry h
  obtain ⟨l, b, xs, zs, rfl, rfl, hH, hB, hz, q⟩ := h
  cases rx
  cases ry
  obtain ⟨z, its, n, r, hl, e⟩ := I.lstM hH
  obtain ⟨z2, its2, n2, r2, hl2, e2⟩ := I.lstM hB
  refine PySem.P.add_list e e2 ?_ (by rw [List.size_toArray, List.size_toArray]; omega)
  have ea : its.toArray ++ its2.toArray = (its ++ its2).toArray := by simp
  rw [ea]
  exact ⟨.ref _, _, I.lnew (t' := s.toks) (r.append r2) (by rw [List.length_append]; omega), rfl, q _ I.fresh⟩
def rRep : R2 := fun x y H Q => ∃ l k xs, x = .ref l ∧ y = .int k ∧ H l = some (.lst xs) ∧ -(2 ^ 63) ≤ k ∧ k < 2 ^ 63 ∧ xs.length * k.toNat ≤ sizeLine ∧
  ∀ p, H p = none → Q (.ref p) (upd H p (.lst (List.replicate k.toNat xs).flatten))
end

section
variable {prog : Program} {w : World} {A : Around} {E : Value → Shared → Prop} {s : Shared}
end

section
variable {X : Cx}
end
end L2

namespace Att
open PySem PySem.W PySem.Calls PyProof.Rows

theorem ints_of_wellAll {P : Params} {h : Heap} : ∀ (ns : List Int) (vs : List Value), WellAll P h vs (ns.map WData.int) → IntsAre vs ns := by
  intro ns
  induction ns with
  | nil =>
    intro vs w
    rw [List.map_nil] at w
    cases w
    exact .nil
  | cons n ns ih =>
    intro vs w
    rw [List.map_cons] at w
    cases w with
    | cons a b =>
      cases a
      exact .cons _ _ (ih _ b)

theorem script_of {l : OpenLaw} {n : Nat} (hn : l.most = some n) {P : Params} {h : Heap} {args : List WData} {vals : List Value}
    (hpre : l.row.toRowW.claim.pre args = true) (hwl : WellAll P h vals args) :
    ∃ a vs ns, vals = [Value.ref a] ∧ args = [WData.list (ns.map WData.int)] ∧ h.get? a = some { cls := .type "list", data := .seq vs.toArray } ∧ IntsAre vs ns ∧ ns.length ≤ n := by
  have hsh : WShape.hasAll [] args [.list .int] = true := (pre_splitW hpre).1
  have hc : l.pre.holds [] { args := args } = true := (pre_splitW hpre).2
  obtain ⟨d, r, rfl, h1, h2⟩ := hasAllW_cons hsh
  obtain rfl := hasAllW_nil h2
  obtain ⟨xs, rfl, h3⟩ := hasW_list h1
  obtain ⟨ns, rfl⟩ := items_int h3
  have hlen : ns.length ≤ n := by
    unfold OpenLaw.pre at hc
    have h4 : (WTm.not (.lt (.lit (.int (n : Int))) (.len (.arg 0)))).holds [] { args := [.list (ns.map .int)] } = true := by
      have h4 := (holds_andW hc).1
      rw [hn] at h4
      exact h4
    have h5 := condW_of h4 (w_not (w_lt w_lit (w_len_list (w_arg rfl))))
    rw [List.length_map] at h5
    refine Nat.le_of_not_lt fun q => ?_
    have q' : (n : Int) < ((ns.length : Nat) : Int) := by omega
    first
      | (rw [decide_eq_true q'] at h5; exact absurd h5 (by decide))
      | (simp at h5; omega)
  cases hwl with
  | cons w1 w2 =>
    cases w2
    cases w1 with
    | list ho hall => exact ⟨_, _, ns, rfl, rfl, ho, ints_of_wellAll ns _ hall, hlen⟩

theorem post_true (l : OpenLaw) (args : List WData) : l.row.toRowW.claim.post args (.bool true) args = true :=
  postW_of (r := l.row.toRowW) (X := (true == true))
    (show WShape.has [] (.bool true) .bool = true by first | rfl | decide | simp [WShape.has, WShape.arms, WShape.armsAll])
    (show (WTm.eq .res (.lit (.bool true))).value [] { args := args, res := some (.bool true), after := args } = some (.bool (true == true)) from w_eq_bool (w_res rfl) w_lit) rfl

theorem attach_call {l : OpenLaw} {n : Nat} {q : Program} {loose : List Str} {XP : (Str → Option Value) → Heap → Prop} {YP : World → Heap → Prop} {d : DefRec}
    (hn : l.most = some n) (hdf : d.params.defaults = [])
    (call : ∀ (w : World) (s₀ s₁ : Shared) (mg mb : Str → Option Value) (fa : Addr) (o : Obj) (pm cd doc : Value) (a : Addr) (vs : List Value) (ns : List Int),
      Ground q loose [] XP w s₀ mg mb s₁.heap → YP w s₁.heap →
      s₁.heap.get? fa = some o → o.data = .func (docDef d.name d.params d.body d.scope pm cd doc) → s₁.heap.CodeRec cd d.name → mg d.name = some (.ref fa) →
      s₁.heap.get? a = some { cls := .type "list", data := .seq vs.toArray } → IntsAre vs ns → ns.length ≤ n → s₁.gens = #[] →
      codeAny (model l.prog w) callerA (.call (.ref fa) ⟨[.ref a], []⟩) (fun r s' => r = .ok (.ret (.bool true)) ∧ OldK s₁.heap s'.heap ∧ s'.os = s₁.os ∧ AllBare s'.gens) s₁) :
    WalkO q loose XP YP l.row.toRowW d [] (fun f vs => PySem.call f vs) := by
  intro w s₀ s₁ mg mb G Y fa o pm cd doc dV kV ho hd hcd hD hmg hg args vals as hpre hlay hrd hwl hlo
  obtain rfl : dV = .none := Dflts.none hD hdf
  obtain rfl : kV = .none := Dflts.noKw hD
  obtain ⟨a, vs, ns, rfl, rfl, hobj, hints, hlen⟩ := script_of hn hpre hwl
  refine enter_call (codeAny_mono (call w s₀ s₁ mg mb fa o pm cd doc a vs ns G Y ho (fd_plain hd) hcd hmg hobj hints hlen hg) fun r s' hq => ?_)
  obtain ⟨rfl, h2, h3, h4⟩ := hq
  exact ⟨.inl ⟨.bool true, .bool true, [], rfl, fun _ => rfl, .bool true, post_true l _, fun _ => ⟨List.Pairwise.nil, fun _ hm => (nomatch hm)⟩⟩, h2, h3, h4⟩

section
variable {prog : Program} {w : World} {A : Around} {E : Value → Shared → Prop} {s : Shared} {K : Frag}

end
end Att

namespace L2
open PySem PySem.Spec PyProof.Rows

theorem vals_ints : ∀ {vs : List Value} {ns : List Int}, IntsAre vs ns → Vals (ns.map V.int) vs
  | _, _, .nil => .nil
  | _, _, .cons n t h => .cons ⟨t, rfl⟩ (vals_ints h)

def Only (H : Hp) : Prop := ∀ b, H b = none ∨ ∃ o xs, H b = some (.frz o (.lst xs))

theorem law_call {P : Program} {w : World} {K : PySem.W.Frag} {mg mb : Str → Option Value} {CX : CXT} {k : Nat} {fa a : Addr} {fd : FuncData} {x : Str} {sp : Sp} {s₁ : Shared} {vs : List Value} {ns : List Int}
    (KX : K.In s₁.heap) (hns : s₁.heap.Ns mainGlobals mg) (hb : s₁.heap.Ns builtinsNs mb) (hbb : ∀ x : Str, x ≠ "__name__" → mb x = bootBuiltins x) (hlim : s₁.heap.NoLimit) (hg : s₁.gens = #[])
    (ha : s₁.heap.get? a = some { cls := .type "list", data := .seq vs.toArray }) (hi : IntsAre vs ns) (hl : ns.length ≤ sizeLine) (hr : Room k callerA)
    (F : ∀ base : Heap, K.In base → base.Ns mainGlobals mg → FnOk P w K mg base CX k fa fd [x] sp) (hbind : ∀ (s : Shared) (u : Value), BindsTo s fd ⟨[u], []⟩ [(x, u)])
    (hsp : ∀ H : Hp, Only H → SqL K H a (ns.map V.int) → sp [.ref a] H (fun v _ => v = .bl true) fun _ _ _ => False)
    (hCX : ∀ H e s', CX [] H s₁ (fun _ _ _ => False) e s' → False) :
    codeAny (model P w) callerA (.call (.ref fa) ⟨[.ref a], []⟩) (fun r s' => r = .ok (.ret (.bool true)) ∧ OldK s₁.heap s'.heap ∧ s'.os = s₁.os ∧ AllBare s'.gens) s₁ := by
  have rv := vals_ints hi
  have lenV := hi.length
  -- from an abstract heap in which nothing but the script may be tracked
  have core : ∀ H : Hp, Only H → SqL K H a (ns.map V.int) → HOk P w H s₁.heap → (∀ b, H b ≠ none → b = a) → (H a ≠ none → K.lookup a = none) →
      codeAny (model P w) callerA (.call (.ref fa) ⟨[.ref a], []⟩) (fun r s' => r = .ok (.ret (.bool true)) ∧ OldK s₁.heap s'.heap ∧ s'.os = s₁.os ∧ AllBare s'.gens) s₁ := by
    intro H hO hS hok hA hK
    have base_of : ∀ {b : Addr} {o : Obj}, s₁.heap.get? b = some o → H b = none → (hidT s₁.heap H).get? b = some o := fun e n => hidT_get e n
    have noA : ∀ {b : Addr} {o : Obj} {es : Array DictEntry} {ep : Nat}, s₁.heap.get? b = some o → o.data = .dict es ep → H b = none := fun {b o es ep} e d => by
      cases q : H b with
      | none => rfl
      | some u =>
        have e' : b = a := hA b (by rw [q]; simp)
        subst e'
        rw [ha] at e; cases e
        have d' : Data.seq vs.toArray _ = Data.dict es ep := d
        cases d'
    have nsK : ∀ {b : Addr} {m : Str → Option Value}, s₁.heap.Ns b m → (hidT s₁.heap H).Ns b m := fun {b m} ⟨o, es, ep, e, d, r⟩ => ⟨o, es, ep, base_of e (noA e d), d, r⟩
    have hKb : K.In (hidT s₁.heap H) := fun b o e => base_of (KX b o e) (by
      cases q : H b with
      | none => rfl
      | some u =>
        have e' : b = a := hA b (by rw [q]; simp)
        subst e'
        rw [hK (by rw [q]; simp)] at e; cases e)
    have hM : Mod K mg (hidT s₁.heap H) := ⟨hKb, nsK hns, ⟨mb, nsK hb, hbb⟩, let ⟨mc, h1, h2⟩ := hlim; ⟨mc, nsK h1, h2⟩⟩
    have e0 : Env0 P w K mg (hidT s₁.heap H) callerA [] s₁ H := ⟨rfl, hM, fun b o e => of_hidT e, Nat.le_of_eq (hidT_size _ _), trivial, fun b hb => absurd (show b ∈ ([] : List Addr) from hb) (by simp), hok, .of_eq hg⟩
    refine codeAny_mono ((F _ hKb (nsK hns)).run callerA [] s₁ H ⟨[.ref a], []⟩ [.ref a] [.ref a] _ _ hr e0 (hbind s₁ (.ref a)) (.cons rfl .nil) (hsp H hO hS)) fun r s' h => ?_
    cases r with
    | error e => exact (hCX H e s' h).elim
    | ok fl =>
      cases fl with
      | next => exact False.elim h
      | brk => exact False.elim h
      | cont => exact False.elim h
      | ret u =>
        obtain ⟨v, H', os, bare, un, hok', r', q⟩ := h
        have q' : v = .bl true := q
        subst q'
        obtain rfl : u = Value.bool true := r'
        refine ⟨rfl, OldK.of_keep fun b o e => ?_, os, bare⟩
        cases q : H b with
        | none => exact un.keep b o e q (by intro z; exact absurd (show b ∈ ([] : List Addr) from z) (by simp)) (by simp)
        | some u =>
          rcases hO b with z | ⟨ob, xs, z⟩
          · rw [q] at z; cases z
          · have z2 := un.frzs b ob _ z
            obtain ⟨e1, _⟩ := hok b _ z
            obtain ⟨e2, _⟩ := hok' b _ z2
            rw [e] at e1; cases e1
            exact e2
  cases hk : K.lookup a with
  | some o =>
    -- the script is one of the module's own objects
    have e := KX a o hk
    rw [ha] at e
    cases e
    refine core (fun _ => none) (fun _ => .inl rfl) (.inr ⟨_, vs.toArray, _, hk, rfl, rfl, rfl, by rw [List.size_toArray, lenV]; exact hl, by simpa using rv⟩) (fun b u z => by have z' : (none : Option HO) = some u := z; cases z') (fun b z => absurd rfl z) fun z => absurd rfl z
  | none =>
    refine core (fun b => if b = a then some (.frz { cls := .type "list", data := .seq vs.toArray } (.lst (ns.map V.int))) else none) (fun b => ?_) (.inl (.inr ⟨{ cls := .type "list", data := .seq vs.toArray }, if_pos rfl⟩)) (fun b u z => ?_) (fun b z => ?_) fun _ => hk
    · by_cases hb : b = a
      · exact .inr ⟨_, _, if_pos hb⟩
      · exact .inl (if_neg hb)
    · by_cases hb : b = a
      · have z' := (if_pos hb).symm.trans z
        cases z'
        subst hb
        exact ⟨ha, by rw [List.length_map]; exact hl, vs, _, rv, ha⟩
      · have z' := (if_neg hb).symm.trans z
        cases z'
    · by_cases hb : b = a
      · exact hb
      · exact absurd (if_neg hb) z
end L2

namespace L2
open PySem PySem.Spec PyProof.Rows

theorem walk_of {l : PySem.W.OpenLaw} {n k : Nat} {q : Program} {loose : List Str} {XP : (Str → Option Value) → Heap → Prop} {YP : World → Heap → Prop} {d : DefRec} {K : Params → PySem.W.Frag} {CX : World → CXT} {sp : World → Sp} {x : Str}
    (hn : l.most = some n) (hn2 : n ≤ sizeLine) (hdf : d.params.defaults = []) (hr : Room k callerA)
    (hY : ∀ (w : World) (h : Heap), YP w h → (K w.params).In h)
    (F : ∀ (w : World) (mg : Str → Option Value) (fa : Addr) (h : Heap), (K w.params).In h → h.Ns mainGlobals mg → mg d.name = some (.ref fa) →
      ∃ fd : FuncData, (∀ (s : Shared) (u : Value), BindsTo s fd ⟨[u], []⟩ [(x, u)]) ∧
        ∀ base : Heap, (K w.params).In base → base.Ns mainGlobals mg → FnOk l.prog w (K w.params) mg base (CX w) k fa fd [x] (sp w))
    (hsp : ∀ (w : World) (H : Hp) (a : Addr) (ns : List Int), ns.length ≤ n → Only H → SqL (K w.params) H a (ns.map V.int) → sp w [.ref a] H (fun v _ => v = .bl true) fun _ _ _ => False)
    (hCX : ∀ (w : World) (H : Hp) (s : Shared) (e : Value) (s' : Shared), CX w [] H s (fun _ _ _ => False) e s' → False) :
    PySem.W.WalkO q loose XP YP l.row.toRowW d [] (fun f vs => PySem.call f vs) := by
  refine Att.attach_call hn hdf fun w s₀ s₁ mg mb fa o pm cd doc a vs ns G Y ho hd hcd hmg hobj hints hlen hg => ?_
  have KX := hY w _ Y
  obtain ⟨fd, hb, hF⟩ := F w mg fa _ KX G.T.g hmg
  exact law_call KX G.T.g G.T.b G.T.builtins G.T.nolimit hg hobj hints (Nat.le_trans hlen hn2) hr hF hb (fun H hO hS => hsp w H a ns hlen hO hS) fun H e s' => hCX w H s₁ e s'
end L2


namespace L2
open PySem PySem.Spec PyProof.Rows

def defArgs (s : Stmt) : Arguments := match s with
  | .FunctionDef _ a _ _ _ _ _ _ _ _ => a
  | _ => { posonlyargs := [], args := [], vararg := none, kwonlyargs := [], kw_defaults := [], kwarg := none, defaults := [] }
def defBody (s : Stmt) : List Stmt := match s with
  | .FunctionDef _ _ b _ _ _ _ _ _ _ => b
  | _ => []
def defScope (s : Stmt) : Scope := match s with
  | .FunctionDef _ _ _ _ _ _ sc _ _ _ => sc
  | _ => { kind := .function, names := [], isGenerator := false, isCoroutine := false }

abbrev CX0 : CXT := fun _ _ _ _ _ _ => False
abbrev E0 : XK := fun _ _ _ => False
theorem pass0 {X : Cx} : Passes CX0 X E0 := fun _ _ _ _ _ _ _ h => h.elim

structure Fun (K : PySem.W.Frag) (x qual : Str) (st : Stmt) (f : Addr) (fd : FuncData) : Prop where
  ex : ∃ (oc : Value) (od : Option Addr) (kV doc pm : Value) (an : Option Addr) (cdv ct : Value) (osl : Array (Option Value)),
    fd = PySem.W.fnOf x qual (defArgs st) (defBody st) (defScope st) .none kV doc pm an cdv ct ∧ K.lookup f = some ⟨oc, od, .func fd, osl⟩ ∧ PySem.W.codeIn K cdv qual = true
  kp : PySem.W.keepIn K (.ref f) = true
section
variable {P : Program} {w : World} {K : PySem.W.Frag} {mg : Str → Option Value} {base : Heap}
theorem Fun.ok {x qual : Str} {st : Stmt} {f : Addr} {fd : FuncData} {N ps : List Str} {k : Nat} {sp : Sp} (F : Fun K x qual st f fd) (S : FnScope N ps (defScope st)) (len : ∀ vs H Q E, sp vs H Q E → vs.length = ps.length)
    (hbody : ∀ (cdv : Value) (A : Around) (outer : List Env) (s : Shared) (H : Hp) (vs : List V) (Q : VK) (E : XK), Room k (A.deeper (envOfC qual (defScope st) s.heap.objs.size f cdv)) → sp vs H Q E →
      ∃ t, PSs (cxOf CX0 P w K mg base N qual (defScope st) f cdv A outer s H E).nox (defBody st) t ∧ t { nx := fun _ H' => Q .non H', rt := Q } (start N vs) H) : FnOk P w K mg base CX0 (k + 1) f fd ps sp := by
  obtain ⟨oc, od, kV, doc, pm, an, cdv, ct, osl, rfl, lk, hcd⟩ := F.ex
  refine fn_of lk hcd S len fun A outer s H vs Q E hr hsp => ?_
  obtain ⟨t, h, q⟩ := hbody cdv A outer s H vs Q E hr hsp
  exact ⟨t, h.nox, q⟩
theorem Fun.binds {x qual : Str} {st : Stmt} {f : Addr} {fd : FuncData} {ps : List Str} (F : Fun K x qual st f fd)
    (h : ∀ (kV doc pm : Value) (an : Option Addr) (cdv ct : Value) (us : List Value), us.length = ps.length → bindArgs (PySem.W.fnOf x qual (defArgs st) (defBody st) (defScope st) .none kV doc pm an cdv ct) ⟨us, []⟩ = pure (ps.zip us)) : Binds K fd ps [] := by
  obtain ⟨oc, od, kV, doc, pm, an, cdv, ct, osl, rfl, lk, hcd⟩ := F.ex
  exact .all (h kV doc pm an cdv ct)
theorem fun_mk {x qual : Str} {st : Stmt} {f : Addr} {oc : Value} {od an : Option Addr} {osl : Array (Option Value)} {kV doc pm cdv ct : Value} (l : K.lookup f = some ⟨oc, od, .func (PySem.W.fnOf x qual (defArgs st) (defBody st) (defScope st) .none kV doc pm an cdv ct), osl⟩)
    (c : PySem.W.codeIn K cdv qual = true) (k : PySem.W.keepIn K (.ref f) = true) : Fun K x qual st f (PySem.W.fnOf x qual (defArgs st) (defBody st) (defScope st) .none kV doc pm an cdv ct) := ⟨⟨oc, od, kV, doc, pm, an, cdv, ct, osl, rfl, l, c⟩, k⟩
end
theorem hu_of {A : Around} {k : Nat} (hr : Room k A) : A.units + 1 < cLine := Nat.lt_of_le_of_lt (Nat.add_le_add_left (by decide : 1 ≤ 64) _) hr.units
section
variable {X : Cx}
theorem pv (i : Nat) {x : Str} {pos : Pos} (hN : X.N[i]? = some x := by rfl) (hv : Vis X.env.scope x := by first | exact Or.inl rfl | exact Or.inr (Or.inl rfl) | exact Or.inr (Or.inr rfl)) (hd : (x == ("__debug__" : Str)) = false := by decide)
    (hcd : (x == ("__classdict__" : Str)) = false := by decide) : PE X (.Name x pos) (tVar i) := pe_var hN hv hd hcd
end

def Same (H H' : Hp) : Prop := ∀ b o, H b = some o → H' b = some o
theorem Same.refl (H : Hp) : Same H H := fun _ _ h => h
theorem Same.trans {H H1 H2 : Hp} (a : Same H H1) (b : Same H1 H2) : Same H H2 := fun c o h => b c o (a c o h)
theorem Same.free {H H' : Hp} (e : Same H H') {l : Addr} (h : H' l = Option.none) : H l = Option.none := by
  cases q : H l with
  | none => rfl
  | some o =>
    rw [e l o q] at h
    cases h
theorem Same.seq {K : PySem.W.Frag} {H H' : Hp} {a : Addr} {xs : List V} (e : Same H H') (h : SqL K H a xs) : SqL K H' a xs := by
  rcases h with (h | ⟨o, h⟩) | h
  · exact .inl (.inl (e _ _ h))
  · exact .inl (.inr ⟨o, e _ _ h⟩)
  · exact .inr h

end L2

set_option Elab.async false
set_option linter.all false
set_option maxRecDepth 100000
namespace L2
open PySem PySem.Spec PyProof.Rows

structure Cal (P : Program) (w : World) (K : PySem.W.Frag) (mg : Str → Option Value) (base : Heap) (CX : CXT) (x : Str) (k : Nat) (ps : List Str) (sp : Sp) : Prop where
  ex : ∃ f fd, FnOk P w K mg base CX k f fd ps sp ∧ Binds K fd ps [] ∧ PySem.W.keepIn K (.ref f) = true ∧ mg x = some (.ref f)

section
variable {X : Cx} {CX : CXT} {x : Str} {j k : Nat} {ps : List Str} {sp : Sp} {E : XK} {p pos : Pos} {e : Expr} {es : List Expr} {t : TA}
theorem pe_callX (C : Cal X.prog X.w X.K X.mg X.base CX x j ps sp) (hr : Room k X.A) (hg : Gl X x) (hx : Passes CX X E) (ha : PA X (e :: es) t) (hj : j ≤ k := by decide) (hdb : (x == ("__debug__" : Str)) = false := by decide)
    (he : starEach (e :: es) X.env = (false, eval e X.env) :: starEach es X.env := by rfl) (hpl : (backTo pos (starEach es X.env)).any (·.1) = false := by rfl) :
    PE X (.Call (.Name x p) (e :: es) [] pos) (tCall sp [] E t) := by
  obtain ⟨f, fd, F, b, kp, m⟩ := C.ex
  exact pe_call F (hr.mono hj) hg m kp b .nil hx ha hdb he hpl
theorem pe_callC (C : Cal X.prog X.w X.K X.mg X.base CX0 x j ps sp) (hr : Room k X.A) (hg : Gl X x) (ha : PA X (e :: es) t) (hj : j ≤ k := by decide) (hdb : (x == ("__debug__" : Str)) = false := by decide)
    (he : starEach (e :: es) X.env = (false, eval e X.env) :: starEach es X.env := by rfl) (hpl : (backTo pos (starEach es X.env)).any (·.1) = false := by rfl) :
    PE X (.Call (.Name x p) (e :: es) [] pos) (tCall sp [] E0 t) := pe_callX C hr hg pass0 ha hj hdb he hpl
end

inductive Kn where
  | non | bl | int | str | lst | tup | dct
def tyK (T : String) : Option Kn :=
  if T = "int" then some .int else if T = "bool" then some .bl else if T = "str" then some .str else if T = "list" then some .lst else if T = "tuple" then some .tup else none
theorem tyK_int : tyK "int" = some .int := rfl
theorem tyK_bool : tyK "bool" = some .bl := rfl
theorem tyK_str : tyK "str" = some .str := rfl
theorem tyK_list : tyK "list" = some .lst := rfl
theorem tyK_tuple : tyK "tuple" = some .tup := rfl
def isiB : Kn → Kn → Bool
  | .int, .int => true
  | .bl, .int => true
  | .bl, .bl => true
  | .str, .str => true
  | .lst, .lst => true
  | .tup, .tup => true
  | _, _ => false
def dctO (a : Addr) : HO := .ext fun h => ∃ o, h.get? a = some o ∧ o.cls = .type "dict"
def tDNewX : TE := fun _ H Q => ∀ p, H p = none → Q (.ref p) (upd H p (dctO p))
def Kd (K : PySem.W.Frag) (H : Hp) : V → Kn → Prop
  | .non, k => k = .non
  | .bl _, k => k = .bl
  | .int _, k => k = .int
  | .str _, k => k = .str
  | .ref a, k => (k = .lst ∧ ∃ xs, SqL K H a xs) ∨ (k = .tup ∧ ∃ xs, SqT K H a xs) ∨ (k = .dct ∧ H a = some (dctO a))
  | _, _ => False
def rIsi (K : PySem.W.Frag) : List V → Hp → VK → Prop := fun xs H Q => ∃ x T kt k, xs = [x, .ty T] ∧ tyK T = some kt ∧ Kd K H x k ∧ Q (.bl (isiB k kt)) H
theorem tyK_some {T : String} {kt : Kn} (h : tyK T = some kt) : (T = "int" ∧ kt = .int) ∨ (T = "bool" ∧ kt = .bl) ∨ (T = "str" ∧ kt = .str) ∨ (T = "list" ∧ kt = .lst) ∨ (T = "tuple" ∧ kt = .tup) := by
  unfold tyK at h
  split at h
  · next e => exact .inl ⟨e, (Option.some.inj h).symm⟩
  split at h
  · next e => exact .inr (.inl ⟨e, (Option.some.inj h).symm⟩)
  split at h
  · next e => exact .inr (.inr (.inl ⟨e, (Option.some.inj h).symm⟩))
  split at h
  · next e => exact .inr (.inr (.inr (.inl ⟨e, (Option.some.inj h).symm⟩)))
  split at h
  · next e => exact .inr (.inr (.inr (.inr ⟨e, (Option.some.inj h).symm⟩)))
  · cases h
section
variable {X : Cx}
theorem call_isi : CallR X (.builtin "isinstance") (rIsi X.K) := by
  intro pins s σ H xs us Q I r h
  obtain ⟨x, T, kt, k, rfl, ht, hk, q⟩ := h
  obtain ⟨u, w', rfl, rx, rt⟩ := vals2 r
  obtain rfl : w' = Value.type T := rt
  have f1 : EP X pins σ Q (.bool (isiB k kt)) s := ⟨.bl _, H, I, rfl, q⟩
  have f2 : EP X pins σ Q (.bool (isiB k kt)) { s with toks := s.toks + 1 } := ⟨.bl _, H, I.tok _, rfl, q⟩
  have hT := tyK_some ht
  clear ht q
  cases x with
  | non =>
    obtain rfl : u = Value.none := rx
    obtain rfl : k = .non := hk
    rcases hT with ⟨rfl, rfl⟩ | ⟨rfl, rfl⟩ | ⟨rfl, rfl⟩ | ⟨rfl, rfl⟩ | ⟨rfl, rfl⟩
    · exact IsiPair.NoneType_int f2
    · exact IsiPair.NoneType_bool f2
    · exact IsiPair.NoneType_str f2
    · exact IsiPair.NoneType_list f2
    · exact IsiPair.NoneType_tuple f2
  | bl b =>
    obtain rfl : u = Value.bool b := rx
    obtain rfl : k = .bl := hk
    rcases hT with ⟨rfl, rfl⟩ | ⟨rfl, rfl⟩ | ⟨rfl, rfl⟩ | ⟨rfl, rfl⟩ | ⟨rfl, rfl⟩
    · first | exact IsiPair.bool_int f1 | exact IsiPair.bool_int f2
    · exact IsiPair.bool_bool f1
    · exact IsiPair.bool_str f2
    · exact IsiPair.bool_list f2
    · exact IsiPair.bool_tuple f2
  | int i =>
    obtain ⟨t, rfl⟩ := rx
    obtain rfl : k = .int := hk
    rcases hT with ⟨rfl, rfl⟩ | ⟨rfl, rfl⟩ | ⟨rfl, rfl⟩ | ⟨rfl, rfl⟩ | ⟨rfl, rfl⟩
    · exact IsiPair.int_int f1
    · exact IsiPair.int_bool f2
    · exact IsiPair.int_str f2
    · exact IsiPair.int_list f2
    · exact IsiPair.int_tuple f2
  | str z =>
    obtain ⟨t, rfl⟩ := rx
    obtain rfl : k = .str := hk
    rcases hT with ⟨rfl, rfl⟩ | ⟨rfl, rfl⟩ | ⟨rfl, rfl⟩ | ⟨rfl, rfl⟩ | ⟨rfl, rfl⟩
    · exact IsiPair.str_int f2
    · exact IsiPair.str_bool f2
    · exact IsiPair.str_str f1
    · exact IsiPair.str_list f2
    · exact IsiPair.str_tuple f2
  | ref a =>
    obtain rfl : u = Value.ref a := rx
    rcases hk with ⟨rfl, xs, hq⟩ | ⟨rfl, xs, hq⟩ | ⟨rfl, hq⟩
    · obtain ⟨its, _, ⟨o, n, e, c, _, _⟩, _⟩ := I.list hq
      rcases hT with ⟨rfl, rfl⟩ | ⟨rfl, rfl⟩ | ⟨rfl, rfl⟩ | ⟨rfl, rfl⟩ | ⟨rfl, rfl⟩
      · exact IsiPair.list_int e c f2
      · exact IsiPair.list_bool e c f2
      · exact IsiPair.list_str e c f2
      · exact IsiPair.list_list e c f1
      · exact IsiPair.list_tuple e c f2
    · obtain ⟨its, _, ⟨o, e, c, _⟩, _⟩ := I.tuple hq
      rcases hT with ⟨rfl, rfl⟩ | ⟨rfl, rfl⟩ | ⟨rfl, rfl⟩ | ⟨rfl, rfl⟩ | ⟨rfl, rfl⟩
      · exact IsiPair.tuple_int e c f2
      · exact IsiPair.tuple_bool e c f2
      · exact IsiPair.tuple_str e c f2
      · exact IsiPair.tuple_list e c f2
      · exact IsiPair.tuple_tuple e c f1
    · obtain ⟨⟨o, e, c⟩, _⟩ := I.hok a _ hq
      rcases hT with ⟨rfl, rfl⟩ | ⟨rfl, rfl⟩ | ⟨rfl, rfl⟩ | ⟨rfl, rfl⟩ | ⟨rfl, rfl⟩
      · exact IsiPair.dict_int e c f2
      · exact IsiPair.dict_bool e c f2
      · exact IsiPair.dict_str e c f2
      · exact IsiPair.dict_list e c f2
      · exact IsiPair.dict_tuple e c f2
  | _ => exact False.elim hk
end

def Itr2 (lo : Int) (n : Nat) : It := ⟨fun i _ => i < n, fun i H x H' => H' = H ∧ x = .int (lo + i * 2), fun i _ => n ≤ i⟩
section
variable {X : Cx} {tg : Expr}
def iRng3 (ta : TA) : TI := fun σ H R => ta σ H fun vs H1 => ∃ i j : Int, vs = [.int i, .int j, .int 2] ∧ (-(2 ^ 60) ≤ i ∧ i < 2 ^ 60 ∧ -(2 ^ 60) ≤ j ∧ j < 2 ^ 60) ∧ R (Itr2 i ((j - i + 1) / 2).toNat) H1
end
def ForW (J : It) (g : TG) (tb : TS) (D : Ends) (σ : St) (H : Hp) : Prop := ∃ W : Nat → Nat → St → Hp → Prop, (∃ m, W 0 m σ H) ∧ ∀ i m σ H, W i m σ H →
  (J.stop i H ∧ D.nx σ H) ∨ (J.go i H ∧ ∃ N : St → Hp → Prop, (∀ σ' H', N σ' H' → ∃ m', m' < m ∧ W (i + 1) m' σ' H') ∧ ∀ x H', J.yld i H x H' → g x σ H' fun σ2 H2 => tb { D with nx := N, ct := N, bk := D.nx } σ2 H2)
theorem tFor_eq {wi : TI} {g : TG} {tb : TS} {D : Ends} {σ : St} {H : Hp} : tFor wi g tb D σ H = wi σ H fun J H1 => ForW J g tb D σ H1 := rfl
section
variable {K : PySem.W.Frag} {a : Addr} {xs : List V} {g : TG} {tb : TS} {D : Ends} {σ : St} {H : Hp} {lo : Int} {n : Nat}
theorem forW_list (xs : List V) (Pv : Nat → St → Hp → Prop) (h0 : Pv 0 σ H) (hl : ∀ i σ H, i ≤ xs.length → Pv i σ H → SqL K H a xs)
    (hs : ∀ i x σ H, xs[i]? = some x → Pv i σ H → g x σ H fun σ2 H2 => tb { D with nx := Pv (i + 1), ct := Pv (i + 1), bk := D.nx } σ2 H2) (hd : ∀ σ H, Pv xs.length σ H → D.nx σ H) : ForW (Itl K a) g tb D σ H := for_list Pv h0 hl hs hd
theorem forW_range (Pv : Nat → St → Hp → Prop) (h0 : Pv 0 σ H)
    (hs : ∀ i σ H, i < n → Pv i σ H → g (.int (lo + i)) σ H fun σ2 H2 => tb { D with nx := Pv (i + 1), ct := Pv (i + 1), bk := D.nx } σ2 H2) (hd : ∀ σ H, Pv n σ H → D.nx σ H) : ForW (Itr lo n) g tb D σ H := for_range Pv h0 hs hd
end

structure Bits (n : Nat) (i : Int) : Prop where
  lt : i.natAbs < 2 ^ n
theorem Bits.mono {m n : Nat} {i : Int} (h : Bits m i) (le : m ≤ n) : Bits n i := ⟨Nat.lt_of_lt_of_le h.lt (Nat.pow_le_pow_right (by decide) le)⟩
theorem Bits.add {n : Nat} {i j : Int} (h : Bits n i) (h' : Bits n j) : Bits (n + 1) (i + j) := ⟨by
  have := Int.natAbs_add_le i j
  have := h.lt
  have := h'.lt
  rw [Nat.pow_succ]
  omega⟩
theorem Bits.neg {n : Nat} {i : Int} (h : Bits n i) : Bits n (-i) := ⟨by rw [Int.natAbs_neg]; exact h.lt⟩
theorem Bits.sub {n : Nat} {i j : Int} (h : Bits n i) (h' : Bits n j) : Bits (n + 1) (i - j) := by
  rw [Int.sub_eq_add_neg]
  exact h.add h'.neg
theorem Bits.of {n : Nat} {i b : Int} (lo : -b ≤ i) (hi : i ≤ b) (hb : b < ((2 ^ n : Nat) : Int)) : Bits n i := ⟨by omega⟩
theorem Bits.le {n : Nat} {i j : Int} (h : Bits n j) (le : i.natAbs ≤ j.natAbs) : Bits n i := ⟨Nat.lt_of_le_of_lt le h.lt⟩
theorem Bits.bits {n : Nat} {i : Int} (h : Bits n i) : Builtin.Int.intBits i ≤ n := by
  unfold Builtin.Int.intBits
  split
  · exact Nat.zero_le _
  · have q := h.lt
    rcases Nat.eq_zero_or_pos i.natAbs with h0 | hp
    · rw [h0] at q ⊢
      have : (0 : Nat).log2 = 0 := by decide
      rename_i hz
      exact absurd (by simp; omega) hz
    · have := (Nat.log2_lt (Nat.ne_of_gt hp)).mpr q
      omega
def CMulB (i j : Int) : Prop := Bits 100000 i ∧ Bits 100000 j
theorem CMulB.ok {i j : Int} (h : CMulB i j) : IntMulOk i j := IntMulOk.of_bits (Nat.le_trans h.1.bits (by decide)) (Nat.le_trans h.2.bits (by decide))
def CDivB (_ j : Int) : Prop := 0 < j ∧ Bits 8999 j
theorem CDivB.ok {i j : Int} (h : CDivB i j) : Builtin.divisionGoesByPylong i j = false := by
  refine PyProof.noPylong_of_log2 ?_
  have q := h.2.lt
  have := (Nat.log2_lt (n := j.natAbs) (k := 8999) (by have := h.1; omega)).mpr q
  omega
section
variable {X : Cx}
theorem op_mulB : OpR X (binaryOp .Mult) (rI CMulB fun i j => .int (i * j)) := opI fun _ _ _ _ _ _ _ hc q => mul_int q hc.ok
theorem op_fdivB : OpR X (binaryOp .FloorDiv) (rI CDivB fun i j => .int (i / j)) := opI fun i j _ _ _ _ _ hc q => by
  have h1 : (0 : Int) < j := hc.1
  exact floordiv_int (by omega) (by rw [Int.fdiv_eq_ediv_of_nonneg i (by omega)]; exact q) (.inl hc.ok)
def tMenu (t : TA) (ti : TE) : TE := fun σ H Q => t σ H fun xs H1 => xs.length ≤ sizeLine ∧ ti σ H1 fun y H2 => ∃ i v, y = .int i ∧ 0 ≤ i ∧ xs[i.toNat]? = some v ∧ Q v H2
end
section
variable {X : Cx} {es : List Expr} {b : Expr} {t : TA} {ti : TE} {pos p2 : Pos}
theorem pe_menu (h : PA X es t) (hb : PE X b ti) (hs : PlainIx b) : PE X (.Subscript (.List es p2) b pos) (tMenu t ti) := by
  intro pins s σ H Q I hq
  refine Subscript_ (wpAny_List_spliced (thn (h p2 pins s σ H _ I hq) fun us s1 ⟨xs, H1, I1, r, z, q⟩ => ⟨by rw [← r.length]; exact z, ?_⟩))
  have hf : H1 s1.heap.objs.size = none := I1.hok.fresh (Nat.le_refl _)
  have I2 : Inv X (pins ++ [(s1.heap.objs.size, { cls := .type "list", data := .seq us.toArray })]) σ H1 { s1 with heap := s1.heap.push { cls := .type "list", data := .seq us.toArray } } := by
    have J : Inv X pins σ H1 { s1 with heap := s1.heap.push { cls := .type "list", data := .seq us.toArray } } := I1.kept (t' := s1.toks) fun b u e => Heap.get?_push_of_some _ e
    refine J.pins_of fun p hp => ?_
    rcases List.mem_append.mp hp with hp | hp
    · exact J.pin p (List.mem_append_right _ hp)
    · have e := List.mem_singleton.mp hp
      subst e
      exact ⟨Heap.get?_push_size _ rfl, hf, Nat.ne_of_gt I1.lt, I1.nofs (Nat.le_refl _), fun v z => by cases z⟩
  refine thn (hb _ _ σ H1 _ I2 q) fun u s2 ⟨y, H2, I3, ry, i, v, e, h0, ha, q2⟩ => ?_
  subst e
  obtain ⟨t', rfl⟩ := ry
  obtain ⟨hp, _⟩ := I3.pin (s1.heap.objs.size, { cls := .type "list", data := .seq us.toArray }) (List.mem_append_right _ (List.mem_append_right _ (List.mem_singleton.mpr rfl)))
  obtain ⟨w, ew, rw'⟩ := r.get ha
  have I4 : Inv X pins σ H2 s2 := I3.pins_of fun p hp => I3.pin p (List.mem_append_right _ (List.mem_append_left _ hp))
  have hl := r.length
  have hn := line63
  have hi : i.toNat < us.length := (List.getElem?_eq_some_iff.mp ew).1
  have fin : EP X pins σ Q w s2 := ⟨v, H2, I4, rw', q2⟩
  exact item_listR (l := s1.heap.objs.size) ⟨_, hp, rfl, _, rfl⟩ h0 (by omega) (by simpa using ew) fin (hs _ _)
end
theorem isi_non_bl : isiB .non .bl = false := rfl
theorem isi_non_int : isiB .non .int = false := rfl
theorem isi_non_str : isiB .non .str = false := rfl
theorem isi_non_lst : isiB .non .lst = false := rfl
theorem isi_non_tup : isiB .non .tup = false := rfl
theorem isi_bl_bl : isiB .bl .bl = true := rfl
theorem isi_bl_int : isiB .bl .int = true := rfl
theorem isi_bl_str : isiB .bl .str = false := rfl
theorem isi_bl_lst : isiB .bl .lst = false := rfl
theorem isi_bl_tup : isiB .bl .tup = false := rfl
theorem isi_int_bl : isiB .int .bl = false := rfl
theorem isi_int_int : isiB .int .int = true := rfl
theorem isi_int_str : isiB .int .str = false := rfl
theorem isi_int_lst : isiB .int .lst = false := rfl
theorem isi_int_tup : isiB .int .tup = false := rfl
theorem isi_str_bl : isiB .str .bl = false := rfl
theorem isi_str_int : isiB .str .int = false := rfl
theorem isi_str_str : isiB .str .str = true := rfl
theorem isi_str_lst : isiB .str .lst = false := rfl
theorem isi_str_tup : isiB .str .tup = false := rfl
theorem isi_lst_bl : isiB .lst .bl = false := rfl
theorem isi_lst_int : isiB .lst .int = false := rfl
theorem isi_lst_str : isiB .lst .str = false := rfl
theorem isi_lst_lst : isiB .lst .lst = true := rfl
theorem isi_lst_tup : isiB .lst .tup = false := rfl
theorem isi_tup_bl : isiB .tup .bl = false := rfl
theorem isi_tup_int : isiB .tup .int = false := rfl
theorem isi_tup_str : isiB .tup .str = false := rfl
theorem isi_tup_lst : isiB .tup .lst = false := rfl
theorem isi_tup_tup : isiB .tup .tup = true := rfl
theorem isi_dct_bl : isiB .dct .bl = false := rfl
theorem isi_dct_int : isiB .dct .int = false := rfl
theorem isi_dct_str : isiB .dct .str = false := rfl
theorem isi_dct_lst : isiB .dct .lst = false := rfl
theorem isi_dct_tup : isiB .dct .tup = false := rfl
theorem Kd_non {K : PySem.W.Frag} {H : Hp} {k : Kn} : Kd K H .non k = (k = .non) := rfl
theorem Kd_bl {K : PySem.W.Frag} {H : Hp} {k : Kn} {b : Bool} : Kd K H (.bl b) k = (k = .bl) := rfl
theorem Kd_int {K : PySem.W.Frag} {H : Hp} {k : Kn} {i : Int} : Kd K H (.int i) k = (k = .int) := rfl
theorem Kd_str {K : PySem.W.Frag} {H : Hp} {k : Kn} {z : Str} : Kd K H (.str z) k = (k = .str) := rfl
theorem Kd.tup {K : PySem.W.Frag} {H : Hp} {a : Addr} {xs : List V} (h : SqT K H a xs) : Kd K H (.ref a) .tup := .inr (.inl ⟨rfl, xs, h⟩)
theorem Kd.lst {K : PySem.W.Frag} {H : Hp} {a : Addr} {xs : List V} (h : SqL K H a xs) : Kd K H (.ref a) .lst := .inl ⟨rfl, xs, h⟩
theorem Kd.dct {K : PySem.W.Frag} {H : Hp} {a : Addr} (h : H a = some (dctO a)) : Kd K H (.ref a) .dct := .inr (.inr ⟨rfl, h⟩)
theorem Kd.ref {K : PySem.W.Frag} {H : Hp} {a : Addr} {k : Kn} (h : Kd K H (.ref a) k) : k ≠ .int ∧ k ≠ .bl ∧ k ≠ .str ∧ k ≠ .non := by
  rcases h with ⟨rfl, _⟩ | ⟨rfl, _⟩ | ⟨rfl, _⟩ <;> exact ⟨(by intro z; cases z), (by intro z; cases z), (by intro z; cases z), (by intro z; cases z)⟩
theorem sc_non_non : scal .non .non = true := rfl
theorem sc_non_int {x2 : Int} : scal .non (.int x2) = true := rfl
theorem sc_int_non {x1 : Int} : scal (.int x1) .non = true := rfl
theorem sc_non_bl {x2 : Bool} : scal .non (.bl x2) = true := rfl
theorem sc_bl_non {x1 : Bool} : scal (.bl x1) .non = true := rfl
theorem sc_non_str {x2 : Str} : scal .non (.str x2) = true := rfl
theorem sc_str_non {x1 : Str} : scal (.str x1) .non = true := rfl
theorem sc_int_int {x1 : Int} {x2 : Int} : scal (.int x1) (.int x2) = true := rfl
theorem sc_bl_bl {x1 : Bool} {x2 : Bool} : scal (.bl x1) (.bl x2) = true := rfl
theorem sc_str_str {x1 : Str} {x2 : Str} : scal (.str x1) (.str x2) = true := rfl
theorem sc_int_str {x1 : Int} {x2 : Str} : scal (.int x1) (.str x2) = true := rfl
theorem sc_str_int {x1 : Str} {x2 : Int} : scal (.str x1) (.int x2) = true := rfl
theorem sc_bl_str {x1 : Bool} {x2 : Str} : scal (.bl x1) (.str x2) = true := rfl
theorem sc_str_bl {x1 : Str} {x2 : Bool} : scal (.str x1) (.bl x2) = true := rfl
theorem cxK {CX : CXT} {P : Program} {w : World} {K : PySem.W.Frag} {mg : Str → Option Value} {base : Heap} {N : List Str} {qual : Str} {scope : Scope} {f : Addr} {cd : Value} {A : Around} {outer : List Env} {s : Shared} {H : Hp} {E : XK} :
    (cxOf CX P w K mg base N qual scope f cd A outer s H E).K = K := rfl
theorem b_len : bootBuiltins "len" = some (.builtin "len") := by decide +kernel
theorem b_abs : bootBuiltins "abs" = some (.builtin "abs") := by decide +kernel
theorem b_isinstance : bootBuiltins "isinstance" = some (.builtin "isinstance") := by decide +kernel
theorem b_int : bootBuiltins "int" = some (.type "int") := by decide +kernel
theorem b_bool : bootBuiltins "bool" = some (.type "bool") := by decide +kernel
theorem b_str : bootBuiltins "str" = some (.type "str") := by decide +kernel
theorem b_list : bootBuiltins "list" = some (.type "list") := by decide +kernel
theorem b_tuple : bootBuiltins "tuple" = some (.type "tuple") := by decide +kernel
theorem b_all : bootBuiltins "all" = some (.builtin "all") := by decide +kernel
theorem b_ValueError : bootBuiltins "ValueError" = some (.type "ValueError") := by decide +kernel
structure Mg (mg : Str → Option Value) : Prop where
  m_len : mg "len" = none
  m_range : mg "range" = none
  m_abs : mg "abs" = none
  m_max : mg "max" = none
  m_min : mg "min" = none
  m_isinstance : mg "isinstance" = none
  m_int : mg "int" = none
  m_bool : mg "bool" = none
  m_str : mg "str" = none
  m_list : mg "list" = none
  m_tuple : mg "tuple" = none
  m_sum : mg "sum" = none
  m_all : mg "all" = none
  m_enumerate : mg "enumerate" = none
  m_zip : mg "zip" = none
  m_ValueError : mg "ValueError" = none
  m_any : mg "any" = none
  m_set : mg "set" = none
  m_sorted : mg "sorted" = none
end L2

set_option Elab.async false
set_option linter.all false
set_option maxRecDepth 100000
set_option maxHeartbeats 1000000
namespace L2
open PySem PySem.Spec PyProof.Rows
section
variable {prog : Program} {w : World} {A : Around} {R : Result → Shared → Prop} {s : Shared}
theorem compLoop_go {elt target iter : Expr} {ifs : List Expr} {scope : Scope} {pos : Pos} {it acc : Value} {env : Env} (I : Nat → Shared → Prop)
    (turn : ∀ n s, I n s → wpAny (model prog w) A (pyNext it) (fun r s₁ => match r with
      | none => R (.ok .next) s₁
      | some v => wpAny (model prog w) A (letOwnedTupleGo target it v) (fun _ s₁' => wpAny (model prog w) A (assign target env v) (fun _ s₂ =>
          wpAny (model prog w) A (forIn ifs true fun c r => if r = true then do let ok ← isTrue c env (eval c env); pure (ForInStep.yield ok) else pure (ForInStep.yield r)) (fun ok s₃ =>
            if ok = true then wpAny (model prog w) A (eval elt env) (fun x s₄ =>
              wpAny (model prog w) A (call (.builtin "list.append") [acc, x]) (fun _ s₅ => ∃ m, m < n ∧ I m s₅) (fun _ _ => False) s₄) (fun _ _ => False) s₃
            else ∃ m, m < n ∧ I m s₃) (fun _ _ => False) s₂) (fun _ _ => False) s₁') (fun _ _ => False) s₁) (fun _ _ => False) s)
    (n : Nat) (h : I n s) :
    codeAny (model prog w) A (.compLoop (.ListComp elt [⟨target, iter, ifs, 0⟩] scope pos) 0 it acc env) R s := by
  refine codeAny_loop rfl I (fun n s hI => ?_) n h
  show wpAny _ A ((compTurn (.ListComp elt [⟨target, iter, ifs, 0⟩] scope pos) 0 it acc env).onRaise (fun x => do noteFrame x env; theTreesLotGoes x)) _ _ s
  refine wpAny_noted ?_
  rw [compTurn_list]
  refine wpAny_bind (wpAny_standAt (wpAny_bind (wpAny_mono (turn n s hI) (fun r s₁ h₁ => ?_) fun _ _ h' => h'.elim)))
  cases r with
  | none => exact wpAny_pure h₁
  | some v =>
    refine wpAny_bind (wpAny_mono h₁ (fun _ s₁' h₁' => wpAny_bind (wpAny_mono h₁' (fun _ s₂ h₂ => wpAny_bind (wpAny_mono h₂ (fun ok s₃ h₃ => ?_) fun _ _ h' => h'.elim)) fun _ _ h' => h'.elim)) fun _ _ h' => h'.elim)
    cases ok with
    | false => exact wpAny_pure ⟨rfl, h₃⟩
    | true =>
      exact wpAny_bind (wpAny_bind (wpAny_mono h₃ (fun x s₄ h₄ => wpAny_bind (wpAny_mono h₄ (fun _ s₅ h₅ => wpAny_pure (wpAny_pure ⟨rfl, h₅⟩)) fun _ _ h' => h'.elim)) fun _ _ h' => h'.elim))
end

def blk (X : Cx) (scope : Scope) (cl : List (Str × Addr)) (N' : List Str) (s₀ : Shared) (H₀ : Hp) (C : Addr) (pn : List (Addr × Obj)) (ex : List Addr) : Cx where
  prog := X.prog
  w := X.w
  K := X.K
  mg := X.mg
  base := X.base
  A := X.A
  N := N'
  s₀ := s₀
  H₀ := H₀
  env := compEnvC scope cl C X.env
  outer := X.stack
  stack := X.stack
  ex := ex
  fn := fun _ => false
  calm := X.calm
  pn := pn
  xe := fun _ _ => False
def PIfs (X : Cx) (ifs : List Expr) (t : TT) : Prop :=
  ∀ (pins : List (Addr × Obj)) (s : Shared) (σ : St) (H : Hp) (Q : Bool → Hp → Prop), Inv X pins σ H s → t σ H Q →
    wpAny (model X.prog X.w) X.A (forIn ifs true fun c r => if r = true then do let ok ← isTrue c X.env (eval c X.env); pure (ForInStep.yield ok) else pure (ForInStep.yield r)) (TP X pins σ Q) X.xe s
def tYes : TT := fun _ H Q => Q true H
theorem pif_nil {X : Cx} : PIfs X [] tYes := fun _ _ _ H _ I h => wpAny_tests_nil ⟨H, I, h⟩
def slots (ix : List Nat) (σ : St) : St := ix.map fun j => (σ[j]?).getD none
def compW (D : Addr) (J : It) (g : TG) (tt : TT) (te : TE) (Q : VK) (W : Nat → Nat → St → Hp → Prop) : Prop :=
  ∀ i m τ H2, W i m τ H2 → (J.stop i H2 ∧ Q (.ref D) H2) ∨ (J.go i H2 ∧ ∀ x H3, J.yld i H2 x H3 → g x τ H3 fun τ' H3' => tt τ' H3' fun b H4 =>
    if b = true then te τ' H4 fun v H5 => ∃ ys, H5 D = some (.lst ys) ∧ ys.length < sizeLine ∧ ∃ m', m' < m ∧ W (i + 1) m' τ' (upd H5 D (.lst (ys ++ [v]))) else ∃ m', m' < m ∧ W (i + 1) m' τ' H4)
def tComp (ix : List Nat) (nl : Nat) (wi : TI) (g : TG) (tt : TT) (te : TE) : TE := fun σ H Q => wi σ H fun J H1 => ∀ D, H1 D = none →
  ∃ W : Nat → Nat → St → Hp → Prop, (∃ m, W 0 m (slots ix σ ++ List.replicate nl none) (upd H1 D (.lst []))) ∧ compW D J g tt te Q W

structure CompOk (X : Cx) (scope : Scope) (cl : List (Str × Addr)) (N' : List Str) (ix : List Nat) (nl : Nat) : Prop where
  clos : closureFor scope X.env = pure cl
  sub : ∀ y c, cl.lookup y = some c → X.env.cells.lookup y = some c
  has : ∀ p ∈ (relabel scope X.env).names, (p.2 = .cell ∨ p.2 = .free) → (cl.lookup p.1).isSome = true
  cell : ∀ y ∈ scope.names, y.2 ≠ .cell
  kind : scope.kind = .function
  names : ∀ y ∈ scope.names, y.2 = .local → scope.names.lookup y.1 = some .local
  len : N'.length = ix.length + nl
  out : ∀ (i j : Nat) (y : Str), ix[i]? = some j → N'[i]? = some y → X.N[j]? = some y ∧ (X.env.kindOf y = some .cell ∨ X.env.kindOf y = some .free) ∧ ((relabel scope X.env).names.lookup y = some .cell ∨ (relabel scope X.env).names.lookup y = some .free)

theorem fm0 {α : Type} {P : α → Prop} : ∀ p ∈ ([] : List α), P p := fun _ h => nomatch h
theorem fm1 {α : Type} {P : α → Prop} {a : α} {l : List α} (h : P a) (r : ∀ p ∈ l, P p) : ∀ p ∈ a :: l, P p := List.forall_mem_cons.mpr ⟨h, r⟩
def OutsOk (X : Cx) (scope : Scope) : List Nat → List Str → Prop
  | [], _ => True
  | j :: r, y :: t => (X.N[j]? = some y ∧ (X.env.kindOf y = some .cell ∨ X.env.kindOf y = some .free) ∧ ((relabel scope X.env).names.lookup y = some .cell ∨ (relabel scope X.env).names.lookup y = some .free)) ∧ OutsOk X scope r t
  | _ :: _, [] => False
theorem OutsOk.at {X : Cx} {scope : Scope} : ∀ {ix : List Nat} {N : List Str}, OutsOk X scope ix N → ∀ (i j : Nat) (y : Str), ix[i]? = some j → N[i]? = some y → X.N[j]? = some y ∧ (X.env.kindOf y = some .cell ∨ X.env.kindOf y = some .free) ∧ ((relabel scope X.env).names.lookup y = some .cell ∨ (relabel scope X.env).names.lookup y = some .free)
  | [], _, _, i, j, y, h1, _ => by simp at h1
  | _ :: _, [], h, _, _, _, _, _ => h.elim
  | _ :: _, _ :: _, h, 0, j, y, h1, h2 => by
    simp at h1 h2
    subst h1 h2
    exact h.1
  | _ :: _, _ :: _, h, i + 1, j, y, h1, h2 => OutsOk.at h.2 i j y (by simpa using h1) (by simpa using h2)
theorem CompOk.make {X : Cx} {scope : Scope} {cl : List (Str × Addr)} {N' : List Str} {ix : List Nat} {nl : Nat} (clos : closureFor scope X.env = pure cl) (sub : ∀ p ∈ cl, X.env.cells.lookup p.1 = some p.2)
    (has : ((relabel scope X.env).names.all fun p => !(p.2 == .cell || p.2 == .free) || (cl.lookup p.1).isSome) = true) (cell : ∀ y ∈ scope.names, y.2 ≠ .cell) (kind : scope.kind = .function)
    (names : ∀ y ∈ scope.names, y.2 = .local → scope.names.lookup y.1 = some .local) (len : N'.length = ix.length + nl) (out : OutsOk X scope ix N') : CompOk X scope cl N' ix nl :=
  ⟨clos, fun y c h => sub (y, c) (PySem.mem_of_lookup h), fun p hp hc => by
    have q := List.all_eq_true.mp has p hp
    rcases hc with e | e <;> (rw [e] at q; simpa using q), cell, kind, names, len, out.at⟩

section
variable {X : Cx} {pins : List (Addr × Obj)} {σ : St} {H : Hp} {s : Shared}
theorem blk_ok {scope : Scope} {cl : List (Str × Addr)} {N' : List Str} {ix : List Nat} {nl : Nat} {C : Addr} {fp : List Addr} (O : CompOk X scope cl N' ix nl) (I : Inv X pins σ H s) (hC : s.heap.objs.size ≤ C) (f : ∀ b ∈ fp, FpOk X pins H b) (lt : ∀ b ∈ fp, b < s.heap.objs.size) :
    (blk X scope cl N' s H C (X.pn ++ pins) fp).Ok where
  mod := I.ok.mod
  kind := O.kind
  glob := I.ok.glob
  blt := I.ok.blt
  above := hC
  inj := fun x y c h1 h2 => I.ok.inj x y c (O.sub x c h1) (O.sub y c h2)
  has := fun x hx => by
    have hx' : (relabel scope X.env).names.lookup x = some .cell ∨ (relabel scope X.env).names.lookup x = some .free := hx
    rcases hx' with h | h
    · exact Option.isSome_iff_exists.mp (O.has _ (PySem.mem_of_lookup h) (.inl rfl))
    · exact Option.isSome_iff_exists.mp (O.has _ (PySem.mem_of_lookup h) (.inr rfl))
  cab := fun x c h => nomatch (show false = true from h)
  hd := I.ok.hd
  frames := I.ok.frames
  stk := .inl rfl
  exf := fun b hb => ⟨Nat.ne_of_lt (Nat.lt_of_lt_of_le (lt b hb) hC), fun x c h => (f b hb).2.2.2.2.1 x c (O.sub x c h)⟩
  bs := I.bs
  bsz := Nat.le_trans I.ok.bsz I.sz
  noex := fun b o e hb => by
    rcases (f b hb).2.2.2.1 with z | z
    · exact I.ok.noex b o e z
    · exact absurd (Nat.lt_of_lt_of_le (Heap.lt_size e) (Nat.le_trans I.ok.bsz z)) (Nat.lt_irrefl _)
  exfs := fun b hb z => by
    rcases List.mem_cons.mp (I.stkSub b z) with e | e
    · exact (f b hb).2.1 e
    · exact (f b hb).2.2.1 e
  funs := I.stack
  frf := I.stkFree

theorem blk_inv {scope : Scope} {cl : List (Str × Addr)} {N' : List Str} {ix : List Nat} {nl : Nat} {C : Addr} {fp : List Addr} {h' : Heap} {t' : Nat} (O : CompOk X scope cl N' ix nl) (I : Inv X pins σ H s) (hC : s.heap.objs.size ≤ C) (f : ∀ b ∈ fp, FpOk X pins H b) (lt : ∀ b ∈ fp, b < s.heap.objs.size)
    (hn : h'.Ns C fun _ => none) (k : ∀ b o, s.heap.get? b = some o → h'.get? b = some o) :
    Inv (blk X scope cl N' s H C (X.pn ++ pins) fp) [] (slots ix σ ++ List.replicate nl none) H { s with heap := h', toks := t' } := by
  refine ⟨blk_ok O I hC f lt, rfl, I.bare, Un.kept k, ⟨_, hn, fun i x v e1 e2 e3 => ?_⟩, fun x c e => ?_, I.hok.fresh hC, fun x c e => I.freeC x c (O.sub x c e), fun p hp => ?_, I.hok.kept k, ?_⟩
  · have e1 : N'[i]? = some x := e1
    have hi : i < ix.length := by
      by_cases hi : i < ix.length
      · exact hi
      · rw [List.getElem?_append_right (by simpa [slots] using hi)] at e2
        rw [List.getElem?_replicate] at e2
        split at e2 <;> cases e2
    have e2' : (σ[ix[i]]?).getD none = some v := by
      rw [List.getElem?_append_left (by simpa [slots] using hi)] at e2
      simpa [slots, hi] using e2
    have e4 : σ[ix[i]]? = some (some v) := by
      cases q : σ[ix[i]]? with
      | none => rw [q] at e2'; cases e2'
      | some z => rw [q] at e2'; exact congrArg some e2'
    obtain ⟨o1, o2, o3⟩ := O.out i ix[i] x (by simp [hi]) e1
    obtain ⟨m, hm, hl⟩ := I.loc
    have vis : Vis X.env.scope x := by
      rcases o2 with z | z
      · exact .inr (.inl z)
      · exact .inr (.inr z)
    obtain ⟨u, r, l⟩ := hl _ x v o1 e4 vis
    rcases l with ⟨z, _⟩ | ⟨_, c, hc, o, ho, hd⟩
    · rcases o2 with y | y <;> (rw [y] at z; cases z)
    · obtain ⟨c', hc'⟩ := (blk_ok O I hC f lt).has x o3
      have z := O.sub x c' hc'
      rw [hc] at z
      cases z
      exact ⟨u, r, .inr ⟨o3, c, hc', o, k _ _ ho, hd⟩⟩
  · obtain ⟨v, q⟩ := I.cell x c (O.sub x c e)
    exact ⟨v, by obtain ⟨o, ho, hd⟩ := q; exact ⟨o, k _ _ ho, hd⟩⟩
  · have hp' : p ∈ X.pn ++ pins := by
      have z : p ∈ (X.pn ++ pins) ++ [] := hp
      rwa [List.append_nil] at z
    obtain ⟨a1, a2, a3, a4, a5⟩ := I.pin p hp'
    refine ⟨k _ _ a1, a2, Nat.ne_of_lt (Nat.lt_of_lt_of_le (Heap.lt_size a1) hC), fun z => ?_, a5⟩
    rcases List.mem_cons.mp (I.stkSub p.1 z) with e | e
    · exact a3 e
    · exact a4 e
  · show (slots ix σ ++ List.replicate nl none).length = N'.length
    rw [List.length_append, List.length_replicate, O.len]
    simp [slots]

theorem blk_back {scope : Scope} {cl : List (Str × Addr)} {N' : List Str} {C : Addr} {fp : List Addr} {s' : Shared} {τ : St} {H' : Hp} (I : Inv X pins σ H s) (f : ∀ b ∈ fp, FpOk X pins H b)
    (J : Inv (blk X scope cl N' s H C (X.pn ++ pins) fp) [] τ H' s') : Inv X pins σ H' s' :=
  I.call' J.os J.base J.hok J.bare fun b hb => ⟨(f b hb).2.2.2.1, (f b hb).2.1, (f b hb).2.2.2.2.1, (f b hb).2.2.2.2.2⟩
theorem Inv.letgo {C : Addr} {s' : Shared} {h' : Heap} (J : Inv X pins σ H s') (hsz : X.s₀.heap.objs.size ≤ C) (hL : C ≠ X.env.locals) (hc : ∀ x c, X.env.cells.lookup x = some c → c ≠ C) (hp : ∀ p ∈ X.pn ++ pins, p.1 ≠ C) (hH : H C = none)
    (sb : Heap.SameBut C s'.heap h') : Inv X pins σ H { s' with heap := h' } :=
  J.turned (t' := s'.toks) (it := C) (fun b o hb e => sb.extBut b o hb e) hH hL (.inr hsz) hc hp
theorem blk_loop {elt iter tg : Expr} {ifs : List Expr} {scope : Scope} {pos : Pos} {cl : List (Str × Addr)} {N' : List Str} {C D it : Addr} {fp : List Addr} {tn : Nat → Heap → Prop} {J : It} {g : TG} {tt : TT} {te : TE} {s₄ : Shared} {W : Nat → Nat → St → Hp → Prop} {Q : VK}
    {τ : St} {H₀ : Hp} {s₃ : Shared} {pn : List (Addr × Obj)} {m0 : Nat} {R : Result → Shared → Prop} (hc : X.calm = true) (T : Turn X.prog X.w X.K tg J fp it tn)
    (f : ∀ H', (∀ b ∈ fp, H' b = none) → ∀ b ∈ fp, FpOk (blk X scope cl N' s₃ H₀ C pn fp) [] H' b)
    (hg : PG (blk X scope cl N' s₃ H₀ C pn fp) tg g) (ht : PIfs (blk X scope cl N' s₃ H₀ C pn fp) ifs tt) (he : PE (blk X scope cl N' s₃ H₀ C pn fp) elt te)
    (I4 : Inv (blk X scope cl N' s₃ H₀ C pn fp) [] τ H s₄) (st : tn 0 s₄.heap) (fr : ∀ b ∈ fp, H b = none) (w0 : W 0 m0 τ H) (hW : compW D J g tt te Q W)
    (fin : ∀ τ' H' s', Inv (blk X scope cl N' s₃ H₀ C pn fp) [] τ' H' s' → Q (.ref D) H' → R (.ok .next) s') :
    codeAny (model X.prog X.w) X.A (.compLoop (.ListComp elt [⟨tg, iter, ifs, 0⟩] scope pos) 0 (.ref it) (.ref D) (compEnvC scope cl C X.env)) R s₄ := by
  refine compLoop_go (fun n s' => ∃ i τ' H', Inv (blk X scope cl N' s₃ H₀ C pn fp) [] τ' H' s' ∧ tn i s'.heap ∧ (∀ b ∈ fp, H' b = none) ∧ W i n τ' H') ?_ m0 ⟨0, τ, H, I4, st, fr, w0⟩
  rintro n s5 ⟨i, τ5, H5, I5, st5, fr5, w5⟩
  rcases hW i n τ5 H5 w5 with ⟨stop, q⟩ | ⟨go, step⟩
  · refine thn (T.done (blk X scope cl N' s₃ H₀ C pn fp) rfl rfl rfl hc i [] s5 τ5 H5 (fun _ _ => False) I5 (f H5 fr5) st5 stop) fun r s6 ⟨hr, I6⟩ => ?_
    subst hr
    exact fin τ5 H5 s6 I6 q
  · refine thn (T.item (blk X scope cl N' s₃ H₀ C pn fp) rfl rfl rfl hc i [] s5 τ5 H5 (fun _ _ => False) I5 (f H5 fr5) st5 go) fun r s6 ⟨u, hr, h6⟩ => ?_
    subst hr
    refine thn h6 fun _ s7 ⟨x, H7, I7, r7, y7, st7, fr7⟩ => ?_
    have I7' := I7.pinned (f H7 fr7) (T.obj _ _ st7)
    have keep : ∀ {τ8 : St} {H8 : Hp} {s8 : Shared}, Inv (blk X scope cl N' s₃ H₀ C pn fp) ([] ++ pinsAt fp s7.heap) τ8 H8 s8 → Inv (blk X scope cl N' s₃ H₀ C pn fp) [] τ8 H8 s8 ∧ tn (i + 1) s8.heap ∧ ∀ b ∈ fp, H8 b = none := fun {τ8 H8 s8} I8 => by
      refine ⟨I8.unpinned, T.keep _ _ _ st7 fun b hb o e => (I8.pin (b, o) (List.mem_append_right _ (List.mem_append_right _ (mem_pinsAt hb e)))).1, fun b hb => ?_⟩
      obtain ⟨o, e, d⟩ := T.obj _ _ st7 b hb
      exact (I8.pin (b, o) (List.mem_append_right _ (List.mem_append_right _ (mem_pinsAt hb e)))).2.1
    refine thn (hg _ s7 τ5 H7 x u _ I7' r7 (step x H7 y7)) fun _ s8 ⟨τ8, H8, I8, q8⟩ => ?_
    refine thn (ht _ s8 τ8 H8 _ I8 q8) fun b s9 ⟨H9, I9, q9⟩ => ?_
    cases b with
    | false =>
      obtain ⟨m', hm, w'⟩ := q9
      obtain ⟨k1, k2, k3⟩ := keep I9
      exact ⟨m', hm, i + 1, τ8, H9, k1, k2, k3, w'⟩
    | true =>
      refine thn (he _ s9 τ8 H9 _ I9 q9) fun y s10 ⟨v, H10, I10, r10, ys, hD, hl, m', hm, w'⟩ => ?_
      refine thn (mt_append _ s10 τ8 H10 (.ref D) [v] (.ref D) [y] (fun _ H11 => W (i + 1) m' τ8 H11) I10 rfl (.cons r10 .nil) ⟨D, ys, v, rfl, rfl, hD, hl, w'⟩) fun z s11 ⟨_, H11, I11, _, w11⟩ => ?_
      obtain ⟨k1, k2, k3⟩ := keep I11
      exact ⟨m', hm, i + 1, τ8, H11, k1, k2, k3, w11⟩
end

section
variable {X : Cx} {elt iter tg : Expr} {ifs : List Expr} {scope : Scope} {pos : Pos} {cl : List (Str × Addr)} {N' : List Str} {ix : List Nat} {nl : Nat} {wi : TI} {g : TG} {tt : TT} {te : TE}
structure Left (X : Cx) (pins : List (Addr × Obj)) (σ : St) (C : Addr) (H : Hp) (s : Shared) : Prop where
  inv : Inv X pins σ H s
  ns : ∃ m, s.heap.Ns C m
  sz : X.s₀.heap.objs.size ≤ C
  loc : C ≠ X.env.locals
  cel : ∀ x c, X.env.cells.lookup x = some c → c ≠ C
  pin : ∀ p ∈ X.pn ++ pins, p.1 ≠ C
  non : H C = none
theorem comp_run {pins : List (Addr × Obj)} {σ : St} {H1 : Hp} {s2 : Shared} {Q : VK} {it : Addr} {fp : List Addr} {tn : Nat → Heap → Prop} {J : It} {RR : Value → Addr → Result → Shared → Prop} {E : Value → Shared → Prop}
    (hc : X.calm = true) (O : CompOk X scope cl N' ix nl) (hg : ∀ s₀ H₀ C pn ex, PG (blk X scope cl N' s₀ H₀ C pn ex) tg g) (ht : ∀ s₀ H₀ C pn ex, PIfs (blk X scope cl N' s₀ H₀ C pn ex) ifs tt)
    (he : ∀ s₀ H₀ C pn ex, PE (blk X scope cl N' s₀ H₀ C pn ex) elt te) (I1 : Inv X pins σ H1 s2) (T : Turn X.prog X.w X.K tg J fp it tn) (st : tn 0 s2.heap) (f1 : ∀ b ∈ fp, FpOk X pins H1 b)
    (q : ∀ D, H1 D = none → ∃ W : Nat → Nat → St → Hp → Prop, (∃ m, W 0 m (slots ix σ ++ List.replicate nl none) (upd H1 D (.lst []))) ∧ compW D J g tt te Q W)
    (fin : ∀ D C H' s', Left X pins σ C H' s' → Q (.ref D) H' → RR (.ref D) C (.ok .next) s') :
    wpAny (model X.prog X.w) X.A (newList []) (fun acc s₃ => wpAny (model X.prog X.w) X.A (newFunctionEnv scope X.env.globals cl [] X.env.qual none .none (some X.env)) (fun cenv s₄ =>
      codeAny (model X.prog X.w) X.A (.compStart (.ListComp elt [⟨tg, iter, ifs, 0⟩] scope pos) 0 (.ref it) acc { cenv with scope := relabel scope X.env }) (RR acc cenv.locals) s₄) E s₃) E s2 := by
  refine wpAny_newObj_type (wpAny_newFunctionEnv O.cell (by intro y hy; simp at hy) (fun h₁ hns₁ hsb₁ => ?_) O.kind)
  have hf : H1 s2.heap.objs.size = none := I1.hok.fresh (Nat.le_refl _)
  obtain ⟨W, ⟨m0, w0⟩, hW⟩ := q s2.heap.objs.size hf
  have lt : ∀ b ∈ fp, b < s2.heap.objs.size := fun b hb => by
    obtain ⟨o, e, _⟩ := T.obj _ _ st b hb
    exact Heap.lt_size e
  have I3 : Inv X pins σ (upd H1 s2.heap.objs.size (.lst [])) { s2 with heap := s2.heap.push { cls := .type "list", data := .seq ([] : List Value).toArray } } :=
    I1.laid (t' := s2.toks) (fun b u e => Heap.get?_push_of_some _ e) (Nat.le_refl _) ⟨Nat.zero_le _, [], 0, .nil, Heap.get?_push_size _ rfl⟩
  have f3 : ∀ b ∈ fp, FpOk X pins (upd H1 s2.heap.objs.size (.lst [])) b := fun b hb => ⟨by rw [upd_ne (Nat.ne_of_lt (lt b hb))]; exact (f1 b hb).1, (f1 b hb).2⟩
  have sz : (s2.heap.push { cls := .type "list", data := .seq ([] : List Value).toArray }).objs.size = s2.heap.objs.size + 1 := Heap.size_push ..
  have lt3 : ∀ b ∈ fp, b < (s2.heap.push { cls := .type "list", data := .seq ([] : List Value).toArray }).objs.size := fun b hb => by rw [sz]; exact Nat.lt_succ_of_lt (lt b hb)
  have k3 : ∀ b o, (s2.heap.push { cls := .type "list", data := .seq ([] : List Value).toArray }).get? b = some o → h₁.get? b = some o := fun b o e => hsb₁.extBut b o (Nat.ne_of_lt (Heap.lt_size e)) (Heap.get?_push_of_some _ e)
  have I4 := blk_inv (t' := s2.toks + ([] : List (Str × Value)).length) O I3 (Nat.le_refl _) f3 lt3 hns₁ k3
  have st4 : tn 0 h₁ := T.keep _ _ _ st fun b hb o e => k3 b o (Heap.get?_push_of_some _ e)
  have fB : ∀ H', (∀ b ∈ fp, H' b = none) → ∀ b ∈ fp, FpOk (blk X scope cl N' { s2 with heap := s2.heap.push { cls := .type "list", data := .seq ([] : List Value).toArray } } (upd H1 s2.heap.objs.size (.lst [])) (s2.heap.push { cls := .type "list", data := .seq ([] : List Value).toArray }).objs.size (X.pn ++ pins) fp) [] H' b := fun H' hn b hb => by
    refine ⟨hn b hb, Nat.ne_of_lt (lt3 b hb), ?_, .inl hb, fun x c h => (f1 b hb).2.2.2.2.1 x c (O.sub x c h), fun p hp => ?_⟩
    · intro z
      rcases List.mem_cons.mp (I3.stkSub b z) with e | e
      · exact (f1 b hb).2.1 e
      · exact (f1 b hb).2.2.1 e
    · have hp' : p ∈ X.pn ++ pins := by
        have z : p ∈ (X.pn ++ pins) ++ [] := hp
        rwa [List.append_nil] at z
      exact (f1 b hb).2.2.2.2.2 p hp'
  have loop := blk_loop (pos := pos) (iter := iter) (R := RR (.ref s2.heap.objs.size) (s2.heap.push { cls := .type "list", data := .seq ([] : List Value).toArray }).objs.size) hc T fB (hg _ _ _ _ _) (ht _ _ _ _ _) (he _ _ _ _ _) I4 st4 (fun b hb => (f3 b hb).1) w0 hW (fun τ' H' s' J' qf => by
    obtain ⟨m, hm, _⟩ := J'.loc
    refine fin _ _ H' s' ⟨blk_back I3 f3 J', ⟨m, hm⟩, I3.sz, Nat.ne_of_gt I3.lt, fun x c e z => ?_, fun p hp z => ?_, J'.free⟩ qf
    · obtain ⟨v, o, ho, _⟩ := I3.cell x c e
      exact absurd (Heap.lt_size ho) (by rw [z]; exact Nat.lt_irrefl _)
    · exact absurd (Heap.lt_size (I3.pin p hp).1) (by rw [z]; exact Nat.lt_irrefl _))
  exact codeAny_compStart_list loop (T.self _ 0 _ _ _ st4 loop)
theorem pe_comp (hc : X.calm = true) (O : CompOk X scope cl N' ix nl) (hi : PI X tg iter wi) (hg : ∀ s₀ H₀ C pn ex, PG (blk X scope cl N' s₀ H₀ C pn ex) tg g) (ht : ∀ s₀ H₀ C pn ex, PIfs (blk X scope cl N' s₀ H₀ C pn ex) ifs tt)
    (he : ∀ s₀ H₀ C pn ex, PE (blk X scope cl N' s₀ H₀ C pn ex) elt te) (hs : ∀ x, foldedSetIterable iter X.env x = pure x := by intro _; rfl) :
    PE X (.ListComp elt [⟨tg, iter, ifs, 0⟩] scope pos) (tComp ix nl wi g tt te) := by
  intro pins s σ H Q I h
  rw [eval_ListComp]
  refine wpAny_comprehension_free (use := none) rfl hs O.clos O.kind O.names (thn (hi pins s σ H _ I h) fun xv s1 h1 => thn h1 fun itv s2 h2 => ?_)
  obtain ⟨it, fp, tn, J, H1, rfl, I1, T, st, f1, q⟩ := h2
  refine comp_run (RR := fun acc C => compPost (model X.prog X.w) X.A X.xe none (EP X pins σ Q) acc C) hc O hg ht he I1 T st f1 q (fun D C H' s' L qf => ?_)
  obtain ⟨m, hm⟩ := L.ns
  exact ⟨m, hm, fun h' sb => ⟨.ref D, H', L.inv.letgo L.sz L.loc L.cel L.pin L.non sb, rfl, qf⟩⟩
end
end L2

set_option Elab.async false
set_option linter.all false
set_option maxRecDepth 100000
set_option maxHeartbeats 1000000
namespace L2
open PySem PySem.Spec PyProof.Rows
theorem all_range_eq (ns ms : List Int) : (((List.range (min ns.length ms.length)).all fun j => ns.getD j 0 == ms.getD j 0) && ns.length == ms.length) = decide (ns = ms) := by
  by_cases h : ns = ms
  · subst h
    simp
  · rw [decide_eq_false h]
    by_cases hl : ns.length = ms.length
    · have : ∃ j, j < ns.length ∧ ns.getD j 0 ≠ ms.getD j 0 := by
        apply Classical.byContradiction
        intro no
        apply h
        apply List.ext_getElem hl
        intro i h1 h2
        apply Classical.byContradiction
        intro ne
        apply no
        refine ⟨i, h1, ?_⟩
        simpa [List.getD, h1, h2] using ne
      obtain ⟨j, hj, ne⟩ := this
      have : ((List.range (min ns.length ms.length)).all fun j => ns.getD j 0 == ms.getD j 0) = false := by
        rw [List.all_eq_false]
        refine ⟨j, by simp; omega, by simpa using ne⟩
      rw [this]
      rfl
    · have : (ns.length == ms.length) = false := by simpa using hl
      rw [this, Bool.and_false]
def okV : V → Bool
  | .ref _ => true
  | x => flatV x
theorem eqV_self {x : V} (h : flatV x = true) : eqV x x = true := by
  cases x with
  | non => rfl
  | bl b => simp [eqV]
  | int i => simp [eqV]
  | str z => simp [eqV]
  | byt b => exact absurd (show false = true from h) Bool.false_ne_true
  | flt b => exact absurd (show false = true from h) Bool.false_ne_true
  | ref a => exact absurd (show false = true from h) Bool.false_ne_true
  | ty n => exact absurd (show false = true from h) Bool.false_ne_true
theorem eqAt_same {A : Around} {s : Shared} {x : V} {u v : Value} (ru : RelV x u) (rv : RelV x v) (h : okV x = true) : SeqAt.EqAt A s u v true := by
  cases x with
  | ref a =>
    obtain rfl : u = Value.ref a := ru
    obtain rfl : v = Value.ref a := rv
    exact SeqAt.EqAt.same _
  | non => have := eqAt_V (A := A) (s := s) ru rv rfl rfl; rwa [eqV_self rfl] at this
  | bl b => have := eqAt_V (A := A) (s := s) ru rv rfl rfl; rwa [eqV_self rfl] at this
  | int i => have := eqAt_V (A := A) (s := s) ru rv rfl rfl; rwa [eqV_self rfl] at this
  | str z => have := eqAt_V (A := A) (s := s) ru rv rfl rfl; rwa [eqV_self rfl] at this
  | byt b => exact absurd (show false = true from h) Bool.false_ne_true
  | flt b => exact absurd (show false = true from h) Bool.false_ne_true
  | ty n => exact absurd (show false = true from h) Bool.false_ne_true
def TwoSq (K : PySem.W.Frag) (H : Hp) (a b : Addr) (xs ys : List V) : Prop := (SqL K H a xs ∧ SqL K H b ys) ∨ (SqT K H a xs ∧ SqT K H b ys)
def rEqS (K : PySem.W.Frag) (neg : Bool) : R2 := fun x y H Q => ∃ a b, x = .ref a ∧ y = .ref b ∧
  ((∃ xs, TwoSq K H a b xs xs ∧ xs.all okV = true ∧ Q (.bl (!neg)) H) ∨ (∃ ns ms : List Int, TwoSq K H a b (ns.map V.int) (ms.map V.int) ∧ Q (.bl (if neg then !decide (ns = ms) else decide (ns = ms))) H))
theorem vals_at {xs : List V} {its : List Value} (r : Vals xs its) {j : Nat} (h : j < its.length) : ∃ x, xs[j]? = some x ∧ RelV x its[j] := by
  have hl := r.length
  have hj : j < xs.length := by omega
  obtain ⟨u, e, rv⟩ := r.get (i := j) (x := xs[j]) (by simp [hj])
  have e2 : its[j]? = some its[j] := by simp [h]
  rw [e2] at e
  cases e
  exact ⟨xs[j], by simp [hj], rv⟩
theorem eqAt_all {A : Around} {s : Shared} {xs : List V} {i1 i2 : List Value} (r1 : Vals xs i1) (r2 : Vals xs i2) (h : xs.all okV = true) : ∀ j (h1 : j < i1.toArray.size) (h2 : j < i2.toArray.size), SeqAt.EqAt A s i1.toArray[j] i2.toArray[j] true := by
  intro j h1 h2
  rw [List.size_toArray] at h1 h2
  obtain ⟨x, e1, v1⟩ := vals_at r1 h1
  obtain ⟨y, e2, v2⟩ := vals_at r2 h2
  rw [e1] at e2
  cases e2
  have ok := List.all_eq_true.mp h x (List.mem_of_getElem? e1)
  simpa using eqAt_same (A := A) (s := s) v1 v2 ok
theorem eqAt_ints {A : Around} {s : Shared} {ns ms : List Int} {i1 i2 : List Value} (r1 : Vals (ns.map V.int) i1) (r2 : Vals (ms.map V.int) i2) : ∀ j (h1 : j < i1.toArray.size) (h2 : j < i2.toArray.size), SeqAt.EqAt A s i1.toArray[j] i2.toArray[j] (ns.getD j 0 == ms.getD j 0) := by
  intro j h1 h2
  rw [List.size_toArray] at h1 h2
  obtain ⟨x, e1, v1⟩ := vals_at r1 h1
  obtain ⟨y, e2, v2⟩ := vals_at r2 h2
  have l1 : j < ns.length := by have := r1.length; rw [List.length_map] at this; omega
  have l2 : j < ms.length := by have := r2.length; rw [List.length_map] at this; omega
  rw [List.getElem?_map, List.getElem?_eq_getElem l1] at e1
  rw [List.getElem?_map, List.getElem?_eq_getElem l2] at e2
  cases e1
  cases e2
  have := eqAt_V (A := A) (s := s) v1 v2 rfl rfl
  simpa [List.getD, l1, l2, eqV] using this
section
variable {X : Cx}
theorem op_neS (hu : X.A.units < cLine) : OpR X (compareOp .NotEq) (rEqS X.K true) := by
  intro pins s σ H x y v u Q I rx ry h
  obtain ⟨a, b, rfl, rfl, h⟩ := h
  obtain rfl : v = Value.ref a := rx
  obtain rfl : u = Value.ref b := ry
  rcases h with ⟨xs, tw, ok, q⟩ | ⟨ns, ms, tw, q⟩
  · have fin : EP X pins σ Q (.bool false) s := ⟨.bl false, H, I, rfl, q⟩
    rcases tw with ⟨h1, h2⟩ | ⟨h1, h2⟩
    · obtain ⟨i1, r1, p1, _⟩ := I.list h1
      obtain ⟨i2, r2, p2, _⟩ := I.list h2
      have e : (!(List.range i1.toArray.size).all fun _ => true) = false := by simp
      exact SeqAt.RcNeAt.lists (e := fun _ => true) p1.isList p2.isList (by rw [List.size_toArray, List.size_toArray, ← r1.length, ← r2.length]) hu (eqAt_all r1 r2 ok) _ _ _ _ (by rw [e]; exact fin)
    · obtain ⟨i1, r1, p1, _⟩ := I.tuple h1
      obtain ⟨i2, r2, p2, _⟩ := I.tuple h2
      have e : (!(((List.range (min i1.toArray.size i2.toArray.size)).all fun _ => true) && i1.toArray.size == i2.toArray.size)) = false := by
        rw [List.size_toArray, List.size_toArray, ← r1.length, ← r2.length]
        simp
      exact SeqAt.RcNeAt.tuples (e := fun _ => true) p1 p2 hu (eqAt_all r1 r2 ok) _ _ _ _ (by rw [e]; exact fin)
  · have fin : EP X pins σ Q (.bool (!decide (ns = ms))) s := ⟨.bl _, H, I, rfl, q⟩
    rcases tw with ⟨h1, h2⟩ | ⟨h1, h2⟩
    · obtain ⟨i1, r1, p1, _⟩ := I.list h1
      obtain ⟨i2, r2, p2, _⟩ := I.list h2
      have n1 : i1.toArray.size = ns.length := by rw [List.size_toArray, ← r1.length, List.length_map]
      have n2 : i2.toArray.size = ms.length := by rw [List.size_toArray, ← r2.length, List.length_map]
      have key := all_range_eq ns ms
      by_cases hl : ns.length = ms.length
      · refine SeqAt.RcNeAt.lists (e := fun j => ns.getD j 0 == ms.getD j 0) p1.isList p2.isList (by rw [n1, n2, hl]) hu (eqAt_ints r1 r2) _ _ _ _ ?_
        rw [n1]
        rw [hl, Nat.min_self, beq_self_eq_true, Bool.and_true] at key
        rw [hl, key]
        exact fin
      · refine SeqAt.RcNeAt.lists_lengths p1.isList p2.isList (by rw [n1, n2]; simpa using hl) hu _ _ _ _ ?_
        rw [decide_eq_false (fun e => hl (by rw [e]))] at fin
        exact fin
    · obtain ⟨i1, r1, p1, _⟩ := I.tuple h1
      obtain ⟨i2, r2, p2, _⟩ := I.tuple h2
      have n1 : i1.toArray.size = ns.length := by rw [List.size_toArray, ← r1.length, List.length_map]
      have n2 : i2.toArray.size = ms.length := by rw [List.size_toArray, ← r2.length, List.length_map]
      refine SeqAt.RcNeAt.tuples (e := fun j => ns.getD j 0 == ms.getD j 0) p1 p2 hu (eqAt_ints r1 r2) _ _ _ _ ?_
      rw [n1, n2, all_range_eq]
      exact fin
end
end L2

set_option Elab.async false
set_option linter.all false
set_option maxRecDepth 100000
set_option maxHeartbeats 1000000
namespace L2
open PySem PySem.Spec PyProof.Rows
def tComp1 (D : Addr) (g : TG) (tt : TT) (te : TE) (x : V) (τ : St) (H : Hp) (R : St → Hp → Prop) : Prop := g x τ H fun τ' H' => tt τ' H' fun b H4 =>
  if b = true then te τ' H4 fun v H5 => ∃ ys, H5 D = some (.lst ys) ∧ ys.length < sizeLine ∧ R τ' (upd H5 D (.lst (ys ++ [v]))) else R τ' H4
def CompS (D : Addr) (J : It) (g : TG) (tt : TT) (te : TE) (Q : VK) (τ : St) (H : Hp) : Prop := ∃ W : Nat → Nat → St → Hp → Prop, (∃ m, W 0 m τ H) ∧ compW D J g tt te Q W
theorem tComp_eq {ix : List Nat} {nl : Nat} {wi : TI} {g : TG} {tt : TT} {te : TE} {σ : St} {H : Hp} {Q : VK} :
    tComp ix nl wi g tt te σ H Q = wi σ H fun J H1 => ∀ D, H1 D = none → CompS D J g tt te Q (slots ix σ ++ List.replicate nl none) (upd H1 D (.lst [])) := rfl
section
variable {K : PySem.W.Frag} {D a : Addr} {g : TG} {tt : TT} {te : TE} {Q : VK} {τ : St} {H : Hp}
theorem compS_range {lo : Int} {n : Nat} (Pv : Nat → St → Hp → Prop) (h0 : Pv 0 τ H)
    (hs : ∀ i τ H (R : St → Hp → Prop), i < n → Pv i τ H → (∀ τ' H', Pv (i + 1) τ' H' → R τ' H') → tComp1 D g tt te (.int (lo + i)) τ H R) (hd : ∀ τ H, Pv n τ H → Q (.ref D) H) : CompS D (Itr lo n) g tt te Q τ H := by
  refine ⟨fun i m τ H => m = n - i ∧ i ≤ n ∧ Pv i τ H, ⟨n, by simp, Nat.zero_le _, h0⟩, ?_⟩
  rintro i m τ H2 ⟨rfl, hi, p⟩
  by_cases hlt : i < n
  · refine .inr ⟨hlt, fun x H' y => ?_⟩
    obtain ⟨e, y⟩ := y
    subst e y
    exact hs i τ _ (fun τ' H' => ∃ m', m' < n - i ∧ m' = n - (i + 1) ∧ i + 1 ≤ n ∧ Pv (i + 1) τ' H') hlt p fun τ' H' p' => ⟨_, by omega, rfl, hlt, p'⟩
  · have e : i = n := by omega
    subst e
    exact .inl ⟨Nat.le_refl _, hd τ H2 p⟩
theorem compS_list (xs : List V) (Pv : Nat → St → Hp → Prop) (h0 : Pv 0 τ H) (hl : ∀ i τ H, i ≤ xs.length → Pv i τ H → SqL K H a xs)
    (hs : ∀ i x τ H (R : St → Hp → Prop), xs[i]? = some x → Pv i τ H → (∀ τ' H', Pv (i + 1) τ' H' → R τ' H') → tComp1 D g tt te x τ H R) (hd : ∀ τ H, Pv xs.length τ H → Q (.ref D) H) : CompS D (Itl K a) g tt te Q τ H := by
  refine ⟨fun i m τ H => m = xs.length - i ∧ i ≤ xs.length ∧ Pv i τ H, ⟨xs.length, by simp, Nat.zero_le _, h0⟩, ?_⟩
  rintro i m τ H2 ⟨rfl, hi, p⟩
  have q := hl i τ H2 hi p
  by_cases hlt : i < xs.length
  · have hx : xs[i]? = some xs[i] := by simp [hlt]
    refine .inr ⟨⟨xs, _, q, hx⟩, fun x H' y => ?_⟩
    obtain ⟨e, y⟩ := y
    subst e
    have e2 := y xs q
    rw [hx] at e2
    cases e2
    exact hs i _ τ _ (fun τ' H' => ∃ m', m' < xs.length - i ∧ m' = xs.length - (i + 1) ∧ i + 1 ≤ xs.length ∧ Pv (i + 1) τ' H') hx p fun τ' H' p' => ⟨_, by omega, rfl, hlt, p'⟩
  · have e : i = xs.length := by omega
    subst e
    exact .inl ⟨⟨xs, q, Nat.le_refl _⟩, hd τ H2 p⟩
theorem SqT.lst {H : Hp} {p b : Addr} {xs ys zs : List V} (h : SqT K H b xs) (hp : H p = some (.lst ys)) : SqT K (upd H p (.lst zs)) b xs := by
  rcases h with (h | ⟨o, h⟩) | h
  · exact .inl (.inl (by rw [upd_ne (ne_of h hp (by intro z; cases z))]; exact h))
  · exact .inl (.inr ⟨o, by rw [upd_ne (ne_of h hp (by intro z; cases z))]; exact h⟩)
  · exact .inr h
end
theorem rEqS_ints {K : PySem.W.Frag} {neg : Bool} {a b : Addr} {ns ms : List Int} {H : Hp} {Q : VK} (t : TwoSq K H a b (ns.map V.int) (ms.map V.int)) (q : Q (.bl (if neg then !decide (ns = ms) else decide (ns = ms))) H) : rEqS K neg (.ref a) (.ref b) H Q :=
  ⟨a, b, rfl, rfl, .inr ⟨ns, ms, t, q⟩⟩
section
variable {X : Cx} {K : PySem.W.Frag}
theorem ix_listK (h : X.K = K) : IxR X (rIxL K) := by subst h; exact ix_list
theorem ix_tupK (h : X.K = K) : IxR X (rIxT K) := by subst h; exact ix_tup
theorem op_neSK (h : X.K = K) (hu : X.A.units < cLine) : OpR X (compareOp .NotEq) (rEqS K true) := by subst h; exact op_neS hu
end
end L2

set_option Elab.async false
set_option linter.all false
set_option maxRecDepth 100000
set_option maxHeartbeats 1000000
namespace L2
open PySem PySem.Spec PyProof.Rows
section
variable {prog : Program} {w : World} {A : Around} {E : Value → Shared → Prop} {s : Shared}
end
section
variable {prog : Program} {w : World} {A : Around} {E : Value → Shared → Prop} {s : Shared}
end
def Ite (sq : Hp → List V → Prop) : It := ⟨fun i H => ∃ xs x, sq H xs ∧ xs[i]? = some x, fun i H x H' => ∃ T v, H T = none ∧ x = .ref T ∧ H' = upd H T (.tup [.int i, v]) ∧ ∀ xs, sq H xs → xs[i]? = some v, fun i H => ∃ xs, sq H xs ∧ xs.length ≤ i⟩
section
variable {X : Cx} {elts : List Expr} {kk : Nat} {tpos : Pos}
def iEnumL (K : PySem.W.Frag) (ta : TA) : TI := fun σ H R => ta σ H fun vs H1 => ∃ a, vs = [.ref a] ∧ (∃ xs, SqL K H1 a xs) ∧ R (Ite fun H xs => SqL K H a xs) H1
def iEnumT (K : PySem.W.Frag) (ta : TA) : TI := fun σ H R => ta σ H fun vs H1 => ∃ a, vs = [.ref a] ∧ (∃ xs, SqT K H1 a xs) ∧ R (Ite fun H xs => SqT K H a xs) H1
end
end L2

set_option Elab.async false
set_option linter.all false
set_option maxRecDepth 100000
set_option maxHeartbeats 1000000
namespace HT
open PySem PySem.Spec PyProof.Rows
section
variable {prog : Program} {w : World} {A : Around} {E : Value → Shared → Prop} {s : Shared}
theorem getItem_tuple_all {t sl : Addr} {items : Array Value} {vl vu : Value} {lo hi : Option Int} {Q : Value → Shared → Prop} (ht : IsTup s.heap t items) (hs : s.heap.IsSliceOf sl vl vu .none) (pl : IsPart vl lo) (pu : IsPart vu hi)
    (hw : sIx items.size 0 lo = 0 ∧ sIx items.size items.size hi = items.size) (h : Q (.ref t) s) : wpAny (model prog w) A (getItem (.ref t) (.ref sl)) Q E s := by
  obtain ⟨os, hos, hcs, hds⟩ := id hs
  have hTs : s.TypeIs (.ref sl) "slice" := ⟨os, hos, hcs⟩
  unfold getItem
  try with_reducible refine wpAny_holding ?_
  first | refine wpAny_bind (wpAny_pure ?_) | skip
  refine wpAny_bind (wpAny_sequenceKey ht.typeIs (by decide) ?_)
  refine wpAny_bind (wpAny_callSpecial?_slot (name := Str.ofString "__getitem__") ht.typeIs PyProof.Rows.slot_tuple_getitem
    (wpAny_call_entry PyProof.Rows.slot_tuple_getitem ht.typeIs entry_tuple_getitem ?_ (args_tuple_getitem _ _)))
  show wpAny _ _ (Builtin.Tuple.tupleItemsOf (.ref t) >>= _) _ _ s
  refine wpAny_bind (tupleItemsOf_ ht ?_)
  refine wpAny_bind (wpAny_typeOf hTs ?_)
  rw [if_pos (by decide)]
  refine wpAny_bind (sliceApplied_gen hs pl pu ?_)
  have hno : ((((sIx items.size 0 lo : Nat) : Int) == 0 && (1 : Int) == 1 && (sIx items.size items.size hi - sIx items.size 0 lo) == items.size) = true) := by
    rw [hw.1, hw.2]
    simp
  show wpAny _ _ (if (((sIx items.size 0 lo : Nat) : Int) == 0 && (1 : Int) == 1 && (sIx items.size items.size hi - sIx items.size 0 lo) == items.size) = true then _ else _) _ _ s
  rw [if_pos hno]
  show wpAny _ _ (Builtin.Tuple.tupleIsExact (.ref t) >>= _) _ _ s
  refine wpAny_bind (m := Builtin.Tuple.tupleIsExact _) (show wpAny _ _ (typeOf (.ref t) >>= _) _ _ s from wpAny_bind (wpAny_typeOf ht.typeIs (wpAny_pure ?_)))
  rw [if_pos (by decide)]
  exact wpAny_bind (wpAny_rule (wpAny_pure ⟨_, rfl, wpAny_pure h⟩))
end
end HT
namespace L2
open PySem PySem.Spec PyProof.Rows
section
variable {X : Cx}
def rSlTA (K : PySem.W.Frag) : V → Option Int → Option Int → Hp → VK → Prop := fun x lo hi H Q => ∃ a xs, x = .ref a ∧ SqT K H a xs ∧ (cutV xs lo hi = xs → Q (.ref a) H) ∧ ∀ p, H p = none → Q (.ref p) (upd H p (.tup (cutV xs lo hi)))
theorem sl_tupA : SlR X (rSlTA X.K) := by
  intro pins s σ H x v vl vu lo hi sl Q I rx hs pl pu h
  obtain ⟨a, xs, rfl, hx, q1, q2⟩ := h
  by_cases hw : HT.sIx xs.length 0 lo = 0 ∧ HT.sIx xs.length xs.length hi = xs.length
  · cases rx
    obtain ⟨its, r, ht, hz⟩ := I.tuple hx
    have hlen : its.toArray.size = xs.length := by rw [List.size_toArray]; exact r.length.symm
    refine ⟨"tuple", _, PyProof.Rows.slot_tuple_getitem.lookup, ht.typeIs, ?_⟩
    refine HT.getItem_tuple_all ht hs pl pu (by rw [hlen]; exact hw) ⟨.ref a, H, I, rfl, q1 ?_⟩
    unfold cutV
    rw [hw.1, hw.2, List.drop_zero, Nat.sub_zero, List.take_of_length_le (Nat.le_refl _)]
  · exact sl_tup pins s σ H _ v vl vu lo hi sl Q I rx hs pl pu ⟨a, xs, rfl, hx, hw, q2⟩
end
theorem cut_to {xs : List V} {n : Nat} : cutV xs none (some (n : Int)) = xs.take n := by
  unfold cutV
  rw [HT.sIx_nat, HT.sIx_none, List.drop_zero, Nat.sub_zero]
  by_cases h : n ≤ xs.length
  · rw [Nat.min_eq_left h]
  · rw [Nat.min_eq_right (by omega), List.take_of_length_le (Nat.le_refl _), List.take_of_length_le (by omega)]
end L2

set_option Elab.async false
set_option linter.all false
set_option maxRecDepth 100000
set_option maxHeartbeats 1000000
namespace L2
open PySem PySem.Spec PyProof.Rows
open PySem.Builtin PySem.Builtin.ObjectAttr PySem.Builtin.Getset_descriptor
open PySem.W (Frag Looks looks_findIn looks_specialIn looks_takesIn looks_mroIn looks_subIn looks_typeIn)

def ExcAt (x D : Addr) (h : Heap) : Prop := ∃ o vs, h.get? x = some o ∧ o.cls = .ref D ∧ o.data = .fields vs
structure XCls (K : Frag) (D : Addr) : Prop where
  ga : PySem.W.findIn K (.ref D) "__getattribute__" = some (some (.builtin "BaseException.__getattribute__"))
  gt : PySem.W.findIn K (.ref D) "__getattr__" = some none
  ca : PySem.W.findIn K (.ref D) "__class__" = some (some (.builtin "object.__class__"))
  cn : PySem.W.specialIn K (.builtin "object.__class__") "__get__" = some (some (.builtin "getset_descriptor.__get__"))
  tk : PySem.W.takesIn K (.builtin "object.__class__") = some true
  mo : PySem.W.mroIn K D (.type "object") = some true
  mb : PySem.W.mroIn K D (.type "BaseException") = some true
  is : (PySem.W.clsIn K D).isSome = true
section
variable {prog : Program} {w : World} {A : Around} {E : Value → Shared → Prop} {s : Shared} {K : Frag} {x D : Addr}
theorem ExcAt.type {M : Model} {h : Heap} (I : ExcAt x D h) : Looks M h (typeOf (.ref x)) (.ref D) := by
  obtain ⟨o, vs, e, c, _⟩ := I
  exact c ▸ (Looks.ld e).andThen .now
theorem xcls_get {R : Result → Shared → Prop} {tp : Value} (X : K.In s.heap) (I : ExcAt x D s.heap) (hm : PySem.W.mroIn K D (.type "object") = some true)
    (h : R (.ok (.ret (.ref D))) s) : codeAny (model prog w) A (.call (.builtin "getset_descriptor.__get__") ⟨[.builtin "object.__class__", .ref x, tp], []⟩) R s := by
  obtain ⟨hh, g, dr, t, os⟩ := s
  have L0 := I.type (M := model prog w)
  have L1 := looks_mroIn (M := model prog w) X hm
  refine codeAny_call_builtin PySem.W.KF.slot_gs.plain PySem.W.KF.entry_gs (PySem.W.KF.slot_gs.check _ _ _ _ _ _ _ _ PySem.W.KF.type_class (PySem.W.KF.args_gs _ _ _) ?_)
  unfold Builtin.«getset_descriptor.__get__» descrGet
  rw [PySem.W.dga_obj]
  refine wpAny_bind (wpAny_pure ?_)
  unfold descrGetter descrCheckInstance descrNameAndClass isInstance
  simp only [PySem.W.KF.owner_class]
  repeat lk
  refine ⟨Code.quiet_builtin _ (by decide +kernel), codeAny_builtin PySem.W.KF.entry_class ?_⟩
  unfold Builtin.«object.__class__» shownTypeOf
  repeat lk
  exact h
theorem xcls_find {M : Model} {h : Heap} (X : K.In h) (c : XCls K D) : Looks M h (find (.ref x) (.ref D) "__class__") (.bind (.builtin "getset_descriptor.__get__") (.builtin "object.__class__")) := by
  have L1 := looks_findIn (M := M) X c.ca
  have L2 : Looks M h (getOf (some (.builtin "object.__class__"))) (some (.builtin "getset_descriptor.__get__")) := looks_specialIn X c.cn
  have L3 := looks_takesIn (M := M) X c.tk
  have L4 : Looks M h (dataDescriptor? (some (.builtin "object.__class__")) (some (.builtin "getset_descriptor.__get__"))) (some (.builtin "getset_descriptor.__get__", .builtin "object.__class__")) := L3.andThen .now
  unfold find
  exact L1.andThen (L2.andThen (L4.andThen (Looks.tag .now)))
theorem xcls_entry {tk : Tok} {Q : Fin → Shared → Prop} (X : K.In s.heap) (c : XCls K D) (I : ExcAt x D s.heap) (hq : Q (.done (.ret (.ref D))) s) :
    wpAny (model prog w) A (Builtin.«object.__getattribute__» ⟨[.ref x, .str "__class__" tk], []⟩) Q E s := by
  obtain ⟨hh, g, dr, t, os⟩ := s
  have L0 := I.type (M := model prog w)
  have L1 := xcls_find (M := model prog w) (x := x) X c
  unfold Builtin.«object.__getattribute__»
  refine wpAny_bind (wpAny_pure (wpAny_bind (wpAny_pure (wpAny_bind (L0.at (wpAny_bind (L1.at ?_)))))))
  show wpAny _ _ (holding [.builtin "object.__class__"] (call (.builtin "getset_descriptor.__get__") [.builtin "object.__class__", .ref x, .ref D]) >>= ret) _ _ _
  exact wpAny_bind (wpAny_holding (wpAny_call (xcls_get X I c.mo (wpAny_pure hq))))
theorem xcls_check {M : Model} {nameV : Value} {Q : Unit → Shared → Prop} (X : K.In s.heap) (c : XCls K D) (I : ExcAt x D s.heap) (hq : Q () s) : wpAny M A (checkBuiltinCall "BaseException.__getattribute__" ⟨[.ref x, nameV], []⟩) Q E s := by
  obtain ⟨hh, g, dr, t, os⟩ := s
  have hk : builtinKind "BaseException.__getattribute__" = some .slot := by decide +kernel
  have hsplit : splitId "BaseException.__getattribute__" = some ("BaseException", "__getattribute__") := by decide +kernel
  have ha := F.args_bexc_ga (.ref x) nameV
  have L0 := I.type (M := M)
  have L1 := looks_mroIn (M := M) X c.mb
  have L2 : Looks M hh (isInstance (.ref x) (.type "BaseException")) true := L0.andThen L1
  simp only [checkBuiltinCall, hk, hsplit]
  refine wpAny_bind (L2.at ?_)
  repeat (first | wp_step)
  exact hq
theorem xcls_attr {Q : Option Value → Shared → Prop} (X : K.In s.heap) (c : XCls K D) (I : ExcAt x D s.heap) (hq : Q (some (.ref D)) { s with toks := s.toks + 1 }) : wpAny (model prog w) A (getAttr? (.ref x) "__class__") Q E s := by
  obtain ⟨hh, g, dr, t, os⟩ := s
  have L0 := I.type (M := model prog w)
  have L1 := looks_findIn (M := model prog w) X c.ga
  have L2 := looks_findIn (M := model prog w) X c.gt
  have hb := F.excAttr_ValueError.ga.bind (.ref x)
  unfold getAttr? getAttrBy? getAttrBy
  refine wpAny_bind (wpAny_mkText (wpAny_bind (wpAny_attempt (wpAny_holding (wpAny_bind (L0.at (wpAny_bind (L1.at ?_))))))))
  show wpAny _ _ (getAttrByItsOwn _ _ _ _ _ _) _ _ _
  unfold getAttrByItsOwn
  refine wpAny_bind (show wpAny _ _ (typeLookup (.ref D) "__getattr__") _ _ _ from L2.at ?_)
  refine wpAny_bind (wpAny_attempt (wpAny_holding ?_))
  show wpAny _ _ (boundAndCalled _ _ _) _ _ _
  unfold boundAndCalled
  rw [hb]
  refine wpAny_bind (wpAny_pure (wpAny_call ?_))
  refine codeAny_call_builtin F.excAttr_ValueError.ga.plain F.entry_bexc_ga (xcls_check X c I (xcls_entry X c I ?_))
  show wpAny _ _ (handedOut (.ref D)) _ _ _
  exact PySem.W.handed_on rfl (wpAny_pure hq)
theorem kitx_exc (c : XCls K D) : PySem.W.KitX K (.ref x) (.ref D) (ExcAt x D) where
  ty := fun _ _ _ I => I.type
  it := fun _ _ X _ => by
    obtain ⟨cdD, hcD⟩ := Option.isSome_iff_exists.mp c.is
    unfold PySem.W.clsIn at hcD
    split at hcD
    · rename_i c' d' cd' sl' ho
      intro A' Q' E' s' k q
      unfold isType loadHead
      exact wpAny_bind (wpAny_loadPart (k _ _ (X _ _ ho)) (wpAny_pure q))
    · cases hcD
  ne := fun h tp dd its n sl X htp => by
    obtain ⟨cdD, hcD⟩ := Option.isSome_iff_exists.mp c.is
    refine Bool.eq_false_iff.mpr fun q => ?_
    have e : D = tp := Value.ref.inj (beq_iff_eq.mp q)
    subst e
    unfold PySem.W.clsIn at hcD
    split at hcD
    · rename_i c' d' cd' sl' ho
      have z := (X _ _ ho).symm.trans htp
      cases z
    · cases hcD
  ca := fun X I k => xcls_attr X c I k
theorem xcls_matches {M : Model} {C : Addr} {b : Bool} {Q : Bool → Shared → Prop} (X : K.In s.heap) (I : ExcAt x D s.heap) (hc : PySem.W.clsIn K C ≠ none) (ht : PySem.W.typeIn K (.ref C) = some (.type "type")) (hb : PySem.W.mroIn K C (.type "BaseException") = some true)
    (hs : PySem.W.subIn K (.ref D) (.ref C) = some b) (hq : Q b s) : wpAny M A (excMatches (.ref x) (.ref C)) Q E s := by
  obtain ⟨hh, g, dr, t, os⟩ := s
  have L0 := I.type (M := M)
  have L1 := looks_typeIn (M := M) X ht
  have L2 : Looks M hh (isSubtype (.type "type") (.type "tuple")) false := Looks.of_pure (by rw [isSubtype_type]; kernel_rfl)
  have L3 : Looks M hh (isInstance (.ref C) (.type "tuple")) false := L1.andThen L2
  have L4 := looks_mroIn (M := M) X hb
  have L5 := looks_subIn (M := M) X hs
  have L6 : Looks M hh (isType (.ref C)) true := by
    obtain ⟨cdD, hcD⟩ := Option.ne_none_iff_exists'.mp hc
    unfold PySem.W.clsIn at hcD
    split at hcD
    · rename_i c' d' cd' sl' ho
      intro A' Q' E' s' k q
      unfold isType loadHead
      exact wpAny_bind (wpAny_loadPart (k _ _ (X _ _ ho)) (wpAny_pure q))
    · cases hcD
  have L7 : Looks M hh (isExcClass (.ref C)) true := L6.andThen L4
  unfold excMatches
  refine wpAny_bind (L3.at ?_)
  rw [if_neg Bool.false_ne_true]
  refine wpAny_bind (wpAny_pure ?_)
  simp only [List.forIn_cons, List.forIn_nil]
  refine wpAny_bind (wpAny_bind (wpAny_bind (L7.at ?_)))
  rw [if_neg (by decide)]
  refine wpAny_pure (wpAny_pure (wpAny_bind (L0.at (wpAny_bind (wpAny_bind (wpAny_bind (L5.at ?_)))))))
  cases b with
  | true => exact wpAny_pure (wpAny_pure (wpAny_pure hq))
  | false => exact wpAny_pure (wpAny_pure (wpAny_pure hq))
end
end L2

set_option Elab.async false
set_option linter.all false
set_option maxRecDepth 100000
set_option maxHeartbeats 1000000
namespace L2
open PySem PySem.Spec PyProof.Rows
theorem ObjOk.here {P : Program} {w : World} {H : Hp} {h : Heap} {a : Addr} {o : HO} (x : ObjOk P w H h a o) : ∃ ob, h.get? a = some ob := by
  cases o with
  | lst xs => obtain ⟨_, _, _, _, e⟩ := x; exact ⟨_, e⟩
  | tup xs => obtain ⟨_, _, _, _, ob, e, _⟩ := x; exact ⟨_, e⟩
  | dK kvs => obtain ⟨_, _, _, _, o, _, _, e, _⟩ := x; exact ⟨_, e⟩
  | dT kvs => obtain ⟨_, _, _, _, o, _, _, e, _⟩ := x; exact ⟨_, e⟩
  | set S n => obtain ⟨o, _, _, _, e, _⟩ := x; exact ⟨_, e⟩
  | ins C dx fs => obtain ⟨_, _, _, e, _⟩ := x; exact ⟨_, e⟩
  | own y => exact x
  | xd fs => obtain ⟨_, ⟨_, _, _, e, _⟩, _⟩ := x; exact ⟨_, e⟩
  | rng lo hi => obtain ⟨_, _, _, e⟩ := x; exact ⟨_, e⟩
  | frz ob u => obtain ⟨e, _⟩ := x; exact ⟨_, e⟩
  | tbl ps => exact ⟨_, (show h.get? a = some _ from x)⟩
  | met f y => exact ⟨_, (show h.get? a = some _ from x)⟩
  | ext φ => obtain ⟨_, e, _⟩ := x; exact e
structure Fly (P : Program) (w : World) (outer : List Env) (H : Hp) (s : Shared) (B : Heap) (H' : Hp) (a C : Addr) (a0 : Value) (s' : Shared) : Prop where
  os : s'.os = s.os
  bare : AllBare s'.gens
  un : Un (frs outer) [] H H' s.heap s'.heap
  hok : HOk P w H' s'.heap
  fly : Heap.FlyingW B outer a (.ref C) a0 s'.heap
  old : ∀ b o, s'.heap.get? b = some o → (∃ o', s.heap.get? b = some o') → b ∉ frs outer → B.get? b = some o
  trk : ∀ b u o, H' b = some u → s'.heap.get? b = some o → B.get? b = some o
  new : H' a = none
  fresh : s.heap.get? a = none
def CXE (P : Program) (w : World) : CXT := fun outer H s E e s' => ∃ a C H' B a0, e = .ref a ∧ Fly P w outer H s B H' a C a0 s' ∧ E (.ref C) none H'
section
variable {P : Program} {w : World} {outer : List Env} {H H' : Hp} {s s' : Shared} {B : Heap} {a C : Addr} {a0 : Value} {h6 : Heap}
theorem Fly.excAt (F : Fly P w outer H s B H' a C a0 s') : ExcAt a C s'.heap := by
  obtain ⟨_, _, _, oe, vs, _, _, _, he, hc, hd, _⟩ := F.fly
  exact ⟨oe, vs, he, hc.1, hd⟩
theorem Fly.on (F : Fly P w outer H s B H' a C a0 s') (fl : Heap.FlyingW B outer a (.ref C) a0 h6) (up : s'.heap.UpToSlots h6) : Fly P w outer H s B H' a C a0 { s' with heap := h6 } := by
  have st := fl.1
  have fr : ∀ b ∈ frs outer, ∀ o, s'.heap.get? b = some o → ∃ sl, h6.get? b = some { o with slots := sl } := fun b hb o e => by
    obtain ⟨_, o', e', hd⟩ := F.fly.2.2.1.mem hb
    rw [e] at e'
    cases e'
    exact up b o e hd
  have inB : ∀ b o, s'.heap.get? b = some o → (∃ o', s.heap.get? b = some o') → b ∉ frs outer → h6.get? b = some o := fun b o e x hb => st b o (F.old b o e x hb)
  refine ⟨F.os, F.bare, ⟨fun b o e n hb hx => ?_, fun b o e n hb hx => ?_, F.un.free, fun b o e hx => ?_, F.un.tups, F.un.frzs, F.un.tbls⟩, fun b u e => ?_, fl, fun b o e x hb => ?_, fun b u o e q => ?_, F.new, F.fresh⟩
  · exact inB b o (F.un.keep b o e n hb hx) ⟨o, e⟩ hb
  · obtain ⟨sl, e1⟩ := F.un.slot b o e n hb hx
    obtain ⟨sl', e2⟩ := fr b hb _ e1
    exact ⟨sl', e2⟩
  · obtain ⟨o', e1⟩ := F.un.there b o e hx
    by_cases hb : b ∈ frs outer
    · obtain ⟨sl, e2⟩ := fr b hb _ e1
      exact ⟨_, e2⟩
    · exact ⟨o', inB b o' e1 ⟨o, e⟩ hb⟩
  · refine (F.hok b u e).stay (fun c v hc q => ?_) (fun _ q => q) fun _ _ q => q
    have tc : ∃ u', H' c = some u' := by
      rcases hc with rfl | hc
      · exact ⟨u, e⟩
      · exact ⟨_, hc⟩
    obtain ⟨u', eu⟩ := tc
    exact st c v (F.trk c u' v eu q)
  · obtain ⟨o', ho'⟩ := x
    obtain ⟨o1, e1⟩ := F.un.there b o' ho' (by simp)
    have z := F.old b o1 e1 ⟨o', ho'⟩ hb
    have z2 : h6.get? b = some o1 := st b o1 z
    rw [show h6.get? b = some o from e] at z2
    cases z2
    exact z
  · obtain ⟨o1, e1⟩ := (F.hok b u e).here
    have z := F.trk b u o1 e e1
    have z2 : h6.get? b = some o1 := st b o1 z
    rw [show h6.get? b = some o from q] at z2
    cases z2
    exact z
end
theorem frs_cons {env : Env} {outer : List Env} {L : Addr} (h : env.frame = some L) : frs (env :: outer) = L :: frs outer := by
  unfold frs
  rw [List.filterMap_cons, h]
section
variable {X : Cx} {pins : List (Addr × Obj)} {σ : St} {H H' : Hp} {s s' : Shared} {B : Heap} {a C : Addr} {a0 : Value}
theorem Inv.caught (I : Inv X pins σ H s) (F : Fly X.prog X.w X.stack H s B H' a C a0 s') : Inv X pins σ H' s' := by
  obtain ⟨hh, g, d, t, os'⟩ := s'
  obtain rfl : os' = s.os := F.os
  exact I.call (h' := hh) (g' := g) (d' := d) (t' := t) (ch := []) F.un F.hok F.bare (fun b z => absurd z (by simp))
theorem Inv.flies (I : Inv X pins σ H s) (hx : X.ex = []) (hs : X.stack = X.env :: X.outer) (hf : X.env.frame = some X.env.locals) (F : Fly X.prog X.w X.stack H s B H' a C a0 s') (fl : Heap.FlyingW B X.outer a (.ref C) a0 s'.heap) :
    Fly X.prog X.w X.outer X.H₀ X.s₀ B H' a C a0 s' := by
  have u := F.un
  have ol := F.old
  rw [hs, frs_cons hf] at u ol
  have nex : ∀ b : Addr, b ∉ X.ex := fun b => by rw [hx]; simp
  have neL : ∀ b o, X.s₀.heap.get? b = some o → b ≠ X.env.locals := fun b o e => Nat.ne_of_lt (Nat.lt_of_lt_of_le (Heap.lt_size e) I.ok.above)
  refine ⟨F.os.trans I.os, F.bare, ⟨fun b o e n hb _ => ?_, fun b o e n hb _ => ?_, fun b o e n _ => ?_, fun b o e _ => ?_, fun b xs e => u.tups b xs (I.base.tups b xs e), fun b o v e => u.frzs b o v (I.base.frzs b o v e), fun b ps e => ?_⟩, F.hok, fl, fun b o e x hb => ?_, F.trk, F.new, ?_⟩
  · exact u.keep b o (I.base.keep b o e n hb (nex b)) (I.base.free b o e n (nex b)) (by simp [neL b o e]; exact hb) (by simp)
  · obtain ⟨sl, e1⟩ := I.base.slot b o e n hb (nex b)
    obtain ⟨sl', e2⟩ := u.slot b _ e1 (I.base.free b o e n (nex b)) (List.mem_cons_of_mem _ hb) (by simp)
    exact ⟨sl', e2⟩
  · obtain ⟨o', e1⟩ := I.base.there b o e (nex b)
    exact u.free b o' e1 (I.base.free b o e n (nex b)) (by simp)
  · obtain ⟨o', e1⟩ := I.base.there b o e (nex b)
    exact u.there b o' e1 (by simp)
  · obtain ⟨m1, e1⟩ := I.base.tbls b ps e
    obtain ⟨m2, e2⟩ := u.tbls b _ e1
    exact ⟨m1 ++ m2, by rw [e2, Array.append_assoc]⟩
  · obtain ⟨o', ho'⟩ := x
    obtain ⟨o1, e1⟩ := I.base.there b o' ho' (nex b)
    exact ol b o e ⟨o1, e1⟩ (by simp [neL b o' ho']; exact hb)
  · cases q : X.s₀.heap.get? a with
    | none => rfl
    | some o =>
      obtain ⟨o', e⟩ := I.base.there a o q (nex a)
      rw [F.fresh] at e
      cases e
theorem Inv.made' {h' : Heap} {args : List Value} (I : Inv X pins σ H s) (hs : X.stack = X.env :: X.outer) (hf : X.env.frame = some X.env.locals) (hm : Heap.MadeExcOf s.heap h' a (.ref C) args) {Q : Unit → Shared → Prop} {E : Value → Shared → Prop}
    (k : ∀ B a0 s', Fly X.prog X.w X.stack H s B H a C a0 s' → Heap.FlyingW B X.outer a (.ref C) a0 s'.heap → Q () s') {M : Model} : wpAny M X.A (leaving X.env (.ref a)) Q E { s with heap := h' } := by
  have fr := I.stack
  rw [hs] at fr
  have hfr := I.ok.frames
  rw [hs] at hfr
  have hin : ∀ env ∈ (X.env :: X.outer), ∀ b, env.frame = some b → b ∈ frs (X.env :: X.outer) := fun env he b hb => List.mem_filterMap.mpr ⟨env, he, hb⟩
  refine wpAny_leaves_madeW (base := PySem.W.hideAll s.heap (frs (X.env :: X.outer))) hfr hf (fun b o q => PySem.W.of_hideAll _ q) (PySem.W.funFrames_hide fr hin) hm fun h'' t x1 x2 x3 x4 => ?_
  have ha : H a = none := by
    cases q : H a with
    | none => rfl
    | some u =>
      obtain ⟨o, e⟩ := (I.hok a u q).here
      rw [hm.new] at e
      cases e
  have st := x1.1
  have hd : ∀ b o, s.heap.get? b = some o → b ∉ frs (X.env :: X.outer) → (PySem.W.hideAll s.heap (frs (X.env :: X.outer))).get? b = some o := fun b o e n => PySem.W.hideAll_get _ e n
  have frm : ∀ b ∈ frs (X.env :: X.outer), ∀ o, s.heap.get? b = some o → ∃ sl, h''.get? b = some { o with slots := sl } := fun b hb o e => by
    obtain ⟨_, o', e', hdt⟩ := fr.mem hb
    rw [e] at e'
    cases e'
    exact x4 b o (hm.keeps b o e) hdt
  have nt : ∀ b u, H b = some u → b ∉ frs (X.env :: X.outer) := fun b u e hb => by
    have z := I.stkFree b (by rw [hs]; exact hb)
    rw [e] at z
    cases z
  refine k (PySem.W.hideAll s.heap (frs (X.env :: X.outer))) (.ref t) { s with heap := h'' } ?_ x1
  rw [hs]
  refine ⟨rfl, I.bare, ⟨fun b o e n hb _ => st b o (hd b o e hb), fun b o e n hb _ => frm b hb o e, fun _ _ _ n _ => n, fun b o e _ => ?_, fun _ _ e => e, fun _ _ _ e => e, fun b ps e => ⟨#[], by rw [e]; simp⟩⟩, fun b u e => ?_, ?_, fun b o e x hb => ?_, fun b u o e q => ?_, ha, hm.new⟩
  · by_cases hb : b ∈ frs (X.env :: X.outer)
    · obtain ⟨sl, q⟩ := frm b hb o e
      exact ⟨_, q⟩
    · exact ⟨o, st b o (hd b o e hb)⟩
  · refine (I.hok b u e).stay (fun c v hc q => ?_) (fun _ q => q) fun _ _ q => q
    refine st c v (hd c v q ?_)
    rcases hc with rfl | hc
    · exact nt _ _ e
    · exact nt _ _ hc
  · obtain ⟨k1, k2, k3, k4⟩ := x1
    refine ⟨k1, k2, ?_, k4⟩
    have ff : h''.FunFrames (PySem.W.hideAll s.heap (frs (X.env :: X.outer))) (X.env :: X.outer) := by
      have f0 := PySem.W.funFrames_hide fr hin
      refine f0.of_keeps fun b o e hdt => ?_
      by_cases hb : b ∈ frs (X.env :: X.outer)
      · obtain ⟨sl, q⟩ := frm b hb o e
        exact ⟨_, q, rfl⟩
      · exact ⟨o, st b o (hd b o e hb), rfl⟩
    exact ff
  · obtain ⟨o', e'⟩ := x
    have z := hd b o' e' hb
    have z2 : h''.get? b = some o' := st b o' z
    rw [show h''.get? b = some o from e] at z2
    cases z2
    exact z
  · obtain ⟨o1, e1⟩ := (I.hok b u e).here
    have z := hd b o1 e1 (nt b u e)
    have z2 : h''.get? b = some o1 := st b o1 z
    rw [show h''.get? b = some o from q] at z2
    cases z2
    exact z
end
def Throws (X : Cx) (E : XK) : Prop := ∀ (pins : List (Addr × Obj)) (σ : St) (H : Hp) (s : Shared) (h' : Heap) (a C : Addr) (args : List Value), Inv X pins σ H s → Heap.MadeExcOf s.heap h' a (.ref C) args → E (.ref C) none H → X.xe (.ref a) { s with heap := h' }
section
variable {P : Program} {w : World} {K : PySem.W.Frag} {mg : Str → Option Value} {base : Heap} {N : List Str} {qual : Str} {scope : Scope} {f : Addr} {cd : Value} {A : Around} {outer : List Env} {s : Shared} {H : Hp} {E : XK}
theorem throws_cx : Throws (cxOf (CXE P w) P w K mg base N qual scope f cd A outer s H E) E := by
  intro pins σ H1 s1 h' a C args I hm e
  exact I.made' rfl rfl hm fun B a0 s' F fl => ⟨a, C, H1, B, a0, rfl, I.flies rfl rfl rfl F fl, e⟩
theorem pass_cx : Passes (CXE P w) (cxOf (CXE P w) P w K mg base N qual scope f cd A outer s H E) E := by
  rintro pins σ H1 s1 ev s' I ⟨a, C, H', B, a0, rfl, F, e⟩
  show wpAny _ _ (leaving _ (.ref a)) _ _ s'
  refine wpAny_leaves_onW I.ok.frames rfl F.fly fun h' fl up => ?_
  have fl2 : Heap.FlyingW B (envOfC qual scope s.heap.objs.size f cd :: outer) a (.ref C) a0 h' := by
    obtain ⟨k1, k2, k3, k4⟩ := fl
    refine ⟨k1, k2, ?_, k4⟩
    refine F.fly.2.2.1.of_keeps fun b o e hd => ?_
    obtain ⟨sl, q⟩ := up b o e hd
    exact ⟨_, q, rfl⟩
  exact ⟨a, C, H', B, a0, rfl, I.flies rfl rfl rfl (F.on fl2 up) fl, e⟩
theorem passE0 {X : Cx} : Passes (CXE X.prog X.w) X E0 := by
  rintro pins σ H1 s1 ev s' I ⟨a, C, H', B, a0, rfl, F, e⟩
  exact e.elim
end
theorem Fun.okX {P : Program} {w : World} {K : PySem.W.Frag} {mg : Str → Option Value} {base : Heap} {x qual : Str} {st : Stmt} {f : Addr} {fd : FuncData} {N ps : List Str} {k : Nat} {sp : Sp} (F : Fun K x qual st f fd) (S : FnScope N ps (defScope st)) (len : ∀ vs H Q E, sp vs H Q E → vs.length = ps.length)
    (hbody : ∀ (cdv : Value) (A : Around) (outer : List Env) (s : Shared) (H : Hp) (vs : List V) (Q : VK) (E : XK), Room k (A.deeper (envOfC qual (defScope st) s.heap.objs.size f cdv)) → sp vs H Q E →
      ∃ t, PSs (cxOf (CXE P w) P w K mg base N qual (defScope st) f cdv A outer s H E) (defBody st) t ∧ t { nx := fun _ H' => Q .non H', rt := Q } (start N vs) H) : FnOk P w K mg base (CXE P w) (k + 1) f fd ps sp := by
  obtain ⟨oc, od, kV, doc, pm, an, cdv, ct, osl, rfl, lk, hcd⟩ := F.ex
  exact fn_of lk hcd S len fun A outer s H vs Q E hr hsp => hbody cdv A outer s H vs Q E hr hsp
abbrev bmVE : List Value := [.type "ValueError", .type "Exception", .type "BaseException", .type "object"]
structure XRaise (K : PySem.W.Frag) (mg : Str → Option Value) (x : Str) (C : Addr) : Prop where
  at_ : mg x = some (.ref C)
  ex : PySem.W.excIn K C bmVE "ValueError.__new__" = true
theorem XRaise.own {K : PySem.W.Frag} {mg : Str → Option Value} {x : Str} {C : Addr} {h : Heap} (R : XRaise K mg x C) (X : K.In h) : OwnCls x C bmVE "ValueError.__new__" mg h := by
  refine ⟨R.at_, ?_⟩
  have q := R.ex
  unfold PySem.W.excIn at q
  split at q
  · rename_i dd cd sl ho
    split at q
    · rename_i C' bm k0 k1 k2 k3 n k5 hm hs
      simp only [Bool.and_eq_true, beq_iff_eq, Bool.not_eq_true'] at q
      obtain ⟨⟨⟨⟨⟨rfl, rfl⟩, hdel⟩, ht⟩, hok⟩, hni⟩ := q
      obtain ⟨nm, bs, mro, ns, qn, hd, sn, sub, ab, col, del⟩ := cd
      dsimp only at hm hdel hok hni
      subst hm hdel
      have hsl : sl = #[k0, k1, k2, k3, some (.builtin "ValueError.__new__"), k5] := by
        obtain ⟨l⟩ := sl
        simp only at hs
        rw [hs]
      subst hsl
      exact ⟨bm, ns, nm, qn, bs, hd, sn, sub, ab, col, dd, k0, k1, k2, k3, k5, _, X _ _ ho, .of_isNs (PySem.W.isNs_of_in X hok), PySem.W.nsMap_none_of_in X hok hni, PySem.W.tail_of_in X ht⟩
    · cases q
  · cases q
def tRaise (E : XK) (C : Addr) (t : TA) : TS := fun _ σ H => t σ H fun vs H1 => vs.length ≤ sizeLine ∧ E (.ref C) none H1
theorem ps_raise {X : Cx} {E : XK} {k : Nat} {x : Str} {C : Addr} {e₀ : Expr} {rest : List Expr} {np cpos pos : Pos} {t : TA} (T : Throws X E) (hr : Room k X.A) (hg : Gl X x) (R : XRaise X.K X.mg x C) (ha : PA X (e₀ :: rest) t)
    (he : starEach (e₀ :: rest) X.env = (false, eval e₀ X.env) :: starEach rest X.env := by rfl) (hpl : (backTo cpos (starEach rest X.env)).any (·.1) = false := by rfl) (hd : (x == ("__debug__" : Str)) = false := by decide) :
    PS X (.Raise (some (.Call (.Name x np) (e₀ :: rest) [] cpos)) none pos) (tRaise E C t) := by
  intro pins s σ H D I h
  obtain ⟨tl, N, nm, q, bs, hdct, sn, sub, ab, col, dd, k0, k1, k2, k3, k5, mN, hC, hN, hni, TL⟩ := (R.own I.mod.kin).obj
  refine wpAny_Raise_call_subT (C := C) (nm := nm) (q := q) (N := N) (bs := bs) (bm := tl) (hdct := hdct) (sn := sn) (sub := sub) (ab := ab) (col := col) (dd := dd) (k0 := k0) (k1 := k1) (k2 := k2) (k3 := k3) (k5 := k5)
    PySem.F.excBase_ValueError (mN := mN) (TL.hasType PySem.F.excBase_ValueError.hasBase) hr.hd (by rw [he]; show (false || (backTo cpos (starEach rest X.env)).any (·.1)) = false; rw [hpl]; rfl) hni (ld_glob I hg R.at_ ⟨rfl, ?_⟩ hd)
  have h0 := ha cpos pins s σ H _ I h
  rw [he] at h0 ⊢
  exact Calls.evalArgs_plain (wpAny_mono h0 (fun us s₂ ⟨vs, H1, I1, r, z, q⟩ => ⟨rfl, by rw [← r.length]; exact z, I1.bk _ _ hC, hN.keeps I1.bk, TL.keeps I1.bk, fun h' e hm => T pins σ H1 s₂ h' e C us I1 hm q⟩) fun _ _ y => y)

abbrev Cx.suite (X : Cx) (a : Addr) : Cx := { X with A := X.A.mark (some (.ref a)), calm := false }
theorem Cx.Ok.suite {X : Cx} (ok : X.Ok) (a : Addr) : (X.suite a).Ok :=
  ⟨ok.mod, ok.kind, ok.glob, ok.blt, ok.above, ok.inj, ok.has, ok.cab, (fun z => nomatch z), ok.frames, ok.stk, ok.exf, ok.bs, ok.bsz, ok.noex, ok.exfs, ok.funs, ok.frf⟩
section
variable {X : Cx} {pins : List (Addr × Obj)} {σ : St} {H : Hp} {s : Shared} {a : Addr}
theorem Inv.suite (I : Inv X pins σ H s) (a : Addr) : Inv (X.suite a) pins σ H s := ⟨I.ok.suite a, I.os, I.bare, I.base, I.loc, I.cell, I.free, I.freeC, I.pin, I.hok, I.len⟩
theorem Inv.unsuite (ok : X.Ok) (I : Inv (X.suite a) pins σ H s) : Inv X pins σ H s := ⟨ok, I.os, I.bare, I.base, I.loc, I.cell, I.free, I.freeC, I.pin, I.hok, I.len⟩
theorem Inv.blank {h' : Heap} {m' : Str → Option Value} {t' : Nat} (I : Inv X pins σ H s) (hn' : h'.Ns X.env.locals m') (hs : Heap.SameBut X.env.locals s.heap h') : Inv X pins (List.replicate X.N.length none) H { s with heap := h', toks := t' } := by
  obtain ⟨m, hn, _⟩ := I.loc
  obtain ⟨oL, _, _, hoL, _⟩ := id hn
  refine ⟨I.ok, I.os, I.bare, ⟨fun b o e n hb hx => ?_, fun b o e n hb hx => ?_, I.base.free, fun b o e hx => ?_, I.base.tups, I.base.frzs, I.base.tbls⟩, ⟨_, hn', fun j y v' e1 e2 e3 => ?_⟩, fun y c e => ?_, I.free, I.freeC, fun p hp => ?_, fun b ob e => ?_, by simp⟩
  · exact (hs.2 b (Nat.ne_of_lt (Nat.lt_of_lt_of_le (Heap.lt_size e) I.ok.above))).trans (I.base.keep b o e n hb hx)
  · obtain ⟨sl, e1⟩ := I.base.slot b o e n hb hx
    exact ⟨sl, (hs.2 b (Nat.ne_of_lt (Nat.lt_of_lt_of_le (Heap.lt_size e) I.ok.above))).trans e1⟩
  · obtain ⟨o', e1⟩ := I.base.there b o e hx
    exact ⟨o', (hs.2 b (Nat.ne_of_lt (Nat.lt_of_lt_of_le (Heap.lt_size e) I.ok.above))).trans e1⟩
  · rw [List.getElem?_replicate] at e2
    split at e2 <;> cases e2
  · obtain ⟨w', z⟩ := I.cell y c e
    exact ⟨w', z.sameBut hs (I.cne y c e)⟩
  · obtain ⟨e, n, ne, nf, d⟩ := I.pin p hp
    exact ⟨(hs.2 p.1 ne).trans e, n, ne, nf, d⟩
  · refine (I.hok b ob e).stay (fun c w' hc q => (hs.2 c ?_).trans q) (fun _ q => q) fun _ _ q => q
    rintro rfl
    rcases hc with rfl | hc
    · rw [I.free] at e; cases e
    · rw [I.free] at hc; cases hc
end
def excO (a D : Addr) : HO := .ext (ExcAt a D)
theorem excO_ok {P : Program} {w : World} {H : Hp} {h : Heap} {a D : Addr} (x : ExcAt a D h) : ObjOk P w H h a (excO a D) := by
  obtain ⟨o, vs, e, c, d⟩ := x
  exact ⟨⟨o, vs, e, c, d⟩, ⟨o, e⟩, fun h1 h2 ⟨o1, vs1, e1, c1, d1⟩ k => ⟨o1, vs1, k _ e1, c1, d1⟩⟩
theorem Inv.hold {X : Cx} {pins : List (Addr × Obj)} {σ : St} {H : Hp} {s : Shared} {a D : Addr} (I : Inv X pins σ H s) (x : ExcAt a D s.heap) (hn : H a = none) (hs : X.s₀.heap.get? a = none) (hL : a ≠ X.env.locals) (hc : ∀ x c, X.env.cells.lookup x = some c → c ≠ a) (hp : ∀ p ∈ X.pn ++ pins, p.1 ≠ a) :
    Inv X pins σ (upd H a (excO a D)) s := by
  have ne0 : ∀ b o, X.s₀.heap.get? b = some o → b ≠ a := fun b o e z => by rw [z, hs] at e; cases e
  refine ⟨I.ok, I.os, I.bare, ⟨I.base.keep, I.base.slot, fun b o e n hx => ?_, I.base.there, fun b xs e => ?_, fun b o u e => ?_, fun b ps e => ?_⟩, I.loc, I.cell, ?_, fun x c e => ?_, fun p hp' => ?_, fun b u e => ?_, I.len⟩
  · rw [upd_ne (ne0 b o e)]; exact I.base.free b o e n hx
  · rw [upd_ne (ne_of_none (I.base.tups b xs e) hn)]; exact I.base.tups b xs e
  · rw [upd_ne (ne_of_none (I.base.frzs b o u e) hn)]; exact I.base.frzs b o u e
  · obtain ⟨more, z⟩ := I.base.tbls b ps e
    exact ⟨more, by rw [upd_ne (ne_of_none z hn)]; exact z⟩
  · rw [upd_ne (Ne.symm hL)]; exact I.free
  · rw [upd_ne (hc x c e)]; exact I.freeC x c e
  · obtain ⟨e1, e2, e3⟩ := I.pin p hp'
    exact ⟨e1, by rw [upd_ne (hp p hp')]; exact e2, e3⟩
  · by_cases hb : b = a
    · subst hb
      rw [upd_same] at e
      cases e
      exact excO_ok x
    · rw [upd_ne hb] at e
      exact (I.hok b u e).stay (fun _ _ _ q => q) (fun c q => by rw [upd_ne (ne_of_none q hn)]; exact q) fun c xs q => by rw [upd_ne (ne_of_none q hn)]; exact q
structure XCatch (K : PySem.W.Frag) (mg : Str → Option Value) (x : Str) (C : Addr) : Prop where
  at_ : mg x = some (.ref C)
  is : PySem.W.clsIn K C ≠ none
  ty : PySem.W.typeIn K (.ref C) = some (.type "type")
  mb : PySem.W.mroIn K C (.type "BaseException") = some true
def tTry (sp : Sp) (t : TA) (i : Nat) (K : PySem.W.Frag) (C : Addr) (ts : TS) : TS := fun D σ H => t σ H fun vs H1 => sp vs H1 (fun _ H2 => D.nx σ H2) fun c _ H2 =>
  ∃ D', c = .ref D' ∧ PySem.W.subIn K (.ref D') (.ref C) = some true ∧ ∀ a, H2 a = none → ts { nx := fun _ _ => False, rt := D.rt } (σ.set i (some (.ref a))) (upd H2 a (excO a D'))
section
variable {X : Cx} {CX : CXT} {x y n : Str} {j k i : Nat} {ps : List Str} {sp : Sp} {p pos tpos hpos np epos : Pos} {e : Expr} {es : List Expr} {t : TA} {C : Addr} {b₀ : Stmt} {suite : List Stmt} {ts : TS}
theorem ps_try (hcalm : X.calm = true) (hxe : X.xe = fun _ _ => False) (hstk : X.stack = X.env :: X.outer) (hfr : X.env.frame = some X.env.locals)
    (F : Cal X.prog X.w X.K X.mg X.base (CXE X.prog X.w) x j ps sp) (hr : Room k X.A) (hg : Gl X x) (ha : PA X (e :: es) t) (hgy : Gl X y) (c : XCatch X.K X.mg y C) (hN : X.N.Nodup) (hi : X.N[i]? = some n) (hlo : X.env.scope.names.lookup n = some .local) (hex : X.ex = [])
    (hsu : ∀ a, PSs (X.suite a) (b₀ :: suite) ts) (hj : j ≤ k := by decide) (hdb : (x == ("__debug__" : Str)) = false := by decide) (hdy : (y == ("__debug__" : Str)) = false := by decide)
    (he : starEach (e :: es) X.env = (false, eval e X.env) :: starEach es X.env := by rfl) (hpl : (backTo pos (starEach es X.env)).any (·.1) = false := by rfl) (hsw : swapsWith (.Call (.Name x p) (e :: es) [] pos) none epos.line X.env = pure false := by rfl) :
    PS X (.Try [.Expr (.Call (.Name x p) (e :: es) [] pos) epos] [.ExceptHandler (some (.Name y np)) (some n) (b₀ :: suite) hpos] [] [] tpos) (tTry sp t i X.K C ts) := by
  intro pins s σ H D I h
  obtain ⟨f, fd, Fk, hb, kp, m⟩ := F.ex
  have hr' := hr.mono hj
  refine wpAny_Try_except (wpAny_execs_cons (wpAny_Expr_any ?_ I.quiet hsw))
  refine wpAny_Call_Name_kw (ld_glob I hg m ?_ hdb)
  refine PySem.W.callWith_K (h₀ := X.base) I.ok.mod.kin kp (wpAny_mono (ha pos pins s σ H _ I h) (fun us s1 ⟨vs, H1, I1, r, q⟩ => ⟨I1.kIn, ?_⟩) (fun _ _ z => by rw [hxe] at z; exact z.elim)) he hpl
  have hl : us.length = ps.length := by rw [← r.length]; exact Fk.len _ _ _ _ q
  have hb' := hb s1 us I1.kIn (by rw [List.append_nil]; exact hl)
  rw [List.append_nil] at hb'
  refine wpAny_call (codeAny_mono (Fk.run X.A X.stack s1 H1 ⟨us, []⟩ us vs _ _ hr' I1.env0 hb' r q) fun res s' hq => ?_)
  cases res with
  | ok fl =>
    cases fl with
    | ret u =>
      obtain ⟨v, H2, I2, rv, q2⟩ := I1.after hq
      exact wpAny_execs_nil (wpAny_execs_nil ⟨σ, H2, I2, q2⟩)
    | next => exact False.elim hq
    | brk => exact False.elim hq
    | cont => exact False.elim hq
  | error ev =>
    obtain ⟨a, D', H2, B, a0, rfl, Fl, ⟨D2, hD, hsub, q2⟩⟩ := hq
    cases hD
    have hfr2 : X.A.frames = some (X.env :: X.outer) := by rw [← hstk]; exact I.ok.frames
    have Fl1 := Fl
    rw [hstk] at Fl1
    refine wpAny_looks_onW hfr2 hfr Fl1.fly fun h4 held4 up4 => ?_
    refine wpAny_landsW held4 fun h5 fl5 up5 => ?_
    have F5 : Fly X.prog X.w X.stack H1 s1 B H2 a D' a0 { s' with heap := h5 } := by
      rw [hstk]
      exact Fl1.on fl5 (up4.trans up5)
    have I5 := I1.caught F5
    have hsa : s1.heap.get? a = none := Fl.fresh
    have hsa0 : X.s₀.heap.get? a = none := by
      cases q0 : X.s₀.heap.get? a with
      | none => rfl
      | some o0 =>
        obtain ⟨o', e'⟩ := I1.base.there a o0 q0 (by rw [hex]; simp)
        rw [hsa] at e'
        cases e'
    refine wpAny_handleBy_cons (codeAny_handlers_test (ld_glob (X := X.suite a) (I5.suite a) hgy c.at_ ?_ hdy)) (by intro z; cases z)
    refine xcls_matches I5.kIn F5.excAt c.is c.ty c.mb hsub ?_
    refine codeAny_handlers_suite_as ?_
    have fl5' := F5.fly
    refine lands_againW fl5' fun h6 fl6 up6 => ?_
    have F6 : Fly X.prog X.w X.stack H1 s1 B H2 a D' a0 { s' with heap := h6 } := F5.on fl6 up6
    have I6 := I1.caught F6
    have hne : ∀ b o, s1.heap.get? b = some o → b ≠ a := fun b o e z => by rw [z, hsa] at e; cases e
    obtain ⟨m1, ⟨oL, _, _, hoL, _⟩, _⟩ := id I1.loc
    have J6 := I6.hold F6.excAt F6.new hsa0 (hne _ _ hoL).symm (fun x c e => by
      obtain ⟨v, o, ho, _⟩ := I1.cell x c e
      exact hne _ _ ho) (fun p hp => hne _ _ (I1.pin p hp).1)
    refine store_ok J6 hN hi (.inl hlo) (v := .ref a) rfl (fun s7 I7 => ?_) (.inr hlo)
    refine wpAny_mono (hsu a pins s7 _ _ { nx := fun _ _ => False, rt := D.rt } (I7.suite a) (q2 a F6.new)) (fun fl s8 hq8 => ?_) (fun _ _ z => by
      have z' : X.xe _ _ := z
      rw [hxe] at z'
      exact z'.elim)
    cases fl with
    | ret u =>
      obtain ⟨v, σ8, H8, I8, r8, q8⟩ := hq8
      have I9 := I8.unsuite I.ok
      obtain ⟨m8, hn8, _⟩ := id I9.loc
      exact wpAny_nameGoes hlo hn8 (by rw [I.ok.kind]; rfl) fun h9 m9 hn9 hs9 => ⟨v, _, H8, I9.blank hn9 hs9, r8, q8⟩
    | next => obtain ⟨_, _, _, z⟩ := hq8; exact z.elim
    | brk => obtain ⟨_, _, _, z⟩ := hq8; exact z.elim
    | cont => obtain ⟨_, _, _, z⟩ := hq8; exact z.elim
end
end L2

set_option Elab.async false
set_option linter.all false
set_option maxRecDepth 100000
set_option maxHeartbeats 1000000
namespace L2
open PySem PySem.Spec PyProof.Rows
def rIsiX (K : PySem.W.Frag) : List V → Hp → VK → Prop := fun xs H Q => ∃ a D b, H a = some (excO a D) ∧ XCls K D ∧ ((∃ C, xs = [.ref a, .ref C] ∧ PySem.W.kitOne K (.ref D) (.ref C) = some b) ∨ (∃ T, xs = [.ref a, .ty T] ∧ PySem.W.kitOne K (.ref D) (.type T) = some b) ∨
  ∃ (p : Addr) (cs : List Addr), xs = [.ref a, .ref p] ∧ H p = some (.tup (cs.map V.ref)) ∧ PySem.W.kitAny K (.ref D) (cs.map Value.ref) = some b) ∧ Q (.bl b) H
theorem vals_refs : ∀ {cs : List Addr} {us : List Value}, Vals (cs.map V.ref) us → us = cs.map Value.ref
  | [], _, .nil => rfl
  | c :: cs, _, .cons r t => by
    cases r
    rw [List.map_cons, vals_refs t]
section
variable {X : Cx} {K : PySem.W.Frag}
theorem call_isiX (hK : X.K = K) : CallR X (.builtin "isinstance") (rIsiX K) := by
  subst hK
  intro pins s σ H xs us Q I r h
  obtain ⟨a, D, b, ha, c, h, q⟩ := h
  have ok := I.hok a _ ha
  have fin : ∀ tk, EP X pins σ Q (.bool b) { s with toks := tk } := fun tk => ⟨.bl b, H, I.tok tk, rfl, q⟩
  rcases h with ⟨C, rfl, e⟩ | ⟨T, rfl, e⟩ | ⟨p, cs, rfl, hp, e⟩
  · obtain ⟨u, u', rfl, r1, r2⟩ := vals2 r
    cases r1
    cases r2
    exact PySem.W.kia_one (kitx_exc c) I.kIn ok.1 e (fun z => nomatch z) fin
  · obtain ⟨u, u', rfl, r1, r2⟩ := vals2 r
    cases r1
    obtain rfl : u' = Value.type T := r2
    exact PySem.W.kia_one (kitx_exc c) I.kIn ok.1 e (fun z => nomatch z) fin
  · obtain ⟨u, u', rfl, r1, r2⟩ := vals2 r
    cases r1
    cases r2
    obtain ⟨_, its, rv, ⟨⟨cl, dd, dt, sl⟩, ho, hc, n, hd⟩, _⟩ := (show ObjOk X.prog X.w H s.heap p (.tup (cs.map V.ref)) from I.hok p _ hp)
    have hc' : cl = .type "tuple" := hc
    have hd' : dt = .seq its.toArray n := hd
    subst hc' hd'
    rw [vals_refs rv] at ho
    exact PySem.W.kia_tup (kitx_exc c) I.kIn ok.1 ho e (fun z => nomatch z) fin
theorem isiX_one {K : PySem.W.Frag} {H : Hp} {a D C : Addr} {b : Bool} {Q : VK} (ha : H a = some (excO a D)) (c : XCls K D) (e : PySem.W.kitOne K (.ref D) (.ref C) = some b) (q : Q (.bl b) H) : rIsiX K [.ref a, .ref C] H Q := ⟨a, D, b, ha, c, .inl ⟨C, rfl, e⟩, q⟩
theorem isiX_ty {K : PySem.W.Frag} {H : Hp} {a D : Addr} {T : String} {b : Bool} {Q : VK} (ha : H a = some (excO a D)) (c : XCls K D) (e : PySem.W.kitOne K (.ref D) (.type T) = some b) (q : Q (.bl b) H) : rIsiX K [.ref a, .ty T] H Q := ⟨a, D, b, ha, c, .inr (.inl ⟨T, rfl, e⟩), q⟩
end
structure RoomS (k : Nat) (A : Around) : Prop where
  dp : A.depth + 3 * k + 5 < recursionLimit
  un : A.units + 16 * k + 200 < cLine
theorem Room.toS {k : Nat} {A : Around} (r : Room k A) : RoomS k A := ⟨r.dp, r.un⟩
theorem Room.suite {k : Nat} {A : Around} (r : Room k A) (v : Option Value) : RoomS k (A.mark v) := ⟨r.dp, r.un⟩
theorem RoomS.mono {j k : Nat} {A : Around} (r : RoomS k A) (h : j ≤ k) : RoomS j A := ⟨by have := r.dp; omega, by have := r.un; omega⟩
theorem RoomS.deeper {k : Nat} {A : Around} (r : RoomS (k + 1) A) (env : Env) : RoomS k (A.deeper env) :=
  ⟨by have := r.dp; show A.depth + 1 + 3 * k + 5 < _; omega, by have := r.un; show A.units + 3 + 16 * k + 200 < _; omega⟩
structure FnOkS (P : Program) (w : World) (K : PySem.W.Frag) (mg : Str → Option Value) (base : Heap) (CX : CXT) (k : Nat) (f : Addr) (fd : FuncData) (ps : List Str) (sp : Sp) : Prop where
  len : ∀ vs H Q E, sp vs H Q E → vs.length = ps.length
  run : ∀ (A : Around) (outer : List Env) (s : Shared) (H : Hp) (args : Args) (us : List Value) (vs : List V) (Q : VK) (E : XK), RoomS k A → Env0 P w K mg base A outer s H → BindsTo s fd args (ps.zip us) → Vals vs us → sp vs H Q E →
    codeAny (model P w) A (.call (.ref f) args) (CR CX outer P w H s Q E) s
theorem FnOkS.fn {P : Program} {w : World} {K : PySem.W.Frag} {mg : Str → Option Value} {base : Heap} {CX : CXT} {k : Nat} {f : Addr} {fd : FuncData} {ps : List Str} {sp : Sp} (F : FnOkS P w K mg base CX k f fd ps sp) : FnOk P w K mg base CX k f fd ps sp :=
  ⟨F.len, fun A outer s H args us vs Q E hr => F.run A outer s H args us vs Q E hr.toS⟩
structure CalS (P : Program) (w : World) (K : PySem.W.Frag) (mg : Str → Option Value) (base : Heap) (CX : CXT) (x : Str) (k : Nat) (ps : List Str) (sp : Sp) : Prop where
  ex : ∃ f fd, FnOkS P w K mg base CX k f fd ps sp ∧ Binds K fd ps [] ∧ PySem.W.keepIn K (.ref f) = true ∧ mg x = some (.ref f)
abbrev Cx.any (X : Cx) (A : Around) : Cx := { X with A := A, calm := false }
theorem Inv.any {X : Cx} {pins : List (Addr × Obj)} {σ : St} {H : Hp} {s : Shared} (I : Inv X pins σ H s) {A : Around} (hf : A.frames = some X.stack) : Inv (X.any A) pins σ H s :=
  ⟨⟨I.ok.mod, I.ok.kind, I.ok.glob, I.ok.blt, I.ok.above, I.ok.inj, I.ok.has, I.ok.cab, (fun z => nomatch z), hf, I.ok.stk, I.ok.exf, I.ok.bs, I.ok.bsz, I.ok.noex, I.ok.exfs, I.ok.funs, I.ok.frf⟩, I.os, I.bare, I.base, I.loc, I.cell, I.free, I.freeC, I.pin, I.hok, I.len⟩
theorem pe_callN {X : Cx} {x : Str} {j k : Nat} {ps : List Str} {sp : Sp} {p pos : Pos} {e : Expr} {es : List Expr} {t : TA} (C : Cal X.prog X.w X.K X.mg X.base (CXE X.prog X.w) x j ps sp) (hr : Room k X.A) (hg : Gl X x) (ha : PA X (e :: es) t) (hj : j ≤ k := by decide) (hdb : (x == ("__debug__" : Str)) = false := by decide)
    (he : starEach (e :: es) X.env = (false, eval e X.env) :: starEach es X.env := by rfl) (hpl : (backTo pos (starEach es X.env)).any (·.1) = false := by rfl) :
    PE X (.Call (.Name x p) (e :: es) [] pos) (tCall sp [] E0 t) := pe_callX C hr hg passE0 ha hj hdb he hpl
end L2

set_option Elab.async false
set_option linter.all false
set_option maxRecDepth 100000
namespace L2
open PySem PySem.Spec PyProof.Rows
def noStar : Expr → Bool
  | .Starred _ _ => false
  | _ => true
theorem star1 {e : Expr} {es : List Expr} {env : Env} (h : noStar e = true) : starEach (e :: es) env = (false, eval e env) :: starEach es env := by
  cases e <;> first | rfl | cases h
theorem star1' {e : Expr} {env : Env} (h : noStar e = true) : starEach [e] env = [(false, eval e env)] := by rw [star1 h]; rfl
theorem nost0 {env : Env} {pos : Pos} : (backTo pos (starEach [] env)).any (·.1) = false := rfl
theorem nost1 {e : Expr} {es : List Expr} {env : Env} {pos : Pos} (h : noStar e = true) (r : (backTo pos (starEach es env)).any (·.1) = false) : (backTo pos (starEach (e :: es) env)).any (·.1) = false := by
  rw [star1 h]
  show (false || (backTo pos (starEach es env)).any (·.1)) = false
  rw [r]
  rfl
def plainT : Expr → Bool
  | .UnaryOp _ _ _ => false
  | .BoolOp _ _ _ => false
  | .IfExp _ _ _ _ => false
  | .Compare _ _ _ _ => false
  | _ => true
theorem test1 {e : Expr} {env : Env} (h : plainT e = true) : ∀ whole, isTrue e env whole = (do let v ← whole; standAt e.pos; holding [v] (truthy v)) := by
  intro whole
  cases e <;> first | rfl | cases h
def noComp : Expr → Bool
  | .ListComp _ _ _ _ => false
  | .SetComp _ _ _ _ => false
  | .DictComp _ _ _ _ _ => false
  | _ => true
theorem swap1 {e : Expr} {tg : Option Expr} {n : Nat} {env : Env} (h : noComp e = true) : swapsWith e tg n env = pure false := by
  cases e <;> first | rfl | cases h
end L2

set_option Elab.async false
set_option linter.all false
set_option maxRecDepth 100000
set_option maxHeartbeats 1000000
namespace L2
open PySem PySem.Spec PyProof.Rows
end L2

set_option Elab.async false
set_option linter.all false
set_option maxRecDepth 100000
set_option maxHeartbeats 1000000
namespace L2
open PySem PySem.Spec PyProof.Rows
theorem ints_are : ∀ {ns : List Int} {its : List Value}, Vals (ns.map V.int) its → IntsAre its ns
  | [], _, .nil => .nil
  | n :: ns, _, .cons ⟨t, e⟩ r => by subst e; exact .cons n t (ints_are r)
section
variable {X : Cx}
theorem call_all1 (hc : X.calm = true) : CallR X (.builtin "all") (fun xs H Q => ∃ (p : Addr) (bs : List Bool), xs = [.ref p] ∧ SqL X.K H p (bs.map V.bl) ∧ Q (.bl (bs.all id)) H) := by
  intro pins s σ H xs us Q I r h
  obtain ⟨p, bs, rfl, hq, q⟩ := h
  obtain ⟨u, rfl, rx⟩ := vals1 r
  cases rx
  obtain ⟨its, r', pl, hz⟩ := I.list hq
  have hl := pl.isList
  have hlt : p < s.heap.objs.size := by obtain ⟨_, e, _⟩ := hl; exact Heap.lt_size e
  have len := r'.length
  rw [List.length_map] at len
  refine call_all_walk (wpAny_pyIter_list hl ⟨_, _, _, _, _, _, fun i => bs.getD i true, rfl, Walks.list (A := X.A.in1) (I.ok.hd hc) s.heap.objs.size p (Nat.ne_of_lt hlt) its.toArray, ⟨⟨_, Heap.get?_push_size _ rfl, rfl, rfl⟩, hl.push _⟩, ?_, ?_⟩)
  · intro i v s' Q' E' hP hQ
    have hP' : its[i]? = some v := by simpa using hP
    have li : i < bs.length := by
      have := (List.getElem?_eq_some_iff.mp hP').1
      omega
    obtain ⟨u, e1, e2⟩ := r'.get (i := i) (x := .bl (bs.getD i true)) (by simp [List.getD, li])
    rw [hP'] at e1
    cases e1
    obtain rfl : v = Value.bool (bs.getD i true) := e2
    exact wpAny_truthy_bool hQ
  · intro h' tk hk
    have : (List.range its.toArray.size).all (fun i => bs.getD i true) = bs.all id := by
      rw [List.size_toArray, ← len]
      clear len hq q r' hz
      induction bs with
      | nil => rfl
      | cons b bs ih =>
        rw [List.length_cons, List.range_succ_eq_map, List.all_cons, List.all_map, List.all_cons]
        exact congrArg _ ih
    rw [this]
    exact ⟨.bl _, H, I.kept (old_kept hk), rfl, q⟩
end
end L2

set_option Elab.async false
set_option linter.all false
set_option maxRecDepth 100000
set_option maxHeartbeats 1000000
namespace L2
open PySem PySem.Spec PyProof.Rows
structure Apart (z TI TO i1 i2 : Addr) (f1 f2 : List Addr) : Prop where
  zTI : z ≠ TI
  zTO : z ≠ TO
  TITO : TI ≠ TO
  TI1 : TI ≠ i1
  TI2 : TI ≠ i2
  m1 : i1 ∈ f1
  m2 : i2 ∈ f2
  z1 : z ∉ f1
  z2 : z ∉ f2
  t1 : TO ∉ f1
  t2 : TO ∉ f2
  i12 : i1 ∉ f2
  i21 : i2 ∉ f1
section
variable {prog : Program} {w : World} {A : Around} {E : Value → Shared → Prop} {s : Shared} {z TI TO i1 i2 : Addr} {f1 f2 : List Addr} {n1 n2 k : Nat} {P1 P2 : Nat → Value → Prop} {S1 S2 : Nat → Heap → Prop}
end
def Itz (K : PySem.W.Frag) (a b : Addr) : It := ⟨fun i H => ∃ xs ys x y, SqL K H a xs ∧ SqT K H b ys ∧ xs[i]? = some x ∧ ys[i]? = some y,
  fun i H x H' => ∃ T u v, H T = none ∧ x = .ref T ∧ H' = upd H T (.tup [u, v]) ∧ (∀ xs, SqL K H a xs → xs[i]? = some u) ∧ ∀ ys, SqT K H b ys → ys[i]? = some v,
  fun i H => ∃ xs ys, SqL K H a xs ∧ SqT K H b ys ∧ xs.length = ys.length ∧ xs.length = i⟩
end L2

set_option Elab.async false
set_option linter.all false
set_option maxRecDepth 100000
set_option maxHeartbeats 1000000
namespace L2
open PySem PySem.Spec PyProof.Rows
def iZip (K : PySem.W.Frag) (ta : TA) : TI := fun σ H R => ta σ H fun vs H1 => ∃ a b, vs = [.ref a, .ref b] ∧ (∃ xs, SqL K H1 a xs) ∧ (∃ ys, SqT K H1 b ys) ∧ R (Itz K a b) H1
end L2

set_option Elab.async false
set_option linter.all false
set_option maxRecDepth 100000
set_option maxHeartbeats 1000000
namespace L2
open PySem PySem.Spec PyProof.Rows
section
variable {X : Cx}
def rIndexT (K : PySem.W.Frag) : V → List V → Hp → VK → Prop := fun x vs H Q => ∃ (p : Addr) (xs : List V) (y : V) (j : Nat), x = .ref p ∧ vs = [y] ∧ SqT K H p xs ∧ flatV y = true ∧ xs.all flatV = true ∧ (∃ z, xs[j]? = some z ∧ eqV z y = true) ∧ (∀ m z, m < j → xs[m]? = some z → eqV z y = false) ∧ Q (.int j) H
def tBMT (K : PySem.W.Frag) (r : V → List V → Hp → VK → Prop) (to : TE) (t : TA) : TE := fun σ H Q => to σ H fun x H1 => (∃ p xs, x = .ref p ∧ H1 p = some (.tup xs)) ∧ t σ H1 fun xs H2 => r x xs H2 Q
def iSeq (K : PySem.W.Frag) (tl : TE) : TI := fun σ H R => tl σ H fun x H1 => ∃ a, x = .ref a ∧ (((∃ xs, SqL K H1 a xs) ∧ R (Itl K a) H1) ∨ ((∃ xs, SqT K H1 a xs) ∧ R (Itt K a) H1))
section
variable {K : PySem.W.Frag} {D : Ends} {g : TG} {tb : TS} {σ : St} {H : Hp} {a : Addr}
end
section
variable {K : PySem.W.Frag} {D a : Addr} {g : TG} {tt : TT} {te : TE} {Q : VK} {τ : St} {H : Hp}
end
end
end L2

set_option Elab.async false
set_option linter.all false
set_option maxRecDepth 100000
set_option maxHeartbeats 1000000
namespace L2
open PySem PySem.Spec PyProof.Rows
abbrev sgn (c : Nat) : V := .str ⟨#[c]⟩
abbrev txt (cs : List Nat) : Str := ⟨cs.toArray⟩
def Its (cs : List Nat) : It := ⟨fun i _ => i < cs.length, fun i H v H' => H' = H ∧ ∃ c, cs[i]? = some c ∧ v = sgn c, fun i _ => cs.length ≤ i⟩
section
variable {X : Cx} {tg : Expr}
def iStr (tl : TE) : TI := fun σ H R => tl σ H fun x H1 => ∃ cs, x = .str (txt cs) ∧ cs.all (fun c => decide (c < 128)) = true ∧ R (Its cs) H1
end
section
variable {g : TG} {tb : TS} {D : Ends} {σ : St} {H : Hp}
end
section
variable {D : Addr} {g : TG} {tt : TT} {te : TE} {Q : VK} {τ : St} {H : Hp}
end
section
variable {X : Cx}
def rLeS : R2 := fun x y H Q => ∃ c d : Nat, x = sgn c ∧ y = sgn d ∧ Q (.bl (decide (c ≤ d))) H
def rJoin (K : PySem.W.Frag) : V → List V → Hp → VK → Prop := fun x vs H Q => ∃ (p : Addr) (cs : List Nat), x = .str "" ∧ vs = [.ref p] ∧ SqL K H p (cs.map sgn) ∧ cs.length ≤ 1000 ∧ Q (.str (txt cs)) H
end
end L2

set_option Elab.async false
set_option linter.all false
set_option maxRecDepth 100000
set_option maxHeartbeats 1000000
namespace L2
open PySem PySem.Spec PyProof.Rows
deriving instance DecidableEq for Kn
section
variable {X : Cx}
end
end L2

set_option Elab.async false
set_option linter.all false
set_option maxRecDepth 100000
set_option maxHeartbeats 1000000
namespace PySem
open Sem (wp)
namespace SetL
section
variable {prog : Program} {w : World} {A : Around} {R : Result → Shared → Prop} {I : Addr} {fp wr : List Addr} {n : Nat} {P : Nat → Value → Prop} {St : Nat → Heap → Prop}
end
section
variable {prog : Program} {w : World} {A : Around} {E : Value → Shared → Prop} {s : Shared}
end
end SetL
end PySem
namespace L2
open PySem PySem.Spec PyProof.Rows
section
variable {X : Cx}
end
end L2

set_option Elab.async false
set_option linter.all false
set_option maxRecDepth 100000
set_option maxHeartbeats 1000000
namespace L2
open PySem PySem.Spec PyProof.Rows
mutual
inductive Rep (K : PySem.W.Frag) (H : Hp) : V → PyData → Prop
  | non : Rep K H .non .none
  | bl (b : Bool) : Rep K H (.bl b) (.bool b)
  | int (i : Int) : Rep K H (.int i) (.int i)
  | str (z : Str) : Rep K H (.str z) (.str z)
  | lst {a : Addr} {xs : List V} {ds : List PyData} : SqL K H a xs → RepAll K H xs ds → Rep K H (.ref a) (.list ds)
  | tup {a : Addr} {xs : List V} {ds : List PyData} : SqT K H a xs → RepAll K H xs ds → Rep K H (.ref a) (.tuple ds)
inductive RepAll (K : PySem.W.Frag) (H : Hp) : List V → List PyData → Prop
  | nil : RepAll K H [] []
  | cons {x : V} {d : PyData} {xs : List V} {ds : List PyData} : Rep K H x d → RepAll K H xs ds → RepAll K H (x :: xs) (d :: ds)
end
theorem sqT_same {K : PySem.W.Frag} {H H' : Hp} {a : Addr} {xs : List V} (e : Same H H') (h : SqT K H a xs) : SqT K H' a xs := by
  rcases h with (h | ⟨o, h⟩) | h
  · exact .inl (.inl (e _ _ h))
  · exact .inl (.inr ⟨o, e _ _ h⟩)
  · exact .inr h
mutual
theorem Rep.same {K : PySem.W.Frag} {H H' : Hp} (e : Same H H') : ∀ {v : V} {d : PyData}, Rep K H v d → Rep K H' v d
  | _, _, .non => .non
  | _, _, .bl b => .bl b
  | _, _, .int i => .int i
  | _, _, .str z => .str z
  | _, _, .lst h r => .lst (e.seq h) (RepAll.same e r)
  | _, _, .tup h r => .tup (sqT_same e h) (RepAll.same e r)
theorem RepAll.same {K : PySem.W.Frag} {H H' : Hp} (e : Same H H') : ∀ {xs : List V} {ds : List PyData}, RepAll K H xs ds → RepAll K H' xs ds
  | _, _, .nil => .nil
  | _, _, .cons h r => .cons (Rep.same e h) (RepAll.same e r)
end
section
variable {X : Cx} {pins : List (Addr × Obj)} {σ : St} {H : Hp} {s : Shared}
mutual
theorem Rep.reads (I : Inv X pins σ H s) : ∀ {v : V} {d : PyData} {u : Value}, Rep X.K H v d → RelV v u → ∃ as, Reads s.heap u d as
  | _, _, u, .non, r => by
    obtain rfl : u = Value.none := r
    exact ⟨[], .none⟩
  | _, _, u, .bl b, r => by
    obtain rfl : u = Value.bool b := r
    exact ⟨[], .bool b⟩
  | _, _, u, .int i, r => by
    obtain ⟨t, rfl⟩ := r
    exact ⟨[], .int i t⟩
  | _, _, u, .str z, r => by
    obtain ⟨t, rfl⟩ := r
    exact ⟨[], .str z t⟩
  | _, _, u, .lst (a := a) h ra, r => by
    obtain rfl : u = Value.ref a := r
    obtain ⟨its, rv, ⟨o, n, e, c, _, dt⟩, _⟩ := I.list h
    obtain ⟨as, ra'⟩ := RepAll.reads I ra rv
    exact ⟨a :: as, .list e c dt (by simpa using ra')⟩
  | _, _, u, .tup (a := a) h ra, r => by
    obtain rfl : u = Value.ref a := r
    obtain ⟨its, rv, ⟨o, e, c, n, dt⟩, _⟩ := I.tuple h
    obtain ⟨as, ra'⟩ := RepAll.reads I ra rv
    exact ⟨as, .tuple e c dt (by simpa using ra')⟩
theorem RepAll.reads (I : Inv X pins σ H s) : ∀ {xs : List V} {ds : List PyData} {us : List Value}, RepAll X.K H xs ds → Vals xs us → ∃ as, ReadsAll s.heap us ds as
  | _, _, _, .nil, .nil => ⟨[], .nil⟩
  | _, _, _, .cons h r, .cons rv rs => by
    obtain ⟨as, h1⟩ := Rep.reads I h rv
    obtain ⟨bs, h2⟩ := RepAll.reads I r rs
    exact ⟨as ++ bs, .cons h1 h2⟩
end
end
def flatD (d : PyData) : Prop := d.canLay0 = true ∧ d.depth ≤ 40
theorem hu60 {A : Around} {k : Nat} (hr : Room k A) : A.units + 60 < cLine := Nat.lt_of_le_of_lt (Nat.add_le_add_left (by decide : 60 ≤ 64) _) hr.units
section
variable {X : Cx}
def rEqD (K : PySem.W.Frag) (neg : Bool) : R2 := fun x y H Q => ∃ d e, Rep K H x d ∧ Rep K H y e ∧ flatD d ∧ flatD e ∧ Q (.bl (if neg then !PyData.eqv d e else PyData.eqv d e)) H
theorem op_neD (hu : X.A.units + 60 < cLine) : OpR X (compareOp .NotEq) (rEqD X.K true) := by
  intro pins s σ H x y v u Q I rx ry h
  obtain ⟨d, e, hd, he, fd, fe, q⟩ := h
  obtain ⟨as, r1⟩ := hd.reads I rx
  obtain ⟨bs, r2⟩ := he.reads I ry
  exact SeqAt.compareNe_reads r1 r2 fd.1 fe.1 (by have := fd.2; have := fe.2; omega) ⟨.bl _, H, I, rfl, q⟩
def rInD (K : PySem.W.Frag) (neg : Bool) : R2 := fun x y H Q => ∃ (p : Addr) (d : PyData) (ds : List PyData), y = .ref p ∧ Rep K H x d ∧ (Rep K H (.ref p) (.list ds) ∨ Rep K H (.ref p) (.tuple ds)) ∧ flatD d ∧ flatD (.list ds) ∧ Q (.bl (if neg then !(ds.any fun y => PyData.eqv y d) else ds.any fun y => PyData.eqv y d)) H
theorem op_notInD (hu : X.A.units + 60 < cLine) : OpR X (compareOp .NotIn) (rInD X.K true) := by
  intro pins s σ H x y v u Q I rx ry h
  obtain ⟨p, d, ds, rfl, hd, he, fd, fe, q⟩ := h
  obtain ⟨as, r1⟩ := hd.reads I rx
  have dp : PyData.depthAll ds + 1 ≤ 40 := fe.2
  have fe1 : PyData.canLayAll0 ds = true := fe.1
  rcases he with he | he
  · obtain ⟨bs, r2⟩ := he.reads I ry
    exact SeqAt.notIn_list_reads r2 r1 fe1 fd.1 (by have := fd.2; omega) ⟨.bl _, H, I, rfl, q⟩
  · obtain ⟨bs, r2⟩ := he.reads I ry
    exact SeqAt.notIn_tuple_reads r2 r1 fe1 fd.1 (by have := fd.2; omega) ⟨.bl _, H, I, rfl, q⟩
end
end L2

set_option Elab.async false
set_option linter.all false
set_option maxRecDepth 100000
set_option maxHeartbeats 1000000
namespace HT
open PySem PyProof.Rows
section
open PySem.SeqAt
open PySem.AutoSeq1 (wpAny_loadPart')
open PySem.MeetsSeq PySem.MeetsSeq2 PySem.MeetsSeq3

end
end HT

set_option Elab.async false
set_option linter.all false
set_option maxRecDepth 100000
set_option maxHeartbeats 1000000
namespace HT
open PySem PyProof.Rows PySem.SeqAt
theorem eqvAll_ints : ∀ ns ms : List Int, PyData.eqvAll (ns.map PyData.int) (ms.map PyData.int) = decide (ns = ms)
  | [], [] => rfl
  | [], _ :: _ => rfl
  | _ :: _, [] => rfl
  | n :: ns, m :: ms => by
    show (n == m && PyData.eqvAll (ns.map PyData.int) (ms.map PyData.int)) = _
    rw [eqvAll_ints ns ms]
    by_cases h : n = m
    · subst h
      by_cases h2 : ns = ms <;> simp [h2]
    · simp [h]
section
variable {l b : Addr}
theorem vals_ints {ns : List Int} {its : List Value} (r : L2.Vals (ns.map L2.V.int) its) : IntsAre its ns := L2.ints_are r
end
end HT
namespace L2
open PySem PySem.Spec PyProof.Rows
end L2

set_option Elab.async false
set_option linter.all false
set_option maxRecDepth 100000
set_option maxHeartbeats 1000000
namespace L2
open PySem PySem.Spec PyProof.Rows
def iOr (w1 w2 : TI) : TI := fun σ H R => w1 σ H R ∨ w2 σ H R
section
variable {K : PySem.W.Frag} {a : Addr} {g : TG} {tt : TT} {te : TE} {Q : VK} {H : Hp}
end
end L2

set_option Elab.async false
set_option linter.all false
set_option maxRecDepth 100000
set_option maxHeartbeats 1000000
namespace L2
open PySem PySem.Spec PyProof.Rows
section
variable {prog : Program} {w : World} {A : Around} {E : Value → Shared → Prop} {s : Shared} {z TI TO i1 i2 : Addr}
end
def ItzL (K : PySem.W.Frag) (a b : Addr) : It := ⟨fun i H => ∃ xs ys x y, SqL K H a xs ∧ SqL K H b ys ∧ xs[i]? = some x ∧ ys[i]? = some y,
  fun i H x H' => ∃ T u v, H T = none ∧ x = .ref T ∧ H' = upd H T (.tup [u, v]) ∧ (∀ xs, SqL K H a xs → xs[i]? = some u) ∧ ∀ ys, SqL K H b ys → ys[i]? = some v,
  fun i H => ∃ xs ys, SqL K H a xs ∧ SqL K H b ys ∧ xs.length = ys.length ∧ xs.length = i⟩
def iZipL (K : PySem.W.Frag) (ta : TA) : TI := fun σ H R => ta σ H fun vs H1 => ∃ a b, vs = [.ref a, .ref b] ∧ (∃ xs, SqL K H1 a xs) ∧ (∃ ys, SqL K H1 b ys) ∧ R (ItzL K a b) H1
end L2

set_option Elab.async false
set_option linter.all false
set_option maxRecDepth 100000
set_option maxHeartbeats 1000000
namespace L2
open PySem PySem.Spec PyProof.Rows
section
variable {X : Cx}
def rInsert : V → List V → Hp → VK → Prop := fun x vs H Q => ∃ (l : Addr) (xs : List V) (k : Nat) (y : V), x = .ref l ∧ vs = [.int k, y] ∧ H l = some (.lst xs) ∧ k ≤ xs.length ∧ xs.length < sizeLine ∧ Q .non (upd H l (.lst (xs.take k ++ y :: xs.drop k)))
end
section
variable {K : PySem.W.Frag} {a b : Addr} {g : TG} {tt : TT} {te : TE} {Q : VK} {H : Hp}
end
end L2

set_option Elab.async false
set_option linter.all false
set_option maxRecDepth 100000
set_option maxHeartbeats 1000000
namespace L2
open PySem PySem.Spec PyProof.Rows
section
variable {X : Cx}
def cutN (cs : List Nat) (lo hi : Option Int) : List Nat := (cs.drop (HT.sIx cs.length 0 lo)).take (HT.sIx cs.length cs.length hi - HT.sIx cs.length 0 lo)
def rSlS : V → Option Int → Option Int → Hp → VK → Prop := fun x lo hi H Q => ∃ cs : List Nat, x = .str (txt cs) ∧ cs.length ≤ 1000 ∧ Q (.str (txt (cutN cs lo hi))) H
def rMulS : R2 := fun x y H Q => ∃ (c : Nat) (n : Nat), x = .str (txt [c]) ∧ y = .int n ∧ 1 ≤ n ∧ n ≤ 1000 ∧ Q (.str (txt (List.replicate n c))) H
def rCatS : R2 := fun x y H Q => ∃ cs ds : List Nat, x = .str (txt cs) ∧ y = .str (txt ds) ∧ cs.length + ds.length ≤ 1000 ∧ Q (.str (txt (cs ++ ds))) H
end
def tTryN (sp : Sp) (t : TA) (K : PySem.W.Frag) (C : Addr) (ts : TS) : TS := fun D σ H => t σ H fun vs H1 => sp vs H1 (fun _ H2 => D.nx σ H2) fun c _ H2 =>
  ∃ D', c = .ref D' ∧ PySem.W.subIn K (.ref D') (.ref C) = some true ∧ ∀ a, H2 a = none → ts { nx := fun _ _ => False, rt := D.rt } σ (upd H2 a (excO a D'))
section
variable {X : Cx} {CX : CXT} {x y : Str} {j k : Nat} {ps : List Str} {sp : Sp} {p pos tpos hpos np epos : Pos} {e : Expr} {es : List Expr} {t : TA} {C : Addr} {b₀ : Stmt} {suite : List Stmt} {ts : TS}
end
def tDict1T (K : PySem.W.Frag) (te : TE) : TE := fun σ H Q => te σ H fun x H1 => ∃ (p : Addr) (zs : List Str), x = .ref p ∧ SqT K H1 p (zs.map V.str) ∧ ∀ d, H1 d = none → Q (.ref d) (upd H1 d (dctO d))
def rUpper : V → List V → Hp → VK → Prop := fun x vs H Q => ∃ cs : List Nat, x = .str (txt cs) ∧ vs = [] ∧ (∀ c ∈ cs, 97 ≤ c ∧ c ≤ 122) ∧ cs.length ≤ 1000 ∧ Q (.str (txt (cs.map (· - 32)))) H
end L2

set_option Elab.async false
set_option linter.all false
set_option maxRecDepth 100000
set_option maxHeartbeats 1000000
namespace L2
open PySem PySem.Spec PyProof.Rows
structure Mk0 (K : PySem.W.Frag) (C : Addr) : Prop where
  makes : PySem.W.makesIn K C = true
  init : PySem.W.findIn K (.ref C) "__init__" = some (some (.builtin "object.__init__"))
  kp : PySem.W.keepIn K (.ref C) = true
def tMake0 (C : Addr) : TE := fun _ H Q => ∀ x dx, H x = none → H dx = none → dx ≠ x → Q (.ref x) (upd (upd H dx (.own x)) x (.ins C dx []))
section
variable {X : Cx} {C : Addr} {x : Str} {p pos apos : Pos}
theorem run_make0 {pins : List (Addr × Obj)} {σ : St} {H : Hp} {s : Shared} {Q : VK} (M : Mk0 X.K C) (I : Inv X pins σ H s)
    (h : ∀ x dx, H x = none → H dx = none → dx ≠ x → Q (.ref x) (upd (upd H dx (.own x)) x (.ins C dx []))) :
    wpAny (model X.prog X.w) X.A (call (.ref C) []) (EP X pins σ Q) X.xe s := by
  have hq := h (s.heap.objs.size + 1) s.heap.objs.size (I.hok.fresh (Nat.le_succ _)) (I.hok.fresh (Nat.le_refl _)) (Nat.ne_of_lt (Nat.lt_succ_self _))
  have I2 := Inv.made (C := C) I
  have Y := PySem.W.makes_of (M := model X.prog X.w) I.kIn M.makes
  have hx : ((s.heap.push PySem.W.emptyDict).push (PySem.W.instObj C s.heap.objs.size)).get? (s.heap.objs.size + 1) = some (PySem.W.instObj C s.heap.objs.size) := by
    have := Heap.get?_push_size (s.heap.push PySem.W.emptyDict) (o := PySem.W.instObj C s.heap.objs.size) rfl
    rwa [Heap.size_push] at this
  refine wpAny_call (make_map0 I.kIn M.makes M.init (fun self => PySem.W.Looks.of_pure (PySem.W.oi_bind self)) ?_)
  refine codeAny_call_builtin PySem.W.oi_plain PySem.W.entry_oi (PySem.W.check_slot PySem.W.oi_kind PySem.W.oi_split (PySem.W.Looks.andThen (PySem.W.Looks.andThen (PySem.W.Looks.ld hx) PySem.W.Looks.now) (PySem.W.Looks.keeps Y.top fun b o e => Heap.get?_push_of_some (PySem.W.instObj C s.heap.objs.size) (Heap.get?_push_of_some PySem.W.emptyDict e))) (PySem.W.oi_args (Value.ref (s.heap.objs.size + 1))) ?_)
  rw [PySem.W.oi_run]
  exact wpAny_pure ⟨rfl, ⟨V.ref (s.heap.objs.size + 1), _, I2, rfl, hq⟩⟩
theorem pe_makeN (M : Mk0 X.K C) (hg : Gl X x) (hm : X.mg x = some (.ref C)) (hdb : (x == ("__debug__" : Str)) = false := by decide) : PE X (.Call (.Name x p) [] [] pos) (tMake0 C) := by
  intro pins s σ H Q I h
  refine wpAny_Call_Name_kw (ld_glob I hg hm ?_ hdb)
  exact PySem.W.callWith_K0 I.kIn M.kp (run_make0 M I h)
end
structure MkC (P : Program) (w : World) (K : PySem.W.Frag) (mg : Str → Option Value) (base : Heap) (x : Str) (C : Addr) (k : Nat) (ps : List Str) (sp : Sp) : Prop where
  ex : ∃ f fd, Mk K C f ∧ FnOk P w K mg base CX0 k f fd ps sp ∧ Binds K fd ps []
  at_ : mg x = some (.ref C)
section
variable {X : Cx} {C : Addr} {x : Str} {j k : Nat} {ps : List Str} {sp : Sp} {p pos apos : Pos} {e o : Expr} {es : List Expr} {t : TA} {ta : TE} {m : Str}
theorem pe_makeC (M : MkC X.prog X.w X.K X.mg X.base x C j ps sp) (hr : Room k X.A) (hg : Gl X x) (ha : PA X (e :: es) t) (hj : j + 1 ≤ k := by decide) (hdb : (x == ("__debug__" : Str)) = false := by decide)
    (he : starEach (e :: es) X.env = (false, eval e X.env) :: starEach es X.env := by rfl) (hpl : (backTo pos (starEach es X.env)).any (·.1) = false := by rfl) :
    PE X (.Call (.Name x p) (e :: es) [] pos) (tMake C sp [] E0 t) := by
  obtain ⟨f, fd, Mk, F, b⟩ := M.ex
  exact pe_make Mk F (hr.mono hj) hg M.at_ b .nil pass0 ha hdb he hpl
structure Disp (P : Program) (w : World) (K : PySem.W.Frag) (mg : Str → Option Value) (base : Heap) (m : Str) (k : Nat) (ps : List Str) (C : Addr) (sp : Sp) : Prop where
  cls : Cls K C
  ex : ∃ f fd, Meth K C m f ∧ FnOk P w K mg base CX0 k f fd ps sp ∧ Binds K fd ps []
def tMethD (D : Addr → Sp → Prop) (m : Str) (ta : TE) (t : TA) : TE := fun σ H Q => ta σ H fun x H1 => ∃ a C dx fs sp, x = .ref a ∧ H1 a = some (.ins C dx fs) ∧ fs.lookup m = none ∧ D C sp ∧ t σ H1 fun vs H2 => sp (.ref a :: vs) H2 Q E0
theorem run_fnD {pins : List (Addr × Obj)} {σ : St} {H : Hp} {s : Shared} {Q : VK} {us : List Value} {vs : List V} {f : Addr} {fd : FuncData} (F : FnOk X.prog X.w X.K X.mg X.base CX0 k f fd ps sp) (hr : Room k X.A) (hb : Binds X.K fd ps [])
    (I : Inv X pins σ H s) (r : Vals vs us) (h : sp vs H Q E0) : wpAny (model X.prog X.w) X.A (call (.ref f) us) (EP X pins σ Q) X.xe s := by
  have := run_fn F hr hb .nil pass0 I r (by rw [List.append_nil]; exact h)
  exact this
theorem pe_methD {D : Addr → Sp → Prop} {pl : Sem Bool} (he : PE X o ta) (hD : ∀ C sp, D C sp → Disp X.prog X.w X.K X.mg X.base m j ps C sp) (hr : Room k X.A) (ha : PA X (e :: es) t) (hj : j ≤ k := by decide)
    (hst : starEach (e :: es) X.env = (false, eval e X.env) :: starEach es X.env := by rfl) (hpl : (backTo pos (starEach es X.env)).any (·.1) = false := by rfl)
    (ht : eval (.Call (.Attribute o m apos) (e :: es) [] pos) X.env = (do
      let ov ← eval o X.env
      standAt apos.atName
      let (f, first) ← holding [ov] (getMethod ov m pl)
      callWith pos f first (backTo pos (starEach (e :: es) X.env)) (backToKw pos (keywordEach [] X.env))) := by rfl) :
    PE X (.Call (.Attribute o m apos) (e :: es) [] pos) (tMethD D m ta t) := by
  intro pins s σ H Q I h
  refine PySem.W.methodCall_KW (pl := pl) (thn (he pins s σ H _ I h) fun u s1 ⟨x, H1, I1, rx, a, C, dx, fs, sp, ex, ea, l, d, q⟩ => ?_) ht
  subst ex
  obtain rfl : u = Value.ref a := rx
  obtain ⟨c, f, fd, hm, F, hb⟩ := hD C sp d
  refine getmeth_ok I1 ea c hm l ?_
  refine PySem.W.callWith_K (first := [.ref a]) (h₀ := X.base) I.ok.mod.kin hm.kp (thn (ha pos pins s1 σ H1 _ I1 q) fun us s2 ⟨vs, H2, I2, r, q2⟩ => ⟨I2.kIn, ?_⟩) hst hpl
  exact run_fnD (us := .ref a :: us) (vs := .ref a :: vs) F (hr.mono hj) hb I2 (.cons rfl r) q2
theorem pe_methD0 {D : Addr → Sp → Prop} {pl : Sem Bool} (he : PE X o ta) (hD : ∀ C sp, D C sp → Disp X.prog X.w X.K X.mg X.base m j ps C sp) (hr : Room k X.A) (hj : j ≤ k := by decide)
    (ht : eval (.Call (.Attribute o m apos) [] [] pos) X.env = (do
      let ov ← eval o X.env
      standAt apos.atName
      let (f, first) ← holding [ov] (getMethod ov m pl)
      callWith pos f first (backTo pos (starEach [] X.env)) (backToKw pos (keywordEach [] X.env))) := by rfl) :
    PE X (.Call (.Attribute o m apos) [] [] pos) (tMethD D m ta tNil) := by
  intro pins s σ H Q I h
  refine PySem.W.methodCall_KW (pl := pl) (thn (he pins s σ H _ I h) fun u s1 ⟨x, H1, I1, rx, a, C, dx, fs, sp, ex, ea, l, d, q⟩ => ?_) ht
  subst ex
  obtain rfl : u = Value.ref a := rx
  obtain ⟨c, f, fd, hm, F, hb⟩ := hD C sp d
  refine getmeth_ok I1 ea c hm l ?_
  exact PySem.W.callWith_K0 (first := [.ref a]) I1.kIn hm.kp (run_fnD (us := [.ref a]) (vs := [.ref a]) F (hr.mono hj) hb I1 (.cons rfl .nil) q)
theorem pe_fldK {K : PySem.W.Frag} {f : Str} (hK : X.K = K) (he : PE X e ta) (hb : attributeBase e f X.env (eval e X.env) = eval e X.env) : PE X (.Attribute e f pos) (tFld K ta f) := by
  subst hK
  exact pe_fld he hb
end
structure ICls (K : PySem.W.Frag) (C : Addr) : Prop where
  cl : Cls K C
  ha : PySem.W.findIn K (.ref C) "__class__" = some (some (.builtin "object.__class__"))
  hn : PySem.W.specialIn K (.builtin "object.__class__") "__get__" = some (some (.builtin "getset_descriptor.__get__"))
  htk : PySem.W.takesIn K (.builtin "object.__class__") = some true
  hm : PySem.W.mroIn K C (.type "object") = some true
def rIsiO (K : PySem.W.Frag) : List V → Hp → VK → Prop := fun xs H Q => ∃ (a C D dx : Addr) (fs : List (Str × V)) (b : Bool), xs = [.ref a, .ref C] ∧ H a = some (.ins D dx fs) ∧ ICls K D ∧ PySem.W.kitOne K (.ref D) (.ref C) = some b ∧ Q (.bl b) H
theorem call_isiO {X : Cx} : CallR X (.builtin "isinstance") (rIsiO X.K) := by
  intro pins s σ H xs us Q I r h
  obtain ⟨a, C, D, dx, fs, b, rfl, ea, c, kit, q⟩ := h
  obtain ⟨u, w', rfl, rx, rt⟩ := vals2 r
  obtain rfl : w' = Value.ref C := rt
  exact isinst_ok I rx (.ins ea c.cl c.ha c.hn c.htk c.hm) kit fun tk => ⟨.bl b, H, I.tok tk, rfl, q⟩
def tChain3 (r r' r'' : R2) (ta tb tc td : TE) : TE := fun σ H Q => ta σ H fun x H1 => tb σ H1 fun y H2 => r x y H2 fun z H3 => ∃ k, z = .bl k ∧
  (if k = true then tc σ H3 fun w' H4 => r' y w' H4 fun z' H5 => ∃ k', z' = .bl k' ∧ (if k' = true then td σ H5 fun v' H6 => r'' w' v' H6 Q else Q (.bl false) H5) else Q (.bl false) H3)
section
variable {X : Cx} {a b c d : Expr} {ta tb tc td : TE} {pos : Pos}
theorem pe_chain3 {op op' op'' : CmpOp} {r r' r'' : R2} (ho : OpR X (compareOp op) r) (ho' : OpR X (compareOp op') r') (ho'' : OpR X (compareOp op'') r'') (ha : PE X a ta) (hb : PE X b tb) (hc : PE X c tc) (hd : PE X d td)
    (hm : lastMarks [op, op', op''] [b, c, d] = false := by with_unfolding_all rfl) : PE X (.Compare a [op, op', op''] [b, c, d] pos) (tChain3 r r' r'' ta tb tc td) := by
  intro pins s σ H Q I h
  refine Compare_chain (thn (ha pins s σ H _ I h) fun v s1 ⟨x, H1, I1, r1, q1⟩ => chain_link (thn (hb pins s1 σ H1 _ I1 q1) fun u s2 ⟨y, H2, I2, r2, q2⟩ =>
    thn (ho pins s2 σ H2 x y v u _ I2 r1 r2 q2) fun dd s3 ⟨z, H3, I3, r3, k, e, q3⟩ => ?_)) hm
  subst e
  cases r3
  refine wpAny_truthy_bool ?_
  cases k with
  | false => exact ite_ff ⟨.bl false, H3, I3, rfl, q3⟩
  | true =>
    refine ite_tt (chain_link (thn (hc pins s3 σ H3 _ I3 q3) fun w' s4 ⟨z', H4, I4, r4, q4⟩ => thn (ho' pins s4 σ H4 y z' u w' _ I4 r2 r4 q4) fun d2 s5 ⟨z2, H5, I5, r5, k2, e2, q5⟩ => ?_))
    subst e2
    cases r5
    refine wpAny_truthy_bool ?_
    cases k2 with
    | false => exact ite_ff ⟨.bl false, H5, I5, rfl, q5⟩
    | true => exact ite_tt (chain_last (thn (hd pins s5 σ H5 _ I5 q5) fun w6 s6 ⟨z6, H6, I6, r6, q6⟩ => ho'' pins s6 σ H6 z' z6 w' w6 Q I6 r4 r6 q6))
end
def rSlTQ (K : PySem.W.Frag) : V → Option Int → Option Int → Hp → VK → Prop := fun x lo hi H Q => ∃ a xs, x = .ref a ∧ SqT K H a xs ∧ ∀ p H', Same H H' → SqT K H' p (cutV xs lo hi) → Q (.ref p) H'
theorem sl_tupQK {X : Cx} {K : PySem.W.Frag} (h : X.K = K) : SlR X (rSlTQ K) := by
  subst h
  intro pins s σ H x v vl vu lo hi sl Q I rx hs pl pu h
  obtain ⟨a, xs, rfl, T, q⟩ := h
  refine sl_tupA pins s σ H _ v vl vu lo hi sl Q I rx hs pl pu ⟨a, xs, rfl, T, fun e => q _ _ (Same.refl _) (by rw [e]; exact T), fun p hp => q _ _ (fun b u z => ?_) (SqT.of upd_same)⟩
  rw [upd_ne (ne_of_none z hp)]
  exact z
def rCatTQ (K : PySem.W.Frag) : R2 := fun x y H Q => ∃ a b xs ys, x = .ref a ∧ y = .ref b ∧ SqT K H a xs ∧ SqT K H b ys ∧ xs.length + ys.length ≤ sizeLine ∧ ∀ p H', Same H H' → SqT K H' p (xs ++ ys) → Q (.ref p) H'
theorem op_catTQ {X : Cx} : OpR X (binaryOp .Add) (rCatTQ X.K) := by
  intro pins s σ H x y v u Q I rx ry h
  obtain ⟨a, b, xs, ys, rfl, rfl, ha, hb, hz, q⟩ := h
  have sn : ∀ p, H p = none → Same H (upd H p (.tup (xs ++ ys))) := fun p hp b u z => by rw [upd_ne (ne_of_none z hp)]; exact z
  by_cases hx : xs = []
  · subst hx
    cases rx
    cases ry
    obtain ⟨its, r1, p1, _⟩ := I.tuple ha
    obtain ⟨its2, r2, p2, _⟩ := I.tuple hb
    have e0 := r1.nil_iff.mpr rfl
    obtain ⟨⟨cls, dd, data, sl⟩, ho, hc, n, hd⟩ := id p1
    obtain ⟨⟨cls2, dd2, data2, sl2⟩, ho2, hc2, n2, hd2⟩ := id p2
    simp only at hc hd hc2 hd2
    subst hc hd hc2 hd2
    exact concat_meets ⟨_, ho, rfl⟩ ⟨_, ho2, rfl⟩ noFill_tuple_add seq_tuple_add PySem.F.slot_tuple_add PySem.F.entry_tuple_add (PySem.F.args_tuple_add_2 _ _)
      (tuple_addW0 a b its.toArray its2.toArray n n2 dd dd2 sl sl2 (by simp [e0])) ⟨ho, ho2, ⟨.ref b, H, I, rfl, q _ _ (Same.refl _) hb⟩⟩
  · refine op_catT pins s σ H _ _ v u Q I rx ry ⟨a, b, xs, ys, rfl, rfl, ha, hb, hx, hz, fun e => q _ _ (Same.refl _) (by rw [e, List.append_nil]; exact ha), fun _ p hp => q _ _ (sn p hp) (SqT.of upd_same)⟩
end L2

set_option Elab.async false
set_option linter.all false
set_option maxRecDepth 100000
set_option maxHeartbeats 1000000
namespace L2
open PySem PySem.Spec PyProof.Rows
section
variable {prog : Program} {w : World} {A : Around} {E : Value → Shared → Prop} {s : Shared} {z TI TO i1 i2 : Addr}
end
def ItzT (K : PySem.W.Frag) (a b : Addr) : It := ⟨fun i H => ∃ xs ys x y, SqT K H a xs ∧ SqT K H b ys ∧ xs[i]? = some x ∧ ys[i]? = some y,
  fun i H x H' => ∃ T u v, H T = none ∧ x = .ref T ∧ H' = upd H T (.tup [u, v]) ∧ (∀ xs, SqT K H a xs → xs[i]? = some u) ∧ ∀ ys, SqT K H b ys → ys[i]? = some v,
  fun i H => ∃ xs ys, SqT K H a xs ∧ SqT K H b ys ∧ xs.length = ys.length ∧ xs.length = i⟩
def iZipT (K : PySem.W.Frag) (ta : TA) : TI := fun σ H R => ta σ H fun vs H1 => ∃ a b, vs = [.ref a, .ref b] ∧ (∃ xs, SqT K H1 a xs) ∧ (∃ ys, SqT K H1 b ys) ∧ R (ItzT K a b) H1
end L2

set_option Elab.async false
set_option linter.all false
set_option maxRecDepth 100000
set_option maxHeartbeats 1000000
namespace HT
open PySem PySem.Spec PyProof.Rows
section
variable {prog : Program} {w : World} {A : Around} {E : Value → Shared → Prop} {s : Shared}
end
end HT
namespace L2
open PySem PySem.Spec PyProof.Rows
def rTurnT (K : PySem.W.Frag) : V → Hp → VK → Prop := fun x H Q => ∃ a xs, x = .ref a ∧ SqT K H a xs ∧ ∀ p, H p = none → Q (.ref p) (upd H p (.tup xs.reverse))
def tTurn (K : PySem.W.Frag) (te : TE) (ts : TO) : TE := fun σ H Q => te σ H fun x H1 => ts σ H1 fun o H2 => o = some (-1) ∧ rTurnT K x H2 Q
end L2

set_option Elab.async false
set_option linter.all false
set_option maxRecDepth 100000
set_option maxHeartbeats 1000000
namespace L2
open PySem PySem.Spec PyProof.Rows
def tTryS (sp : Sp) (t : TA) (i iz : Nat) (K : PySem.W.Frag) (C : Addr) (ts : TS) : TS := fun D σ H => t σ H fun vs H1 => sp vs H1 (fun v H2 => D.nx (σ.set iz (some v)) H2) fun c _ H2 =>
  ∃ D', c = .ref D' ∧ PySem.W.subIn K (.ref D') (.ref C) = some true ∧ ∀ a, H2 a = none → ts { nx := fun _ _ => False, rt := D.rt } (σ.set i (some (.ref a))) (upd H2 a (excO a D'))
section
variable {X : Cx} {CX : CXT} {x y n z : Str} {j k i iz : Nat} {ps : List Str} {sp : Sp} {p zpos pos tpos hpos np epos : Pos} {e : Expr} {es : List Expr} {t : TA} {C : Addr} {b₀ : Stmt} {suite : List Stmt} {ts : TS}
end
end L2

set_option Elab.async false
set_option linter.all false
set_option maxRecDepth 100000
set_option maxHeartbeats 1000000
namespace L2
open PySem PySem.Spec PyProof.Rows
def rCountT : V → List V → Hp → VK → Prop := fun x vs H Q => ∃ (p : Addr) (ns : List Int) (j : Int), x = .ref p ∧ vs = [.int j] ∧ H p = some (.tup (ns.map V.int)) ∧ Q (.int (ns.count j)) H
end L2

set_option linter.all false
namespace MthL
def pk (ws : List Int) (w : Int) (i : Nat) : Bool := decide (0 < ws.getD i 0 ∧ ws.getD i 0 ≤ w ∧ ∀ j, j < i → ws.getD j 0 ≠ ws.getD i 0)
def rk (ws : List Int) (w : Int) : Nat := ((List.range ws.length).filter (pk ws w)).length
theorem first {ws : List Int} {w : Int} (h : w ∈ ws) : ∃ i, i < ws.length ∧ ws.getD i 0 = w ∧ ∀ j, j < i → ws.getD j 0 ≠ w := by
  induction ws with
  | nil => cases h
  | cons a ws ih =>
    by_cases e : a = w
    · exact ⟨0, Nat.zero_lt_succ _, e, fun j hj => absurd hj (Nat.not_lt_zero _)⟩
    · obtain ⟨i, h1, h2, h3⟩ := ih ((List.mem_cons.mp h).resolve_left fun z => e z.symm)
      refine ⟨i + 1, Nat.succ_lt_succ h1, h2, fun j hj => ?_⟩
      cases j with
      | zero => exact e
      | succ j => exact h3 j (Nat.lt_of_succ_lt_succ hj)
theorem below {ws : List Int} (w : Int) : (∀ o ∈ ws, 0 < o → w ≤ o) ∨ ∃ v ∈ ws, 0 < v ∧ v < w ∧ ∀ o ∈ ws, o < w → o ≤ v := by
  induction ws with
  | nil => exact .inl fun o ho => by cases ho
  | cons a ws ih =>
    by_cases ha : 0 < a ∧ a < w
    · rcases ih with ih | ⟨v, h1, h2, h3, h4⟩
      · refine .inr ⟨a, List.mem_cons_self .., ha.1, ha.2, fun o ho hl => ?_⟩
        rcases List.mem_cons.mp ho with rfl | ho
        · exact Int.le_refl _
        · by_cases h0 : 0 < o
          · have := ih o ho h0
            omega
          · omega
      · by_cases hv : a ≤ v
        · refine .inr ⟨v, List.mem_cons_of_mem _ h1, h2, h3, fun o ho hl => ?_⟩
          rcases List.mem_cons.mp ho with rfl | ho
          · exact hv
          · exact h4 o ho hl
        · refine .inr ⟨a, List.mem_cons_self .., ha.1, ha.2, fun o ho hl => ?_⟩
          rcases List.mem_cons.mp ho with rfl | ho
          · exact Int.le_refl _
          · have := h4 o ho hl
            omega
    · rcases ih with ih | ⟨v, h1, h2, h3, h4⟩
      · refine .inl fun o ho h0 => ?_
        rcases List.mem_cons.mp ho with rfl | ho
        · omega
        · exact ih o ho h0
      · refine .inr ⟨v, List.mem_cons_of_mem _ h1, h2, h3, fun o ho hl => ?_⟩
        rcases List.mem_cons.mp ho with rfl | ho
        · omega
        · exact h4 o ho hl
def look (ws : List Int) : List Int := ws.map fun w => (rk ws w : Int)
end MthL

set_option linter.all false
namespace Mth
def cell (ns : List Int) (k : Int) : Int :=
  if k < (ns.length : Int) then ns.getD k.toNat 0 % 10 ^ 60
  else (if 0 < (ns.length : Int) then ns.getD (k * 7 % (ns.length : Int)).toNat 0 % 10 ^ 60 * 48271 + k * k * 69621 else 7919 * k + 5) % 2147483647 * 16807 % 2147483629
def gcd (a b : Int) : Int := (Int.gcd a b : Nat)
theorem gcd_zero {a : Int} (h : 0 ≤ a) : gcd a 0 = a := by
  unfold gcd
  rw [Int.gcd_zero_right]
  omega
theorem gcd_comm (a b : Int) : gcd a b = gcd b a := by
  unfold gcd
  rw [Int.gcd_comm]
theorem gcd_abs (a b : Int) : gcd (if a < 0 then -a else a) (if b < 0 then -b else b) = gcd a b := by
  unfold gcd
  have e1 : (if a < 0 then -a else a).natAbs = a.natAbs := by split <;> omega
  have e2 : (if b < 0 then -b else b).natAbs = b.natAbs := by split <;> omega
  show ((Nat.gcd _ _ : Nat) : Int) = ((Nat.gcd _ _ : Nat) : Int)
  rw [e1, e2]
theorem gcd_step {a b : Int} (ha : 0 ≤ a) (hb : 0 < b) : gcd b (a % b) = gcd a b := by
  unfold gcd
  congr 1
  show Nat.gcd _ _ = Nat.gcd _ _
  have e : (a % b).natAbs = a.natAbs % b.natAbs := by
    rw [Int.natAbs_emod_of_nonneg ha]
  rw [e, Nat.gcd_comm a.natAbs, Nat.gcd_rec b.natAbs a.natAbs, Nat.gcd_comm]
  
theorem gcd_dvd_right (a b : Int) : gcd a b ∣ b := Int.gcd_dvd_right ..
theorem gcd_pos {a b : Int} (h : b ≠ 0) : 0 < gcd a b := by
  have : 0 < Int.gcd a b := Int.gcd_pos_of_ne_zero_right a h
  unfold gcd
  omega
theorem gcd_div {a b : Int} (h : b ≠ 0) : gcd (a / gcd a b) (b / gcd a b) = 1 := by
  unfold gcd
  have hp : 0 < Int.gcd a b := Int.gcd_pos_of_ne_zero_right a h
  have := Int.gcd_ediv_gcd_ediv_gcd hp
  rw [this]
  rfl
structure IsShare (t b x y : Int) : Prop where
  pos : 0 < y
  low : gcd x y = 1
  eq : x * b = t * y
  le1 : x.natAbs ≤ t.natAbs
  le2 : y.natAbs ≤ b.natAbs
structure Low (T : Int × Int) (x y : Int) : Prop where
  pos : 0 < y
  low : gcd x y = 1
  eq : x * T.2 = T.1 * y
end Mth

set_option Elab.async false
set_option linter.all false
set_option maxRecDepth 100000
set_option maxHeartbeats 4000000
namespace My
open PySem L2
def spLaw (K : PySem.W.Frag) : Sp := fun vs H Q _ => ∃ (a : Addr) (ns : List Int), vs = [.ref a] ∧ SqL K H a (ns.map V.int) ∧ ns.length ≤ 63 ∧ ∀ H', Q (.bl true) H'
theorem atI_map {ns : List Int} {k : Int} (h0 : 0 ≤ k) (h1 : k < ns.length) : atI (ns.map V.int) k = some (.int (ns.getD k.toNat 0)) := by
  have e : k = ((k.toNat : Nat) : Int) := by omega
  have h2 : k.toNat < ns.length := by omega
  have q : (ns.map V.int)[k.toNat]? = some (.int (ns.getD k.toNat 0)) := by
    rw [List.getElem?_map, List.getElem?_eq_getElem h2]
    simp [List.getD, h2]
  have := atI_nat q
  rw [← e] at this
  exact this
theorem bitsN {n : Nat} {i : Int} (lo : -(10 ^ 61) ≤ i) (hi : i ≤ 10 ^ 61) (hn : 204 ≤ n := by decide) : Bits n i := (Bits.of (n := 204) (b := 10 ^ 61) lo hi (by decide)).mono hn
theorem same_new {H : Hp} {p : Addr} (h : H p = none) (o : HO) : Same H (upd H p o) := fun b u q => by rw [upd_ne (ne_of_none q h)]; exact q
theorem Same.tup {K : PySem.W.Frag} {H H' : Hp} {a : Addr} {xs : List V} (e : Same H H') (h : SqT K H a xs) : SqT K H' a xs := by
  rcases h with (h | ⟨o, h⟩) | h
  · exact .inl (.inl (e _ _ h))
  · exact .inl (.inr ⟨o, e _ _ h⟩)
  · exact .inr h
theorem cpow {n : Int} (h0 : 0 ≤ n := by decide) (h1 : n ≤ 1000000 := by decide) : CPow 10 n := ⟨h0, h1, by decide⟩
theorem ten_pos (n : Nat) : (0 : Int) < 10 ^ n := Int.pow_pos (by decide)
theorem cmul {i j : Int} (a : -(10 ^ 61) ≤ i) (b : i ≤ 10 ^ 61) (c : -(10 ^ 61) ≤ j) (d : j ≤ 10 ^ 61) : CMulB i j := ⟨bitsN a b, bitsN c d⟩
theorem cdiv {i j : Int} (a : 0 < j) (b : j ≤ 10 ^ 61) : CDivB i j := ⟨a, bitsN (by omega) b⟩
theorem getD_at {α : Type} {ws : List α} {j : Nat} {d : α} (h : j < ws.length) : ws.getD j d = ws[j] := by simp only [List.getD, List.getElem?_eq_getElem h, Option.getD_some]
theorem ixN_nat {n j : Nat} (h : j < n) : ixN n (j : Int) = some j := by
  unfold ixN
  rw [if_pos (by omega), if_pos (by omega)]
  rfl
theorem fresh_tup {K : PySem.W.Frag} {H : Hp} {p : Addr} (h : H p = none) (xs : List V) : ∃ H1, H1 = upd H p (.tup xs) ∧ Same H H1 ∧ SqT K H1 p xs := ⟨_, rfl, same_new h _, SqT.of upd_same⟩
theorem fresh_lst {K : PySem.W.Frag} {H : Hp} {p : Addr} (h : H p = none) (xs : List V) : ∃ H1, H1 = upd H p (.lst xs) ∧ Same H H1 ∧ SqL K H1 p xs := ⟨_, rfl, same_new h _, SqL.of upd_same⟩
theorem fresh_dct {K : PySem.W.Frag} {H : Hp} {p : Addr} (h : H p = none) : ∃ H1, H1 = upd H p (dctO p) ∧ Same H H1 ∧ Kd K H1 (.ref p) .dct := ⟨_, rfl, same_new h _, Kd.dct upd_same⟩
theorem same_upd {H H' : Hp} {l : Addr} (e : Same H H') (h : H l = none) (o : HO) : Same H (upd H' l o) := fun b u hb => by rw [upd_ne (ne_of_none hb h)]; exact e _ _ hb


def top (i : Nat) : Stmt := PySem.Challenge.pw_tariffgate_k54_joined_rules.main.body.getD i (.Pass ⟨0, 0, 0, 0⟩)
def inner : Stmt → Nat → Stmt
  | .ClassDef _ _ _ b _ _ _ _ _ _ _, j => b.getD j (.Pass ⟨0, 0, 0, 0⟩)
  | st, _ => st
theorem dn_thing : (("thing" : Str) == ("__debug__" : Str)) = false := by decide
theorem dc_thing : (("thing" : Str) == ("__classdict__" : Str)) = false := by decide
theorem nn_thing : ("thing" : Str) ≠ "__name__" := by decide
theorem dn_isinstance : (("isinstance" : Str) == ("__debug__" : Str)) = false := by decide
theorem dc_isinstance : (("isinstance" : Str) == ("__classdict__" : Str)) = false := by decide
theorem nn_isinstance : ("isinstance" : Str) ≠ "__name__" := by decide
theorem dn_int : (("int" : Str) == ("__debug__" : Str)) = false := by decide
theorem dc_int : (("int" : Str) == ("__classdict__" : Str)) = false := by decide
theorem nn_int : ("int" : Str) ≠ "__name__" := by decide
theorem dn_bool : (("bool" : Str) == ("__debug__" : Str)) = false := by decide
theorem dc_bool : (("bool" : Str) == ("__classdict__" : Str)) = false := by decide
theorem nn_bool : ("bool" : Str) ≠ "__name__" := by decide
theorem dn_one : (("one" : Str) == ("__debug__" : Str)) = false := by decide
theorem dc_one : (("one" : Str) == ("__classdict__" : Str)) = false := by decide
theorem nn_one : ("one" : Str) ≠ "__name__" := by decide
theorem dn_other : (("other" : Str) == ("__debug__" : Str)) = false := by decide
theorem dc_other : (("other" : Str) == ("__classdict__" : Str)) = false := by decide
theorem nn_other : ("other" : Str) ≠ "__name__" := by decide
theorem dn_larger : (("larger" : Str) == ("__debug__" : Str)) = false := by decide
theorem dc_larger : (("larger" : Str) == ("__classdict__" : Str)) = false := by decide
theorem nn_larger : ("larger" : Str) ≠ "__name__" := by decide
theorem dn_smaller : (("smaller" : Str) == ("__debug__" : Str)) = false := by decide
theorem dc_smaller : (("smaller" : Str) == ("__classdict__" : Str)) = false := by decide
theorem nn_smaller : ("smaller" : Str) ≠ "__name__" := by decide
theorem dn_abs : (("abs" : Str) == ("__debug__" : Str)) = false := by decide
theorem dc_abs : (("abs" : Str) == ("__classdict__" : Str)) = false := by decide
theorem nn_abs : ("abs" : Str) ≠ "__name__" := by decide
theorem dn_rest : (("rest" : Str) == ("__debug__" : Str)) = false := by decide
theorem dc_rest : (("rest" : Str) == ("__classdict__" : Str)) = false := by decide
theorem nn_rest : ("rest" : Str) ≠ "__name__" := by decide
theorem dn_tuple : (("tuple" : Str) == ("__debug__" : Str)) = false := by decide
theorem dc_tuple : (("tuple" : Str) == ("__classdict__" : Str)) = false := by decide
theorem nn_tuple : ("tuple" : Str) ≠ "__name__" := by decide
theorem dn_len : (("len" : Str) == ("__debug__" : Str)) = false := by decide
theorem dc_len : (("len" : Str) == ("__classdict__" : Str)) = false := by decide
theorem nn_len : ("len" : Str) ≠ "__name__" := by decide
theorem dn_is_whole : (("is_whole" : Str) == ("__debug__" : Str)) = false := by decide
theorem dc_is_whole : (("is_whole" : Str) == ("__classdict__" : Str)) = false := by decide
theorem nn_is_whole : ("is_whole" : Str) ≠ "__name__" := by decide
theorem dn_common_of : (("common_of" : Str) == ("__debug__" : Str)) = false := by decide
theorem dc_common_of : (("common_of" : Str) == ("__classdict__" : Str)) = false := by decide
theorem nn_common_of : ("common_of" : Str) ≠ "__name__" := by decide
theorem dn_is_share : (("is_share" : Str) == ("__debug__" : Str)) = false := by decide
theorem dc_is_share : (("is_share" : Str) == ("__classdict__" : Str)) = false := by decide
theorem nn_is_share : ("is_share" : Str) ≠ "__name__" := by decide
theorem dn_self : (("self" : Str) == ("__debug__" : Str)) = false := by decide
theorem dc_self : (("self" : Str) == ("__classdict__" : Str)) = false := by decide
theorem nn_self : ("self" : Str) ≠ "__name__" := by decide
theorem dn_number : (("number" : Str) == ("__debug__" : Str)) = false := by decide
theorem dc_number : (("number" : Str) == ("__classdict__" : Str)) = false := by decide
theorem nn_number : ("number" : Str) ≠ "__name__" := by decide
theorem dn_price : (("price" : Str) == ("__debug__" : Str)) = false := by decide
theorem dc_price : (("price" : Str) == ("__classdict__" : Str)) = false := by decide
theorem nn_price : ("price" : Str) ≠ "__name__" := by decide
theorem dn_own : (("own" : Str) == ("__debug__" : Str)) = false := by decide
theorem dc_own : (("own" : Str) == ("__classdict__" : Str)) = false := by decide
theorem nn_own : ("own" : Str) ≠ "__name__" := by decide
theorem dn_foreign : (("foreign" : Str) == ("__debug__" : Str)) = false := by decide
theorem dc_foreign : (("foreign" : Str) == ("__classdict__" : Str)) = false := by decide
theorem nn_foreign : ("foreign" : Str) ≠ "__name__" := by decide
theorem dn_deep : (("deep" : Str) == ("__debug__" : Str)) = false := by decide
theorem dc_deep : (("deep" : Str) == ("__classdict__" : Str)) = false := by decide
theorem nn_deep : ("deep" : Str) ≠ "__name__" := by decide
theorem dn_all : (("all" : Str) == ("__debug__" : Str)) = false := by decide
theorem dc_all : (("all" : Str) == ("__classdict__" : Str)) = false := by decide
theorem nn_all : ("all" : Str) ≠ "__name__" := by decide
theorem dn_share : (("share" : Str) == ("__debug__" : Str)) = false := by decide
theorem dc_share : (("share" : Str) == ("__classdict__" : Str)) = false := by decide
theorem nn_share : ("share" : Str) ≠ "__name__" := by decide
theorem dn_first : (("first" : Str) == ("__debug__" : Str)) = false := by decide
theorem dc_first : (("first" : Str) == ("__classdict__" : Str)) = false := by decide
theorem nn_first : ("first" : Str) ≠ "__name__" := by decide
theorem dn_word : (("word" : Str) == ("__debug__" : Str)) = false := by decide
theorem dc_word : (("word" : Str) == ("__classdict__" : Str)) = false := by decide
theorem nn_word : ("word" : Str) ≠ "__name__" := by decide
theorem dn_OneOf : (("OneOf" : Str) == ("__debug__" : Str)) = false := by decide
theorem dc_OneOf : (("OneOf" : Str) == ("__classdict__" : Str)) = false := by decide
theorem nn_OneOf : ("OneOf" : Str) ≠ "__name__" := by decide
theorem dn_AllOf : (("AllOf" : Str) == ("__debug__" : Str)) = false := by decide
theorem dc_AllOf : (("AllOf" : Str) == ("__classdict__" : Str)) = false := by decide
theorem nn_AllOf : ("AllOf" : Str) ≠ "__name__" := by decide
theorem dn_told : (("told" : Str) == ("__debug__" : Str)) = false := by decide
theorem dc_told : (("told" : Str) == ("__classdict__" : Str)) = false := by decide
theorem nn_told : ("told" : Str) ≠ "__name__" := by decide
theorem dn_NoRule : (("NoRule" : Str) == ("__debug__" : Str)) = false := by decide
theorem dc_NoRule : (("NoRule" : Str) == ("__classdict__" : Str)) = false := by decide
theorem nn_NoRule : ("NoRule" : Str) ≠ "__name__" := by decide
theorem dn_Grown : (("Grown" : Str) == ("__debug__" : Str)) = false := by decide
theorem dc_Grown : (("Grown" : Str) == ("__classdict__" : Str)) = false := by decide
theorem nn_Grown : ("Grown" : Str) ≠ "__name__" := by decide
theorem dn_is_deep : (("is_deep" : Str) == ("__debug__" : Str)) = false := by decide
theorem dc_is_deep : (("is_deep" : Str) == ("__classdict__" : Str)) = false := by decide
theorem nn_is_deep : ("is_deep" : Str) ≠ "__name__" := by decide
theorem dn_Change : (("Change" : Str) == ("__debug__" : Str)) = false := by decide
theorem dc_Change : (("Change" : Str) == ("__classdict__" : Str)) = false := by decide
theorem nn_Change : ("Change" : Str) ≠ "__name__" := by decide
theorem dn_is_share_of_one : (("is_share_of_one" : Str) == ("__debug__" : Str)) = false := by decide
theorem dc_is_share_of_one : (("is_share_of_one" : Str) == ("__classdict__" : Str)) = false := by decide
theorem nn_is_share_of_one : ("is_share_of_one" : Str) ≠ "__name__" := by decide
theorem dn_Worked : (("Worked" : Str) == ("__debug__" : Str)) = false := by decide
theorem dc_Worked : (("Worked" : Str) == ("__classdict__" : Str)) = false := by decide
theorem nn_Worked : ("Worked" : Str) ≠ "__name__" := by decide
theorem dn_left : (("left" : Str) == ("__debug__" : Str)) = false := by decide
theorem dc_left : (("left" : Str) == ("__classdict__" : Str)) = false := by decide
theorem nn_left : ("left" : Str) ≠ "__name__" := by decide
theorem dn_rule_of_one : (("rule_of_one" : Str) == ("__debug__" : Str)) = false := by decide
theorem dc_rule_of_one : (("rule_of_one" : Str) == ("__classdict__" : Str)) = false := by decide
theorem nn_rule_of_one : ("rule_of_one" : Str) ≠ "__name__" := by decide
theorem dn_rule_within : (("rule_within" : Str) == ("__debug__" : Str)) = false := by decide
theorem dc_rule_within : (("rule_within" : Str) == ("__classdict__" : Str)) = false := by decide
theorem nn_rule_within : ("rule_within" : Str) ≠ "__name__" := by decide
theorem dn_rule_of_rules : (("rule_of_rules" : Str) == ("__debug__" : Str)) = false := by decide
theorem dc_rule_of_rules : (("rule_of_rules" : Str) == ("__classdict__" : Str)) = false := by decide
theorem nn_rule_of_rules : ("rule_of_rules" : Str) ≠ "__name__" := by decide
theorem dn_str : (("str" : Str) == ("__debug__" : Str)) = false := by decide
theorem dc_str : (("str" : Str) == ("__classdict__" : Str)) = false := by decide
theorem nn_str : ("str" : Str) ≠ "__name__" := by decide
theorem dn__law_script : (("_law_script" : Str) == ("__debug__" : Str)) = false := by decide
theorem dc__law_script : (("_law_script" : Str) == ("__classdict__" : Str)) = false := by decide
theorem nn__law_script : ("_law_script" : Str) ≠ "__name__" := by decide
theorem dn__law_k : (("_law_k" : Str) == ("__debug__" : Str)) = false := by decide
theorem dc__law_k : (("_law_k" : Str) == ("__classdict__" : Str)) = false := by decide
theorem nn__law_k : ("_law_k" : Str) ≠ "__name__" := by decide
theorem dn__law_cell : (("_law_cell" : Str) == ("__debug__" : Str)) = false := by decide
theorem dc__law_cell : (("_law_cell" : Str) == ("__classdict__" : Str)) = false := by decide
theorem nn__law_cell : ("_law_cell" : Str) ≠ "__name__" := by decide
theorem dn__law_by : (("_law_by" : Str) == ("__debug__" : Str)) = false := by decide
theorem dc__law_by : (("_law_by" : Str) == ("__classdict__" : Str)) = false := by decide
theorem nn__law_by : ("_law_by" : Str) ≠ "__name__" := by decide
theorem dn__law_size : (("_law_size" : Str) == ("__debug__" : Str)) = false := by decide
theorem dc__law_size : (("_law_size" : Str) == ("__classdict__" : Str)) = false := by decide
theorem nn__law_size : ("_law_size" : Str) ≠ "__name__" := by decide
theorem dn__law_wide : (("_law_wide" : Str) == ("__debug__" : Str)) = false := by decide
theorem dc__law_wide : (("_law_wide" : Str) == ("__classdict__" : Str)) = false := by decide
theorem nn__law_wide : ("_law_wide" : Str) ≠ "__name__" := by decide
theorem dn_range : (("range" : Str) == ("__debug__" : Str)) = false := by decide
theorem dc_range : (("range" : Str) == ("__classdict__" : Str)) = false := by decide
theorem nn_range : ("range" : Str) ≠ "__name__" := by decide
theorem dn__law_mix : (("_law_mix" : Str) == ("__debug__" : Str)) = false := by decide
theorem dc__law_mix : (("_law_mix" : Str) == ("__classdict__" : Str)) = false := by decide
theorem nn__law_mix : ("_law_mix" : Str) ≠ "__name__" := by decide
theorem dn__law_one : (("_law_one" : Str) == ("__debug__" : Str)) = false := by decide
theorem dc__law_one : (("_law_one" : Str) == ("__classdict__" : Str)) = false := by decide
theorem nn__law_one : ("_law_one" : Str) ≠ "__name__" := by decide
theorem dn__law_other : (("_law_other" : Str) == ("__debug__" : Str)) = false := by decide
theorem dc__law_other : (("_law_other" : Str) == ("__classdict__" : Str)) = false := by decide
theorem nn__law_other : ("_law_other" : Str) ≠ "__name__" := by decide
theorem dn__law_rest : (("_law_rest" : Str) == ("__debug__" : Str)) = false := by decide
theorem dc__law_rest : (("_law_rest" : Str) == ("__classdict__" : Str)) = false := by decide
theorem nn__law_rest : ("_law_rest" : Str) ≠ "__name__" := by decide
theorem dn__law_bottom : (("_law_bottom" : Str) == ("__debug__" : Str)) = false := by decide
theorem dc__law_bottom : (("_law_bottom" : Str) == ("__classdict__" : Str)) = false := by decide
theorem nn__law_bottom : ("_law_bottom" : Str) ≠ "__name__" := by decide
theorem dn__law_top : (("_law_top" : Str) == ("__debug__" : Str)) = false := by decide
theorem dc__law_top : (("_law_top" : Str) == ("__classdict__" : Str)) = false := by decide
theorem nn__law_top : ("_law_top" : Str) ≠ "__name__" := by decide
theorem dn__law_common : (("_law_common" : Str) == ("__debug__" : Str)) = false := by decide
theorem dc__law_common : (("_law_common" : Str) == ("__classdict__" : Str)) = false := by decide
theorem nn__law_common : ("_law_common" : Str) ≠ "__name__" := by decide
theorem dn__law_deep : (("_law_deep" : Str) == ("__debug__" : Str)) = false := by decide
theorem dc__law_deep : (("_law_deep" : Str) == ("__classdict__" : Str)) = false := by decide
theorem nn__law_deep : ("_law_deep" : Str) ≠ "__name__" := by decide
theorem dn__law_way : (("_law_way" : Str) == ("__debug__" : Str)) = false := by decide
theorem dc__law_way : (("_law_way" : Str) == ("__classdict__" : Str)) = false := by decide
theorem nn__law_way : ("_law_way" : Str) ≠ "__name__" := by decide
theorem dn__law_rule : (("_law_rule" : Str) == ("__debug__" : Str)) = false := by decide
theorem dc__law_rule : (("_law_rule" : Str) == ("__classdict__" : Str)) = false := by decide
theorem nn__law_rule : ("_law_rule" : Str) ≠ "__name__" := by decide
theorem dn__law_part : (("_law_part" : Str) == ("__debug__" : Str)) = false := by decide
theorem dc__law_part : (("_law_part" : Str) == ("__classdict__" : Str)) = false := by decide
theorem nn__law_part : ("_law_part" : Str) ≠ "__name__" := by decide
theorem dn__law_told : (("_law_told" : Str) == ("__debug__" : Str)) = false := by decide
theorem dc__law_told : (("_law_told" : Str) == ("__classdict__" : Str)) = false := by decide
theorem nn__law_told : ("_law_told" : Str) ≠ "__name__" := by decide
theorem dn__law_made : (("_law_made" : Str) == ("__debug__" : Str)) = false := by decide
theorem dc__law_made : (("_law_made" : Str) == ("__classdict__" : Str)) = false := by decide
theorem nn__law_made : ("_law_made" : Str) ≠ "__name__" := by decide
theorem dn__law_number_here : (("_law_number_here" : Str) == ("__debug__" : Str)) = false := by decide
theorem dc__law_number_here : (("_law_number_here" : Str) == ("__classdict__" : Str)) = false := by decide
theorem nn__law_number_here : ("_law_number_here" : Str) ≠ "__name__" := by decide
theorem dn__law_price : (("_law_price" : Str) == ("__debug__" : Str)) = false := by decide
theorem dc__law_price : (("_law_price" : Str) == ("__classdict__" : Str)) = false := by decide
theorem nn__law_price : ("_law_price" : Str) ≠ "__name__" := by decide
theorem dn__law_own : (("_law_own" : Str) == ("__debug__" : Str)) = false := by decide
theorem dc__law_own : (("_law_own" : Str) == ("__classdict__" : Str)) = false := by decide
theorem nn__law_own : ("_law_own" : Str) ≠ "__name__" := by decide
theorem dn__law_foreign : (("_law_foreign" : Str) == ("__debug__" : Str)) = false := by decide
theorem dc__law_foreign : (("_law_foreign" : Str) == ("__classdict__" : Str)) = false := by decide
theorem nn__law_foreign : ("_law_foreign" : Str) ≠ "__name__" := by decide
theorem dn__law_enough : (("_law_enough" : Str) == ("__debug__" : Str)) = false := by decide
theorem dc__law_enough : (("_law_enough" : Str) == ("__classdict__" : Str)) = false := by decide
theorem nn__law_enough : ("_law_enough" : Str) ≠ "__name__" := by decide
theorem dn__law_share : (("_law_share" : Str) == ("__debug__" : Str)) = false := by decide
theorem dc__law_share : (("_law_share" : Str) == ("__classdict__" : Str)) = false := by decide
theorem nn__law_share : ("_law_share" : Str) ≠ "__name__" := by decide
theorem dn_list : (("list" : Str) == ("__debug__" : Str)) = false := by decide
theorem dc_list : (("list" : Str) == ("__classdict__" : Str)) = false := by decide
theorem nn_list : ("list" : Str) ≠ "__name__" := by decide
theorem dn__law_side : (("_law_side" : Str) == ("__debug__" : Str)) = false := by decide
theorem dc__law_side : (("_law_side" : Str) == ("__classdict__" : Str)) = false := by decide
theorem nn__law_side : ("_law_side" : Str) ≠ "__name__" := by decide
theorem dn__law_inner : (("_law_inner" : Str) == ("__debug__" : Str)) = false := by decide
theorem dc__law_inner : (("_law_inner" : Str) == ("__classdict__" : Str)) = false := by decide
theorem nn__law_inner : ("_law_inner" : Str) ≠ "__name__" := by decide
theorem dn__law_bad : (("_law_bad" : Str) == ("__debug__" : Str)) = false := by decide
theorem dc__law_bad : (("_law_bad" : Str) == ("__classdict__" : Str)) = false := by decide
theorem nn__law_bad : ("_law_bad" : Str) ≠ "__name__" := by decide
theorem dn__law_spoilt : (("_law_spoilt" : Str) == ("__debug__" : Str)) = false := by decide
theorem dc__law_spoilt : (("_law_spoilt" : Str) == ("__classdict__" : Str)) = false := by decide
theorem nn__law_spoilt : ("_law_spoilt" : Str) ≠ "__name__" := by decide
theorem dn__law_more : (("_law_more" : Str) == ("__debug__" : Str)) = false := by decide
theorem dc__law_more : (("_law_more" : Str) == ("__classdict__" : Str)) = false := by decide
theorem nn__law_more : ("_law_more" : Str) ≠ "__name__" := by decide
theorem dn__law_word : (("_law_word" : Str) == ("__debug__" : Str)) = false := by decide
theorem dc__law_word : (("_law_word" : Str) == ("__classdict__" : Str)) = false := by decide
theorem nn__law_word : ("_law_word" : Str) ≠ "__name__" := by decide
theorem dn_e : (("e" : Str) == ("__debug__" : Str)) = false := by decide
theorem dc_e : (("e" : Str) == ("__classdict__" : Str)) = false := by decide
theorem nn_e : ("e" : Str) ≠ "__name__" := by decide
theorem dn_TariffError : (("TariffError" : Str) == ("__debug__" : Str)) = false := by decide
theorem dc_TariffError : (("TariffError" : Str) == ("__classdict__" : Str)) = false := by decide
theorem nn_TariffError : ("TariffError" : Str) ≠ "__name__" := by decide
theorem dn_rule_of : (("rule_of" : Str) == ("__debug__" : Str)) = false := by decide
theorem dc_rule_of : (("rule_of" : Str) == ("__classdict__" : Str)) = false := by decide
theorem nn_rule_of : ("rule_of" : Str) ≠ "__name__" := by decide
theorem dn_NoLot : (("NoLot" : Str) == ("__debug__" : Str)) = false := by decide
theorem dc_NoLot : (("NoLot" : Str) == ("__classdict__" : Str)) = false := by decide
theorem nn_NoLot : ("NoLot" : Str) ≠ "__name__" := by decide
theorem dn_NoRate : (("NoRate" : Str) == ("__debug__" : Str)) = false := by decide
theorem dc_NoRate : (("NoRate" : Str) == ("__classdict__" : Str)) = false := by decide
theorem nn_NoRate : ("NoRate" : Str) ≠ "__name__" := by decide
theorem dn_NoNote : (("NoNote" : Str) == ("__debug__" : Str)) = false := by decide
theorem dc_NoNote : (("NoNote" : Str) == ("__classdict__" : Str)) = false := by decide
theorem nn_NoNote : ("NoNote" : Str) ≠ "__name__" := by decide
theorem dn_NoNumber : (("NoNumber" : Str) == ("__debug__" : Str)) = false := by decide
theorem dc_NoNumber : (("NoNumber" : Str) == ("__classdict__" : Str)) = false := by decide
theorem nn_NoNumber : ("NoNumber" : Str) ≠ "__name__" := by decide
theorem dn_ValueError : (("ValueError" : Str) == ("__debug__" : Str)) = false := by decide
theorem dc_ValueError : (("ValueError" : Str) == ("__classdict__" : Str)) = false := by decide
theorem nn_ValueError : ("ValueError" : Str) ≠ "__name__" := by decide
theorem dn__law_rule_here : (("_law_rule_here" : Str) == ("__debug__" : Str)) = false := by decide
theorem dc__law_rule_here : (("_law_rule_here" : Str) == ("__classdict__" : Str)) = false := by decide
theorem nn__law_rule_here : ("_law_rule_here" : Str) ≠ "__name__" := by decide
theorem dn__law_some : (("_law_some" : Str) == ("__debug__" : Str)) = false := by decide
theorem dc__law_some : (("_law_some" : Str) == ("__classdict__" : Str)) = false := by decide
theorem nn__law_some : ("_law_some" : Str) ≠ "__name__" := by decide
theorem dn__law_found : (("_law_found" : Str) == ("__debug__" : Str)) = false := by decide
theorem dc__law_found : (("_law_found" : Str) == ("__classdict__" : Str)) = false := by decide
theorem nn__law_found : ("_law_found" : Str) ≠ "__name__" := by decide
theorem dn_Rule : (("Rule" : Str) == ("__debug__" : Str)) = false := by decide
theorem dc_Rule : (("Rule" : Str) == ("__classdict__" : Str)) = false := by decide
theorem nn_Rule : ("Rule" : Str) ≠ "__name__" := by decide
theorem dn__law_many : (("_law_many" : Str) == ("__debug__" : Str)) = false := by decide
theorem dc__law_many : (("_law_many" : Str) == ("__classdict__" : Str)) = false := by decide
theorem nn__law_many : ("_law_many" : Str) ≠ "__name__" := by decide
theorem dn__law_number : (("_law_number" : Str) == ("__debug__" : Str)) = false := by decide
theorem dc__law_number : (("_law_number" : Str) == ("__classdict__" : Str)) = false := by decide
theorem nn__law_number : ("_law_number" : Str) ≠ "__name__" := by decide
theorem dn__law_cell_at : (("_law_cell_at" : Str) == ("__debug__" : Str)) = false := by decide
theorem dc__law_cell_at : (("_law_cell_at" : Str) == ("__classdict__" : Str)) = false := by decide
theorem nn__law_cell_at : ("_law_cell_at" : Str) ≠ "__name__" := by decide
theorem dn__law_j : (("_law_j" : Str) == ("__debug__" : Str)) = false := by decide
theorem dc__law_j : (("_law_j" : Str) == ("__classdict__" : Str)) = false := by decide
theorem nn__law_j : ("_law_j" : Str) ≠ "__name__" := by decide
theorem dn__law_edge : (("_law_edge" : Str) == ("__debug__" : Str)) = false := by decide
theorem dc__law_edge : (("_law_edge" : Str) == ("__classdict__" : Str)) = false := by decide
theorem nn__law_edge : ("_law_edge" : Str) ≠ "__name__" := by decide
theorem dn__law_plain : (("_law_plain" : Str) == ("__debug__" : Str)) = false := by decide
theorem dc__law_plain : (("_law_plain" : Str) == ("__classdict__" : Str)) = false := by decide
theorem nn__law_plain : ("_law_plain" : Str) ≠ "__name__" := by decide
theorem dn__law_deeper : (("_law_deeper" : Str) == ("__debug__" : Str)) = false := by decide
theorem dc__law_deeper : (("_law_deeper" : Str) == ("__classdict__" : Str)) = false := by decide
theorem nn__law_deeper : ("_law_deeper" : Str) ≠ "__name__" := by decide
theorem dn__law_refused : (("_law_refused" : Str) == ("__debug__" : Str)) = false := by decide
theorem dc__law_refused : (("_law_refused" : Str) == ("__classdict__" : Str)) = false := by decide
theorem nn__law_refused : ("_law_refused" : Str) ≠ "__name__" := by decide
theorem dn__law_asked : (("_law_asked" : Str) == ("__debug__" : Str)) = false := by decide
theorem dc__law_asked : (("_law_asked" : Str) == ("__classdict__" : Str)) = false := by decide
theorem nn__law_asked : ("_law_asked" : Str) ≠ "__name__" := by decide
theorem dn__law_holds : (("_law_holds" : Str) == ("__debug__" : Str)) = false := by decide
theorem dc__law_holds : (("_law_holds" : Str) == ("__classdict__" : Str)) = false := by decide
theorem nn__law_holds : ("_law_holds" : Str) ≠ "__name__" := by decide
abbrev s_is_whole : Stmt := top 8
theorem sc_is_whole : FnScope ["thing"] ["thing"] (defScope s_is_whole) := ⟨rfl, rfl, rfl, by decide +kernel, rfl, by decide +kernel, by decide +kernel⟩
theorem v_is_whole_0 : Vis (defScope s_is_whole) "thing" := by first | exact Or.inl rfl | exact Or.inr (Or.inl rfl) | exact Or.inr (Or.inr rfl)
theorem l_is_whole_0 : Loc (defScope s_is_whole) "thing" := by first | exact Or.inl rfl | exact Or.inr rfl
theorem g_is_whole_isinstance : (defScope s_is_whole).names.lookup ("isinstance" : Str) = some .globalImplicit := by rfl
theorem g_is_whole_int : (defScope s_is_whole).names.lookup ("int" : Str) = some .globalImplicit := by rfl
theorem g_is_whole_bool : (defScope s_is_whole).names.lookup ("bool" : Str) = some .globalImplicit := by rfl
abbrev s_common_of : Stmt := top 9
theorem sc_common_of : FnScope ["one", "other", "larger", "smaller", "rest"] ["one", "other"] (defScope s_common_of) := ⟨rfl, rfl, rfl, by decide +kernel, rfl, by decide +kernel, by decide +kernel⟩
theorem v_common_of_0 : Vis (defScope s_common_of) "one" := by first | exact Or.inl rfl | exact Or.inr (Or.inl rfl) | exact Or.inr (Or.inr rfl)
theorem l_common_of_0 : Loc (defScope s_common_of) "one" := by first | exact Or.inl rfl | exact Or.inr rfl
theorem v_common_of_1 : Vis (defScope s_common_of) "other" := by first | exact Or.inl rfl | exact Or.inr (Or.inl rfl) | exact Or.inr (Or.inr rfl)
theorem l_common_of_1 : Loc (defScope s_common_of) "other" := by first | exact Or.inl rfl | exact Or.inr rfl
theorem v_common_of_2 : Vis (defScope s_common_of) "larger" := by first | exact Or.inl rfl | exact Or.inr (Or.inl rfl) | exact Or.inr (Or.inr rfl)
theorem l_common_of_2 : Loc (defScope s_common_of) "larger" := by first | exact Or.inl rfl | exact Or.inr rfl
theorem v_common_of_3 : Vis (defScope s_common_of) "smaller" := by first | exact Or.inl rfl | exact Or.inr (Or.inl rfl) | exact Or.inr (Or.inr rfl)
theorem l_common_of_3 : Loc (defScope s_common_of) "smaller" := by first | exact Or.inl rfl | exact Or.inr rfl
theorem v_common_of_4 : Vis (defScope s_common_of) "rest" := by first | exact Or.inl rfl | exact Or.inr (Or.inl rfl) | exact Or.inr (Or.inr rfl)
theorem l_common_of_4 : Loc (defScope s_common_of) "rest" := by first | exact Or.inl rfl | exact Or.inr rfl
theorem g_common_of_abs : (defScope s_common_of).names.lookup ("abs" : Str) = some .globalImplicit := by rfl
abbrev s_is_share : Stmt := top 10
theorem sc_is_share : FnScope ["thing"] ["thing"] (defScope s_is_share) := ⟨rfl, rfl, rfl, by decide +kernel, rfl, by decide +kernel, by decide +kernel⟩
theorem v_is_share_0 : Vis (defScope s_is_share) "thing" := by first | exact Or.inl rfl | exact Or.inr (Or.inl rfl) | exact Or.inr (Or.inr rfl)
theorem l_is_share_0 : Loc (defScope s_is_share) "thing" := by first | exact Or.inl rfl | exact Or.inr rfl
theorem g_is_share_isinstance : (defScope s_is_share).names.lookup ("isinstance" : Str) = some .globalImplicit := by rfl
theorem g_is_share_tuple : (defScope s_is_share).names.lookup ("tuple" : Str) = some .globalImplicit := by rfl
theorem g_is_share_len : (defScope s_is_share).names.lookup ("len" : Str) = some .globalImplicit := by rfl
theorem g_is_share_is_whole : (defScope s_is_share).names.lookup ("is_whole" : Str) = some .globalImplicit := by rfl
theorem g_is_share_common_of : (defScope s_is_share).names.lookup ("common_of" : Str) = some .globalImplicit := by rfl
abbrev s_is_deep : Stmt := top 19
theorem sc_is_deep : FnScope ["thing"] ["thing"] (defScope s_is_deep) := ⟨rfl, rfl, rfl, by decide +kernel, rfl, by decide +kernel, by decide +kernel⟩
theorem v_is_deep_0 : Vis (defScope s_is_deep) "thing" := by first | exact Or.inl rfl | exact Or.inr (Or.inl rfl) | exact Or.inr (Or.inr rfl)
theorem l_is_deep_0 : Loc (defScope s_is_deep) "thing" := by first | exact Or.inl rfl | exact Or.inr rfl
theorem g_is_deep_is_whole : (defScope s_is_deep).names.lookup ("is_whole" : Str) = some .globalImplicit := by rfl
abbrev s_is_share_of_one : Stmt := top 20
theorem sc_is_share_of_one : FnScope ["thing"] ["thing"] (defScope s_is_share_of_one) := ⟨rfl, rfl, rfl, by decide +kernel, rfl, by decide +kernel, by decide +kernel⟩
theorem v_is_share_of_one_0 : Vis (defScope s_is_share_of_one) "thing" := by first | exact Or.inl rfl | exact Or.inr (Or.inl rfl) | exact Or.inr (Or.inr rfl)
theorem l_is_share_of_one_0 : Loc (defScope s_is_share_of_one) "thing" := by first | exact Or.inl rfl | exact Or.inr rfl
theorem g_is_share_of_one_is_share : (defScope s_is_share_of_one).names.lookup ("is_share" : Str) = some .globalImplicit := by rfl
abbrev s_Grown_enough : Stmt := inner (top 13) 0
theorem sc_Grown_enough : FnScope ["self", "number", "price", "own", "foreign"] ["self", "number", "price", "own", "foreign"] (defScope s_Grown_enough) := ⟨rfl, rfl, rfl, by decide +kernel, rfl, by decide +kernel, by decide +kernel⟩
theorem v_Grown_enough_0 : Vis (defScope s_Grown_enough) "self" := by first | exact Or.inl rfl | exact Or.inr (Or.inl rfl) | exact Or.inr (Or.inr rfl)
theorem l_Grown_enough_0 : Loc (defScope s_Grown_enough) "self" := by first | exact Or.inl rfl | exact Or.inr rfl
theorem v_Grown_enough_1 : Vis (defScope s_Grown_enough) "number" := by first | exact Or.inl rfl | exact Or.inr (Or.inl rfl) | exact Or.inr (Or.inr rfl)
theorem l_Grown_enough_1 : Loc (defScope s_Grown_enough) "number" := by first | exact Or.inl rfl | exact Or.inr rfl
theorem v_Grown_enough_2 : Vis (defScope s_Grown_enough) "price" := by first | exact Or.inl rfl | exact Or.inr (Or.inl rfl) | exact Or.inr (Or.inr rfl)
theorem l_Grown_enough_2 : Loc (defScope s_Grown_enough) "price" := by first | exact Or.inl rfl | exact Or.inr rfl
theorem v_Grown_enough_3 : Vis (defScope s_Grown_enough) "own" := by first | exact Or.inl rfl | exact Or.inr (Or.inl rfl) | exact Or.inr (Or.inr rfl)
theorem l_Grown_enough_3 : Loc (defScope s_Grown_enough) "own" := by first | exact Or.inl rfl | exact Or.inr rfl
theorem v_Grown_enough_4 : Vis (defScope s_Grown_enough) "foreign" := by first | exact Or.inl rfl | exact Or.inr (Or.inl rfl) | exact Or.inr (Or.inr rfl)
theorem l_Grown_enough_4 : Loc (defScope s_Grown_enough) "foreign" := by first | exact Or.inl rfl | exact Or.inr rfl
theorem g_Grown_enough_len : (defScope s_Grown_enough).names.lookup ("len" : Str) = some .globalImplicit := by rfl
abbrev s_Grown_told : Stmt := inner (top 13) 1
theorem sc_Grown_told : FnScope ["self"] ["self"] (defScope s_Grown_told) := ⟨rfl, rfl, rfl, by decide +kernel, rfl, by decide +kernel, by decide +kernel⟩
theorem v_Grown_told_0 : Vis (defScope s_Grown_told) "self" := by first | exact Or.inl rfl | exact Or.inr (Or.inl rfl) | exact Or.inr (Or.inr rfl)
theorem l_Grown_told_0 : Loc (defScope s_Grown_told) "self" := by first | exact Or.inl rfl | exact Or.inr rfl
abbrev s_Change_init : Stmt := inner (top 14) 0
theorem sc_Change_init : FnScope ["self", "deep"] ["self", "deep"] (defScope s_Change_init) := ⟨rfl, rfl, rfl, by decide +kernel, rfl, by decide +kernel, by decide +kernel⟩
theorem v_Change_init_0 : Vis (defScope s_Change_init) "self" := by first | exact Or.inl rfl | exact Or.inr (Or.inl rfl) | exact Or.inr (Or.inr rfl)
theorem l_Change_init_0 : Loc (defScope s_Change_init) "self" := by first | exact Or.inl rfl | exact Or.inr rfl
theorem v_Change_init_1 : Vis (defScope s_Change_init) "deep" := by first | exact Or.inl rfl | exact Or.inr (Or.inl rfl) | exact Or.inr (Or.inr rfl)
theorem l_Change_init_1 : Loc (defScope s_Change_init) "deep" := by first | exact Or.inl rfl | exact Or.inr rfl
abbrev s_Change_enough : Stmt := inner (top 14) 1
theorem sc_Change_enough : FnScope ["self", "number", "price", "own", "foreign"] ["self", "number", "price", "own", "foreign"] (defScope s_Change_enough) := ⟨rfl, rfl, rfl, by decide +kernel, rfl, by decide +kernel, by decide +kernel⟩
theorem v_Change_enough_0 : Vis (defScope s_Change_enough) "self" := by first | exact Or.inl rfl | exact Or.inr (Or.inl rfl) | exact Or.inr (Or.inr rfl)
theorem l_Change_enough_0 : Loc (defScope s_Change_enough) "self" := by first | exact Or.inl rfl | exact Or.inr rfl
theorem v_Change_enough_1 : Vis (defScope s_Change_enough) "number" := by first | exact Or.inl rfl | exact Or.inr (Or.inl rfl) | exact Or.inr (Or.inr rfl)
theorem l_Change_enough_1 : Loc (defScope s_Change_enough) "number" := by first | exact Or.inl rfl | exact Or.inr rfl
theorem v_Change_enough_2 : Vis (defScope s_Change_enough) "price" := by first | exact Or.inl rfl | exact Or.inr (Or.inl rfl) | exact Or.inr (Or.inr rfl)
theorem l_Change_enough_2 : Loc (defScope s_Change_enough) "price" := by first | exact Or.inl rfl | exact Or.inr rfl
theorem v_Change_enough_3 : Vis (defScope s_Change_enough) "own" := by first | exact Or.inl rfl | exact Or.inr (Or.inl rfl) | exact Or.inr (Or.inr rfl)
theorem l_Change_enough_3 : Loc (defScope s_Change_enough) "own" := by first | exact Or.inl rfl | exact Or.inr rfl
theorem v_Change_enough_4 : Vis (defScope s_Change_enough) "foreign" := by first | exact Or.inl rfl | exact Or.inr (Or.inl rfl) | exact Or.inr (Or.inr rfl)
theorem l_Change_enough_4 : Loc (defScope s_Change_enough) "foreign" := by first | exact Or.inl rfl | exact Or.inr rfl
theorem g_Change_enough_all : (defScope s_Change_enough).names.lookup ("all" : Str) = some .globalImplicit := by rfl
abbrev s_Change_told : Stmt := inner (top 14) 2
theorem sc_Change_told : FnScope ["self"] ["self"] (defScope s_Change_told) := ⟨rfl, rfl, rfl, by decide +kernel, rfl, by decide +kernel, by decide +kernel⟩
theorem v_Change_told_0 : Vis (defScope s_Change_told) "self" := by first | exact Or.inl rfl | exact Or.inr (Or.inl rfl) | exact Or.inr (Or.inr rfl)
theorem l_Change_told_0 : Loc (defScope s_Change_told) "self" := by first | exact Or.inl rfl | exact Or.inr rfl
abbrev s_Worked_init : Stmt := inner (top 15) 0
theorem sc_Worked_init : FnScope ["self", "share"] ["self", "share"] (defScope s_Worked_init) := ⟨rfl, rfl, rfl, by decide +kernel, rfl, by decide +kernel, by decide +kernel⟩
theorem v_Worked_init_0 : Vis (defScope s_Worked_init) "self" := by first | exact Or.inl rfl | exact Or.inr (Or.inl rfl) | exact Or.inr (Or.inr rfl)
theorem l_Worked_init_0 : Loc (defScope s_Worked_init) "self" := by first | exact Or.inl rfl | exact Or.inr rfl
theorem v_Worked_init_1 : Vis (defScope s_Worked_init) "share" := by first | exact Or.inl rfl | exact Or.inr (Or.inl rfl) | exact Or.inr (Or.inr rfl)
theorem l_Worked_init_1 : Loc (defScope s_Worked_init) "share" := by first | exact Or.inl rfl | exact Or.inr rfl
abbrev s_Worked_enough : Stmt := inner (top 15) 1
theorem sc_Worked_enough : FnScope ["self", "number", "price", "own", "foreign"] ["self", "number", "price", "own", "foreign"] (defScope s_Worked_enough) := ⟨rfl, rfl, rfl, by decide +kernel, rfl, by decide +kernel, by decide +kernel⟩
theorem v_Worked_enough_0 : Vis (defScope s_Worked_enough) "self" := by first | exact Or.inl rfl | exact Or.inr (Or.inl rfl) | exact Or.inr (Or.inr rfl)
theorem l_Worked_enough_0 : Loc (defScope s_Worked_enough) "self" := by first | exact Or.inl rfl | exact Or.inr rfl
theorem v_Worked_enough_1 : Vis (defScope s_Worked_enough) "number" := by first | exact Or.inl rfl | exact Or.inr (Or.inl rfl) | exact Or.inr (Or.inr rfl)
theorem l_Worked_enough_1 : Loc (defScope s_Worked_enough) "number" := by first | exact Or.inl rfl | exact Or.inr rfl
theorem v_Worked_enough_2 : Vis (defScope s_Worked_enough) "price" := by first | exact Or.inl rfl | exact Or.inr (Or.inl rfl) | exact Or.inr (Or.inr rfl)
theorem l_Worked_enough_2 : Loc (defScope s_Worked_enough) "price" := by first | exact Or.inl rfl | exact Or.inr rfl
theorem v_Worked_enough_3 : Vis (defScope s_Worked_enough) "own" := by first | exact Or.inl rfl | exact Or.inr (Or.inl rfl) | exact Or.inr (Or.inr rfl)
theorem l_Worked_enough_3 : Loc (defScope s_Worked_enough) "own" := by first | exact Or.inl rfl | exact Or.inr rfl
theorem v_Worked_enough_4 : Vis (defScope s_Worked_enough) "foreign" := by first | exact Or.inl rfl | exact Or.inr (Or.inl rfl) | exact Or.inr (Or.inr rfl)
theorem l_Worked_enough_4 : Loc (defScope s_Worked_enough) "foreign" := by first | exact Or.inl rfl | exact Or.inr rfl
abbrev s_Worked_told : Stmt := inner (top 15) 2
theorem sc_Worked_told : FnScope ["self"] ["self"] (defScope s_Worked_told) := ⟨rfl, rfl, rfl, by decide +kernel, rfl, by decide +kernel, by decide +kernel⟩
theorem v_Worked_told_0 : Vis (defScope s_Worked_told) "self" := by first | exact Or.inl rfl | exact Or.inr (Or.inl rfl) | exact Or.inr (Or.inr rfl)
theorem l_Worked_told_0 : Loc (defScope s_Worked_told) "self" := by first | exact Or.inl rfl | exact Or.inr rfl
abbrev s_OfRules_init : Stmt := inner (top 16) 0
theorem sc_OfRules_init : FnScope ["self", "one", "other"] ["self", "one", "other"] (defScope s_OfRules_init) := ⟨rfl, rfl, rfl, by decide +kernel, rfl, by decide +kernel, by decide +kernel⟩
theorem v_OfRules_init_0 : Vis (defScope s_OfRules_init) "self" := by first | exact Or.inl rfl | exact Or.inr (Or.inl rfl) | exact Or.inr (Or.inr rfl)
theorem l_OfRules_init_0 : Loc (defScope s_OfRules_init) "self" := by first | exact Or.inl rfl | exact Or.inr rfl
theorem v_OfRules_init_1 : Vis (defScope s_OfRules_init) "one" := by first | exact Or.inl rfl | exact Or.inr (Or.inl rfl) | exact Or.inr (Or.inr rfl)
theorem l_OfRules_init_1 : Loc (defScope s_OfRules_init) "one" := by first | exact Or.inl rfl | exact Or.inr rfl
theorem v_OfRules_init_2 : Vis (defScope s_OfRules_init) "other" := by first | exact Or.inl rfl | exact Or.inr (Or.inl rfl) | exact Or.inr (Or.inr rfl)
theorem l_OfRules_init_2 : Loc (defScope s_OfRules_init) "other" := by first | exact Or.inl rfl | exact Or.inr rfl
abbrev s_AllOf_enough : Stmt := inner (top 17) 0
theorem sc_AllOf_enough : FnScope ["self", "number", "price", "own", "foreign", "first"] ["self", "number", "price", "own", "foreign"] (defScope s_AllOf_enough) := ⟨rfl, rfl, rfl, by decide +kernel, rfl, by decide +kernel, by decide +kernel⟩
theorem v_AllOf_enough_0 : Vis (defScope s_AllOf_enough) "self" := by first | exact Or.inl rfl | exact Or.inr (Or.inl rfl) | exact Or.inr (Or.inr rfl)
theorem l_AllOf_enough_0 : Loc (defScope s_AllOf_enough) "self" := by first | exact Or.inl rfl | exact Or.inr rfl
theorem v_AllOf_enough_1 : Vis (defScope s_AllOf_enough) "number" := by first | exact Or.inl rfl | exact Or.inr (Or.inl rfl) | exact Or.inr (Or.inr rfl)
theorem l_AllOf_enough_1 : Loc (defScope s_AllOf_enough) "number" := by first | exact Or.inl rfl | exact Or.inr rfl
theorem v_AllOf_enough_2 : Vis (defScope s_AllOf_enough) "price" := by first | exact Or.inl rfl | exact Or.inr (Or.inl rfl) | exact Or.inr (Or.inr rfl)
theorem l_AllOf_enough_2 : Loc (defScope s_AllOf_enough) "price" := by first | exact Or.inl rfl | exact Or.inr rfl
theorem v_AllOf_enough_3 : Vis (defScope s_AllOf_enough) "own" := by first | exact Or.inl rfl | exact Or.inr (Or.inl rfl) | exact Or.inr (Or.inr rfl)
theorem l_AllOf_enough_3 : Loc (defScope s_AllOf_enough) "own" := by first | exact Or.inl rfl | exact Or.inr rfl
theorem v_AllOf_enough_4 : Vis (defScope s_AllOf_enough) "foreign" := by first | exact Or.inl rfl | exact Or.inr (Or.inl rfl) | exact Or.inr (Or.inr rfl)
theorem l_AllOf_enough_4 : Loc (defScope s_AllOf_enough) "foreign" := by first | exact Or.inl rfl | exact Or.inr rfl
theorem v_AllOf_enough_5 : Vis (defScope s_AllOf_enough) "first" := by first | exact Or.inl rfl | exact Or.inr (Or.inl rfl) | exact Or.inr (Or.inr rfl)
theorem l_AllOf_enough_5 : Loc (defScope s_AllOf_enough) "first" := by first | exact Or.inl rfl | exact Or.inr rfl
abbrev s_AllOf_told : Stmt := inner (top 17) 1
theorem sc_AllOf_told : FnScope ["self"] ["self"] (defScope s_AllOf_told) := ⟨rfl, rfl, rfl, by decide +kernel, rfl, by decide +kernel, by decide +kernel⟩
theorem v_AllOf_told_0 : Vis (defScope s_AllOf_told) "self" := by first | exact Or.inl rfl | exact Or.inr (Or.inl rfl) | exact Or.inr (Or.inr rfl)
theorem l_AllOf_told_0 : Loc (defScope s_AllOf_told) "self" := by first | exact Or.inl rfl | exact Or.inr rfl
abbrev s_OneOf_enough : Stmt := inner (top 18) 0
theorem sc_OneOf_enough : FnScope ["self", "number", "price", "own", "foreign", "first"] ["self", "number", "price", "own", "foreign"] (defScope s_OneOf_enough) := ⟨rfl, rfl, rfl, by decide +kernel, rfl, by decide +kernel, by decide +kernel⟩
theorem v_OneOf_enough_0 : Vis (defScope s_OneOf_enough) "self" := by first | exact Or.inl rfl | exact Or.inr (Or.inl rfl) | exact Or.inr (Or.inr rfl)
theorem l_OneOf_enough_0 : Loc (defScope s_OneOf_enough) "self" := by first | exact Or.inl rfl | exact Or.inr rfl
theorem v_OneOf_enough_1 : Vis (defScope s_OneOf_enough) "number" := by first | exact Or.inl rfl | exact Or.inr (Or.inl rfl) | exact Or.inr (Or.inr rfl)
theorem l_OneOf_enough_1 : Loc (defScope s_OneOf_enough) "number" := by first | exact Or.inl rfl | exact Or.inr rfl
theorem v_OneOf_enough_2 : Vis (defScope s_OneOf_enough) "price" := by first | exact Or.inl rfl | exact Or.inr (Or.inl rfl) | exact Or.inr (Or.inr rfl)
theorem l_OneOf_enough_2 : Loc (defScope s_OneOf_enough) "price" := by first | exact Or.inl rfl | exact Or.inr rfl
theorem v_OneOf_enough_3 : Vis (defScope s_OneOf_enough) "own" := by first | exact Or.inl rfl | exact Or.inr (Or.inl rfl) | exact Or.inr (Or.inr rfl)
theorem l_OneOf_enough_3 : Loc (defScope s_OneOf_enough) "own" := by first | exact Or.inl rfl | exact Or.inr rfl
theorem v_OneOf_enough_4 : Vis (defScope s_OneOf_enough) "foreign" := by first | exact Or.inl rfl | exact Or.inr (Or.inl rfl) | exact Or.inr (Or.inr rfl)
theorem l_OneOf_enough_4 : Loc (defScope s_OneOf_enough) "foreign" := by first | exact Or.inl rfl | exact Or.inr rfl
theorem v_OneOf_enough_5 : Vis (defScope s_OneOf_enough) "first" := by first | exact Or.inl rfl | exact Or.inr (Or.inl rfl) | exact Or.inr (Or.inr rfl)
theorem l_OneOf_enough_5 : Loc (defScope s_OneOf_enough) "first" := by first | exact Or.inl rfl | exact Or.inr rfl
abbrev s_OneOf_told : Stmt := inner (top 18) 1
theorem sc_OneOf_told : FnScope ["self"] ["self"] (defScope s_OneOf_told) := ⟨rfl, rfl, rfl, by decide +kernel, rfl, by decide +kernel, by decide +kernel⟩
theorem v_OneOf_told_0 : Vis (defScope s_OneOf_told) "self" := by first | exact Or.inl rfl | exact Or.inr (Or.inl rfl) | exact Or.inr (Or.inr rfl)
theorem l_OneOf_told_0 : Loc (defScope s_OneOf_told) "self" := by first | exact Or.inl rfl | exact Or.inr rfl
abbrev s_rule_of_rules : Stmt := top 21
theorem sc_rule_of_rules : FnScope ["word", "one", "other"] ["word", "one", "other"] (defScope s_rule_of_rules) := ⟨rfl, rfl, rfl, by decide +kernel, rfl, by decide +kernel, by decide +kernel⟩
theorem v_rule_of_rules_0 : Vis (defScope s_rule_of_rules) "word" := by first | exact Or.inl rfl | exact Or.inr (Or.inl rfl) | exact Or.inr (Or.inr rfl)
theorem l_rule_of_rules_0 : Loc (defScope s_rule_of_rules) "word" := by first | exact Or.inl rfl | exact Or.inr rfl
theorem v_rule_of_rules_1 : Vis (defScope s_rule_of_rules) "one" := by first | exact Or.inl rfl | exact Or.inr (Or.inl rfl) | exact Or.inr (Or.inr rfl)
theorem l_rule_of_rules_1 : Loc (defScope s_rule_of_rules) "one" := by first | exact Or.inl rfl | exact Or.inr rfl
theorem v_rule_of_rules_2 : Vis (defScope s_rule_of_rules) "other" := by first | exact Or.inl rfl | exact Or.inr (Or.inl rfl) | exact Or.inr (Or.inr rfl)
theorem l_rule_of_rules_2 : Loc (defScope s_rule_of_rules) "other" := by first | exact Or.inl rfl | exact Or.inr rfl
theorem g_rule_of_rules_AllOf : (defScope s_rule_of_rules).names.lookup ("AllOf" : Str) = some .globalImplicit := by rfl
theorem g_rule_of_rules_OneOf : (defScope s_rule_of_rules).names.lookup ("OneOf" : Str) = some .globalImplicit := by rfl
abbrev s_rule_of_one : Stmt := top 22
theorem sc_rule_of_one : FnScope ["told"] ["told"] (defScope s_rule_of_one) := ⟨rfl, rfl, rfl, by decide +kernel, rfl, by decide +kernel, by decide +kernel⟩
theorem v_rule_of_one_0 : Vis (defScope s_rule_of_one) "told" := by first | exact Or.inl rfl | exact Or.inr (Or.inl rfl) | exact Or.inr (Or.inr rfl)
theorem l_rule_of_one_0 : Loc (defScope s_rule_of_one) "told" := by first | exact Or.inl rfl | exact Or.inr rfl
theorem g_rule_of_one_len : (defScope s_rule_of_one).names.lookup ("len" : Str) = some .globalImplicit := by rfl
theorem g_rule_of_one_Grown : (defScope s_rule_of_one).names.lookup ("Grown" : Str) = some .globalImplicit := by rfl
theorem g_rule_of_one_is_deep : (defScope s_rule_of_one).names.lookup ("is_deep" : Str) = some .globalImplicit := by rfl
theorem g_rule_of_one_Change : (defScope s_rule_of_one).names.lookup ("Change" : Str) = some .globalImplicit := by rfl
theorem g_rule_of_one_is_share_of_one : (defScope s_rule_of_one).names.lookup ("is_share_of_one" : Str) = some .globalImplicit := by rfl
theorem g_rule_of_one_Worked : (defScope s_rule_of_one).names.lookup ("Worked" : Str) = some .globalImplicit := by rfl
theorem g_rule_of_one_NoRule : (defScope s_rule_of_one).names.lookup ("NoRule" : Str) = some .globalImplicit := by rfl
abbrev s_rule_within : Stmt := top 23
theorem sc_rule_within : FnScope ["left", "told", "one", "other"] ["left", "told"] (defScope s_rule_within) := ⟨rfl, rfl, rfl, by decide +kernel, rfl, by decide +kernel, by decide +kernel⟩
theorem v_rule_within_0 : Vis (defScope s_rule_within) "left" := by first | exact Or.inl rfl | exact Or.inr (Or.inl rfl) | exact Or.inr (Or.inr rfl)
theorem l_rule_within_0 : Loc (defScope s_rule_within) "left" := by first | exact Or.inl rfl | exact Or.inr rfl
theorem v_rule_within_1 : Vis (defScope s_rule_within) "told" := by first | exact Or.inl rfl | exact Or.inr (Or.inl rfl) | exact Or.inr (Or.inr rfl)
theorem l_rule_within_1 : Loc (defScope s_rule_within) "told" := by first | exact Or.inl rfl | exact Or.inr rfl
theorem v_rule_within_2 : Vis (defScope s_rule_within) "one" := by first | exact Or.inl rfl | exact Or.inr (Or.inl rfl) | exact Or.inr (Or.inr rfl)
theorem l_rule_within_2 : Loc (defScope s_rule_within) "one" := by first | exact Or.inl rfl | exact Or.inr rfl
theorem v_rule_within_3 : Vis (defScope s_rule_within) "other" := by first | exact Or.inl rfl | exact Or.inr (Or.inl rfl) | exact Or.inr (Or.inr rfl)
theorem l_rule_within_3 : Loc (defScope s_rule_within) "other" := by first | exact Or.inl rfl | exact Or.inr rfl
theorem g_rule_within_NoRule : (defScope s_rule_within).names.lookup ("NoRule" : Str) = some .globalImplicit := by rfl
theorem g_rule_within_isinstance : (defScope s_rule_within).names.lookup ("isinstance" : Str) = some .globalImplicit := by rfl
theorem g_rule_within_tuple : (defScope s_rule_within).names.lookup ("tuple" : Str) = some .globalImplicit := by rfl
theorem g_rule_within_len : (defScope s_rule_within).names.lookup ("len" : Str) = some .globalImplicit := by rfl
theorem g_rule_within_str : (defScope s_rule_within).names.lookup ("str" : Str) = some .globalImplicit := by rfl
theorem g_rule_within_rule_within : (defScope s_rule_within).names.lookup ("rule_within" : Str) = some .globalImplicit := by rfl
theorem g_rule_within_rule_of_rules : (defScope s_rule_within).names.lookup ("rule_of_rules" : Str) = some .globalImplicit := by rfl
theorem g_rule_within_rule_of_one : (defScope s_rule_within).names.lookup ("rule_of_one" : Str) = some .globalImplicit := by rfl
abbrev s_rule_of : Stmt := top 24
theorem sc_rule_of : FnScope ["told"] ["told"] (defScope s_rule_of) := ⟨rfl, rfl, rfl, by decide +kernel, rfl, by decide +kernel, by decide +kernel⟩
theorem v_rule_of_0 : Vis (defScope s_rule_of) "told" := by first | exact Or.inl rfl | exact Or.inr (Or.inl rfl) | exact Or.inr (Or.inr rfl)
theorem l_rule_of_0 : Loc (defScope s_rule_of) "told" := by first | exact Or.inl rfl | exact Or.inr rfl
theorem g_rule_of_rule_within : (defScope s_rule_of).names.lookup ("rule_within" : Str) = some .globalImplicit := by rfl
abbrev s_law_cell_at : Stmt := top 26
theorem sc_law_cell_at : FnScope ["_law_script", "_law_k"] ["_law_script", "_law_k"] (defScope s_law_cell_at) := ⟨rfl, rfl, rfl, by decide +kernel, rfl, by decide +kernel, by decide +kernel⟩
theorem v_law_cell_at_0 : Vis (defScope s_law_cell_at) "_law_script" := by first | exact Or.inl rfl | exact Or.inr (Or.inl rfl) | exact Or.inr (Or.inr rfl)
theorem l_law_cell_at_0 : Loc (defScope s_law_cell_at) "_law_script" := by first | exact Or.inl rfl | exact Or.inr rfl
theorem v_law_cell_at_1 : Vis (defScope s_law_cell_at) "_law_k" := by first | exact Or.inl rfl | exact Or.inr (Or.inl rfl) | exact Or.inr (Or.inr rfl)
theorem l_law_cell_at_1 : Loc (defScope s_law_cell_at) "_law_k" := by first | exact Or.inl rfl | exact Or.inr rfl
theorem g_law_cell_at_len : (defScope s_law_cell_at).names.lookup ("len" : Str) = some .globalImplicit := by rfl
abbrev s_law_mix : Stmt := top 27
theorem sc_law_mix : FnScope ["_law_cell", "_law_by"] ["_law_cell", "_law_by"] (defScope s_law_mix) := ⟨rfl, rfl, rfl, by decide +kernel, rfl, by decide +kernel, by decide +kernel⟩
theorem v_law_mix_0 : Vis (defScope s_law_mix) "_law_cell" := by first | exact Or.inl rfl | exact Or.inr (Or.inl rfl) | exact Or.inr (Or.inr rfl)
theorem l_law_mix_0 : Loc (defScope s_law_mix) "_law_cell" := by first | exact Or.inl rfl | exact Or.inr rfl
theorem v_law_mix_1 : Vis (defScope s_law_mix) "_law_by" := by first | exact Or.inl rfl | exact Or.inr (Or.inl rfl) | exact Or.inr (Or.inr rfl)
theorem l_law_mix_1 : Loc (defScope s_law_mix) "_law_by" := by first | exact Or.inl rfl | exact Or.inr rfl
abbrev s_law_number : Stmt := top 29
theorem sc_law_number : FnScope ["_law_cell", "_law_size", "_law_wide", "_law_by"] ["_law_cell"] (defScope s_law_number) := ⟨rfl, rfl, rfl, by decide +kernel, rfl, by decide +kernel, by decide +kernel⟩
theorem v_law_number_0 : Vis (defScope s_law_number) "_law_cell" := by first | exact Or.inl rfl | exact Or.inr (Or.inl rfl) | exact Or.inr (Or.inr rfl)
theorem l_law_number_0 : Loc (defScope s_law_number) "_law_cell" := by first | exact Or.inl rfl | exact Or.inr rfl
theorem v_law_number_1 : Vis (defScope s_law_number) "_law_size" := by first | exact Or.inl rfl | exact Or.inr (Or.inl rfl) | exact Or.inr (Or.inr rfl)
theorem l_law_number_1 : Loc (defScope s_law_number) "_law_size" := by first | exact Or.inl rfl | exact Or.inr rfl
theorem v_law_number_2 : Vis (defScope s_law_number) "_law_wide" := by first | exact Or.inl rfl | exact Or.inr (Or.inl rfl) | exact Or.inr (Or.inr rfl)
theorem l_law_number_2 : Loc (defScope s_law_number) "_law_wide" := by first | exact Or.inl rfl | exact Or.inr rfl
theorem v_law_number_3 : Vis (defScope s_law_number) "_law_by" := by first | exact Or.inl rfl | exact Or.inr (Or.inl rfl) | exact Or.inr (Or.inr rfl)
theorem l_law_number_3 : Loc (defScope s_law_number) "_law_by" := by first | exact Or.inl rfl | exact Or.inr rfl
theorem g_law_number_tuple : (defScope s_law_number).names.lookup ("tuple" : Str) = some .globalImplicit := by rfl
theorem g_law_number_range : (defScope s_law_number).names.lookup ("range" : Str) = some .globalImplicit := by rfl
abbrev s_law_common : Stmt := top 30
theorem sc_law_common : FnScope ["_law_one", "_law_other", "_law_rest"] ["_law_one", "_law_other"] (defScope s_law_common) := ⟨rfl, rfl, rfl, by decide +kernel, rfl, by decide +kernel, by decide +kernel⟩
theorem v_law_common_0 : Vis (defScope s_law_common) "_law_one" := by first | exact Or.inl rfl | exact Or.inr (Or.inl rfl) | exact Or.inr (Or.inr rfl)
theorem l_law_common_0 : Loc (defScope s_law_common) "_law_one" := by first | exact Or.inl rfl | exact Or.inr rfl
theorem v_law_common_1 : Vis (defScope s_law_common) "_law_other" := by first | exact Or.inl rfl | exact Or.inr (Or.inl rfl) | exact Or.inr (Or.inr rfl)
theorem l_law_common_1 : Loc (defScope s_law_common) "_law_other" := by first | exact Or.inl rfl | exact Or.inr rfl
theorem v_law_common_2 : Vis (defScope s_law_common) "_law_rest" := by first | exact Or.inl rfl | exact Or.inr (Or.inl rfl) | exact Or.inr (Or.inr rfl)
theorem l_law_common_2 : Loc (defScope s_law_common) "_law_rest" := by first | exact Or.inl rfl | exact Or.inr rfl
abbrev s_law_part : Stmt := top 31
theorem sc_law_part : FnScope ["_law_cell", "_law_bottom", "_law_top", "_law_by"] ["_law_cell"] (defScope s_law_part) := ⟨rfl, rfl, rfl, by decide +kernel, rfl, by decide +kernel, by decide +kernel⟩
theorem v_law_part_0 : Vis (defScope s_law_part) "_law_cell" := by first | exact Or.inl rfl | exact Or.inr (Or.inl rfl) | exact Or.inr (Or.inr rfl)
theorem l_law_part_0 : Loc (defScope s_law_part) "_law_cell" := by first | exact Or.inl rfl | exact Or.inr rfl
theorem v_law_part_1 : Vis (defScope s_law_part) "_law_bottom" := by first | exact Or.inl rfl | exact Or.inr (Or.inl rfl) | exact Or.inr (Or.inr rfl)
theorem l_law_part_1 : Loc (defScope s_law_part) "_law_bottom" := by first | exact Or.inl rfl | exact Or.inr rfl
theorem v_law_part_2 : Vis (defScope s_law_part) "_law_top" := by first | exact Or.inl rfl | exact Or.inr (Or.inl rfl) | exact Or.inr (Or.inr rfl)
theorem l_law_part_2 : Loc (defScope s_law_part) "_law_top" := by first | exact Or.inl rfl | exact Or.inr rfl
theorem v_law_part_3 : Vis (defScope s_law_part) "_law_by" := by first | exact Or.inl rfl | exact Or.inr (Or.inl rfl) | exact Or.inr (Or.inr rfl)
theorem l_law_part_3 : Loc (defScope s_law_part) "_law_by" := by first | exact Or.inl rfl | exact Or.inr rfl
theorem g_law_part__law_mix : (defScope s_law_part).names.lookup ("_law_mix" : Str) = some .globalImplicit := by rfl
theorem g_law_part__law_common : (defScope s_law_part).names.lookup ("_law_common" : Str) = some .globalImplicit := by rfl
abbrev s_law_rule : Stmt := top 32
theorem sc_law_rule : FnScope ["_law_cell", "_law_deep", "_law_way", "_law_rest", "_law_one", "_law_other"] ["_law_cell", "_law_deep"] (defScope s_law_rule) := ⟨rfl, rfl, rfl, by decide +kernel, rfl, by decide +kernel, by decide +kernel⟩
theorem v_law_rule_0 : Vis (defScope s_law_rule) "_law_cell" := by first | exact Or.inl rfl | exact Or.inr (Or.inl rfl) | exact Or.inr (Or.inr rfl)
theorem l_law_rule_0 : Loc (defScope s_law_rule) "_law_cell" := by first | exact Or.inl rfl | exact Or.inr rfl
theorem v_law_rule_1 : Vis (defScope s_law_rule) "_law_deep" := by first | exact Or.inl rfl | exact Or.inr (Or.inl rfl) | exact Or.inr (Or.inr rfl)
theorem l_law_rule_1 : Loc (defScope s_law_rule) "_law_deep" := by first | exact Or.inl rfl | exact Or.inr rfl
theorem v_law_rule_2 : Vis (defScope s_law_rule) "_law_way" := by first | exact Or.inl rfl | exact Or.inr (Or.inl rfl) | exact Or.inr (Or.inr rfl)
theorem l_law_rule_2 : Loc (defScope s_law_rule) "_law_way" := by first | exact Or.inl rfl | exact Or.inr rfl
theorem v_law_rule_3 : Vis (defScope s_law_rule) "_law_rest" := by first | exact Or.inl rfl | exact Or.inr (Or.inl rfl) | exact Or.inr (Or.inr rfl)
theorem l_law_rule_3 : Loc (defScope s_law_rule) "_law_rest" := by first | exact Or.inl rfl | exact Or.inr rfl
theorem v_law_rule_4 : Vis (defScope s_law_rule) "_law_one" := by first | exact Or.inl rfl | exact Or.inr (Or.inl rfl) | exact Or.inr (Or.inr rfl)
theorem l_law_rule_4 : Loc (defScope s_law_rule) "_law_one" := by first | exact Or.inl rfl | exact Or.inr rfl
theorem v_law_rule_5 : Vis (defScope s_law_rule) "_law_other" := by first | exact Or.inl rfl | exact Or.inr (Or.inl rfl) | exact Or.inr (Or.inr rfl)
theorem l_law_rule_5 : Loc (defScope s_law_rule) "_law_other" := by first | exact Or.inl rfl | exact Or.inr rfl
theorem g_law_rule__law_rule : (defScope s_law_rule).names.lookup ("_law_rule" : Str) = some .globalImplicit := by rfl
theorem g_law_rule__law_mix : (defScope s_law_rule).names.lookup ("_law_mix" : Str) = some .globalImplicit := by rfl
theorem g_law_rule__law_part : (defScope s_law_rule).names.lookup ("_law_part" : Str) = some .globalImplicit := by rfl
abbrev s_law_made : Stmt := top 34
theorem sc_law_made : FnScope ["_law_told"] ["_law_told"] (defScope s_law_made) := ⟨rfl, rfl, rfl, by decide +kernel, rfl, by decide +kernel, by decide +kernel⟩
theorem v_law_made_0 : Vis (defScope s_law_made) "_law_told" := by first | exact Or.inl rfl | exact Or.inr (Or.inl rfl) | exact Or.inr (Or.inr rfl)
theorem l_law_made_0 : Loc (defScope s_law_made) "_law_told" := by first | exact Or.inl rfl | exact Or.inr rfl
theorem g_law_made_Grown : (defScope s_law_made).names.lookup ("Grown" : Str) = some .globalImplicit := by rfl
theorem g_law_made_Change : (defScope s_law_made).names.lookup ("Change" : Str) = some .globalImplicit := by rfl
theorem g_law_made_Worked : (defScope s_law_made).names.lookup ("Worked" : Str) = some .globalImplicit := by rfl
theorem g_law_made_AllOf : (defScope s_law_made).names.lookup ("AllOf" : Str) = some .globalImplicit := by rfl
theorem g_law_made__law_made : (defScope s_law_made).names.lookup ("_law_made" : Str) = some .globalImplicit := by rfl
theorem g_law_made_OneOf : (defScope s_law_made).names.lookup ("OneOf" : Str) = some .globalImplicit := by rfl
abbrev s_law_enough : Stmt := top 33
theorem sc_law_enough : FnScope ["_law_told", "_law_number_here", "_law_price", "_law_own", "_law_foreign", "_law_one", "_law_other"] ["_law_told", "_law_number_here", "_law_price", "_law_own", "_law_foreign"] (defScope s_law_enough) := ⟨rfl, rfl, rfl, by decide +kernel, rfl, by decide +kernel, by decide +kernel⟩
theorem v_law_enough_0 : Vis (defScope s_law_enough) "_law_told" := by first | exact Or.inl rfl | exact Or.inr (Or.inl rfl) | exact Or.inr (Or.inr rfl)
theorem l_law_enough_0 : Loc (defScope s_law_enough) "_law_told" := by first | exact Or.inl rfl | exact Or.inr rfl
theorem v_law_enough_1 : Vis (defScope s_law_enough) "_law_number_here" := by first | exact Or.inl rfl | exact Or.inr (Or.inl rfl) | exact Or.inr (Or.inr rfl)
theorem l_law_enough_1 : Loc (defScope s_law_enough) "_law_number_here" := by first | exact Or.inl rfl | exact Or.inr rfl
theorem v_law_enough_2 : Vis (defScope s_law_enough) "_law_price" := by first | exact Or.inl rfl | exact Or.inr (Or.inl rfl) | exact Or.inr (Or.inr rfl)
theorem l_law_enough_2 : Loc (defScope s_law_enough) "_law_price" := by first | exact Or.inl rfl | exact Or.inr rfl
theorem v_law_enough_3 : Vis (defScope s_law_enough) "_law_own" := by first | exact Or.inl rfl | exact Or.inr (Or.inl rfl) | exact Or.inr (Or.inr rfl)
theorem l_law_enough_3 : Loc (defScope s_law_enough) "_law_own" := by first | exact Or.inl rfl | exact Or.inr rfl
theorem v_law_enough_4 : Vis (defScope s_law_enough) "_law_foreign" := by first | exact Or.inl rfl | exact Or.inr (Or.inl rfl) | exact Or.inr (Or.inr rfl)
theorem l_law_enough_4 : Loc (defScope s_law_enough) "_law_foreign" := by first | exact Or.inl rfl | exact Or.inr rfl
theorem v_law_enough_5 : Vis (defScope s_law_enough) "_law_one" := by first | exact Or.inl rfl | exact Or.inr (Or.inl rfl) | exact Or.inr (Or.inr rfl)
theorem l_law_enough_5 : Loc (defScope s_law_enough) "_law_one" := by first | exact Or.inl rfl | exact Or.inr rfl
theorem v_law_enough_6 : Vis (defScope s_law_enough) "_law_other" := by first | exact Or.inl rfl | exact Or.inr (Or.inl rfl) | exact Or.inr (Or.inr rfl)
theorem l_law_enough_6 : Loc (defScope s_law_enough) "_law_other" := by first | exact Or.inl rfl | exact Or.inr rfl
theorem g_law_enough__law_enough : (defScope s_law_enough).names.lookup ("_law_enough" : Str) = some .globalImplicit := by rfl
theorem g_law_enough_len : (defScope s_law_enough).names.lookup ("len" : Str) = some .globalImplicit := by rfl
abbrev s_law_bad : Stmt := top 35
theorem sc_law_bad : FnScope ["_law_told", "_law_cell", "_law_way", "_law_share"] ["_law_told", "_law_cell"] (defScope s_law_bad) := ⟨rfl, rfl, rfl, by decide +kernel, rfl, by decide +kernel, by decide +kernel⟩
theorem v_law_bad_0 : Vis (defScope s_law_bad) "_law_told" := by first | exact Or.inl rfl | exact Or.inr (Or.inl rfl) | exact Or.inr (Or.inr rfl)
theorem l_law_bad_0 : Loc (defScope s_law_bad) "_law_told" := by first | exact Or.inl rfl | exact Or.inr rfl
theorem v_law_bad_1 : Vis (defScope s_law_bad) "_law_cell" := by first | exact Or.inl rfl | exact Or.inr (Or.inl rfl) | exact Or.inr (Or.inr rfl)
theorem l_law_bad_1 : Loc (defScope s_law_bad) "_law_cell" := by first | exact Or.inl rfl | exact Or.inr rfl
theorem v_law_bad_2 : Vis (defScope s_law_bad) "_law_way" := by first | exact Or.inl rfl | exact Or.inr (Or.inl rfl) | exact Or.inr (Or.inr rfl)
theorem l_law_bad_2 : Loc (defScope s_law_bad) "_law_way" := by first | exact Or.inl rfl | exact Or.inr rfl
theorem v_law_bad_3 : Vis (defScope s_law_bad) "_law_share" := by first | exact Or.inl rfl | exact Or.inr (Or.inl rfl) | exact Or.inr (Or.inr rfl)
theorem l_law_bad_3 : Loc (defScope s_law_bad) "_law_share" := by first | exact Or.inl rfl | exact Or.inr rfl
theorem g_law_bad_list : (defScope s_law_bad).names.lookup ("list" : Str) = some .globalImplicit := by rfl
abbrev s_law_spoilt : Stmt := top 36
theorem sc_law_spoilt : FnScope ["_law_told", "_law_cell", "_law_side", "_law_inner"] ["_law_told", "_law_cell"] (defScope s_law_spoilt) := ⟨rfl, rfl, rfl, by decide +kernel, rfl, by decide +kernel, by decide +kernel⟩
theorem v_law_spoilt_0 : Vis (defScope s_law_spoilt) "_law_told" := by first | exact Or.inl rfl | exact Or.inr (Or.inl rfl) | exact Or.inr (Or.inr rfl)
theorem l_law_spoilt_0 : Loc (defScope s_law_spoilt) "_law_told" := by first | exact Or.inl rfl | exact Or.inr rfl
theorem v_law_spoilt_1 : Vis (defScope s_law_spoilt) "_law_cell" := by first | exact Or.inl rfl | exact Or.inr (Or.inl rfl) | exact Or.inr (Or.inr rfl)
theorem l_law_spoilt_1 : Loc (defScope s_law_spoilt) "_law_cell" := by first | exact Or.inl rfl | exact Or.inr rfl
theorem v_law_spoilt_2 : Vis (defScope s_law_spoilt) "_law_side" := by first | exact Or.inl rfl | exact Or.inr (Or.inl rfl) | exact Or.inr (Or.inr rfl)
theorem l_law_spoilt_2 : Loc (defScope s_law_spoilt) "_law_side" := by first | exact Or.inl rfl | exact Or.inr rfl
theorem v_law_spoilt_3 : Vis (defScope s_law_spoilt) "_law_inner" := by first | exact Or.inl rfl | exact Or.inr (Or.inl rfl) | exact Or.inr (Or.inr rfl)
theorem l_law_spoilt_3 : Loc (defScope s_law_spoilt) "_law_inner" := by first | exact Or.inl rfl | exact Or.inr rfl
theorem g_law_spoilt__law_spoilt : (defScope s_law_spoilt).names.lookup ("_law_spoilt" : Str) = some .globalImplicit := by rfl
theorem g_law_spoilt__law_bad : (defScope s_law_spoilt).names.lookup ("_law_bad" : Str) = some .globalImplicit := by rfl
abbrev s_law_deeper : Stmt := top 37
theorem sc_law_deeper : FnScope ["_law_told", "_law_more", "_law_cell", "_law_k", "_law_word"] ["_law_told", "_law_more", "_law_cell"] (defScope s_law_deeper) := ⟨rfl, rfl, rfl, by decide +kernel, rfl, by decide +kernel, by decide +kernel⟩
theorem v_law_deeper_0 : Vis (defScope s_law_deeper) "_law_told" := by first | exact Or.inl rfl | exact Or.inr (Or.inl rfl) | exact Or.inr (Or.inr rfl)
theorem l_law_deeper_0 : Loc (defScope s_law_deeper) "_law_told" := by first | exact Or.inl rfl | exact Or.inr rfl
theorem v_law_deeper_1 : Vis (defScope s_law_deeper) "_law_more" := by first | exact Or.inl rfl | exact Or.inr (Or.inl rfl) | exact Or.inr (Or.inr rfl)
theorem l_law_deeper_1 : Loc (defScope s_law_deeper) "_law_more" := by first | exact Or.inl rfl | exact Or.inr rfl
theorem v_law_deeper_2 : Vis (defScope s_law_deeper) "_law_cell" := by first | exact Or.inl rfl | exact Or.inr (Or.inl rfl) | exact Or.inr (Or.inr rfl)
theorem l_law_deeper_2 : Loc (defScope s_law_deeper) "_law_cell" := by first | exact Or.inl rfl | exact Or.inr rfl
theorem v_law_deeper_3 : Vis (defScope s_law_deeper) "_law_k" := by first | exact Or.inl rfl | exact Or.inr (Or.inl rfl) | exact Or.inr (Or.inr rfl)
theorem l_law_deeper_3 : Loc (defScope s_law_deeper) "_law_k" := by first | exact Or.inl rfl | exact Or.inr rfl
theorem v_law_deeper_4 : Vis (defScope s_law_deeper) "_law_word" := by first | exact Or.inl rfl | exact Or.inr (Or.inl rfl) | exact Or.inr (Or.inr rfl)
theorem l_law_deeper_4 : Loc (defScope s_law_deeper) "_law_word" := by first | exact Or.inl rfl | exact Or.inr rfl
theorem g_law_deeper_range : (defScope s_law_deeper).names.lookup ("range" : Str) = some .globalImplicit := by rfl
abbrev s_law_refused : Stmt := top 38
theorem sc_law_refused : FnScope ["_law_told", "e"] ["_law_told"] (defScope s_law_refused) := ⟨rfl, rfl, rfl, by decide +kernel, rfl, by decide +kernel, by decide +kernel⟩
theorem v_law_refused_0 : Vis (defScope s_law_refused) "_law_told" := by first | exact Or.inl rfl | exact Or.inr (Or.inl rfl) | exact Or.inr (Or.inr rfl)
theorem l_law_refused_0 : Loc (defScope s_law_refused) "_law_told" := by first | exact Or.inl rfl | exact Or.inr rfl
theorem v_law_refused_1 : Vis (defScope s_law_refused) "e" := by first | exact Or.inl rfl | exact Or.inr (Or.inl rfl) | exact Or.inr (Or.inr rfl)
theorem l_law_refused_1 : Loc (defScope s_law_refused) "e" := by first | exact Or.inl rfl | exact Or.inr rfl
theorem g_law_refused_rule_of : (defScope s_law_refused).names.lookup ("rule_of" : Str) = some .globalImplicit := by rfl
theorem g_law_refused_TariffError : (defScope s_law_refused).names.lookup ("TariffError" : Str) = some .globalImplicit := by rfl
theorem g_law_refused_isinstance : (defScope s_law_refused).names.lookup ("isinstance" : Str) = some .globalImplicit := by rfl
theorem g_law_refused_NoLot : (defScope s_law_refused).names.lookup ("NoLot" : Str) = some .globalImplicit := by rfl
theorem g_law_refused_NoRate : (defScope s_law_refused).names.lookup ("NoRate" : Str) = some .globalImplicit := by rfl
theorem g_law_refused_NoNote : (defScope s_law_refused).names.lookup ("NoNote" : Str) = some .globalImplicit := by rfl
theorem g_law_refused_NoNumber : (defScope s_law_refused).names.lookup ("NoNumber" : Str) = some .globalImplicit := by rfl
theorem g_law_refused_NoRule : (defScope s_law_refused).names.lookup ("NoRule" : Str) = some .globalImplicit := by rfl
theorem g_law_refused_ValueError : (defScope s_law_refused).names.lookup ("ValueError" : Str) = some .globalImplicit := by rfl
abbrev s_law_holds : Stmt := top 39
theorem sc_law_holds : FnScope ["_law_rule_here", "_law_told", "_law_some", "_law_number_here", "_law_price", "_law_own", "_law_foreign", "_law_found"] ["_law_rule_here", "_law_told", "_law_some"] (defScope s_law_holds) := ⟨rfl, rfl, rfl, by decide +kernel, rfl, by decide +kernel, by decide +kernel⟩
theorem v_law_holds_0 : Vis (defScope s_law_holds) "_law_rule_here" := by first | exact Or.inl rfl | exact Or.inr (Or.inl rfl) | exact Or.inr (Or.inr rfl)
theorem l_law_holds_0 : Loc (defScope s_law_holds) "_law_rule_here" := by first | exact Or.inl rfl | exact Or.inr rfl
theorem v_law_holds_1 : Vis (defScope s_law_holds) "_law_told" := by first | exact Or.inl rfl | exact Or.inr (Or.inl rfl) | exact Or.inr (Or.inr rfl)
theorem l_law_holds_1 : Loc (defScope s_law_holds) "_law_told" := by first | exact Or.inl rfl | exact Or.inr rfl
theorem v_law_holds_2 : Vis (defScope s_law_holds) "_law_some" := by first | exact Or.inl rfl | exact Or.inr (Or.inl rfl) | exact Or.inr (Or.inr rfl)
theorem l_law_holds_2 : Loc (defScope s_law_holds) "_law_some" := by first | exact Or.inl rfl | exact Or.inr rfl
theorem v_law_holds_3 : Vis (defScope s_law_holds) "_law_number_here" := by first | exact Or.inl rfl | exact Or.inr (Or.inl rfl) | exact Or.inr (Or.inr rfl)
theorem l_law_holds_3 : Loc (defScope s_law_holds) "_law_number_here" := by first | exact Or.inl rfl | exact Or.inr rfl
theorem v_law_holds_4 : Vis (defScope s_law_holds) "_law_price" := by first | exact Or.inl rfl | exact Or.inr (Or.inl rfl) | exact Or.inr (Or.inr rfl)
theorem l_law_holds_4 : Loc (defScope s_law_holds) "_law_price" := by first | exact Or.inl rfl | exact Or.inr rfl
theorem v_law_holds_5 : Vis (defScope s_law_holds) "_law_own" := by first | exact Or.inl rfl | exact Or.inr (Or.inl rfl) | exact Or.inr (Or.inr rfl)
theorem l_law_holds_5 : Loc (defScope s_law_holds) "_law_own" := by first | exact Or.inl rfl | exact Or.inr rfl
theorem v_law_holds_6 : Vis (defScope s_law_holds) "_law_foreign" := by first | exact Or.inl rfl | exact Or.inr (Or.inl rfl) | exact Or.inr (Or.inr rfl)
theorem l_law_holds_6 : Loc (defScope s_law_holds) "_law_foreign" := by first | exact Or.inl rfl | exact Or.inr rfl
theorem v_law_holds_7 : Vis (defScope s_law_holds) "_law_found" := by first | exact Or.inl rfl | exact Or.inr (Or.inl rfl) | exact Or.inr (Or.inr rfl)
theorem l_law_holds_7 : Loc (defScope s_law_holds) "_law_found" := by first | exact Or.inl rfl | exact Or.inr rfl
theorem g_law_holds_list : (defScope s_law_holds).names.lookup ("list" : Str) = some .globalImplicit := by rfl
theorem g_law_holds_isinstance : (defScope s_law_holds).names.lookup ("isinstance" : Str) = some .globalImplicit := by rfl
theorem g_law_holds_bool : (defScope s_law_holds).names.lookup ("bool" : Str) = some .globalImplicit := by rfl
theorem g_law_holds__law_enough : (defScope s_law_holds).names.lookup ("_law_enough" : Str) = some .globalImplicit := by rfl
theorem g_law_holds_tuple : (defScope s_law_holds).names.lookup ("tuple" : Str) = some .globalImplicit := by rfl
theorem g_law_holds_Rule : (defScope s_law_holds).names.lookup ("Rule" : Str) = some .globalImplicit := by rfl
abbrev s_law_asked : Stmt := top 40
theorem sc_law_asked : FnScope ["_law_script", "_law_k", "_law_number_here", "_law_price", "_law_own", "_law_many"] ["_law_script", "_law_k"] (defScope s_law_asked) := ⟨rfl, rfl, rfl, by decide +kernel, rfl, by decide +kernel, by decide +kernel⟩
theorem v_law_asked_0 : Vis (defScope s_law_asked) "_law_script" := by first | exact Or.inl rfl | exact Or.inr (Or.inl rfl) | exact Or.inr (Or.inr rfl)
theorem l_law_asked_0 : Loc (defScope s_law_asked) "_law_script" := by first | exact Or.inl rfl | exact Or.inr rfl
theorem v_law_asked_1 : Vis (defScope s_law_asked) "_law_k" := by first | exact Or.inl rfl | exact Or.inr (Or.inl rfl) | exact Or.inr (Or.inr rfl)
theorem l_law_asked_1 : Loc (defScope s_law_asked) "_law_k" := by first | exact Or.inl rfl | exact Or.inr rfl
theorem v_law_asked_2 : Vis (defScope s_law_asked) "_law_number_here" := by first | exact Or.inl rfl | exact Or.inr (Or.inl rfl) | exact Or.inr (Or.inr rfl)
theorem l_law_asked_2 : Loc (defScope s_law_asked) "_law_number_here" := by first | exact Or.inl rfl | exact Or.inr rfl
theorem v_law_asked_3 : Vis (defScope s_law_asked) "_law_price" := by first | exact Or.inl rfl | exact Or.inr (Or.inl rfl) | exact Or.inr (Or.inr rfl)
theorem l_law_asked_3 : Loc (defScope s_law_asked) "_law_price" := by first | exact Or.inl rfl | exact Or.inr rfl
theorem v_law_asked_4 : Vis (defScope s_law_asked) "_law_own" := by first | exact Or.inl rfl | exact Or.inr (Or.inl rfl) | exact Or.inr (Or.inr rfl)
theorem l_law_asked_4 : Loc (defScope s_law_asked) "_law_own" := by first | exact Or.inl rfl | exact Or.inr rfl
theorem v_law_asked_5 : Vis (defScope s_law_asked) "_law_many" := by first | exact Or.inl rfl | exact Or.inr (Or.inl rfl) | exact Or.inr (Or.inr rfl)
theorem l_law_asked_5 : Loc (defScope s_law_asked) "_law_many" := by first | exact Or.inl rfl | exact Or.inr rfl
theorem g_law_asked__law_number : (defScope s_law_asked).names.lookup ("_law_number" : Str) = some .globalImplicit := by rfl
theorem g_law_asked__law_cell_at : (defScope s_law_asked).names.lookup ("_law_cell_at" : Str) = some .globalImplicit := by rfl
theorem g_law_asked_range : (defScope s_law_asked).names.lookup ("range" : Str) = some .globalImplicit := by rfl
abbrev s_law : Stmt := top 41
theorem sc_law : FnScope ["_law_script", "_law_told", "_law_some", "_law_cell", "_law_edge", "_law_plain", "_law_deep"] ["_law_script"] (defScope s_law) := ⟨rfl, rfl, rfl, by decide +kernel, rfl, by decide +kernel, by decide +kernel⟩
theorem v_law_0 : Vis (defScope s_law) "_law_script" := by first | exact Or.inl rfl | exact Or.inr (Or.inl rfl) | exact Or.inr (Or.inr rfl)
theorem l_law_0 : Loc (defScope s_law) "_law_script" := by first | exact Or.inl rfl | exact Or.inr rfl
theorem v_law_1 : Vis (defScope s_law) "_law_told" := by first | exact Or.inl rfl | exact Or.inr (Or.inl rfl) | exact Or.inr (Or.inr rfl)
theorem l_law_1 : Loc (defScope s_law) "_law_told" := by first | exact Or.inl rfl | exact Or.inr rfl
theorem v_law_2 : Vis (defScope s_law) "_law_some" := by first | exact Or.inl rfl | exact Or.inr (Or.inl rfl) | exact Or.inr (Or.inr rfl)
theorem l_law_2 : Loc (defScope s_law) "_law_some" := by first | exact Or.inl rfl | exact Or.inr rfl
theorem v_law_3 : Vis (defScope s_law) "_law_cell" := by first | exact Or.inl rfl | exact Or.inr (Or.inl rfl) | exact Or.inr (Or.inr rfl)
theorem l_law_3 : Loc (defScope s_law) "_law_cell" := by first | exact Or.inl rfl | exact Or.inr rfl
theorem v_law_4 : Vis (defScope s_law) "_law_edge" := by first | exact Or.inl rfl | exact Or.inr (Or.inl rfl) | exact Or.inr (Or.inr rfl)
theorem l_law_4 : Loc (defScope s_law) "_law_edge" := by first | exact Or.inl rfl | exact Or.inr rfl
theorem v_law_5 : Vis (defScope s_law) "_law_plain" := by first | exact Or.inl rfl | exact Or.inr (Or.inl rfl) | exact Or.inr (Or.inr rfl)
theorem l_law_5 : Loc (defScope s_law) "_law_plain" := by first | exact Or.inl rfl | exact Or.inr rfl
theorem v_law_6 : Vis (defScope s_law) "_law_deep" := by first | exact Or.inl rfl | exact Or.inr (Or.inl rfl) | exact Or.inr (Or.inr rfl)
theorem l_law_6 : Loc (defScope s_law) "_law_deep" := by first | exact Or.inl rfl | exact Or.inr rfl
theorem g_law__law_rule : (defScope s_law).names.lookup ("_law_rule" : Str) = some .globalImplicit := by rfl
theorem g_law__law_cell_at : (defScope s_law).names.lookup ("_law_cell_at" : Str) = some .globalImplicit := by rfl
theorem g_law__law_asked : (defScope s_law).names.lookup ("_law_asked" : Str) = some .globalImplicit := by rfl
theorem g_law__law_holds : (defScope s_law).names.lookup ("_law_holds" : Str) = some .globalImplicit := by rfl
theorem g_law__law_made : (defScope s_law).names.lookup ("_law_made" : Str) = some .globalImplicit := by rfl
theorem g_law_rule_of : (defScope s_law).names.lookup ("rule_of" : Str) = some .globalImplicit := by rfl
theorem g_law__law_mix : (defScope s_law).names.lookup ("_law_mix" : Str) = some .globalImplicit := by rfl
theorem g_law__law_refused : (defScope s_law).names.lookup ("_law_refused" : Str) = some .globalImplicit := by rfl
theorem g_law__law_spoilt : (defScope s_law).names.lookup ("_law_spoilt" : Str) = some .globalImplicit := by rfl
theorem g_law__law_deeper : (defScope s_law).names.lookup ("_law_deeper" : Str) = some .globalImplicit := by rfl

def wholeK : Kn → Bool
  | .int => true
  | _ => false
def spIsWhole (K : PySem.W.Frag) : Sp := fun vs H Q _ => ∃ v k, vs = [v] ∧ Kd K H v k ∧ Q (.bl (wholeK k)) H
theorem spIsWhole_of {K : PySem.W.Frag} {H : Hp} {v : V} {k : Kn} {Q : VK} {E : XK} (h : Kd K H v k) (q : Q (.bl (wholeK k)) H) : spIsWhole K [v] H Q E := ⟨v, k, rfl, h, q⟩
theorem kd_int {K : PySem.W.Frag} {H : Hp} {v : V} (h : Kd K H v .int) : ∃ i, v = .int i := by
  cases v with
  | int i => exact ⟨i, rfl⟩
  | ref a => rcases h with ⟨z, _⟩ | ⟨z, _⟩ | ⟨z, _⟩ <;> cases z
  | non => cases h
  | bl b => cases h
  | str x => cases h
  | byt b => exact h.elim
  | flt b => exact h.elim
  | ty n => exact h.elim
theorem kd_same {K : PySem.W.Frag} {H H' : Hp} {v : V} {k : Kn} (e : Same H H') (h : Kd K H v k) : Kd K H' v k := by
  cases v with
  | ref a =>
    rcases h with ⟨z, xs, h⟩ | ⟨z, xs, h⟩ | ⟨z, h⟩
    · exact .inl ⟨z, xs, e.seq h⟩
    · exact .inr (.inl ⟨z, xs, Same.tup e h⟩)
    · exact .inr (.inr ⟨z, e _ _ h⟩)
  | _ => exact h

theorem wholeK_ne {k : Kn} (h : k ≠ .int) : wholeK k = false := by
  cases k <;> first | rfl | exact absurd rfl h
section
variable {P : Program} {w : World} {K : PySem.W.Frag} {mg : Str → Option Value} {base : Heap} {f : Addr} {fd : FuncData}
theorem ok_is_whole (F : Fun K "is_whole" "is_whole" s_is_whole f fd) (M : Mg mg) : FnOk P w K mg base CX0 1 f fd ["thing"] (spIsWhole K) := by
  refine F.ok sc_is_whole (fun vs H Q E h => ?_) (fun cdv A outer s H vs Q E hr h => ?_)
  · obtain ⟨v, k, rfl, _⟩ := h
    rfl
  obtain ⟨v, k, rfl, hk, q⟩ := h
  refine ⟨_, (@pss_one _ _ _ (@ps_ret _ _ _ _ (@pe_and _ _ _ _ _ _ _ (@pe_callB _ _ _ _ _ _ _ _ _ call_isi g_is_whole_isinstance M.m_isinstance b_isinstance (@pa_cons _ _ _ _ _ (@pe_var _ 0 _ _ rfl v_is_whole_0 dn_thing dc_thing) (@pa_cons _ _ _ _ _ (@pe_bltn _ _ (.ty "int") _ _ g_is_whole_int M.m_int b_int rfl nn_int dn_int) (@pa_nil _) (star1 rfl)) (star1 rfl)) nn_isinstance dn_isinstance (star1 rfl) (nost1 rfl nost0)) (@pe_one _ _ _ _ _ (@pe_not _ _ _ _ (@pe_callB _ _ _ _ _ _ _ _ _ call_isi g_is_whole_isinstance M.m_isinstance b_isinstance (@pa_cons _ _ _ _ _ (@pe_var _ 0 _ _ rfl v_is_whole_0 dn_thing dc_thing) (@pa_cons _ _ _ _ _ (@pe_bltn _ _ (.ty "bool") _ _ g_is_whole_bool M.m_bool b_bool rfl nn_bool dn_bool) (@pa_nil _) (star1 rfl)) (star1 rfl)) nn_isinstance dn_isinstance (star1 rfl) (nost1 rfl nost0))))))), ?_⟩
  simp only [tTurn, rTurnT, tTryS, rCountT, rPop, rRep, tCont, iZipT, tChain3, tFld, sFld, tMake, tMake0, tMethD, tBM0, rUpper, tDict1T, tTryN, rSlS, rMulS, rCatS, iZipL, rInsert, rReverse, tDNewX, tTry, tRaise, iEnumL, iEnumT, iZip, iSeq, iOr, rIx, iStr, rLeS, rJoin, rSlTA, tComp_eq, tComp1, slots, Option.getD_some, Option.getD_none, tYes, tSeq, tAsg, gName, tOp, tUn, tC, tVar, tCB, tCons, tNil, tCall, rI, rI0, rU, tRet, tRetN, tIfS, tTest, tB, tAnd, tOr, tNot, tAndV, tOrV, tNotV, tIf, tChain, tMenu, tPar, tDrop, tTup, tLst, tNext, tSl, tPart, tNoPart, tNever, gTup, gCons, gNil, gSub, rSetL, tBM, rAppend, rEq, rNe, rIsi, rIxL, rIxT, rIxS, rSlL, isi_non_bl, isi_non_int, isi_non_str, isi_non_lst, isi_non_tup, isi_bl_bl, isi_bl_int, isi_bl_str, isi_bl_lst, isi_bl_tup, isi_int_bl, isi_int_int, isi_int_str, isi_int_lst, isi_int_tup, isi_str_bl, isi_str_int, isi_str_str, isi_str_lst, isi_str_tup, isi_lst_bl, isi_lst_int, isi_lst_str, isi_lst_lst, isi_lst_tup, isi_tup_bl, isi_tup_int, isi_tup_str, isi_tup_lst, isi_tup_tup, isi_dct_bl, isi_dct_int, isi_dct_str, isi_dct_lst, isi_dct_tup, Kd_non, Kd_bl, Kd_int, Kd_str, sc_non_non, sc_non_int, sc_int_non, sc_non_bl, sc_bl_non, sc_non_str, sc_str_non, sc_int_int, sc_bl_bl, sc_str_str, sc_int_str, sc_str_int, sc_bl_str, sc_str_bl, decide_true, decide_false, tFor_eq, iList, iTup, iRng1, iRng2, iRng3, rIndexT, tBM0, tBMT, tyK_int, tyK_bool, tyK_str, tyK_list, tyK_tuple, L2.start, cxK, Int.reduceToNat, List.map_cons, List.map_nil, List.length_cons, List.length_nil, Nat.reduceAdd, Nat.reduceSub, Nat.zero_add, List.replicate_succ, List.replicate_zero, List.cons_append, List.nil_append, List.append_nil, List.getElem?_cons_zero, List.getElem?_cons_succ, List.set_cons_zero, List.set_cons_succ, Option.some.injEq, V.int.injEq, V.bl.injEq, V.ref.injEq, V.str.injEq, V.ty.injEq, List.cons.injEq, exists_eq_left', exists_eq_left, exists_eq_right, exists_and_left, exists_and_right, and_true, true_and, and_assoc, exists_const, decide_eq_true_eq, Bool.not_eq_true', Bool.not_true, Bool.not_false, Bool.not_not, decide_eq_false_iff_not, ite_not, Bool.false_eq_true, if_true, if_false, reduceCtorEq, and_false, false_and, exists_false, or_false, false_or, ↓reduceIte, eq_self, reduceIte]
  refine ⟨_, hk, ?_⟩
  cases k with
  | int => exact ⟨_, hk, q⟩
  | bl => exact ⟨_, hk, q⟩
  | _ => exact q
end

theorem tup_upd {H : Hp} {l p : Addr} {ys zs r : List V} (hl : H l = some (.lst ys)) (h : H p = some (.tup r)) : upd H l (.lst zs) p = some (.tup r) := by
  have n : p ≠ l := fun e => by rw [e, hl] at h; cases h
  rw [upd_ne n]
  exact h
theorem SqT.upd {K : PySem.W.Frag} {H : Hp} {l p : Addr} {ys zs r : List V} (h : SqT K H p r) (hl : H l = some (.lst ys)) : SqT K (upd H l (.lst zs)) p r := by
  rcases h with (h | ⟨o, h⟩) | h
  · exact .inl (.inl (tup_upd hl h))
  · refine .inl (.inr ⟨o, ?_⟩)
    rw [upd_ne (fun e => by rw [e, hl] at h; cases h)]
    exact h
  · exact .inr h

inductive Rl where
  | grown
  | change (d : Int)
  | share (t b : Int)
  | al (x y : Rl)
  | so (x y : Rl)
def ShOk (t b : Int) : Prop := 0 ≤ t ∧ t ≤ b ∧ 1 ≤ b ∧ b ≤ 10 ^ 9 ∧ Mth.gcd t b = 1
instance (t b : Int) : Decidable (ShOk t b) := by unfold ShOk; infer_instance
def Rl.dp : Rl → Nat
  | .al x y => max x.dp y.dp + 1
  | .so x y => max x.dp y.dp + 1
  | _ => 1
def Rl.ok : Rl → Prop
  | .grown => True
  | .change d => 1 ≤ d ∧ d ≤ 4
  | .share t b => ShOk t b
  | .al x y => x.ok ∧ y.ok
  | .so x y => x.ok ∧ y.ok
def Rl.data : Rl → PyData
  | .grown => .tuple [.str "grown"]
  | .change d => .tuple [.str "change", .int d]
  | .share t b => .tuple [.str "share", .tuple [.int t, .int b]]
  | .al x y => .tuple [.str "all", x.data, y.data]
  | .so x y => .tuple [.str "some", x.data, y.data]
theorem Rl.dp_pos (n : Rl) : 1 ≤ n.dp := by
  cases n <;> (unfold Rl.dp; omega)
abbrev TolA (K : PySem.W.Frag) (H : Hp) (v : V) (n : Rl) : Prop := Rep K H v n.data
structure RC where
  g : Addr
  c : Addr
  w : Addr
  al : Addr
  so : Addr
def ObjR (K : PySem.W.Frag) (cs : RC) (H : Hp) (a : Addr) : Rl → Prop
  | .grown => ∃ dx, H a = some (.ins cs.g dx [])
  | .change d => ∃ dx, H a = some (.ins cs.c dx [("deep", .int d)])
  | .share t b => ∃ dx p, H a = some (.ins cs.w dx [("share", .ref p)]) ∧ SqT K H p [.int t, .int b]
  | .al x y => ∃ dx a1 a2, H a = some (.ins cs.al dx [("one", .ref a1), ("other", .ref a2)]) ∧ ObjR K cs H a1 x ∧ ObjR K cs H a2 y
  | .so x y => ∃ dx a1 a2, H a = some (.ins cs.so dx [("one", .ref a1), ("other", .ref a2)]) ∧ ObjR K cs H a1 x ∧ ObjR K cs H a2 y
theorem ObjR.same {K : PySem.W.Frag} {cs : RC} {H H' : Hp} (e : Same H H') : ∀ {n : Rl} {a : Addr}, ObjR K cs H a n → ObjR K cs H' a n
  | .grown, _, ⟨dx, h⟩ => ⟨dx, e _ _ h⟩
  | .change _, _, ⟨dx, h⟩ => ⟨dx, e _ _ h⟩
  | .share _ _, _, ⟨dx, p, h, t⟩ => ⟨dx, p, e _ _ h, Same.tup e t⟩
  | .al _ _, _, ⟨dx, p1, p2, h, t1, t2⟩ => ⟨dx, p1, p2, e _ _ h, ObjR.same e t1, ObjR.same e t2⟩
  | .so _ _, _, ⟨dx, p1, p2, h, t1, t2⟩ => ⟨dx, p1, p2, e _ _ h, ObjR.same e t1, ObjR.same e t2⟩
inductive IntsAll (K : PySem.W.Frag) (H : Hp) : List V → List (List Int) → Prop
  | nil : IntsAll K H [] []
  | cons {p : Addr} {ns : List Int} {xs : List V} {fs : List (List Int)} : SqT K H p (ns.map V.int) → IntsAll K H xs fs → IntsAll K H (.ref p :: xs) (ns :: fs)
theorem IntsAll.same {K : PySem.W.Frag} {H H' : Hp} {xs : List V} {fs : List (List Int)} (h : IntsAll K H xs fs) (e : Same H H') : IntsAll K H' xs fs := by
  induction h with
  | nil => exact .nil
  | cons a _ ih => exact .cons (Same.tup e a) ih
theorem IntsAll.length {K : PySem.W.Frag} {H : Hp} {xs : List V} {fs : List (List Int)} (h : IntsAll K H xs fs) : xs.length = fs.length := by
  induction h with
  | nil => rfl
  | cons _ _ ih => rw [List.length_cons, List.length_cons, ih]
theorem IntsAll.at {K : PySem.W.Frag} {H : Hp} {xs : List V} {fs : List (List Int)} (h : IntsAll K H xs fs) : ∀ {i : Nat} {x : V}, xs[i]? = some x → ∃ p ns, x = .ref p ∧ fs[i]? = some ns ∧ SqT K H p (ns.map V.int) := by
  induction h with
  | nil => intro i x e; simp at e
  | cons a _ ih =>
    intro i x e
    cases i with
    | zero => cases e; exact ⟨_, _, rfl, rfl, a⟩
    | succ i => exact ih e
theorem IntsAll.snoc {K : PySem.W.Frag} {H : Hp} {xs : List V} {fs : List (List Int)} {p : Addr} {ns : List Int} (h : IntsAll K H xs fs) (T : SqT K H p (ns.map V.int)) : IntsAll K H (xs ++ [.ref p]) (fs ++ [ns]) := by
  induction h with
  | nil => exact .cons T .nil
  | cons a _ ih => exact .cons a ih
theorem IntsAll.upd {K : PySem.W.Frag} {H : Hp} {l : Addr} {ys zs xs : List V} {fs : List (List Int)} (h : IntsAll K H xs fs) (hl : H l = some (.lst ys)) : IntsAll K (upd H l (.lst zs)) xs fs := by
  induction h with
  | nil => exact .nil
  | cons a _ ih => exact .cons (SqT.upd a hl) ih
def enR (r : Rl) (nn : List Int) (price own : Int) (fs : List (List Int)) : Bool := match r with
  | .grown => decide (fs.length = 0)
  | .change d => fs.all fun o => decide (o.take d.toNat ≠ nn.take d.toNat)
  | .share t b => decide (price * t ≤ own * b)
  | .al x y => enR x nn price own fs && enR y nn price own fs
  | .so x y => enR x nn price own fs || enR y nn price own fs
structure EnC (K : PySem.W.Frag) (H : Hp) (n fl : Addr) (nn : List Int) (price own : Int) (fx : List V) (fs : List (List Int)) : Prop where
  TN : SqT K H n (nn.map V.int)
  L : SqL K H fl fx
  FA : IntsAll K H fx fs
  l4 : fs.length ≤ 4
  p1 : 1 ≤ price
  p12 : price ≤ 10 ^ 12
  o0 : 0 ≤ own
  o12 : own ≤ 10 ^ 12
theorem EnC.same {K : PySem.W.Frag} {H H' : Hp} {n fl : Addr} {nn : List Int} {price own : Int} {fx : List V} {fs : List (List Int)} (h : EnC K H n fl nn price own fx fs) (e : Same H H') : EnC K H' n fl nn price own fx fs := ⟨Same.tup e h.TN, e.seq h.L, h.FA.same e, h.l4, h.p1, h.p12, h.o0, h.o12⟩
def rlKd : Rl → Nat
  | .grown => 0
  | .change _ => 1
  | .share _ _ => 2
  | .al _ _ => 3
  | .so _ _ => 4
def rcCls (cs : RC) : Nat → Addr
  | 0 => cs.g
  | 1 => cs.c
  | 2 => cs.w
  | 3 => cs.al
  | _ => cs.so
def spTolR (K : PySem.W.Frag) (cs : RC) (d j : Nat) : Sp := fun vs H Q _ => ∃ (a : Addr) (n : Rl), vs = [.ref a] ∧ rlKd n = j ∧ ObjR K cs H a n ∧ n.dp ≤ d ∧ ∀ p H', Same H H' → TolA K H' (.ref p) n → Q (.ref p) H'
def spEnR (K : PySem.W.Frag) (cs : RC) (d j : Nat) : Sp := fun vs H Q _ => ∃ (a n fl : Addr) (r : Rl) (nn : List Int) (price own : Int) (fx : List V) (fs : List (List Int)), vs = [.ref a, .ref n, .int price, .int own, .ref fl] ∧ rlKd r = j ∧ ObjR K cs H a r ∧ r.ok ∧ r.dp ≤ d ∧ EnC K H n fl nn price own fx fs ∧ ∀ H', Same H H' → Q (.bl (enR r nn price own fs)) H'
def DR (spf : Nat → Nat → Sp) (cs : RC) (d : Nat) (C : Addr) (sp : Sp) : Prop := ∃ j, j < 5 ∧ C = rcCls cs j ∧ sp = spf d j
theorem obj_cls {K : PySem.W.Frag} {cs : RC} {H : Hp} {a : Addr} {n : Rl} (O : ObjR K cs H a n) : ∃ dx fs, H a = some (.ins (rcCls cs (rlKd n)) dx fs) ∧ fs.lookup ("told" : Str) = none ∧ fs.lookup ("enough" : Str) = none ∧ rlKd n < 5 := by
  cases n with
  | grown => obtain ⟨dx, h⟩ := O; exact ⟨_, _, h, rfl, rfl, by decide⟩
  | change d => obtain ⟨dx, h⟩ := O; exact ⟨_, _, h, rfl, rfl, (show 1 < 5 by decide)⟩
  | share t b => obtain ⟨dx, _, h, _⟩ := O; exact ⟨_, _, h, rfl, rfl, (show 2 < 5 by decide)⟩
  | al x y => obtain ⟨dx, _, _, h, _⟩ := O; exact ⟨_, _, h, rfl, rfl, (show 3 < 5 by decide)⟩
  | so x y => obtain ⟨dx, _, _, h, _⟩ := O; exact ⟨_, _, h, rfl, rfl, (show 4 < 5 by decide)⟩
theorem told_byR {K : PySem.W.Frag} {cs : RC} {H : Hp} {a : Addr} {n : Rl} {d : Nat} {Q : VK} (O : ObjR K cs H a n) (dp : n.dp ≤ d) (q : ∀ p H', Same H H' → TolA K H' (.ref p) n → Q (.ref p) H') : ∃ C dx fs, H a = some (.ins C dx fs) ∧ fs.lookup ("told" : Str) = none ∧ ∃ sp, DR (spTolR K cs) cs d C sp ∧ sp [.ref a] H Q E0 := by
  obtain ⟨dx, fs, h, h1, h2, h3⟩ := obj_cls O
  exact ⟨_, _, _, h, h1, _, ⟨_, h3, rfl, rfl⟩, a, n, rfl, rfl, O, dp, q⟩
theorem enough_byR {K : PySem.W.Frag} {cs : RC} {H : Hp} {a n fl : Addr} {r : Rl} {nn : List Int} {price own : Int} {fx : List V} {fs : List (List Int)} {d : Nat} {Q : VK} (O : ObjR K cs H a r) (ok : r.ok) (dp : r.dp ≤ d) (en : EnC K H n fl nn price own fx fs) (q : ∀ H', Same H H' → Q (.bl (enR r nn price own fs)) H') :
    ∃ C dx gs, H a = some (.ins C dx gs) ∧ gs.lookup ("enough" : Str) = none ∧ ∃ sp, DR (spEnR K cs) cs d C sp ∧ sp [.ref a, .ref n, .int price, .int own, .ref fl] H Q E0 := by
  obtain ⟨dx, gs, h, h1, h2, h3⟩ := obj_cls O
  exact ⟨_, _, _, h, h2, _, ⟨_, h3, rfl, rfl⟩, a, n, fl, r, nn, price, own, fx, fs, rfl, rfl, O, ok, dp, en, q⟩
theorem all_disp {P : Program} {w : World} {K : PySem.W.Frag} {mg : Str → Option Value} {base : Heap} {cs : RC} {m : Str} {ps : List Str} {spf : Nat → Nat → Sp} (cl : ∀ j, j < 5 → Cls K (rcCls cs j))
    (hp : ∀ j, j < 3 → ∀ k d, ∃ f fd, Meth K (rcCls cs j) m f ∧ FnOk P w K mg base CX0 (k + 1) f fd ps (spf d j) ∧ Binds K fd ps [])
    (h0 : ∀ j, 3 ≤ j → j < 5 → ∃ f fd, Meth K (rcCls cs j) m f ∧ FnOk P w K mg base CX0 1 f fd ps (spf 0 j) ∧ Binds K fd ps [])
    (hj : ∀ j, 3 ≤ j → j < 5 → ∀ d, (∀ C sp, DR spf cs d C sp → Disp P w K mg base m (1 + d) ps C sp) → ∃ f fd, Meth K (rcCls cs j) m f ∧ FnOk P w K mg base CX0 (1 + d + 1) f fd ps (spf (d + 1) j) ∧ Binds K fd ps []) :
    ∀ d C sp, DR spf cs d C sp → Disp P w K mg base m (1 + d) ps C sp := by
  intro d
  induction d with
  | zero =>
    rintro C sp ⟨j, hj5, rfl, rfl⟩
    refine ⟨cl j hj5, ?_⟩
    by_cases h3 : j < 3
    · exact hp j h3 0 0
    · exact h0 j (by omega) hj5
  | succ d ih =>
    rintro C sp ⟨j, hj5, rfl, rfl⟩
    refine ⟨cl j hj5, ?_⟩
    by_cases h3 : j < 3
    · exact hp j h3 (1 + d) (d + 1)
    · exact hj j (by omega) hj5 d ih
def spInit1 (C : Addr) (fld : Str) : Sp := fun vs H Q _ => ∃ x dx v, vs = [.ref x, v] ∧ H x = some (.ins C dx []) ∧ Q .non (upd H x (.ins C dx [(fld, v)]))
def spInit2 (K : PySem.W.Frag) : Sp := fun vs H Q _ => ∃ x C dx v1 v2, vs = [.ref x, v1, v2] ∧ H x = some (.ins C dx []) ∧ Cls K C ∧ NoAttr K C "one" ∧ NoAttr K C "other" ∧ ∀ H', H' x = some (.ins C dx [("one", v1), ("other", v2)]) → (∀ b, b ≠ x → H' b = H b) → Q .non H'
structure TwoC (K : PySem.W.Frag) (C : Addr) : Prop where
  cl : Cls K C
  n1 : NoAttr K C "one"
  n2 : NoAttr K C "other"
theorem make1 {H : Hp} {C x dx : Addr} {fld : Str} {v : V} (hx : H x = none) (hd : H dx = none) : Same H (upd (upd (upd H dx (.own x)) x (.ins C dx [])) x (.ins C dx [(fld, v)])) :=
  fun b u q => by rw [upd_ne (ne_of_none q hx), upd_ne (ne_of_none q hx), upd_ne (ne_of_none q hd)]; exact q
theorem make2 {H H' : Hp} {C x dx : Addr} (hx : H x = none) (hd : H dx = none) (e : ∀ b, b ≠ x → H' b = upd (upd H dx (.own x)) x (.ins C dx []) b) : Same H H' := fun b u q => by
  rw [e b (ne_of_none q hx), upd_ne (ne_of_none q hx), upd_ne (ne_of_none q hd)]
  exact q
inductive ShV (K : PySem.W.Frag) (H : Hp) : V → Bool → Prop
  | no {v : V} {k : Kn} : Kd K H v k → k ≠ .tup → ShV K H v false
  | len {p : Addr} {xs : List V} : SqT K H p xs → xs.length ≠ 2 → ShV K H (.ref p) false
  | two {p : Addr} {t b : Int} : SqT K H p [.int t, .int b] → ShV K H (.ref p) (decide (1 ≤ b ∧ Mth.gcd t b = 1))
inductive SoV (K : PySem.W.Frag) (H : Hp) : V → Bool → Prop
  | no {v : V} : ShV K H v false → SoV K H v false
  | two {p : Addr} {t b : Int} : SqT K H p [.int t, .int b] → SoV K H (.ref p) (decide (ShOk t b))
inductive DeV (K : PySem.W.Frag) (H : Hp) : V → Bool → Prop
  | no {v : V} {k : Kn} : Kd K H v k → k ≠ .int → DeV K H v false
  | int {d : Int} : DeV K H (.int d) (decide (1 ≤ d ∧ d ≤ 4))
theorem ShV.same {K : PySem.W.Frag} {H H' : Hp} {v : V} {b : Bool} (h : ShV K H v b) (e : Same H H') : ShV K H' v b := by
  cases h with
  | no k n => exact .no (kd_same e k) n
  | len t n => exact .len (Same.tup e t) n
  | two t => exact .two (Same.tup e t)
theorem SoV.same {K : PySem.W.Frag} {H H' : Hp} {v : V} {b : Bool} (h : SoV K H v b) (e : Same H H') : SoV K H' v b := by
  cases h with
  | no k => exact .no (k.same e)
  | two t => exact .two (Same.tup e t)
theorem DeV.same {K : PySem.W.Frag} {H H' : Hp} {v : V} {b : Bool} (h : DeV K H v b) (e : Same H H') : DeV K H' v b := by
  cases h with
  | no k n => exact .no (kd_same e k) n
  | int => exact .int
def spShareV (K : PySem.W.Frag) : Sp := fun vs H Q _ => ∃ v b, vs = [v] ∧ ShV K H v b ∧ Q (.bl b) H
def spShareO (K : PySem.W.Frag) : Sp := fun vs H Q _ => ∃ v b, vs = [v] ∧ SoV K H v b ∧ Q (.bl b) H
def spDeepV (K : PySem.W.Frag) : Sp := fun vs H Q _ => ∃ v b, vs = [v] ∧ DeV K H v b ∧ Q (.bl b) H
theorem isi_tup_ne {k : Kn} (h : k ≠ .tup) : isiB k .tup = false := by
  cases k <;> first | rfl | exact absurd rfl h
theorem isi_str_ne {k : Kn} (h : k ≠ .str) : isiB k .str = false := by
  cases k <;> first | rfl | exact absurd rfl h
theorem rep_tup {K : PySem.W.Frag} {H : Hp} {p : Addr} {ds : List PyData} (R : Rep K H (.ref p) (.tuple ds)) : ∃ xs, SqT K H p xs ∧ RepAll K H xs ds := by
  cases R with
  | tup T A => exact ⟨_, T, A⟩
theorem rep_cons {K : PySem.W.Frag} {H : Hp} {xs : List V} {d : PyData} {ds : List PyData} (R : RepAll K H xs (d :: ds)) : ∃ x ys, xs = x :: ys ∧ Rep K H x d ∧ RepAll K H ys ds := by
  cases R with
  | cons a b => exact ⟨_, _, rfl, a, b⟩
theorem rep_nil {K : PySem.W.Frag} {H : Hp} {xs : List V} (R : RepAll K H xs []) : xs = [] := by
  cases R
  rfl
theorem rep_str {K : PySem.W.Frag} {H : Hp} {x : V} {z : Str} (R : Rep K H x (.str z)) : x = .str z := by
  cases R
  rfl
theorem rep_int {K : PySem.W.Frag} {H : Hp} {x : V} {z : Int} (R : Rep K H x (.int z)) : x = .int z := by
  cases R
  rfl
theorem rep_ref {K : PySem.W.Frag} {H : Hp} {x : V} {ds : List PyData} (R : Rep K H x (.tuple ds)) : ∃ p, x = .ref p := by
  cases R
  exact ⟨_, rfl⟩
inductive RowR (K : PySem.W.Frag) (H : Hp) : Addr → Rl → Prop
  | grown {p : Addr} : SqT K H p [.str "grown"] → RowR K H p .grown
  | change {p : Addr} {d : Int} : SqT K H p [.str "change", .int d] → RowR K H p (.change d)
  | share {p s : Addr} {t b : Int} : SqT K H p [.str "share", .ref s] → SqT K H s [.int t, .int b] → RowR K H p (.share t b)
  | al {p a1 a2 : Addr} {x y : Rl} : SqT K H p [.str "all", .ref a1, .ref a2] → TolA K H (.ref a1) x → TolA K H (.ref a2) y → RowR K H p (.al x y)
  | so {p a1 a2 : Addr} {x y : Rl} : SqT K H p [.str "some", .ref a1, .ref a2] → TolA K H (.ref a1) x → TolA K H (.ref a2) y → RowR K H p (.so x y)
theorem told_ref {K : PySem.W.Frag} {H : Hp} {v : V} {n : Rl} (R : TolA K H v n) : ∃ a, v = .ref a := by
  unfold TolA at R
  cases n <;> (unfold Rl.data at R; cases R; exact ⟨_, rfl⟩)
theorem tol_row {K : PySem.W.Frag} {H : Hp} {p : Addr} {n : Rl} (R : TolA K H (.ref p) n) : RowR K H p n := by
  unfold TolA at R
  cases n with
  | grown =>
    obtain ⟨xs, T, A⟩ := rep_tup R
    obtain ⟨x, ys, rfl, a, b⟩ := rep_cons A
    rw [rep_nil b, rep_str a] at T
    exact .grown T
  | change d =>
    obtain ⟨xs, T, A⟩ := rep_tup R
    obtain ⟨x, ys, rfl, a, b⟩ := rep_cons A
    obtain ⟨y, zs, rfl, c, b⟩ := rep_cons b
    rw [rep_nil b, rep_str a, rep_int c] at T
    exact .change T
  | share t0 b0 =>
    obtain ⟨xs, T, A⟩ := rep_tup R
    obtain ⟨x, ys, rfl, a, b⟩ := rep_cons A
    obtain ⟨y, zs, rfl, c, b'⟩ := rep_cons b
    obtain ⟨s, rfl⟩ := rep_ref c
    obtain ⟨us, T2, A2⟩ := rep_tup c
    obtain ⟨u1, vs, rfl, a1, b1⟩ := rep_cons A2
    obtain ⟨u2, ws, rfl, a2, b2⟩ := rep_cons b1
    rw [rep_nil b2, rep_int a1, rep_int a2] at T2
    rw [rep_nil b', rep_str a] at T
    exact .share T T2
  | al u v =>
    obtain ⟨xs, T, A⟩ := rep_tup R
    obtain ⟨x, ys, rfl, a, b⟩ := rep_cons A
    obtain ⟨y, zs, rfl, c, b⟩ := rep_cons b
    obtain ⟨z, us, rfl, e, b⟩ := rep_cons b
    rw [rep_nil b, rep_str a] at T
    obtain ⟨a1, rfl⟩ := told_ref c
    obtain ⟨a2, rfl⟩ := told_ref e
    exact .al T c e
  | so u v =>
    obtain ⟨xs, T, A⟩ := rep_tup R
    obtain ⟨x, ys, rfl, a, b⟩ := rep_cons A
    obtain ⟨y, zs, rfl, c, b⟩ := rep_cons b
    obtain ⟨z, us, rfl, e, b⟩ := rep_cons b
    rw [rep_nil b, rep_str a] at T
    obtain ⟨a1, rfl⟩ := told_ref c
    obtain ⟨a2, rfl⟩ := told_ref e
    exact .so T c e
theorem tol_grown {K : PySem.W.Frag} {H : Hp} {p : Addr} (T : SqT K H p [.str "grown"]) : TolA K H (.ref p) .grown := .tup T (.cons (.str _) .nil)
theorem tol_change {K : PySem.W.Frag} {H : Hp} {p : Addr} {d : Int} (T : SqT K H p [.str "change", .int d]) : TolA K H (.ref p) (.change d) := .tup T (.cons (.str _) (.cons (.int _) .nil))
theorem tol_share {K : PySem.W.Frag} {H : Hp} {p s : Addr} {t b : Int} (T : SqT K H p [.str "share", .ref s]) (T2 : SqT K H s [.int t, .int b]) : TolA K H (.ref p) (.share t b) := .tup T (.cons (.str _) (.cons (.tup T2 (.cons (.int _) (.cons (.int _) .nil))) .nil))
theorem tol_al {K : PySem.W.Frag} {H : Hp} {p : Addr} {v1 v2 : V} {x y : Rl} (T : SqT K H p [.str "all", v1, v2]) (R1 : TolA K H v1 x) (R2 : TolA K H v2 y) : TolA K H (.ref p) (.al x y) := .tup T (.cons (.str _) (.cons R1 (.cons R2 .nil)))
theorem tol_so {K : PySem.W.Frag} {H : Hp} {p : Addr} {v1 v2 : V} {x y : Rl} (T : SqT K H p [.str "some", v1, v2]) (R1 : TolA K H v1 x) (R2 : TolA K H v2 y) : TolA K H (.ref p) (.so x y) := .tup T (.cons (.str _) (.cons R1 (.cons R2 .nil)))
theorem rep_any {K : PySem.W.Frag} {H : Hp} {p : Addr} {n : Rl} (R : TolA K H (.ref p) n) : ∃ xs, SqT K H p xs ∧ True := by
  cases tol_row R with
  | grown T => exact ⟨_, T, trivial⟩
  | change T => exact ⟨_, T, trivial⟩
  | share T _ => exact ⟨_, T, trivial⟩
  | al T _ _ => exact ⟨_, T, trivial⟩
  | so T _ _ => exact ⟨_, T, trivial⟩
structure BadOne (K : PySem.W.Frag) (H : Hp) (z : Str) (rest : List V) : Prop where
  h0 : rest = [] → z ≠ "grown"
  hc : ∀ v, rest = [v] → z = "change" → DeV K H v false
  hs : ∀ v, rest = [v] → z = "share" → SoV K H v false
theorem BadOne.same {K : PySem.W.Frag} {H H' : Hp} {z : Str} {rest : List V} (h : BadOne K H z rest) (e : Same H H') : BadOne K H' z rest := ⟨h.h0, fun v a b => (h.hc v a b).same e, fun v a b => (h.hs v a b).same e⟩
inductive RBad (K : PySem.W.Frag) (H : Hp) : Nat → V → Prop
  | zero (v : V) : RBad K H 0 v
  | no {d : Nat} {v : V} {k : Kn} : Kd K H v k → k ≠ .tup → RBad K H (d + 1) v
  | nil {d : Nat} {p : Addr} : SqT K H p [] → RBad K H (d + 1) (.ref p)
  | head {d : Nat} {p : Addr} {x : V} {k : Kn} {xs : List V} : SqT K H p (x :: xs) → Kd K H x k → k ≠ .str → RBad K H (d + 1) (.ref p)
  | one {d : Nat} {p : Addr} {z : Str} {rest : List V} : SqT K H p (.str z :: rest) → (rest.length ≠ 2 ∨ z = "change" ∨ z = "share") → BadOne K H z rest → RBad K H (d + 1) (.ref p)
  | fst {d : Nat} {p : Addr} {z : Str} {v1 v2 : V} : (z = "all" ∨ z = "some") → SqT K H p [.str z, v1, v2] → RBad K H d v1 → RBad K H (d + 1) (.ref p)
  | snd {d : Nat} {p : Addr} {z : Str} {v1 v2 : V} {r : Rl} : (z = "all" ∨ z = "some") → SqT K H p [.str z, v1, v2] → TolA K H v1 r → r.ok → r.dp ≤ d → RBad K H d v2 → RBad K H (d + 1) (.ref p)
theorem RBad.same {K : PySem.W.Frag} {H H' : Hp} (e : Same H H') {d : Nat} {v : V} (h : RBad K H d v) : RBad K H' d v := by
  induction h with
  | zero v => exact .zero v
  | no k n => exact .no (kd_same e k) n
  | nil t => exact .nil (Same.tup e t)
  | head t k n => exact .head (Same.tup e t) (kd_same e k) n
  | one t n b => exact .one (Same.tup e t) n (b.same e)
  | fst z t _ ih => exact .fst z (Same.tup e t) ih
  | snd z t r o dp _ ih => exact .snd z (Same.tup e t) (r.same e) o dp ih
def spOfRules (K : PySem.W.Frag) (cs : RC) : Sp := fun vs H Q _ => ∃ (wd : Str) (a1 a2 : Addr) (x y n : Rl), vs = [.str wd, .ref a1, .ref a2] ∧ ((wd = "all" ∧ n = .al x y) ∨ (wd = "some" ∧ n = .so x y)) ∧ ObjR K cs H a1 x ∧ ObjR K cs H a2 y ∧ ∀ a H', Same H H' → ObjR K cs H' a n → Q (.ref a) H'
def spOfOne (K : PySem.W.Frag) (cs : RC) (cN : Addr) : Sp := fun vs H Q E => (∃ (p : Addr) (n : Rl), vs = [.ref p] ∧ TolA K H (.ref p) n ∧ n.ok ∧ n.dp = 1 ∧ ∀ a H', Same H H' → ObjR K cs H' a n → Q (.ref a) H') ∨
  ∃ (p : Addr) (z : Str) (rest : List V), vs = [.ref p] ∧ SqT K H p (.str z :: rest) ∧ BadOne K H z rest ∧ ∀ H', Same H H' → E (.ref cN) none H'
def spWithin (K : PySem.W.Frag) (cs : RC) (cN : Addr) (d : Nat) : Sp := fun vs H Q E => (∃ (p : Addr) (n : Rl), vs = [.int (d : Int), .ref p] ∧ TolA K H (.ref p) n ∧ n.ok ∧ n.dp ≤ d ∧ ∀ a H', Same H H' → ObjR K cs H' a n → Q (.ref a) H') ∨
  ∃ v, vs = [.int (d : Int), v] ∧ RBad K H d v ∧ ∀ H', Same H H' → E (.ref cN) none H'
def spRuleOf (K : PySem.W.Frag) (cs : RC) (cN : Addr) : Sp := fun vs H Q E => (∃ (p : Addr) (n : Rl), vs = [.ref p] ∧ TolA K H (.ref p) n ∧ n.ok ∧ n.dp ≤ 4 ∧ ∀ a H', Same H H' → ObjR K cs H' a n → Q (.ref a) H') ∨
  ∃ v, vs = [v] ∧ RBad K H 4 v ∧ ∀ H', Same H H' → E (.ref cN) none H'
def spNo : Sp := fun _ _ _ _ => False
theorem fn_no {P : Program} {w : World} {K : PySem.W.Frag} {mg : Str → Option Value} {base : Heap} {CX : CXT} {k : Nat} {f : Addr} {fd : FuncData} {ps : List Str} : FnOk P w K mg base CX k f fd ps spNo := ⟨fun _ _ _ _ h => h.elim, fun _ _ _ _ _ _ _ _ _ _ _ _ _ h => h.elim⟩
def spCommon : Sp := fun vs H Q _ => ∃ a b, vs = [.int a, .int b] ∧ Q (.int (Mth.gcd a b)) H
theorem spCommon_of {H : Hp} {a b : Int} {Q : VK} {E : XK} (q : Q (.int (Mth.gcd a b)) H) : spCommon [.int a, .int b] H Q E := ⟨a, b, rfl, q⟩

section
variable {P : Program} {w : World} {K : PySem.W.Frag} {mg : Str → Option Value} {base : Heap} {f : Addr} {fd : FuncData} {cs : RC} {cN : Addr}
theorem ok_common_of (F : Fun K "common_of" "common_of" s_common_of f fd) (M : Mg mg) : FnOk P w K mg base CX0 1 f fd ["one", "other"] spCommon := by
  refine F.ok sc_common_of (fun vs H Q E h => ?_) (fun cdv A outer s H vs Q E hr h => ?_)
  · obtain ⟨a, b, rfl, _⟩ := h
    rfl
  obtain ⟨a, b, rfl, q⟩ := h
  refine ⟨_, (@pss_cons _ _ _ _ _ (@ps_set _ _ 2 _ _ _ _ sc_common_of.nd rfl l_common_of_2 (@pe_callB _ _ _ _ _ _ _ _ _ call_abs g_common_of_abs M.m_abs b_abs (@pa_cons _ _ _ _ _ (@pe_var _ 0 _ _ rfl v_common_of_0 dn_one dc_one) (@pa_nil _) (star1 rfl)) nn_abs dn_abs (star1 rfl) nost0) (swap1 rfl) (.inl rfl)) (@pss_cons _ _ _ _ _ (@ps_set _ _ 3 _ _ _ _ sc_common_of.nd rfl l_common_of_3 (@pe_callB _ _ _ _ _ _ _ _ _ call_abs g_common_of_abs M.m_abs b_abs (@pa_cons _ _ _ _ _ (@pe_var _ 1 _ _ rfl v_common_of_1 dn_other dc_other) (@pa_nil _) (star1 rfl)) nn_abs dn_abs (star1 rfl) nost0) (swap1 rfl) (.inl rfl)) (@pss_cons _ _ _ _ _ (@ps_while _ _ _ _ _ _ PassesOwn.never (@pt_cmpR _ _ _ _ _ _ _ _ (@op_ne _) (@pe_var _ 3 _ _ rfl v_common_of_3 dn_smaller dc_smaller) (@pe_int _ _ _ _) (nomark _)) (@pss_cons _ _ _ _ _ (@ps_set _ _ 4 _ _ _ _ sc_common_of.nd rfl l_common_of_4 (@pe_op _ _ _ _ _ _ _ _ (@op_mod _) (@pe_var _ 2 _ _ rfl v_common_of_2 dn_larger dc_larger) (@pe_var _ 3 _ _ rfl v_common_of_3 dn_smaller dc_smaller)) (swap1 rfl) (.inl rfl)) (@pss_cons _ _ _ _ _ (@ps_set _ _ 2 _ _ _ _ sc_common_of.nd rfl l_common_of_2 (@pe_var _ 3 _ _ rfl v_common_of_3 dn_smaller dc_smaller) (swap1 rfl) (.inl rfl)) (@pss_one _ _ _ (@ps_set _ _ 3 _ _ _ _ sc_common_of.nd rfl l_common_of_3 (@pe_var _ 4 _ _ rfl v_common_of_4 dn_rest dc_rest) (swap1 rfl) (.inl rfl)))))) (@pss_one _ _ _ (@ps_ret _ _ _ _ (@pe_var _ 2 _ _ rfl v_common_of_2 dn_larger dc_larger)))))), ?_⟩
  simp only [tTurn, rTurnT, tTryS, rCountT, rPop, rRep, tCont, iZipT, tChain3, tFld, sFld, tMake, tMake0, tMethD, tBM0, rUpper, tDict1T, tTryN, rSlS, rMulS, rCatS, iZipL, rInsert, rReverse, tDNewX, tTry, tRaise, iEnumL, iEnumT, iZip, iSeq, iOr, rIx, iStr, rLeS, rJoin, rSlTA, tComp_eq, tComp1, slots, Option.getD_some, Option.getD_none, tYes, tSeq, tAsg, gName, tOp, tUn, tC, tVar, tCB, tCons, tNil, tCall, rI, rI0, rU, tRet, tRetN, tIfS, tTest, tB, tAnd, tOr, tNot, tAndV, tOrV, tNotV, tIf, tChain, tMenu, tPar, tDrop, tTup, tLst, tNext, tSl, tPart, tNoPart, tNever, gTup, gCons, gNil, gSub, rSetL, tBM, rAppend, rEq, rNe, rIsi, rIxL, rIxT, rIxS, rSlL, isi_non_bl, isi_non_int, isi_non_str, isi_non_lst, isi_non_tup, isi_bl_bl, isi_bl_int, isi_bl_str, isi_bl_lst, isi_bl_tup, isi_int_bl, isi_int_int, isi_int_str, isi_int_lst, isi_int_tup, isi_str_bl, isi_str_int, isi_str_str, isi_str_lst, isi_str_tup, isi_lst_bl, isi_lst_int, isi_lst_str, isi_lst_lst, isi_lst_tup, isi_tup_bl, isi_tup_int, isi_tup_str, isi_tup_lst, isi_tup_tup, isi_dct_bl, isi_dct_int, isi_dct_str, isi_dct_lst, isi_dct_tup, Kd_non, Kd_bl, Kd_int, Kd_str, sc_non_non, sc_non_int, sc_int_non, sc_non_bl, sc_bl_non, sc_non_str, sc_str_non, sc_int_int, sc_bl_bl, sc_str_str, sc_int_str, sc_str_int, sc_bl_str, sc_str_bl, decide_true, decide_false, tFor_eq, iList, iTup, iRng1, iRng2, iRng3, rIndexT, tBM0, tBMT, tyK_int, tyK_bool, tyK_str, tyK_list, tyK_tuple, L2.start, cxK, Int.reduceToNat, List.map_cons, List.map_nil, List.length_cons, List.length_nil, Nat.reduceAdd, Nat.reduceSub, Nat.zero_add, List.replicate_succ, List.replicate_zero, List.cons_append, List.nil_append, List.append_nil, List.getElem?_cons_zero, List.getElem?_cons_succ, List.set_cons_zero, List.set_cons_succ, Option.some.injEq, V.int.injEq, V.bl.injEq, V.ref.injEq, V.str.injEq, V.ty.injEq, List.cons.injEq, exists_eq_left', exists_eq_left, exists_eq_right, exists_and_left, exists_and_right, and_true, true_and, and_assoc, exists_const, decide_eq_true_eq, Bool.not_eq_true', Bool.not_true, Bool.not_false, Bool.not_not, decide_eq_false_iff_not, ite_not, Bool.false_eq_true, if_true, if_false, reduceCtorEq, and_false, false_and, exists_false, or_false, false_or, ↓reduceIte, eq_self, reduceIte]
  refine ⟨fun m σ H' => H' = H ∧ ∃ l t r, σ = [some (.int a), some (.int b), some (.int l), some (.int t), r] ∧ 0 ≤ l ∧ 0 ≤ t ∧ t.toNat = m ∧ Mth.gcd l t = Mth.gcd a b, ⟨_, rfl, _, _, _, rfl, ?_, ?_, rfl, Mth.gcd_abs a b⟩, ?_⟩
  · split <;> omega
  · split <;> omega
  rintro m σ H' ⟨rfl, l, t, r, rfl, hl, ht, rfl, hg⟩
  simp only [tTurn, rTurnT, tTryS, rCountT, rPop, rRep, tCont, iZipT, tChain3, tFld, sFld, tMake, tMake0, tMethD, tBM0, rUpper, tDict1T, tTryN, rSlS, rMulS, rCatS, iZipL, rInsert, rReverse, tDNewX, tTry, tRaise, iEnumL, iEnumT, iZip, iSeq, iOr, rIx, iStr, rLeS, rJoin, rSlTA, tComp_eq, tComp1, slots, Option.getD_some, Option.getD_none, tYes, tSeq, tAsg, gName, tOp, tUn, tC, tVar, tCB, tCons, tNil, tCall, rI, rI0, rU, tRet, tRetN, tIfS, tTest, tB, tAnd, tOr, tNot, tAndV, tOrV, tNotV, tIf, tChain, tMenu, tPar, tDrop, tTup, tLst, tNext, tSl, tPart, tNoPart, tNever, gTup, gCons, gNil, gSub, rSetL, tBM, rAppend, rEq, rNe, rIsi, rIxL, rIxT, rIxS, rSlL, isi_non_bl, isi_non_int, isi_non_str, isi_non_lst, isi_non_tup, isi_bl_bl, isi_bl_int, isi_bl_str, isi_bl_lst, isi_bl_tup, isi_int_bl, isi_int_int, isi_int_str, isi_int_lst, isi_int_tup, isi_str_bl, isi_str_int, isi_str_str, isi_str_lst, isi_str_tup, isi_lst_bl, isi_lst_int, isi_lst_str, isi_lst_lst, isi_lst_tup, isi_tup_bl, isi_tup_int, isi_tup_str, isi_tup_lst, isi_tup_tup, isi_dct_bl, isi_dct_int, isi_dct_str, isi_dct_lst, isi_dct_tup, Kd_non, Kd_bl, Kd_int, Kd_str, sc_non_non, sc_non_int, sc_int_non, sc_non_bl, sc_bl_non, sc_non_str, sc_str_non, sc_int_int, sc_bl_bl, sc_str_str, sc_int_str, sc_str_int, sc_bl_str, sc_str_bl, decide_true, decide_false, tFor_eq, iList, iTup, iRng1, iRng2, iRng3, rIndexT, tBM0, tBMT, tyK_int, tyK_bool, tyK_str, tyK_list, tyK_tuple, L2.start, cxK, Int.reduceToNat, List.map_cons, List.map_nil, List.length_cons, List.length_nil, Nat.reduceAdd, Nat.reduceSub, Nat.zero_add, List.replicate_succ, List.replicate_zero, List.cons_append, List.nil_append, List.append_nil, List.getElem?_cons_zero, List.getElem?_cons_succ, List.set_cons_zero, List.set_cons_succ, Option.some.injEq, V.int.injEq, V.bl.injEq, V.ref.injEq, V.str.injEq, V.ty.injEq, List.cons.injEq, exists_eq_left', exists_eq_left, exists_eq_right, exists_and_left, exists_and_right, and_true, true_and, and_assoc, exists_const, decide_eq_true_eq, Bool.not_eq_true', Bool.not_true, Bool.not_false, Bool.not_not, decide_eq_false_iff_not, ite_not, Bool.false_eq_true, if_true, if_false, reduceCtorEq, and_false, false_and, exists_false, or_false, false_or, ↓reduceIte, eq_self, reduceIte]
  split
  · rename_i e
    subst e
    rw [Mth.gcd_zero hl] at hg
    rw [hg]
    exact q
  · rename_i e
    have tp : 0 < t := by omega
    have m0 := Int.emod_nonneg l (show t ≠ 0 by omega)
    have m1 := Int.emod_lt_of_pos l tp
    exact ⟨_, fun _ _ h => h, tp, (l % t).toNat, by omega, rfl, t, l % t, ⟨_, rfl⟩, by omega, m0, rfl, by rw [Mth.gcd_step hl tp]; exact hg⟩
theorem ok_is_share (F : Fun K "is_share" "is_share" s_is_share f fd) (M : Mg mg) (C_is_whole : Cal P w K mg base CX0 "is_whole" 1 ["thing"] (spIsWhole K)) (C_common_of : Cal P w K mg base CX0 "common_of" 1 ["one", "other"] spCommon) : FnOk P w K mg base CX0 2 f fd ["thing"] (spShareV K) := by
  refine F.ok sc_is_share (fun vs H Q E h => ?_) (fun cdv A outer s H vs Q E hr h => ?_)
  · obtain ⟨v, b, rfl, _⟩ := h
    rfl
  obtain ⟨v, b, rfl, B, q⟩ := h
  refine ⟨_, (@pss_cons _ _ _ _ _ (@ps_if _ _ _ _ _ _ _ _ (@PW.pt _ _ _ (@pw_or _ _ _ _ _ _ _ (@pt_not _ _ _ _ (@pt_val _ _ _ (@pe_callB _ _ _ _ _ _ _ _ _ call_isi g_is_share_isinstance M.m_isinstance b_isinstance (@pa_cons _ _ _ _ _ (@pe_var _ 0 _ _ rfl v_is_share_0 dn_thing dc_thing) (@pa_cons _ _ _ _ _ (@pe_bltn _ _ (.ty "tuple") _ _ g_is_share_tuple M.m_tuple b_tuple rfl nn_tuple dn_tuple) (@pa_nil _) (star1 rfl)) (star1 rfl)) nn_isinstance dn_isinstance (star1 rfl) (nost1 rfl nost0)) (test1 rfl))) (@pw_or1 _ _ _ _ (@pt_cmpR _ _ _ _ _ _ _ _ (@op_ne _) (@pe_callB _ _ _ _ _ _ _ _ _ call_len_seq g_is_share_len M.m_len b_len (@pa_cons _ _ _ _ _ (@pe_var _ 0 _ _ rfl v_is_share_0 dn_thing dc_thing) (@pa_nil _) (star1 rfl)) nn_len dn_len (star1 rfl) nost0) (@pe_int _ _ _ _) (nomark _))))) (@pss_one _ _ _ (@ps_ret _ _ _ _ (@pe_bl _ _ _ _))) (@pss_nil _)) (@pss_cons _ _ _ _ _ (@ps_if _ _ _ _ _ _ _ _ (@PW.pt _ _ _ (@pw_or _ _ _ _ _ _ _ (@pt_not _ _ _ _ (@pt_val _ _ _ (@pe_callC _ _ _ _ _ _ _ _ _ _ _ C_is_whole hr g_is_share_is_whole (@pa_cons _ _ _ _ _ (@pe_ix _ _ _ _ _ _ _ (@ix_tup _) (@pe_var _ 0 _ _ rfl v_is_share_0 dn_thing dc_thing) (@pe_int _ _ _ _) (fun _ _ => rfl)) (@pa_nil _) (star1 rfl)) (by decide) dn_is_whole (star1 rfl) nost0) (test1 rfl))) (@pw_or1 _ _ _ _ (@pt_not _ _ _ _ (@pt_val _ _ _ (@pe_callC _ _ _ _ _ _ _ _ _ _ _ C_is_whole hr g_is_share_is_whole (@pa_cons _ _ _ _ _ (@pe_ix _ _ _ _ _ _ _ (@ix_tup _) (@pe_var _ 0 _ _ rfl v_is_share_0 dn_thing dc_thing) (@pe_int _ _ _ _) (fun _ _ => rfl)) (@pa_nil _) (star1 rfl)) (by decide) dn_is_whole (star1 rfl) nost0) (test1 rfl)))))) (@pss_one _ _ _ (@ps_ret _ _ _ _ (@pe_bl _ _ _ _))) (@pss_nil _)) (@pss_one _ _ _ (@ps_ret _ _ _ _ (@pe_and _ _ _ _ _ _ _ (@pe_cmpR _ _ _ _ _ _ _ _ (@op_ge _) (@pe_ix _ _ _ _ _ _ _ (@ix_tup _) (@pe_var _ 0 _ _ rfl v_is_share_0 dn_thing dc_thing) (@pe_int _ _ _ _) (fun _ _ => rfl)) (@pe_int _ _ _ _) (nomark _)) (@pe_one _ _ _ _ _ (@pe_cmpR _ _ _ _ _ _ _ _ (@op_eq _) (@pe_callC _ _ _ _ _ _ _ _ _ _ _ C_common_of hr g_is_share_common_of (@pa_cons _ _ _ _ _ (@pe_ix _ _ _ _ _ _ _ (@ix_tup _) (@pe_var _ 0 _ _ rfl v_is_share_0 dn_thing dc_thing) (@pe_int _ _ _ _) (fun _ _ => rfl)) (@pa_cons _ _ _ _ _ (@pe_ix _ _ _ _ _ _ _ (@ix_tup _) (@pe_var _ 0 _ _ rfl v_is_share_0 dn_thing dc_thing) (@pe_int _ _ _ _) (fun _ _ => rfl)) (@pa_nil _) (star1 rfl)) (star1 rfl)) (by decide) dn_common_of (star1 rfl) (nost1 rfl nost0)) (@pe_int _ _ _ _) (nomark _)))))))), ?_⟩
  cases B with
  | no hk ne =>
    simp only [tTurn, rTurnT, tTryS, rCountT, rPop, rRep, tCont, iZipT, tChain3, tFld, sFld, tMake, tMake0, tMethD, tBM0, rUpper, tDict1T, tTryN, rSlS, rMulS, rCatS, iZipL, rInsert, rReverse, tDNewX, tTry, tRaise, iEnumL, iEnumT, iZip, iSeq, iOr, rIx, iStr, rLeS, rJoin, rSlTA, tComp_eq, tComp1, slots, Option.getD_some, Option.getD_none, tYes, tSeq, tAsg, gName, tOp, tUn, tC, tVar, tCB, tCons, tNil, tCall, rI, rI0, rU, tRet, tRetN, tIfS, tTest, tB, tAnd, tOr, tNot, tAndV, tOrV, tNotV, tIf, tChain, tMenu, tPar, tDrop, tTup, tLst, tNext, tSl, tPart, tNoPart, tNever, gTup, gCons, gNil, gSub, rSetL, tBM, rAppend, rEq, rNe, rIsi, rIxL, rIxT, rIxS, rSlL, isi_non_bl, isi_non_int, isi_non_str, isi_non_lst, isi_non_tup, isi_bl_bl, isi_bl_int, isi_bl_str, isi_bl_lst, isi_bl_tup, isi_int_bl, isi_int_int, isi_int_str, isi_int_lst, isi_int_tup, isi_str_bl, isi_str_int, isi_str_str, isi_str_lst, isi_str_tup, isi_lst_bl, isi_lst_int, isi_lst_str, isi_lst_lst, isi_lst_tup, isi_tup_bl, isi_tup_int, isi_tup_str, isi_tup_lst, isi_tup_tup, isi_dct_bl, isi_dct_int, isi_dct_str, isi_dct_lst, isi_dct_tup, Kd_non, Kd_bl, Kd_int, Kd_str, sc_non_non, sc_non_int, sc_int_non, sc_non_bl, sc_bl_non, sc_non_str, sc_str_non, sc_int_int, sc_bl_bl, sc_str_str, sc_int_str, sc_str_int, sc_bl_str, sc_str_bl, decide_true, decide_false, tFor_eq, iList, iTup, iRng1, iRng2, iRng3, rIndexT, tBM0, tBMT, tyK_int, tyK_bool, tyK_str, tyK_list, tyK_tuple, L2.start, cxK, Int.reduceToNat, List.map_cons, List.map_nil, List.length_cons, List.length_nil, Nat.reduceAdd, Nat.reduceSub, Nat.zero_add, List.replicate_succ, List.replicate_zero, List.cons_append, List.nil_append, List.append_nil, List.getElem?_cons_zero, List.getElem?_cons_succ, List.set_cons_zero, List.set_cons_succ, Option.some.injEq, V.int.injEq, V.bl.injEq, V.ref.injEq, V.str.injEq, V.ty.injEq, List.cons.injEq, exists_eq_left', exists_eq_left, exists_eq_right, exists_and_left, exists_and_right, and_true, true_and, and_assoc, exists_const, decide_eq_true_eq, Bool.not_eq_true', Bool.not_true, Bool.not_false, Bool.not_not, decide_eq_false_iff_not, ite_not, Bool.false_eq_true, if_true, if_false, reduceCtorEq, and_false, false_and, exists_false, or_false, false_or, ↓reduceIte, eq_self, reduceIte]
    refine ⟨_, hk, ?_⟩
    rw [if_pos (isi_tup_ne ne)]
    exact q
  | @len p xs T ne =>
    simp only [tTurn, rTurnT, tTryS, rCountT, rPop, rRep, tCont, iZipT, tChain3, tFld, sFld, tMake, tMake0, tMethD, tBM0, rUpper, tDict1T, tTryN, rSlS, rMulS, rCatS, iZipL, rInsert, rReverse, tDNewX, tTry, tRaise, iEnumL, iEnumT, iZip, iSeq, iOr, rIx, iStr, rLeS, rJoin, rSlTA, tComp_eq, tComp1, slots, Option.getD_some, Option.getD_none, tYes, tSeq, tAsg, gName, tOp, tUn, tC, tVar, tCB, tCons, tNil, tCall, rI, rI0, rU, tRet, tRetN, tIfS, tTest, tB, tAnd, tOr, tNot, tAndV, tOrV, tNotV, tIf, tChain, tMenu, tPar, tDrop, tTup, tLst, tNext, tSl, tPart, tNoPart, tNever, gTup, gCons, gNil, gSub, rSetL, tBM, rAppend, rEq, rNe, rIsi, rIxL, rIxT, rIxS, rSlL, isi_non_bl, isi_non_int, isi_non_str, isi_non_lst, isi_non_tup, isi_bl_bl, isi_bl_int, isi_bl_str, isi_bl_lst, isi_bl_tup, isi_int_bl, isi_int_int, isi_int_str, isi_int_lst, isi_int_tup, isi_str_bl, isi_str_int, isi_str_str, isi_str_lst, isi_str_tup, isi_lst_bl, isi_lst_int, isi_lst_str, isi_lst_lst, isi_lst_tup, isi_tup_bl, isi_tup_int, isi_tup_str, isi_tup_lst, isi_tup_tup, isi_dct_bl, isi_dct_int, isi_dct_str, isi_dct_lst, isi_dct_tup, Kd_non, Kd_bl, Kd_int, Kd_str, sc_non_non, sc_non_int, sc_int_non, sc_non_bl, sc_bl_non, sc_non_str, sc_str_non, sc_int_int, sc_bl_bl, sc_str_str, sc_int_str, sc_str_int, sc_bl_str, sc_str_bl, decide_true, decide_false, tFor_eq, iList, iTup, iRng1, iRng2, iRng3, rIndexT, tBM0, tBMT, tyK_int, tyK_bool, tyK_str, tyK_list, tyK_tuple, L2.start, cxK, Int.reduceToNat, List.map_cons, List.map_nil, List.length_cons, List.length_nil, Nat.reduceAdd, Nat.reduceSub, Nat.zero_add, List.replicate_succ, List.replicate_zero, List.cons_append, List.nil_append, List.append_nil, List.getElem?_cons_zero, List.getElem?_cons_succ, List.set_cons_zero, List.set_cons_succ, Option.some.injEq, V.int.injEq, V.bl.injEq, V.ref.injEq, V.str.injEq, V.ty.injEq, List.cons.injEq, exists_eq_left', exists_eq_left, exists_eq_right, exists_and_left, exists_and_right, and_true, true_and, and_assoc, exists_const, decide_eq_true_eq, Bool.not_eq_true', Bool.not_true, Bool.not_false, Bool.not_not, decide_eq_false_iff_not, ite_not, Bool.false_eq_true, if_true, if_false, reduceCtorEq, and_false, false_and, exists_false, or_false, false_or, ↓reduceIte, eq_self, reduceIte]
    refine ⟨_, Kd.tup T, ?_⟩
    rw [if_neg (by decide)]
    refine ⟨_, .inr T, ?_⟩
    rw [if_neg (by omega)]
    exact q
  | @two p t b T =>
    simp only [tTurn, rTurnT, tTryS, rCountT, rPop, rRep, tCont, iZipT, tChain3, tFld, sFld, tMake, tMake0, tMethD, tBM0, rUpper, tDict1T, tTryN, rSlS, rMulS, rCatS, iZipL, rInsert, rReverse, tDNewX, tTry, tRaise, iEnumL, iEnumT, iZip, iSeq, iOr, rIx, iStr, rLeS, rJoin, rSlTA, tComp_eq, tComp1, slots, Option.getD_some, Option.getD_none, tYes, tSeq, tAsg, gName, tOp, tUn, tC, tVar, tCB, tCons, tNil, tCall, rI, rI0, rU, tRet, tRetN, tIfS, tTest, tB, tAnd, tOr, tNot, tAndV, tOrV, tNotV, tIf, tChain, tMenu, tPar, tDrop, tTup, tLst, tNext, tSl, tPart, tNoPart, tNever, gTup, gCons, gNil, gSub, rSetL, tBM, rAppend, rEq, rNe, rIsi, rIxL, rIxT, rIxS, rSlL, isi_non_bl, isi_non_int, isi_non_str, isi_non_lst, isi_non_tup, isi_bl_bl, isi_bl_int, isi_bl_str, isi_bl_lst, isi_bl_tup, isi_int_bl, isi_int_int, isi_int_str, isi_int_lst, isi_int_tup, isi_str_bl, isi_str_int, isi_str_str, isi_str_lst, isi_str_tup, isi_lst_bl, isi_lst_int, isi_lst_str, isi_lst_lst, isi_lst_tup, isi_tup_bl, isi_tup_int, isi_tup_str, isi_tup_lst, isi_tup_tup, isi_dct_bl, isi_dct_int, isi_dct_str, isi_dct_lst, isi_dct_tup, Kd_non, Kd_bl, Kd_int, Kd_str, sc_non_non, sc_non_int, sc_int_non, sc_non_bl, sc_bl_non, sc_non_str, sc_str_non, sc_int_int, sc_bl_bl, sc_str_str, sc_int_str, sc_str_int, sc_bl_str, sc_str_bl, decide_true, decide_false, tFor_eq, iList, iTup, iRng1, iRng2, iRng3, rIndexT, tBM0, tBMT, tyK_int, tyK_bool, tyK_str, tyK_list, tyK_tuple, L2.start, cxK, Int.reduceToNat, List.map_cons, List.map_nil, List.length_cons, List.length_nil, Nat.reduceAdd, Nat.reduceSub, Nat.zero_add, List.replicate_succ, List.replicate_zero, List.cons_append, List.nil_append, List.append_nil, List.getElem?_cons_zero, List.getElem?_cons_succ, List.set_cons_zero, List.set_cons_succ, Option.some.injEq, V.int.injEq, V.bl.injEq, V.ref.injEq, V.str.injEq, V.ty.injEq, List.cons.injEq, exists_eq_left', exists_eq_left, exists_eq_right, exists_and_left, exists_and_right, and_true, true_and, and_assoc, exists_const, decide_eq_true_eq, Bool.not_eq_true', Bool.not_true, Bool.not_false, Bool.not_not, decide_eq_false_iff_not, ite_not, Bool.false_eq_true, if_true, if_false, reduceCtorEq, and_false, false_and, exists_false, or_false, false_or, ↓reduceIte, eq_self, reduceIte]
    refine ⟨_, Kd.tup T, ?_⟩
    rw [if_neg (by decide)]
    refine ⟨_, .inr T, ?_⟩
    rw [if_pos (by rfl)]
    refine ⟨_, T, _, rfl, spIsWhole_of (k := .int) rfl ⟨_, rfl, ?_⟩⟩
    rw [if_neg (by decide)]
    refine ⟨_, T, _, rfl, spIsWhole_of (k := .int) rfl ⟨_, rfl, ?_⟩⟩
    rw [if_neg (by decide)]
    refine ⟨_, T, _, rfl, _, rfl, ?_⟩
    by_cases b1 : 1 ≤ b
    · rw [if_pos b1]
      refine ⟨_, T, _, rfl, _, T, _, rfl, spCommon_of ?_⟩
      simp only [tTurn, rTurnT, tTryS, rCountT, rPop, rRep, tCont, iZipT, tChain3, tFld, sFld, tMake, tMake0, tMethD, tBM0, rUpper, tDict1T, tTryN, rSlS, rMulS, rCatS, iZipL, rInsert, rReverse, tDNewX, tTry, tRaise, iEnumL, iEnumT, iZip, iSeq, iOr, rIx, iStr, rLeS, rJoin, rSlTA, tComp_eq, tComp1, slots, Option.getD_some, Option.getD_none, tYes, tSeq, tAsg, gName, tOp, tUn, tC, tVar, tCB, tCons, tNil, tCall, rI, rI0, rU, tRet, tRetN, tIfS, tTest, tB, tAnd, tOr, tNot, tAndV, tOrV, tNotV, tIf, tChain, tMenu, tPar, tDrop, tTup, tLst, tNext, tSl, tPart, tNoPart, tNever, gTup, gCons, gNil, gSub, rSetL, tBM, rAppend, rEq, rNe, rIsi, rIxL, rIxT, rIxS, rSlL, isi_non_bl, isi_non_int, isi_non_str, isi_non_lst, isi_non_tup, isi_bl_bl, isi_bl_int, isi_bl_str, isi_bl_lst, isi_bl_tup, isi_int_bl, isi_int_int, isi_int_str, isi_int_lst, isi_int_tup, isi_str_bl, isi_str_int, isi_str_str, isi_str_lst, isi_str_tup, isi_lst_bl, isi_lst_int, isi_lst_str, isi_lst_lst, isi_lst_tup, isi_tup_bl, isi_tup_int, isi_tup_str, isi_tup_lst, isi_tup_tup, isi_dct_bl, isi_dct_int, isi_dct_str, isi_dct_lst, isi_dct_tup, Kd_non, Kd_bl, Kd_int, Kd_str, sc_non_non, sc_non_int, sc_int_non, sc_non_bl, sc_bl_non, sc_non_str, sc_str_non, sc_int_int, sc_bl_bl, sc_str_str, sc_int_str, sc_str_int, sc_bl_str, sc_str_bl, decide_true, decide_false, tFor_eq, iList, iTup, iRng1, iRng2, iRng3, rIndexT, tBM0, tBMT, tyK_int, tyK_bool, tyK_str, tyK_list, tyK_tuple, L2.start, cxK, Int.reduceToNat, List.map_cons, List.map_nil, List.length_cons, List.length_nil, Nat.reduceAdd, Nat.reduceSub, Nat.zero_add, List.replicate_succ, List.replicate_zero, List.cons_append, List.nil_append, List.append_nil, List.getElem?_cons_zero, List.getElem?_cons_succ, List.set_cons_zero, List.set_cons_succ, Option.some.injEq, V.int.injEq, V.bl.injEq, V.ref.injEq, V.str.injEq, V.ty.injEq, List.cons.injEq, exists_eq_left', exists_eq_left, exists_eq_right, exists_and_left, exists_and_right, and_true, true_and, and_assoc, exists_const, decide_eq_true_eq, Bool.not_eq_true', Bool.not_true, Bool.not_false, Bool.not_not, decide_eq_false_iff_not, ite_not, Bool.false_eq_true, if_true, if_false, reduceCtorEq, and_false, false_and, exists_false, or_false, false_or, ↓reduceIte, eq_self, reduceIte]
      have e : decide (1 ≤ b ∧ Mth.gcd t b = 1) = decide (Mth.gcd t b = 1) := decide_eq_decide.mpr ⟨fun h => h.2, fun h => ⟨b1, h⟩⟩
      rw [e] at q
      exact q
    · rw [if_neg b1]
      rw [decide_eq_false (fun h => b1 h.1)] at q
      exact q
theorem ok_is_deep (F : Fun K "is_deep" "is_deep" s_is_deep f fd) (M : Mg mg) (C_is_whole : Cal P w K mg base CX0 "is_whole" 1 ["thing"] (spIsWhole K)) : FnOk P w K mg base CX0 2 f fd ["thing"] (spDeepV K) := by
  refine F.ok sc_is_deep (fun vs H Q E h => ?_) (fun cdv A outer s H vs Q E hr h => ?_)
  · obtain ⟨v, b, rfl, _⟩ := h
    rfl
  obtain ⟨v, b, rfl, B, q⟩ := h
  refine ⟨_, (@pss_one _ _ _ (@ps_ret _ _ _ _ (@pe_and _ _ _ _ _ _ _ (@pe_callC _ _ _ _ _ _ _ _ _ _ _ C_is_whole hr g_is_deep_is_whole (@pa_cons _ _ _ _ _ (@pe_var _ 0 _ _ rfl v_is_deep_0 dn_thing dc_thing) (@pa_nil _) (star1 rfl)) (by decide) dn_is_whole (star1 rfl) nost0) (@pe_one _ _ _ _ _ (@pe_chain _ _ _ _ _ _ _ _ _ _ _ _ op_le op_le (@pe_int _ _ _ _) (@pe_var _ 0 _ _ rfl v_is_deep_0 dn_thing dc_thing) (@pe_int _ _ _ _) (by with_unfolding_all rfl)))))), ?_⟩
  cases B with
  | no hk ne =>
    simp only [tTurn, rTurnT, tTryS, rCountT, rPop, rRep, tCont, iZipT, tChain3, tFld, sFld, tMake, tMake0, tMethD, tBM0, rUpper, tDict1T, tTryN, rSlS, rMulS, rCatS, iZipL, rInsert, rReverse, tDNewX, tTry, tRaise, iEnumL, iEnumT, iZip, iSeq, iOr, rIx, iStr, rLeS, rJoin, rSlTA, tComp_eq, tComp1, slots, Option.getD_some, Option.getD_none, tYes, tSeq, tAsg, gName, tOp, tUn, tC, tVar, tCB, tCons, tNil, tCall, rI, rI0, rU, tRet, tRetN, tIfS, tTest, tB, tAnd, tOr, tNot, tAndV, tOrV, tNotV, tIf, tChain, tMenu, tPar, tDrop, tTup, tLst, tNext, tSl, tPart, tNoPart, tNever, gTup, gCons, gNil, gSub, rSetL, tBM, rAppend, rEq, rNe, rIsi, rIxL, rIxT, rIxS, rSlL, isi_non_bl, isi_non_int, isi_non_str, isi_non_lst, isi_non_tup, isi_bl_bl, isi_bl_int, isi_bl_str, isi_bl_lst, isi_bl_tup, isi_int_bl, isi_int_int, isi_int_str, isi_int_lst, isi_int_tup, isi_str_bl, isi_str_int, isi_str_str, isi_str_lst, isi_str_tup, isi_lst_bl, isi_lst_int, isi_lst_str, isi_lst_lst, isi_lst_tup, isi_tup_bl, isi_tup_int, isi_tup_str, isi_tup_lst, isi_tup_tup, isi_dct_bl, isi_dct_int, isi_dct_str, isi_dct_lst, isi_dct_tup, Kd_non, Kd_bl, Kd_int, Kd_str, sc_non_non, sc_non_int, sc_int_non, sc_non_bl, sc_bl_non, sc_non_str, sc_str_non, sc_int_int, sc_bl_bl, sc_str_str, sc_int_str, sc_str_int, sc_bl_str, sc_str_bl, decide_true, decide_false, tFor_eq, iList, iTup, iRng1, iRng2, iRng3, rIndexT, tBM0, tBMT, tyK_int, tyK_bool, tyK_str, tyK_list, tyK_tuple, L2.start, cxK, Int.reduceToNat, List.map_cons, List.map_nil, List.length_cons, List.length_nil, Nat.reduceAdd, Nat.reduceSub, Nat.zero_add, List.replicate_succ, List.replicate_zero, List.cons_append, List.nil_append, List.append_nil, List.getElem?_cons_zero, List.getElem?_cons_succ, List.set_cons_zero, List.set_cons_succ, Option.some.injEq, V.int.injEq, V.bl.injEq, V.ref.injEq, V.str.injEq, V.ty.injEq, List.cons.injEq, exists_eq_left', exists_eq_left, exists_eq_right, exists_and_left, exists_and_right, and_true, true_and, and_assoc, exists_const, decide_eq_true_eq, Bool.not_eq_true', Bool.not_true, Bool.not_false, Bool.not_not, decide_eq_false_iff_not, ite_not, Bool.false_eq_true, if_true, if_false, reduceCtorEq, and_false, false_and, exists_false, or_false, false_or, ↓reduceIte, eq_self, reduceIte]
    refine spIsWhole_of hk ⟨_, rfl, ?_⟩
    rw [wholeK_ne ne, if_neg (by decide)]
    exact q
  | @int d =>
    simp only [tTurn, rTurnT, tTryS, rCountT, rPop, rRep, tCont, iZipT, tChain3, tFld, sFld, tMake, tMake0, tMethD, tBM0, rUpper, tDict1T, tTryN, rSlS, rMulS, rCatS, iZipL, rInsert, rReverse, tDNewX, tTry, tRaise, iEnumL, iEnumT, iZip, iSeq, iOr, rIx, iStr, rLeS, rJoin, rSlTA, tComp_eq, tComp1, slots, Option.getD_some, Option.getD_none, tYes, tSeq, tAsg, gName, tOp, tUn, tC, tVar, tCB, tCons, tNil, tCall, rI, rI0, rU, tRet, tRetN, tIfS, tTest, tB, tAnd, tOr, tNot, tAndV, tOrV, tNotV, tIf, tChain, tMenu, tPar, tDrop, tTup, tLst, tNext, tSl, tPart, tNoPart, tNever, gTup, gCons, gNil, gSub, rSetL, tBM, rAppend, rEq, rNe, rIsi, rIxL, rIxT, rIxS, rSlL, isi_non_bl, isi_non_int, isi_non_str, isi_non_lst, isi_non_tup, isi_bl_bl, isi_bl_int, isi_bl_str, isi_bl_lst, isi_bl_tup, isi_int_bl, isi_int_int, isi_int_str, isi_int_lst, isi_int_tup, isi_str_bl, isi_str_int, isi_str_str, isi_str_lst, isi_str_tup, isi_lst_bl, isi_lst_int, isi_lst_str, isi_lst_lst, isi_lst_tup, isi_tup_bl, isi_tup_int, isi_tup_str, isi_tup_lst, isi_tup_tup, isi_dct_bl, isi_dct_int, isi_dct_str, isi_dct_lst, isi_dct_tup, Kd_non, Kd_bl, Kd_int, Kd_str, sc_non_non, sc_non_int, sc_int_non, sc_non_bl, sc_bl_non, sc_non_str, sc_str_non, sc_int_int, sc_bl_bl, sc_str_str, sc_int_str, sc_str_int, sc_bl_str, sc_str_bl, decide_true, decide_false, tFor_eq, iList, iTup, iRng1, iRng2, iRng3, rIndexT, tBM0, tBMT, tyK_int, tyK_bool, tyK_str, tyK_list, tyK_tuple, L2.start, cxK, Int.reduceToNat, List.map_cons, List.map_nil, List.length_cons, List.length_nil, Nat.reduceAdd, Nat.reduceSub, Nat.zero_add, List.replicate_succ, List.replicate_zero, List.cons_append, List.nil_append, List.append_nil, List.getElem?_cons_zero, List.getElem?_cons_succ, List.set_cons_zero, List.set_cons_succ, Option.some.injEq, V.int.injEq, V.bl.injEq, V.ref.injEq, V.str.injEq, V.ty.injEq, List.cons.injEq, exists_eq_left', exists_eq_left, exists_eq_right, exists_and_left, exists_and_right, and_true, true_and, and_assoc, exists_const, decide_eq_true_eq, Bool.not_eq_true', Bool.not_true, Bool.not_false, Bool.not_not, decide_eq_false_iff_not, ite_not, Bool.false_eq_true, if_true, if_false, reduceCtorEq, and_false, false_and, exists_false, or_false, false_or, ↓reduceIte, eq_self, reduceIte]
    refine spIsWhole_of (k := .int) rfl ⟨_, rfl, ?_⟩
    rw [if_pos (show wholeK Kn.int = true from rfl)]
    by_cases d1 : 1 ≤ d
    · rw [if_pos d1]
      have e : decide (1 ≤ d ∧ d ≤ 4) = decide (d ≤ 4) := decide_eq_decide.mpr ⟨fun h => h.2, fun h => ⟨d1, h⟩⟩
      rw [e] at q
      exact q
    · rw [if_neg d1]
      rw [decide_eq_false (fun h => d1 h.1)] at q
      exact q
theorem ok_is_share_of_one (F : Fun K "is_share_of_one" "is_share_of_one" s_is_share_of_one f fd) (M : Mg mg) (C_is_share : Cal P w K mg base CX0 "is_share" 2 ["thing"] (spShareV K)) : FnOk P w K mg base CX0 3 f fd ["thing"] (spShareO K) := by
  refine F.ok sc_is_share_of_one (fun vs H Q E h => ?_) (fun cdv A outer s H vs Q E hr h => ?_)
  · obtain ⟨v, b, rfl, _⟩ := h
    rfl
  obtain ⟨v, b, rfl, B, q⟩ := h
  refine ⟨_, (@pss_one _ _ _ (@ps_ret _ _ _ _ (@pe_and _ _ _ _ _ _ _ (@pe_callC _ _ _ _ _ _ _ _ _ _ _ C_is_share hr g_is_share_of_one_is_share (@pa_cons _ _ _ _ _ (@pe_var _ 0 _ _ rfl v_is_share_of_one_0 dn_thing dc_thing) (@pa_nil _) (star1 rfl)) (by decide) dn_is_share (star1 rfl) nost0) (@pe_one _ _ _ _ _ (@pe_chain3 _ _ _ _ _ _ _ _ _ _ _ _ _ _ _ _ op_le op_le op_le (@pe_int _ _ _ _) (@pe_ix _ _ _ _ _ _ _ (@ix_tup _) (@pe_var _ 0 _ _ rfl v_is_share_of_one_0 dn_thing dc_thing) (@pe_int _ _ _ _) (fun _ _ => rfl)) (@pe_ix _ _ _ _ _ _ _ (@ix_tup _) (@pe_var _ 0 _ _ rfl v_is_share_of_one_0 dn_thing dc_thing) (@pe_int _ _ _ _) (fun _ _ => rfl)) (@pe_op _ _ _ _ _ _ _ _ (@op_pow _) (@pe_int _ _ _ _) (@pe_int _ _ _ _)) (by with_unfolding_all rfl)))))), ?_⟩
  cases B with
  | no hv =>
    simp only [tTurn, rTurnT, tTryS, rCountT, rPop, rRep, tCont, iZipT, tChain3, tFld, sFld, tMake, tMake0, tMethD, tBM0, rUpper, tDict1T, tTryN, rSlS, rMulS, rCatS, iZipL, rInsert, rReverse, tDNewX, tTry, tRaise, iEnumL, iEnumT, iZip, iSeq, iOr, rIx, iStr, rLeS, rJoin, rSlTA, tComp_eq, tComp1, slots, Option.getD_some, Option.getD_none, tYes, tSeq, tAsg, gName, tOp, tUn, tC, tVar, tCB, tCons, tNil, tCall, rI, rI0, rU, tRet, tRetN, tIfS, tTest, tB, tAnd, tOr, tNot, tAndV, tOrV, tNotV, tIf, tChain, tMenu, tPar, tDrop, tTup, tLst, tNext, tSl, tPart, tNoPart, tNever, gTup, gCons, gNil, gSub, rSetL, tBM, rAppend, rEq, rNe, rIsi, rIxL, rIxT, rIxS, rSlL, isi_non_bl, isi_non_int, isi_non_str, isi_non_lst, isi_non_tup, isi_bl_bl, isi_bl_int, isi_bl_str, isi_bl_lst, isi_bl_tup, isi_int_bl, isi_int_int, isi_int_str, isi_int_lst, isi_int_tup, isi_str_bl, isi_str_int, isi_str_str, isi_str_lst, isi_str_tup, isi_lst_bl, isi_lst_int, isi_lst_str, isi_lst_lst, isi_lst_tup, isi_tup_bl, isi_tup_int, isi_tup_str, isi_tup_lst, isi_tup_tup, isi_dct_bl, isi_dct_int, isi_dct_str, isi_dct_lst, isi_dct_tup, Kd_non, Kd_bl, Kd_int, Kd_str, sc_non_non, sc_non_int, sc_int_non, sc_non_bl, sc_bl_non, sc_non_str, sc_str_non, sc_int_int, sc_bl_bl, sc_str_str, sc_int_str, sc_str_int, sc_bl_str, sc_str_bl, decide_true, decide_false, tFor_eq, iList, iTup, iRng1, iRng2, iRng3, rIndexT, tBM0, tBMT, tyK_int, tyK_bool, tyK_str, tyK_list, tyK_tuple, L2.start, cxK, Int.reduceToNat, List.map_cons, List.map_nil, List.length_cons, List.length_nil, Nat.reduceAdd, Nat.reduceSub, Nat.zero_add, List.replicate_succ, List.replicate_zero, List.cons_append, List.nil_append, List.append_nil, List.getElem?_cons_zero, List.getElem?_cons_succ, List.set_cons_zero, List.set_cons_succ, Option.some.injEq, V.int.injEq, V.bl.injEq, V.ref.injEq, V.str.injEq, V.ty.injEq, List.cons.injEq, exists_eq_left', exists_eq_left, exists_eq_right, exists_and_left, exists_and_right, and_true, true_and, and_assoc, exists_const, decide_eq_true_eq, Bool.not_eq_true', Bool.not_true, Bool.not_false, Bool.not_not, decide_eq_false_iff_not, ite_not, Bool.false_eq_true, if_true, if_false, reduceCtorEq, and_false, false_and, exists_false, or_false, false_or, ↓reduceIte, eq_self, reduceIte]
    refine ⟨_, _, rfl, hv, ⟨_, rfl, ?_⟩⟩
    rw [if_neg (by decide)]
    exact q
  | @two p t b T =>
    simp only [tTurn, rTurnT, tTryS, rCountT, rPop, rRep, tCont, iZipT, tChain3, tFld, sFld, tMake, tMake0, tMethD, tBM0, rUpper, tDict1T, tTryN, rSlS, rMulS, rCatS, iZipL, rInsert, rReverse, tDNewX, tTry, tRaise, iEnumL, iEnumT, iZip, iSeq, iOr, rIx, iStr, rLeS, rJoin, rSlTA, tComp_eq, tComp1, slots, Option.getD_some, Option.getD_none, tYes, tSeq, tAsg, gName, tOp, tUn, tC, tVar, tCB, tCons, tNil, tCall, rI, rI0, rU, tRet, tRetN, tIfS, tTest, tB, tAnd, tOr, tNot, tAndV, tOrV, tNotV, tIf, tChain, tMenu, tPar, tDrop, tTup, tLst, tNext, tSl, tPart, tNoPart, tNever, gTup, gCons, gNil, gSub, rSetL, tBM, rAppend, rEq, rNe, rIsi, rIxL, rIxT, rIxS, rSlL, isi_non_bl, isi_non_int, isi_non_str, isi_non_lst, isi_non_tup, isi_bl_bl, isi_bl_int, isi_bl_str, isi_bl_lst, isi_bl_tup, isi_int_bl, isi_int_int, isi_int_str, isi_int_lst, isi_int_tup, isi_str_bl, isi_str_int, isi_str_str, isi_str_lst, isi_str_tup, isi_lst_bl, isi_lst_int, isi_lst_str, isi_lst_lst, isi_lst_tup, isi_tup_bl, isi_tup_int, isi_tup_str, isi_tup_lst, isi_tup_tup, isi_dct_bl, isi_dct_int, isi_dct_str, isi_dct_lst, isi_dct_tup, Kd_non, Kd_bl, Kd_int, Kd_str, sc_non_non, sc_non_int, sc_int_non, sc_non_bl, sc_bl_non, sc_non_str, sc_str_non, sc_int_int, sc_bl_bl, sc_str_str, sc_int_str, sc_str_int, sc_bl_str, sc_str_bl, decide_true, decide_false, tFor_eq, iList, iTup, iRng1, iRng2, iRng3, rIndexT, tBM0, tBMT, tyK_int, tyK_bool, tyK_str, tyK_list, tyK_tuple, L2.start, cxK, Int.reduceToNat, List.map_cons, List.map_nil, List.length_cons, List.length_nil, Nat.reduceAdd, Nat.reduceSub, Nat.zero_add, List.replicate_succ, List.replicate_zero, List.cons_append, List.nil_append, List.append_nil, List.getElem?_cons_zero, List.getElem?_cons_succ, List.set_cons_zero, List.set_cons_succ, Option.some.injEq, V.int.injEq, V.bl.injEq, V.ref.injEq, V.str.injEq, V.ty.injEq, List.cons.injEq, exists_eq_left', exists_eq_left, exists_eq_right, exists_and_left, exists_and_right, and_true, true_and, and_assoc, exists_const, decide_eq_true_eq, Bool.not_eq_true', Bool.not_true, Bool.not_false, Bool.not_not, decide_eq_false_iff_not, ite_not, Bool.false_eq_true, if_true, if_false, reduceCtorEq, and_false, false_and, exists_false, or_false, false_or, ↓reduceIte, eq_self, reduceIte]
    refine ⟨_, _, rfl, .two T, ⟨_, rfl, ?_⟩⟩
    by_cases h1 : 1 ≤ b ∧ Mth.gcd t b = 1
    · rw [if_pos (decide_eq_true h1)]
      refine ⟨_, T, _, rfl, _, rfl, ?_⟩
      by_cases t0 : 0 ≤ t
      · rw [if_pos t0]
        refine ⟨_, T, _, rfl, _, rfl, _, rfl, ?_⟩
        by_cases tb : t ≤ b
        · rw [if_pos tb]
          refine ⟨cpow, _, rfl, ?_⟩
          have e : decide (ShOk t b) = decide (b ≤ 10 ^ 9) := decide_eq_decide.mpr ⟨fun h => h.2.2.2.1, fun h => ⟨t0, tb, h1.1, h, h1.2⟩⟩
          rw [e] at q
          exact q
        · rw [if_neg tb]
          rw [decide_eq_false (fun h : ShOk t b => tb h.2.1)] at q
          exact q
      · rw [if_neg t0]
        rw [decide_eq_false (fun h : ShOk t b => t0 h.1)] at q
        exact q
    · rw [if_neg (by rw [decide_eq_false h1]; decide)]
      rw [decide_eq_false (fun h : ShOk t b => h1 ⟨h.2.2.1, h.2.2.2.2⟩)] at q
      exact q
theorem ok_Change_init (F : Fun K "__init__" "Change.__init__" s_Change_init f fd) (M : Mg mg) (cl : Cls K cs.c) (na : NoAttr K cs.c "deep") : FnOk P w K mg base CX0 1 f fd ["self", "deep"] (spInit1 cs.c "deep") := by
  refine F.ok sc_Change_init (fun vs H Q E h => ?_) (fun cdv A outer s H vs Q E hr h => ?_)
  · obtain ⟨x, dx, v, rfl, _⟩ := h
    rfl
  obtain ⟨x, dx, v, rfl, hx, q⟩ := h
  refine ⟨_, (@pss_one _ _ _ (@ps_fld _ _ _ _ _ _ _ _ (@pe_var _ 0 _ _ rfl v_Change_init_0 dn_self dc_self) (@pe_var _ 1 _ _ rfl v_Change_init_1 dn_deep dc_deep) (swap1 rfl))), ?_⟩
  simp only [tTurn, rTurnT, tTryS, rCountT, rPop, rRep, tCont, iZipT, tChain3, tFld, sFld, tMake, tMake0, tMethD, tBM0, rUpper, tDict1T, tTryN, rSlS, rMulS, rCatS, iZipL, rInsert, rReverse, tDNewX, tTry, tRaise, iEnumL, iEnumT, iZip, iSeq, iOr, rIx, iStr, rLeS, rJoin, rSlTA, tComp_eq, tComp1, slots, Option.getD_some, Option.getD_none, tYes, tSeq, tAsg, gName, tOp, tUn, tC, tVar, tCB, tCons, tNil, tCall, rI, rI0, rU, tRet, tRetN, tIfS, tTest, tB, tAnd, tOr, tNot, tAndV, tOrV, tNotV, tIf, tChain, tMenu, tPar, tDrop, tTup, tLst, tNext, tSl, tPart, tNoPart, tNever, gTup, gCons, gNil, gSub, rSetL, tBM, rAppend, rEq, rNe, rIsi, rIxL, rIxT, rIxS, rSlL, isi_non_bl, isi_non_int, isi_non_str, isi_non_lst, isi_non_tup, isi_bl_bl, isi_bl_int, isi_bl_str, isi_bl_lst, isi_bl_tup, isi_int_bl, isi_int_int, isi_int_str, isi_int_lst, isi_int_tup, isi_str_bl, isi_str_int, isi_str_str, isi_str_lst, isi_str_tup, isi_lst_bl, isi_lst_int, isi_lst_str, isi_lst_lst, isi_lst_tup, isi_tup_bl, isi_tup_int, isi_tup_str, isi_tup_lst, isi_tup_tup, isi_dct_bl, isi_dct_int, isi_dct_str, isi_dct_lst, isi_dct_tup, Kd_non, Kd_bl, Kd_int, Kd_str, sc_non_non, sc_non_int, sc_int_non, sc_non_bl, sc_bl_non, sc_non_str, sc_str_non, sc_int_int, sc_bl_bl, sc_str_str, sc_int_str, sc_str_int, sc_bl_str, sc_str_bl, decide_true, decide_false, tFor_eq, iList, iTup, iRng1, iRng2, iRng3, rIndexT, tBM0, tBMT, tyK_int, tyK_bool, tyK_str, tyK_list, tyK_tuple, L2.start, cxK, Int.reduceToNat, List.map_cons, List.map_nil, List.length_cons, List.length_nil, Nat.reduceAdd, Nat.reduceSub, Nat.zero_add, List.replicate_succ, List.replicate_zero, List.cons_append, List.nil_append, List.append_nil, List.getElem?_cons_zero, List.getElem?_cons_succ, List.set_cons_zero, List.set_cons_succ, Option.some.injEq, V.int.injEq, V.bl.injEq, V.ref.injEq, V.str.injEq, V.ty.injEq, List.cons.injEq, exists_eq_left', exists_eq_left, exists_eq_right, exists_and_left, exists_and_right, and_true, true_and, and_assoc, exists_const, decide_eq_true_eq, Bool.not_eq_true', Bool.not_true, Bool.not_false, Bool.not_not, decide_eq_false_iff_not, ite_not, Bool.false_eq_true, if_true, if_false, reduceCtorEq, and_false, false_and, exists_false, or_false, false_or, ↓reduceIte, eq_self, reduceIte]
  exact ⟨_, _, _, hx, cl, na, by decide, q⟩
theorem ok_Worked_init (F : Fun K "__init__" "Worked.__init__" s_Worked_init f fd) (M : Mg mg) (cl : Cls K cs.w) (na : NoAttr K cs.w "share") : FnOk P w K mg base CX0 1 f fd ["self", "share"] (spInit1 cs.w "share") := by
  refine F.ok sc_Worked_init (fun vs H Q E h => ?_) (fun cdv A outer s H vs Q E hr h => ?_)
  · obtain ⟨x, dx, v, rfl, _⟩ := h
    rfl
  obtain ⟨x, dx, v, rfl, hx, q⟩ := h
  refine ⟨_, (@pss_one _ _ _ (@ps_fld _ _ _ _ _ _ _ _ (@pe_var _ 0 _ _ rfl v_Worked_init_0 dn_self dc_self) (@pe_var _ 1 _ _ rfl v_Worked_init_1 dn_share dc_share) (swap1 rfl))), ?_⟩
  simp only [tTurn, rTurnT, tTryS, rCountT, rPop, rRep, tCont, iZipT, tChain3, tFld, sFld, tMake, tMake0, tMethD, tBM0, rUpper, tDict1T, tTryN, rSlS, rMulS, rCatS, iZipL, rInsert, rReverse, tDNewX, tTry, tRaise, iEnumL, iEnumT, iZip, iSeq, iOr, rIx, iStr, rLeS, rJoin, rSlTA, tComp_eq, tComp1, slots, Option.getD_some, Option.getD_none, tYes, tSeq, tAsg, gName, tOp, tUn, tC, tVar, tCB, tCons, tNil, tCall, rI, rI0, rU, tRet, tRetN, tIfS, tTest, tB, tAnd, tOr, tNot, tAndV, tOrV, tNotV, tIf, tChain, tMenu, tPar, tDrop, tTup, tLst, tNext, tSl, tPart, tNoPart, tNever, gTup, gCons, gNil, gSub, rSetL, tBM, rAppend, rEq, rNe, rIsi, rIxL, rIxT, rIxS, rSlL, isi_non_bl, isi_non_int, isi_non_str, isi_non_lst, isi_non_tup, isi_bl_bl, isi_bl_int, isi_bl_str, isi_bl_lst, isi_bl_tup, isi_int_bl, isi_int_int, isi_int_str, isi_int_lst, isi_int_tup, isi_str_bl, isi_str_int, isi_str_str, isi_str_lst, isi_str_tup, isi_lst_bl, isi_lst_int, isi_lst_str, isi_lst_lst, isi_lst_tup, isi_tup_bl, isi_tup_int, isi_tup_str, isi_tup_lst, isi_tup_tup, isi_dct_bl, isi_dct_int, isi_dct_str, isi_dct_lst, isi_dct_tup, Kd_non, Kd_bl, Kd_int, Kd_str, sc_non_non, sc_non_int, sc_int_non, sc_non_bl, sc_bl_non, sc_non_str, sc_str_non, sc_int_int, sc_bl_bl, sc_str_str, sc_int_str, sc_str_int, sc_bl_str, sc_str_bl, decide_true, decide_false, tFor_eq, iList, iTup, iRng1, iRng2, iRng3, rIndexT, tBM0, tBMT, tyK_int, tyK_bool, tyK_str, tyK_list, tyK_tuple, L2.start, cxK, Int.reduceToNat, List.map_cons, List.map_nil, List.length_cons, List.length_nil, Nat.reduceAdd, Nat.reduceSub, Nat.zero_add, List.replicate_succ, List.replicate_zero, List.cons_append, List.nil_append, List.append_nil, List.getElem?_cons_zero, List.getElem?_cons_succ, List.set_cons_zero, List.set_cons_succ, Option.some.injEq, V.int.injEq, V.bl.injEq, V.ref.injEq, V.str.injEq, V.ty.injEq, List.cons.injEq, exists_eq_left', exists_eq_left, exists_eq_right, exists_and_left, exists_and_right, and_true, true_and, and_assoc, exists_const, decide_eq_true_eq, Bool.not_eq_true', Bool.not_true, Bool.not_false, Bool.not_not, decide_eq_false_iff_not, ite_not, Bool.false_eq_true, if_true, if_false, reduceCtorEq, and_false, false_and, exists_false, or_false, false_or, ↓reduceIte, eq_self, reduceIte]
  exact ⟨_, _, _, hx, cl, na, by decide, q⟩
theorem ok_OfRules_init (F : Fun K "__init__" "OfRules.__init__" s_OfRules_init f fd) (M : Mg mg) : FnOk P w K mg base CX0 1 f fd ["self", "one", "other"] (spInit2 K) := by
  refine F.ok sc_OfRules_init (fun vs H Q E h => ?_) (fun cdv A outer s H vs Q E hr h => ?_)
  · obtain ⟨x, C, dx, v1, v2, rfl, _⟩ := h
    rfl
  obtain ⟨x, C, dx, v1, v2, rfl, hx, cl, n1, n2, q⟩ := h
  refine ⟨_, (@pss_cons _ _ _ _ _ (@ps_fld _ _ _ _ _ _ _ _ (@pe_var _ 0 _ _ rfl v_OfRules_init_0 dn_self dc_self) (@pe_var _ 1 _ _ rfl v_OfRules_init_1 dn_one dc_one) (swap1 rfl)) (@pss_one _ _ _ (@ps_fld _ _ _ _ _ _ _ _ (@pe_var _ 0 _ _ rfl v_OfRules_init_0 dn_self dc_self) (@pe_var _ 2 _ _ rfl v_OfRules_init_2 dn_other dc_other) (swap1 rfl)))), ?_⟩
  simp only [tTurn, rTurnT, tTryS, rCountT, rPop, rRep, tCont, iZipT, tChain3, tFld, sFld, tMake, tMake0, tMethD, tBM0, rUpper, tDict1T, tTryN, rSlS, rMulS, rCatS, iZipL, rInsert, rReverse, tDNewX, tTry, tRaise, iEnumL, iEnumT, iZip, iSeq, iOr, rIx, iStr, rLeS, rJoin, rSlTA, tComp_eq, tComp1, slots, Option.getD_some, Option.getD_none, tYes, tSeq, tAsg, gName, tOp, tUn, tC, tVar, tCB, tCons, tNil, tCall, rI, rI0, rU, tRet, tRetN, tIfS, tTest, tB, tAnd, tOr, tNot, tAndV, tOrV, tNotV, tIf, tChain, tMenu, tPar, tDrop, tTup, tLst, tNext, tSl, tPart, tNoPart, tNever, gTup, gCons, gNil, gSub, rSetL, tBM, rAppend, rEq, rNe, rIsi, rIxL, rIxT, rIxS, rSlL, isi_non_bl, isi_non_int, isi_non_str, isi_non_lst, isi_non_tup, isi_bl_bl, isi_bl_int, isi_bl_str, isi_bl_lst, isi_bl_tup, isi_int_bl, isi_int_int, isi_int_str, isi_int_lst, isi_int_tup, isi_str_bl, isi_str_int, isi_str_str, isi_str_lst, isi_str_tup, isi_lst_bl, isi_lst_int, isi_lst_str, isi_lst_lst, isi_lst_tup, isi_tup_bl, isi_tup_int, isi_tup_str, isi_tup_lst, isi_tup_tup, isi_dct_bl, isi_dct_int, isi_dct_str, isi_dct_lst, isi_dct_tup, Kd_non, Kd_bl, Kd_int, Kd_str, sc_non_non, sc_non_int, sc_int_non, sc_non_bl, sc_bl_non, sc_non_str, sc_str_non, sc_int_int, sc_bl_bl, sc_str_str, sc_int_str, sc_str_int, sc_bl_str, sc_str_bl, decide_true, decide_false, tFor_eq, iList, iTup, iRng1, iRng2, iRng3, rIndexT, tBM0, tBMT, tyK_int, tyK_bool, tyK_str, tyK_list, tyK_tuple, L2.start, cxK, Int.reduceToNat, List.map_cons, List.map_nil, List.length_cons, List.length_nil, Nat.reduceAdd, Nat.reduceSub, Nat.zero_add, List.replicate_succ, List.replicate_zero, List.cons_append, List.nil_append, List.append_nil, List.getElem?_cons_zero, List.getElem?_cons_succ, List.set_cons_zero, List.set_cons_succ, Option.some.injEq, V.int.injEq, V.bl.injEq, V.ref.injEq, V.str.injEq, V.ty.injEq, List.cons.injEq, exists_eq_left', exists_eq_left, exists_eq_right, exists_and_left, exists_and_right, and_true, true_and, and_assoc, exists_const, decide_eq_true_eq, Bool.not_eq_true', Bool.not_true, Bool.not_false, Bool.not_not, decide_eq_false_iff_not, ite_not, Bool.false_eq_true, if_true, if_false, reduceCtorEq, and_false, false_and, exists_false, or_false, false_or, ↓reduceIte, eq_self, reduceIte]
  exact ⟨_, _, _, hx, cl, n1, by decide, _, _, _, upd_same, cl, n2, (show 1 < 1000 by decide), q _ upd_same fun b hb => by rw [upd_ne hb, upd_ne hb]⟩
theorem ok_rule_of_rules (F : Fun K "rule_of_rules" "rule_of_rules" s_rule_of_rules f fd) (M : Mg mg) (Z_AllOf : MkC P w K mg base "AllOf" cs.al 1 ["self", "one", "other"] (spInit2 K)) (Z_OneOf : MkC P w K mg base "OneOf" cs.so 1 ["self", "one", "other"] (spInit2 K)) (t1 : TwoC K cs.al) (t2 : TwoC K cs.so) : FnOk P w K mg base CX0 3 f fd ["word", "one", "other"] (spOfRules K cs) := by
  refine F.ok sc_rule_of_rules (fun vs H Q E h => ?_) (fun cdv A outer s H vs Q E hr h => ?_)
  · obtain ⟨wd, a1, a2, x, y, n, rfl, _⟩ := h
    rfl
  obtain ⟨wd, a1, a2, x, y, n, rfl, hw, O1, O2, q⟩ := h
  refine ⟨_, (@pss_cons _ _ _ _ _ (@ps_if _ _ _ _ _ _ _ _ (@pt_cmpR _ _ _ _ _ _ _ _ (@op_eq _) (@pe_var _ 0 _ _ rfl v_rule_of_rules_0 dn_word dc_word) (@pe_str _ _ _ _) (nomark _)) (@pss_one _ _ _ (@ps_ret _ _ _ _ (@pe_makeC _ _ _ _ _ _ _ _ _ _ _ _ Z_AllOf hr g_rule_of_rules_AllOf (@pa_cons _ _ _ _ _ (@pe_var _ 1 _ _ rfl v_rule_of_rules_1 dn_one dc_one) (@pa_cons _ _ _ _ _ (@pe_var _ 2 _ _ rfl v_rule_of_rules_2 dn_other dc_other) (@pa_nil _) (star1 rfl)) (star1 rfl)) (by decide) dn_AllOf (star1 rfl) (nost1 rfl nost0)))) (@pss_nil _)) (@pss_one _ _ _ (@ps_ret _ _ _ _ (@pe_makeC _ _ _ _ _ _ _ _ _ _ _ _ Z_OneOf hr g_rule_of_rules_OneOf (@pa_cons _ _ _ _ _ (@pe_var _ 1 _ _ rfl v_rule_of_rules_1 dn_one dc_one) (@pa_cons _ _ _ _ _ (@pe_var _ 2 _ _ rfl v_rule_of_rules_2 dn_other dc_other) (@pa_nil _) (star1 rfl)) (star1 rfl)) (by decide) dn_OneOf (star1 rfl) (nost1 rfl nost0))))), ?_⟩
  simp only [tTurn, rTurnT, tTryS, rCountT, rPop, rRep, tCont, iZipT, tChain3, tFld, sFld, tMake, tMake0, tMethD, tBM0, rUpper, tDict1T, tTryN, rSlS, rMulS, rCatS, iZipL, rInsert, rReverse, tDNewX, tTry, tRaise, iEnumL, iEnumT, iZip, iSeq, iOr, rIx, iStr, rLeS, rJoin, rSlTA, tComp_eq, tComp1, slots, Option.getD_some, Option.getD_none, tYes, tSeq, tAsg, gName, tOp, tUn, tC, tVar, tCB, tCons, tNil, tCall, rI, rI0, rU, tRet, tRetN, tIfS, tTest, tB, tAnd, tOr, tNot, tAndV, tOrV, tNotV, tIf, tChain, tMenu, tPar, tDrop, tTup, tLst, tNext, tSl, tPart, tNoPart, tNever, gTup, gCons, gNil, gSub, rSetL, tBM, rAppend, rEq, rNe, rIsi, rIxL, rIxT, rIxS, rSlL, isi_non_bl, isi_non_int, isi_non_str, isi_non_lst, isi_non_tup, isi_bl_bl, isi_bl_int, isi_bl_str, isi_bl_lst, isi_bl_tup, isi_int_bl, isi_int_int, isi_int_str, isi_int_lst, isi_int_tup, isi_str_bl, isi_str_int, isi_str_str, isi_str_lst, isi_str_tup, isi_lst_bl, isi_lst_int, isi_lst_str, isi_lst_lst, isi_lst_tup, isi_tup_bl, isi_tup_int, isi_tup_str, isi_tup_lst, isi_tup_tup, isi_dct_bl, isi_dct_int, isi_dct_str, isi_dct_lst, isi_dct_tup, Kd_non, Kd_bl, Kd_int, Kd_str, sc_non_non, sc_non_int, sc_int_non, sc_non_bl, sc_bl_non, sc_non_str, sc_str_non, sc_int_int, sc_bl_bl, sc_str_str, sc_int_str, sc_str_int, sc_bl_str, sc_str_bl, decide_true, decide_false, tFor_eq, iList, iTup, iRng1, iRng2, iRng3, rIndexT, tBM0, tBMT, tyK_int, tyK_bool, tyK_str, tyK_list, tyK_tuple, L2.start, cxK, Int.reduceToNat, List.map_cons, List.map_nil, List.length_cons, List.length_nil, Nat.reduceAdd, Nat.reduceSub, Nat.zero_add, List.replicate_succ, List.replicate_zero, List.cons_append, List.nil_append, List.append_nil, List.getElem?_cons_zero, List.getElem?_cons_succ, List.set_cons_zero, List.set_cons_succ, Option.some.injEq, V.int.injEq, V.bl.injEq, V.ref.injEq, V.str.injEq, V.ty.injEq, List.cons.injEq, exists_eq_left', exists_eq_left, exists_eq_right, exists_and_left, exists_and_right, and_true, true_and, and_assoc, exists_const, decide_eq_true_eq, Bool.not_eq_true', Bool.not_true, Bool.not_false, Bool.not_not, decide_eq_false_iff_not, ite_not, Bool.false_eq_true, if_true, if_false, reduceCtorEq, and_false, false_and, exists_false, or_false, false_or, ↓reduceIte, eq_self, reduceIte]
  rcases hw with ⟨rfl, rfl⟩ | ⟨rfl, rfl⟩
  · rw [if_pos rfl]
    exact fun x dx hx hd ne => ⟨x, _, dx, _, _, rfl, upd_same, t1.cl, t1.n1, t1.n2, fun H' h1 h2 => ⟨rfl, q _ _ (make2 hx hd h2) ⟨dx, _, _, h1, ObjR.same (make2 hx hd h2) O1, ObjR.same (make2 hx hd h2) O2⟩⟩⟩
  · rw [if_neg (by decide)]
    exact fun x dx hx hd ne => ⟨x, _, dx, _, _, rfl, upd_same, t2.cl, t2.n1, t2.n2, fun H' h1 h2 => ⟨rfl, q _ _ (make2 hx hd h2) ⟨dx, _, _, h1, ObjR.same (make2 hx hd h2) O1, ObjR.same (make2 hx hd h2) O2⟩⟩⟩
theorem ok_rule_of_one (F : Fun K "rule_of_one" "rule_of_one" s_rule_of_one f fd) (M : Mg mg) (C_is_deep : Cal P w K mg base CX0 "is_deep" 2 ["thing"] (spDeepV K)) (C_is_share_of_one : Cal P w K mg base CX0 "is_share_of_one" 3 ["thing"] (spShareO K))
    (Z_Grown : Mk0 K cs.g) (A_Grown : mg "Grown" = some (.ref cs.g)) (Z_Change : MkC P w K mg base "Change" cs.c 1 ["self", "deep"] (spInit1 cs.c "deep")) (Z_Worked : MkC P w K mg base "Worked" cs.w 1 ["self", "share"] (spInit1 cs.w "share")) (R_NoRule : XRaise K mg "NoRule" cN) : FnOk P w K mg base (CXE P w) 4 f fd ["told"] (spOfOne K cs cN) := by
  refine F.okX sc_rule_of_one (fun vs H Q E h => ?_) (fun cdv A outer s H vs Q E hr h => ?_)
  · rcases h with ⟨p, n, rfl, _⟩ | ⟨p, z, rest, rfl, _⟩ <;> rfl
  refine ⟨_, (@pss_cons _ _ _ _ _ (@ps_if _ _ _ _ _ _ _ _ (@PW.pt _ _ _ (@pw_and _ _ _ _ _ _ _ (@pt_cmpR _ _ _ _ _ _ _ _ (@op_eq _) (@pe_callB _ _ _ _ _ _ _ _ _ call_len_seq g_rule_of_one_len M.m_len b_len (@pa_cons _ _ _ _ _ (@pe_var _ 0 _ _ rfl v_rule_of_one_0 dn_told dc_told) (@pa_nil _) (star1 rfl)) nn_len dn_len (star1 rfl) nost0) (@pe_int _ _ _ _) (nomark _)) (@pw_and1 _ _ _ _ (@pt_cmpR _ _ _ _ _ _ _ _ (@op_eq _) (@pe_ix _ _ _ _ _ _ _ (@ix_tup _) (@pe_var _ 0 _ _ rfl v_rule_of_one_0 dn_told dc_told) (@pe_int _ _ _ _) (fun _ _ => rfl)) (@pe_str _ _ _ _) (nomark _))))) (@pss_one _ _ _ (@ps_ret _ _ _ _ (@pe_makeN _ _ _ _ _ Z_Grown g_rule_of_one_Grown A_Grown dn_Grown))) (@pss_nil _)) (@pss_cons _ _ _ _ _ (@ps_if _ _ _ _ _ _ _ _ (@PW.pt _ _ _ (@pw_and _ _ _ _ _ _ _ (@pt_cmpR _ _ _ _ _ _ _ _ (@op_eq _) (@pe_callB _ _ _ _ _ _ _ _ _ call_len_seq g_rule_of_one_len M.m_len b_len (@pa_cons _ _ _ _ _ (@pe_var _ 0 _ _ rfl v_rule_of_one_0 dn_told dc_told) (@pa_nil _) (star1 rfl)) nn_len dn_len (star1 rfl) nost0) (@pe_int _ _ _ _) (nomark _)) (@pw_and _ _ _ _ _ _ _ (@pt_cmpR _ _ _ _ _ _ _ _ (@op_eq _) (@pe_ix _ _ _ _ _ _ _ (@ix_tup _) (@pe_var _ 0 _ _ rfl v_rule_of_one_0 dn_told dc_told) (@pe_int _ _ _ _) (fun _ _ => rfl)) (@pe_str _ _ _ _) (nomark _)) (@pw_and1 _ _ _ _ (@pt_val _ _ _ (@pe_callC _ _ _ _ _ _ _ _ _ _ _ C_is_deep hr g_rule_of_one_is_deep (@pa_cons _ _ _ _ _ (@pe_ix _ _ _ _ _ _ _ (@ix_tup _) (@pe_var _ 0 _ _ rfl v_rule_of_one_0 dn_told dc_told) (@pe_int _ _ _ _) (fun _ _ => rfl)) (@pa_nil _) (star1 rfl)) (by decide) dn_is_deep (star1 rfl) nost0) (test1 rfl)))))) (@pss_one _ _ _ (@ps_ret _ _ _ _ (@pe_makeC _ _ _ _ _ _ _ _ _ _ _ _ Z_Change hr g_rule_of_one_Change (@pa_cons _ _ _ _ _ (@pe_ix _ _ _ _ _ _ _ (@ix_tup _) (@pe_var _ 0 _ _ rfl v_rule_of_one_0 dn_told dc_told) (@pe_int _ _ _ _) (fun _ _ => rfl)) (@pa_nil _) (star1 rfl)) (by decide) dn_Change (star1 rfl) nost0))) (@pss_nil _)) (@pss_cons _ _ _ _ _ (@ps_if _ _ _ _ _ _ _ _ (@PW.pt _ _ _ (@pw_and _ _ _ _ _ _ _ (@pt_cmpR _ _ _ _ _ _ _ _ (@op_eq _) (@pe_callB _ _ _ _ _ _ _ _ _ call_len_seq g_rule_of_one_len M.m_len b_len (@pa_cons _ _ _ _ _ (@pe_var _ 0 _ _ rfl v_rule_of_one_0 dn_told dc_told) (@pa_nil _) (star1 rfl)) nn_len dn_len (star1 rfl) nost0) (@pe_int _ _ _ _) (nomark _)) (@pw_and _ _ _ _ _ _ _ (@pt_cmpR _ _ _ _ _ _ _ _ (@op_eq _) (@pe_ix _ _ _ _ _ _ _ (@ix_tup _) (@pe_var _ 0 _ _ rfl v_rule_of_one_0 dn_told dc_told) (@pe_int _ _ _ _) (fun _ _ => rfl)) (@pe_str _ _ _ _) (nomark _)) (@pw_and1 _ _ _ _ (@pt_val _ _ _ (@pe_callC _ _ _ _ _ _ _ _ _ _ _ C_is_share_of_one hr g_rule_of_one_is_share_of_one (@pa_cons _ _ _ _ _ (@pe_ix _ _ _ _ _ _ _ (@ix_tup _) (@pe_var _ 0 _ _ rfl v_rule_of_one_0 dn_told dc_told) (@pe_int _ _ _ _) (fun _ _ => rfl)) (@pa_nil _) (star1 rfl)) (by decide) dn_is_share_of_one (star1 rfl) nost0) (test1 rfl)))))) (@pss_one _ _ _ (@ps_ret _ _ _ _ (@pe_makeC _ _ _ _ _ _ _ _ _ _ _ _ Z_Worked hr g_rule_of_one_Worked (@pa_cons _ _ _ _ _ (@pe_ix _ _ _ _ _ _ _ (@ix_tup _) (@pe_var _ 0 _ _ rfl v_rule_of_one_0 dn_told dc_told) (@pe_int _ _ _ _) (fun _ _ => rfl)) (@pa_nil _) (star1 rfl)) (by decide) dn_Worked (star1 rfl) nost0))) (@pss_nil _)) (@pss_one _ _ _ (@ps_raise _ _ _ _ _ _ _ _ _ _ _ throws_cx hr g_rule_of_one_NoRule R_NoRule (@pa_cons _ _ _ _ _ (@pe_str _ _ _ _) (@pa_nil _) (star1 rfl)) (star1 rfl) (by rfl) dn_NoRule))))), ?_⟩
  rcases h with ⟨p, n, rfl, R, ok, dp, q⟩ | ⟨p, z, rest, rfl, T, B, e⟩
  · simp only [tTurn, rTurnT, tTryS, rCountT, rPop, rRep, tCont, iZipT, tChain3, tFld, sFld, tMake, tMake0, tMethD, tBM0, rUpper, tDict1T, tTryN, rSlS, rMulS, rCatS, iZipL, rInsert, rReverse, tDNewX, tTry, tRaise, iEnumL, iEnumT, iZip, iSeq, iOr, rIx, iStr, rLeS, rJoin, rSlTA, tComp_eq, tComp1, slots, Option.getD_some, Option.getD_none, tYes, tSeq, tAsg, gName, tOp, tUn, tC, tVar, tCB, tCons, tNil, tCall, rI, rI0, rU, tRet, tRetN, tIfS, tTest, tB, tAnd, tOr, tNot, tAndV, tOrV, tNotV, tIf, tChain, tMenu, tPar, tDrop, tTup, tLst, tNext, tSl, tPart, tNoPart, tNever, gTup, gCons, gNil, gSub, rSetL, tBM, rAppend, rEq, rNe, rIsi, rIxL, rIxT, rIxS, rSlL, isi_non_bl, isi_non_int, isi_non_str, isi_non_lst, isi_non_tup, isi_bl_bl, isi_bl_int, isi_bl_str, isi_bl_lst, isi_bl_tup, isi_int_bl, isi_int_int, isi_int_str, isi_int_lst, isi_int_tup, isi_str_bl, isi_str_int, isi_str_str, isi_str_lst, isi_str_tup, isi_lst_bl, isi_lst_int, isi_lst_str, isi_lst_lst, isi_lst_tup, isi_tup_bl, isi_tup_int, isi_tup_str, isi_tup_lst, isi_tup_tup, isi_dct_bl, isi_dct_int, isi_dct_str, isi_dct_lst, isi_dct_tup, Kd_non, Kd_bl, Kd_int, Kd_str, sc_non_non, sc_non_int, sc_int_non, sc_non_bl, sc_bl_non, sc_non_str, sc_str_non, sc_int_int, sc_bl_bl, sc_str_str, sc_int_str, sc_str_int, sc_bl_str, sc_str_bl, decide_true, decide_false, tFor_eq, iList, iTup, iRng1, iRng2, iRng3, rIndexT, tBM0, tBMT, tyK_int, tyK_bool, tyK_str, tyK_list, tyK_tuple, L2.start, cxK, Int.reduceToNat, List.map_cons, List.map_nil, List.length_cons, List.length_nil, Nat.reduceAdd, Nat.reduceSub, Nat.zero_add, List.replicate_succ, List.replicate_zero, List.cons_append, List.nil_append, List.append_nil, List.getElem?_cons_zero, List.getElem?_cons_succ, List.set_cons_zero, List.set_cons_succ, Option.some.injEq, V.int.injEq, V.bl.injEq, V.ref.injEq, V.str.injEq, V.ty.injEq, List.cons.injEq, exists_eq_left', exists_eq_left, exists_eq_right, exists_and_left, exists_and_right, and_true, true_and, and_assoc, exists_const, decide_eq_true_eq, Bool.not_eq_true', Bool.not_true, Bool.not_false, Bool.not_not, decide_eq_false_iff_not, ite_not, Bool.false_eq_true, if_true, if_false, reduceCtorEq, and_false, false_and, exists_false, or_false, false_or, ↓reduceIte, eq_self, reduceIte]
    cases tol_row R with
    | grown T =>
      refine ⟨_, .inr T, ?_⟩
      rw [if_pos (by rfl)]
      refine ⟨_, T, _, rfl, rfl, ?_⟩
      rw [if_pos rfl]
      intro x dx hx hd ne
      refine q _ _ (fun b u z => ?_) ⟨dx, upd_same⟩
      rw [upd_ne (ne_of_none z hx), upd_ne (ne_of_none z hd)]
      exact z
    | @change d T =>
      refine ⟨_, .inr T, ?_⟩
      rw [if_neg (by simp)]
      refine ⟨_, .inr T, ?_⟩
      rw [if_pos (by simp)]
      refine ⟨_, T, _, rfl, rfl, ?_⟩
      rw [if_pos rfl]
      have hok : 1 ≤ d ∧ d ≤ 4 := ok
      refine ⟨_, T, _, rfl, _, _, rfl, .int, _, rfl, ?_⟩
      rw [if_pos (decide_eq_true hok)]
      refine ⟨_, T, _, rfl, fun x dx hx hd ne => ⟨x, dx, _, rfl, upd_same, rfl, q _ _ (make1 hx hd) ⟨dx, upd_same⟩⟩⟩
    | @share sp t b T T2 =>
      refine ⟨_, .inr T, ?_⟩
      rw [if_neg (by simp)]
      refine ⟨_, .inr T, ?_⟩
      rw [if_pos (by simp)]
      refine ⟨_, T, _, rfl, rfl, ?_⟩
      rw [if_neg (by decide)]
      refine ⟨_, .inr T, ?_⟩
      rw [if_pos (by simp)]
      refine ⟨_, T, _, rfl, rfl, ?_⟩
      rw [if_pos rfl]
      have hok : ShOk t b := ok
      refine ⟨_, T, _, rfl, _, _, rfl, .two T2, _, rfl, ?_⟩
      rw [if_pos (decide_eq_true hok)]
      refine ⟨_, T, _, rfl, fun x dx hx hd ne => ⟨x, dx, _, rfl, upd_same, rfl, q _ _ (make1 hx hd) ⟨dx, _, upd_same, Same.tup (make1 hx hd) T2⟩⟩⟩
    | @al _ _ x y _ _ _ => exact absurd dp (by have := Rl.dp_pos x; show ¬(max x.dp y.dp + 1 = 1); omega)
    | @so _ _ x y _ _ _ => exact absurd dp (by have := Rl.dp_pos x; show ¬(max x.dp y.dp + 1 = 1); omega)
  · simp only [tTurn, rTurnT, tTryS, rCountT, rPop, rRep, tCont, iZipT, tChain3, tFld, sFld, tMake, tMake0, tMethD, tBM0, rUpper, tDict1T, tTryN, rSlS, rMulS, rCatS, iZipL, rInsert, rReverse, tDNewX, tTry, tRaise, iEnumL, iEnumT, iZip, iSeq, iOr, rIx, iStr, rLeS, rJoin, rSlTA, tComp_eq, tComp1, slots, Option.getD_some, Option.getD_none, tYes, tSeq, tAsg, gName, tOp, tUn, tC, tVar, tCB, tCons, tNil, tCall, rI, rI0, rU, tRet, tRetN, tIfS, tTest, tB, tAnd, tOr, tNot, tAndV, tOrV, tNotV, tIf, tChain, tMenu, tPar, tDrop, tTup, tLst, tNext, tSl, tPart, tNoPart, tNever, gTup, gCons, gNil, gSub, rSetL, tBM, rAppend, rEq, rNe, rIsi, rIxL, rIxT, rIxS, rSlL, isi_non_bl, isi_non_int, isi_non_str, isi_non_lst, isi_non_tup, isi_bl_bl, isi_bl_int, isi_bl_str, isi_bl_lst, isi_bl_tup, isi_int_bl, isi_int_int, isi_int_str, isi_int_lst, isi_int_tup, isi_str_bl, isi_str_int, isi_str_str, isi_str_lst, isi_str_tup, isi_lst_bl, isi_lst_int, isi_lst_str, isi_lst_lst, isi_lst_tup, isi_tup_bl, isi_tup_int, isi_tup_str, isi_tup_lst, isi_tup_tup, isi_dct_bl, isi_dct_int, isi_dct_str, isi_dct_lst, isi_dct_tup, Kd_non, Kd_bl, Kd_int, Kd_str, sc_non_non, sc_non_int, sc_int_non, sc_non_bl, sc_bl_non, sc_non_str, sc_str_non, sc_int_int, sc_bl_bl, sc_str_str, sc_int_str, sc_str_int, sc_bl_str, sc_str_bl, decide_true, decide_false, tFor_eq, iList, iTup, iRng1, iRng2, iRng3, rIndexT, tBM0, tBMT, tyK_int, tyK_bool, tyK_str, tyK_list, tyK_tuple, L2.start, cxK, Int.reduceToNat, List.map_cons, List.map_nil, List.length_cons, List.length_nil, Nat.reduceAdd, Nat.reduceSub, Nat.zero_add, List.replicate_succ, List.replicate_zero, List.cons_append, List.nil_append, List.append_nil, List.getElem?_cons_zero, List.getElem?_cons_succ, List.set_cons_zero, List.set_cons_succ, Option.some.injEq, V.int.injEq, V.bl.injEq, V.ref.injEq, V.str.injEq, V.ty.injEq, List.cons.injEq, exists_eq_left', exists_eq_left, exists_eq_right, exists_and_left, exists_and_right, and_true, true_and, and_assoc, exists_const, decide_eq_true_eq, Bool.not_eq_true', Bool.not_true, Bool.not_false, Bool.not_not, decide_eq_false_iff_not, ite_not, Bool.false_eq_true, if_true, if_false, reduceCtorEq, and_false, false_and, exists_false, or_false, false_or, ↓reduceIte, eq_self, reduceIte]
    match rest, T, B with
    | [], T, B =>
      refine ⟨_, .inr T, ?_⟩
      rw [if_pos (by rfl)]
      refine ⟨_, T, _, rfl, rfl, ?_⟩
      rw [if_neg (fun h => B.h0 rfl (V.str.inj h))]
      refine ⟨_, .inr T, ?_⟩
      rw [if_neg (by simp)]
      refine ⟨_, .inr T, ?_⟩
      rw [if_neg (by simp)]
      exact ⟨by decide, e _ (Same.refl _)⟩
    | [v], T, B =>
      refine ⟨_, .inr T, ?_⟩
      rw [if_neg (by simp)]
      refine ⟨_, .inr T, ?_⟩
      rw [if_pos (by simp)]
      refine ⟨_, T, _, rfl, rfl, ?_⟩
      by_cases hz : z = "change"
      · rw [if_pos (congrArg V.str hz)]
        refine ⟨_, T, _, rfl, _, _, rfl, B.hc v rfl hz, _, rfl, ?_⟩
        rw [if_neg (by decide)]
        refine ⟨_, .inr T, ?_⟩
        rw [if_pos (by simp)]
        refine ⟨_, T, _, rfl, rfl, ?_⟩
        rw [if_neg (fun h => by rw [hz] at h; exact absurd h (by decide))]
        exact ⟨by decide, e _ (Same.refl _)⟩
      · rw [if_neg (fun h => hz (V.str.inj h))]
        refine ⟨_, .inr T, ?_⟩
        rw [if_pos (by simp)]
        refine ⟨_, T, _, rfl, rfl, ?_⟩
        by_cases hs : z = "share"
        · rw [if_pos (congrArg V.str hs)]
          refine ⟨_, T, _, rfl, _, _, rfl, B.hs v rfl hs, _, rfl, ?_⟩
          rw [if_neg (by decide)]
          exact ⟨by decide, e _ (Same.refl _)⟩
        · rw [if_neg (fun h => hs (V.str.inj h))]
          exact ⟨by decide, e _ (Same.refl _)⟩
    | v :: u :: rest, T, B =>
      refine ⟨_, .inr T, ?_⟩
      rw [if_neg (by simp only [List.length_cons]; omega)]
      refine ⟨_, .inr T, ?_⟩
      rw [if_neg (by simp only [List.length_cons]; omega)]
      refine ⟨_, .inr T, ?_⟩
      rw [if_neg (by simp only [List.length_cons]; omega)]
      exact ⟨by decide, e _ (Same.refl _)⟩
theorem step_within {d : Nat} (F : Fun K "rule_within" "rule_within" s_rule_within f fd) (M : Mg mg) (C_rule_of_one : Cal P w K mg base (CXE P w) "rule_of_one" 4 ["told"] (spOfOne K cs cN)) (C_rule_of_rules : Cal P w K mg base CX0 "rule_of_rules" 3 ["word", "one", "other"] (spOfRules K cs)) (R_NoRule : XRaise K mg "NoRule" cN)
    (C_rule_within : Cal P w K mg base (CXE P w) "rule_within" (5 + d) ["left", "told"] (spWithin K cs cN d)) : FnOk P w K mg base (CXE P w) (5 + d + 1) f fd ["left", "told"] (spWithin K cs cN (d + 1)) := by
  refine F.okX sc_rule_within (fun vs H Q E h => ?_) (fun cdv A outer s H vs Q E hr h => ?_)
  · rcases h with ⟨p, n, rfl, _⟩ | ⟨v, rfl, _⟩ <;> rfl
  refine ⟨_, (@pss_cons _ _ _ _ _ (@ps_if _ _ _ _ _ _ _ _ (@pt_cmpR _ _ _ _ _ _ _ _ (@op_eq _) (@pe_var _ 0 _ _ rfl v_rule_within_0 dn_left dc_left) (@pe_int _ _ _ _) (nomark _)) (@pss_one _ _ _ (@ps_raise _ _ _ _ _ _ _ _ _ _ _ throws_cx hr g_rule_within_NoRule R_NoRule (@pa_cons _ _ _ _ _ (@pe_str _ _ _ _) (@pa_nil _) (star1 rfl)) (star1 rfl) (by rfl) dn_NoRule)) (@pss_nil _)) (@pss_cons _ _ _ _ _ (@ps_if _ _ _ _ _ _ _ _ (@PW.pt _ _ _ (@pw_or _ _ _ _ _ _ _ (@pt_not _ _ _ _ (@pt_val _ _ _ (@pe_callB _ _ _ _ _ _ _ _ _ call_isi g_rule_within_isinstance M.m_isinstance b_isinstance (@pa_cons _ _ _ _ _ (@pe_var _ 1 _ _ rfl v_rule_within_1 dn_told dc_told) (@pa_cons _ _ _ _ _ (@pe_bltn _ _ (.ty "tuple") _ _ g_rule_within_tuple M.m_tuple b_tuple rfl nn_tuple dn_tuple) (@pa_nil _) (star1 rfl)) (star1 rfl)) nn_isinstance dn_isinstance (star1 rfl) (nost1 rfl nost0)) (test1 rfl))) (@pw_or _ _ _ _ _ _ _ (@pt_cmpR _ _ _ _ _ _ _ _ (@op_eq _) (@pe_callB _ _ _ _ _ _ _ _ _ call_len_seq g_rule_within_len M.m_len b_len (@pa_cons _ _ _ _ _ (@pe_var _ 1 _ _ rfl v_rule_within_1 dn_told dc_told) (@pa_nil _) (star1 rfl)) nn_len dn_len (star1 rfl) nost0) (@pe_int _ _ _ _) (nomark _)) (@pw_or1 _ _ _ _ (@pt_not _ _ _ _ (@pt_val _ _ _ (@pe_callB _ _ _ _ _ _ _ _ _ call_isi g_rule_within_isinstance M.m_isinstance b_isinstance (@pa_cons _ _ _ _ _ (@pe_ix _ _ _ _ _ _ _ (@ix_tup _) (@pe_var _ 1 _ _ rfl v_rule_within_1 dn_told dc_told) (@pe_int _ _ _ _) (fun _ _ => rfl)) (@pa_cons _ _ _ _ _ (@pe_bltn _ _ (.ty "str") _ _ g_rule_within_str M.m_str b_str rfl nn_str dn_str) (@pa_nil _) (star1 rfl)) (star1 rfl)) nn_isinstance dn_isinstance (star1 rfl) (nost1 rfl nost0)) (test1 rfl))))))) (@pss_one _ _ _ (@ps_raise _ _ _ _ _ _ _ _ _ _ _ throws_cx hr g_rule_within_NoRule R_NoRule (@pa_cons _ _ _ _ _ (@pe_str _ _ _ _) (@pa_nil _) (star1 rfl)) (star1 rfl) (by rfl) dn_NoRule)) (@pss_nil _)) (@pss_cons _ _ _ _ _ (@ps_if _ _ _ _ _ _ _ _ (@PW.pt _ _ _ (@pw_and _ _ _ _ _ _ _ (@pt_cmpR _ _ _ _ _ _ _ _ (@op_eq _) (@pe_callB _ _ _ _ _ _ _ _ _ call_len_seq g_rule_within_len M.m_len b_len (@pa_cons _ _ _ _ _ (@pe_var _ 1 _ _ rfl v_rule_within_1 dn_told dc_told) (@pa_nil _) (star1 rfl)) nn_len dn_len (star1 rfl) nost0) (@pe_int _ _ _ _) (nomark _)) (@pw_and1 _ _ _ _ (@pt_cmpR _ _ _ _ _ _ _ _ op_in_seq (@pe_ix _ _ _ _ _ _ _ (@ix_tup _) (@pe_var _ 1 _ _ rfl v_rule_within_1 dn_told dc_told) (@pe_int _ _ _ _) (fun _ _ => rfl)) (@pe_tup _ _ _ _ _ (@pa_cons _ _ _ _ _ (@pe_str _ _ _ _) (@pa_cons _ _ _ _ _ (@pe_str _ _ _ _) (@pa_nil _) (star1 rfl)) (star1 rfl))) (by with_unfolding_all rfl))))) (@pss_cons _ _ _ _ _ (@ps_set _ _ 2 _ _ _ _ sc_rule_within.nd rfl l_rule_within_2 (@pe_callX _ _ _ _ _ _ _ _ _ _ _ _ _ C_rule_within hr g_rule_within_rule_within pass_cx (@pa_cons _ _ _ _ _ (@pe_op _ _ _ _ _ _ _ _ (@op_sub _) (@pe_var _ 0 _ _ rfl v_rule_within_0 dn_left dc_left) (@pe_int _ _ _ _)) (@pa_cons _ _ _ _ _ (@pe_ix _ _ _ _ _ _ _ (@ix_tup _) (@pe_var _ 1 _ _ rfl v_rule_within_1 dn_told dc_told) (@pe_int _ _ _ _) (fun _ _ => rfl)) (@pa_nil _) (star1 rfl)) (star1 rfl)) (by omega) dn_rule_within (star1 rfl) (nost1 rfl nost0)) (swap1 rfl) (.inl rfl)) (@pss_cons _ _ _ _ _ (@ps_set _ _ 3 _ _ _ _ sc_rule_within.nd rfl l_rule_within_3 (@pe_callX _ _ _ _ _ _ _ _ _ _ _ _ _ C_rule_within hr g_rule_within_rule_within pass_cx (@pa_cons _ _ _ _ _ (@pe_op _ _ _ _ _ _ _ _ (@op_sub _) (@pe_var _ 0 _ _ rfl v_rule_within_0 dn_left dc_left) (@pe_int _ _ _ _)) (@pa_cons _ _ _ _ _ (@pe_ix _ _ _ _ _ _ _ (@ix_tup _) (@pe_var _ 1 _ _ rfl v_rule_within_1 dn_told dc_told) (@pe_int _ _ _ _) (fun _ _ => rfl)) (@pa_nil _) (star1 rfl)) (star1 rfl)) (by omega) dn_rule_within (star1 rfl) (nost1 rfl nost0)) (swap1 rfl) (.inl rfl)) (@pss_one _ _ _ (@ps_ret _ _ _ _ (@pe_callC _ _ _ _ _ _ _ _ _ _ _ C_rule_of_rules hr g_rule_within_rule_of_rules (@pa_cons _ _ _ _ _ (@pe_ix _ _ _ _ _ _ _ (@ix_tup _) (@pe_var _ 1 _ _ rfl v_rule_within_1 dn_told dc_told) (@pe_int _ _ _ _) (fun _ _ => rfl)) (@pa_cons _ _ _ _ _ (@pe_var _ 2 _ _ rfl v_rule_within_2 dn_one dc_one) (@pa_cons _ _ _ _ _ (@pe_var _ 3 _ _ rfl v_rule_within_3 dn_other dc_other) (@pa_nil _) (star1 rfl)) (star1 rfl)) (star1 rfl)) (by omega) dn_rule_of_rules (star1 rfl) (nost1 rfl (nost1 rfl nost0))))))) (@pss_nil _)) (@pss_one _ _ _ (@ps_ret _ _ _ _ (@pe_callX _ _ _ _ _ _ _ _ _ _ _ _ _ C_rule_of_one hr g_rule_within_rule_of_one pass_cx (@pa_cons _ _ _ _ _ (@pe_var _ 1 _ _ rfl v_rule_within_1 dn_told dc_told) (@pa_nil _) (star1 rfl)) (by omega) dn_rule_of_one (star1 rfl) nost0)))))), ?_⟩
  rcases h with ⟨p, n, rfl, R, ok, dp, q⟩ | ⟨v, rfl, B, e⟩
  · have one : n.dp = 1 → ∀ H', Same H H' → spOfOne K cs cN [V.ref p] H' Q E := fun h H' e => .inl ⟨p, n, rfl, R.same e, ok, h, fun a H2 e2 => q a H2 (e.trans e2)⟩
    simp only [tTurn, rTurnT, tTryS, rCountT, rPop, rRep, tCont, iZipT, tChain3, tFld, sFld, tMake, tMake0, tMethD, tBM0, rUpper, tDict1T, tTryN, rSlS, rMulS, rCatS, iZipL, rInsert, rReverse, tDNewX, tTry, tRaise, iEnumL, iEnumT, iZip, iSeq, iOr, rIx, iStr, rLeS, rJoin, rSlTA, tComp_eq, tComp1, slots, Option.getD_some, Option.getD_none, tYes, tSeq, tAsg, gName, tOp, tUn, tC, tVar, tCB, tCons, tNil, tCall, rI, rI0, rU, tRet, tRetN, tIfS, tTest, tB, tAnd, tOr, tNot, tAndV, tOrV, tNotV, tIf, tChain, tMenu, tPar, tDrop, tTup, tLst, tNext, tSl, tPart, tNoPart, tNever, gTup, gCons, gNil, gSub, rSetL, tBM, rAppend, rEq, rNe, rIsi, rIxL, rIxT, rIxS, rSlL, isi_non_bl, isi_non_int, isi_non_str, isi_non_lst, isi_non_tup, isi_bl_bl, isi_bl_int, isi_bl_str, isi_bl_lst, isi_bl_tup, isi_int_bl, isi_int_int, isi_int_str, isi_int_lst, isi_int_tup, isi_str_bl, isi_str_int, isi_str_str, isi_str_lst, isi_str_tup, isi_lst_bl, isi_lst_int, isi_lst_str, isi_lst_lst, isi_lst_tup, isi_tup_bl, isi_tup_int, isi_tup_str, isi_tup_lst, isi_tup_tup, isi_dct_bl, isi_dct_int, isi_dct_str, isi_dct_lst, isi_dct_tup, Kd_non, Kd_bl, Kd_int, Kd_str, sc_non_non, sc_non_int, sc_int_non, sc_non_bl, sc_bl_non, sc_non_str, sc_str_non, sc_int_int, sc_bl_bl, sc_str_str, sc_int_str, sc_str_int, sc_bl_str, sc_str_bl, decide_true, decide_false, tFor_eq, iList, iTup, iRng1, iRng2, iRng3, rIndexT, tBM0, tBMT, tyK_int, tyK_bool, tyK_str, tyK_list, tyK_tuple, L2.start, cxK, Int.reduceToNat, List.map_cons, List.map_nil, List.length_cons, List.length_nil, Nat.reduceAdd, Nat.reduceSub, Nat.zero_add, List.replicate_succ, List.replicate_zero, List.cons_append, List.nil_append, List.append_nil, List.getElem?_cons_zero, List.getElem?_cons_succ, List.set_cons_zero, List.set_cons_succ, Option.some.injEq, V.int.injEq, V.bl.injEq, V.ref.injEq, V.str.injEq, V.ty.injEq, List.cons.injEq, exists_eq_left', exists_eq_left, exists_eq_right, exists_and_left, exists_and_right, and_true, true_and, and_assoc, exists_const, decide_eq_true_eq, Bool.not_eq_true', Bool.not_true, Bool.not_false, Bool.not_not, decide_eq_false_iff_not, ite_not, Bool.false_eq_true, if_true, if_false, reduceCtorEq, and_false, false_and, exists_false, or_false, false_or, ↓reduceIte, eq_self, reduceIte]
    rw [if_neg (by omega)]
    cases tol_row R with
    | grown T =>
      refine ⟨_, Kd.tup T, ?_⟩
      rw [if_neg (by decide)]
      refine ⟨_, .inr T, ?_⟩
      rw [if_neg (by simp)]
      refine ⟨_, T, _, rfl, _, (show Kd K H (.str _) .str from rfl), ?_⟩
      rw [if_neg (by decide)]
      refine ⟨_, .inr T, ?_⟩
      rw [if_neg (by simp)]
      exact one rfl _ (Same.refl _)
    | change T =>
      refine ⟨_, Kd.tup T, ?_⟩
      rw [if_neg (by decide)]
      refine ⟨_, .inr T, ?_⟩
      rw [if_neg (by simp)]
      refine ⟨_, T, _, rfl, _, (show Kd K H (.str _) .str from rfl), ?_⟩
      rw [if_neg (by decide)]
      refine ⟨_, .inr T, ?_⟩
      rw [if_neg (by simp)]
      exact one rfl _ (Same.refl _)
    | share T T2 =>
      refine ⟨_, Kd.tup T, ?_⟩
      rw [if_neg (by decide)]
      refine ⟨_, .inr T, ?_⟩
      rw [if_neg (by simp)]
      refine ⟨_, T, _, rfl, _, (show Kd K H (.str _) .str from rfl), ?_⟩
      rw [if_neg (by decide)]
      refine ⟨_, .inr T, ?_⟩
      rw [if_neg (by simp)]
      exact one rfl _ (Same.refl _)
    | @al a1 a2 x y T R1 R2 =>
      have dd : max x.dp y.dp + 1 ≤ d + 1 := dp
      obtain ⟨ok1, ok2⟩ := ok
      refine ⟨_, Kd.tup T, ?_⟩
      rw [if_neg (by decide)]
      refine ⟨_, .inr T, ?_⟩
      rw [if_neg (by simp)]
      refine ⟨_, T, _, rfl, _, (show Kd K H (.str _) .str from rfl), ?_⟩
      rw [if_neg (by decide)]
      refine ⟨_, .inr T, ?_⟩
      rw [if_pos (by simp)]
      refine ⟨_, T, _, rfl, by decide, fun p1 hp1 => ?_⟩
      obtain ⟨H1, g1, S1, T1⟩ := fresh_tup (K := K) hp1 [V.str (Str.ofString "all"), V.str (Str.ofString "some")]
      rw [← g1]
      clear g1
      refine ⟨p1, _, rfl, .inr T1, rfl, rfl, _, rfl, ?_⟩
      rw [if_pos (by decide)]
      have ed : ((d + 1 : Nat) : Int) - 1 = (d : Int) := by omega
      rw [ed]
      refine ⟨_, Same.tup S1 T, _, rfl, .inl ⟨a1, x, rfl, R1.same S1, ok1, by omega, fun o1 H2 S2 O1 => ?_⟩⟩
      have S12 := S1.trans S2
      refine ⟨_, Same.tup S12 T, _, rfl, .inl ⟨a2, y, rfl, R2.same S12, ok2, by omega, fun o2 H3 S3 O2 => ?_⟩⟩
      have S13 := S12.trans S3
      exact ⟨_, Same.tup S13 T, _, rfl, _, o1, o2, x, y, _, rfl, (.inl ⟨rfl, rfl⟩), ObjR.same S3 O1, O2, fun a H' e => q a H' (S13.trans e)⟩
    | @so a1 a2 x y T R1 R2 =>
      have dd : max x.dp y.dp + 1 ≤ d + 1 := dp
      obtain ⟨ok1, ok2⟩ := ok
      refine ⟨_, Kd.tup T, ?_⟩
      rw [if_neg (by decide)]
      refine ⟨_, .inr T, ?_⟩
      rw [if_neg (by simp)]
      refine ⟨_, T, _, rfl, _, (show Kd K H (.str _) .str from rfl), ?_⟩
      rw [if_neg (by decide)]
      refine ⟨_, .inr T, ?_⟩
      rw [if_pos (by simp)]
      refine ⟨_, T, _, rfl, by decide, fun p1 hp1 => ?_⟩
      obtain ⟨H1, g1, S1, T1⟩ := fresh_tup (K := K) hp1 [V.str (Str.ofString "all"), V.str (Str.ofString "some")]
      rw [← g1]
      clear g1
      refine ⟨p1, _, rfl, .inr T1, rfl, rfl, _, rfl, ?_⟩
      rw [if_pos (by decide)]
      have ed : ((d + 1 : Nat) : Int) - 1 = (d : Int) := by omega
      rw [ed]
      refine ⟨_, Same.tup S1 T, _, rfl, .inl ⟨a1, x, rfl, R1.same S1, ok1, by omega, fun o1 H2 S2 O1 => ?_⟩⟩
      have S12 := S1.trans S2
      refine ⟨_, Same.tup S12 T, _, rfl, .inl ⟨a2, y, rfl, R2.same S12, ok2, by omega, fun o2 H3 S3 O2 => ?_⟩⟩
      have S13 := S12.trans S3
      exact ⟨_, Same.tup S13 T, _, rfl, _, o1, o2, x, y, _, rfl, (.inr ⟨rfl, rfl⟩), ObjR.same S3 O1, O2, fun a H' e => q a H' (S13.trans e)⟩
  · have ed : ((d + 1 : Nat) : Int) - 1 = (d : Int) := by omega
    cases B with
    | no hk ne =>
      simp only [tTurn, rTurnT, tTryS, rCountT, rPop, rRep, tCont, iZipT, tChain3, tFld, sFld, tMake, tMake0, tMethD, tBM0, rUpper, tDict1T, tTryN, rSlS, rMulS, rCatS, iZipL, rInsert, rReverse, tDNewX, tTry, tRaise, iEnumL, iEnumT, iZip, iSeq, iOr, rIx, iStr, rLeS, rJoin, rSlTA, tComp_eq, tComp1, slots, Option.getD_some, Option.getD_none, tYes, tSeq, tAsg, gName, tOp, tUn, tC, tVar, tCB, tCons, tNil, tCall, rI, rI0, rU, tRet, tRetN, tIfS, tTest, tB, tAnd, tOr, tNot, tAndV, tOrV, tNotV, tIf, tChain, tMenu, tPar, tDrop, tTup, tLst, tNext, tSl, tPart, tNoPart, tNever, gTup, gCons, gNil, gSub, rSetL, tBM, rAppend, rEq, rNe, rIsi, rIxL, rIxT, rIxS, rSlL, isi_non_bl, isi_non_int, isi_non_str, isi_non_lst, isi_non_tup, isi_bl_bl, isi_bl_int, isi_bl_str, isi_bl_lst, isi_bl_tup, isi_int_bl, isi_int_int, isi_int_str, isi_int_lst, isi_int_tup, isi_str_bl, isi_str_int, isi_str_str, isi_str_lst, isi_str_tup, isi_lst_bl, isi_lst_int, isi_lst_str, isi_lst_lst, isi_lst_tup, isi_tup_bl, isi_tup_int, isi_tup_str, isi_tup_lst, isi_tup_tup, isi_dct_bl, isi_dct_int, isi_dct_str, isi_dct_lst, isi_dct_tup, Kd_non, Kd_bl, Kd_int, Kd_str, sc_non_non, sc_non_int, sc_int_non, sc_non_bl, sc_bl_non, sc_non_str, sc_str_non, sc_int_int, sc_bl_bl, sc_str_str, sc_int_str, sc_str_int, sc_bl_str, sc_str_bl, decide_true, decide_false, tFor_eq, iList, iTup, iRng1, iRng2, iRng3, rIndexT, tBM0, tBMT, tyK_int, tyK_bool, tyK_str, tyK_list, tyK_tuple, L2.start, cxK, Int.reduceToNat, List.map_cons, List.map_nil, List.length_cons, List.length_nil, Nat.reduceAdd, Nat.reduceSub, Nat.zero_add, List.replicate_succ, List.replicate_zero, List.cons_append, List.nil_append, List.append_nil, List.getElem?_cons_zero, List.getElem?_cons_succ, List.set_cons_zero, List.set_cons_succ, Option.some.injEq, V.int.injEq, V.bl.injEq, V.ref.injEq, V.str.injEq, V.ty.injEq, List.cons.injEq, exists_eq_left', exists_eq_left, exists_eq_right, exists_and_left, exists_and_right, and_true, true_and, and_assoc, exists_const, decide_eq_true_eq, Bool.not_eq_true', Bool.not_true, Bool.not_false, Bool.not_not, decide_eq_false_iff_not, ite_not, Bool.false_eq_true, if_true, if_false, reduceCtorEq, and_false, false_and, exists_false, or_false, false_or, ↓reduceIte, eq_self, reduceIte]
      rw [if_neg (by omega)]
      refine ⟨_, hk, ?_⟩
      rw [if_pos (isi_tup_ne ne)]
      exact ⟨by decide, e _ (Same.refl _)⟩
    | nil T =>
      simp only [tTurn, rTurnT, tTryS, rCountT, rPop, rRep, tCont, iZipT, tChain3, tFld, sFld, tMake, tMake0, tMethD, tBM0, rUpper, tDict1T, tTryN, rSlS, rMulS, rCatS, iZipL, rInsert, rReverse, tDNewX, tTry, tRaise, iEnumL, iEnumT, iZip, iSeq, iOr, rIx, iStr, rLeS, rJoin, rSlTA, tComp_eq, tComp1, slots, Option.getD_some, Option.getD_none, tYes, tSeq, tAsg, gName, tOp, tUn, tC, tVar, tCB, tCons, tNil, tCall, rI, rI0, rU, tRet, tRetN, tIfS, tTest, tB, tAnd, tOr, tNot, tAndV, tOrV, tNotV, tIf, tChain, tMenu, tPar, tDrop, tTup, tLst, tNext, tSl, tPart, tNoPart, tNever, gTup, gCons, gNil, gSub, rSetL, tBM, rAppend, rEq, rNe, rIsi, rIxL, rIxT, rIxS, rSlL, isi_non_bl, isi_non_int, isi_non_str, isi_non_lst, isi_non_tup, isi_bl_bl, isi_bl_int, isi_bl_str, isi_bl_lst, isi_bl_tup, isi_int_bl, isi_int_int, isi_int_str, isi_int_lst, isi_int_tup, isi_str_bl, isi_str_int, isi_str_str, isi_str_lst, isi_str_tup, isi_lst_bl, isi_lst_int, isi_lst_str, isi_lst_lst, isi_lst_tup, isi_tup_bl, isi_tup_int, isi_tup_str, isi_tup_lst, isi_tup_tup, isi_dct_bl, isi_dct_int, isi_dct_str, isi_dct_lst, isi_dct_tup, Kd_non, Kd_bl, Kd_int, Kd_str, sc_non_non, sc_non_int, sc_int_non, sc_non_bl, sc_bl_non, sc_non_str, sc_str_non, sc_int_int, sc_bl_bl, sc_str_str, sc_int_str, sc_str_int, sc_bl_str, sc_str_bl, decide_true, decide_false, tFor_eq, iList, iTup, iRng1, iRng2, iRng3, rIndexT, tBM0, tBMT, tyK_int, tyK_bool, tyK_str, tyK_list, tyK_tuple, L2.start, cxK, Int.reduceToNat, List.map_cons, List.map_nil, List.length_cons, List.length_nil, Nat.reduceAdd, Nat.reduceSub, Nat.zero_add, List.replicate_succ, List.replicate_zero, List.cons_append, List.nil_append, List.append_nil, List.getElem?_cons_zero, List.getElem?_cons_succ, List.set_cons_zero, List.set_cons_succ, Option.some.injEq, V.int.injEq, V.bl.injEq, V.ref.injEq, V.str.injEq, V.ty.injEq, List.cons.injEq, exists_eq_left', exists_eq_left, exists_eq_right, exists_and_left, exists_and_right, and_true, true_and, and_assoc, exists_const, decide_eq_true_eq, Bool.not_eq_true', Bool.not_true, Bool.not_false, Bool.not_not, decide_eq_false_iff_not, ite_not, Bool.false_eq_true, if_true, if_false, reduceCtorEq, and_false, false_and, exists_false, or_false, false_or, ↓reduceIte, eq_self, reduceIte]
      rw [if_neg (by omega)]
      refine ⟨_, Kd.tup T, ?_⟩
      rw [if_neg (by decide)]
      refine ⟨_, .inr T, ?_⟩
      rw [if_pos (by rfl)]
      exact ⟨by decide, e _ (Same.refl _)⟩
    | @head _ p x k xs T hk ne =>
      simp only [tTurn, rTurnT, tTryS, rCountT, rPop, rRep, tCont, iZipT, tChain3, tFld, sFld, tMake, tMake0, tMethD, tBM0, rUpper, tDict1T, tTryN, rSlS, rMulS, rCatS, iZipL, rInsert, rReverse, tDNewX, tTry, tRaise, iEnumL, iEnumT, iZip, iSeq, iOr, rIx, iStr, rLeS, rJoin, rSlTA, tComp_eq, tComp1, slots, Option.getD_some, Option.getD_none, tYes, tSeq, tAsg, gName, tOp, tUn, tC, tVar, tCB, tCons, tNil, tCall, rI, rI0, rU, tRet, tRetN, tIfS, tTest, tB, tAnd, tOr, tNot, tAndV, tOrV, tNotV, tIf, tChain, tMenu, tPar, tDrop, tTup, tLst, tNext, tSl, tPart, tNoPart, tNever, gTup, gCons, gNil, gSub, rSetL, tBM, rAppend, rEq, rNe, rIsi, rIxL, rIxT, rIxS, rSlL, isi_non_bl, isi_non_int, isi_non_str, isi_non_lst, isi_non_tup, isi_bl_bl, isi_bl_int, isi_bl_str, isi_bl_lst, isi_bl_tup, isi_int_bl, isi_int_int, isi_int_str, isi_int_lst, isi_int_tup, isi_str_bl, isi_str_int, isi_str_str, isi_str_lst, isi_str_tup, isi_lst_bl, isi_lst_int, isi_lst_str, isi_lst_lst, isi_lst_tup, isi_tup_bl, isi_tup_int, isi_tup_str, isi_tup_lst, isi_tup_tup, isi_dct_bl, isi_dct_int, isi_dct_str, isi_dct_lst, isi_dct_tup, Kd_non, Kd_bl, Kd_int, Kd_str, sc_non_non, sc_non_int, sc_int_non, sc_non_bl, sc_bl_non, sc_non_str, sc_str_non, sc_int_int, sc_bl_bl, sc_str_str, sc_int_str, sc_str_int, sc_bl_str, sc_str_bl, decide_true, decide_false, tFor_eq, iList, iTup, iRng1, iRng2, iRng3, rIndexT, tBM0, tBMT, tyK_int, tyK_bool, tyK_str, tyK_list, tyK_tuple, L2.start, cxK, Int.reduceToNat, List.map_cons, List.map_nil, List.length_cons, List.length_nil, Nat.reduceAdd, Nat.reduceSub, Nat.zero_add, List.replicate_succ, List.replicate_zero, List.cons_append, List.nil_append, List.append_nil, List.getElem?_cons_zero, List.getElem?_cons_succ, List.set_cons_zero, List.set_cons_succ, Option.some.injEq, V.int.injEq, V.bl.injEq, V.ref.injEq, V.str.injEq, V.ty.injEq, List.cons.injEq, exists_eq_left', exists_eq_left, exists_eq_right, exists_and_left, exists_and_right, and_true, true_and, and_assoc, exists_const, decide_eq_true_eq, Bool.not_eq_true', Bool.not_true, Bool.not_false, Bool.not_not, decide_eq_false_iff_not, ite_not, Bool.false_eq_true, if_true, if_false, reduceCtorEq, and_false, false_and, exists_false, or_false, false_or, ↓reduceIte, eq_self, reduceIte]
      rw [if_neg (by omega)]
      refine ⟨_, Kd.tup T, ?_⟩
      rw [if_neg (by decide)]
      refine ⟨_, .inr T, ?_⟩
      rw [if_neg (by rw [List.length_cons]; omega)]
      refine ⟨_, T, _, (show atI (x :: xs) ((0 : Nat) : Int) = some _ from atI_nat rfl), _, hk, ?_⟩
      rw [if_pos (isi_str_ne ne)]
      exact ⟨by decide, e _ (Same.refl _)⟩
    | @one _ p z rest T nz B =>
      have last : ∀ H', Same H H' → spOfOne K cs cN [V.ref p] H' Q E := fun H' S => .inr ⟨p, z, rest, rfl, Same.tup S T, B.same S, fun H2 S2 => e _ (S.trans S2)⟩
      simp only [tTurn, rTurnT, tTryS, rCountT, rPop, rRep, tCont, iZipT, tChain3, tFld, sFld, tMake, tMake0, tMethD, tBM0, rUpper, tDict1T, tTryN, rSlS, rMulS, rCatS, iZipL, rInsert, rReverse, tDNewX, tTry, tRaise, iEnumL, iEnumT, iZip, iSeq, iOr, rIx, iStr, rLeS, rJoin, rSlTA, tComp_eq, tComp1, slots, Option.getD_some, Option.getD_none, tYes, tSeq, tAsg, gName, tOp, tUn, tC, tVar, tCB, tCons, tNil, tCall, rI, rI0, rU, tRet, tRetN, tIfS, tTest, tB, tAnd, tOr, tNot, tAndV, tOrV, tNotV, tIf, tChain, tMenu, tPar, tDrop, tTup, tLst, tNext, tSl, tPart, tNoPart, tNever, gTup, gCons, gNil, gSub, rSetL, tBM, rAppend, rEq, rNe, rIsi, rIxL, rIxT, rIxS, rSlL, isi_non_bl, isi_non_int, isi_non_str, isi_non_lst, isi_non_tup, isi_bl_bl, isi_bl_int, isi_bl_str, isi_bl_lst, isi_bl_tup, isi_int_bl, isi_int_int, isi_int_str, isi_int_lst, isi_int_tup, isi_str_bl, isi_str_int, isi_str_str, isi_str_lst, isi_str_tup, isi_lst_bl, isi_lst_int, isi_lst_str, isi_lst_lst, isi_lst_tup, isi_tup_bl, isi_tup_int, isi_tup_str, isi_tup_lst, isi_tup_tup, isi_dct_bl, isi_dct_int, isi_dct_str, isi_dct_lst, isi_dct_tup, Kd_non, Kd_bl, Kd_int, Kd_str, sc_non_non, sc_non_int, sc_int_non, sc_non_bl, sc_bl_non, sc_non_str, sc_str_non, sc_int_int, sc_bl_bl, sc_str_str, sc_int_str, sc_str_int, sc_bl_str, sc_str_bl, decide_true, decide_false, tFor_eq, iList, iTup, iRng1, iRng2, iRng3, rIndexT, tBM0, tBMT, tyK_int, tyK_bool, tyK_str, tyK_list, tyK_tuple, L2.start, cxK, Int.reduceToNat, List.map_cons, List.map_nil, List.length_cons, List.length_nil, Nat.reduceAdd, Nat.reduceSub, Nat.zero_add, List.replicate_succ, List.replicate_zero, List.cons_append, List.nil_append, List.append_nil, List.getElem?_cons_zero, List.getElem?_cons_succ, List.set_cons_zero, List.set_cons_succ, Option.some.injEq, V.int.injEq, V.bl.injEq, V.ref.injEq, V.str.injEq, V.ty.injEq, List.cons.injEq, exists_eq_left', exists_eq_left, exists_eq_right, exists_and_left, exists_and_right, and_true, true_and, and_assoc, exists_const, decide_eq_true_eq, Bool.not_eq_true', Bool.not_true, Bool.not_false, Bool.not_not, decide_eq_false_iff_not, ite_not, Bool.false_eq_true, if_true, if_false, reduceCtorEq, and_false, false_and, exists_false, or_false, false_or, ↓reduceIte, eq_self, reduceIte]
      rw [if_neg (by omega)]
      refine ⟨_, Kd.tup T, ?_⟩
      rw [if_neg (by decide)]
      refine ⟨_, .inr T, ?_⟩
      rw [if_neg (by rw [List.length_cons]; omega)]
      refine ⟨_, T, _, (show atI (V.str z :: rest) ((0 : Nat) : Int) = some _ from atI_nat rfl), _, (show Kd K H (.str z) .str from rfl), ?_⟩
      rw [if_neg (by decide)]
      refine ⟨_, .inr T, ?_⟩
      by_cases l2 : rest.length = 2
      · rw [if_pos (by rw [List.length_cons]; omega)]
        obtain ⟨u1, u2, rfl⟩ : ∃ u1 u2, rest = [u1, u2] := match rest, l2 with | [u1, u2], _ => ⟨u1, u2, rfl⟩
        rcases nz with h | rfl | rfl
        · exact absurd l2 h
        · skip
          refine ⟨_, T, _, rfl, by decide, fun p1 hp1 => ?_⟩
          obtain ⟨H1, g1, S1, T1⟩ := fresh_tup (K := K) hp1 [V.str (Str.ofString "all"), V.str (Str.ofString "some")]
          rw [← g1]
          clear g1
          refine ⟨p1, _, rfl, .inr T1, rfl, rfl, _, rfl, ?_⟩
          rw [if_neg (by decide)]
          exact last _ S1
        · skip
          refine ⟨_, T, _, rfl, by decide, fun p1 hp1 => ?_⟩
          obtain ⟨H1, g1, S1, T1⟩ := fresh_tup (K := K) hp1 [V.str (Str.ofString "all"), V.str (Str.ofString "some")]
          rw [← g1]
          clear g1
          refine ⟨p1, _, rfl, .inr T1, rfl, rfl, _, rfl, ?_⟩
          rw [if_neg (by decide)]
          exact last _ S1
      · rw [if_neg (by rw [List.length_cons]; omega)]
        exact last _ (Same.refl _)
    | @fst _ p z v1 v2 hz T B =>
      simp only [tTurn, rTurnT, tTryS, rCountT, rPop, rRep, tCont, iZipT, tChain3, tFld, sFld, tMake, tMake0, tMethD, tBM0, rUpper, tDict1T, tTryN, rSlS, rMulS, rCatS, iZipL, rInsert, rReverse, tDNewX, tTry, tRaise, iEnumL, iEnumT, iZip, iSeq, iOr, rIx, iStr, rLeS, rJoin, rSlTA, tComp_eq, tComp1, slots, Option.getD_some, Option.getD_none, tYes, tSeq, tAsg, gName, tOp, tUn, tC, tVar, tCB, tCons, tNil, tCall, rI, rI0, rU, tRet, tRetN, tIfS, tTest, tB, tAnd, tOr, tNot, tAndV, tOrV, tNotV, tIf, tChain, tMenu, tPar, tDrop, tTup, tLst, tNext, tSl, tPart, tNoPart, tNever, gTup, gCons, gNil, gSub, rSetL, tBM, rAppend, rEq, rNe, rIsi, rIxL, rIxT, rIxS, rSlL, isi_non_bl, isi_non_int, isi_non_str, isi_non_lst, isi_non_tup, isi_bl_bl, isi_bl_int, isi_bl_str, isi_bl_lst, isi_bl_tup, isi_int_bl, isi_int_int, isi_int_str, isi_int_lst, isi_int_tup, isi_str_bl, isi_str_int, isi_str_str, isi_str_lst, isi_str_tup, isi_lst_bl, isi_lst_int, isi_lst_str, isi_lst_lst, isi_lst_tup, isi_tup_bl, isi_tup_int, isi_tup_str, isi_tup_lst, isi_tup_tup, isi_dct_bl, isi_dct_int, isi_dct_str, isi_dct_lst, isi_dct_tup, Kd_non, Kd_bl, Kd_int, Kd_str, sc_non_non, sc_non_int, sc_int_non, sc_non_bl, sc_bl_non, sc_non_str, sc_str_non, sc_int_int, sc_bl_bl, sc_str_str, sc_int_str, sc_str_int, sc_bl_str, sc_str_bl, decide_true, decide_false, tFor_eq, iList, iTup, iRng1, iRng2, iRng3, rIndexT, tBM0, tBMT, tyK_int, tyK_bool, tyK_str, tyK_list, tyK_tuple, L2.start, cxK, Int.reduceToNat, List.map_cons, List.map_nil, List.length_cons, List.length_nil, Nat.reduceAdd, Nat.reduceSub, Nat.zero_add, List.replicate_succ, List.replicate_zero, List.cons_append, List.nil_append, List.append_nil, List.getElem?_cons_zero, List.getElem?_cons_succ, List.set_cons_zero, List.set_cons_succ, Option.some.injEq, V.int.injEq, V.bl.injEq, V.ref.injEq, V.str.injEq, V.ty.injEq, List.cons.injEq, exists_eq_left', exists_eq_left, exists_eq_right, exists_and_left, exists_and_right, and_true, true_and, and_assoc, exists_const, decide_eq_true_eq, Bool.not_eq_true', Bool.not_true, Bool.not_false, Bool.not_not, decide_eq_false_iff_not, ite_not, Bool.false_eq_true, if_true, if_false, reduceCtorEq, and_false, false_and, exists_false, or_false, false_or, ↓reduceIte, eq_self, reduceIte]
      rw [if_neg (by omega)]
      refine ⟨_, Kd.tup T, ?_⟩
      rw [if_neg (by decide)]
      refine ⟨_, .inr T, ?_⟩
      rw [if_neg (by simp)]
      refine ⟨_, T, _, rfl, _, (show Kd K H (.str _) .str from rfl), ?_⟩
      rw [if_neg (by decide)]
      refine ⟨_, .inr T, ?_⟩
      rw [if_pos (by simp)]
      refine ⟨_, T, _, rfl, by decide, fun p1 hp1 => ?_⟩
      obtain ⟨H1, g1, S1, T1⟩ := fresh_tup (K := K) hp1 [V.str (Str.ofString "all"), V.str (Str.ofString "some")]
      rw [← g1]
      clear g1
      refine ⟨p1, _, rfl, .inr T1, rfl, rfl, _, rfl, ?_⟩
      rw [if_pos (by rcases hz with rfl | rfl <;> decide), ed]
      exact ⟨_, Same.tup S1 T, _, rfl, .inr ⟨v1, rfl, B.same S1, fun H2 S2 => e _ (S1.trans S2)⟩⟩
    | @snd _ p z v1 v2 r hz T R1 ok1 dp1 B =>
      obtain ⟨a1, rfl⟩ := told_ref R1
      simp only [tTurn, rTurnT, tTryS, rCountT, rPop, rRep, tCont, iZipT, tChain3, tFld, sFld, tMake, tMake0, tMethD, tBM0, rUpper, tDict1T, tTryN, rSlS, rMulS, rCatS, iZipL, rInsert, rReverse, tDNewX, tTry, tRaise, iEnumL, iEnumT, iZip, iSeq, iOr, rIx, iStr, rLeS, rJoin, rSlTA, tComp_eq, tComp1, slots, Option.getD_some, Option.getD_none, tYes, tSeq, tAsg, gName, tOp, tUn, tC, tVar, tCB, tCons, tNil, tCall, rI, rI0, rU, tRet, tRetN, tIfS, tTest, tB, tAnd, tOr, tNot, tAndV, tOrV, tNotV, tIf, tChain, tMenu, tPar, tDrop, tTup, tLst, tNext, tSl, tPart, tNoPart, tNever, gTup, gCons, gNil, gSub, rSetL, tBM, rAppend, rEq, rNe, rIsi, rIxL, rIxT, rIxS, rSlL, isi_non_bl, isi_non_int, isi_non_str, isi_non_lst, isi_non_tup, isi_bl_bl, isi_bl_int, isi_bl_str, isi_bl_lst, isi_bl_tup, isi_int_bl, isi_int_int, isi_int_str, isi_int_lst, isi_int_tup, isi_str_bl, isi_str_int, isi_str_str, isi_str_lst, isi_str_tup, isi_lst_bl, isi_lst_int, isi_lst_str, isi_lst_lst, isi_lst_tup, isi_tup_bl, isi_tup_int, isi_tup_str, isi_tup_lst, isi_tup_tup, isi_dct_bl, isi_dct_int, isi_dct_str, isi_dct_lst, isi_dct_tup, Kd_non, Kd_bl, Kd_int, Kd_str, sc_non_non, sc_non_int, sc_int_non, sc_non_bl, sc_bl_non, sc_non_str, sc_str_non, sc_int_int, sc_bl_bl, sc_str_str, sc_int_str, sc_str_int, sc_bl_str, sc_str_bl, decide_true, decide_false, tFor_eq, iList, iTup, iRng1, iRng2, iRng3, rIndexT, tBM0, tBMT, tyK_int, tyK_bool, tyK_str, tyK_list, tyK_tuple, L2.start, cxK, Int.reduceToNat, List.map_cons, List.map_nil, List.length_cons, List.length_nil, Nat.reduceAdd, Nat.reduceSub, Nat.zero_add, List.replicate_succ, List.replicate_zero, List.cons_append, List.nil_append, List.append_nil, List.getElem?_cons_zero, List.getElem?_cons_succ, List.set_cons_zero, List.set_cons_succ, Option.some.injEq, V.int.injEq, V.bl.injEq, V.ref.injEq, V.str.injEq, V.ty.injEq, List.cons.injEq, exists_eq_left', exists_eq_left, exists_eq_right, exists_and_left, exists_and_right, and_true, true_and, and_assoc, exists_const, decide_eq_true_eq, Bool.not_eq_true', Bool.not_true, Bool.not_false, Bool.not_not, decide_eq_false_iff_not, ite_not, Bool.false_eq_true, if_true, if_false, reduceCtorEq, and_false, false_and, exists_false, or_false, false_or, ↓reduceIte, eq_self, reduceIte]
      rw [if_neg (by omega)]
      refine ⟨_, Kd.tup T, ?_⟩
      rw [if_neg (by decide)]
      refine ⟨_, .inr T, ?_⟩
      rw [if_neg (by simp)]
      refine ⟨_, T, _, rfl, _, (show Kd K H (.str _) .str from rfl), ?_⟩
      rw [if_neg (by decide)]
      refine ⟨_, .inr T, ?_⟩
      rw [if_pos (by simp)]
      refine ⟨_, T, _, rfl, by decide, fun p1 hp1 => ?_⟩
      obtain ⟨H1, g1, S1, T1⟩ := fresh_tup (K := K) hp1 [V.str (Str.ofString "all"), V.str (Str.ofString "some")]
      rw [← g1]
      clear g1
      refine ⟨p1, _, rfl, .inr T1, rfl, rfl, _, rfl, ?_⟩
      rw [if_pos (by rcases hz with rfl | rfl <;> decide), ed]
      refine ⟨_, Same.tup S1 T, _, rfl, .inl ⟨a1, r, rfl, R1.same S1, ok1, dp1, fun o1 H2 S2 O1 => ?_⟩⟩
      have S12 := S1.trans S2
      exact ⟨_, Same.tup S12 T, _, rfl, .inr ⟨v2, rfl, B.same S12, fun H3 S3 => e _ (S12.trans S3)⟩⟩
theorem zero_within (F : Fun K "rule_within" "rule_within" s_rule_within f fd) (M : Mg mg) (C_rule_of_one : Cal P w K mg base (CXE P w) "rule_of_one" 4 ["told"] (spOfOne K cs cN)) (C_rule_of_rules : Cal P w K mg base CX0 "rule_of_rules" 3 ["word", "one", "other"] (spOfRules K cs)) (R_NoRule : XRaise K mg "NoRule" cN)
    (C_rule_within : Cal P w K mg base (CXE P w) "rule_within" 4 ["left", "told"] spNo) : FnOk P w K mg base (CXE P w) (4 + 1) f fd ["left", "told"] (spWithin K cs cN 0) := by
  refine F.okX sc_rule_within (fun vs H Q E h => ?_) (fun cdv A outer s H vs Q E hr h => ?_)
  · rcases h with ⟨p, n, rfl, _⟩ | ⟨v, rfl, _⟩ <;> rfl
  refine ⟨_, (@pss_cons _ _ _ _ _ (@ps_if _ _ _ _ _ _ _ _ (@pt_cmpR _ _ _ _ _ _ _ _ (@op_eq _) (@pe_var _ 0 _ _ rfl v_rule_within_0 dn_left dc_left) (@pe_int _ _ _ _) (nomark _)) (@pss_one _ _ _ (@ps_raise _ _ _ _ _ _ _ _ _ _ _ throws_cx hr g_rule_within_NoRule R_NoRule (@pa_cons _ _ _ _ _ (@pe_str _ _ _ _) (@pa_nil _) (star1 rfl)) (star1 rfl) (by rfl) dn_NoRule)) (@pss_nil _)) (@pss_cons _ _ _ _ _ (@ps_if _ _ _ _ _ _ _ _ (@PW.pt _ _ _ (@pw_or _ _ _ _ _ _ _ (@pt_not _ _ _ _ (@pt_val _ _ _ (@pe_callB _ _ _ _ _ _ _ _ _ call_isi g_rule_within_isinstance M.m_isinstance b_isinstance (@pa_cons _ _ _ _ _ (@pe_var _ 1 _ _ rfl v_rule_within_1 dn_told dc_told) (@pa_cons _ _ _ _ _ (@pe_bltn _ _ (.ty "tuple") _ _ g_rule_within_tuple M.m_tuple b_tuple rfl nn_tuple dn_tuple) (@pa_nil _) (star1 rfl)) (star1 rfl)) nn_isinstance dn_isinstance (star1 rfl) (nost1 rfl nost0)) (test1 rfl))) (@pw_or _ _ _ _ _ _ _ (@pt_cmpR _ _ _ _ _ _ _ _ (@op_eq _) (@pe_callB _ _ _ _ _ _ _ _ _ call_len_seq g_rule_within_len M.m_len b_len (@pa_cons _ _ _ _ _ (@pe_var _ 1 _ _ rfl v_rule_within_1 dn_told dc_told) (@pa_nil _) (star1 rfl)) nn_len dn_len (star1 rfl) nost0) (@pe_int _ _ _ _) (nomark _)) (@pw_or1 _ _ _ _ (@pt_not _ _ _ _ (@pt_val _ _ _ (@pe_callB _ _ _ _ _ _ _ _ _ call_isi g_rule_within_isinstance M.m_isinstance b_isinstance (@pa_cons _ _ _ _ _ (@pe_ix _ _ _ _ _ _ _ (@ix_tup _) (@pe_var _ 1 _ _ rfl v_rule_within_1 dn_told dc_told) (@pe_int _ _ _ _) (fun _ _ => rfl)) (@pa_cons _ _ _ _ _ (@pe_bltn _ _ (.ty "str") _ _ g_rule_within_str M.m_str b_str rfl nn_str dn_str) (@pa_nil _) (star1 rfl)) (star1 rfl)) nn_isinstance dn_isinstance (star1 rfl) (nost1 rfl nost0)) (test1 rfl))))))) (@pss_one _ _ _ (@ps_raise _ _ _ _ _ _ _ _ _ _ _ throws_cx hr g_rule_within_NoRule R_NoRule (@pa_cons _ _ _ _ _ (@pe_str _ _ _ _) (@pa_nil _) (star1 rfl)) (star1 rfl) (by rfl) dn_NoRule)) (@pss_nil _)) (@pss_cons _ _ _ _ _ (@ps_if _ _ _ _ _ _ _ _ (@PW.pt _ _ _ (@pw_and _ _ _ _ _ _ _ (@pt_cmpR _ _ _ _ _ _ _ _ (@op_eq _) (@pe_callB _ _ _ _ _ _ _ _ _ call_len_seq g_rule_within_len M.m_len b_len (@pa_cons _ _ _ _ _ (@pe_var _ 1 _ _ rfl v_rule_within_1 dn_told dc_told) (@pa_nil _) (star1 rfl)) nn_len dn_len (star1 rfl) nost0) (@pe_int _ _ _ _) (nomark _)) (@pw_and1 _ _ _ _ (@pt_cmpR _ _ _ _ _ _ _ _ op_in_seq (@pe_ix _ _ _ _ _ _ _ (@ix_tup _) (@pe_var _ 1 _ _ rfl v_rule_within_1 dn_told dc_told) (@pe_int _ _ _ _) (fun _ _ => rfl)) (@pe_tup _ _ _ _ _ (@pa_cons _ _ _ _ _ (@pe_str _ _ _ _) (@pa_cons _ _ _ _ _ (@pe_str _ _ _ _) (@pa_nil _) (star1 rfl)) (star1 rfl))) (by with_unfolding_all rfl))))) (@pss_cons _ _ _ _ _ (@ps_set _ _ 2 _ _ _ _ sc_rule_within.nd rfl l_rule_within_2 (@pe_callX _ _ _ _ _ _ _ _ _ _ _ _ _ C_rule_within hr g_rule_within_rule_within pass_cx (@pa_cons _ _ _ _ _ (@pe_op _ _ _ _ _ _ _ _ (@op_sub _) (@pe_var _ 0 _ _ rfl v_rule_within_0 dn_left dc_left) (@pe_int _ _ _ _)) (@pa_cons _ _ _ _ _ (@pe_ix _ _ _ _ _ _ _ (@ix_tup _) (@pe_var _ 1 _ _ rfl v_rule_within_1 dn_told dc_told) (@pe_int _ _ _ _) (fun _ _ => rfl)) (@pa_nil _) (star1 rfl)) (star1 rfl)) (by omega) dn_rule_within (star1 rfl) (nost1 rfl nost0)) (swap1 rfl) (.inl rfl)) (@pss_cons _ _ _ _ _ (@ps_set _ _ 3 _ _ _ _ sc_rule_within.nd rfl l_rule_within_3 (@pe_callX _ _ _ _ _ _ _ _ _ _ _ _ _ C_rule_within hr g_rule_within_rule_within pass_cx (@pa_cons _ _ _ _ _ (@pe_op _ _ _ _ _ _ _ _ (@op_sub _) (@pe_var _ 0 _ _ rfl v_rule_within_0 dn_left dc_left) (@pe_int _ _ _ _)) (@pa_cons _ _ _ _ _ (@pe_ix _ _ _ _ _ _ _ (@ix_tup _) (@pe_var _ 1 _ _ rfl v_rule_within_1 dn_told dc_told) (@pe_int _ _ _ _) (fun _ _ => rfl)) (@pa_nil _) (star1 rfl)) (star1 rfl)) (by omega) dn_rule_within (star1 rfl) (nost1 rfl nost0)) (swap1 rfl) (.inl rfl)) (@pss_one _ _ _ (@ps_ret _ _ _ _ (@pe_callC _ _ _ _ _ _ _ _ _ _ _ C_rule_of_rules hr g_rule_within_rule_of_rules (@pa_cons _ _ _ _ _ (@pe_ix _ _ _ _ _ _ _ (@ix_tup _) (@pe_var _ 1 _ _ rfl v_rule_within_1 dn_told dc_told) (@pe_int _ _ _ _) (fun _ _ => rfl)) (@pa_cons _ _ _ _ _ (@pe_var _ 2 _ _ rfl v_rule_within_2 dn_one dc_one) (@pa_cons _ _ _ _ _ (@pe_var _ 3 _ _ rfl v_rule_within_3 dn_other dc_other) (@pa_nil _) (star1 rfl)) (star1 rfl)) (star1 rfl)) (by omega) dn_rule_of_rules (star1 rfl) (nost1 rfl (nost1 rfl nost0))))))) (@pss_nil _)) (@pss_one _ _ _ (@ps_ret _ _ _ _ (@pe_callX _ _ _ _ _ _ _ _ _ _ _ _ _ C_rule_of_one hr g_rule_within_rule_of_one pass_cx (@pa_cons _ _ _ _ _ (@pe_var _ 1 _ _ rfl v_rule_within_1 dn_told dc_told) (@pa_nil _) (star1 rfl)) (by omega) dn_rule_of_one (star1 rfl) nost0)))))), ?_⟩
  rcases h with ⟨p, n, rfl, R, ok, dp, q⟩ | ⟨v, rfl, B, e⟩
  · have := Rl.dp_pos n
    omega
  · simp only [tTurn, rTurnT, tTryS, rCountT, rPop, rRep, tCont, iZipT, tChain3, tFld, sFld, tMake, tMake0, tMethD, tBM0, rUpper, tDict1T, tTryN, rSlS, rMulS, rCatS, iZipL, rInsert, rReverse, tDNewX, tTry, tRaise, iEnumL, iEnumT, iZip, iSeq, iOr, rIx, iStr, rLeS, rJoin, rSlTA, tComp_eq, tComp1, slots, Option.getD_some, Option.getD_none, tYes, tSeq, tAsg, gName, tOp, tUn, tC, tVar, tCB, tCons, tNil, tCall, rI, rI0, rU, tRet, tRetN, tIfS, tTest, tB, tAnd, tOr, tNot, tAndV, tOrV, tNotV, tIf, tChain, tMenu, tPar, tDrop, tTup, tLst, tNext, tSl, tPart, tNoPart, tNever, gTup, gCons, gNil, gSub, rSetL, tBM, rAppend, rEq, rNe, rIsi, rIxL, rIxT, rIxS, rSlL, isi_non_bl, isi_non_int, isi_non_str, isi_non_lst, isi_non_tup, isi_bl_bl, isi_bl_int, isi_bl_str, isi_bl_lst, isi_bl_tup, isi_int_bl, isi_int_int, isi_int_str, isi_int_lst, isi_int_tup, isi_str_bl, isi_str_int, isi_str_str, isi_str_lst, isi_str_tup, isi_lst_bl, isi_lst_int, isi_lst_str, isi_lst_lst, isi_lst_tup, isi_tup_bl, isi_tup_int, isi_tup_str, isi_tup_lst, isi_tup_tup, isi_dct_bl, isi_dct_int, isi_dct_str, isi_dct_lst, isi_dct_tup, Kd_non, Kd_bl, Kd_int, Kd_str, sc_non_non, sc_non_int, sc_int_non, sc_non_bl, sc_bl_non, sc_non_str, sc_str_non, sc_int_int, sc_bl_bl, sc_str_str, sc_int_str, sc_str_int, sc_bl_str, sc_str_bl, decide_true, decide_false, tFor_eq, iList, iTup, iRng1, iRng2, iRng3, rIndexT, tBM0, tBMT, tyK_int, tyK_bool, tyK_str, tyK_list, tyK_tuple, L2.start, cxK, Int.reduceToNat, List.map_cons, List.map_nil, List.length_cons, List.length_nil, Nat.reduceAdd, Nat.reduceSub, Nat.zero_add, List.replicate_succ, List.replicate_zero, List.cons_append, List.nil_append, List.append_nil, List.getElem?_cons_zero, List.getElem?_cons_succ, List.set_cons_zero, List.set_cons_succ, Option.some.injEq, V.int.injEq, V.bl.injEq, V.ref.injEq, V.str.injEq, V.ty.injEq, List.cons.injEq, exists_eq_left', exists_eq_left, exists_eq_right, exists_and_left, exists_and_right, and_true, true_and, and_assoc, exists_const, decide_eq_true_eq, Bool.not_eq_true', Bool.not_true, Bool.not_false, Bool.not_not, decide_eq_false_iff_not, ite_not, Bool.false_eq_true, if_true, if_false, reduceCtorEq, and_false, false_and, exists_false, or_false, false_or, ↓reduceIte, eq_self, reduceIte]
    rw [if_pos (by rfl)]
    exact ⟨by decide, e _ (Same.refl _)⟩
theorem ok_rule_within (F : Fun K "rule_within" "rule_within" s_rule_within f fd) (M : Mg mg) (C_rule_of_one : Cal P w K mg base (CXE P w) "rule_of_one" 4 ["told"] (spOfOne K cs cN)) (C_rule_of_rules : Cal P w K mg base CX0 "rule_of_rules" 3 ["word", "one", "other"] (spOfRules K cs)) (R_NoRule : XRaise K mg "NoRule" cN) (b : Binds K fd ["left", "told"] []) (kp : PySem.W.keepIn K (.ref f) = true) (m : mg "rule_within" = some (.ref f)) : ∀ d : Nat, FnOk P w K mg base (CXE P w) (5 + d) f fd ["left", "told"] (spWithin K cs cN d)
  | 0 => zero_within F M C_rule_of_one C_rule_of_rules R_NoRule ⟨⟨f, fd, fn_no, b, kp, m⟩⟩
  | d + 1 => step_within F M C_rule_of_one C_rule_of_rules R_NoRule ⟨⟨f, fd, ok_rule_within F M C_rule_of_one C_rule_of_rules R_NoRule b kp m d, b, kp, m⟩⟩
theorem ok_rule_of (F : Fun K "rule_of" "rule_of" s_rule_of f fd) (M : Mg mg) (C_rule_within : Cal P w K mg base (CXE P w) "rule_within" 9 ["left", "told"] (spWithin K cs cN 4)) : FnOk P w K mg base (CXE P w) 10 f fd ["told"] (spRuleOf K cs cN) := by
  refine F.okX sc_rule_of (fun vs H Q E h => ?_) (fun cdv A outer s H vs Q E hr h => ?_)
  · rcases h with ⟨p, n, rfl, _⟩ | ⟨v, rfl, _⟩ <;> rfl
  refine ⟨_, (@pss_one _ _ _ (@ps_ret _ _ _ _ (@pe_callX _ _ _ _ _ _ _ _ _ _ _ _ _ C_rule_within hr g_rule_of_rule_within pass_cx (@pa_cons _ _ _ _ _ (@pe_int _ _ _ _) (@pa_cons _ _ _ _ _ (@pe_var _ 0 _ _ rfl v_rule_of_0 dn_told dc_told) (@pa_nil _) (star1 rfl)) (star1 rfl)) (by decide) dn_rule_within (star1 rfl) (nost1 rfl nost0)))), ?_⟩
  rcases h with ⟨p, n, rfl, R, ok, dp, q⟩ | ⟨v, rfl, B, e⟩
  · simp only [tTurn, rTurnT, tTryS, rCountT, rPop, rRep, tCont, iZipT, tChain3, tFld, sFld, tMake, tMake0, tMethD, tBM0, rUpper, tDict1T, tTryN, rSlS, rMulS, rCatS, iZipL, rInsert, rReverse, tDNewX, tTry, tRaise, iEnumL, iEnumT, iZip, iSeq, iOr, rIx, iStr, rLeS, rJoin, rSlTA, tComp_eq, tComp1, slots, Option.getD_some, Option.getD_none, tYes, tSeq, tAsg, gName, tOp, tUn, tC, tVar, tCB, tCons, tNil, tCall, rI, rI0, rU, tRet, tRetN, tIfS, tTest, tB, tAnd, tOr, tNot, tAndV, tOrV, tNotV, tIf, tChain, tMenu, tPar, tDrop, tTup, tLst, tNext, tSl, tPart, tNoPart, tNever, gTup, gCons, gNil, gSub, rSetL, tBM, rAppend, rEq, rNe, rIsi, rIxL, rIxT, rIxS, rSlL, isi_non_bl, isi_non_int, isi_non_str, isi_non_lst, isi_non_tup, isi_bl_bl, isi_bl_int, isi_bl_str, isi_bl_lst, isi_bl_tup, isi_int_bl, isi_int_int, isi_int_str, isi_int_lst, isi_int_tup, isi_str_bl, isi_str_int, isi_str_str, isi_str_lst, isi_str_tup, isi_lst_bl, isi_lst_int, isi_lst_str, isi_lst_lst, isi_lst_tup, isi_tup_bl, isi_tup_int, isi_tup_str, isi_tup_lst, isi_tup_tup, isi_dct_bl, isi_dct_int, isi_dct_str, isi_dct_lst, isi_dct_tup, Kd_non, Kd_bl, Kd_int, Kd_str, sc_non_non, sc_non_int, sc_int_non, sc_non_bl, sc_bl_non, sc_non_str, sc_str_non, sc_int_int, sc_bl_bl, sc_str_str, sc_int_str, sc_str_int, sc_bl_str, sc_str_bl, decide_true, decide_false, tFor_eq, iList, iTup, iRng1, iRng2, iRng3, rIndexT, tBM0, tBMT, tyK_int, tyK_bool, tyK_str, tyK_list, tyK_tuple, L2.start, cxK, Int.reduceToNat, List.map_cons, List.map_nil, List.length_cons, List.length_nil, Nat.reduceAdd, Nat.reduceSub, Nat.zero_add, List.replicate_succ, List.replicate_zero, List.cons_append, List.nil_append, List.append_nil, List.getElem?_cons_zero, List.getElem?_cons_succ, List.set_cons_zero, List.set_cons_succ, Option.some.injEq, V.int.injEq, V.bl.injEq, V.ref.injEq, V.str.injEq, V.ty.injEq, List.cons.injEq, exists_eq_left', exists_eq_left, exists_eq_right, exists_and_left, exists_and_right, and_true, true_and, and_assoc, exists_const, decide_eq_true_eq, Bool.not_eq_true', Bool.not_true, Bool.not_false, Bool.not_not, decide_eq_false_iff_not, ite_not, Bool.false_eq_true, if_true, if_false, reduceCtorEq, and_false, false_and, exists_false, or_false, false_or, ↓reduceIte, eq_self, reduceIte]
    exact .inl ⟨p, n, rfl, R, ok, dp, q⟩
  · simp only [tTurn, rTurnT, tTryS, rCountT, rPop, rRep, tCont, iZipT, tChain3, tFld, sFld, tMake, tMake0, tMethD, tBM0, rUpper, tDict1T, tTryN, rSlS, rMulS, rCatS, iZipL, rInsert, rReverse, tDNewX, tTry, tRaise, iEnumL, iEnumT, iZip, iSeq, iOr, rIx, iStr, rLeS, rJoin, rSlTA, tComp_eq, tComp1, slots, Option.getD_some, Option.getD_none, tYes, tSeq, tAsg, gName, tOp, tUn, tC, tVar, tCB, tCons, tNil, tCall, rI, rI0, rU, tRet, tRetN, tIfS, tTest, tB, tAnd, tOr, tNot, tAndV, tOrV, tNotV, tIf, tChain, tMenu, tPar, tDrop, tTup, tLst, tNext, tSl, tPart, tNoPart, tNever, gTup, gCons, gNil, gSub, rSetL, tBM, rAppend, rEq, rNe, rIsi, rIxL, rIxT, rIxS, rSlL, isi_non_bl, isi_non_int, isi_non_str, isi_non_lst, isi_non_tup, isi_bl_bl, isi_bl_int, isi_bl_str, isi_bl_lst, isi_bl_tup, isi_int_bl, isi_int_int, isi_int_str, isi_int_lst, isi_int_tup, isi_str_bl, isi_str_int, isi_str_str, isi_str_lst, isi_str_tup, isi_lst_bl, isi_lst_int, isi_lst_str, isi_lst_lst, isi_lst_tup, isi_tup_bl, isi_tup_int, isi_tup_str, isi_tup_lst, isi_tup_tup, isi_dct_bl, isi_dct_int, isi_dct_str, isi_dct_lst, isi_dct_tup, Kd_non, Kd_bl, Kd_int, Kd_str, sc_non_non, sc_non_int, sc_int_non, sc_non_bl, sc_bl_non, sc_non_str, sc_str_non, sc_int_int, sc_bl_bl, sc_str_str, sc_int_str, sc_str_int, sc_bl_str, sc_str_bl, decide_true, decide_false, tFor_eq, iList, iTup, iRng1, iRng2, iRng3, rIndexT, tBM0, tBMT, tyK_int, tyK_bool, tyK_str, tyK_list, tyK_tuple, L2.start, cxK, Int.reduceToNat, List.map_cons, List.map_nil, List.length_cons, List.length_nil, Nat.reduceAdd, Nat.reduceSub, Nat.zero_add, List.replicate_succ, List.replicate_zero, List.cons_append, List.nil_append, List.append_nil, List.getElem?_cons_zero, List.getElem?_cons_succ, List.set_cons_zero, List.set_cons_succ, Option.some.injEq, V.int.injEq, V.bl.injEq, V.ref.injEq, V.str.injEq, V.ty.injEq, List.cons.injEq, exists_eq_left', exists_eq_left, exists_eq_right, exists_and_left, exists_and_right, and_true, true_and, and_assoc, exists_const, decide_eq_true_eq, Bool.not_eq_true', Bool.not_true, Bool.not_false, Bool.not_not, decide_eq_false_iff_not, ite_not, Bool.false_eq_true, if_true, if_false, reduceCtorEq, and_false, false_and, exists_false, or_false, false_or, ↓reduceIte, eq_self, reduceIte]
    exact .inr ⟨v, rfl, B, e⟩
end

section
variable {P : Program} {w : World} {K : PySem.W.Frag} {mg : Str → Option Value} {base : Heap} {f : Addr} {fd : FuncData} {cs : RC}
theorem ok_Grown_told {k d : Nat} (F : Fun K "told" "Grown.told" s_Grown_told f fd) (M : Mg mg) : FnOk P w K mg base CX0 (k + 1) f fd ["self"] (spTolR K cs d 0) := by
  refine F.ok sc_Grown_told (fun vs H Q E h => ?_) (fun cdv A outer s H vs Q E hr h => ?_)
  · obtain ⟨a, n, rfl, _⟩ := h
    rfl
  obtain ⟨a, n, rfl, hk, O, dp, q⟩ := h
  refine ⟨_, (@pss_one _ _ _ (@ps_ret _ _ _ _ (@pe_tup _ _ _ _ _ (@pa_cons _ _ _ _ _ (@pe_str _ _ _ _) (@pa_nil _) (star1 rfl))))), ?_⟩
  simp only [tTurn, rTurnT, tTryS, rCountT, rPop, rRep, tCont, iZipT, tChain3, tFld, sFld, tMake, tMake0, tMethD, tBM0, rUpper, tDict1T, tTryN, rSlS, rMulS, rCatS, iZipL, rInsert, rReverse, tDNewX, tTry, tRaise, iEnumL, iEnumT, iZip, iSeq, iOr, rIx, iStr, rLeS, rJoin, rSlTA, tComp_eq, tComp1, slots, Option.getD_some, Option.getD_none, tYes, tSeq, tAsg, gName, tOp, tUn, tC, tVar, tCB, tCons, tNil, tCall, rI, rI0, rU, tRet, tRetN, tIfS, tTest, tB, tAnd, tOr, tNot, tAndV, tOrV, tNotV, tIf, tChain, tMenu, tPar, tDrop, tTup, tLst, tNext, tSl, tPart, tNoPart, tNever, gTup, gCons, gNil, gSub, rSetL, tBM, rAppend, rEq, rNe, rIsi, rIxL, rIxT, rIxS, rSlL, isi_non_bl, isi_non_int, isi_non_str, isi_non_lst, isi_non_tup, isi_bl_bl, isi_bl_int, isi_bl_str, isi_bl_lst, isi_bl_tup, isi_int_bl, isi_int_int, isi_int_str, isi_int_lst, isi_int_tup, isi_str_bl, isi_str_int, isi_str_str, isi_str_lst, isi_str_tup, isi_lst_bl, isi_lst_int, isi_lst_str, isi_lst_lst, isi_lst_tup, isi_tup_bl, isi_tup_int, isi_tup_str, isi_tup_lst, isi_tup_tup, isi_dct_bl, isi_dct_int, isi_dct_str, isi_dct_lst, isi_dct_tup, Kd_non, Kd_bl, Kd_int, Kd_str, sc_non_non, sc_non_int, sc_int_non, sc_non_bl, sc_bl_non, sc_non_str, sc_str_non, sc_int_int, sc_bl_bl, sc_str_str, sc_int_str, sc_str_int, sc_bl_str, sc_str_bl, decide_true, decide_false, tFor_eq, iList, iTup, iRng1, iRng2, iRng3, rIndexT, tBM0, tBMT, tyK_int, tyK_bool, tyK_str, tyK_list, tyK_tuple, L2.start, cxK, Int.reduceToNat, List.map_cons, List.map_nil, List.length_cons, List.length_nil, Nat.reduceAdd, Nat.reduceSub, Nat.zero_add, List.replicate_succ, List.replicate_zero, List.cons_append, List.nil_append, List.append_nil, List.getElem?_cons_zero, List.getElem?_cons_succ, List.set_cons_zero, List.set_cons_succ, Option.some.injEq, V.int.injEq, V.bl.injEq, V.ref.injEq, V.str.injEq, V.ty.injEq, List.cons.injEq, exists_eq_left', exists_eq_left, exists_eq_right, exists_and_left, exists_and_right, and_true, true_and, and_assoc, exists_const, decide_eq_true_eq, Bool.not_eq_true', Bool.not_true, Bool.not_false, Bool.not_not, decide_eq_false_iff_not, ite_not, Bool.false_eq_true, if_true, if_false, reduceCtorEq, and_false, false_and, exists_false, or_false, false_or, ↓reduceIte, eq_self, reduceIte]
  cases n <;> first | (simp [rlKd] at hk; done) | skip
  exact ⟨by decide, fun p hp => q _ _ (same_new hp _) (tol_grown (SqT.of upd_same))⟩
theorem ok_Change_told {k d : Nat} (F : Fun K "told" "Change.told" s_Change_told f fd) (M : Mg mg) (cl : Cls K cs.c) (na : NoAttr K cs.c "deep") : FnOk P w K mg base CX0 (k + 1) f fd ["self"] (spTolR K cs d 1) := by
  refine F.ok sc_Change_told (fun vs H Q E h => ?_) (fun cdv A outer s H vs Q E hr h => ?_)
  · obtain ⟨a, n, rfl, _⟩ := h
    rfl
  obtain ⟨a, n, rfl, hk, O, dp, q⟩ := h
  refine ⟨_, (@pss_one _ _ _ (@ps_ret _ _ _ _ (@pe_tup _ _ _ _ _ (@pa_cons _ _ _ _ _ (@pe_str _ _ _ _) (@pa_cons _ _ _ _ _ (@pe_fld _ _ _ _ _ (@pe_var _ 0 _ _ rfl v_Change_told_0 dn_self dc_self) (by rfl)) (@pa_nil _) (star1 rfl)) (star1 rfl))))), ?_⟩
  simp only [tTurn, rTurnT, tTryS, rCountT, rPop, rRep, tCont, iZipT, tChain3, tFld, sFld, tMake, tMake0, tMethD, tBM0, rUpper, tDict1T, tTryN, rSlS, rMulS, rCatS, iZipL, rInsert, rReverse, tDNewX, tTry, tRaise, iEnumL, iEnumT, iZip, iSeq, iOr, rIx, iStr, rLeS, rJoin, rSlTA, tComp_eq, tComp1, slots, Option.getD_some, Option.getD_none, tYes, tSeq, tAsg, gName, tOp, tUn, tC, tVar, tCB, tCons, tNil, tCall, rI, rI0, rU, tRet, tRetN, tIfS, tTest, tB, tAnd, tOr, tNot, tAndV, tOrV, tNotV, tIf, tChain, tMenu, tPar, tDrop, tTup, tLst, tNext, tSl, tPart, tNoPart, tNever, gTup, gCons, gNil, gSub, rSetL, tBM, rAppend, rEq, rNe, rIsi, rIxL, rIxT, rIxS, rSlL, isi_non_bl, isi_non_int, isi_non_str, isi_non_lst, isi_non_tup, isi_bl_bl, isi_bl_int, isi_bl_str, isi_bl_lst, isi_bl_tup, isi_int_bl, isi_int_int, isi_int_str, isi_int_lst, isi_int_tup, isi_str_bl, isi_str_int, isi_str_str, isi_str_lst, isi_str_tup, isi_lst_bl, isi_lst_int, isi_lst_str, isi_lst_lst, isi_lst_tup, isi_tup_bl, isi_tup_int, isi_tup_str, isi_tup_lst, isi_tup_tup, isi_dct_bl, isi_dct_int, isi_dct_str, isi_dct_lst, isi_dct_tup, Kd_non, Kd_bl, Kd_int, Kd_str, sc_non_non, sc_non_int, sc_int_non, sc_non_bl, sc_bl_non, sc_non_str, sc_str_non, sc_int_int, sc_bl_bl, sc_str_str, sc_int_str, sc_str_int, sc_bl_str, sc_str_bl, decide_true, decide_false, tFor_eq, iList, iTup, iRng1, iRng2, iRng3, rIndexT, tBM0, tBMT, tyK_int, tyK_bool, tyK_str, tyK_list, tyK_tuple, L2.start, cxK, Int.reduceToNat, List.map_cons, List.map_nil, List.length_cons, List.length_nil, Nat.reduceAdd, Nat.reduceSub, Nat.zero_add, List.replicate_succ, List.replicate_zero, List.cons_append, List.nil_append, List.append_nil, List.getElem?_cons_zero, List.getElem?_cons_succ, List.set_cons_zero, List.set_cons_succ, Option.some.injEq, V.int.injEq, V.bl.injEq, V.ref.injEq, V.str.injEq, V.ty.injEq, List.cons.injEq, exists_eq_left', exists_eq_left, exists_eq_right, exists_and_left, exists_and_right, and_true, true_and, and_assoc, exists_const, decide_eq_true_eq, Bool.not_eq_true', Bool.not_true, Bool.not_false, Bool.not_not, decide_eq_false_iff_not, ite_not, Bool.false_eq_true, if_true, if_false, reduceCtorEq, and_false, false_and, exists_false, or_false, false_or, ↓reduceIte, eq_self, reduceIte]
  cases n <;> first | (simp [rlKd] at hk; done) | skip
  obtain ⟨dx, h⟩ := O
  exact ⟨_, _, _, h, cl, na, _, rfl, by decide, fun p hp => q _ _ (same_new hp _) (tol_change (SqT.of upd_same))⟩
theorem ok_Worked_told {k d : Nat} (F : Fun K "told" "Worked.told" s_Worked_told f fd) (M : Mg mg) (cl : Cls K cs.w) (na : NoAttr K cs.w "share") : FnOk P w K mg base CX0 (k + 1) f fd ["self"] (spTolR K cs d 2) := by
  refine F.ok sc_Worked_told (fun vs H Q E h => ?_) (fun cdv A outer s H vs Q E hr h => ?_)
  · obtain ⟨a, n, rfl, _⟩ := h
    rfl
  obtain ⟨a, n, rfl, hk, O, dp, q⟩ := h
  refine ⟨_, (@pss_one _ _ _ (@ps_ret _ _ _ _ (@pe_tup _ _ _ _ _ (@pa_cons _ _ _ _ _ (@pe_str _ _ _ _) (@pa_cons _ _ _ _ _ (@pe_fld _ _ _ _ _ (@pe_var _ 0 _ _ rfl v_Worked_told_0 dn_self dc_self) (by rfl)) (@pa_nil _) (star1 rfl)) (star1 rfl))))), ?_⟩
  simp only [tTurn, rTurnT, tTryS, rCountT, rPop, rRep, tCont, iZipT, tChain3, tFld, sFld, tMake, tMake0, tMethD, tBM0, rUpper, tDict1T, tTryN, rSlS, rMulS, rCatS, iZipL, rInsert, rReverse, tDNewX, tTry, tRaise, iEnumL, iEnumT, iZip, iSeq, iOr, rIx, iStr, rLeS, rJoin, rSlTA, tComp_eq, tComp1, slots, Option.getD_some, Option.getD_none, tYes, tSeq, tAsg, gName, tOp, tUn, tC, tVar, tCB, tCons, tNil, tCall, rI, rI0, rU, tRet, tRetN, tIfS, tTest, tB, tAnd, tOr, tNot, tAndV, tOrV, tNotV, tIf, tChain, tMenu, tPar, tDrop, tTup, tLst, tNext, tSl, tPart, tNoPart, tNever, gTup, gCons, gNil, gSub, rSetL, tBM, rAppend, rEq, rNe, rIsi, rIxL, rIxT, rIxS, rSlL, isi_non_bl, isi_non_int, isi_non_str, isi_non_lst, isi_non_tup, isi_bl_bl, isi_bl_int, isi_bl_str, isi_bl_lst, isi_bl_tup, isi_int_bl, isi_int_int, isi_int_str, isi_int_lst, isi_int_tup, isi_str_bl, isi_str_int, isi_str_str, isi_str_lst, isi_str_tup, isi_lst_bl, isi_lst_int, isi_lst_str, isi_lst_lst, isi_lst_tup, isi_tup_bl, isi_tup_int, isi_tup_str, isi_tup_lst, isi_tup_tup, isi_dct_bl, isi_dct_int, isi_dct_str, isi_dct_lst, isi_dct_tup, Kd_non, Kd_bl, Kd_int, Kd_str, sc_non_non, sc_non_int, sc_int_non, sc_non_bl, sc_bl_non, sc_non_str, sc_str_non, sc_int_int, sc_bl_bl, sc_str_str, sc_int_str, sc_str_int, sc_bl_str, sc_str_bl, decide_true, decide_false, tFor_eq, iList, iTup, iRng1, iRng2, iRng3, rIndexT, tBM0, tBMT, tyK_int, tyK_bool, tyK_str, tyK_list, tyK_tuple, L2.start, cxK, Int.reduceToNat, List.map_cons, List.map_nil, List.length_cons, List.length_nil, Nat.reduceAdd, Nat.reduceSub, Nat.zero_add, List.replicate_succ, List.replicate_zero, List.cons_append, List.nil_append, List.append_nil, List.getElem?_cons_zero, List.getElem?_cons_succ, List.set_cons_zero, List.set_cons_succ, Option.some.injEq, V.int.injEq, V.bl.injEq, V.ref.injEq, V.str.injEq, V.ty.injEq, List.cons.injEq, exists_eq_left', exists_eq_left, exists_eq_right, exists_and_left, exists_and_right, and_true, true_and, and_assoc, exists_const, decide_eq_true_eq, Bool.not_eq_true', Bool.not_true, Bool.not_false, Bool.not_not, decide_eq_false_iff_not, ite_not, Bool.false_eq_true, if_true, if_false, reduceCtorEq, and_false, false_and, exists_false, or_false, false_or, ↓reduceIte, eq_self, reduceIte]
  cases n <;> first | (simp [rlKd] at hk; done) | skip
  obtain ⟨dx, p1, h, T⟩ := O
  exact ⟨_, _, _, h, cl, na, _, rfl, by decide, fun p hp => q _ _ (same_new hp _) (tol_share (SqT.of upd_same) (Same.tup (same_new hp _) T))⟩
theorem ok_AllOf_told {d : Nat} (F : Fun K "told" "AllOf.told" s_AllOf_told f fd) (M : Mg mg) (tt : TwoC K cs.al) (D_told : ∀ C sp, DR (spTolR K cs) cs d C sp → Disp P w K mg base "told" (1 + d) ["self"] C sp) : FnOk P w K mg base CX0 (1 + d + 1) f fd ["self"] (spTolR K cs (d + 1) 3) := by
  refine F.ok sc_AllOf_told (fun vs H Q E h => ?_) (fun cdv A outer s H vs Q E hr h => ?_)
  · obtain ⟨a, n, rfl, _⟩ := h
    rfl
  obtain ⟨a, n, rfl, hk, O, dp, q⟩ := h
  refine ⟨_, (@pss_one _ _ _ (@ps_ret _ _ _ _ (@pe_tup _ _ _ _ _ (@pa_cons _ _ _ _ _ (@pe_str _ _ _ _) (@pa_cons _ _ _ _ _ (@pe_methD0 _ _ _ _ _ _ _ _ _ _ _ (@pe_fld _ _ _ _ _ (@pe_var _ 0 _ _ rfl v_AllOf_told_0 dn_self dc_self) (by rfl)) D_told hr (by omega) (by rfl)) (@pa_cons _ _ _ _ _ (@pe_methD0 _ _ _ _ _ _ _ _ _ _ _ (@pe_fld _ _ _ _ _ (@pe_var _ 0 _ _ rfl v_AllOf_told_0 dn_self dc_self) (by rfl)) D_told hr (by omega) (by rfl)) (@pa_nil _) (star1 rfl)) (star1 rfl)) (star1 rfl))))), ?_⟩
  simp only [tTurn, rTurnT, tTryS, rCountT, rPop, rRep, tCont, iZipT, tChain3, tFld, sFld, tMake, tMake0, tMethD, tBM0, rUpper, tDict1T, tTryN, rSlS, rMulS, rCatS, iZipL, rInsert, rReverse, tDNewX, tTry, tRaise, iEnumL, iEnumT, iZip, iSeq, iOr, rIx, iStr, rLeS, rJoin, rSlTA, tComp_eq, tComp1, slots, Option.getD_some, Option.getD_none, tYes, tSeq, tAsg, gName, tOp, tUn, tC, tVar, tCB, tCons, tNil, tCall, rI, rI0, rU, tRet, tRetN, tIfS, tTest, tB, tAnd, tOr, tNot, tAndV, tOrV, tNotV, tIf, tChain, tMenu, tPar, tDrop, tTup, tLst, tNext, tSl, tPart, tNoPart, tNever, gTup, gCons, gNil, gSub, rSetL, tBM, rAppend, rEq, rNe, rIsi, rIxL, rIxT, rIxS, rSlL, isi_non_bl, isi_non_int, isi_non_str, isi_non_lst, isi_non_tup, isi_bl_bl, isi_bl_int, isi_bl_str, isi_bl_lst, isi_bl_tup, isi_int_bl, isi_int_int, isi_int_str, isi_int_lst, isi_int_tup, isi_str_bl, isi_str_int, isi_str_str, isi_str_lst, isi_str_tup, isi_lst_bl, isi_lst_int, isi_lst_str, isi_lst_lst, isi_lst_tup, isi_tup_bl, isi_tup_int, isi_tup_str, isi_tup_lst, isi_tup_tup, isi_dct_bl, isi_dct_int, isi_dct_str, isi_dct_lst, isi_dct_tup, Kd_non, Kd_bl, Kd_int, Kd_str, sc_non_non, sc_non_int, sc_int_non, sc_non_bl, sc_bl_non, sc_non_str, sc_str_non, sc_int_int, sc_bl_bl, sc_str_str, sc_int_str, sc_str_int, sc_bl_str, sc_str_bl, decide_true, decide_false, tFor_eq, iList, iTup, iRng1, iRng2, iRng3, rIndexT, tBM0, tBMT, tyK_int, tyK_bool, tyK_str, tyK_list, tyK_tuple, L2.start, cxK, Int.reduceToNat, List.map_cons, List.map_nil, List.length_cons, List.length_nil, Nat.reduceAdd, Nat.reduceSub, Nat.zero_add, List.replicate_succ, List.replicate_zero, List.cons_append, List.nil_append, List.append_nil, List.getElem?_cons_zero, List.getElem?_cons_succ, List.set_cons_zero, List.set_cons_succ, Option.some.injEq, V.int.injEq, V.bl.injEq, V.ref.injEq, V.str.injEq, V.ty.injEq, List.cons.injEq, exists_eq_left', exists_eq_left, exists_eq_right, exists_and_left, exists_and_right, and_true, true_and, and_assoc, exists_const, decide_eq_true_eq, Bool.not_eq_true', Bool.not_true, Bool.not_false, Bool.not_not, decide_eq_false_iff_not, ite_not, Bool.false_eq_true, if_true, if_false, reduceCtorEq, and_false, false_and, exists_false, or_false, false_or, ↓reduceIte, eq_self, reduceIte]
  cases n <;> first | (simp [rlKd] at hk; done) | skip
  obtain ⟨dx, a1, a2, h, O1, O2⟩ := O
  rename_i x y
  have dd : max x.dp y.dp + 1 ≤ d + 1 := dp
  refine ⟨_, _, _, h, tt.cl, tt.n1, _, rfl, _, rfl, ?_⟩
  refine told_byR O1 (show x.dp ≤ d by omega) fun p1 H1 S1 R1 => ?_
  refine ⟨_, _, _, S1 _ _ h, tt.cl, tt.n2, _, rfl, _, rfl, ?_⟩
  refine told_byR (ObjR.same S1 O2) (show y.dp ≤ d by omega) fun p2 H2 S2 R2 => ?_
  exact ⟨by decide, fun p hp => q _ _ (S1.trans (S2.trans (same_new hp _))) (tol_al (SqT.of upd_same) ((R1.same S2).same (same_new hp _)) (R2.same (same_new hp _)))⟩
theorem ok_OneOf_told {d : Nat} (F : Fun K "told" "OneOf.told" s_OneOf_told f fd) (M : Mg mg) (tt : TwoC K cs.so) (D_told : ∀ C sp, DR (spTolR K cs) cs d C sp → Disp P w K mg base "told" (1 + d) ["self"] C sp) : FnOk P w K mg base CX0 (1 + d + 1) f fd ["self"] (spTolR K cs (d + 1) 4) := by
  refine F.ok sc_OneOf_told (fun vs H Q E h => ?_) (fun cdv A outer s H vs Q E hr h => ?_)
  · obtain ⟨a, n, rfl, _⟩ := h
    rfl
  obtain ⟨a, n, rfl, hk, O, dp, q⟩ := h
  refine ⟨_, (@pss_one _ _ _ (@ps_ret _ _ _ _ (@pe_tup _ _ _ _ _ (@pa_cons _ _ _ _ _ (@pe_str _ _ _ _) (@pa_cons _ _ _ _ _ (@pe_methD0 _ _ _ _ _ _ _ _ _ _ _ (@pe_fld _ _ _ _ _ (@pe_var _ 0 _ _ rfl v_OneOf_told_0 dn_self dc_self) (by rfl)) D_told hr (by omega) (by rfl)) (@pa_cons _ _ _ _ _ (@pe_methD0 _ _ _ _ _ _ _ _ _ _ _ (@pe_fld _ _ _ _ _ (@pe_var _ 0 _ _ rfl v_OneOf_told_0 dn_self dc_self) (by rfl)) D_told hr (by omega) (by rfl)) (@pa_nil _) (star1 rfl)) (star1 rfl)) (star1 rfl))))), ?_⟩
  simp only [tTurn, rTurnT, tTryS, rCountT, rPop, rRep, tCont, iZipT, tChain3, tFld, sFld, tMake, tMake0, tMethD, tBM0, rUpper, tDict1T, tTryN, rSlS, rMulS, rCatS, iZipL, rInsert, rReverse, tDNewX, tTry, tRaise, iEnumL, iEnumT, iZip, iSeq, iOr, rIx, iStr, rLeS, rJoin, rSlTA, tComp_eq, tComp1, slots, Option.getD_some, Option.getD_none, tYes, tSeq, tAsg, gName, tOp, tUn, tC, tVar, tCB, tCons, tNil, tCall, rI, rI0, rU, tRet, tRetN, tIfS, tTest, tB, tAnd, tOr, tNot, tAndV, tOrV, tNotV, tIf, tChain, tMenu, tPar, tDrop, tTup, tLst, tNext, tSl, tPart, tNoPart, tNever, gTup, gCons, gNil, gSub, rSetL, tBM, rAppend, rEq, rNe, rIsi, rIxL, rIxT, rIxS, rSlL, isi_non_bl, isi_non_int, isi_non_str, isi_non_lst, isi_non_tup, isi_bl_bl, isi_bl_int, isi_bl_str, isi_bl_lst, isi_bl_tup, isi_int_bl, isi_int_int, isi_int_str, isi_int_lst, isi_int_tup, isi_str_bl, isi_str_int, isi_str_str, isi_str_lst, isi_str_tup, isi_lst_bl, isi_lst_int, isi_lst_str, isi_lst_lst, isi_lst_tup, isi_tup_bl, isi_tup_int, isi_tup_str, isi_tup_lst, isi_tup_tup, isi_dct_bl, isi_dct_int, isi_dct_str, isi_dct_lst, isi_dct_tup, Kd_non, Kd_bl, Kd_int, Kd_str, sc_non_non, sc_non_int, sc_int_non, sc_non_bl, sc_bl_non, sc_non_str, sc_str_non, sc_int_int, sc_bl_bl, sc_str_str, sc_int_str, sc_str_int, sc_bl_str, sc_str_bl, decide_true, decide_false, tFor_eq, iList, iTup, iRng1, iRng2, iRng3, rIndexT, tBM0, tBMT, tyK_int, tyK_bool, tyK_str, tyK_list, tyK_tuple, L2.start, cxK, Int.reduceToNat, List.map_cons, List.map_nil, List.length_cons, List.length_nil, Nat.reduceAdd, Nat.reduceSub, Nat.zero_add, List.replicate_succ, List.replicate_zero, List.cons_append, List.nil_append, List.append_nil, List.getElem?_cons_zero, List.getElem?_cons_succ, List.set_cons_zero, List.set_cons_succ, Option.some.injEq, V.int.injEq, V.bl.injEq, V.ref.injEq, V.str.injEq, V.ty.injEq, List.cons.injEq, exists_eq_left', exists_eq_left, exists_eq_right, exists_and_left, exists_and_right, and_true, true_and, and_assoc, exists_const, decide_eq_true_eq, Bool.not_eq_true', Bool.not_true, Bool.not_false, Bool.not_not, decide_eq_false_iff_not, ite_not, Bool.false_eq_true, if_true, if_false, reduceCtorEq, and_false, false_and, exists_false, or_false, false_or, ↓reduceIte, eq_self, reduceIte]
  cases n <;> first | (simp [rlKd] at hk; done) | skip
  obtain ⟨dx, a1, a2, h, O1, O2⟩ := O
  rename_i x y
  have dd : max x.dp y.dp + 1 ≤ d + 1 := dp
  refine ⟨_, _, _, h, tt.cl, tt.n1, _, rfl, _, rfl, ?_⟩
  refine told_byR O1 (show x.dp ≤ d by omega) fun p1 H1 S1 R1 => ?_
  refine ⟨_, _, _, S1 _ _ h, tt.cl, tt.n2, _, rfl, _, rfl, ?_⟩
  refine told_byR (ObjR.same S1 O2) (show y.dp ≤ d by omega) fun p2 H2 S2 R2 => ?_
  exact ⟨by decide, fun p hp => q _ _ (S1.trans (S2.trans (same_new hp _))) (tol_so (SqT.of upd_same) ((R1.same S2).same (same_new hp _)) (R2.same (same_new hp _)))⟩
theorem no_AllOf_told {j : Nat} (F : Fun K "told" "AllOf.told" s_AllOf_told f fd) : FnOk P w K mg base CX0 1 f fd ["self"] (spTolR K cs 0 j) := by
  refine F.ok (k := 0) sc_AllOf_told (fun vs H Q E h => ?_) (fun cdv A outer s H vs Q E hr h => ?_)
  · obtain ⟨a, n, rfl, _⟩ := h
    rfl
  obtain ⟨a, n, rfl, hk, O, dp, q⟩ := h
  have := Rl.dp_pos n
  omega
theorem no_OneOf_told {j : Nat} (F : Fun K "told" "OneOf.told" s_OneOf_told f fd) : FnOk P w K mg base CX0 1 f fd ["self"] (spTolR K cs 0 j) := by
  refine F.ok (k := 0) sc_OneOf_told (fun vs H Q E h => ?_) (fun cdv A outer s H vs Q E hr h => ?_)
  · obtain ⟨a, n, rfl, _⟩ := h
    rfl
  obtain ⟨a, n, rfl, hk, O, dp, q⟩ := h
  have := Rl.dp_pos n
  omega
theorem ok_Grown_enough {k d : Nat} (F : Fun K "enough" "Grown.enough" s_Grown_enough f fd) (M : Mg mg) : FnOk P w K mg base CX0 (k + 1) f fd ["self", "number", "price", "own", "foreign"] (spEnR K cs d 0) := by
  refine F.ok sc_Grown_enough (fun vs H Q E h => ?_) (fun cdv A outer s H vs Q E hr h => ?_)
  · obtain ⟨a, n, fl, r, nn, price, own, fx, fs, rfl, _⟩ := h
    rfl
  obtain ⟨a, n, fl, r, nn, price, own, fx, fs, rfl, hk, O, ok, dp, en, q⟩ := h
  have len := en.FA.length
  refine ⟨_, (@pss_one _ _ _ (@ps_ret _ _ _ _ (@pe_cmpR _ _ _ _ _ _ _ _ (@op_eq _) (@pe_callB _ _ _ _ _ _ _ _ _ call_len_seq g_Grown_enough_len M.m_len b_len (@pa_cons _ _ _ _ _ (@pe_var _ 4 _ _ rfl v_Grown_enough_4 dn_foreign dc_foreign) (@pa_nil _) (star1 rfl)) nn_len dn_len (star1 rfl) nost0) (@pe_int _ _ _ _) (nomark _)))), ?_⟩
  simp only [tTurn, rTurnT, tTryS, rCountT, rPop, rRep, tCont, iZipT, tChain3, tFld, sFld, tMake, tMake0, tMethD, tBM0, rUpper, tDict1T, tTryN, rSlS, rMulS, rCatS, iZipL, rInsert, rReverse, tDNewX, tTry, tRaise, iEnumL, iEnumT, iZip, iSeq, iOr, rIx, iStr, rLeS, rJoin, rSlTA, tComp_eq, tComp1, slots, Option.getD_some, Option.getD_none, tYes, tSeq, tAsg, gName, tOp, tUn, tC, tVar, tCB, tCons, tNil, tCall, rI, rI0, rU, tRet, tRetN, tIfS, tTest, tB, tAnd, tOr, tNot, tAndV, tOrV, tNotV, tIf, tChain, tMenu, tPar, tDrop, tTup, tLst, tNext, tSl, tPart, tNoPart, tNever, gTup, gCons, gNil, gSub, rSetL, tBM, rAppend, rEq, rNe, rIsi, rIxL, rIxT, rIxS, rSlL, isi_non_bl, isi_non_int, isi_non_str, isi_non_lst, isi_non_tup, isi_bl_bl, isi_bl_int, isi_bl_str, isi_bl_lst, isi_bl_tup, isi_int_bl, isi_int_int, isi_int_str, isi_int_lst, isi_int_tup, isi_str_bl, isi_str_int, isi_str_str, isi_str_lst, isi_str_tup, isi_lst_bl, isi_lst_int, isi_lst_str, isi_lst_lst, isi_lst_tup, isi_tup_bl, isi_tup_int, isi_tup_str, isi_tup_lst, isi_tup_tup, isi_dct_bl, isi_dct_int, isi_dct_str, isi_dct_lst, isi_dct_tup, Kd_non, Kd_bl, Kd_int, Kd_str, sc_non_non, sc_non_int, sc_int_non, sc_non_bl, sc_bl_non, sc_non_str, sc_str_non, sc_int_int, sc_bl_bl, sc_str_str, sc_int_str, sc_str_int, sc_bl_str, sc_str_bl, decide_true, decide_false, tFor_eq, iList, iTup, iRng1, iRng2, iRng3, rIndexT, tBM0, tBMT, tyK_int, tyK_bool, tyK_str, tyK_list, tyK_tuple, L2.start, cxK, Int.reduceToNat, List.map_cons, List.map_nil, List.length_cons, List.length_nil, Nat.reduceAdd, Nat.reduceSub, Nat.zero_add, List.replicate_succ, List.replicate_zero, List.cons_append, List.nil_append, List.append_nil, List.getElem?_cons_zero, List.getElem?_cons_succ, List.set_cons_zero, List.set_cons_succ, Option.some.injEq, V.int.injEq, V.bl.injEq, V.ref.injEq, V.str.injEq, V.ty.injEq, List.cons.injEq, exists_eq_left', exists_eq_left, exists_eq_right, exists_and_left, exists_and_right, and_true, true_and, and_assoc, exists_const, decide_eq_true_eq, Bool.not_eq_true', Bool.not_true, Bool.not_false, Bool.not_not, decide_eq_false_iff_not, ite_not, Bool.false_eq_true, if_true, if_false, reduceCtorEq, and_false, false_and, exists_false, or_false, false_or, ↓reduceIte, eq_self, reduceIte]
  cases r <;> first | (simp [rlKd] at hk; done) | skip
  refine ⟨_, .inl en.L, ?_⟩
  have e : decide ((fx.length : Int) = 0) = decide (fs.length = 0) := decide_eq_decide.mpr (by omega)
  rw [e]
  exact q _ (Same.refl _)
theorem ok_Worked_enough {k d : Nat} (F : Fun K "enough" "Worked.enough" s_Worked_enough f fd) (M : Mg mg) (cl : Cls K cs.w) (na : NoAttr K cs.w "share") : FnOk P w K mg base CX0 (k + 1) f fd ["self", "number", "price", "own", "foreign"] (spEnR K cs d 2) := by
  refine F.ok sc_Worked_enough (fun vs H Q E h => ?_) (fun cdv A outer s H vs Q E hr h => ?_)
  · obtain ⟨a, n, fl, r, nn, price, own, fx, fs, rfl, _⟩ := h
    rfl
  obtain ⟨a, n, fl, r, nn, price, own, fx, fs, rfl, hk, O, ok, dp, en, q⟩ := h
  refine ⟨_, (@pss_one _ _ _ (@ps_ret _ _ _ _ (@pe_cmpR _ _ _ _ _ _ _ _ (@op_ge _) (@pe_op _ _ _ _ _ _ _ _ (@op_mulB _) (@pe_var _ 3 _ _ rfl v_Worked_enough_3 dn_own dc_own) (@pe_ix _ _ _ _ _ _ _ (@ix_tup _) (@pe_fld _ _ _ _ _ (@pe_var _ 0 _ _ rfl v_Worked_enough_0 dn_self dc_self) (by rfl)) (@pe_int _ _ _ _) (fun _ _ => rfl))) (@pe_op _ _ _ _ _ _ _ _ (@op_mulB _) (@pe_var _ 2 _ _ rfl v_Worked_enough_2 dn_price dc_price) (@pe_ix _ _ _ _ _ _ _ (@ix_tup _) (@pe_fld _ _ _ _ _ (@pe_var _ 0 _ _ rfl v_Worked_enough_0 dn_self dc_self) (by rfl)) (@pe_int _ _ _ _) (fun _ _ => rfl))) (nomark _)))), ?_⟩
  simp only [tTurn, rTurnT, tTryS, rCountT, rPop, rRep, tCont, iZipT, tChain3, tFld, sFld, tMake, tMake0, tMethD, tBM0, rUpper, tDict1T, tTryN, rSlS, rMulS, rCatS, iZipL, rInsert, rReverse, tDNewX, tTry, tRaise, iEnumL, iEnumT, iZip, iSeq, iOr, rIx, iStr, rLeS, rJoin, rSlTA, tComp_eq, tComp1, slots, Option.getD_some, Option.getD_none, tYes, tSeq, tAsg, gName, tOp, tUn, tC, tVar, tCB, tCons, tNil, tCall, rI, rI0, rU, tRet, tRetN, tIfS, tTest, tB, tAnd, tOr, tNot, tAndV, tOrV, tNotV, tIf, tChain, tMenu, tPar, tDrop, tTup, tLst, tNext, tSl, tPart, tNoPart, tNever, gTup, gCons, gNil, gSub, rSetL, tBM, rAppend, rEq, rNe, rIsi, rIxL, rIxT, rIxS, rSlL, isi_non_bl, isi_non_int, isi_non_str, isi_non_lst, isi_non_tup, isi_bl_bl, isi_bl_int, isi_bl_str, isi_bl_lst, isi_bl_tup, isi_int_bl, isi_int_int, isi_int_str, isi_int_lst, isi_int_tup, isi_str_bl, isi_str_int, isi_str_str, isi_str_lst, isi_str_tup, isi_lst_bl, isi_lst_int, isi_lst_str, isi_lst_lst, isi_lst_tup, isi_tup_bl, isi_tup_int, isi_tup_str, isi_tup_lst, isi_tup_tup, isi_dct_bl, isi_dct_int, isi_dct_str, isi_dct_lst, isi_dct_tup, Kd_non, Kd_bl, Kd_int, Kd_str, sc_non_non, sc_non_int, sc_int_non, sc_non_bl, sc_bl_non, sc_non_str, sc_str_non, sc_int_int, sc_bl_bl, sc_str_str, sc_int_str, sc_str_int, sc_bl_str, sc_str_bl, decide_true, decide_false, tFor_eq, iList, iTup, iRng1, iRng2, iRng3, rIndexT, tBM0, tBMT, tyK_int, tyK_bool, tyK_str, tyK_list, tyK_tuple, L2.start, cxK, Int.reduceToNat, List.map_cons, List.map_nil, List.length_cons, List.length_nil, Nat.reduceAdd, Nat.reduceSub, Nat.zero_add, List.replicate_succ, List.replicate_zero, List.cons_append, List.nil_append, List.append_nil, List.getElem?_cons_zero, List.getElem?_cons_succ, List.set_cons_zero, List.set_cons_succ, Option.some.injEq, V.int.injEq, V.bl.injEq, V.ref.injEq, V.str.injEq, V.ty.injEq, List.cons.injEq, exists_eq_left', exists_eq_left, exists_eq_right, exists_and_left, exists_and_right, and_true, true_and, and_assoc, exists_const, decide_eq_true_eq, Bool.not_eq_true', Bool.not_true, Bool.not_false, Bool.not_not, decide_eq_false_iff_not, ite_not, Bool.false_eq_true, if_true, if_false, reduceCtorEq, and_false, false_and, exists_false, or_false, false_or, ↓reduceIte, eq_self, reduceIte]
  cases r <;> first | (simp [rlKd] at hk; done) | skip
  obtain ⟨dx, p, R, T⟩ := O
  obtain ⟨t0, tb, b1, b9, _⟩ := ok
  obtain ⟨TN, L, FA, l4, p1, p12, o0, o12⟩ := en
  have e61 : (10 : Int) ^ 12 ≤ 10 ^ 61 := by decide
  have e62 : (10 : Int) ^ 9 ≤ 10 ^ 61 := by decide
  exact ⟨_, _, _, R, cl, na, _, rfl, _, rfl, _, T, _, rfl, _, rfl, cmul (by omega) (by omega) (by omega) (by omega), _, _, _, R, cl, na, _, rfl, _, rfl, _, T, _, rfl, _, rfl, cmul (by omega) (by omega) (by omega) (by omega), q _ (Same.refl _)⟩
theorem ok_Change_enough {k d : Nat} (F : Fun K "enough" "Change.enough" s_Change_enough f fd) (M : Mg mg) (cl : Cls K cs.c) (na : NoAttr K cs.c "deep") : FnOk P w K mg base CX0 (k + 1) f fd ["self", "number", "price", "own", "foreign"] (spEnR K cs d 1) := by
  refine F.ok sc_Change_enough (fun vs H Q E h => ?_) (fun cdv A outer s H vs Q E hr h => ?_)
  · obtain ⟨a, n, fl, r, nn, price, own, fx, fs, rfl, _⟩ := h
    rfl
  obtain ⟨a, n, fl, r, nn, price, own, fx, fs, rfl, hk, O, ok, dp, en, q⟩ := h
  have len := en.FA.length
  refine ⟨_, (@pss_one _ _ _ (@ps_ret _ _ _ _ (@pe_callB _ _ _ _ _ _ _ _ _ (call_all1 rfl) g_Change_enough_all M.m_all b_all (@pa_cons _ _ _ _ _ (@pe_comp _ _ _ _ _ _ _ _ _ _ _ _ _ _ _ rfl (CompOk.make (N' := ["number", "self", "other"]) (ix := [1, 0]) (nl := 1) (by rfl) (fm1 rfl (fm1 rfl fm0)) (by rfl) (by decide +kernel) rfl (by decide +kernel) rfl (And.intro ⟨rfl, .inl rfl, .inl rfl⟩ (And.intro ⟨rfl, .inl rfl, .inl rfl⟩ True.intro))) (@pi_list _ _ _ _ (@pe_var _ 4 _ _ rfl v_Change_enough_4 dn_foreign dc_foreign)) (fun _ _ _ _ _ => (@pg_name _ _ 2 _ (show List.Nodup (["number", "self", "other"] : List Str) from by decide) rfl (Or.inl rfl) (by first | exact .inl rfl | exact .inr rfl | assumption))) (fun _ _ _ _ _ => (@pif_nil _)) (fun _ _ _ _ _ => (@pe_cmpR _ _ _ _ _ _ _ _ (op_neSK (K := K) rfl (Nat.lt_of_succ_lt (hu_of hr))) (@pe_slice _ _ _ _ _ _ _ _ _ _ (sl_tupQK (K := K) rfl) (@pv _ 2 _ _ (by rfl) (by first | exact Or.inl rfl | exact Or.inr (Or.inl rfl) | exact Or.inr (Or.inr rfl)) (by decide) (by decide)) (@po_none _) (@po_some _ _ _ (@pe_fldK _ _ _ _ K _ rfl (@pv _ 1 _ _ (by rfl) (by first | exact Or.inl rfl | exact Or.inr (Or.inl rfl) | exact Or.inr (Or.inr rfl)) (by decide) (by decide)) (by rfl)))) (@pe_slice _ _ _ _ _ _ _ _ _ _ (sl_tupQK (K := K) rfl) (@pv _ 0 _ _ (by rfl) (by first | exact Or.inl rfl | exact Or.inr (Or.inl rfl) | exact Or.inr (Or.inr rfl)) (by decide) (by decide)) (@po_none _) (@po_some _ _ _ (@pe_fldK _ _ _ _ K _ rfl (@pv _ 1 _ _ (by rfl) (by first | exact Or.inl rfl | exact Or.inr (Or.inl rfl) | exact Or.inr (Or.inr rfl)) (by decide) (by decide)) (by rfl)))) (nomark _))) (by intro _; rfl)) (@pa_nil _) (star1 rfl)) nn_all dn_all (star1 rfl) nost0))), ?_⟩
  cases r <;> first | (simp [rlKd] at hk; done) | skip
  rename_i d
  obtain ⟨dx, R⟩ := O
  obtain ⟨d1, d4⟩ := ok
  obtain ⟨TN, L, FA, l4, p1, p12, o0, o12⟩ := en
  obtain ⟨dn, rfl⟩ : ∃ dn : Nat, d = dn := ⟨d.toNat, by omega⟩
  simp only [tTurn, rTurnT, tTryS, rCountT, rPop, rRep, tCont, iZipT, tChain3, tFld, sFld, tMake, tMake0, tMethD, tBM0, rUpper, tDict1T, tTryN, rSlS, rMulS, rCatS, iZipL, rInsert, rReverse, tDNewX, tTry, tRaise, iEnumL, iEnumT, iZip, iSeq, iOr, rIx, iStr, rLeS, rJoin, rSlTA, tComp_eq, tComp1, slots, Option.getD_some, Option.getD_none, tYes, tSeq, tAsg, gName, tOp, tUn, tC, tVar, tCB, tCons, tNil, tCall, rI, rI0, rU, tRet, tRetN, tIfS, tTest, tB, tAnd, tOr, tNot, tAndV, tOrV, tNotV, tIf, tChain, tMenu, tPar, tDrop, tTup, tLst, tNext, tSl, tPart, tNoPart, tNever, gTup, gCons, gNil, gSub, rSetL, tBM, rAppend, rEq, rNe, rIsi, rIxL, rIxT, rIxS, rSlL, isi_non_bl, isi_non_int, isi_non_str, isi_non_lst, isi_non_tup, isi_bl_bl, isi_bl_int, isi_bl_str, isi_bl_lst, isi_bl_tup, isi_int_bl, isi_int_int, isi_int_str, isi_int_lst, isi_int_tup, isi_str_bl, isi_str_int, isi_str_str, isi_str_lst, isi_str_tup, isi_lst_bl, isi_lst_int, isi_lst_str, isi_lst_lst, isi_lst_tup, isi_tup_bl, isi_tup_int, isi_tup_str, isi_tup_lst, isi_tup_tup, isi_dct_bl, isi_dct_int, isi_dct_str, isi_dct_lst, isi_dct_tup, Kd_non, Kd_bl, Kd_int, Kd_str, sc_non_non, sc_non_int, sc_int_non, sc_non_bl, sc_bl_non, sc_non_str, sc_str_non, sc_int_int, sc_bl_bl, sc_str_str, sc_int_str, sc_str_int, sc_bl_str, sc_str_bl, decide_true, decide_false, tFor_eq, iList, iTup, iRng1, iRng2, iRng3, rIndexT, tBM0, tBMT, tyK_int, tyK_bool, tyK_str, tyK_list, tyK_tuple, L2.start, cxK, Int.reduceToNat, List.map_cons, List.map_nil, List.length_cons, List.length_nil, Nat.reduceAdd, Nat.reduceSub, Nat.zero_add, List.replicate_succ, List.replicate_zero, List.cons_append, List.nil_append, List.append_nil, List.getElem?_cons_zero, List.getElem?_cons_succ, List.set_cons_zero, List.set_cons_succ, Option.some.injEq, V.int.injEq, V.bl.injEq, V.ref.injEq, V.str.injEq, V.ty.injEq, List.cons.injEq, exists_eq_left', exists_eq_left, exists_eq_right, exists_and_left, exists_and_right, and_true, true_and, and_assoc, exists_const, decide_eq_true_eq, Bool.not_eq_true', Bool.not_true, Bool.not_false, Bool.not_not, decide_eq_false_iff_not, ite_not, Bool.false_eq_true, if_true, if_false, reduceCtorEq, and_false, false_and, exists_false, or_false, false_or, ↓reduceIte, eq_self, reduceIte]
  refine ⟨⟨_, L⟩, fun D hD => ?_⟩
  obtain ⟨Pc, hC⟩ : ∃ Pc : Nat → St → Hp → Prop, Pc = fun i τ H' => ∃ z, H' D = some (.lst (((fs.map fun o => decide (o.take dn ≠ nn.take dn)).take i).map V.bl)) ∧ Same H H' ∧ τ = [some (.ref n), some (.ref a), z] := ⟨_, rfl⟩
  refine compS_list fx Pc ?_ (fun i τ H' _ h => by rw [hC] at h; obtain ⟨z, _, e, _⟩ := h; exact e.seq L) ?_ ?_
  · rw [hC]
    exact ⟨_, upd_same, same_new hD _, rfl⟩
  · intro i x τ H' R' hx h next
    rw [hC] at h
    obtain ⟨z, d1, d2, rfl⟩ := h
    obtain ⟨p, o, rfl, ho, To⟩ := (FA.same d2).at hx
    have li : i < fx.length := (List.getElem?_eq_some_iff.mp hx).1
    simp only [tTurn, rTurnT, tTryS, rCountT, rPop, rRep, tCont, iZipT, tChain3, tFld, sFld, tMake, tMake0, tMethD, tBM0, rUpper, tDict1T, tTryN, rSlS, rMulS, rCatS, iZipL, rInsert, rReverse, tDNewX, tTry, tRaise, iEnumL, iEnumT, iZip, iSeq, iOr, rIx, iStr, rLeS, rJoin, rSlTA, tComp_eq, tComp1, slots, Option.getD_some, Option.getD_none, tYes, tSeq, tAsg, gName, tOp, tUn, tC, tVar, tCB, tCons, tNil, tCall, rI, rI0, rU, tRet, tRetN, tIfS, tTest, tB, tAnd, tOr, tNot, tAndV, tOrV, tNotV, tIf, tChain, tMenu, tPar, tDrop, tTup, tLst, tNext, tSl, tPart, tNoPart, tNever, gTup, gCons, gNil, gSub, rSetL, tBM, rAppend, rEq, rNe, rIsi, rIxL, rIxT, rIxS, rSlL, isi_non_bl, isi_non_int, isi_non_str, isi_non_lst, isi_non_tup, isi_bl_bl, isi_bl_int, isi_bl_str, isi_bl_lst, isi_bl_tup, isi_int_bl, isi_int_int, isi_int_str, isi_int_lst, isi_int_tup, isi_str_bl, isi_str_int, isi_str_str, isi_str_lst, isi_str_tup, isi_lst_bl, isi_lst_int, isi_lst_str, isi_lst_lst, isi_lst_tup, isi_tup_bl, isi_tup_int, isi_tup_str, isi_tup_lst, isi_tup_tup, isi_dct_bl, isi_dct_int, isi_dct_str, isi_dct_lst, isi_dct_tup, Kd_non, Kd_bl, Kd_int, Kd_str, sc_non_non, sc_non_int, sc_int_non, sc_non_bl, sc_bl_non, sc_non_str, sc_str_non, sc_int_int, sc_bl_bl, sc_str_str, sc_int_str, sc_str_int, sc_bl_str, sc_str_bl, decide_true, decide_false, tFor_eq, iList, iTup, iRng1, iRng2, iRng3, rIndexT, tBM0, tBMT, tyK_int, tyK_bool, tyK_str, tyK_list, tyK_tuple, L2.start, cxK, Int.reduceToNat, List.map_cons, List.map_nil, List.length_cons, List.length_nil, Nat.reduceAdd, Nat.reduceSub, Nat.zero_add, List.replicate_succ, List.replicate_zero, List.cons_append, List.nil_append, List.append_nil, List.getElem?_cons_zero, List.getElem?_cons_succ, List.set_cons_zero, List.set_cons_succ, Option.some.injEq, V.int.injEq, V.bl.injEq, V.ref.injEq, V.str.injEq, V.ty.injEq, List.cons.injEq, exists_eq_left', exists_eq_left, exists_eq_right, exists_and_left, exists_and_right, and_true, true_and, and_assoc, exists_const, decide_eq_true_eq, Bool.not_eq_true', Bool.not_true, Bool.not_false, Bool.not_not, decide_eq_false_iff_not, ite_not, Bool.false_eq_true, if_true, if_false, reduceCtorEq, and_false, false_and, exists_false, or_false, false_or, ↓reduceIte, eq_self, reduceIte]
    have cut : ∀ ns : List Int, cutV (ns.map V.int) none (some (dn : Int)) = (ns.take dn).map V.int := fun ns => by rw [cut_to, List.map_take]
    refine ⟨_, _, _, d2 _ _ R, cl, na, _, rfl, _, rfl, p, _, rfl, To, fun p1 H3 S3 T3 => ?_⟩
    rw [cut] at T3
    refine ⟨_, _, _, S3 _ _ (d2 _ _ R), cl, na, _, rfl, _, rfl, n, _, rfl, Same.tup (d2.trans S3) TN, fun p2 H4 S4 T4 => ?_⟩
    rw [cut] at T4
    have S24 := S3.trans S4
    refine rEqS_ints (.inr ⟨Same.tup S4 T3, T4⟩) ⟨_, S24 _ _ d1, ?_, next _ _ ?_⟩
    · rw [List.length_map, List.length_take, List.length_map]
      exact Nat.lt_of_lt_of_le (m := 64) (by omega) (by decide)
    · rw [hC]
      refine ⟨_, ?_, same_upd (d2.trans S24) hD _, rfl⟩
      rw [upd_same, List.take_add_one, List.getElem?_map, ho, List.map_append, if_pos rfl]
      have e : (!decide (o.take dn = nn.take dn)) = decide (o.take dn ≠ nn.take dn) := by
        by_cases h : o.take dn = nn.take dn
        · rw [decide_eq_true h, decide_eq_false (fun z => z h)]
          rfl
        · rw [decide_eq_false h, decide_eq_true h]
          rfl
      rw [e]
      rfl
  intro τ H2 h
  rw [hC] at h
  obtain ⟨z, d1, d2, rfl⟩ := h
  rw [List.take_of_length_le (by rw [List.length_map]; omega)] at d1
  refine ⟨_, rfl, _, SqL.of d1, ?_⟩
  have e : (fs.map fun o => decide (o.take dn ≠ nn.take dn)).all id = enR (.change dn) nn price own fs := by
    rw [List.all_map]
    rfl
  rw [e]
  exact q _ d2
theorem ok_AllOf_enough {d : Nat} (F : Fun K "enough" "AllOf.enough" s_AllOf_enough f fd) (M : Mg mg) (tt : TwoC K cs.al) (D_enough : ∀ C sp, DR (spEnR K cs) cs d C sp → Disp P w K mg base "enough" (1 + d) ["self", "number", "price", "own", "foreign"] C sp) : FnOk P w K mg base CX0 (1 + d + 1) f fd ["self", "number", "price", "own", "foreign"] (spEnR K cs (d + 1) 3) := by
  refine F.ok sc_AllOf_enough (fun vs H Q E h => ?_) (fun cdv A outer s H vs Q E hr h => ?_)
  · obtain ⟨a, n, fl, r, nn, price, own, fx, fs, rfl, _⟩ := h
    rfl
  obtain ⟨a, n, fl, r, nn, price, own, fx, fs, rfl, hk, O, ok, dp, en, q⟩ := h
  refine ⟨_, (@pss_cons _ _ _ _ _ (@ps_set _ _ 5 _ _ _ _ sc_AllOf_enough.nd rfl l_AllOf_enough_5 (@pe_methD _ _ _ _ _ _ _ _ _ _ _ _ _ _ (@pe_fld _ _ _ _ _ (@pe_var _ 0 _ _ rfl v_AllOf_enough_0 dn_self dc_self) (by rfl)) D_enough hr (@pa_cons _ _ _ _ _ (@pe_var _ 1 _ _ rfl v_AllOf_enough_1 dn_number dc_number) (@pa_cons _ _ _ _ _ (@pe_var _ 2 _ _ rfl v_AllOf_enough_2 dn_price dc_price) (@pa_cons _ _ _ _ _ (@pe_var _ 3 _ _ rfl v_AllOf_enough_3 dn_own dc_own) (@pa_cons _ _ _ _ _ (@pe_var _ 4 _ _ rfl v_AllOf_enough_4 dn_foreign dc_foreign) (@pa_nil _) (star1 rfl)) (star1 rfl)) (star1 rfl)) (star1 rfl)) (by omega) (star1 rfl) (nost1 rfl (nost1 rfl (nost1 rfl nost0))) (by rfl)) (swap1 rfl) (.inl rfl)) (@pss_one _ _ _ (@ps_ret _ _ _ _ (@pe_and _ _ _ _ _ _ _ (@pe_var _ 5 _ _ rfl v_AllOf_enough_5 dn_first dc_first) (@pe_one _ _ _ _ _ (@pe_methD _ _ _ _ _ _ _ _ _ _ _ _ _ _ (@pe_fld _ _ _ _ _ (@pe_var _ 0 _ _ rfl v_AllOf_enough_0 dn_self dc_self) (by rfl)) D_enough hr (@pa_cons _ _ _ _ _ (@pe_var _ 1 _ _ rfl v_AllOf_enough_1 dn_number dc_number) (@pa_cons _ _ _ _ _ (@pe_var _ 2 _ _ rfl v_AllOf_enough_2 dn_price dc_price) (@pa_cons _ _ _ _ _ (@pe_var _ 3 _ _ rfl v_AllOf_enough_3 dn_own dc_own) (@pa_cons _ _ _ _ _ (@pe_var _ 4 _ _ rfl v_AllOf_enough_4 dn_foreign dc_foreign) (@pa_nil _) (star1 rfl)) (star1 rfl)) (star1 rfl)) (star1 rfl)) (by omega) (star1 rfl) (nost1 rfl (nost1 rfl (nost1 rfl nost0))) (by rfl))))))), ?_⟩
  simp only [tTurn, rTurnT, tTryS, rCountT, rPop, rRep, tCont, iZipT, tChain3, tFld, sFld, tMake, tMake0, tMethD, tBM0, rUpper, tDict1T, tTryN, rSlS, rMulS, rCatS, iZipL, rInsert, rReverse, tDNewX, tTry, tRaise, iEnumL, iEnumT, iZip, iSeq, iOr, rIx, iStr, rLeS, rJoin, rSlTA, tComp_eq, tComp1, slots, Option.getD_some, Option.getD_none, tYes, tSeq, tAsg, gName, tOp, tUn, tC, tVar, tCB, tCons, tNil, tCall, rI, rI0, rU, tRet, tRetN, tIfS, tTest, tB, tAnd, tOr, tNot, tAndV, tOrV, tNotV, tIf, tChain, tMenu, tPar, tDrop, tTup, tLst, tNext, tSl, tPart, tNoPart, tNever, gTup, gCons, gNil, gSub, rSetL, tBM, rAppend, rEq, rNe, rIsi, rIxL, rIxT, rIxS, rSlL, isi_non_bl, isi_non_int, isi_non_str, isi_non_lst, isi_non_tup, isi_bl_bl, isi_bl_int, isi_bl_str, isi_bl_lst, isi_bl_tup, isi_int_bl, isi_int_int, isi_int_str, isi_int_lst, isi_int_tup, isi_str_bl, isi_str_int, isi_str_str, isi_str_lst, isi_str_tup, isi_lst_bl, isi_lst_int, isi_lst_str, isi_lst_lst, isi_lst_tup, isi_tup_bl, isi_tup_int, isi_tup_str, isi_tup_lst, isi_tup_tup, isi_dct_bl, isi_dct_int, isi_dct_str, isi_dct_lst, isi_dct_tup, Kd_non, Kd_bl, Kd_int, Kd_str, sc_non_non, sc_non_int, sc_int_non, sc_non_bl, sc_bl_non, sc_non_str, sc_str_non, sc_int_int, sc_bl_bl, sc_str_str, sc_int_str, sc_str_int, sc_bl_str, sc_str_bl, decide_true, decide_false, tFor_eq, iList, iTup, iRng1, iRng2, iRng3, rIndexT, tBM0, tBMT, tyK_int, tyK_bool, tyK_str, tyK_list, tyK_tuple, L2.start, cxK, Int.reduceToNat, List.map_cons, List.map_nil, List.length_cons, List.length_nil, Nat.reduceAdd, Nat.reduceSub, Nat.zero_add, List.replicate_succ, List.replicate_zero, List.cons_append, List.nil_append, List.append_nil, List.getElem?_cons_zero, List.getElem?_cons_succ, List.set_cons_zero, List.set_cons_succ, Option.some.injEq, V.int.injEq, V.bl.injEq, V.ref.injEq, V.str.injEq, V.ty.injEq, List.cons.injEq, exists_eq_left', exists_eq_left, exists_eq_right, exists_and_left, exists_and_right, and_true, true_and, and_assoc, exists_const, decide_eq_true_eq, Bool.not_eq_true', Bool.not_true, Bool.not_false, Bool.not_not, decide_eq_false_iff_not, ite_not, Bool.false_eq_true, if_true, if_false, reduceCtorEq, and_false, false_and, exists_false, or_false, false_or, ↓reduceIte, eq_self, reduceIte]
  cases r <;> first | (simp [rlKd] at hk; done) | skip
  obtain ⟨dx, a1, a2, h, O1, O2⟩ := O
  rename_i x y
  obtain ⟨ok1, ok2⟩ := ok
  have dd : max x.dp y.dp + 1 ≤ d + 1 := dp
  refine ⟨_, _, _, h, tt.cl, tt.n1, _, rfl, _, rfl, ?_⟩
  refine enough_byR O1 ok1 (show x.dp ≤ d by omega) en fun H1 S1 => ?_
  obtain ⟨b1, hb1⟩ : ∃ b1, enR x nn price own fs = b1 := ⟨_, rfl⟩
  rw [hb1]
  have eq : ∀ b2, enR y nn price own fs = b2 → enR (.al x y) nn price own fs = (b1 && b2) := fun b2 h2 => by rw [← hb1, ← h2]; rfl
  cases b1 with
  | true =>
    refine ⟨_, rfl, ?_⟩
    rw [if_pos rfl]
    refine ⟨_, _, _, S1 _ _ h, tt.cl, tt.n2, _, rfl, _, rfl, ?_⟩
    refine enough_byR (ObjR.same S1 O2) ok2 (show y.dp ≤ d by omega) (en.same S1) fun H2 S2 => ?_
    have := q _ (S1.trans S2)
    rw [eq _ rfl, Bool.true_and] at this
    exact this
  | false =>
    refine ⟨_, rfl, ?_⟩
    rw [if_neg (by decide)]
    have := q _ S1
    rw [eq _ rfl, Bool.false_and] at this
    exact this
theorem ok_OneOf_enough {d : Nat} (F : Fun K "enough" "OneOf.enough" s_OneOf_enough f fd) (M : Mg mg) (tt : TwoC K cs.so) (D_enough : ∀ C sp, DR (spEnR K cs) cs d C sp → Disp P w K mg base "enough" (1 + d) ["self", "number", "price", "own", "foreign"] C sp) : FnOk P w K mg base CX0 (1 + d + 1) f fd ["self", "number", "price", "own", "foreign"] (spEnR K cs (d + 1) 4) := by
  refine F.ok sc_OneOf_enough (fun vs H Q E h => ?_) (fun cdv A outer s H vs Q E hr h => ?_)
  · obtain ⟨a, n, fl, r, nn, price, own, fx, fs, rfl, _⟩ := h
    rfl
  obtain ⟨a, n, fl, r, nn, price, own, fx, fs, rfl, hk, O, ok, dp, en, q⟩ := h
  refine ⟨_, (@pss_cons _ _ _ _ _ (@ps_set _ _ 5 _ _ _ _ sc_OneOf_enough.nd rfl l_OneOf_enough_5 (@pe_methD _ _ _ _ _ _ _ _ _ _ _ _ _ _ (@pe_fld _ _ _ _ _ (@pe_var _ 0 _ _ rfl v_OneOf_enough_0 dn_self dc_self) (by rfl)) D_enough hr (@pa_cons _ _ _ _ _ (@pe_var _ 1 _ _ rfl v_OneOf_enough_1 dn_number dc_number) (@pa_cons _ _ _ _ _ (@pe_var _ 2 _ _ rfl v_OneOf_enough_2 dn_price dc_price) (@pa_cons _ _ _ _ _ (@pe_var _ 3 _ _ rfl v_OneOf_enough_3 dn_own dc_own) (@pa_cons _ _ _ _ _ (@pe_var _ 4 _ _ rfl v_OneOf_enough_4 dn_foreign dc_foreign) (@pa_nil _) (star1 rfl)) (star1 rfl)) (star1 rfl)) (star1 rfl)) (by omega) (star1 rfl) (nost1 rfl (nost1 rfl (nost1 rfl nost0))) (by rfl)) (swap1 rfl) (.inl rfl)) (@pss_one _ _ _ (@ps_ret _ _ _ _ (@pe_or _ _ _ _ _ _ _ (@pe_var _ 5 _ _ rfl v_OneOf_enough_5 dn_first dc_first) (@pe_one _ _ _ _ _ (@pe_methD _ _ _ _ _ _ _ _ _ _ _ _ _ _ (@pe_fld _ _ _ _ _ (@pe_var _ 0 _ _ rfl v_OneOf_enough_0 dn_self dc_self) (by rfl)) D_enough hr (@pa_cons _ _ _ _ _ (@pe_var _ 1 _ _ rfl v_OneOf_enough_1 dn_number dc_number) (@pa_cons _ _ _ _ _ (@pe_var _ 2 _ _ rfl v_OneOf_enough_2 dn_price dc_price) (@pa_cons _ _ _ _ _ (@pe_var _ 3 _ _ rfl v_OneOf_enough_3 dn_own dc_own) (@pa_cons _ _ _ _ _ (@pe_var _ 4 _ _ rfl v_OneOf_enough_4 dn_foreign dc_foreign) (@pa_nil _) (star1 rfl)) (star1 rfl)) (star1 rfl)) (star1 rfl)) (by omega) (star1 rfl) (nost1 rfl (nost1 rfl (nost1 rfl nost0))) (by rfl))))))), ?_⟩
  simp only [tTurn, rTurnT, tTryS, rCountT, rPop, rRep, tCont, iZipT, tChain3, tFld, sFld, tMake, tMake0, tMethD, tBM0, rUpper, tDict1T, tTryN, rSlS, rMulS, rCatS, iZipL, rInsert, rReverse, tDNewX, tTry, tRaise, iEnumL, iEnumT, iZip, iSeq, iOr, rIx, iStr, rLeS, rJoin, rSlTA, tComp_eq, tComp1, slots, Option.getD_some, Option.getD_none, tYes, tSeq, tAsg, gName, tOp, tUn, tC, tVar, tCB, tCons, tNil, tCall, rI, rI0, rU, tRet, tRetN, tIfS, tTest, tB, tAnd, tOr, tNot, tAndV, tOrV, tNotV, tIf, tChain, tMenu, tPar, tDrop, tTup, tLst, tNext, tSl, tPart, tNoPart, tNever, gTup, gCons, gNil, gSub, rSetL, tBM, rAppend, rEq, rNe, rIsi, rIxL, rIxT, rIxS, rSlL, isi_non_bl, isi_non_int, isi_non_str, isi_non_lst, isi_non_tup, isi_bl_bl, isi_bl_int, isi_bl_str, isi_bl_lst, isi_bl_tup, isi_int_bl, isi_int_int, isi_int_str, isi_int_lst, isi_int_tup, isi_str_bl, isi_str_int, isi_str_str, isi_str_lst, isi_str_tup, isi_lst_bl, isi_lst_int, isi_lst_str, isi_lst_lst, isi_lst_tup, isi_tup_bl, isi_tup_int, isi_tup_str, isi_tup_lst, isi_tup_tup, isi_dct_bl, isi_dct_int, isi_dct_str, isi_dct_lst, isi_dct_tup, Kd_non, Kd_bl, Kd_int, Kd_str, sc_non_non, sc_non_int, sc_int_non, sc_non_bl, sc_bl_non, sc_non_str, sc_str_non, sc_int_int, sc_bl_bl, sc_str_str, sc_int_str, sc_str_int, sc_bl_str, sc_str_bl, decide_true, decide_false, tFor_eq, iList, iTup, iRng1, iRng2, iRng3, rIndexT, tBM0, tBMT, tyK_int, tyK_bool, tyK_str, tyK_list, tyK_tuple, L2.start, cxK, Int.reduceToNat, List.map_cons, List.map_nil, List.length_cons, List.length_nil, Nat.reduceAdd, Nat.reduceSub, Nat.zero_add, List.replicate_succ, List.replicate_zero, List.cons_append, List.nil_append, List.append_nil, List.getElem?_cons_zero, List.getElem?_cons_succ, List.set_cons_zero, List.set_cons_succ, Option.some.injEq, V.int.injEq, V.bl.injEq, V.ref.injEq, V.str.injEq, V.ty.injEq, List.cons.injEq, exists_eq_left', exists_eq_left, exists_eq_right, exists_and_left, exists_and_right, and_true, true_and, and_assoc, exists_const, decide_eq_true_eq, Bool.not_eq_true', Bool.not_true, Bool.not_false, Bool.not_not, decide_eq_false_iff_not, ite_not, Bool.false_eq_true, if_true, if_false, reduceCtorEq, and_false, false_and, exists_false, or_false, false_or, ↓reduceIte, eq_self, reduceIte]
  cases r <;> first | (simp [rlKd] at hk; done) | skip
  obtain ⟨dx, a1, a2, h, O1, O2⟩ := O
  rename_i x y
  obtain ⟨ok1, ok2⟩ := ok
  have dd : max x.dp y.dp + 1 ≤ d + 1 := dp
  refine ⟨_, _, _, h, tt.cl, tt.n1, _, rfl, _, rfl, ?_⟩
  refine enough_byR O1 ok1 (show x.dp ≤ d by omega) en fun H1 S1 => ?_
  obtain ⟨b1, hb1⟩ : ∃ b1, enR x nn price own fs = b1 := ⟨_, rfl⟩
  rw [hb1]
  have eq : ∀ b2, enR y nn price own fs = b2 → enR (.so x y) nn price own fs = (b1 || b2) := fun b2 h2 => by rw [← hb1, ← h2]; rfl
  cases b1 with
  | true =>
    refine ⟨_, rfl, ?_⟩
    rw [if_pos rfl]
    have := q _ S1
    rw [eq _ rfl, Bool.true_or] at this
    exact this
  | false =>
    refine ⟨_, rfl, ?_⟩
    rw [if_neg (by decide)]
    refine ⟨_, _, _, S1 _ _ h, tt.cl, tt.n2, _, rfl, _, rfl, ?_⟩
    refine enough_byR (ObjR.same S1 O2) ok2 (show y.dp ≤ d by omega) (en.same S1) fun H2 S2 => ?_
    have := q _ (S1.trans S2)
    rw [eq _ rfl, Bool.false_or] at this
    exact this
theorem no_AllOf_enough {j : Nat} (F : Fun K "enough" "AllOf.enough" s_AllOf_enough f fd) : FnOk P w K mg base CX0 1 f fd ["self", "number", "price", "own", "foreign"] (spEnR K cs 0 j) := by
  refine F.ok (k := 0) sc_AllOf_enough (fun vs H Q E h => ?_) (fun cdv A outer s H vs Q E hr h => ?_)
  · obtain ⟨a, n, fl, r, nn, price, own, fx, fs, rfl, _⟩ := h
    rfl
  obtain ⟨a, n, fl, r, nn, price, own, fx, fs, rfl, hk, O, ok, dp, en, q⟩ := h
  have := Rl.dp_pos r
  omega
theorem no_OneOf_enough {j : Nat} (F : Fun K "enough" "OneOf.enough" s_OneOf_enough f fd) : FnOk P w K mg base CX0 1 f fd ["self", "number", "price", "own", "foreign"] (spEnR K cs 0 j) := by
  refine F.ok (k := 0) sc_OneOf_enough (fun vs H Q E h => ?_) (fun cdv A outer s H vs Q E hr h => ?_)
  · obtain ⟨a, n, fl, r, nn, price, own, fx, fs, rfl, _⟩ := h
    rfl
  obtain ⟨a, n, fl, r, nn, price, own, fx, fs, rfl, hk, O, ok, dp, en, q⟩ := h
  have := Rl.dp_pos r
  omega
end

def cellAt (ns : List Int) (k : Int) : Int := if k < (ns.length : Int) then ns.getD k.toNat 0 else 0
def spCellAt (K : PySem.W.Frag) : Sp := fun vs H Q _ => ∃ (a : Addr) (ns : List Int) (k : Int), vs = [.ref a, .int k] ∧ SqL K H a (ns.map V.int) ∧ 0 ≤ k ∧ Q (.int (cellAt ns k)) H
theorem spCellAt_of {K : PySem.W.Frag} {H : Hp} {a : Addr} {ns : List Int} {k : Int} {Q : VK} {E : XK} (h : SqL K H a (ns.map V.int)) (h0 : 0 ≤ k) (q : Q (.int (cellAt ns k)) H) : spCellAt K [.ref a, .int k] H Q E := ⟨a, ns, k, rfl, h, h0, q⟩
section
variable {P : Program} {w : World} {K : PySem.W.Frag} {mg : Str → Option Value} {base : Heap} {f : Addr} {fd : FuncData}
theorem ok_law_cell_at (F : Fun K "_law_cell_at" "_law_cell_at" s_law_cell_at f fd) (M : Mg mg) : FnOk P w K mg base CX0 1 f fd ["_law_script", "_law_k"] (spCellAt K) := by
  refine F.ok sc_law_cell_at (fun vs H Q E h => ?_) (fun cdv A outer s H vs Q E hr h => ?_)
  · obtain ⟨a, ns, k, rfl, _⟩ := h
    rfl
  obtain ⟨a, ns, k, rfl, hS, h0, q⟩ := h
  refine ⟨_, (@pss_cons _ _ _ _ _ (@ps_if _ _ _ _ _ _ _ _ (@pt_cmpR _ _ _ _ _ _ _ _ (@op_lt _) (@pe_var _ 1 _ _ rfl v_law_cell_at_1 dn__law_k dc__law_k) (@pe_callB _ _ _ _ _ _ _ _ _ call_len_seq g_law_cell_at_len M.m_len b_len (@pa_cons _ _ _ _ _ (@pe_var _ 0 _ _ rfl v_law_cell_at_0 dn__law_script dc__law_script) (@pa_nil _) (star1 rfl)) nn_len dn_len (star1 rfl) nost0) (nomark _)) (@pss_one _ _ _ (@ps_ret _ _ _ _ (@pe_ix _ _ _ _ _ _ _ (@ix_list _) (@pe_var _ 0 _ _ rfl v_law_cell_at_0 dn__law_script dc__law_script) (@pe_var _ 1 _ _ rfl v_law_cell_at_1 dn__law_k dc__law_k) (fun _ _ => rfl)))) (@pss_nil _)) (@pss_one _ _ _ (@ps_ret _ _ _ _ (@pe_int _ _ _ _)))), ?_⟩
  unfold cellAt at q
  simp only [tTurn, rTurnT, tTryS, rCountT, rPop, rRep, tCont, iZipT, tChain3, tFld, sFld, tMake, tMake0, tMethD, tBM0, rUpper, tDict1T, tTryN, rSlS, rMulS, rCatS, iZipL, rInsert, rReverse, tDNewX, tTry, tRaise, iEnumL, iEnumT, iZip, iSeq, iOr, rIx, iStr, rLeS, rJoin, rSlTA, tComp_eq, tComp1, slots, Option.getD_some, Option.getD_none, tYes, tSeq, tAsg, gName, tOp, tUn, tC, tVar, tCB, tCons, tNil, tCall, rI, rI0, rU, tRet, tRetN, tIfS, tTest, tB, tAnd, tOr, tNot, tAndV, tOrV, tNotV, tIf, tChain, tMenu, tPar, tDrop, tTup, tLst, tNext, tSl, tPart, tNoPart, tNever, gTup, gCons, gNil, gSub, rSetL, tBM, rAppend, rEq, rNe, rIsi, rIxL, rIxT, rIxS, rSlL, isi_non_bl, isi_non_int, isi_non_str, isi_non_lst, isi_non_tup, isi_bl_bl, isi_bl_int, isi_bl_str, isi_bl_lst, isi_bl_tup, isi_int_bl, isi_int_int, isi_int_str, isi_int_lst, isi_int_tup, isi_str_bl, isi_str_int, isi_str_str, isi_str_lst, isi_str_tup, isi_lst_bl, isi_lst_int, isi_lst_str, isi_lst_lst, isi_lst_tup, isi_tup_bl, isi_tup_int, isi_tup_str, isi_tup_lst, isi_tup_tup, isi_dct_bl, isi_dct_int, isi_dct_str, isi_dct_lst, isi_dct_tup, Kd_non, Kd_bl, Kd_int, Kd_str, sc_non_non, sc_non_int, sc_int_non, sc_non_bl, sc_bl_non, sc_non_str, sc_str_non, sc_int_int, sc_bl_bl, sc_str_str, sc_int_str, sc_str_int, sc_bl_str, sc_str_bl, decide_true, decide_false, tFor_eq, iList, iTup, iRng1, iRng2, iRng3, rIndexT, tBM0, tBMT, tyK_int, tyK_bool, tyK_str, tyK_list, tyK_tuple, L2.start, cxK, Int.reduceToNat, List.map_cons, List.map_nil, List.length_cons, List.length_nil, Nat.reduceAdd, Nat.reduceSub, Nat.zero_add, List.replicate_succ, List.replicate_zero, List.cons_append, List.nil_append, List.append_nil, List.getElem?_cons_zero, List.getElem?_cons_succ, List.set_cons_zero, List.set_cons_succ, Option.some.injEq, V.int.injEq, V.bl.injEq, V.ref.injEq, V.str.injEq, V.ty.injEq, List.cons.injEq, exists_eq_left', exists_eq_left, exists_eq_right, exists_and_left, exists_and_right, and_true, true_and, and_assoc, exists_const, decide_eq_true_eq, Bool.not_eq_true', Bool.not_true, Bool.not_false, Bool.not_not, decide_eq_false_iff_not, ite_not, Bool.false_eq_true, if_true, if_false, reduceCtorEq, and_false, false_and, exists_false, or_false, false_or, ↓reduceIte, eq_self, reduceIte]
  refine ⟨_, .inl hS, ?_⟩
  rw [List.length_map]
  by_cases hk : k < (ns.length : Int)
  · rw [if_pos hk]
    rw [if_pos hk] at q
    exact ⟨_, hS, _, atI_map h0 hk, q⟩
  · rw [if_neg hk]
    rw [if_neg hk] at q
    exact q
end

def spMix : Sp := fun vs H Q _ => ∃ c b, vs = [.int c, .int b] ∧ 0 ≤ b ∧ b ≤ 10 ^ 9 ∧ Q (.int (c % 1000003 * b % 999983)) H
def spNumber (K : PySem.W.Frag) : Sp := fun vs H Q _ => ∃ c, vs = [.int c] ∧ ∀ (p : Addr) (H' : Hp) (ns : List Int), Same H H' → SqT K H' p (ns.map V.int) → 1 ≤ ns.length → ns.length ≤ 4 → Q (.ref p) H'
def spGcd : Sp := fun vs H Q _ => ∃ a b, vs = [.int a, .int b] ∧ 0 ≤ a ∧ 0 ≤ b ∧ Q (.int (Mth.gcd a b)) H
def spPart (K : PySem.W.Frag) : Sp := fun vs H Q _ => ∃ c, vs = [.int c] ∧ ∀ (p : Addr) (H' : Hp) (t b : Int), Same H H' → SqT K H' p [.int t, .int b] → ShOk t b → Q (.ref p) H'
section
variable {P : Program} {w : World} {K : PySem.W.Frag} {mg : Str → Option Value} {base : Heap} {f : Addr} {fd : FuncData} {cs : RC}
theorem ok_law_mix (F : Fun K "_law_mix" "_law_mix" s_law_mix f fd) (M : Mg mg) : FnOk P w K mg base CX0 1 f fd ["_law_cell", "_law_by"] spMix := by
  refine F.ok sc_law_mix (fun vs H Q E h => ?_) (fun cdv A outer s H vs Q E hr h => ?_)
  · obtain ⟨c, b, rfl, _⟩ := h
    rfl
  obtain ⟨c, b, rfl, b0, b9, q⟩ := h
  refine ⟨_, (@pss_one _ _ _ (@ps_ret _ _ _ _ (@pe_op _ _ _ _ _ _ _ _ (@op_mod _) (@pe_op _ _ _ _ _ _ _ _ (@op_mulB _) (@pe_op _ _ _ _ _ _ _ _ (@op_mod _) (@pe_var _ 0 _ _ rfl v_law_mix_0 dn__law_cell dc__law_cell) (@pe_int _ _ _ _)) (@pe_var _ 1 _ _ rfl v_law_mix_1 dn__law_by dc__law_by)) (@pe_int _ _ _ _)))), ?_⟩
  simp only [tTurn, rTurnT, tTryS, rCountT, rPop, rRep, tCont, iZipT, tChain3, tFld, sFld, tMake, tMake0, tMethD, tBM0, rUpper, tDict1T, tTryN, rSlS, rMulS, rCatS, iZipL, rInsert, rReverse, tDNewX, tTry, tRaise, iEnumL, iEnumT, iZip, iSeq, iOr, rIx, iStr, rLeS, rJoin, rSlTA, tComp_eq, tComp1, slots, Option.getD_some, Option.getD_none, tYes, tSeq, tAsg, gName, tOp, tUn, tC, tVar, tCB, tCons, tNil, tCall, rI, rI0, rU, tRet, tRetN, tIfS, tTest, tB, tAnd, tOr, tNot, tAndV, tOrV, tNotV, tIf, tChain, tMenu, tPar, tDrop, tTup, tLst, tNext, tSl, tPart, tNoPart, tNever, gTup, gCons, gNil, gSub, rSetL, tBM, rAppend, rEq, rNe, rIsi, rIxL, rIxT, rIxS, rSlL, isi_non_bl, isi_non_int, isi_non_str, isi_non_lst, isi_non_tup, isi_bl_bl, isi_bl_int, isi_bl_str, isi_bl_lst, isi_bl_tup, isi_int_bl, isi_int_int, isi_int_str, isi_int_lst, isi_int_tup, isi_str_bl, isi_str_int, isi_str_str, isi_str_lst, isi_str_tup, isi_lst_bl, isi_lst_int, isi_lst_str, isi_lst_lst, isi_lst_tup, isi_tup_bl, isi_tup_int, isi_tup_str, isi_tup_lst, isi_tup_tup, isi_dct_bl, isi_dct_int, isi_dct_str, isi_dct_lst, isi_dct_tup, Kd_non, Kd_bl, Kd_int, Kd_str, sc_non_non, sc_non_int, sc_int_non, sc_non_bl, sc_bl_non, sc_non_str, sc_str_non, sc_int_int, sc_bl_bl, sc_str_str, sc_int_str, sc_str_int, sc_bl_str, sc_str_bl, decide_true, decide_false, tFor_eq, iList, iTup, iRng1, iRng2, iRng3, rIndexT, tBM0, tBMT, tyK_int, tyK_bool, tyK_str, tyK_list, tyK_tuple, L2.start, cxK, Int.reduceToNat, List.map_cons, List.map_nil, List.length_cons, List.length_nil, Nat.reduceAdd, Nat.reduceSub, Nat.zero_add, List.replicate_succ, List.replicate_zero, List.cons_append, List.nil_append, List.append_nil, List.getElem?_cons_zero, List.getElem?_cons_succ, List.set_cons_zero, List.set_cons_succ, Option.some.injEq, V.int.injEq, V.bl.injEq, V.ref.injEq, V.str.injEq, V.ty.injEq, List.cons.injEq, exists_eq_left', exists_eq_left, exists_eq_right, exists_and_left, exists_and_right, and_true, true_and, and_assoc, exists_const, decide_eq_true_eq, Bool.not_eq_true', Bool.not_true, Bool.not_false, Bool.not_not, decide_eq_false_iff_not, ite_not, Bool.false_eq_true, if_true, if_false, reduceCtorEq, and_false, false_and, exists_false, or_false, false_or, ↓reduceIte, eq_self, reduceIte]
  have e62 : (10 : Int) ^ 9 ≤ 10 ^ 61 := by decide
  have e63 : (1000003 : Int) ≤ 10 ^ 61 := by decide
  exact ⟨by decide, cmul (by omega) (by omega) (by omega) (by omega), by decide, q⟩
theorem ok_law_number (F : Fun K "_law_number" "_law_number" s_law_number f fd) (M : Mg mg) (C_law_mix : Cal P w K mg base CX0 "_law_mix" 1 ["_law_cell", "_law_by"] spMix) : FnOk P w K mg base CX0 2 f fd ["_law_cell"] (spNumber K) := by
  refine F.ok sc_law_number (fun vs H Q E h => ?_) (fun cdv A outer s H vs Q E hr h => ?_)
  · obtain ⟨c, rfl, _⟩ := h
    rfl
  obtain ⟨c, rfl, q⟩ := h
  refine ⟨_, (@pss_cons _ _ _ _ _ (@ps_set _ _ 1 _ _ _ _ sc_law_number.nd rfl l_law_number_1 (@pe_op _ _ _ _ _ _ _ _ (@op_add _) (@pe_int _ _ _ _) (@pe_op _ _ _ _ _ _ _ _ (@op_mod _) (@pe_var _ 0 _ _ rfl v_law_number_0 dn__law_cell dc__law_cell) (@pe_int _ _ _ _))) (swap1 rfl) (.inl rfl)) (@pss_cons _ _ _ _ _ (@ps_set _ _ 2 _ _ _ _ sc_law_number.nd rfl l_law_number_2 (@pe_menu _ _ _ _ _ _ _ (@pa_cons _ _ _ _ _ (@pe_int _ _ _ _) (@pa_cons _ _ _ _ _ (@pe_int _ _ _ _) (@pa_cons _ _ _ _ _ (@pe_int _ _ _ _) (@pa_cons _ _ _ _ _ (@pe_int _ _ _ _) (@pa_nil _) (star1 rfl)) (star1 rfl)) (star1 rfl)) (star1 rfl)) (@pe_op _ _ _ _ _ _ _ _ (@op_mod _) (@pe_op _ _ _ _ _ _ _ _ (@op_fdivB _) (@pe_var _ 0 _ _ rfl v_law_number_0 dn__law_cell dc__law_cell) (@pe_int _ _ _ _)) (@pe_int _ _ _ _)) (fun _ _ => rfl)) (swap1 rfl) (.inl rfl)) (@pss_cons _ _ _ _ _ (@ps_set _ _ 3 _ _ _ _ sc_law_number.nd rfl l_law_number_3 (@pe_lst _ _ _ _ (@pa_cons _ _ _ _ _ (@pe_int _ _ _ _) (@pa_cons _ _ _ _ _ (@pe_int _ _ _ _) (@pa_cons _ _ _ _ _ (@pe_int _ _ _ _) (@pa_cons _ _ _ _ _ (@pe_int _ _ _ _) (@pa_nil _) (star1 rfl)) (star1 rfl)) (star1 rfl)) (star1 rfl))) (swap1 rfl) (.inl rfl)) (@pss_one _ _ _ (@ps_ret _ _ _ _ (@pe_callTy _ _ _ _ _ _ _ _ _ call_tuple_of g_law_number_tuple M.m_tuple b_tuple (@pa_cons _ _ _ _ _ (@pe_comp _ _ _ _ _ _ _ _ _ _ _ _ _ _ _ rfl (CompOk.make (N' := ["_law_wide", "_law_by", "_law_cell", "_law_k"]) (ix := [2, 3, 0]) (nl := 1) (by rfl) (fm1 rfl (fm1 rfl (fm1 rfl fm0))) (by rfl) (by decide +kernel) rfl (by decide +kernel) rfl (And.intro ⟨rfl, .inl rfl, .inl rfl⟩ (And.intro ⟨rfl, .inl rfl, .inl rfl⟩ (And.intro ⟨rfl, .inl rfl, .inl rfl⟩ True.intro)))) (@pi_range1 _ _ _ _ _ _ g_law_number_range M.m_range (@pa_cons _ _ _ _ _ (@pe_var _ 1 _ _ rfl v_law_number_1 dn__law_size dc__law_size) (@pa_nil _) (star1 rfl)) (star1' rfl)) (fun _ _ _ _ _ => (@pg_name _ _ 3 _ (show List.Nodup (["_law_wide", "_law_by", "_law_cell", "_law_k"] : List Str) from by decide) rfl (Or.inl rfl) (by first | exact .inl rfl | exact .inr rfl | assumption))) (fun _ _ _ _ _ => (@pif_nil _)) (fun _ _ _ _ _ => (@pe_op _ _ _ _ _ _ _ _ (@op_add _) (@pe_int _ _ _ _) (@pe_op _ _ _ _ _ _ _ _ (@op_mod _) (@pe_callC _ _ _ _ _ _ _ _ _ _ _ C_law_mix hr rfl (@pa_cons _ _ _ _ _ (@pe_op _ _ _ _ _ _ _ _ (@op_add _) (@pe_op _ _ _ _ _ _ _ _ (@op_fdivB _) (@pv _ 2 _ _ (by rfl) (by first | exact Or.inl rfl | exact Or.inr (Or.inl rfl) | exact Or.inr (Or.inr rfl)) (by decide) (by decide)) (@pe_int _ _ _ _)) (@pe_op _ _ _ _ _ _ _ _ (@op_mulB _) (@pe_int _ _ _ _) (@pv _ 3 _ _ (by rfl) (by first | exact Or.inl rfl | exact Or.inr (Or.inl rfl) | exact Or.inr (Or.inr rfl)) (by decide) (by decide)))) (@pa_cons _ _ _ _ _ (@pe_ix _ _ _ _ _ _ _ (@ix_listK _ K rfl) (@pv _ 1 _ _ (by rfl) (by first | exact Or.inl rfl | exact Or.inr (Or.inl rfl) | exact Or.inr (Or.inr rfl)) (by decide) (by decide)) (@pv _ 3 _ _ (by rfl) (by first | exact Or.inl rfl | exact Or.inr (Or.inl rfl) | exact Or.inr (Or.inr rfl)) (by decide) (by decide)) (fun _ _ => rfl)) (@pa_nil _) (star1 rfl)) (star1 rfl)) (by decide) dn__law_mix (star1 rfl) (nost1 rfl nost0)) (@pv _ 0 _ _ (by rfl) (by first | exact Or.inl rfl | exact Or.inr (Or.inl rfl) | exact Or.inr (Or.inr rfl)) (by decide) (by decide))))) (by intro _; rfl)) (@pa_nil _) (star1 rfl)) nn_tuple dn_tuple (star1 rfl) nost0)))))), ?_⟩
  simp only [tTurn, rTurnT, tTryS, rCountT, rPop, rRep, tCont, iZipT, tChain3, tFld, sFld, tMake, tMake0, tMethD, tBM0, rUpper, tDict1T, tTryN, rSlS, rMulS, rCatS, iZipL, rInsert, rReverse, tDNewX, tTry, tRaise, iEnumL, iEnumT, iZip, iSeq, iOr, rIx, iStr, rLeS, rJoin, rSlTA, tComp_eq, tComp1, slots, Option.getD_some, Option.getD_none, tYes, tSeq, tAsg, gName, tOp, tUn, tC, tVar, tCB, tCons, tNil, tCall, rI, rI0, rU, tRet, tRetN, tIfS, tTest, tB, tAnd, tOr, tNot, tAndV, tOrV, tNotV, tIf, tChain, tMenu, tPar, tDrop, tTup, tLst, tNext, tSl, tPart, tNoPart, tNever, gTup, gCons, gNil, gSub, rSetL, tBM, rAppend, rEq, rNe, rIsi, rIxL, rIxT, rIxS, rSlL, isi_non_bl, isi_non_int, isi_non_str, isi_non_lst, isi_non_tup, isi_bl_bl, isi_bl_int, isi_bl_str, isi_bl_lst, isi_bl_tup, isi_int_bl, isi_int_int, isi_int_str, isi_int_lst, isi_int_tup, isi_str_bl, isi_str_int, isi_str_str, isi_str_lst, isi_str_tup, isi_lst_bl, isi_lst_int, isi_lst_str, isi_lst_lst, isi_lst_tup, isi_tup_bl, isi_tup_int, isi_tup_str, isi_tup_lst, isi_tup_tup, isi_dct_bl, isi_dct_int, isi_dct_str, isi_dct_lst, isi_dct_tup, Kd_non, Kd_bl, Kd_int, Kd_str, sc_non_non, sc_non_int, sc_int_non, sc_non_bl, sc_bl_non, sc_non_str, sc_str_non, sc_int_int, sc_bl_bl, sc_str_str, sc_int_str, sc_str_int, sc_bl_str, sc_str_bl, decide_true, decide_false, tFor_eq, iList, iTup, iRng1, iRng2, iRng3, rIndexT, tBM0, tBMT, tyK_int, tyK_bool, tyK_str, tyK_list, tyK_tuple, L2.start, cxK, Int.reduceToNat, List.map_cons, List.map_nil, List.length_cons, List.length_nil, Nat.reduceAdd, Nat.reduceSub, Nat.zero_add, List.replicate_succ, List.replicate_zero, List.cons_append, List.nil_append, List.append_nil, List.getElem?_cons_zero, List.getElem?_cons_succ, List.set_cons_zero, List.set_cons_succ, Option.some.injEq, V.int.injEq, V.bl.injEq, V.ref.injEq, V.str.injEq, V.ty.injEq, List.cons.injEq, exists_eq_left', exists_eq_left, exists_eq_right, exists_and_left, exists_and_right, and_true, true_and, and_assoc, exists_const, decide_eq_true_eq, Bool.not_eq_true', Bool.not_true, Bool.not_false, Bool.not_not, decide_eq_false_iff_not, ite_not, Bool.false_eq_true, if_true, if_false, reduceCtorEq, and_false, false_and, exists_false, or_false, false_or, ↓reduceIte, eq_self, reduceIte]
  obtain ⟨wv, hwv, wpos⟩ : ∃ wv : Int, [V.int 2, V.int 2, V.int 3, V.int 99][(c / 4 % 4).toNat]? = some (.int wv) ∧ 0 < wv := by
    have : c / 4 % 4 = 0 ∨ c / 4 % 4 = 1 ∨ c / 4 % 4 = 2 ∨ c / 4 % 4 = 3 := by omega
    rcases this with e | e | e | e <;> rw [e]
    · exact ⟨2, rfl, by decide⟩
    · exact ⟨2, rfl, by decide⟩
    · exact ⟨3, rfl, by decide⟩
    · exact ⟨99, rfl, by decide⟩
  refine ⟨by decide, by decide, cdiv (by decide) (by decide), by decide, by omega, _, hwv, by decide, fun bl hbl => ?_⟩
  obtain ⟨H1, g1, S1, LB⟩ := fresh_lst (K := K) hbl [V.int 48271, V.int 69621, V.int 16807, V.int 39373]
  rw [← g1]
  clear g1
  refine ⟨by omega, by omega, fun D hD => ?_⟩
  obtain ⟨n, hn, n1, n4⟩ : ∃ n : Nat, (1 + c % 4).toNat = n ∧ 1 ≤ n ∧ n ≤ 4 := ⟨_, rfl, by omega, by omega⟩
  rw [hn]
  obtain ⟨Pc, hC⟩ : ∃ Pc : Nat → St → Hp → Prop, Pc = fun i τ H' => ∃ (z : Option V) (ns : List Int), H' D = some (.lst (ns.map V.int)) ∧ ns.length = i ∧ Same H1 H' ∧ τ = [some (.int wv), some (.ref bl), some (.int c), z] := ⟨_, rfl⟩
  refine compS_range Pc ?_ ?_ ?_
  · rw [hC]
    exact ⟨_, [], upd_same, rfl, same_new hD _, rfl⟩
  · intro i τ H' R' hi h next
    rw [hC] at h
    obtain ⟨z, ns, d1, ln, d2, rfl⟩ := h
    obtain ⟨bv, hbv, b0, b9⟩ : ∃ bv : Int, [V.int 48271, V.int 69621, V.int 16807, V.int 39373][i]? = some (.int bv) ∧ 0 ≤ bv ∧ bv ≤ 10 ^ 9 := by
      have : i = 0 ∨ i = 1 ∨ i = 2 ∨ i = 3 := by omega
      rcases this with e | e | e | e <;> subst e
      · exact ⟨48271, rfl, by decide, by decide⟩
      · exact ⟨69621, rfl, by decide, by decide⟩
      · exact ⟨16807, rfl, by decide, by decide⟩
      · exact ⟨39373, rfl, by decide, by decide⟩
    simp only [tTurn, rTurnT, tTryS, rCountT, rPop, rRep, tCont, iZipT, tChain3, tFld, sFld, tMake, tMake0, tMethD, tBM0, rUpper, tDict1T, tTryN, rSlS, rMulS, rCatS, iZipL, rInsert, rReverse, tDNewX, tTry, tRaise, iEnumL, iEnumT, iZip, iSeq, iOr, rIx, iStr, rLeS, rJoin, rSlTA, tComp_eq, tComp1, slots, Option.getD_some, Option.getD_none, tYes, tSeq, tAsg, gName, tOp, tUn, tC, tVar, tCB, tCons, tNil, tCall, rI, rI0, rU, tRet, tRetN, tIfS, tTest, tB, tAnd, tOr, tNot, tAndV, tOrV, tNotV, tIf, tChain, tMenu, tPar, tDrop, tTup, tLst, tNext, tSl, tPart, tNoPart, tNever, gTup, gCons, gNil, gSub, rSetL, tBM, rAppend, rEq, rNe, rIsi, rIxL, rIxT, rIxS, rSlL, isi_non_bl, isi_non_int, isi_non_str, isi_non_lst, isi_non_tup, isi_bl_bl, isi_bl_int, isi_bl_str, isi_bl_lst, isi_bl_tup, isi_int_bl, isi_int_int, isi_int_str, isi_int_lst, isi_int_tup, isi_str_bl, isi_str_int, isi_str_str, isi_str_lst, isi_str_tup, isi_lst_bl, isi_lst_int, isi_lst_str, isi_lst_lst, isi_lst_tup, isi_tup_bl, isi_tup_int, isi_tup_str, isi_tup_lst, isi_tup_tup, isi_dct_bl, isi_dct_int, isi_dct_str, isi_dct_lst, isi_dct_tup, Kd_non, Kd_bl, Kd_int, Kd_str, sc_non_non, sc_non_int, sc_int_non, sc_non_bl, sc_bl_non, sc_non_str, sc_str_non, sc_int_int, sc_bl_bl, sc_str_str, sc_int_str, sc_str_int, sc_bl_str, sc_str_bl, decide_true, decide_false, tFor_eq, iList, iTup, iRng1, iRng2, iRng3, rIndexT, tBM0, tBMT, tyK_int, tyK_bool, tyK_str, tyK_list, tyK_tuple, L2.start, cxK, Int.reduceToNat, List.map_cons, List.map_nil, List.length_cons, List.length_nil, Nat.reduceAdd, Nat.reduceSub, Nat.zero_add, List.replicate_succ, List.replicate_zero, List.cons_append, List.nil_append, List.append_nil, List.getElem?_cons_zero, List.getElem?_cons_succ, List.set_cons_zero, List.set_cons_succ, Option.some.injEq, V.int.injEq, V.bl.injEq, V.ref.injEq, V.str.injEq, V.ty.injEq, List.cons.injEq, exists_eq_left', exists_eq_left, exists_eq_right, exists_and_left, exists_and_right, and_true, true_and, and_assoc, exists_const, decide_eq_true_eq, Bool.not_eq_true', Bool.not_true, Bool.not_false, Bool.not_not, decide_eq_false_iff_not, ite_not, Bool.false_eq_true, if_true, if_false, reduceCtorEq, and_false, false_and, exists_false, or_false, false_or, ↓reduceIte, eq_self, reduceIte]
    have e61 : (4 : Int) ≤ 10 ^ 61 := by decide
    refine ⟨cdiv (by decide) (by decide), cmul (by decide) (by decide) (by omega) (by omega), _, d2.seq LB, _, (by rw [Int.zero_add]; exact atI_nat hbv), _, _, rfl, b0, b9, _, rfl, wpos, _, d1, ?_, next _ _ ?_⟩
    · rw [List.length_map]
      exact Nat.lt_of_lt_of_le (m := 64) (by omega) (by decide)
    · rw [hC]
      refine ⟨_, ns ++ [1 + (c / 16 + 5 * (0 + (i : Int))) % 1000003 * bv % 999983 % wv], ?_, by rw [List.length_append, ln]; rfl, same_upd d2 hD _, rfl⟩
      rw [upd_same, List.map_append]
      rfl
  intro τ H2 h
  rw [hC] at h
  obtain ⟨z, ns, d1, ln, d2, rfl⟩ := h
  refine ⟨_, rfl, _, .inl ⟨SqL.of d1, fun p hp => q _ _ ns (S1.trans (d2.trans (same_new hp _))) (SqT.of upd_same) (by omega) (by omega)⟩⟩
theorem ok_law_common (F : Fun K "_law_common" "_law_common" s_law_common f fd) (M : Mg mg) : FnOk P w K mg base CX0 1 f fd ["_law_one", "_law_other"] spGcd := by
  refine F.ok sc_law_common (fun vs H Q E h => ?_) (fun cdv A outer s H vs Q E hr h => ?_)
  · obtain ⟨a, b, rfl, _⟩ := h
    rfl
  obtain ⟨a, b, rfl, a0, b0, q⟩ := h
  refine ⟨_, (@pss_cons _ _ _ _ _ (@ps_while _ _ _ _ _ _ PassesOwn.never (@pt_cmpR _ _ _ _ _ _ _ _ (@op_gt _) (@pe_var _ 1 _ _ rfl v_law_common_1 dn__law_other dc__law_other) (@pe_int _ _ _ _) (nomark _)) (@pss_cons _ _ _ _ _ (@ps_set _ _ 2 _ _ _ _ sc_law_common.nd rfl l_law_common_2 (@pe_op _ _ _ _ _ _ _ _ (@op_mod _) (@pe_var _ 0 _ _ rfl v_law_common_0 dn__law_one dc__law_one) (@pe_var _ 1 _ _ rfl v_law_common_1 dn__law_other dc__law_other)) (swap1 rfl) (.inl rfl)) (@pss_cons _ _ _ _ _ (@ps_set _ _ 0 _ _ _ _ sc_law_common.nd rfl l_law_common_0 (@pe_var _ 1 _ _ rfl v_law_common_1 dn__law_other dc__law_other) (swap1 rfl) (.inl rfl)) (@pss_one _ _ _ (@ps_set _ _ 1 _ _ _ _ sc_law_common.nd rfl l_law_common_1 (@pe_var _ 2 _ _ rfl v_law_common_2 dn__law_rest dc__law_rest) (swap1 rfl) (.inl rfl)))))) (@pss_one _ _ _ (@ps_ret _ _ _ _ (@pe_var _ 0 _ _ rfl v_law_common_0 dn__law_one dc__law_one)))), ?_⟩
  simp only [tTurn, rTurnT, tTryS, rCountT, rPop, rRep, tCont, iZipT, tChain3, tFld, sFld, tMake, tMake0, tMethD, tBM0, rUpper, tDict1T, tTryN, rSlS, rMulS, rCatS, iZipL, rInsert, rReverse, tDNewX, tTry, tRaise, iEnumL, iEnumT, iZip, iSeq, iOr, rIx, iStr, rLeS, rJoin, rSlTA, tComp_eq, tComp1, slots, Option.getD_some, Option.getD_none, tYes, tSeq, tAsg, gName, tOp, tUn, tC, tVar, tCB, tCons, tNil, tCall, rI, rI0, rU, tRet, tRetN, tIfS, tTest, tB, tAnd, tOr, tNot, tAndV, tOrV, tNotV, tIf, tChain, tMenu, tPar, tDrop, tTup, tLst, tNext, tSl, tPart, tNoPart, tNever, gTup, gCons, gNil, gSub, rSetL, tBM, rAppend, rEq, rNe, rIsi, rIxL, rIxT, rIxS, rSlL, isi_non_bl, isi_non_int, isi_non_str, isi_non_lst, isi_non_tup, isi_bl_bl, isi_bl_int, isi_bl_str, isi_bl_lst, isi_bl_tup, isi_int_bl, isi_int_int, isi_int_str, isi_int_lst, isi_int_tup, isi_str_bl, isi_str_int, isi_str_str, isi_str_lst, isi_str_tup, isi_lst_bl, isi_lst_int, isi_lst_str, isi_lst_lst, isi_lst_tup, isi_tup_bl, isi_tup_int, isi_tup_str, isi_tup_lst, isi_tup_tup, isi_dct_bl, isi_dct_int, isi_dct_str, isi_dct_lst, isi_dct_tup, Kd_non, Kd_bl, Kd_int, Kd_str, sc_non_non, sc_non_int, sc_int_non, sc_non_bl, sc_bl_non, sc_non_str, sc_str_non, sc_int_int, sc_bl_bl, sc_str_str, sc_int_str, sc_str_int, sc_bl_str, sc_str_bl, decide_true, decide_false, tFor_eq, iList, iTup, iRng1, iRng2, iRng3, rIndexT, tBM0, tBMT, tyK_int, tyK_bool, tyK_str, tyK_list, tyK_tuple, L2.start, cxK, Int.reduceToNat, List.map_cons, List.map_nil, List.length_cons, List.length_nil, Nat.reduceAdd, Nat.reduceSub, Nat.zero_add, List.replicate_succ, List.replicate_zero, List.cons_append, List.nil_append, List.append_nil, List.getElem?_cons_zero, List.getElem?_cons_succ, List.set_cons_zero, List.set_cons_succ, Option.some.injEq, V.int.injEq, V.bl.injEq, V.ref.injEq, V.str.injEq, V.ty.injEq, List.cons.injEq, exists_eq_left', exists_eq_left, exists_eq_right, exists_and_left, exists_and_right, and_true, true_and, and_assoc, exists_const, decide_eq_true_eq, Bool.not_eq_true', Bool.not_true, Bool.not_false, Bool.not_not, decide_eq_false_iff_not, ite_not, Bool.false_eq_true, if_true, if_false, reduceCtorEq, and_false, false_and, exists_false, or_false, false_or, ↓reduceIte, eq_self, reduceIte]
  refine ⟨fun m σ H' => H' = H ∧ ∃ l t r, σ = [some (.int l), some (.int t), r] ∧ 0 ≤ l ∧ 0 ≤ t ∧ t.toNat = m ∧ Mth.gcd l t = Mth.gcd a b, ⟨_, rfl, _, _, _, rfl, a0, b0, rfl, rfl⟩, ?_⟩
  rintro m σ H' ⟨rfl, l, t, r, rfl, hl, ht, rfl, hg⟩
  simp only [tTurn, rTurnT, tTryS, rCountT, rPop, rRep, tCont, iZipT, tChain3, tFld, sFld, tMake, tMake0, tMethD, tBM0, rUpper, tDict1T, tTryN, rSlS, rMulS, rCatS, iZipL, rInsert, rReverse, tDNewX, tTry, tRaise, iEnumL, iEnumT, iZip, iSeq, iOr, rIx, iStr, rLeS, rJoin, rSlTA, tComp_eq, tComp1, slots, Option.getD_some, Option.getD_none, tYes, tSeq, tAsg, gName, tOp, tUn, tC, tVar, tCB, tCons, tNil, tCall, rI, rI0, rU, tRet, tRetN, tIfS, tTest, tB, tAnd, tOr, tNot, tAndV, tOrV, tNotV, tIf, tChain, tMenu, tPar, tDrop, tTup, tLst, tNext, tSl, tPart, tNoPart, tNever, gTup, gCons, gNil, gSub, rSetL, tBM, rAppend, rEq, rNe, rIsi, rIxL, rIxT, rIxS, rSlL, isi_non_bl, isi_non_int, isi_non_str, isi_non_lst, isi_non_tup, isi_bl_bl, isi_bl_int, isi_bl_str, isi_bl_lst, isi_bl_tup, isi_int_bl, isi_int_int, isi_int_str, isi_int_lst, isi_int_tup, isi_str_bl, isi_str_int, isi_str_str, isi_str_lst, isi_str_tup, isi_lst_bl, isi_lst_int, isi_lst_str, isi_lst_lst, isi_lst_tup, isi_tup_bl, isi_tup_int, isi_tup_str, isi_tup_lst, isi_tup_tup, isi_dct_bl, isi_dct_int, isi_dct_str, isi_dct_lst, isi_dct_tup, Kd_non, Kd_bl, Kd_int, Kd_str, sc_non_non, sc_non_int, sc_int_non, sc_non_bl, sc_bl_non, sc_non_str, sc_str_non, sc_int_int, sc_bl_bl, sc_str_str, sc_int_str, sc_str_int, sc_bl_str, sc_str_bl, decide_true, decide_false, tFor_eq, iList, iTup, iRng1, iRng2, iRng3, rIndexT, tBM0, tBMT, tyK_int, tyK_bool, tyK_str, tyK_list, tyK_tuple, L2.start, cxK, Int.reduceToNat, List.map_cons, List.map_nil, List.length_cons, List.length_nil, Nat.reduceAdd, Nat.reduceSub, Nat.zero_add, List.replicate_succ, List.replicate_zero, List.cons_append, List.nil_append, List.append_nil, List.getElem?_cons_zero, List.getElem?_cons_succ, List.set_cons_zero, List.set_cons_succ, Option.some.injEq, V.int.injEq, V.bl.injEq, V.ref.injEq, V.str.injEq, V.ty.injEq, List.cons.injEq, exists_eq_left', exists_eq_left, exists_eq_right, exists_and_left, exists_and_right, and_true, true_and, and_assoc, exists_const, decide_eq_true_eq, Bool.not_eq_true', Bool.not_true, Bool.not_false, Bool.not_not, decide_eq_false_iff_not, ite_not, Bool.false_eq_true, if_true, if_false, reduceCtorEq, and_false, false_and, exists_false, or_false, false_or, ↓reduceIte, eq_self, reduceIte]
  by_cases tp : 0 < t
  · rw [if_pos tp]
    have m0 := Int.emod_nonneg l (show t ≠ 0 by omega)
    have m1 := Int.emod_lt_of_pos l tp
    exact ⟨_, fun _ _ h => h, tp, (l % t).toNat, by omega, rfl, t, l % t, ⟨_, rfl⟩, by omega, m0, rfl, by rw [Mth.gcd_step hl tp]; exact hg⟩
  · rw [if_neg tp]
    have e : t = 0 := by omega
    subst e
    rw [Mth.gcd_zero hl] at hg
    rw [hg]
    exact q
theorem ok_law_part (F : Fun K "_law_part" "_law_part" s_law_part f fd) (M : Mg mg) (C_law_mix : Cal P w K mg base CX0 "_law_mix" 1 ["_law_cell", "_law_by"] spMix) (C_law_common : Cal P w K mg base CX0 "_law_common" 1 ["_law_one", "_law_other"] spGcd) : FnOk P w K mg base CX0 2 f fd ["_law_cell"] (spPart K) := by
  refine F.ok sc_law_part (fun vs H Q E h => ?_) (fun cdv A outer s H vs Q E hr h => ?_)
  · obtain ⟨c, rfl, _⟩ := h
    rfl
  obtain ⟨c, rfl, q⟩ := h
  refine ⟨_, (@pss_cons _ _ _ _ _ (@ps_set _ _ 1 _ _ _ _ sc_law_part.nd rfl l_law_part_1 (@pe_op _ _ _ _ _ _ _ _ (@op_add _) (@pe_int _ _ _ _) (@pe_op _ _ _ _ _ _ _ _ (@op_mod _) (@pe_op _ _ _ _ _ _ _ _ (@op_fdivB _) (@pe_var _ 0 _ _ rfl v_law_part_0 dn__law_cell dc__law_cell) (@pe_int _ _ _ _)) (@pe_menu _ _ _ _ _ _ _ (@pa_cons _ _ _ _ _ (@pe_int _ _ _ _) (@pa_cons _ _ _ _ _ (@pe_int _ _ _ _) (@pa_cons _ _ _ _ _ (@pe_int _ _ _ _) (@pa_cons _ _ _ _ _ (@pe_op _ _ _ _ _ _ _ _ (@op_pow _) (@pe_int _ _ _ _) (@pe_int _ _ _ _)) (@pa_nil _) (star1 rfl)) (star1 rfl)) (star1 rfl)) (star1 rfl)) (@pe_op _ _ _ _ _ _ _ _ (@op_mod _) (@pe_var _ 0 _ _ rfl v_law_part_0 dn__law_cell dc__law_cell) (@pe_int _ _ _ _)) (fun _ _ => rfl)))) (swap1 rfl) (.inl rfl)) (@pss_cons _ _ _ _ _ (@ps_set _ _ 2 _ _ _ _ sc_law_part.nd rfl l_law_part_2 (@pe_op _ _ _ _ _ _ _ _ (@op_mod _) (@pe_op _ _ _ _ _ _ _ _ (@op_mulB _) (@pe_callC _ _ _ _ _ _ _ _ _ _ _ C_law_mix hr g_law_part__law_mix (@pa_cons _ _ _ _ _ (@pe_op _ _ _ _ _ _ _ _ (@op_fdivB _) (@pe_var _ 0 _ _ rfl v_law_part_0 dn__law_cell dc__law_cell) (@pe_int _ _ _ _)) (@pa_cons _ _ _ _ _ (@pe_int _ _ _ _) (@pa_nil _) (star1 rfl)) (star1 rfl)) (by decide) dn__law_mix (star1 rfl) (nost1 rfl nost0)) (@pe_int _ _ _ _)) (@pe_op _ _ _ _ _ _ _ _ (@op_add _) (@pe_var _ 1 _ _ rfl v_law_part_1 dn__law_bottom dc__law_bottom) (@pe_int _ _ _ _))) (swap1 rfl) (.inl rfl)) (@pss_cons _ _ _ _ _ (@ps_set _ _ 3 _ _ _ _ sc_law_part.nd rfl l_law_part_3 (@pe_callC _ _ _ _ _ _ _ _ _ _ _ C_law_common hr g_law_part__law_common (@pa_cons _ _ _ _ _ (@pe_var _ 2 _ _ rfl v_law_part_2 dn__law_top dc__law_top) (@pa_cons _ _ _ _ _ (@pe_var _ 1 _ _ rfl v_law_part_1 dn__law_bottom dc__law_bottom) (@pa_nil _) (star1 rfl)) (star1 rfl)) (by decide) dn__law_common (star1 rfl) (nost1 rfl nost0)) (swap1 rfl) (.inl rfl)) (@pss_one _ _ _ (@ps_ret _ _ _ _ (@pe_tup _ _ _ _ _ (@pa_cons _ _ _ _ _ (@pe_op _ _ _ _ _ _ _ _ (@op_fdivB _) (@pe_var _ 2 _ _ rfl v_law_part_2 dn__law_top dc__law_top) (@pe_var _ 3 _ _ rfl v_law_part_3 dn__law_by dc__law_by)) (@pa_cons _ _ _ _ _ (@pe_op _ _ _ _ _ _ _ _ (@op_fdivB _) (@pe_var _ 1 _ _ rfl v_law_part_1 dn__law_bottom dc__law_bottom) (@pe_var _ 3 _ _ rfl v_law_part_3 dn__law_by dc__law_by)) (@pa_nil _) (star1 rfl)) (star1 rfl)))))))), ?_⟩
  simp only [tTurn, rTurnT, tTryS, rCountT, rPop, rRep, tCont, iZipT, tChain3, tFld, sFld, tMake, tMake0, tMethD, tBM0, rUpper, tDict1T, tTryN, rSlS, rMulS, rCatS, iZipL, rInsert, rReverse, tDNewX, tTry, tRaise, iEnumL, iEnumT, iZip, iSeq, iOr, rIx, iStr, rLeS, rJoin, rSlTA, tComp_eq, tComp1, slots, Option.getD_some, Option.getD_none, tYes, tSeq, tAsg, gName, tOp, tUn, tC, tVar, tCB, tCons, tNil, tCall, rI, rI0, rU, tRet, tRetN, tIfS, tTest, tB, tAnd, tOr, tNot, tAndV, tOrV, tNotV, tIf, tChain, tMenu, tPar, tDrop, tTup, tLst, tNext, tSl, tPart, tNoPart, tNever, gTup, gCons, gNil, gSub, rSetL, tBM, rAppend, rEq, rNe, rIsi, rIxL, rIxT, rIxS, rSlL, isi_non_bl, isi_non_int, isi_non_str, isi_non_lst, isi_non_tup, isi_bl_bl, isi_bl_int, isi_bl_str, isi_bl_lst, isi_bl_tup, isi_int_bl, isi_int_int, isi_int_str, isi_int_lst, isi_int_tup, isi_str_bl, isi_str_int, isi_str_str, isi_str_lst, isi_str_tup, isi_lst_bl, isi_lst_int, isi_lst_str, isi_lst_lst, isi_lst_tup, isi_tup_bl, isi_tup_int, isi_tup_str, isi_tup_lst, isi_tup_tup, isi_dct_bl, isi_dct_int, isi_dct_str, isi_dct_lst, isi_dct_tup, Kd_non, Kd_bl, Kd_int, Kd_str, sc_non_non, sc_non_int, sc_int_non, sc_non_bl, sc_bl_non, sc_non_str, sc_str_non, sc_int_int, sc_bl_bl, sc_str_str, sc_int_str, sc_str_int, sc_bl_str, sc_str_bl, decide_true, decide_false, tFor_eq, iList, iTup, iRng1, iRng2, iRng3, rIndexT, tBM0, tBMT, tyK_int, tyK_bool, tyK_str, tyK_list, tyK_tuple, L2.start, cxK, Int.reduceToNat, List.map_cons, List.map_nil, List.length_cons, List.length_nil, Nat.reduceAdd, Nat.reduceSub, Nat.zero_add, List.replicate_succ, List.replicate_zero, List.cons_append, List.nil_append, List.append_nil, List.getElem?_cons_zero, List.getElem?_cons_succ, List.set_cons_zero, List.set_cons_succ, Option.some.injEq, V.int.injEq, V.bl.injEq, V.ref.injEq, V.str.injEq, V.ty.injEq, List.cons.injEq, exists_eq_left', exists_eq_left, exists_eq_right, exists_and_left, exists_and_right, and_true, true_and, and_assoc, exists_const, decide_eq_true_eq, Bool.not_eq_true', Bool.not_true, Bool.not_false, Bool.not_not, decide_eq_false_iff_not, ite_not, Bool.false_eq_true, if_true, if_false, reduceCtorEq, and_false, false_and, exists_false, or_false, false_or, ↓reduceIte, eq_self, reduceIte]
  have e9 : (10 : Int) ^ 9 = 1000000000 := by decide
  obtain ⟨mv, hmv, m1, m9⟩ : ∃ mv : Int, [V.int 1, V.int 4, V.int 100, V.int (10 ^ 9)][(c % 4).toNat]? = some (.int mv) ∧ 1 ≤ mv ∧ mv ≤ 10 ^ 9 := by
    have : c % 4 = 0 ∨ c % 4 = 1 ∨ c % 4 = 2 ∨ c % 4 = 3 := by omega
    rcases this with e | e | e | e <;> rw [e]
    · exact ⟨1, rfl, by decide, by decide⟩
    · exact ⟨4, rfl, by decide, by decide⟩
    · exact ⟨100, rfl, by decide, by decide⟩
    · exact ⟨10 ^ 9, rfl, by decide, by decide⟩
  have b00 := Int.emod_nonneg (c / 4) (show mv ≠ 0 by omega)
  have b01 := Int.emod_lt_of_pos (c / 4) (show 0 < mv by omega)
  have i0 := Int.emod_nonneg (c / 7 % 1000003 * 69621) (show (999983 : Int) ≠ 0 by decide)
  have i1 := Int.emod_lt_of_pos (c / 7 % 1000003 * 69621) (show (0 : Int) < 999983 by decide)
  have e61 : (999983 : Int) ≤ 10 ^ 61 := by decide
  have e62 : (10 : Int) ^ 9 ≤ 10 ^ 61 := by decide
  refine ⟨cdiv (by decide) (by decide), cpow, by decide, by decide, by omega, _, hmv, _, rfl, by omega, cdiv (by decide) (by decide), _, _, rfl, by decide, by decide, _, rfl, cmul (by omega) (by omega) (by decide) (by decide), by omega, ?_⟩
  obtain ⟨bb, hbb⟩ : ∃ bb : Int, 1 + c / 4 % mv = bb := ⟨_, rfl⟩
  rw [hbb]
  have t00 := Int.emod_nonneg (c / 7 % 1000003 * 69621 % 999983 * 1009) (show bb + 1 ≠ 0 by omega)
  have t01 := Int.emod_lt_of_pos (c / 7 % 1000003 * 69621 % 999983 * 1009) (show 0 < bb + 1 by omega)
  obtain ⟨tt, htt⟩ : ∃ tt : Int, c / 7 % 1000003 * 69621 % 999983 * 1009 % (bb + 1) = tt := ⟨_, rfl⟩
  rw [htt] at t00 t01 ⊢
  have gp := Mth.gcd_pos (a := tt) (show bb ≠ 0 by omega)
  have gd := Mth.gcd_div (a := tt) (show bb ≠ 0 by omega)
  have gle : Mth.gcd tt bb ≤ bb := Int.le_of_dvd (by omega) (Mth.gcd_dvd_right tt bb)
  refine ⟨_, _, rfl, t00, by omega, _, rfl, cdiv gp (by omega), _, rfl, cdiv gp (by omega), by decide, fun p hp => ?_⟩
  refine q _ _ _ _ (same_new hp _) (SqT.of upd_same) ⟨Int.ediv_nonneg t00 (by omega), Int.ediv_le_ediv gp (by omega), ?_, ?_, gd⟩
  · exact (Int.le_ediv_iff_mul_le gp).mpr (by omega)
  · exact Int.le_trans (Int.ediv_le_self _ (by omega)) (by omega)
end

def spRuleG (K : PySem.W.Frag) (d : Nat) : Sp := fun vs H Q _ => ∃ (c : Int), vs = [.int c, .int (d : Int)] ∧ 1 ≤ d ∧ ∀ (p : Addr) (H' : Hp) (n : Rl), Same H H' → TolA K H' (.ref p) n → n.ok → n.dp ≤ d → Q (.ref p) H'
def spRuleU (K : PySem.W.Frag) : Sp := fun vs H Q E => ∃ d, d ≤ 4 ∧ spRuleG K d vs H Q E
def spMade (K : PySem.W.Frag) (cs : RC) (d : Nat) : Sp := fun vs H Q _ => ∃ (p : Addr) (n : Rl), vs = [.ref p] ∧ TolA K H (.ref p) n ∧ n.dp ≤ d ∧ ∀ a H', Same H H' → ObjR K cs H' a n → Q (.ref a) H'
def spLEn (K : PySem.W.Frag) (d : Nat) : Sp := fun vs H Q _ => ∃ (p n fl : Addr) (r : Rl) (nn : List Int) (price own : Int) (fx : List V) (fs : List (List Int)), vs = [.ref p, .ref n, .int price, .int own, .ref fl] ∧ TolA K H (.ref p) r ∧ r.ok ∧ r.dp ≤ d ∧ EnC K H n fl nn price own fx fs ∧ ∀ H', Same H H' → Q (.bl (enR r nn price own fs)) H'
theorem fnok_union {P : Program} {w : World} {K : PySem.W.Frag} {mg : Str → Option Value} {base : Heap} {f : Addr} {fd : FuncData} {ps : List Str} {spd : Nat → Sp} {L n : Nat} (h : ∀ d, FnOk P w K mg base CX0 (L + d) f fd ps (spd d)) : FnOk P w K mg base CX0 (L + n) f fd ps (fun vs H Q E => ∃ d, d ≤ n ∧ spd d vs H Q E) := by
  refine ⟨fun vs H Q E ⟨d, hd, s⟩ => (h d).len _ _ _ _ s, fun A st s H bd us vs Q E hr I hb r ⟨d, hd, sp⟩ => ?_⟩
  exact (h d).run A st s H bd us vs Q E (hr.mono (by omega)) I hb r sp
def iD (ns : List Int) : PyData := .tuple (ns.map .int)
theorem ints_rep {K : PySem.W.Frag} {H : Hp} : ∀ ns : List Int, RepAll K H (ns.map V.int) (ns.map PyData.int)
  | [] => .nil
  | _ :: ns => .cons (.int _) (ints_rep ns)
theorem ints_flat : ∀ ns : List Int, PyData.canLayAll0 (ns.map PyData.int) = true ∧ PyData.depthAll (ns.map PyData.int) ≤ 0
  | [] => ⟨rfl, Nat.le_refl _⟩
  | n :: ns => by
    obtain ⟨a, b⟩ := ints_flat ns
    refine ⟨?_, ?_⟩
    · show (true && PyData.canLayAll0 (ns.map PyData.int)) = true
      rw [a]
      rfl
    · show max 0 (PyData.depthAll (ns.map PyData.int)) ≤ 0
      omega
theorem IntsAll.rep {K : PySem.W.Frag} {H : Hp} {xs : List V} {fs : List (List Int)} (h : IntsAll K H xs fs) : RepAll K H xs (fs.map iD) := by
  induction h with
  | nil => exact .nil
  | cons a _ ih => exact .cons (.tup a (ints_rep _)) ih
theorem all_flat : ∀ fs : List (List Int), PyData.canLayAll0 (fs.map iD) = true ∧ PyData.depthAll (fs.map iD) ≤ 1
  | [] => ⟨rfl, by decide⟩
  | n :: fs => by
    obtain ⟨a, b⟩ := all_flat fs
    obtain ⟨c, d⟩ := ints_flat n
    refine ⟨?_, ?_⟩
    · show (PyData.canLayAll0 (n.map PyData.int) && PyData.canLayAll0 (fs.map iD)) = true
      rw [a, c]
      rfl
    · show max (PyData.depthAll (n.map PyData.int) + 1) (PyData.depthAll (fs.map iD)) ≤ 1
      omega
theorem eqv_iD (a b : List Int) : PyData.eqv (iD a) (iD b) = decide (a = b) := by
  show PyData.eqvAll (a.map PyData.int) (b.map PyData.int) = _
  rw [HT.eqvAll_ints]
theorem any_ints (a : List Int) : ∀ fs : List (List Int), ((fs.map iD).any fun y => PyData.eqv y (iD a)) = decide (a ∈ fs)
  | [] => rfl
  | c :: fs => by
    rw [List.map_cons, List.any_cons, any_ints a fs, eqv_iD]
    by_cases h : c = a
    · subst h
      rw [decide_eq_true rfl, decide_eq_true (List.mem_cons_self ..)]
      rfl
    · rw [decide_eq_false h, Bool.false_or]
      refine decide_eq_decide.mpr ⟨fun z => List.mem_cons_of_mem _ z, fun z => ?_⟩
      rcases List.mem_cons.mp z with e | e
      · exact absurd e.symm h
      · exact e
theorem changed_eq (dn : Nat) (nn : List Int) (price own : Int) : ∀ fs : List (List Int), (!decide (nn.take dn ∈ fs.map (fun o : List Int => o.take dn))) = enR (.change dn) nn price own fs
  | [] => rfl
  | c :: fs => by
    have ih := changed_eq dn nn price own fs
    show _ = (decide (c.take (dn : Int).toNat ≠ nn.take (dn : Int).toNat) && enR (.change dn) nn price own fs)
    rw [← ih, Int.toNat_natCast, List.map_cons]
    by_cases h : c.take dn = nn.take dn
    · have e1 : decide (nn.take dn ∈ c.take dn :: fs.map (fun o : List Int => o.take dn)) = true := decide_eq_true (by rw [h]; exact List.mem_cons_self ..)
      have e2 : decide (c.take dn ≠ nn.take dn) = false := decide_eq_false fun z => z h
      rw [e1, e2]
      rfl
    · rw [decide_eq_true h, Bool.true_and]
      congr 1
      refine decide_eq_decide.mpr ⟨fun z => ?_, fun z => List.mem_cons_of_mem _ z⟩
      rcases List.mem_cons.mp z with e | e
      · exact absurd e.symm h
      · exact e
theorem rl_flat : ∀ r : Rl, PyData.canLay0 r.data = true ∧ PyData.depth r.data ≤ r.dp + 1
  | .grown => ⟨by decide +kernel, by show max 0 0 + 1 ≤ 1 + 1; decide⟩
  | .change d => by
    have e : PyData.canLay0 (.str "change") = true := by decide +kernel
    refine ⟨?_, by show max 0 (max 0 0) + 1 ≤ 1 + 1; decide⟩
    show (PyData.canLay0 (.str "change") && (true && true)) = true
    rw [e]
    rfl
  | .share t b => by
    have e : PyData.canLay0 (.str "share") = true := by decide +kernel
    refine ⟨?_, by show max 0 (max (max 0 (max 0 0) + 1) 0) + 1 ≤ 1 + 1; decide⟩
    show (PyData.canLay0 (.str "share") && ((true && (true && true)) && true)) = true
    rw [e]
    rfl
  | .al x y => by
    have e : PyData.canLay0 (.str "all") = true := by decide +kernel
    obtain ⟨a1, b1⟩ := rl_flat x
    obtain ⟨a2, b2⟩ := rl_flat y
    refine ⟨?_, by show max 0 (max (PyData.depth x.data) (max (PyData.depth y.data) 0)) + 1 ≤ max x.dp y.dp + 1 + 1; omega⟩
    show (PyData.canLay0 (.str "all") && (PyData.canLay0 x.data && (PyData.canLay0 y.data && true))) = true
    rw [e, a1, a2]
    rfl
  | .so x y => by
    have e : PyData.canLay0 (.str "some") = true := by decide +kernel
    obtain ⟨a1, b1⟩ := rl_flat x
    obtain ⟨a2, b2⟩ := rl_flat y
    refine ⟨?_, by show max 0 (max (PyData.depth x.data) (max (PyData.depth y.data) 0)) + 1 ≤ max x.dp y.dp + 1 + 1; omega⟩
    show (PyData.canLay0 (.str "some") && (PyData.canLay0 x.data && (PyData.canLay0 y.data && true))) = true
    rw [e, a1, a2]
    rfl
theorem flat_data {r : Rl} (h : r.dp ≤ 30) : flatD r.data := ⟨(rl_flat r).1, by have := (rl_flat r).2; omega⟩
section
variable {P : Program} {w : World} {K : PySem.W.Frag} {mg : Str → Option Value} {base : Heap} {f : Addr} {fd : FuncData} {cs : RC} {cN : Addr}
theorem step_rule {d : Nat} (F : Fun K "_law_rule" "_law_rule" s_law_rule f fd) (M : Mg mg) (C_law_mix : Cal P w K mg base CX0 "_law_mix" 1 ["_law_cell", "_law_by"] spMix) (C_law_part : Cal P w K mg base CX0 "_law_part" 2 ["_law_cell"] (spPart K))
    (C_law_rule : Cal P w K mg base CX0 "_law_rule" (3 + d) ["_law_cell", "_law_deep"] (spRuleG K d)) : FnOk P w K mg base CX0 (3 + d + 1) f fd ["_law_cell", "_law_deep"] (spRuleG K (d + 1)) := by
  refine F.ok sc_law_rule (fun vs H Q E h => ?_) (fun cdv A outer s H vs Q E hr h => ?_)
  · obtain ⟨c, rfl, _⟩ := h
    rfl
  obtain ⟨c, rfl, d1, q⟩ := h
  refine ⟨_, (@pss_cons _ _ _ _ _ (@ps_set _ _ 2 _ _ _ _ sc_law_rule.nd rfl l_law_rule_2 (@pe_op _ _ _ _ _ _ _ _ (@op_mod _) (@pe_var _ 0 _ _ rfl v_law_rule_0 dn__law_cell dc__law_cell) (@pe_int _ _ _ _)) (swap1 rfl) (.inl rfl)) (@pss_cons _ _ _ _ _ (@ps_set _ _ 3 _ _ _ _ sc_law_rule.nd rfl l_law_rule_3 (@pe_op _ _ _ _ _ _ _ _ (@op_fdivB _) (@pe_var _ 0 _ _ rfl v_law_rule_0 dn__law_cell dc__law_cell) (@pe_int _ _ _ _)) (swap1 rfl) (.inl rfl)) (@pss_cons _ _ _ _ _ (@ps_if _ _ _ _ _ _ _ _ (@PW.pt _ _ _ (@pw_and _ _ _ _ _ _ _ (@pt_cmpR _ _ _ _ _ _ _ _ (@op_gt _) (@pe_var _ 1 _ _ rfl v_law_rule_1 dn__law_deep dc__law_deep) (@pe_int _ _ _ _) (nomark _)) (@pw_and1 _ _ _ _ (@pt_cmpR _ _ _ _ _ _ _ _ (@op_gt _) (@pe_var _ 2 _ _ rfl v_law_rule_2 dn__law_way dc__law_way) (@pe_int _ _ _ _) (nomark _))))) (@pss_cons _ _ _ _ _ (@ps_set _ _ 4 _ _ _ _ sc_law_rule.nd rfl l_law_rule_4 (@pe_callC _ _ _ _ _ _ _ _ _ _ _ C_law_rule hr g_law_rule__law_rule (@pa_cons _ _ _ _ _ (@pe_callC _ _ _ _ _ _ _ _ _ _ _ C_law_mix hr g_law_rule__law_mix (@pa_cons _ _ _ _ _ (@pe_var _ 3 _ _ rfl v_law_rule_3 dn__law_rest dc__law_rest) (@pa_cons _ _ _ _ _ (@pe_int _ _ _ _) (@pa_nil _) (star1 rfl)) (star1 rfl)) (by omega) dn__law_mix (star1 rfl) (nost1 rfl nost0)) (@pa_cons _ _ _ _ _ (@pe_op _ _ _ _ _ _ _ _ (@op_sub _) (@pe_var _ 1 _ _ rfl v_law_rule_1 dn__law_deep dc__law_deep) (@pe_int _ _ _ _)) (@pa_nil _) (star1 rfl)) (star1 rfl)) (by omega) dn__law_rule (star1 rfl) (nost1 rfl nost0)) (swap1 rfl) (.inl rfl)) (@pss_cons _ _ _ _ _ (@ps_set _ _ 5 _ _ _ _ sc_law_rule.nd rfl l_law_rule_5 (@pe_callC _ _ _ _ _ _ _ _ _ _ _ C_law_rule hr g_law_rule__law_rule (@pa_cons _ _ _ _ _ (@pe_callC _ _ _ _ _ _ _ _ _ _ _ C_law_mix hr g_law_rule__law_mix (@pa_cons _ _ _ _ _ (@pe_var _ 3 _ _ rfl v_law_rule_3 dn__law_rest dc__law_rest) (@pa_cons _ _ _ _ _ (@pe_int _ _ _ _) (@pa_nil _) (star1 rfl)) (star1 rfl)) (by omega) dn__law_mix (star1 rfl) (nost1 rfl nost0)) (@pa_cons _ _ _ _ _ (@pe_op _ _ _ _ _ _ _ _ (@op_sub _) (@pe_var _ 1 _ _ rfl v_law_rule_1 dn__law_deep dc__law_deep) (@pe_int _ _ _ _)) (@pa_nil _) (star1 rfl)) (star1 rfl)) (by omega) dn__law_rule (star1 rfl) (nost1 rfl nost0)) (swap1 rfl) (.inl rfl)) (@pss_one _ _ _ (@ps_ret _ _ _ _ (@pe_tup _ _ _ _ _ (@pa_cons _ _ _ _ _ (@pe_menu _ _ _ _ _ _ _ (@pa_cons _ _ _ _ _ (@pe_str _ _ _ _) (@pa_cons _ _ _ _ _ (@pe_str _ _ _ _) (@pa_nil _) (star1 rfl)) (star1 rfl)) (@pe_op _ _ _ _ _ _ _ _ (@op_sub _) (@pe_var _ 2 _ _ rfl v_law_rule_2 dn__law_way dc__law_way) (@pe_int _ _ _ _)) (fun _ _ => rfl)) (@pa_cons _ _ _ _ _ (@pe_var _ 4 _ _ rfl v_law_rule_4 dn__law_one dc__law_one) (@pa_cons _ _ _ _ _ (@pe_var _ 5 _ _ rfl v_law_rule_5 dn__law_other dc__law_other) (@pa_nil _) (star1 rfl)) (star1 rfl)) (star1 rfl))))))) (@pss_nil _)) (@pss_cons _ _ _ _ _ (@ps_if _ _ _ _ _ _ _ _ (@pt_cmpR _ _ _ _ _ _ _ _ (@op_eq _) (@pe_op _ _ _ _ _ _ _ _ (@op_mod _) (@pe_var _ 2 _ _ rfl v_law_rule_2 dn__law_way dc__law_way) (@pe_int _ _ _ _)) (@pe_int _ _ _ _) (nomark _)) (@pss_one _ _ _ (@ps_ret _ _ _ _ (@pe_tup _ _ _ _ _ (@pa_cons _ _ _ _ _ (@pe_str _ _ _ _) (@pa_nil _) (star1 rfl))))) (@pss_nil _)) (@pss_cons _ _ _ _ _ (@ps_if _ _ _ _ _ _ _ _ (@pt_cmpR _ _ _ _ _ _ _ _ (@op_eq _) (@pe_op _ _ _ _ _ _ _ _ (@op_mod _) (@pe_var _ 2 _ _ rfl v_law_rule_2 dn__law_way dc__law_way) (@pe_int _ _ _ _)) (@pe_int _ _ _ _) (nomark _)) (@pss_one _ _ _ (@ps_ret _ _ _ _ (@pe_tup _ _ _ _ _ (@pa_cons _ _ _ _ _ (@pe_str _ _ _ _) (@pa_cons _ _ _ _ _ (@pe_op _ _ _ _ _ _ _ _ (@op_add _) (@pe_int _ _ _ _) (@pe_op _ _ _ _ _ _ _ _ (@op_mod _) (@pe_var _ 3 _ _ rfl v_law_rule_3 dn__law_rest dc__law_rest) (@pe_int _ _ _ _))) (@pa_nil _) (star1 rfl)) (star1 rfl))))) (@pss_nil _)) (@pss_one _ _ _ (@ps_ret _ _ _ _ (@pe_tup _ _ _ _ _ (@pa_cons _ _ _ _ _ (@pe_str _ _ _ _) (@pa_cons _ _ _ _ _ (@pe_callC _ _ _ _ _ _ _ _ _ _ _ C_law_part hr g_law_rule__law_part (@pa_cons _ _ _ _ _ (@pe_var _ 3 _ _ rfl v_law_rule_3 dn__law_rest dc__law_rest) (@pa_nil _) (star1 rfl)) (by omega) dn__law_part (star1 rfl) nost0) (@pa_nil _) (star1 rfl)) (star1 rfl)))))))))), ?_⟩
  simp only [tTurn, rTurnT, tTryS, rCountT, rPop, rRep, tCont, iZipT, tChain3, tFld, sFld, tMake, tMake0, tMethD, tBM0, rUpper, tDict1T, tTryN, rSlS, rMulS, rCatS, iZipL, rInsert, rReverse, tDNewX, tTry, tRaise, iEnumL, iEnumT, iZip, iSeq, iOr, rIx, iStr, rLeS, rJoin, rSlTA, tComp_eq, tComp1, slots, Option.getD_some, Option.getD_none, tYes, tSeq, tAsg, gName, tOp, tUn, tC, tVar, tCB, tCons, tNil, tCall, rI, rI0, rU, tRet, tRetN, tIfS, tTest, tB, tAnd, tOr, tNot, tAndV, tOrV, tNotV, tIf, tChain, tMenu, tPar, tDrop, tTup, tLst, tNext, tSl, tPart, tNoPart, tNever, gTup, gCons, gNil, gSub, rSetL, tBM, rAppend, rEq, rNe, rIsi, rIxL, rIxT, rIxS, rSlL, isi_non_bl, isi_non_int, isi_non_str, isi_non_lst, isi_non_tup, isi_bl_bl, isi_bl_int, isi_bl_str, isi_bl_lst, isi_bl_tup, isi_int_bl, isi_int_int, isi_int_str, isi_int_lst, isi_int_tup, isi_str_bl, isi_str_int, isi_str_str, isi_str_lst, isi_str_tup, isi_lst_bl, isi_lst_int, isi_lst_str, isi_lst_lst, isi_lst_tup, isi_tup_bl, isi_tup_int, isi_tup_str, isi_tup_lst, isi_tup_tup, isi_dct_bl, isi_dct_int, isi_dct_str, isi_dct_lst, isi_dct_tup, Kd_non, Kd_bl, Kd_int, Kd_str, sc_non_non, sc_non_int, sc_int_non, sc_non_bl, sc_bl_non, sc_non_str, sc_str_non, sc_int_int, sc_bl_bl, sc_str_str, sc_int_str, sc_str_int, sc_bl_str, sc_str_bl, decide_true, decide_false, tFor_eq, iList, iTup, iRng1, iRng2, iRng3, rIndexT, tBM0, tBMT, tyK_int, tyK_bool, tyK_str, tyK_list, tyK_tuple, L2.start, cxK, Int.reduceToNat, List.map_cons, List.map_nil, List.length_cons, List.length_nil, Nat.reduceAdd, Nat.reduceSub, Nat.zero_add, List.replicate_succ, List.replicate_zero, List.cons_append, List.nil_append, List.append_nil, List.getElem?_cons_zero, List.getElem?_cons_succ, List.set_cons_zero, List.set_cons_succ, Option.some.injEq, V.int.injEq, V.bl.injEq, V.ref.injEq, V.str.injEq, V.ty.injEq, List.cons.injEq, exists_eq_left', exists_eq_left, exists_eq_right, exists_and_left, exists_and_right, and_true, true_and, and_assoc, exists_const, decide_eq_true_eq, Bool.not_eq_true', Bool.not_true, Bool.not_false, Bool.not_not, decide_eq_false_iff_not, ite_not, Bool.false_eq_true, if_true, if_false, reduceCtorEq, and_false, false_and, exists_false, or_false, false_or, ↓reduceIte, eq_self, reduceIte]
  obtain ⟨w5, hw5, w0, w4⟩ : ∃ w5 : Int, c % 5 = w5 ∧ 0 ≤ w5 ∧ w5 ≤ 4 := ⟨_, rfl, by omega, by omega⟩
  obtain ⟨rs, hrs⟩ : ∃ rs : Int, c / 5 = rs := ⟨_, rfl⟩
  refine ⟨by decide, cdiv (by decide) (by decide), ?_⟩
  rw [hw5, hrs]
  have ed : ((d + 1 : Nat) : Int) - 1 = (d : Int) := by omega
  by_cases hd : (1 : Int) < ((d + 1 : Nat) : Int)
  · rw [if_pos hd]
    by_cases hw : (2 : Int) < w5
    · rw [if_pos hw]
      refine ⟨_, _, rfl, by decide, by decide, ?_⟩
      rw [ed]
      refine ⟨_, rfl, by omega, fun p1 H1 x S1 R1 o1 dp1 => ?_⟩
      refine ⟨_, _, rfl, by decide, by decide, _, rfl, by omega, fun p2 H2 y S2 R2 o2 dp2 => ?_⟩
      have R1' := R1.same S2
      have : w5 = 3 ∨ w5 = 4 := by omega
      rcases this with e | e <;> subst e
      · exact ⟨by decide, by decide, _, rfl, by decide, fun t ht => q _ _ (.al x y) (S1.trans (S2.trans (same_new ht _))) (tol_al (SqT.of upd_same) (R1'.same (same_new ht _)) (R2.same (same_new ht _))) ⟨o1, o2⟩ (by show max x.dp y.dp + 1 ≤ d + 1; omega)⟩
      · exact ⟨by decide, by decide, _, rfl, by decide, fun t ht => q _ _ (.so x y) (S1.trans (S2.trans (same_new ht _))) (tol_so (SqT.of upd_same) (R1'.same (same_new ht _)) (R2.same (same_new ht _))) ⟨o1, o2⟩ (by show max x.dp y.dp + 1 ≤ d + 1; omega)⟩
    · rw [if_neg hw]
      refine ⟨by decide, ?_⟩
      by_cases h0 : w5 % 3 = 0
      · rw [if_pos h0]
        exact ⟨by decide, fun p hp => q _ _ .grown (same_new hp _) (tol_grown (SqT.of upd_same)) trivial (by show 1 ≤ d + 1; omega)⟩
      · rw [if_neg h0]
        by_cases h1 : w5 % 3 = 1
        · rw [if_pos h1]
          exact ⟨by decide, by decide, by decide, fun p hp => q _ _ (.change (1 + rs % 4)) (same_new hp _) (tol_change (SqT.of upd_same)) ⟨by omega, by omega⟩ (by show 1 ≤ d + 1; omega)⟩
        · rw [if_neg h1]
          refine ⟨by decide, _, rfl, fun p1 H1 t b S1 T1 ok1 => ⟨by decide, fun p hp => q _ _ (.share t b) (S1.trans (same_new hp _)) (tol_share (SqT.of upd_same) (Same.tup (same_new hp _) T1)) ok1 (by show 1 ≤ d + 1; omega)⟩⟩
  · rw [if_neg hd]
    refine ⟨by decide, ?_⟩
    by_cases h0 : w5 % 3 = 0
    · rw [if_pos h0]
      exact ⟨by decide, fun p hp => q _ _ .grown (same_new hp _) (tol_grown (SqT.of upd_same)) trivial (by show 1 ≤ d + 1; omega)⟩
    · rw [if_neg h0]
      by_cases h1 : w5 % 3 = 1
      · rw [if_pos h1]
        exact ⟨by decide, by decide, by decide, fun p hp => q _ _ (.change (1 + rs % 4)) (same_new hp _) (tol_change (SqT.of upd_same)) ⟨by omega, by omega⟩ (by show 1 ≤ d + 1; omega)⟩
      · rw [if_neg h1]
        refine ⟨by decide, _, rfl, fun p1 H1 t b S1 T1 ok1 => ⟨by decide, fun p hp => q _ _ (.share t b) (S1.trans (same_new hp _)) (tol_share (SqT.of upd_same) (Same.tup (same_new hp _) T1)) ok1 (by show 1 ≤ d + 1; omega)⟩⟩
theorem ok_law_rule (F : Fun K "_law_rule" "_law_rule" s_law_rule f fd) (M : Mg mg) (C_law_mix : Cal P w K mg base CX0 "_law_mix" 1 ["_law_cell", "_law_by"] spMix) (C_law_part : Cal P w K mg base CX0 "_law_part" 2 ["_law_cell"] (spPart K)) (b : Binds K fd ["_law_cell", "_law_deep"] []) (kp : PySem.W.keepIn K (.ref f) = true) (m : mg "_law_rule" = some (.ref f)) : ∀ d : Nat, FnOk P w K mg base CX0 (3 + d) f fd ["_law_cell", "_law_deep"] (spRuleG K d)
  | 0 => by
    refine F.ok (k := 2) sc_law_rule (fun vs H Q E h => ?_) (fun cdv A outer s H vs Q E hr h => ?_)
    · obtain ⟨c, rfl, _⟩ := h
      rfl
    obtain ⟨c, rfl, d1, _⟩ := h
    omega
  | d + 1 => step_rule F M C_law_mix C_law_part ⟨⟨f, fd, ok_law_rule F M C_law_mix C_law_part b kp m d, b, kp, m⟩⟩
theorem step_made {d : Nat} (F : Fun K "_law_made" "_law_made" s_law_made f fd) (M : Mg mg) (Z_Grown : Mk0 K cs.g) (A_Grown : mg "Grown" = some (.ref cs.g)) (Z_Change : MkC P w K mg base "Change" cs.c 1 ["self", "deep"] (spInit1 cs.c "deep")) (Z_Worked : MkC P w K mg base "Worked" cs.w 1 ["self", "share"] (spInit1 cs.w "share"))
    (Z_AllOf : MkC P w K mg base "AllOf" cs.al 1 ["self", "one", "other"] (spInit2 K)) (Z_OneOf : MkC P w K mg base "OneOf" cs.so 1 ["self", "one", "other"] (spInit2 K)) (t1 : TwoC K cs.al) (t2 : TwoC K cs.so)
    (C_law_made : Cal P w K mg base CX0 "_law_made" (3 + d) ["_law_told"] (spMade K cs d)) : FnOk P w K mg base CX0 (3 + d + 1) f fd ["_law_told"] (spMade K cs (d + 1)) := by
  refine F.ok sc_law_made (fun vs H Q E h => ?_) (fun cdv A outer s H vs Q E hr h => ?_)
  · obtain ⟨p, n, rfl, _⟩ := h
    rfl
  obtain ⟨p, n, rfl, R, dp, q⟩ := h
  refine ⟨_, (@pss_cons _ _ _ _ _ (@ps_if _ _ _ _ _ _ _ _ (@pt_cmpR _ _ _ _ _ _ _ _ (@op_eq _) (@pe_ix _ _ _ _ _ _ _ (@ix_tup _) (@pe_var _ 0 _ _ rfl v_law_made_0 dn__law_told dc__law_told) (@pe_int _ _ _ _) (fun _ _ => rfl)) (@pe_str _ _ _ _) (nomark _)) (@pss_one _ _ _ (@ps_ret _ _ _ _ (@pe_makeN _ _ _ _ _ Z_Grown g_law_made_Grown A_Grown dn_Grown))) (@pss_nil _)) (@pss_cons _ _ _ _ _ (@ps_if _ _ _ _ _ _ _ _ (@pt_cmpR _ _ _ _ _ _ _ _ (@op_eq _) (@pe_ix _ _ _ _ _ _ _ (@ix_tup _) (@pe_var _ 0 _ _ rfl v_law_made_0 dn__law_told dc__law_told) (@pe_int _ _ _ _) (fun _ _ => rfl)) (@pe_str _ _ _ _) (nomark _)) (@pss_one _ _ _ (@ps_ret _ _ _ _ (@pe_makeC _ _ _ _ _ _ _ _ _ _ _ _ Z_Change hr g_law_made_Change (@pa_cons _ _ _ _ _ (@pe_ix _ _ _ _ _ _ _ (@ix_tup _) (@pe_var _ 0 _ _ rfl v_law_made_0 dn__law_told dc__law_told) (@pe_int _ _ _ _) (fun _ _ => rfl)) (@pa_nil _) (star1 rfl)) (by omega) dn_Change (star1 rfl) nost0))) (@pss_nil _)) (@pss_cons _ _ _ _ _ (@ps_if _ _ _ _ _ _ _ _ (@pt_cmpR _ _ _ _ _ _ _ _ (@op_eq _) (@pe_ix _ _ _ _ _ _ _ (@ix_tup _) (@pe_var _ 0 _ _ rfl v_law_made_0 dn__law_told dc__law_told) (@pe_int _ _ _ _) (fun _ _ => rfl)) (@pe_str _ _ _ _) (nomark _)) (@pss_one _ _ _ (@ps_ret _ _ _ _ (@pe_makeC _ _ _ _ _ _ _ _ _ _ _ _ Z_Worked hr g_law_made_Worked (@pa_cons _ _ _ _ _ (@pe_ix _ _ _ _ _ _ _ (@ix_tup _) (@pe_var _ 0 _ _ rfl v_law_made_0 dn__law_told dc__law_told) (@pe_int _ _ _ _) (fun _ _ => rfl)) (@pa_nil _) (star1 rfl)) (by omega) dn_Worked (star1 rfl) nost0))) (@pss_nil _)) (@pss_cons _ _ _ _ _ (@ps_if _ _ _ _ _ _ _ _ (@pt_cmpR _ _ _ _ _ _ _ _ (@op_eq _) (@pe_ix _ _ _ _ _ _ _ (@ix_tup _) (@pe_var _ 0 _ _ rfl v_law_made_0 dn__law_told dc__law_told) (@pe_int _ _ _ _) (fun _ _ => rfl)) (@pe_str _ _ _ _) (nomark _)) (@pss_one _ _ _ (@ps_ret _ _ _ _ (@pe_makeC _ _ _ _ _ _ _ _ _ _ _ _ Z_AllOf hr g_law_made_AllOf (@pa_cons _ _ _ _ _ (@pe_callC _ _ _ _ _ _ _ _ _ _ _ C_law_made hr g_law_made__law_made (@pa_cons _ _ _ _ _ (@pe_ix _ _ _ _ _ _ _ (@ix_tup _) (@pe_var _ 0 _ _ rfl v_law_made_0 dn__law_told dc__law_told) (@pe_int _ _ _ _) (fun _ _ => rfl)) (@pa_nil _) (star1 rfl)) (by omega) dn__law_made (star1 rfl) nost0) (@pa_cons _ _ _ _ _ (@pe_callC _ _ _ _ _ _ _ _ _ _ _ C_law_made hr g_law_made__law_made (@pa_cons _ _ _ _ _ (@pe_ix _ _ _ _ _ _ _ (@ix_tup _) (@pe_var _ 0 _ _ rfl v_law_made_0 dn__law_told dc__law_told) (@pe_int _ _ _ _) (fun _ _ => rfl)) (@pa_nil _) (star1 rfl)) (by omega) dn__law_made (star1 rfl) nost0) (@pa_nil _) (star1 rfl)) (star1 rfl)) (by omega) dn_AllOf (star1 rfl) (nost1 rfl nost0)))) (@pss_nil _)) (@pss_one _ _ _ (@ps_ret _ _ _ _ (@pe_makeC _ _ _ _ _ _ _ _ _ _ _ _ Z_OneOf hr g_law_made_OneOf (@pa_cons _ _ _ _ _ (@pe_callC _ _ _ _ _ _ _ _ _ _ _ C_law_made hr g_law_made__law_made (@pa_cons _ _ _ _ _ (@pe_ix _ _ _ _ _ _ _ (@ix_tup _) (@pe_var _ 0 _ _ rfl v_law_made_0 dn__law_told dc__law_told) (@pe_int _ _ _ _) (fun _ _ => rfl)) (@pa_nil _) (star1 rfl)) (by omega) dn__law_made (star1 rfl) nost0) (@pa_cons _ _ _ _ _ (@pe_callC _ _ _ _ _ _ _ _ _ _ _ C_law_made hr g_law_made__law_made (@pa_cons _ _ _ _ _ (@pe_ix _ _ _ _ _ _ _ (@ix_tup _) (@pe_var _ 0 _ _ rfl v_law_made_0 dn__law_told dc__law_told) (@pe_int _ _ _ _) (fun _ _ => rfl)) (@pa_nil _) (star1 rfl)) (by omega) dn__law_made (star1 rfl) nost0) (@pa_nil _) (star1 rfl)) (star1 rfl)) (by omega) dn_OneOf (star1 rfl) (nost1 rfl nost0)))))))), ?_⟩
  simp only [tTurn, rTurnT, tTryS, rCountT, rPop, rRep, tCont, iZipT, tChain3, tFld, sFld, tMake, tMake0, tMethD, tBM0, rUpper, tDict1T, tTryN, rSlS, rMulS, rCatS, iZipL, rInsert, rReverse, tDNewX, tTry, tRaise, iEnumL, iEnumT, iZip, iSeq, iOr, rIx, iStr, rLeS, rJoin, rSlTA, tComp_eq, tComp1, slots, Option.getD_some, Option.getD_none, tYes, tSeq, tAsg, gName, tOp, tUn, tC, tVar, tCB, tCons, tNil, tCall, rI, rI0, rU, tRet, tRetN, tIfS, tTest, tB, tAnd, tOr, tNot, tAndV, tOrV, tNotV, tIf, tChain, tMenu, tPar, tDrop, tTup, tLst, tNext, tSl, tPart, tNoPart, tNever, gTup, gCons, gNil, gSub, rSetL, tBM, rAppend, rEq, rNe, rIsi, rIxL, rIxT, rIxS, rSlL, isi_non_bl, isi_non_int, isi_non_str, isi_non_lst, isi_non_tup, isi_bl_bl, isi_bl_int, isi_bl_str, isi_bl_lst, isi_bl_tup, isi_int_bl, isi_int_int, isi_int_str, isi_int_lst, isi_int_tup, isi_str_bl, isi_str_int, isi_str_str, isi_str_lst, isi_str_tup, isi_lst_bl, isi_lst_int, isi_lst_str, isi_lst_lst, isi_lst_tup, isi_tup_bl, isi_tup_int, isi_tup_str, isi_tup_lst, isi_tup_tup, isi_dct_bl, isi_dct_int, isi_dct_str, isi_dct_lst, isi_dct_tup, Kd_non, Kd_bl, Kd_int, Kd_str, sc_non_non, sc_non_int, sc_int_non, sc_non_bl, sc_bl_non, sc_non_str, sc_str_non, sc_int_int, sc_bl_bl, sc_str_str, sc_int_str, sc_str_int, sc_bl_str, sc_str_bl, decide_true, decide_false, tFor_eq, iList, iTup, iRng1, iRng2, iRng3, rIndexT, tBM0, tBMT, tyK_int, tyK_bool, tyK_str, tyK_list, tyK_tuple, L2.start, cxK, Int.reduceToNat, List.map_cons, List.map_nil, List.length_cons, List.length_nil, Nat.reduceAdd, Nat.reduceSub, Nat.zero_add, List.replicate_succ, List.replicate_zero, List.cons_append, List.nil_append, List.append_nil, List.getElem?_cons_zero, List.getElem?_cons_succ, List.set_cons_zero, List.set_cons_succ, Option.some.injEq, V.int.injEq, V.bl.injEq, V.ref.injEq, V.str.injEq, V.ty.injEq, List.cons.injEq, exists_eq_left', exists_eq_left, exists_eq_right, exists_and_left, exists_and_right, and_true, true_and, and_assoc, exists_const, decide_eq_true_eq, Bool.not_eq_true', Bool.not_true, Bool.not_false, Bool.not_not, decide_eq_false_iff_not, ite_not, Bool.false_eq_true, if_true, if_false, reduceCtorEq, and_false, false_and, exists_false, or_false, false_or, ↓reduceIte, eq_self, reduceIte]
  cases tol_row R with
  | grown T =>
    refine ⟨_, T, _, rfl, rfl, ?_⟩
    rw [if_pos rfl]
    intro x dx hx hd ne
    refine q _ _ (fun b u z => ?_) ⟨dx, upd_same⟩
    rw [upd_ne (ne_of_none z hx), upd_ne (ne_of_none z hd)]
    exact z
  | @change d T =>
    refine ⟨_, T, _, rfl, rfl, ?_⟩
    rw [if_neg (by decide)]
    refine ⟨_, T, _, rfl, rfl, ?_⟩
    rw [if_pos rfl]
    exact ⟨_, T, _, rfl, fun x dx hx hd ne => ⟨x, dx, _, rfl, upd_same, rfl, q _ _ (make1 hx hd) ⟨dx, upd_same⟩⟩⟩
  | @share sp t b T T2 =>
    refine ⟨_, T, _, rfl, rfl, ?_⟩
    rw [if_neg (by decide)]
    refine ⟨_, T, _, rfl, rfl, ?_⟩
    rw [if_neg (by decide)]
    refine ⟨_, T, _, rfl, rfl, ?_⟩
    rw [if_pos rfl]
    exact ⟨_, T, _, rfl, fun x dx hx hd ne => ⟨x, dx, _, rfl, upd_same, rfl, q _ _ (make1 hx hd) ⟨dx, _, upd_same, Same.tup (make1 hx hd) T2⟩⟩⟩
  | @al a1 a2 x y T R1 R2 =>
    have dd : max x.dp y.dp + 1 ≤ d + 1 := dp
    refine ⟨_, T, _, rfl, rfl, ?_⟩
    rw [if_neg (by decide)]
    refine ⟨_, T, _, rfl, rfl, ?_⟩
    rw [if_neg (by decide)]
    refine ⟨_, T, _, rfl, rfl, ?_⟩
    rw [if_neg (by decide)]
    refine ⟨_, T, _, rfl, rfl, ?_⟩
    rw [if_pos rfl]
    refine ⟨_, T, _, rfl, a1, x, rfl, R1, by omega, fun o1 H1 S1 O1 => ?_⟩
    refine ⟨_, Same.tup S1 T, _, rfl, a2, y, rfl, R2.same S1, by omega, fun o2 H2 S2 O2 => ?_⟩
    have S12 := S1.trans S2
    exact fun x dx hx hd ne => ⟨x, _, dx, _, _, rfl, upd_same, t1.cl, t1.n1, t1.n2, fun H' h1 h2 => ⟨rfl, q _ _ (S12.trans (make2 hx hd h2)) ⟨dx, _, _, h1, ObjR.same (S2.trans (make2 hx hd h2)) O1, ObjR.same (make2 hx hd h2) O2⟩⟩⟩
  | @so a1 a2 x y T R1 R2 =>
    have dd : max x.dp y.dp + 1 ≤ d + 1 := dp
    refine ⟨_, T, _, rfl, rfl, ?_⟩
    rw [if_neg (by decide)]
    refine ⟨_, T, _, rfl, rfl, ?_⟩
    rw [if_neg (by decide)]
    refine ⟨_, T, _, rfl, rfl, ?_⟩
    rw [if_neg (by decide)]
    refine ⟨_, T, _, rfl, rfl, ?_⟩
    rw [if_neg (by decide)]
    refine ⟨_, T, _, rfl, a1, x, rfl, R1, by omega, fun o1 H1 S1 O1 => ?_⟩
    refine ⟨_, Same.tup S1 T, _, rfl, a2, y, rfl, R2.same S1, by omega, fun o2 H2 S2 O2 => ?_⟩
    have S12 := S1.trans S2
    exact fun x dx hx hd ne => ⟨x, _, dx, _, _, rfl, upd_same, t2.cl, t2.n1, t2.n2, fun H' h1 h2 => ⟨rfl, q _ _ (S12.trans (make2 hx hd h2)) ⟨dx, _, _, h1, ObjR.same (S2.trans (make2 hx hd h2)) O1, ObjR.same (make2 hx hd h2) O2⟩⟩⟩
theorem ok_law_made (F : Fun K "_law_made" "_law_made" s_law_made f fd) (M : Mg mg) (Z_Grown : Mk0 K cs.g) (A_Grown : mg "Grown" = some (.ref cs.g)) (Z_Change : MkC P w K mg base "Change" cs.c 1 ["self", "deep"] (spInit1 cs.c "deep")) (Z_Worked : MkC P w K mg base "Worked" cs.w 1 ["self", "share"] (spInit1 cs.w "share"))
    (Z_AllOf : MkC P w K mg base "AllOf" cs.al 1 ["self", "one", "other"] (spInit2 K)) (Z_OneOf : MkC P w K mg base "OneOf" cs.so 1 ["self", "one", "other"] (spInit2 K)) (t1 : TwoC K cs.al) (t2 : TwoC K cs.so) (b : Binds K fd ["_law_told"] []) (kp : PySem.W.keepIn K (.ref f) = true) (m : mg "_law_made" = some (.ref f)) : ∀ d : Nat, FnOk P w K mg base CX0 (3 + d) f fd ["_law_told"] (spMade K cs d)
  | 0 => by
    refine F.ok (k := 2) sc_law_made (fun vs H Q E h => ?_) (fun cdv A outer s H vs Q E hr h => ?_)
    · obtain ⟨p, n, rfl, _⟩ := h
      rfl
    obtain ⟨p, n, rfl, R, dp, q⟩ := h
    have := Rl.dp_pos n
    omega
  | d + 1 => step_made F M Z_Grown A_Grown Z_Change Z_Worked Z_AllOf Z_OneOf t1 t2 ⟨⟨f, fd, ok_law_made F M Z_Grown A_Grown Z_Change Z_Worked Z_AllOf Z_OneOf t1 t2 b kp m d, b, kp, m⟩⟩
theorem step_len {d : Nat} (F : Fun K "_law_enough" "_law_enough" s_law_enough f fd) (M : Mg mg) (C_law_enough : Cal P w K mg base CX0 "_law_enough" (1 + d) ["_law_told", "_law_number_here", "_law_price", "_law_own", "_law_foreign"] (spLEn K d)) : FnOk P w K mg base CX0 (1 + d + 1) f fd ["_law_told", "_law_number_here", "_law_price", "_law_own", "_law_foreign"] (spLEn K (d + 1)) := by
  refine F.ok sc_law_enough (fun vs H Q E h => ?_) (fun cdv A outer s H vs Q E hr h => ?_)
  · obtain ⟨p, n, fl, r, nn, price, own, fx, fs, rfl, _⟩ := h
    rfl
  obtain ⟨p, n, fl, r, nn, price, own, fx, fs, rfl, R, ok, dp, en, q⟩ := h
  have len := en.FA.length
  refine ⟨_, (@pss_cons _ _ _ _ _ (@ps_if _ _ _ _ _ _ _ _ (@PW.pt _ _ _ (@pw_or _ _ _ _ _ _ _ (@pt_cmpR _ _ _ _ _ _ _ _ (@op_eq _) (@pe_ix _ _ _ _ _ _ _ (@ix_tup _) (@pe_var _ 0 _ _ rfl v_law_enough_0 dn__law_told dc__law_told) (@pe_int _ _ _ _) (fun _ _ => rfl)) (@pe_str _ _ _ _) (nomark _)) (@pw_or1 _ _ _ _ (@pt_cmpR _ _ _ _ _ _ _ _ (@op_eq _) (@pe_ix _ _ _ _ _ _ _ (@ix_tup _) (@pe_var _ 0 _ _ rfl v_law_enough_0 dn__law_told dc__law_told) (@pe_int _ _ _ _) (fun _ _ => rfl)) (@pe_str _ _ _ _) (nomark _))))) (@pss_cons _ _ _ _ _ (@ps_set _ _ 5 _ _ _ _ sc_law_enough.nd rfl l_law_enough_5 (@pe_callC _ _ _ _ _ _ _ _ _ _ _ C_law_enough hr g_law_enough__law_enough (@pa_cons _ _ _ _ _ (@pe_ix _ _ _ _ _ _ _ (@ix_tup _) (@pe_var _ 0 _ _ rfl v_law_enough_0 dn__law_told dc__law_told) (@pe_int _ _ _ _) (fun _ _ => rfl)) (@pa_cons _ _ _ _ _ (@pe_var _ 1 _ _ rfl v_law_enough_1 dn__law_number_here dc__law_number_here) (@pa_cons _ _ _ _ _ (@pe_var _ 2 _ _ rfl v_law_enough_2 dn__law_price dc__law_price) (@pa_cons _ _ _ _ _ (@pe_var _ 3 _ _ rfl v_law_enough_3 dn__law_own dc__law_own) (@pa_cons _ _ _ _ _ (@pe_var _ 4 _ _ rfl v_law_enough_4 dn__law_foreign dc__law_foreign) (@pa_nil _) (star1 rfl)) (star1 rfl)) (star1 rfl)) (star1 rfl)) (star1 rfl)) (by omega) dn__law_enough (star1 rfl) (nost1 rfl (nost1 rfl (nost1 rfl (nost1 rfl nost0))))) (swap1 rfl) (.inl rfl)) (@pss_cons _ _ _ _ _ (@ps_set _ _ 6 _ _ _ _ sc_law_enough.nd rfl l_law_enough_6 (@pe_callC _ _ _ _ _ _ _ _ _ _ _ C_law_enough hr g_law_enough__law_enough (@pa_cons _ _ _ _ _ (@pe_ix _ _ _ _ _ _ _ (@ix_tup _) (@pe_var _ 0 _ _ rfl v_law_enough_0 dn__law_told dc__law_told) (@pe_int _ _ _ _) (fun _ _ => rfl)) (@pa_cons _ _ _ _ _ (@pe_var _ 1 _ _ rfl v_law_enough_1 dn__law_number_here dc__law_number_here) (@pa_cons _ _ _ _ _ (@pe_var _ 2 _ _ rfl v_law_enough_2 dn__law_price dc__law_price) (@pa_cons _ _ _ _ _ (@pe_var _ 3 _ _ rfl v_law_enough_3 dn__law_own dc__law_own) (@pa_cons _ _ _ _ _ (@pe_var _ 4 _ _ rfl v_law_enough_4 dn__law_foreign dc__law_foreign) (@pa_nil _) (star1 rfl)) (star1 rfl)) (star1 rfl)) (star1 rfl)) (star1 rfl)) (by omega) dn__law_enough (star1 rfl) (nost1 rfl (nost1 rfl (nost1 rfl (nost1 rfl nost0))))) (swap1 rfl) (.inl rfl)) (@pss_cons _ _ _ _ _ (@ps_if _ _ _ _ _ _ _ _ (@pt_cmpR _ _ _ _ _ _ _ _ (@op_eq _) (@pe_ix _ _ _ _ _ _ _ (@ix_tup _) (@pe_var _ 0 _ _ rfl v_law_enough_0 dn__law_told dc__law_told) (@pe_int _ _ _ _) (fun _ _ => rfl)) (@pe_str _ _ _ _) (nomark _)) (@pss_one _ _ _ (@ps_ret _ _ _ _ (@pe_and _ _ _ _ _ _ _ (@pe_var _ 5 _ _ rfl v_law_enough_5 dn__law_one dc__law_one) (@pe_one _ _ _ _ _ (@pe_var _ 6 _ _ rfl v_law_enough_6 dn__law_other dc__law_other))))) (@pss_nil _)) (@pss_one _ _ _ (@ps_ret _ _ _ _ (@pe_or _ _ _ _ _ _ _ (@pe_var _ 5 _ _ rfl v_law_enough_5 dn__law_one dc__law_one) (@pe_one _ _ _ _ _ (@pe_var _ 6 _ _ rfl v_law_enough_6 dn__law_other dc__law_other)))))))) (@pss_nil _)) (@pss_cons _ _ _ _ _ (@ps_if _ _ _ _ _ _ _ _ (@pt_cmpR _ _ _ _ _ _ _ _ (@op_eq _) (@pe_ix _ _ _ _ _ _ _ (@ix_tup _) (@pe_var _ 0 _ _ rfl v_law_enough_0 dn__law_told dc__law_told) (@pe_int _ _ _ _) (fun _ _ => rfl)) (@pe_str _ _ _ _) (nomark _)) (@pss_one _ _ _ (@ps_ret _ _ _ _ (@pe_cmpR _ _ _ _ _ _ _ _ (@op_eq _) (@pe_callB _ _ _ _ _ _ _ _ _ call_len_seq g_law_enough_len M.m_len b_len (@pa_cons _ _ _ _ _ (@pe_var _ 4 _ _ rfl v_law_enough_4 dn__law_foreign dc__law_foreign) (@pa_nil _) (star1 rfl)) nn_len dn_len (star1 rfl) nost0) (@pe_int _ _ _ _) (nomark _)))) (@pss_nil _)) (@pss_cons _ _ _ _ _ (@ps_if _ _ _ _ _ _ _ _ (@pt_cmpR _ _ _ _ _ _ _ _ (@op_eq _) (@pe_ix _ _ _ _ _ _ _ (@ix_tup _) (@pe_var _ 0 _ _ rfl v_law_enough_0 dn__law_told dc__law_told) (@pe_int _ _ _ _) (fun _ _ => rfl)) (@pe_str _ _ _ _) (nomark _)) (@pss_one _ _ _ (@ps_ret _ _ _ _ (@pe_cmpR _ _ _ _ _ _ _ _ (op_notInD (hu60 hr)) (@pe_slice _ _ _ _ _ _ _ _ _ _ (sl_tupQK (K := K) rfl) (@pe_var _ 1 _ _ rfl v_law_enough_1 dn__law_number_here dc__law_number_here) (@po_none _) (@po_some _ _ _ (@pe_ix _ _ _ _ _ _ _ (@ix_tup _) (@pe_var _ 0 _ _ rfl v_law_enough_0 dn__law_told dc__law_told) (@pe_int _ _ _ _) (fun _ _ => rfl)))) (@pe_comp _ _ _ _ _ _ _ _ _ _ _ _ _ _ _ rfl (CompOk.make (N' := ["_law_told", "_law_other"]) (ix := [0]) (nl := 1) (by rfl) (fm1 rfl fm0) (by rfl) (by decide +kernel) rfl (by decide +kernel) rfl (And.intro ⟨rfl, .inl rfl, .inl rfl⟩ True.intro)) (@pi_list _ _ _ _ (@pe_var _ 4 _ _ rfl v_law_enough_4 dn__law_foreign dc__law_foreign)) (fun _ _ _ _ _ => (@pg_name _ _ 1 _ (show List.Nodup (["_law_told", "_law_other"] : List Str) from by decide) rfl (Or.inl rfl) (by first | exact .inl rfl | exact .inr rfl | assumption))) (fun _ _ _ _ _ => (@pif_nil _)) (fun _ _ _ _ _ => (@pe_slice _ _ _ _ _ _ _ _ _ _ (sl_tupQK (K := K) rfl) (@pv _ 1 _ _ (by rfl) (by first | exact Or.inl rfl | exact Or.inr (Or.inl rfl) | exact Or.inr (Or.inr rfl)) (by decide) (by decide)) (@po_none _) (@po_some _ _ _ (@pe_ix _ _ _ _ _ _ _ (ix_tupK (K := K) rfl) (@pv _ 0 _ _ (by rfl) (by first | exact Or.inl rfl | exact Or.inr (Or.inl rfl) | exact Or.inr (Or.inr rfl)) (by decide) (by decide)) (@pe_int _ _ _ _) (fun _ _ => rfl))))) (by intro _; rfl)) (by with_unfolding_all rfl)))) (@pss_nil _)) (@pss_one _ _ _ (@ps_ret _ _ _ _ (@pe_cmpR _ _ _ _ _ _ _ _ op_le (@pe_op _ _ _ _ _ _ _ _ (@op_mulB _) (@pe_ix _ _ _ _ _ _ _ (@ix_tup _) (@pe_ix _ _ _ _ _ _ _ (@ix_tup _) (@pe_var _ 0 _ _ rfl v_law_enough_0 dn__law_told dc__law_told) (@pe_int _ _ _ _) (fun _ _ => rfl)) (@pe_int _ _ _ _) (fun _ _ => rfl)) (@pe_var _ 2 _ _ rfl v_law_enough_2 dn__law_price dc__law_price)) (@pe_op _ _ _ _ _ _ _ _ (@op_mulB _) (@pe_ix _ _ _ _ _ _ _ (@ix_tup _) (@pe_ix _ _ _ _ _ _ _ (@ix_tup _) (@pe_var _ 0 _ _ rfl v_law_enough_0 dn__law_told dc__law_told) (@pe_int _ _ _ _) (fun _ _ => rfl)) (@pe_int _ _ _ _) (fun _ _ => rfl)) (@pe_var _ 3 _ _ rfl v_law_enough_3 dn__law_own dc__law_own)) (nomark _))))))), ?_⟩
  simp only [tTurn, rTurnT, tTryS, rCountT, rPop, rRep, tCont, iZipT, tChain3, tFld, sFld, tMake, tMake0, tMethD, tBM0, rUpper, tDict1T, tTryN, rSlS, rMulS, rCatS, iZipL, rInsert, rReverse, tDNewX, tTry, tRaise, iEnumL, iEnumT, iZip, iSeq, iOr, rIx, iStr, rLeS, rJoin, rSlTA, tComp_eq, tComp1, slots, Option.getD_some, Option.getD_none, tYes, tSeq, tAsg, gName, tOp, tUn, tC, tVar, tCB, tCons, tNil, tCall, rI, rI0, rU, tRet, tRetN, tIfS, tTest, tB, tAnd, tOr, tNot, tAndV, tOrV, tNotV, tIf, tChain, tMenu, tPar, tDrop, tTup, tLst, tNext, tSl, tPart, tNoPart, tNever, gTup, gCons, gNil, gSub, rSetL, tBM, rAppend, rEq, rNe, rIsi, rIxL, rIxT, rIxS, rSlL, isi_non_bl, isi_non_int, isi_non_str, isi_non_lst, isi_non_tup, isi_bl_bl, isi_bl_int, isi_bl_str, isi_bl_lst, isi_bl_tup, isi_int_bl, isi_int_int, isi_int_str, isi_int_lst, isi_int_tup, isi_str_bl, isi_str_int, isi_str_str, isi_str_lst, isi_str_tup, isi_lst_bl, isi_lst_int, isi_lst_str, isi_lst_lst, isi_lst_tup, isi_tup_bl, isi_tup_int, isi_tup_str, isi_tup_lst, isi_tup_tup, isi_dct_bl, isi_dct_int, isi_dct_str, isi_dct_lst, isi_dct_tup, Kd_non, Kd_bl, Kd_int, Kd_str, sc_non_non, sc_non_int, sc_int_non, sc_non_bl, sc_bl_non, sc_non_str, sc_str_non, sc_int_int, sc_bl_bl, sc_str_str, sc_int_str, sc_str_int, sc_bl_str, sc_str_bl, decide_true, decide_false, tFor_eq, iList, iTup, iRng1, iRng2, iRng3, rIndexT, tBM0, tBMT, tyK_int, tyK_bool, tyK_str, tyK_list, tyK_tuple, L2.start, cxK, Int.reduceToNat, List.map_cons, List.map_nil, List.length_cons, List.length_nil, Nat.reduceAdd, Nat.reduceSub, Nat.zero_add, List.replicate_succ, List.replicate_zero, List.cons_append, List.nil_append, List.append_nil, List.getElem?_cons_zero, List.getElem?_cons_succ, List.set_cons_zero, List.set_cons_succ, Option.some.injEq, V.int.injEq, V.bl.injEq, V.ref.injEq, V.str.injEq, V.ty.injEq, List.cons.injEq, exists_eq_left', exists_eq_left, exists_eq_right, exists_and_left, exists_and_right, and_true, true_and, and_assoc, exists_const, decide_eq_true_eq, Bool.not_eq_true', Bool.not_true, Bool.not_false, Bool.not_not, decide_eq_false_iff_not, ite_not, Bool.false_eq_true, if_true, if_false, reduceCtorEq, and_false, false_and, exists_false, or_false, false_or, ↓reduceIte, eq_self, reduceIte]
  cases tol_row R with
  | grown T =>
    refine ⟨_, T, _, rfl, rfl, ?_⟩
    rw [if_neg (by decide)]
    refine ⟨_, T, _, rfl, rfl, ?_⟩
    rw [if_neg (by decide)]
    refine ⟨_, T, _, rfl, rfl, ?_⟩
    rw [if_pos rfl]
    refine ⟨_, .inl en.L, ?_⟩
    have e : decide ((fx.length : Int) = 0) = decide (fs.length = 0) := decide_eq_decide.mpr (by omega)
    rw [e]
    exact q _ (Same.refl _)
  | @change dd T =>
    obtain ⟨d1, d4⟩ := ok
    obtain ⟨dn, rfl⟩ : ∃ dn : Nat, dd = dn := ⟨dd.toNat, by omega⟩
    obtain ⟨TN, L, FA, l4, p1, p12, o0, o12⟩ := en
    refine ⟨_, T, _, rfl, rfl, ?_⟩
    rw [if_neg (by decide)]
    refine ⟨_, T, _, rfl, rfl, ?_⟩
    rw [if_neg (by decide)]
    refine ⟨_, T, _, rfl, rfl, ?_⟩
    rw [if_neg (by decide)]
    refine ⟨_, T, _, rfl, rfl, ?_⟩
    rw [if_pos rfl]
    have cut : ∀ ns : List Int, cutV (ns.map V.int) none (some (dn : Int)) = (ns.take dn).map V.int := fun ns => by rw [cut_to, List.map_take]
    refine ⟨_, T, _, rfl, _, rfl, n, _, rfl, TN, fun p6 H4 S4 T6 => ?_⟩
    rw [cut] at T6
    refine ⟨⟨_, S4.seq L⟩, fun D2 hD2 => ?_⟩
    obtain ⟨Pc, hC⟩ : ∃ Pc : Nat → St → Hp → Prop, Pc = fun i τ H' => ∃ z gx, H' D2 = some (.lst gx) ∧ IntsAll K H' gx ((fs.take i).map (fun o : List Int => o.take dn)) ∧ Same H4 H' ∧ τ = [some (.ref p), z] := ⟨_, rfl⟩
    refine compS_list fx Pc ?_ (fun i τ H' _ h => by rw [hC] at h; obtain ⟨z, gx, _, _, e, _⟩ := h; exact (S4.trans e).seq L) ?_ ?_
    · rw [hC]
      exact ⟨_, [], upd_same, .nil, same_new hD2 _, rfl⟩
    · intro i x τ H' R' hx h next
      rw [hC] at h
      obtain ⟨z, gx, e1, GA, e2, rfl⟩ := h
      obtain ⟨p7, o, rfl, ho, To⟩ := (FA.same (S4.trans e2)).at hx
      have li : i < fx.length := (List.getElem?_eq_some_iff.mp hx).1
      have lg := GA.length
      rw [List.length_map, List.length_take] at lg
      simp only [tTurn, rTurnT, tTryS, rCountT, rPop, rRep, tCont, iZipT, tChain3, tFld, sFld, tMake, tMake0, tMethD, tBM0, rUpper, tDict1T, tTryN, rSlS, rMulS, rCatS, iZipL, rInsert, rReverse, tDNewX, tTry, tRaise, iEnumL, iEnumT, iZip, iSeq, iOr, rIx, iStr, rLeS, rJoin, rSlTA, tComp_eq, tComp1, slots, Option.getD_some, Option.getD_none, tYes, tSeq, tAsg, gName, tOp, tUn, tC, tVar, tCB, tCons, tNil, tCall, rI, rI0, rU, tRet, tRetN, tIfS, tTest, tB, tAnd, tOr, tNot, tAndV, tOrV, tNotV, tIf, tChain, tMenu, tPar, tDrop, tTup, tLst, tNext, tSl, tPart, tNoPart, tNever, gTup, gCons, gNil, gSub, rSetL, tBM, rAppend, rEq, rNe, rIsi, rIxL, rIxT, rIxS, rSlL, isi_non_bl, isi_non_int, isi_non_str, isi_non_lst, isi_non_tup, isi_bl_bl, isi_bl_int, isi_bl_str, isi_bl_lst, isi_bl_tup, isi_int_bl, isi_int_int, isi_int_str, isi_int_lst, isi_int_tup, isi_str_bl, isi_str_int, isi_str_str, isi_str_lst, isi_str_tup, isi_lst_bl, isi_lst_int, isi_lst_str, isi_lst_lst, isi_lst_tup, isi_tup_bl, isi_tup_int, isi_tup_str, isi_tup_lst, isi_tup_tup, isi_dct_bl, isi_dct_int, isi_dct_str, isi_dct_lst, isi_dct_tup, Kd_non, Kd_bl, Kd_int, Kd_str, sc_non_non, sc_non_int, sc_int_non, sc_non_bl, sc_bl_non, sc_non_str, sc_str_non, sc_int_int, sc_bl_bl, sc_str_str, sc_int_str, sc_str_int, sc_bl_str, sc_str_bl, decide_true, decide_false, tFor_eq, iList, iTup, iRng1, iRng2, iRng3, rIndexT, tBM0, tBMT, tyK_int, tyK_bool, tyK_str, tyK_list, tyK_tuple, L2.start, cxK, Int.reduceToNat, List.map_cons, List.map_nil, List.length_cons, List.length_nil, Nat.reduceAdd, Nat.reduceSub, Nat.zero_add, List.replicate_succ, List.replicate_zero, List.cons_append, List.nil_append, List.append_nil, List.getElem?_cons_zero, List.getElem?_cons_succ, List.set_cons_zero, List.set_cons_succ, Option.some.injEq, V.int.injEq, V.bl.injEq, V.ref.injEq, V.str.injEq, V.ty.injEq, List.cons.injEq, exists_eq_left', exists_eq_left, exists_eq_right, exists_and_left, exists_and_right, and_true, true_and, and_assoc, exists_const, decide_eq_true_eq, Bool.not_eq_true', Bool.not_true, Bool.not_false, Bool.not_not, decide_eq_false_iff_not, ite_not, Bool.false_eq_true, if_true, if_false, reduceCtorEq, and_false, false_and, exists_false, or_false, false_or, ↓reduceIte, eq_self, reduceIte]
      refine ⟨_, Same.tup (S4.trans e2) T, _, rfl, _, rfl, p7, _, rfl, To, fun p8 H5 S5 T7 => ⟨_, S5 _ _ e1, Nat.lt_of_lt_of_le (m := 64) (by omega) (by decide), next _ _ ?_⟩⟩
      rw [cut] at T7
      rw [hC]
      refine ⟨_, _, upd_same, ?_, same_upd (e2.trans S5) hD2 _, rfl⟩
      rw [List.take_add_one, ho, List.map_append]
      exact IntsAll.upd ((GA.same S5).snoc T7) (S5 _ _ e1)
    intro τ H5 h
    rw [hC] at h
    obtain ⟨z', gx, LG, GA, S5, rfl⟩ := h
    clear hC Pc
    rw [List.take_of_length_le (by omega)] at GA
    have flat1 := all_flat (fs.map (fun o : List Int => o.take dn))
    have flat2 := ints_flat (nn.take dn)
    refine ⟨D2, iD (nn.take dn), (fs.map (fun o : List Int => o.take dn)).map iD, rfl, .tup (Same.tup S5 T6) (ints_rep _), .inl (.lst (SqL.of LG) (IntsAll.rep GA)), ⟨flat2.1, by have := flat2.2; show PyData.depthAll _ + 1 ≤ 40; omega⟩, ⟨flat1.1, by have := flat1.2; show PyData.depthAll _ + 1 ≤ 40; omega⟩, ?_⟩
    rw [if_pos rfl, any_ints, changed_eq dn nn price own fs]
    exact q _ (S4.trans S5)
  | @share sp t b T T2 =>
    obtain ⟨t0, tb, b1, b9, _⟩ := ok
    obtain ⟨TN, L, FA, l4, p1, p12, o0, o12⟩ := en
    have e61 : (10 : Int) ^ 12 ≤ 10 ^ 61 := by decide
    have e62 : (10 : Int) ^ 9 ≤ 10 ^ 61 := by decide
    refine ⟨_, T, _, rfl, rfl, ?_⟩
    rw [if_neg (by decide)]
    refine ⟨_, T, _, rfl, rfl, ?_⟩
    rw [if_neg (by decide)]
    refine ⟨_, T, _, rfl, rfl, ?_⟩
    rw [if_neg (by decide)]
    refine ⟨_, T, _, rfl, rfl, ?_⟩
    rw [if_neg (by decide)]
    have e : enR (.share t b) nn price own fs = decide (t * price ≤ b * own) := by
      show decide (price * t ≤ own * b) = _
      rw [Int.mul_comm price t, Int.mul_comm own b]
    refine ⟨_, T, _, rfl, _, rfl, _, T2, _, rfl, _, rfl, cmul (by omega) (by omega) (by omega) (by omega), _, T, _, rfl, _, rfl, _, T2, _, rfl, _, rfl, cmul (by omega) (by omega) (by omega) (by omega), ?_⟩
    rw [← e]
    exact q _ (Same.refl _)
  | @al a1 a2 x y T R1 R2 =>
    have dd : max x.dp y.dp + 1 ≤ d + 1 := dp
    obtain ⟨ok1, ok2⟩ := ok
    refine ⟨_, T, _, rfl, rfl, ?_⟩
    rw [if_pos rfl]
    refine ⟨_, T, _, rfl, a1, n, fl, x, nn, price, own, fx, fs, rfl, R1, ok1, by omega, en, fun H1 S1 => ?_⟩
    refine ⟨_, Same.tup S1 T, _, rfl, a2, n, fl, y, nn, price, own, fx, fs, rfl, R2.same S1, ok2, by omega, en.same S1, fun H2 S2 => ?_⟩
    have S12 := S1.trans S2
    refine ⟨_, Same.tup S12 T, _, rfl, rfl, ?_⟩
    rw [if_pos rfl]
    have q' := q _ S12
    have e : enR (.al x y) nn price own fs = (enR x nn price own fs && enR y nn price own fs) := rfl
    rw [e] at q'
    cases h1 : enR x nn price own fs with
    | true => rw [h1, Bool.true_and] at q'; exact ⟨_, rfl, by rw [if_pos rfl]; exact q'⟩
    | false => rw [h1, Bool.false_and] at q'; exact ⟨_, rfl, by rw [if_neg (by decide)]; exact q'⟩
  | @so a1 a2 x y T R1 R2 =>
    have dd : max x.dp y.dp + 1 ≤ d + 1 := dp
    obtain ⟨ok1, ok2⟩ := ok
    refine ⟨_, T, _, rfl, rfl, ?_⟩
    rw [if_neg (by decide)]
    refine ⟨_, T, _, rfl, rfl, ?_⟩
    rw [if_pos rfl]
    refine ⟨_, T, _, rfl, a1, n, fl, x, nn, price, own, fx, fs, rfl, R1, ok1, by omega, en, fun H1 S1 => ?_⟩
    refine ⟨_, Same.tup S1 T, _, rfl, a2, n, fl, y, nn, price, own, fx, fs, rfl, R2.same S1, ok2, by omega, en.same S1, fun H2 S2 => ?_⟩
    have S12 := S1.trans S2
    refine ⟨_, Same.tup S12 T, _, rfl, rfl, ?_⟩
    rw [if_neg (by decide)]
    have q' := q _ S12
    have e : enR (.so x y) nn price own fs = (enR x nn price own fs || enR y nn price own fs) := rfl
    rw [e] at q'
    cases h1 : enR x nn price own fs with
    | true => rw [h1, Bool.true_or] at q'; exact ⟨_, rfl, by rw [if_pos rfl]; exact q'⟩
    | false => rw [h1, Bool.false_or] at q'; exact ⟨_, rfl, by rw [if_neg (by decide)]; exact q'⟩
theorem ok_law_enough (F : Fun K "_law_enough" "_law_enough" s_law_enough f fd) (M : Mg mg) (b : Binds K fd ["_law_told", "_law_number_here", "_law_price", "_law_own", "_law_foreign"] []) (kp : PySem.W.keepIn K (.ref f) = true) (m : mg "_law_enough" = some (.ref f)) : ∀ d : Nat, FnOk P w K mg base CX0 (1 + d) f fd ["_law_told", "_law_number_here", "_law_price", "_law_own", "_law_foreign"] (spLEn K d)
  | 0 => by
    refine F.ok (k := 0) sc_law_enough (fun vs H Q E h => ?_) (fun cdv A outer s H vs Q E hr h => ?_)
    · obtain ⟨p, n, fl, r, nn, price, own, fx, fs, rfl, _⟩ := h
      rfl
    obtain ⟨p, n, fl, r, nn, price, own, fx, fs, rfl, R, ok, dp, en, q⟩ := h
    have := Rl.dp_pos r
    omega
  | d + 1 => step_len F M ⟨⟨f, fd, ok_law_enough F M b kp m d, b, kp, m⟩⟩
end

theorem rEqD_self {K : PySem.W.Frag} {H : Hp} {x y : V} {d : PyData} {neg : Bool} {Q : VK} (h1 : Rep K H x d) (h2 : Rep K H y d) (fd : flatD d) (hq : Q (.bl (!neg)) H) : rEqD K neg x y H Q :=
  ⟨d, d, h1, h2, fd, fd, by
    rw [SeqAt.eqv_refl d fd.1]
    cases neg with
    | true => exact hq
    | false => exact hq⟩

def spBad (K : PySem.W.Frag) : Sp := fun vs H Q _ => ∃ (p : Addr) (c : Int) (r : Rl), vs = [.ref p, .int c] ∧ TolA K H (.ref p) r ∧ ∀ v H', Same H H' → (∀ d, RBad K H' (d + 1) v) → Q v H'
def spSpoilt (K : PySem.W.Frag) (d : Nat) : Sp := fun vs H Q _ => ∃ (p : Addr) (c : Int) (r : Rl), vs = [.ref p, .int c] ∧ TolA K H (.ref p) r ∧ r.ok ∧ r.dp ≤ d ∧ ∀ v H', Same H H' → (∀ e, d ≤ e → RBad K H' e v) → Q v H'
def spDeeper (K : PySem.W.Frag) : Sp := fun vs H Q _ => ∃ (p : Addr) (c : Int) (m : Nat) (r : Rl), vs = [.ref p, .int (m : Int), .int c] ∧ TolA K H (.ref p) r ∧ r.ok ∧ r.dp = 1 ∧ m ≤ 64 ∧ ∀ p' r' H', Same H H' → TolA K H' (.ref p') r' → r'.ok → r'.dp ≤ m + 1 → (∀ d, d ≤ m → RBad K H' d (.ref p')) → Q (.ref p') H'
def AskAt (K : PySem.W.Frag) (H : Hp) (v : V) : Prop := ∃ (p n fl : Addr) (nn : List Int) (price own : Int) (fx : List V) (fs : List (List Int)), v = .ref p ∧ SqT K H p [.ref n, .int price, .int own, .ref fl] ∧ EnC K H n fl nn price own fx fs
theorem AskAt.same {K : PySem.W.Frag} {H H' : Hp} {v : V} (h : AskAt K H v) (e : Same H H') : AskAt K H' v := by
  obtain ⟨p, n, fl, nn, price, own, fx, fs, rfl, T, en⟩ := h
  exact ⟨p, n, fl, nn, price, own, fx, fs, rfl, Same.tup e T, en.same e⟩
def spAsk (K : PySem.W.Frag) : Sp := fun vs H Q _ => ∃ (a : Addr) (ns : List Int) (k : Int), vs = [.ref a, .int k] ∧ SqL K H a (ns.map V.int) ∧ 0 ≤ k ∧ k ≤ 40 ∧ ∀ p H', Same H H' → AskAt K H' (.ref p) → Q (.ref p) H'
def spHolds (K : PySem.W.Frag) (cs : RC) : Sp := fun vs H Q _ => ∃ (a p l : Addr) (r : Rl) (x1 x2 x3 : V), vs = [.ref a, .ref p, .ref l] ∧ ObjR K cs H a r ∧ TolA K H (.ref p) r ∧ r.ok ∧ r.dp ≤ 4 ∧ H l = some (.lst [x1, x2, x3]) ∧ (∀ x ∈ [x1, x2, x3], AskAt K H x) ∧ ∀ H', Same H H' → Q (.bl true) H'
def spRefused (K : PySem.W.Frag) : Sp := fun vs H Q _ => ∃ v, vs = [v] ∧ RBad K H 4 v ∧ ∀ H', Same H H' → Q (.bl true) H'
structure RCok (K : PySem.W.Frag) (cs : RC) (cR : Addr) : Prop where
  ic : ∀ j, j < 5 → ICls K (rcCls cs j)
  kit : ∀ j, j < 5 → PySem.W.kitOne K (.ref (rcCls cs j)) (.ref cR) = some true
theorem isi_rule {K : PySem.W.Frag} {cs : RC} {cR : Addr} {H : Hp} {a : Addr} {r : Rl} {Q : VK} (ok : RCok K cs cR) (O : ObjR K cs H a r) (q : Q (.bl true) H) : rIsiO K [.ref a, .ref cR] H Q := by
  obtain ⟨dx, fs, h, _, _, h5⟩ := obj_cls O
  exact ⟨a, cR, _, dx, _, true, rfl, h, ok.ic _ h5, ok.kit _ h5, q⟩
theorem bad_plus {K : PySem.W.Frag} {H : Hp} {p : Addr} {r : Rl} (R : RowR K H p r) : ∃ xs, SqT K H p xs ∧ 1 ≤ xs.length ∧ xs.length ≤ 3 ∧ (∀ H' p', Same H H' → SqT K H' p' (xs ++ [.int 1]) → ∀ d, RBad K H' (d + 1) (.ref p')) ∧ (∀ H' p', Same H H' → SqT K H' p' (cutV xs none (some (-1))) → ∀ d, RBad K H' (d + 1) (.ref p')) := by
  cases R with
  | grown T => exact ⟨_, T, by decide, by decide, fun H' p' e T' d => .one T' (.inl (by decide)) ⟨(fun h => nomatch h), (fun v _ h => absurd h (by decide)), (fun v _ h => absurd h (by decide))⟩, fun H' p' e T' d => .nil T'⟩
  | change T => exact ⟨_, T, by simp, by simp, fun H' p' e T' d => .one T' (.inr (.inl rfl)) ⟨(fun h => nomatch h), (fun v h => by cases h), (fun v h => by cases h)⟩, fun H' p' e T' d => .one (rest := []) T' (.inl (by decide)) ⟨(fun _ => by decide), (fun v h => by cases h), (fun v h => by cases h)⟩⟩
  | share T T2 => exact ⟨_, T, by simp, by simp, fun H' p' e T' d => .one T' (.inr (.inr rfl)) ⟨(fun h => nomatch h), (fun v h => by cases h), (fun v h => by cases h)⟩, fun H' p' e T' d => .one (rest := []) T' (.inl (by decide)) ⟨(fun _ => by decide), (fun v h => by cases h), (fun v h => by cases h)⟩⟩
  | al T R1 R2 => exact ⟨_, T, by simp, by simp, fun H' p' e T' d => .one T' (.inl (by simp)) ⟨(fun h => nomatch h), (fun v h => by cases h), (fun v h => by cases h)⟩, fun H' p' e T' d => .one T' (.inl (by simp)) ⟨(fun h => nomatch h), (fun v _ h => absurd h (by decide)), (fun v _ h => absurd h (by decide))⟩⟩
  | so T R1 R2 => exact ⟨_, T, by simp, by simp, fun H' p' e T' d => .one T' (.inl (by simp)) ⟨(fun h => nomatch h), (fun v h => by cases h), (fun v h => by cases h)⟩, fun H' p' e T' d => .one T' (.inl (by simp)) ⟨(fun h => nomatch h), (fun v _ h => absurd h (by decide)), (fun v _ h => absurd h (by decide))⟩⟩
theorem bad_share {K : PySem.W.Frag} {H : Hp} {p : Addr} {v : V} (T : SqT K H p [.str "share", v]) (h : SoV K H v false) (d : Nat) : RBad K H (d + 1) (.ref p) := .one T (.inl (by simp)) ⟨(fun h => nomatch h), (fun v _ h => absurd h (by decide)), (fun u e _ => by cases e; exact h)⟩
theorem bad_change {K : PySem.W.Frag} {H : Hp} {p : Addr} {v : V} (T : SqT K H p [.str "change", v]) (h : DeV K H v false) (d : Nat) : RBad K H (d + 1) (.ref p) := .one T (.inl (by simp)) ⟨(fun h => nomatch h), (fun u e _ => by cases e; exact h), (fun v _ h => absurd h (by decide))⟩
section
variable {P : Program} {w : World} {K : PySem.W.Frag} {mg : Str → Option Value} {base : Heap} {f : Addr} {fd : FuncData} {cs : RC} {cN : Addr}
theorem ok_law_bad (F : Fun K "_law_bad" "_law_bad" s_law_bad f fd) (M : Mg mg) : FnOk P w K mg base CX0 1 f fd ["_law_told", "_law_cell"] (spBad K) := by
  refine F.ok sc_law_bad (fun vs H Q E h => ?_) (fun cdv A outer s H vs Q E hr h => ?_)
  · obtain ⟨p, c, r, rfl, _⟩ := h
    rfl
  obtain ⟨p, c, r, rfl, R, q⟩ := h
  obtain ⟨xs, T, x1, x3, bp, bm⟩ := bad_plus (tol_row R)
  refine ⟨_, (@pss_cons _ _ _ _ _ (@ps_set _ _ 2 _ _ _ _ sc_law_bad.nd rfl l_law_bad_2 (@pe_op _ _ _ _ _ _ _ _ (@op_mod _) (@pe_var _ 1 _ _ rfl v_law_bad_1 dn__law_cell dc__law_cell) (@pe_int _ _ _ _)) (swap1 rfl) (.inl rfl)) (@pss_cons _ _ _ _ _ (@ps_if _ _ _ _ _ _ _ _ (@pt_cmpR _ _ _ _ _ _ _ _ (@op_eq _) (@pe_var _ 2 _ _ rfl v_law_bad_2 dn__law_way dc__law_way) (@pe_int _ _ _ _) (nomark _)) (@pss_one _ _ _ (@ps_ret _ _ _ _ (@pe_callTy _ _ _ _ _ _ _ _ _ call_list_of g_law_bad_list M.m_list b_list (@pa_cons _ _ _ _ _ (@pe_var _ 0 _ _ rfl v_law_bad_0 dn__law_told dc__law_told) (@pa_nil _) (star1 rfl)) nn_list dn_list (star1 rfl) nost0))) (@pss_nil _)) (@pss_cons _ _ _ _ _ (@ps_if _ _ _ _ _ _ _ _ (@pt_cmpR _ _ _ _ _ _ _ _ (@op_eq _) (@pe_var _ 2 _ _ rfl v_law_bad_2 dn__law_way dc__law_way) (@pe_int _ _ _ _) (nomark _)) (@pss_one _ _ _ (@ps_ret _ _ _ _ (@pe_op _ _ _ _ _ _ _ _ op_catTQ (@pe_var _ 0 _ _ rfl v_law_bad_0 dn__law_told dc__law_told) (@pe_tup _ _ _ _ _ (@pa_cons _ _ _ _ _ (@pe_int _ _ _ _) (@pa_nil _) (star1 rfl)))))) (@pss_nil _)) (@pss_cons _ _ _ _ _ (@ps_if _ _ _ _ _ _ _ _ (@pt_cmpR _ _ _ _ _ _ _ _ (@op_eq _) (@pe_var _ 2 _ _ rfl v_law_bad_2 dn__law_way dc__law_way) (@pe_int _ _ _ _) (nomark _)) (@pss_one _ _ _ (@ps_ret _ _ _ _ (@pe_slice _ _ _ _ _ _ _ _ _ _ (sl_tupQK (K := K) rfl) (@pe_var _ 0 _ _ rfl v_law_bad_0 dn__law_told dc__law_told) (@po_none _) (@po_some _ _ _ (@pe_un _ _ _ _ _ _ (@un_neg _) (@pe_int _ _ _ _)))))) (@pss_nil _)) (@pss_cons _ _ _ _ _ (@ps_if _ _ _ _ _ _ _ _ (@pt_cmpR _ _ _ _ _ _ _ _ (@op_lt _) (@pe_var _ 2 _ _ rfl v_law_bad_2 dn__law_way dc__law_way) (@pe_int _ _ _ _) (nomark _)) (@pss_cons _ _ _ _ _ (@ps_set _ _ 3 _ _ _ _ sc_law_bad.nd rfl l_law_bad_3 (@pe_menu _ _ _ _ _ _ _ (@pa_cons _ _ _ _ _ (@pe_tup _ _ _ _ _ (@pa_cons _ _ _ _ _ (@pe_int _ _ _ _) (@pa_cons _ _ _ _ _ (@pe_int _ _ _ _) (@pa_nil _) (star1 rfl)) (star1 rfl))) (@pa_cons _ _ _ _ _ (@pe_tup _ _ _ _ _ (@pa_cons _ _ _ _ _ (@pe_int _ _ _ _) (@pa_cons _ _ _ _ _ (@pe_int _ _ _ _) (@pa_nil _) (star1 rfl)) (star1 rfl))) (@pa_cons _ _ _ _ _ (@pe_tup _ _ _ _ _ (@pa_cons _ _ _ _ _ (@pe_un _ _ _ _ _ _ (@un_neg _) (@pe_int _ _ _ _)) (@pa_cons _ _ _ _ _ (@pe_int _ _ _ _) (@pa_nil _) (star1 rfl)) (star1 rfl))) (@pa_cons _ _ _ _ _ (@pe_tup _ _ _ _ _ (@pa_cons _ _ _ _ _ (@pe_int _ _ _ _) (@pa_cons _ _ _ _ _ (@pe_op _ _ _ _ _ _ _ _ (@op_add _) (@pe_op _ _ _ _ _ _ _ _ (@op_pow _) (@pe_int _ _ _ _) (@pe_int _ _ _ _)) (@pe_int _ _ _ _)) (@pa_nil _) (star1 rfl)) (star1 rfl))) (@pa_cons _ _ _ _ _ (@pe_lst _ _ _ _ (@pa_cons _ _ _ _ _ (@pe_int _ _ _ _) (@pa_cons _ _ _ _ _ (@pe_int _ _ _ _) (@pa_nil _) (star1 rfl)) (star1 rfl))) (@pa_cons _ _ _ _ _ (@pe_tup _ _ _ _ _ (@pa_cons _ _ _ _ _ (@pe_int _ _ _ _) (@pa_cons _ _ _ _ _ (@pe_int _ _ _ _) (@pa_cons _ _ _ _ _ (@pe_int _ _ _ _) (@pa_nil _) (star1 rfl)) (star1 rfl)) (star1 rfl))) (@pa_cons _ _ _ _ _ (@pe_non _ _ _) (@pa_nil _) (star1 rfl)) (star1 rfl)) (star1 rfl)) (star1 rfl)) (star1 rfl)) (star1 rfl)) (star1 rfl)) (@pe_op _ _ _ _ _ _ _ _ (@op_sub _) (@pe_var _ 2 _ _ rfl v_law_bad_2 dn__law_way dc__law_way) (@pe_int _ _ _ _)) (fun _ _ => rfl)) (swap1 rfl) (.inl rfl)) (@pss_one _ _ _ (@ps_ret _ _ _ _ (@pe_tup _ _ _ _ _ (@pa_cons _ _ _ _ _ (@pe_str _ _ _ _) (@pa_cons _ _ _ _ _ (@pe_var _ 3 _ _ rfl v_law_bad_3 dn__law_share dc__law_share) (@pa_nil _) (star1 rfl)) (star1 rfl)))))) (@pss_nil _)) (@pss_cons _ _ _ _ _ (@ps_if _ _ _ _ _ _ _ _ (@pt_cmpR _ _ _ _ _ _ _ _ (@op_lt _) (@pe_var _ 2 _ _ rfl v_law_bad_2 dn__law_way dc__law_way) (@pe_int _ _ _ _) (nomark _)) (@pss_one _ _ _ (@ps_ret _ _ _ _ (@pe_tup _ _ _ _ _ (@pa_cons _ _ _ _ _ (@pe_str _ _ _ _) (@pa_cons _ _ _ _ _ (@pe_menu _ _ _ _ _ _ _ (@pa_cons _ _ _ _ _ (@pe_int _ _ _ _) (@pa_cons _ _ _ _ _ (@pe_int _ _ _ _) (@pa_cons _ _ _ _ _ (@pe_bl _ _ _ _) (@pa_cons _ _ _ _ _ (@pe_non _ _ _) (@pa_nil _) (star1 rfl)) (star1 rfl)) (star1 rfl)) (star1 rfl)) (@pe_op _ _ _ _ _ _ _ _ (@op_sub _) (@pe_var _ 2 _ _ rfl v_law_bad_2 dn__law_way dc__law_way) (@pe_int _ _ _ _)) (fun _ _ => rfl)) (@pa_nil _) (star1 rfl)) (star1 rfl))))) (@pss_nil _)) (@pss_one _ _ _ (@ps_ret _ _ _ _ (@pe_menu _ _ _ _ _ _ _ (@pa_cons _ _ _ _ _ (@pe_non _ _ _) (@pa_cons _ _ _ _ _ (@pe_str _ _ _ _) (@pa_cons _ _ _ _ _ (@pe_tup _ _ _ _ _ (@pa_cons _ _ _ _ _ (@pe_str _ _ _ _) (@pa_nil _) (star1 rfl))) (@pa_cons _ _ _ _ _ (@pe_tup _ _ _ _ _ (@pa_cons _ _ _ _ _ (@pe_var _ 0 _ _ rfl v_law_bad_0 dn__law_told dc__law_told) (@pa_cons _ _ _ _ _ (@pe_var _ 0 _ _ rfl v_law_bad_0 dn__law_told dc__law_told) (@pa_nil _) (star1 rfl)) (star1 rfl))) (@pa_nil _) (star1 rfl)) (star1 rfl)) (star1 rfl)) (star1 rfl)) (@pe_op _ _ _ _ _ _ _ _ (@op_sub _) (@pe_var _ 2 _ _ rfl v_law_bad_2 dn__law_way dc__law_way) (@pe_int _ _ _ _)) (fun _ _ => rfl)))))))))), ?_⟩
  simp only [tTurn, rTurnT, tTryS, rCountT, rPop, rRep, tCont, iZipT, tChain3, tFld, sFld, tMake, tMake0, tMethD, tBM0, rUpper, tDict1T, tTryN, rSlS, rMulS, rCatS, iZipL, rInsert, rReverse, tDNewX, tTry, tRaise, iEnumL, iEnumT, iZip, iSeq, iOr, rIx, iStr, rLeS, rJoin, rSlTA, tComp_eq, tComp1, slots, Option.getD_some, Option.getD_none, tYes, tSeq, tAsg, gName, tOp, tUn, tC, tVar, tCB, tCons, tNil, tCall, rI, rI0, rU, tRet, tRetN, tIfS, tTest, tB, tAnd, tOr, tNot, tAndV, tOrV, tNotV, tIf, tChain, tMenu, tPar, tDrop, tTup, tLst, tNext, tSl, tPart, tNoPart, tNever, gTup, gCons, gNil, gSub, rSetL, tBM, rAppend, rEq, rNe, rIsi, rIxL, rIxT, rIxS, rSlL, isi_non_bl, isi_non_int, isi_non_str, isi_non_lst, isi_non_tup, isi_bl_bl, isi_bl_int, isi_bl_str, isi_bl_lst, isi_bl_tup, isi_int_bl, isi_int_int, isi_int_str, isi_int_lst, isi_int_tup, isi_str_bl, isi_str_int, isi_str_str, isi_str_lst, isi_str_tup, isi_lst_bl, isi_lst_int, isi_lst_str, isi_lst_lst, isi_lst_tup, isi_tup_bl, isi_tup_int, isi_tup_str, isi_tup_lst, isi_tup_tup, isi_dct_bl, isi_dct_int, isi_dct_str, isi_dct_lst, isi_dct_tup, Kd_non, Kd_bl, Kd_int, Kd_str, sc_non_non, sc_non_int, sc_int_non, sc_non_bl, sc_bl_non, sc_non_str, sc_str_non, sc_int_int, sc_bl_bl, sc_str_str, sc_int_str, sc_str_int, sc_bl_str, sc_str_bl, decide_true, decide_false, tFor_eq, iList, iTup, iRng1, iRng2, iRng3, rIndexT, tBM0, tBMT, tyK_int, tyK_bool, tyK_str, tyK_list, tyK_tuple, L2.start, cxK, Int.reduceToNat, List.map_cons, List.map_nil, List.length_cons, List.length_nil, Nat.reduceAdd, Nat.reduceSub, Nat.zero_add, List.replicate_succ, List.replicate_zero, List.cons_append, List.nil_append, List.append_nil, List.getElem?_cons_zero, List.getElem?_cons_succ, List.set_cons_zero, List.set_cons_succ, Option.some.injEq, V.int.injEq, V.bl.injEq, V.ref.injEq, V.str.injEq, V.ty.injEq, List.cons.injEq, exists_eq_left', exists_eq_left, exists_eq_right, exists_and_left, exists_and_right, and_true, true_and, and_assoc, exists_const, decide_eq_true_eq, Bool.not_eq_true', Bool.not_true, Bool.not_false, Bool.not_not, decide_eq_false_iff_not, ite_not, Bool.false_eq_true, if_true, if_false, reduceCtorEq, and_false, false_and, exists_false, or_false, false_or, ↓reduceIte, eq_self, reduceIte]
  obtain ⟨wy, hwy, w0, w17⟩ : ∃ wy : Int, c % 18 = wy ∧ 0 ≤ wy ∧ wy ≤ 17 := ⟨_, rfl, by omega, by omega⟩
  refine ⟨by decide, ?_⟩
  rw [hwy]
  by_cases h0 : wy = 0
  · rw [if_pos h0]
    exact ⟨_, .inr T, fun l hl => q _ _ (same_new hl _) fun d => .no (Kd.lst (SqL.of upd_same)) (by decide)⟩
  rw [if_neg h0]
  by_cases h1 : wy = 1
  · rw [if_pos h1]
    refine ⟨by decide, fun p1 hp1 => ?_⟩
    obtain ⟨H1, g1, S1, T1⟩ := fresh_tup (K := K) hp1 [V.int 1]
    rw [← g1]
    clear g1
    exact ⟨p, p1, _, _, rfl, rfl, Same.tup S1 T, T1, Nat.le_trans (m := 64) (by simp only [List.length_cons, List.length_nil]; omega) (by decide), fun p4 H4 S4 T4 => q _ _ (S1.trans S4) (bp _ _ (S1.trans S4) T4)⟩
  rw [if_neg h1]
  by_cases h2 : wy = 2
  · rw [if_pos h2]
    exact ⟨p, _, rfl, T, fun p4 H4 S4 T4 => q _ _ S4 (bm _ _ S4 T4)⟩
  rw [if_neg h2]
  by_cases h10 : wy < 10
  · rw [if_pos h10]
    refine ⟨by decide, fun t0 ht0 => ?_⟩
    obtain ⟨H1, g1, S1, T1⟩ := fresh_tup (K := K) ht0 [V.int 2, V.int 4]
    rw [← g1]
    clear g1
    refine ⟨by decide, fun t1 ht1 => ?_⟩
    obtain ⟨H2, g2, S2, T2⟩ := fresh_tup (K := K) ht1 [V.int 3, V.int 2]
    rw [← g2]
    clear g2
    refine ⟨by decide, fun t2 ht2 => ?_⟩
    obtain ⟨H3, g3, S3, T3⟩ := fresh_tup (K := K) ht2 [V.int (-1), V.int 2]
    rw [← g3]
    clear g3
    refine ⟨cpow, by decide, fun t3 ht3 => ?_⟩
    obtain ⟨H4, g4, S4, T4⟩ := fresh_tup (K := K) ht3 [V.int 1, V.int (10 ^ 9 + 1)]
    rw [← g4]
    clear g4
    refine ⟨by decide, fun t4 ht4 => ?_⟩
    obtain ⟨H5, g5, S5, T5⟩ := fresh_lst (K := K) ht4 [V.int 1, V.int 2]
    rw [← g5]
    clear g5
    refine ⟨by decide, fun t5 ht5 => ?_⟩
    obtain ⟨H6, g6, S6, T6⟩ := fresh_tup (K := K) ht5 [V.int 1, V.int 2, V.int 3]
    rw [← g6]
    clear g6
    have S26 := S2.trans (S3.trans (S4.trans (S5.trans S6)))
    have S36 := S3.trans (S4.trans (S5.trans S6))
    have S46 := S4.trans (S5.trans S6)
    have S56 := S5.trans S6
    obtain ⟨i, hi, li⟩ : ∃ i : Nat, wy - 3 = (i : Int) ∧ i < 7 := ⟨(wy - 3).toNat, by omega, by omega⟩
    have all : ∀ v ∈ [V.ref t0, V.ref t1, V.ref t2, V.ref t3, V.ref t4, V.ref t5, V.non], SoV K H6 v false := by
      simp only [List.forall_mem_cons]
      have e1 : SoV K H6 (.ref t0) (decide (ShOk 2 4)) := .two (Same.tup S26 T1)
      have e2 : SoV K H6 (.ref t1) (decide (ShOk 3 2)) := .two (Same.tup S36 T2)
      have e3 : SoV K H6 (.ref t2) (decide (ShOk (-1) 2)) := .two (Same.tup S46 T3)
      have e4 : SoV K H6 (.ref t3) (decide (ShOk 1 (10 ^ 9 + 1))) := .two (Same.tup S56 T4)
      rw [decide_eq_false (fun h : ShOk 2 4 => absurd h.2.2.2.2 (by decide))] at e1
      rw [decide_eq_false (fun h : ShOk 3 2 => absurd h.2.1 (by decide))] at e2
      rw [decide_eq_false (fun h : ShOk (-1) 2 => absurd h.1 (by decide))] at e3
      rw [decide_eq_false (fun h : ShOk 1 (10 ^ 9 + 1) => absurd h.2.2.2.1 (by decide))] at e4
      exact ⟨e1, e2, e3, e4, .no (.no (Kd.lst (S6.seq T5)) (by decide)), .no (.len T6 (by decide)), .no (.no (k := .non) rfl (by decide)), fun _ h => by cases h⟩
    obtain ⟨v, hv⟩ : ∃ v, ([V.ref t0, V.ref t1, V.ref t2, V.ref t3, V.ref t4, V.ref t5, V.non] : List V)[i]? = some v := ⟨_, List.getElem?_eq_getElem (by show i < 7; omega)⟩
    have sv := all v (List.mem_of_getElem? hv)
    refine ⟨by decide, by omega, _, (by rw [hi, Int.toNat_natCast]; exact hv), by decide, fun p hp => ?_⟩
    exact q _ _ (S1.trans (S26.trans (same_new hp _))) (bad_share (SqT.of upd_same) (sv.same (same_new hp _)))
  rw [if_neg h10]
  by_cases h14 : wy < 14
  · rw [if_pos h14]
    obtain ⟨i, hi, li⟩ : ∃ i : Nat, wy - 10 = (i : Int) ∧ i < 4 := ⟨(wy - 10).toNat, by omega, by omega⟩
    have all : ∀ v ∈ [V.int 0, V.int 5, V.bl true, V.non], DeV K H v false := by
      simp only [List.forall_mem_cons]
      have e1 : DeV K H (.int 0) (decide ((1 : Int) ≤ 0 ∧ (0 : Int) ≤ 4)) := .int
      have e2 : DeV K H (.int 5) (decide ((1 : Int) ≤ 5 ∧ (5 : Int) ≤ 4)) := .int
      exact ⟨e1, e2, .no (k := .bl) rfl (by decide), .no (k := .non) rfl (by decide), fun _ h => by cases h⟩
    obtain ⟨v, hv⟩ : ∃ v, ([V.int 0, V.int 5, V.bl true, V.non] : List V)[i]? = some v := ⟨_, List.getElem?_eq_getElem (by show i < 4; omega)⟩
    have sv := all v (List.mem_of_getElem? hv)
    refine ⟨by decide, by omega, _, (by rw [hi, Int.toNat_natCast]; exact hv), by decide, fun p hp => ?_⟩
    exact q _ _ (same_new hp _) (bad_change (SqT.of upd_same) (sv.same (same_new hp _)))
  rw [if_neg h14]
  refine ⟨by decide, fun t0 ht0 => ?_⟩
  obtain ⟨H1, g1, S1, T1⟩ := fresh_tup (K := K) ht0 [V.str (Str.ofString "raised")]
  rw [← g1]
  clear g1
  refine ⟨by decide, fun t1 ht1 => ?_⟩
  obtain ⟨H2, g2, S2, T2⟩ := fresh_tup (K := K) ht1 [V.ref p, V.ref p]
  rw [← g2]
  clear g2
  obtain ⟨i, hi, li⟩ : ∃ i : Nat, wy - 14 = (i : Int) ∧ i < 4 := ⟨(wy - 14).toNat, by omega, by omega⟩
  have all : ∀ v ∈ [V.non, V.str (Str.ofString "grown"), V.ref t0, V.ref t1], ∀ d, RBad K H2 (d + 1) v := by
    simp only [List.forall_mem_cons]
    exact ⟨fun d => .no (k := .non) rfl (by decide), fun d => .no (k := .str) rfl (by decide), fun d => .one (rest := []) (Same.tup S2 T1) (.inl (by decide)) ⟨(fun _ => by decide), (fun v h => by cases h), (fun v h => by cases h)⟩, fun d => .head T2 (Kd.tup (Same.tup (S1.trans S2) T)) (by decide), fun _ h => by cases h⟩
  obtain ⟨v, hv⟩ : ∃ v, ([V.non, V.str (Str.ofString "grown"), V.ref t0, V.ref t1] : List V)[i]? = some v := ⟨_, List.getElem?_eq_getElem (by show i < 4; omega)⟩
  exact ⟨by decide, by omega, _, (by rw [hi, Int.toNat_natCast]; exact hv), q _ _ (S1.trans S2) (all v (List.mem_of_getElem? hv))⟩
theorem step_spoilt {d : Nat} (F : Fun K "_law_spoilt" "_law_spoilt" s_law_spoilt f fd) (M : Mg mg) (C_law_bad : Cal P w K mg base CX0 "_law_bad" 1 ["_law_told", "_law_cell"] (spBad K)) (C_law_spoilt : Cal P w K mg base CX0 "_law_spoilt" (2 + d) ["_law_told", "_law_cell"] (spSpoilt K d)) : FnOk P w K mg base CX0 (2 + d + 1) f fd ["_law_told", "_law_cell"] (spSpoilt K (d + 1)) := by
  refine F.ok sc_law_spoilt (fun vs H Q E h => ?_) (fun cdv A outer s H vs Q E hr h => ?_)
  · obtain ⟨p, c, r, rfl, _⟩ := h
    rfl
  obtain ⟨p, c, r, rfl, R, ok, dp, q⟩ := h
  have bad : spBad K [V.ref p, V.int (c / 3)] H Q E0 := ⟨p, _, r, rfl, R, fun v H' S B => q v H' S fun e he => by
    obtain ⟨e', rfl⟩ : ∃ e', e = e' + 1 := ⟨e - 1, by omega⟩
    exact B e'⟩
  refine ⟨_, (@pss_cons _ _ _ _ _ (@ps_set _ _ 2 _ _ _ _ sc_law_spoilt.nd rfl l_law_spoilt_2 (@pe_op _ _ _ _ _ _ _ _ (@op_mod _) (@pe_var _ 1 _ _ rfl v_law_spoilt_1 dn__law_cell dc__law_cell) (@pe_int _ _ _ _)) (swap1 rfl) (.inl rfl)) (@pss_cons _ _ _ _ _ (@ps_if _ _ _ _ _ _ _ _ (@PW.pt _ _ _ (@pw_and _ _ _ _ _ _ _ (@PW.pt _ _ _ (@pw_or _ _ _ _ _ _ _ (@pt_cmpR _ _ _ _ _ _ _ _ (@op_eq _) (@pe_ix _ _ _ _ _ _ _ (@ix_tup _) (@pe_var _ 0 _ _ rfl v_law_spoilt_0 dn__law_told dc__law_told) (@pe_int _ _ _ _) (fun _ _ => rfl)) (@pe_str _ _ _ _) (nomark _)) (@pw_or1 _ _ _ _ (@pt_cmpR _ _ _ _ _ _ _ _ (@op_eq _) (@pe_ix _ _ _ _ _ _ _ (@ix_tup _) (@pe_var _ 0 _ _ rfl v_law_spoilt_0 dn__law_told dc__law_told) (@pe_int _ _ _ _) (fun _ _ => rfl)) (@pe_str _ _ _ _) (nomark _))))) (@pw_and1 _ _ _ _ (@pt_cmpR _ _ _ _ _ _ _ _ (@op_gt _) (@pe_var _ 2 _ _ rfl v_law_spoilt_2 dn__law_side dc__law_side) (@pe_int _ _ _ _) (nomark _))))) (@pss_cons _ _ _ _ _ (@ps_set _ _ 3 _ _ _ _ sc_law_spoilt.nd rfl l_law_spoilt_3 (@pe_callC _ _ _ _ _ _ _ _ _ _ _ C_law_spoilt hr g_law_spoilt__law_spoilt (@pa_cons _ _ _ _ _ (@pe_ix _ _ _ _ _ _ _ (@ix_tup _) (@pe_var _ 0 _ _ rfl v_law_spoilt_0 dn__law_told dc__law_told) (@pe_var _ 2 _ _ rfl v_law_spoilt_2 dn__law_side dc__law_side) (fun _ _ => rfl)) (@pa_cons _ _ _ _ _ (@pe_op _ _ _ _ _ _ _ _ (@op_fdivB _) (@pe_var _ 1 _ _ rfl v_law_spoilt_1 dn__law_cell dc__law_cell) (@pe_int _ _ _ _)) (@pa_nil _) (star1 rfl)) (star1 rfl)) (by omega) dn__law_spoilt (star1 rfl) (nost1 rfl nost0)) (swap1 rfl) (.inl rfl)) (@pss_cons _ _ _ _ _ (@ps_if _ _ _ _ _ _ _ _ (@pt_cmpR _ _ _ _ _ _ _ _ (@op_eq _) (@pe_var _ 2 _ _ rfl v_law_spoilt_2 dn__law_side dc__law_side) (@pe_int _ _ _ _) (nomark _)) (@pss_one _ _ _ (@ps_ret _ _ _ _ (@pe_tup _ _ _ _ _ (@pa_cons _ _ _ _ _ (@pe_ix _ _ _ _ _ _ _ (@ix_tup _) (@pe_var _ 0 _ _ rfl v_law_spoilt_0 dn__law_told dc__law_told) (@pe_int _ _ _ _) (fun _ _ => rfl)) (@pa_cons _ _ _ _ _ (@pe_var _ 3 _ _ rfl v_law_spoilt_3 dn__law_inner dc__law_inner) (@pa_cons _ _ _ _ _ (@pe_ix _ _ _ _ _ _ _ (@ix_tup _) (@pe_var _ 0 _ _ rfl v_law_spoilt_0 dn__law_told dc__law_told) (@pe_int _ _ _ _) (fun _ _ => rfl)) (@pa_nil _) (star1 rfl)) (star1 rfl)) (star1 rfl))))) (@pss_nil _)) (@pss_one _ _ _ (@ps_ret _ _ _ _ (@pe_tup _ _ _ _ _ (@pa_cons _ _ _ _ _ (@pe_ix _ _ _ _ _ _ _ (@ix_tup _) (@pe_var _ 0 _ _ rfl v_law_spoilt_0 dn__law_told dc__law_told) (@pe_int _ _ _ _) (fun _ _ => rfl)) (@pa_cons _ _ _ _ _ (@pe_ix _ _ _ _ _ _ _ (@ix_tup _) (@pe_var _ 0 _ _ rfl v_law_spoilt_0 dn__law_told dc__law_told) (@pe_int _ _ _ _) (fun _ _ => rfl)) (@pa_cons _ _ _ _ _ (@pe_var _ 3 _ _ rfl v_law_spoilt_3 dn__law_inner dc__law_inner) (@pa_nil _) (star1 rfl)) (star1 rfl)) (star1 rfl))))))) (@pss_nil _)) (@pss_one _ _ _ (@ps_ret _ _ _ _ (@pe_callC _ _ _ _ _ _ _ _ _ _ _ C_law_bad hr g_law_spoilt__law_bad (@pa_cons _ _ _ _ _ (@pe_var _ 0 _ _ rfl v_law_spoilt_0 dn__law_told dc__law_told) (@pa_cons _ _ _ _ _ (@pe_op _ _ _ _ _ _ _ _ (@op_fdivB _) (@pe_var _ 1 _ _ rfl v_law_spoilt_1 dn__law_cell dc__law_cell) (@pe_int _ _ _ _)) (@pa_nil _) (star1 rfl)) (star1 rfl)) (by omega) dn__law_bad (star1 rfl) (nost1 rfl nost0)))))), ?_⟩
  simp only [tTurn, rTurnT, tTryS, rCountT, rPop, rRep, tCont, iZipT, tChain3, tFld, sFld, tMake, tMake0, tMethD, tBM0, rUpper, tDict1T, tTryN, rSlS, rMulS, rCatS, iZipL, rInsert, rReverse, tDNewX, tTry, tRaise, iEnumL, iEnumT, iZip, iSeq, iOr, rIx, iStr, rLeS, rJoin, rSlTA, tComp_eq, tComp1, slots, Option.getD_some, Option.getD_none, tYes, tSeq, tAsg, gName, tOp, tUn, tC, tVar, tCB, tCons, tNil, tCall, rI, rI0, rU, tRet, tRetN, tIfS, tTest, tB, tAnd, tOr, tNot, tAndV, tOrV, tNotV, tIf, tChain, tMenu, tPar, tDrop, tTup, tLst, tNext, tSl, tPart, tNoPart, tNever, gTup, gCons, gNil, gSub, rSetL, tBM, rAppend, rEq, rNe, rIsi, rIxL, rIxT, rIxS, rSlL, isi_non_bl, isi_non_int, isi_non_str, isi_non_lst, isi_non_tup, isi_bl_bl, isi_bl_int, isi_bl_str, isi_bl_lst, isi_bl_tup, isi_int_bl, isi_int_int, isi_int_str, isi_int_lst, isi_int_tup, isi_str_bl, isi_str_int, isi_str_str, isi_str_lst, isi_str_tup, isi_lst_bl, isi_lst_int, isi_lst_str, isi_lst_lst, isi_lst_tup, isi_tup_bl, isi_tup_int, isi_tup_str, isi_tup_lst, isi_tup_tup, isi_dct_bl, isi_dct_int, isi_dct_str, isi_dct_lst, isi_dct_tup, Kd_non, Kd_bl, Kd_int, Kd_str, sc_non_non, sc_non_int, sc_int_non, sc_non_bl, sc_bl_non, sc_non_str, sc_str_non, sc_int_int, sc_bl_bl, sc_str_str, sc_int_str, sc_str_int, sc_bl_str, sc_str_bl, decide_true, decide_false, tFor_eq, iList, iTup, iRng1, iRng2, iRng3, rIndexT, tBM0, tBMT, tyK_int, tyK_bool, tyK_str, tyK_list, tyK_tuple, L2.start, cxK, Int.reduceToNat, List.map_cons, List.map_nil, List.length_cons, List.length_nil, Nat.reduceAdd, Nat.reduceSub, Nat.zero_add, List.replicate_succ, List.replicate_zero, List.cons_append, List.nil_append, List.append_nil, List.getElem?_cons_zero, List.getElem?_cons_succ, List.set_cons_zero, List.set_cons_succ, Option.some.injEq, V.int.injEq, V.bl.injEq, V.ref.injEq, V.str.injEq, V.ty.injEq, List.cons.injEq, exists_eq_left', exists_eq_left, exists_eq_right, exists_and_left, exists_and_right, and_true, true_and, and_assoc, exists_const, decide_eq_true_eq, Bool.not_eq_true', Bool.not_true, Bool.not_false, Bool.not_not, decide_eq_false_iff_not, ite_not, Bool.false_eq_true, if_true, if_false, reduceCtorEq, and_false, false_and, exists_false, or_false, false_or, ↓reduceIte, eq_self, reduceIte]
  refine ⟨by decide, ?_⟩
  cases tol_row R with
  | grown T =>
    refine ⟨_, T, _, rfl, rfl, ?_⟩
    rw [if_neg (by decide)]
    refine ⟨_, T, _, rfl, rfl, ?_⟩
    rw [if_neg (by decide)]
    exact ⟨cdiv (by decide) (by decide), bad⟩
  | change T =>
    refine ⟨_, T, _, rfl, rfl, ?_⟩
    rw [if_neg (by decide)]
    refine ⟨_, T, _, rfl, rfl, ?_⟩
    rw [if_neg (by decide)]
    exact ⟨cdiv (by decide) (by decide), bad⟩
  | share T T2 =>
    refine ⟨_, T, _, rfl, rfl, ?_⟩
    rw [if_neg (by decide)]
    refine ⟨_, T, _, rfl, rfl, ?_⟩
    rw [if_neg (by decide)]
    exact ⟨cdiv (by decide) (by decide), bad⟩
  | @al a1 a2 x y T R1 R2 =>
    obtain ⟨sd, hsd, s0, s2⟩ : ∃ sd : Int, c % 3 = sd ∧ 0 ≤ sd ∧ sd ≤ 2 := ⟨_, rfl, by omega, by omega⟩
    rw [hsd]
    have dd : max x.dp y.dp + 1 ≤ d + 1 := dp
    obtain ⟨ok1, ok2⟩ := ok
    refine ⟨_, T, _, rfl, rfl, ?_⟩
    rw [if_pos rfl]
    by_cases hs : 0 < sd
    · rw [if_pos hs]
      have : sd = 1 ∨ sd = 2 := by omega
      rcases this with e1 | e1 <;> subst e1
      · refine ⟨_, T, _, rfl, cdiv (by decide) (by decide), a1, _, x, rfl, R1, ok1, by omega, fun v H1 S1 B => ?_⟩
        show (if (1 : Int) = 1 then _ else _)
        rw [if_pos rfl]
        refine ⟨_, Same.tup S1 T, _, rfl, _, Same.tup S1 T, _, rfl, by decide, fun p2 hp2 => q _ _ (S1.trans (same_new hp2 _)) fun e he => ?_⟩
        obtain ⟨e', rfl⟩ : ∃ e', e = e' + 1 := ⟨e - 1, by omega⟩
        exact .fst (.inl rfl) (SqT.of upd_same) ((B e' (by omega)).same (same_new hp2 _))
      · refine ⟨_, T, _, rfl, cdiv (by decide) (by decide), a2, _, y, rfl, R2, ok2, by omega, fun v H1 S1 B => ?_⟩
        show (if (2 : Int) = 1 then _ else _)
        rw [if_neg (by decide)]
        refine ⟨_, Same.tup S1 T, _, rfl, _, Same.tup S1 T, _, rfl, by decide, fun p2 hp2 => q _ _ (S1.trans (same_new hp2 _)) fun e he => ?_⟩
        obtain ⟨e', rfl⟩ : ∃ e', e = e' + 1 := ⟨e - 1, by omega⟩
        exact .snd (.inl rfl) (SqT.of upd_same) (R1.same (S1.trans (same_new hp2 _))) ok1 (by omega) ((B e' (by omega)).same (same_new hp2 _))
    · rw [if_neg hs]
      exact ⟨cdiv (by decide) (by decide), bad⟩
  | @so a1 a2 x y T R1 R2 =>
    refine ⟨_, T, _, rfl, rfl, ?_⟩
    rw [if_neg (by decide)]
    obtain ⟨sd, hsd, s0, s2⟩ : ∃ sd : Int, c % 3 = sd ∧ 0 ≤ sd ∧ sd ≤ 2 := ⟨_, rfl, by omega, by omega⟩
    rw [hsd]
    have dd : max x.dp y.dp + 1 ≤ d + 1 := dp
    obtain ⟨ok1, ok2⟩ := ok
    refine ⟨_, T, _, rfl, rfl, ?_⟩
    rw [if_pos rfl]
    by_cases hs : 0 < sd
    · rw [if_pos hs]
      have : sd = 1 ∨ sd = 2 := by omega
      rcases this with e1 | e1 <;> subst e1
      · refine ⟨_, T, _, rfl, cdiv (by decide) (by decide), a1, _, x, rfl, R1, ok1, by omega, fun v H1 S1 B => ?_⟩
        show (if (1 : Int) = 1 then _ else _)
        rw [if_pos rfl]
        refine ⟨_, Same.tup S1 T, _, rfl, _, Same.tup S1 T, _, rfl, by decide, fun p2 hp2 => q _ _ (S1.trans (same_new hp2 _)) fun e he => ?_⟩
        obtain ⟨e', rfl⟩ : ∃ e', e = e' + 1 := ⟨e - 1, by omega⟩
        exact .fst (.inr rfl) (SqT.of upd_same) ((B e' (by omega)).same (same_new hp2 _))
      · refine ⟨_, T, _, rfl, cdiv (by decide) (by decide), a2, _, y, rfl, R2, ok2, by omega, fun v H1 S1 B => ?_⟩
        show (if (2 : Int) = 1 then _ else _)
        rw [if_neg (by decide)]
        refine ⟨_, Same.tup S1 T, _, rfl, _, Same.tup S1 T, _, rfl, by decide, fun p2 hp2 => q _ _ (S1.trans (same_new hp2 _)) fun e he => ?_⟩
        obtain ⟨e', rfl⟩ : ∃ e', e = e' + 1 := ⟨e - 1, by omega⟩
        exact .snd (.inr rfl) (SqT.of upd_same) (R1.same (S1.trans (same_new hp2 _))) ok1 (by omega) ((B e' (by omega)).same (same_new hp2 _))
    · rw [if_neg hs]
      exact ⟨cdiv (by decide) (by decide), bad⟩
theorem ok_law_spoilt (F : Fun K "_law_spoilt" "_law_spoilt" s_law_spoilt f fd) (M : Mg mg) (C_law_bad : Cal P w K mg base CX0 "_law_bad" 1 ["_law_told", "_law_cell"] (spBad K)) (b : Binds K fd ["_law_told", "_law_cell"] []) (kp : PySem.W.keepIn K (.ref f) = true) (m : mg "_law_spoilt" = some (.ref f)) : ∀ d : Nat, FnOk P w K mg base CX0 (2 + d) f fd ["_law_told", "_law_cell"] (spSpoilt K d)
  | 0 => by
    refine F.ok (k := 1) sc_law_spoilt (fun vs H Q E h => ?_) (fun cdv A outer s H vs Q E hr h => ?_)
    · obtain ⟨p, c, r, rfl, _⟩ := h
      rfl
    obtain ⟨p, c, r, rfl, R, ok, dp, q⟩ := h
    have := Rl.dp_pos r
    omega
  | d + 1 => step_spoilt F M C_law_bad ⟨⟨f, fd, ok_law_spoilt F M C_law_bad b kp m d, b, kp, m⟩⟩
end

section
variable {P : Program} {w : World} {K : PySem.W.Frag} {mg : Str → Option Value} {base : Heap} {f : Addr} {fd : FuncData} {cs : RC} {cN : Addr}
theorem ok_law_deeper (F : Fun K "_law_deeper" "_law_deeper" s_law_deeper f fd) (M : Mg mg) : FnOk P w K mg base CX0 1 f fd ["_law_told", "_law_more", "_law_cell"] (spDeeper K) := by
  refine F.ok sc_law_deeper (fun vs H Q E h => ?_) (fun cdv A outer s H vs Q E hr h => ?_)
  · obtain ⟨p, c, m, r, rfl, _⟩ := h
    rfl
  obtain ⟨p, c, m, r, rfl, R, ok, dp, m64, q⟩ := h
  refine ⟨_, (@pss_cons _ _ _ _ _ (@ps_for _ _ _ _ _ _ _ _ PassesOwn.never rfl (@pi_range1 _ _ _ _ _ _ g_law_deeper_range M.m_range (@pa_cons _ _ _ _ _ (@pe_var _ 1 _ _ rfl v_law_deeper_1 dn__law_more dc__law_more) (@pa_nil _) (star1 rfl)) (star1' rfl)) (@pg_name _ _ 3 _ sc_law_deeper.nd rfl l_law_deeper_3 (.inl rfl)) (@pss_cons _ _ _ _ _ (@ps_set _ _ 4 _ _ _ _ sc_law_deeper.nd rfl l_law_deeper_4 (@pe_menu _ _ _ _ _ _ _ (@pa_cons _ _ _ _ _ (@pe_str _ _ _ _) (@pa_cons _ _ _ _ _ (@pe_str _ _ _ _) (@pa_nil _) (star1 rfl)) (star1 rfl)) (@pe_op _ _ _ _ _ _ _ _ (@op_mod _) (@pe_var _ 2 _ _ rfl v_law_deeper_2 dn__law_cell dc__law_cell) (@pe_int _ _ _ _)) (fun _ _ => rfl)) (swap1 rfl) (.inl rfl)) (@pss_cons _ _ _ _ _ (@ps_set _ _ 2 _ _ _ _ sc_law_deeper.nd rfl l_law_deeper_2 (@pe_op _ _ _ _ _ _ _ _ (@op_fdivB _) (@pe_var _ 2 _ _ rfl v_law_deeper_2 dn__law_cell dc__law_cell) (@pe_int _ _ _ _)) (swap1 rfl) (.inl rfl)) (@pss_cons _ _ _ _ _ (@ps_if _ _ _ _ _ _ _ _ (@pt_cmpR _ _ _ _ _ _ _ _ (@op_eq _) (@pe_op _ _ _ _ _ _ _ _ (@op_mod _) (@pe_var _ 2 _ _ rfl v_law_deeper_2 dn__law_cell dc__law_cell) (@pe_int _ _ _ _)) (@pe_int _ _ _ _) (nomark _)) (@pss_one _ _ _ (@ps_set _ _ 0 _ _ _ _ sc_law_deeper.nd rfl l_law_deeper_0 (@pe_tup _ _ _ _ _ (@pa_cons _ _ _ _ _ (@pe_var _ 4 _ _ rfl v_law_deeper_4 dn__law_word dc__law_word) (@pa_cons _ _ _ _ _ (@pe_var _ 0 _ _ rfl v_law_deeper_0 dn__law_told dc__law_told) (@pa_cons _ _ _ _ _ (@pe_tup _ _ _ _ _ (@pa_cons _ _ _ _ _ (@pe_str _ _ _ _) (@pa_nil _) (star1 rfl))) (@pa_nil _) (star1 rfl)) (star1 rfl)) (star1 rfl))) (swap1 rfl) (.inl rfl))) (@pss_one _ _ _ (@ps_set _ _ 0 _ _ _ _ sc_law_deeper.nd rfl l_law_deeper_0 (@pe_tup _ _ _ _ _ (@pa_cons _ _ _ _ _ (@pe_var _ 4 _ _ rfl v_law_deeper_4 dn__law_word dc__law_word) (@pa_cons _ _ _ _ _ (@pe_tup _ _ _ _ _ (@pa_cons _ _ _ _ _ (@pe_str _ _ _ _) (@pa_cons _ _ _ _ _ (@pe_int _ _ _ _) (@pa_nil _) (star1 rfl)) (star1 rfl))) (@pa_cons _ _ _ _ _ (@pe_var _ 0 _ _ rfl v_law_deeper_0 dn__law_told dc__law_told) (@pa_nil _) (star1 rfl)) (star1 rfl)) (star1 rfl))) (swap1 rfl) (.inl rfl)))) (@pss_one _ _ _ (@ps_set _ _ 2 _ _ _ _ sc_law_deeper.nd rfl l_law_deeper_2 (@pe_op _ _ _ _ _ _ _ _ (@op_fdivB _) (@pe_var _ 2 _ _ rfl v_law_deeper_2 dn__law_cell dc__law_cell) (@pe_int _ _ _ _)) (swap1 rfl) (.inl rfl)))))) (by intro _; rfl)) (@pss_one _ _ _ (@ps_ret _ _ _ _ (@pe_var _ 0 _ _ rfl v_law_deeper_0 dn__law_told dc__law_told)))), ?_⟩
  simp only [tTurn, rTurnT, tTryS, rCountT, rPop, rRep, tCont, iZipT, tChain3, tFld, sFld, tMake, tMake0, tMethD, tBM0, rUpper, tDict1T, tTryN, rSlS, rMulS, rCatS, iZipL, rInsert, rReverse, tDNewX, tTry, tRaise, iEnumL, iEnumT, iZip, iSeq, iOr, rIx, iStr, rLeS, rJoin, rSlTA, tComp_eq, tComp1, slots, Option.getD_some, Option.getD_none, tYes, tSeq, tAsg, gName, tOp, tUn, tC, tVar, tCB, tCons, tNil, tCall, rI, rI0, rU, tRet, tRetN, tIfS, tTest, tB, tAnd, tOr, tNot, tAndV, tOrV, tNotV, tIf, tChain, tMenu, tPar, tDrop, tTup, tLst, tNext, tSl, tPart, tNoPart, tNever, gTup, gCons, gNil, gSub, rSetL, tBM, rAppend, rEq, rNe, rIsi, rIxL, rIxT, rIxS, rSlL, isi_non_bl, isi_non_int, isi_non_str, isi_non_lst, isi_non_tup, isi_bl_bl, isi_bl_int, isi_bl_str, isi_bl_lst, isi_bl_tup, isi_int_bl, isi_int_int, isi_int_str, isi_int_lst, isi_int_tup, isi_str_bl, isi_str_int, isi_str_str, isi_str_lst, isi_str_tup, isi_lst_bl, isi_lst_int, isi_lst_str, isi_lst_lst, isi_lst_tup, isi_tup_bl, isi_tup_int, isi_tup_str, isi_tup_lst, isi_tup_tup, isi_dct_bl, isi_dct_int, isi_dct_str, isi_dct_lst, isi_dct_tup, Kd_non, Kd_bl, Kd_int, Kd_str, sc_non_non, sc_non_int, sc_int_non, sc_non_bl, sc_bl_non, sc_non_str, sc_str_non, sc_int_int, sc_bl_bl, sc_str_str, sc_int_str, sc_str_int, sc_bl_str, sc_str_bl, decide_true, decide_false, tFor_eq, iList, iTup, iRng1, iRng2, iRng3, rIndexT, tBM0, tBMT, tyK_int, tyK_bool, tyK_str, tyK_list, tyK_tuple, L2.start, cxK, Int.reduceToNat, List.map_cons, List.map_nil, List.length_cons, List.length_nil, Nat.reduceAdd, Nat.reduceSub, Nat.zero_add, List.replicate_succ, List.replicate_zero, List.cons_append, List.nil_append, List.append_nil, List.getElem?_cons_zero, List.getElem?_cons_succ, List.set_cons_zero, List.set_cons_succ, Option.some.injEq, V.int.injEq, V.bl.injEq, V.ref.injEq, V.str.injEq, V.ty.injEq, List.cons.injEq, exists_eq_left', exists_eq_left, exists_eq_right, exists_and_left, exists_and_right, and_true, true_and, and_assoc, exists_const, decide_eq_true_eq, Bool.not_eq_true', Bool.not_true, Bool.not_false, Bool.not_not, decide_eq_false_iff_not, ite_not, Bool.false_eq_true, if_true, if_false, reduceCtorEq, and_false, false_and, exists_false, or_false, false_or, ↓reduceIte, eq_self, reduceIte]
  refine ⟨by omega, by omega, ?_⟩
  obtain ⟨Pv, hP⟩ : ∃ Pv : Nat → St → Hp → Prop, Pv = fun i σ H' => ∃ p' c' r' o3 o4, σ = [some (V.ref p'), some (.int (m : Int)), some (.int c'), o3, o4] ∧ Same H H' ∧ TolA K H' (.ref p') r' ∧ r'.ok ∧ r'.dp ≤ i + 1 ∧ ∀ d, d ≤ i → RBad K H' d (.ref p') := ⟨_, rfl⟩
  refine forW_range Pv ?_ ?_ ?_
  · rw [hP]
    exact ⟨_, _, r, _, _, rfl, Same.refl _, R, ok, by omega, fun d hd => by rw [Nat.le_zero.mp hd]; exact .zero _⟩
  · intro i σ H' hi h
    rw [hP] at h
    obtain ⟨p', c', r', o3, o4, rfl, S, R', ok', dp', B⟩ := h
    simp only [tTurn, rTurnT, tTryS, rCountT, rPop, rRep, tCont, iZipT, tChain3, tFld, sFld, tMake, tMake0, tMethD, tBM0, rUpper, tDict1T, tTryN, rSlS, rMulS, rCatS, iZipL, rInsert, rReverse, tDNewX, tTry, tRaise, iEnumL, iEnumT, iZip, iSeq, iOr, rIx, iStr, rLeS, rJoin, rSlTA, tComp_eq, tComp1, slots, Option.getD_some, Option.getD_none, tYes, tSeq, tAsg, gName, tOp, tUn, tC, tVar, tCB, tCons, tNil, tCall, rI, rI0, rU, tRet, tRetN, tIfS, tTest, tB, tAnd, tOr, tNot, tAndV, tOrV, tNotV, tIf, tChain, tMenu, tPar, tDrop, tTup, tLst, tNext, tSl, tPart, tNoPart, tNever, gTup, gCons, gNil, gSub, rSetL, tBM, rAppend, rEq, rNe, rIsi, rIxL, rIxT, rIxS, rSlL, isi_non_bl, isi_non_int, isi_non_str, isi_non_lst, isi_non_tup, isi_bl_bl, isi_bl_int, isi_bl_str, isi_bl_lst, isi_bl_tup, isi_int_bl, isi_int_int, isi_int_str, isi_int_lst, isi_int_tup, isi_str_bl, isi_str_int, isi_str_str, isi_str_lst, isi_str_tup, isi_lst_bl, isi_lst_int, isi_lst_str, isi_lst_lst, isi_lst_tup, isi_tup_bl, isi_tup_int, isi_tup_str, isi_tup_lst, isi_tup_tup, isi_dct_bl, isi_dct_int, isi_dct_str, isi_dct_lst, isi_dct_tup, Kd_non, Kd_bl, Kd_int, Kd_str, sc_non_non, sc_non_int, sc_int_non, sc_non_bl, sc_bl_non, sc_non_str, sc_str_non, sc_int_int, sc_bl_bl, sc_str_str, sc_int_str, sc_str_int, sc_bl_str, sc_str_bl, decide_true, decide_false, tFor_eq, iList, iTup, iRng1, iRng2, iRng3, rIndexT, tBM0, tBMT, tyK_int, tyK_bool, tyK_str, tyK_list, tyK_tuple, L2.start, cxK, Int.reduceToNat, List.map_cons, List.map_nil, List.length_cons, List.length_nil, Nat.reduceAdd, Nat.reduceSub, Nat.zero_add, List.replicate_succ, List.replicate_zero, List.cons_append, List.nil_append, List.append_nil, List.getElem?_cons_zero, List.getElem?_cons_succ, List.set_cons_zero, List.set_cons_succ, Option.some.injEq, V.int.injEq, V.bl.injEq, V.ref.injEq, V.str.injEq, V.ty.injEq, List.cons.injEq, exists_eq_left', exists_eq_left, exists_eq_right, exists_and_left, exists_and_right, and_true, true_and, and_assoc, exists_const, decide_eq_true_eq, Bool.not_eq_true', Bool.not_true, Bool.not_false, Bool.not_not, decide_eq_false_iff_not, ite_not, Bool.false_eq_true, if_true, if_false, reduceCtorEq, and_false, false_and, exists_false, or_false, false_or, ↓reduceIte, eq_self, reduceIte]
    obtain ⟨z, hz, hzz⟩ : ∃ z : Str, [V.str (Str.ofString "all"), V.str (Str.ofString "some")][(c' % 2).toNat]? = some (V.str z) ∧ (z = "all" ∨ z = "some") := by
      have : c' % 2 = 0 ∨ c' % 2 = 1 := by omega
      rcases this with e | e <;> rw [e]
      · exact ⟨_, rfl, .inl rfl⟩
      · exact ⟨_, rfl, .inr rfl⟩
    refine ⟨by decide, by decide, by omega, _, hz, cdiv (by decide) (by decide), by decide, ?_⟩
    by_cases h2 : c' / 2 % 2 = 0
    · rw [if_pos h2]
      refine ⟨by decide, fun p1 hp1 => ⟨by decide, ?_⟩⟩
      obtain ⟨H1, g1, S1, T1⟩ := fresh_tup (K := K) hp1 [V.str (Str.ofString "grown")]
      rw [← g1]
      clear g1
      intro p2 hp2
      obtain ⟨H2, g2, S2, T2⟩ := fresh_tup (K := K) hp2 [V.str z, V.ref p', V.ref p1]
      rw [← g2]
      clear g2
      refine ⟨cdiv (by decide) (by decide), ?_⟩
      have S12 := S1.trans S2
      have G1 : TolA K H2 (.ref p1) .grown := tol_grown (Same.tup S2 T1)
      rw [hP]
      obtain ⟨r2, R2, ok2, dp2⟩ : ∃ r2, TolA K H2 (.ref p2) r2 ∧ r2.ok ∧ r2.dp ≤ i + 1 + 1 := by
        rcases hzz with rfl | rfl
        · exact ⟨.al r' .grown, tol_al T2 (R'.same S12) G1, ⟨ok', trivial⟩, by show max r'.dp 1 + 1 ≤ _; have := Rl.dp_pos r'; omega⟩
        · exact ⟨.so r' .grown, tol_so T2 (R'.same S12) G1, ⟨ok', trivial⟩, by show max r'.dp 1 + 1 ≤ _; have := Rl.dp_pos r'; omega⟩
      refine ⟨_, _, r2, _, _, rfl, S.trans S12, R2, ok2, dp2, fun d hd => ?_⟩
      cases d with
      | zero => exact .zero _
      | succ d => exact .fst hzz T2 ((B d (by omega)).same S12)
    · rw [if_neg h2]
      refine ⟨by decide, fun p1 hp1 => ⟨by decide, ?_⟩⟩
      obtain ⟨H1, g1, S1, T1⟩ := fresh_tup (K := K) hp1 [V.str (Str.ofString "change"), V.int 1]
      rw [← g1]
      clear g1
      intro p2 hp2
      obtain ⟨H2, g2, S2, T2⟩ := fresh_tup (K := K) hp2 [V.str z, V.ref p1, V.ref p']
      rw [← g2]
      clear g2
      refine ⟨cdiv (by decide) (by decide), ?_⟩
      have S12 := S1.trans S2
      have G1 : TolA K H2 (.ref p1) (.change 1) := tol_change (Same.tup S2 T1)
      have okc : (Rl.change 1).ok := ⟨by decide, by decide⟩
      rw [hP]
      obtain ⟨r2, R2, ok2, dp2⟩ : ∃ r2, TolA K H2 (.ref p2) r2 ∧ r2.ok ∧ r2.dp ≤ i + 1 + 1 := by
        rcases hzz with rfl | rfl
        · exact ⟨.al (.change 1) r', tol_al T2 G1 (R'.same S12), ⟨okc, ok'⟩, by show max 1 r'.dp + 1 ≤ _; have := Rl.dp_pos r'; omega⟩
        · exact ⟨.so (.change 1) r', tol_so T2 G1 (R'.same S12), ⟨okc, ok'⟩, by show max 1 r'.dp + 1 ≤ _; have := Rl.dp_pos r'; omega⟩
      refine ⟨_, _, r2, _, _, rfl, S.trans S12, R2, ok2, dp2, fun d hd => ?_⟩
      cases d with
      | zero => exact .zero _
      | succ d =>
        cases d with
        | zero => exact .fst hzz T2 (.zero _)
        | succ d => exact .snd hzz T2 G1 okc (by show 1 ≤ d + 1; omega) ((B (d + 1) (by omega)).same S12)
  · intro σ H' h
    rw [hP] at h
    obtain ⟨p', c', r', o3, o4, rfl, S, R', ok', dp', B⟩ := h
    simp only [tTurn, rTurnT, tTryS, rCountT, rPop, rRep, tCont, iZipT, tChain3, tFld, sFld, tMake, tMake0, tMethD, tBM0, rUpper, tDict1T, tTryN, rSlS, rMulS, rCatS, iZipL, rInsert, rReverse, tDNewX, tTry, tRaise, iEnumL, iEnumT, iZip, iSeq, iOr, rIx, iStr, rLeS, rJoin, rSlTA, tComp_eq, tComp1, slots, Option.getD_some, Option.getD_none, tYes, tSeq, tAsg, gName, tOp, tUn, tC, tVar, tCB, tCons, tNil, tCall, rI, rI0, rU, tRet, tRetN, tIfS, tTest, tB, tAnd, tOr, tNot, tAndV, tOrV, tNotV, tIf, tChain, tMenu, tPar, tDrop, tTup, tLst, tNext, tSl, tPart, tNoPart, tNever, gTup, gCons, gNil, gSub, rSetL, tBM, rAppend, rEq, rNe, rIsi, rIxL, rIxT, rIxS, rSlL, isi_non_bl, isi_non_int, isi_non_str, isi_non_lst, isi_non_tup, isi_bl_bl, isi_bl_int, isi_bl_str, isi_bl_lst, isi_bl_tup, isi_int_bl, isi_int_int, isi_int_str, isi_int_lst, isi_int_tup, isi_str_bl, isi_str_int, isi_str_str, isi_str_lst, isi_str_tup, isi_lst_bl, isi_lst_int, isi_lst_str, isi_lst_lst, isi_lst_tup, isi_tup_bl, isi_tup_int, isi_tup_str, isi_tup_lst, isi_tup_tup, isi_dct_bl, isi_dct_int, isi_dct_str, isi_dct_lst, isi_dct_tup, Kd_non, Kd_bl, Kd_int, Kd_str, sc_non_non, sc_non_int, sc_int_non, sc_non_bl, sc_bl_non, sc_non_str, sc_str_non, sc_int_int, sc_bl_bl, sc_str_str, sc_int_str, sc_str_int, sc_bl_str, sc_str_bl, decide_true, decide_false, tFor_eq, iList, iTup, iRng1, iRng2, iRng3, rIndexT, tBM0, tBMT, tyK_int, tyK_bool, tyK_str, tyK_list, tyK_tuple, L2.start, cxK, Int.reduceToNat, List.map_cons, List.map_nil, List.length_cons, List.length_nil, Nat.reduceAdd, Nat.reduceSub, Nat.zero_add, List.replicate_succ, List.replicate_zero, List.cons_append, List.nil_append, List.append_nil, List.getElem?_cons_zero, List.getElem?_cons_succ, List.set_cons_zero, List.set_cons_succ, Option.some.injEq, V.int.injEq, V.bl.injEq, V.ref.injEq, V.str.injEq, V.ty.injEq, List.cons.injEq, exists_eq_left', exists_eq_left, exists_eq_right, exists_and_left, exists_and_right, and_true, true_and, and_assoc, exists_const, decide_eq_true_eq, Bool.not_eq_true', Bool.not_true, Bool.not_false, Bool.not_not, decide_eq_false_iff_not, ite_not, Bool.false_eq_true, if_true, if_false, reduceCtorEq, and_false, false_and, exists_false, or_false, false_or, ↓reduceIte, eq_self, reduceIte]
    have e : (m : Int).toNat = m := by omega
    rw [e] at dp' B
    exact q _ _ _ S R' ok' dp' B
theorem ok_law_refused {c_NoRule c_TariffError c_NoLot c_NoRate c_NoNote c_NoNumber : Addr} (F : Fun K "_law_refused" "_law_refused" s_law_refused f fd) (M : Mg mg) (C_rule_of : Cal P w K mg base (CXE P w) "rule_of" 10 ["told"] (spRuleOf K cs c_NoRule))
    (A_NoRule : mg "NoRule" = some (.ref c_NoRule)) (A_NoLot : mg "NoLot" = some (.ref c_NoLot)) (A_NoRate : mg "NoRate" = some (.ref c_NoRate)) (A_NoNote : mg "NoNote" = some (.ref c_NoNote)) (A_NoNumber : mg "NoNumber" = some (.ref c_NoNumber))
    (X_TariffError : XCatch K mg "TariffError" c_TariffError) (K_N : XCls K c_NoRule) (sub : PySem.W.subIn K (.ref c_NoRule) (.ref c_TariffError) = some true) (f1 : PySem.W.kitOne K (.ref c_NoRule) (.ref c_NoLot) = some false) (f2 : PySem.W.kitOne K (.ref c_NoRule) (.ref c_NoRate) = some false)
    (f3 : PySem.W.kitOne K (.ref c_NoRule) (.ref c_NoNote) = some false) (f4 : PySem.W.kitOne K (.ref c_NoRule) (.ref c_NoNumber) = some false) (t1 : PySem.W.kitOne K (.ref c_NoRule) (.ref c_NoRule) = some true) (t2 : PySem.W.kitOne K (.ref c_NoRule) (.type "ValueError") = some true) :
    FnOk P w K mg base CX0 11 f fd ["_law_told"] (spRefused K) := by
  refine F.ok sc_law_refused (fun vs H Q E h => ?_) (fun cdv A outer s H vs Q E hr h => ?_)
  · obtain ⟨v, rfl, _⟩ := h
    rfl
  obtain ⟨v, rfl, B, q⟩ := h
  refine ⟨_, (@pss_cons _ _ _ _ _ (@ps_try _ _ _ _ _ _ 1 _ _ _ _ _ _ _ _ _ _ _ _ _ _ _ rfl rfl rfl rfl C_rule_of hr g_law_refused_rule_of (@pa_cons _ _ _ _ _ (@pe_var _ 0 _ _ rfl v_law_refused_0 dn__law_told dc__law_told) (@pa_nil _) (star1 rfl)) g_law_refused_TariffError X_TariffError sc_law_refused.nd rfl rfl rfl (fun _ => (@pss_cons _ _ _ _ _ (@ps_if _ _ _ _ _ _ _ _ (@PW.pt _ _ _ (@pw_or _ _ _ _ _ _ _ (@pt_val _ _ _ (@pe_callB _ _ _ _ _ _ _ _ _ (call_isiX (K := K) rfl) g_law_refused_isinstance M.m_isinstance b_isinstance (@pa_cons _ _ _ _ _ (@pe_var _ 1 _ _ rfl v_law_refused_1 dn_e dc_e) (@pa_cons _ _ _ _ _ (@pe_glob _ _ _ _ _ g_law_refused_NoLot A_NoLot (show RelV (.ref c_NoLot) _ from rfl) dn_NoLot) (@pa_nil _) (star1 rfl)) (star1 rfl)) nn_isinstance dn_isinstance (star1 rfl) (nost1 rfl nost0)) (test1 rfl)) (@pw_or _ _ _ _ _ _ _ (@pt_val _ _ _ (@pe_callB _ _ _ _ _ _ _ _ _ (call_isiX (K := K) rfl) g_law_refused_isinstance M.m_isinstance b_isinstance (@pa_cons _ _ _ _ _ (@pe_var _ 1 _ _ rfl v_law_refused_1 dn_e dc_e) (@pa_cons _ _ _ _ _ (@pe_glob _ _ _ _ _ g_law_refused_NoRate A_NoRate (show RelV (.ref c_NoRate) _ from rfl) dn_NoRate) (@pa_nil _) (star1 rfl)) (star1 rfl)) nn_isinstance dn_isinstance (star1 rfl) (nost1 rfl nost0)) (test1 rfl)) (@pw_or _ _ _ _ _ _ _ (@pt_val _ _ _ (@pe_callB _ _ _ _ _ _ _ _ _ (call_isiX (K := K) rfl) g_law_refused_isinstance M.m_isinstance b_isinstance (@pa_cons _ _ _ _ _ (@pe_var _ 1 _ _ rfl v_law_refused_1 dn_e dc_e) (@pa_cons _ _ _ _ _ (@pe_glob _ _ _ _ _ g_law_refused_NoNote A_NoNote (show RelV (.ref c_NoNote) _ from rfl) dn_NoNote) (@pa_nil _) (star1 rfl)) (star1 rfl)) nn_isinstance dn_isinstance (star1 rfl) (nost1 rfl nost0)) (test1 rfl)) (@pw_or1 _ _ _ _ (@pt_val _ _ _ (@pe_callB _ _ _ _ _ _ _ _ _ (call_isiX (K := K) rfl) g_law_refused_isinstance M.m_isinstance b_isinstance (@pa_cons _ _ _ _ _ (@pe_var _ 1 _ _ rfl v_law_refused_1 dn_e dc_e) (@pa_cons _ _ _ _ _ (@pe_glob _ _ _ _ _ g_law_refused_NoNumber A_NoNumber (show RelV (.ref c_NoNumber) _ from rfl) dn_NoNumber) (@pa_nil _) (star1 rfl)) (star1 rfl)) nn_isinstance dn_isinstance (star1 rfl) (nost1 rfl nost0)) (test1 rfl))))))) (@pss_one _ _ _ (@ps_ret _ _ _ _ (@pe_bl _ _ _ _))) (@pss_nil _)) (@pss_one _ _ _ (@ps_ret _ _ _ _ (@pe_and _ _ _ _ _ _ _ (@pe_callB _ _ _ _ _ _ _ _ _ (call_isiX (K := K) rfl) g_law_refused_isinstance M.m_isinstance b_isinstance (@pa_cons _ _ _ _ _ (@pe_var _ 1 _ _ rfl v_law_refused_1 dn_e dc_e) (@pa_cons _ _ _ _ _ (@pe_glob _ _ _ _ _ g_law_refused_NoRule A_NoRule (show RelV (.ref c_NoRule) _ from rfl) dn_NoRule) (@pa_nil _) (star1 rfl)) (star1 rfl)) nn_isinstance dn_isinstance (star1 rfl) (nost1 rfl nost0)) (@pe_one _ _ _ _ _ (@pe_callB _ _ _ _ _ _ _ _ _ (call_isiX (K := K) rfl) g_law_refused_isinstance M.m_isinstance b_isinstance (@pa_cons _ _ _ _ _ (@pe_var _ 1 _ _ rfl v_law_refused_1 dn_e dc_e) (@pa_cons _ _ _ _ _ (@pe_bltn _ _ (.ty "ValueError") _ _ g_law_refused_ValueError M.m_ValueError b_ValueError rfl nn_ValueError dn_ValueError) (@pa_nil _) (star1 rfl)) (star1 rfl)) nn_isinstance dn_isinstance (star1 rfl) (nost1 rfl nost0)))))))) (by decide) dn_rule_of dn_TariffError (star1 rfl) nost0 (swap1 rfl)) (@pss_one _ _ _ (@ps_ret _ _ _ _ (@pe_bl _ _ _ _)))), ?_⟩
  simp only [tTurn, rTurnT, tTryS, rCountT, rPop, rRep, tCont, iZipT, tChain3, tFld, sFld, tMake, tMake0, tMethD, tBM0, rUpper, tDict1T, tTryN, rSlS, rMulS, rCatS, iZipL, rInsert, rReverse, tDNewX, tTry, tRaise, iEnumL, iEnumT, iZip, iSeq, iOr, rIx, iStr, rLeS, rJoin, rSlTA, tComp_eq, tComp1, slots, Option.getD_some, Option.getD_none, tYes, tSeq, tAsg, gName, tOp, tUn, tC, tVar, tCB, tCons, tNil, tCall, rI, rI0, rU, tRet, tRetN, tIfS, tTest, tB, tAnd, tOr, tNot, tAndV, tOrV, tNotV, tIf, tChain, tMenu, tPar, tDrop, tTup, tLst, tNext, tSl, tPart, tNoPart, tNever, gTup, gCons, gNil, gSub, rSetL, tBM, rAppend, rEq, rNe, rIsi, rIxL, rIxT, rIxS, rSlL, isi_non_bl, isi_non_int, isi_non_str, isi_non_lst, isi_non_tup, isi_bl_bl, isi_bl_int, isi_bl_str, isi_bl_lst, isi_bl_tup, isi_int_bl, isi_int_int, isi_int_str, isi_int_lst, isi_int_tup, isi_str_bl, isi_str_int, isi_str_str, isi_str_lst, isi_str_tup, isi_lst_bl, isi_lst_int, isi_lst_str, isi_lst_lst, isi_lst_tup, isi_tup_bl, isi_tup_int, isi_tup_str, isi_tup_lst, isi_tup_tup, isi_dct_bl, isi_dct_int, isi_dct_str, isi_dct_lst, isi_dct_tup, Kd_non, Kd_bl, Kd_int, Kd_str, sc_non_non, sc_non_int, sc_int_non, sc_non_bl, sc_bl_non, sc_non_str, sc_str_non, sc_int_int, sc_bl_bl, sc_str_str, sc_int_str, sc_str_int, sc_bl_str, sc_str_bl, decide_true, decide_false, tFor_eq, iList, iTup, iRng1, iRng2, iRng3, rIndexT, tBM0, tBMT, tyK_int, tyK_bool, tyK_str, tyK_list, tyK_tuple, L2.start, cxK, Int.reduceToNat, List.map_cons, List.map_nil, List.length_cons, List.length_nil, Nat.reduceAdd, Nat.reduceSub, Nat.zero_add, List.replicate_succ, List.replicate_zero, List.cons_append, List.nil_append, List.append_nil, List.getElem?_cons_zero, List.getElem?_cons_succ, List.set_cons_zero, List.set_cons_succ, Option.some.injEq, V.int.injEq, V.bl.injEq, V.ref.injEq, V.str.injEq, V.ty.injEq, List.cons.injEq, exists_eq_left', exists_eq_left, exists_eq_right, exists_and_left, exists_and_right, and_true, true_and, and_assoc, exists_const, decide_eq_true_eq, Bool.not_eq_true', Bool.not_true, Bool.not_false, Bool.not_not, decide_eq_false_iff_not, ite_not, Bool.false_eq_true, if_true, if_false, reduceCtorEq, and_false, false_and, exists_false, or_false, false_or, ↓reduceIte, eq_self, reduceIte]
  refine .inr ⟨_, rfl, B, fun H' e => ⟨_, rfl, sub, fun a ha => ?_⟩⟩
  have hx : upd H' a (excO a c_NoRule) a = some (excO a c_NoRule) := upd_same
  refine isiX_one hx K_N f1 ⟨_, rfl, ?_⟩
  rw [if_neg (by decide)]
  refine isiX_one hx K_N f2 ⟨_, rfl, ?_⟩
  rw [if_neg (by decide)]
  refine isiX_one hx K_N f3 ⟨_, rfl, ?_⟩
  rw [if_neg (by decide)]
  refine isiX_one hx K_N f4 ⟨_, rfl, ?_⟩
  rw [if_neg (by decide)]
  refine isiX_one hx K_N t1 ?_
  simp only [tTurn, rTurnT, tTryS, rCountT, rPop, rRep, tCont, iZipT, tChain3, tFld, sFld, tMake, tMake0, tMethD, tBM0, rUpper, tDict1T, tTryN, rSlS, rMulS, rCatS, iZipL, rInsert, rReverse, tDNewX, tTry, tRaise, iEnumL, iEnumT, iZip, iSeq, iOr, rIx, iStr, rLeS, rJoin, rSlTA, tComp_eq, tComp1, slots, Option.getD_some, Option.getD_none, tYes, tSeq, tAsg, gName, tOp, tUn, tC, tVar, tCB, tCons, tNil, tCall, rI, rI0, rU, tRet, tRetN, tIfS, tTest, tB, tAnd, tOr, tNot, tAndV, tOrV, tNotV, tIf, tChain, tMenu, tPar, tDrop, tTup, tLst, tNext, tSl, tPart, tNoPart, tNever, gTup, gCons, gNil, gSub, rSetL, tBM, rAppend, rEq, rNe, rIsi, rIxL, rIxT, rIxS, rSlL, isi_non_bl, isi_non_int, isi_non_str, isi_non_lst, isi_non_tup, isi_bl_bl, isi_bl_int, isi_bl_str, isi_bl_lst, isi_bl_tup, isi_int_bl, isi_int_int, isi_int_str, isi_int_lst, isi_int_tup, isi_str_bl, isi_str_int, isi_str_str, isi_str_lst, isi_str_tup, isi_lst_bl, isi_lst_int, isi_lst_str, isi_lst_lst, isi_lst_tup, isi_tup_bl, isi_tup_int, isi_tup_str, isi_tup_lst, isi_tup_tup, isi_dct_bl, isi_dct_int, isi_dct_str, isi_dct_lst, isi_dct_tup, Kd_non, Kd_bl, Kd_int, Kd_str, sc_non_non, sc_non_int, sc_int_non, sc_non_bl, sc_bl_non, sc_non_str, sc_str_non, sc_int_int, sc_bl_bl, sc_str_str, sc_int_str, sc_str_int, sc_bl_str, sc_str_bl, decide_true, decide_false, tFor_eq, iList, iTup, iRng1, iRng2, iRng3, rIndexT, tBM0, tBMT, tyK_int, tyK_bool, tyK_str, tyK_list, tyK_tuple, L2.start, cxK, Int.reduceToNat, List.map_cons, List.map_nil, List.length_cons, List.length_nil, Nat.reduceAdd, Nat.reduceSub, Nat.zero_add, List.replicate_succ, List.replicate_zero, List.cons_append, List.nil_append, List.append_nil, List.getElem?_cons_zero, List.getElem?_cons_succ, List.set_cons_zero, List.set_cons_succ, Option.some.injEq, V.int.injEq, V.bl.injEq, V.ref.injEq, V.str.injEq, V.ty.injEq, List.cons.injEq, exists_eq_left', exists_eq_left, exists_eq_right, exists_and_left, exists_and_right, and_true, true_and, and_assoc, exists_const, decide_eq_true_eq, Bool.not_eq_true', Bool.not_true, Bool.not_false, Bool.not_not, decide_eq_false_iff_not, ite_not, Bool.false_eq_true, if_true, if_false, reduceCtorEq, and_false, false_and, exists_false, or_false, false_or, ↓reduceIte, eq_self, reduceIte]
  exact isiX_ty hx K_N t2 (q _ (e.trans (same_new ha _)))
theorem ok_law_asked (F : Fun K "_law_asked" "_law_asked" s_law_asked f fd) (M : Mg mg) (C_law_cell_at : Cal P w K mg base CX0 "_law_cell_at" 1 ["_law_script", "_law_k"] (spCellAt K)) (C_law_number : Cal P w K mg base CX0 "_law_number" 2 ["_law_cell"] (spNumber K)) : FnOk P w K mg base CX0 3 f fd ["_law_script", "_law_k"] (spAsk K) := by
  refine F.ok sc_law_asked (fun vs H Q E h => ?_) (fun cdv A outer s H vs Q E hr h => ?_)
  · obtain ⟨a, ns, k, rfl, _⟩ := h
    rfl
  obtain ⟨a, ns, k, rfl, hS, k0, k40, q⟩ := h
  refine ⟨_, (@pss_cons _ _ _ _ _ (@ps_set _ _ 2 _ _ _ _ sc_law_asked.nd rfl l_law_asked_2 (@pe_callC _ _ _ _ _ _ _ _ _ _ _ C_law_number hr g_law_asked__law_number (@pa_cons _ _ _ _ _ (@pe_callC _ _ _ _ _ _ _ _ _ _ _ C_law_cell_at hr g_law_asked__law_cell_at (@pa_cons _ _ _ _ _ (@pe_var _ 0 _ _ rfl v_law_asked_0 dn__law_script dc__law_script) (@pa_cons _ _ _ _ _ (@pe_var _ 1 _ _ rfl v_law_asked_1 dn__law_k dc__law_k) (@pa_nil _) (star1 rfl)) (star1 rfl)) (by decide) dn__law_cell_at (star1 rfl) (nost1 rfl nost0)) (@pa_nil _) (star1 rfl)) (by decide) dn__law_number (star1 rfl) nost0) (swap1 rfl) (.inl rfl)) (@pss_cons _ _ _ _ _ (@ps_set _ _ 3 _ _ _ _ sc_law_asked.nd rfl l_law_asked_3 (@pe_op _ _ _ _ _ _ _ _ (@op_add _) (@pe_int _ _ _ _) (@pe_op _ _ _ _ _ _ _ _ (@op_mod _) (@pe_callC _ _ _ _ _ _ _ _ _ _ _ C_law_cell_at hr g_law_asked__law_cell_at (@pa_cons _ _ _ _ _ (@pe_var _ 0 _ _ rfl v_law_asked_0 dn__law_script dc__law_script) (@pa_cons _ _ _ _ _ (@pe_op _ _ _ _ _ _ _ _ (@op_add _) (@pe_var _ 1 _ _ rfl v_law_asked_1 dn__law_k dc__law_k) (@pe_int _ _ _ _)) (@pa_nil _) (star1 rfl)) (star1 rfl)) (by decide) dn__law_cell_at (star1 rfl) (nost1 rfl nost0)) (@pe_op _ _ _ _ _ _ _ _ (@op_pow _) (@pe_int _ _ _ _) (@pe_int _ _ _ _)))) (swap1 rfl) (.inl rfl)) (@pss_cons _ _ _ _ _ (@ps_set _ _ 4 _ _ _ _ sc_law_asked.nd rfl l_law_asked_4 (@pe_op _ _ _ _ _ _ _ _ (@op_mod _) (@pe_callC _ _ _ _ _ _ _ _ _ _ _ C_law_cell_at hr g_law_asked__law_cell_at (@pa_cons _ _ _ _ _ (@pe_var _ 0 _ _ rfl v_law_asked_0 dn__law_script dc__law_script) (@pa_cons _ _ _ _ _ (@pe_op _ _ _ _ _ _ _ _ (@op_add _) (@pe_var _ 1 _ _ rfl v_law_asked_1 dn__law_k dc__law_k) (@pe_int _ _ _ _)) (@pa_nil _) (star1 rfl)) (star1 rfl)) (by decide) dn__law_cell_at (star1 rfl) (nost1 rfl nost0)) (@pe_op _ _ _ _ _ _ _ _ (@op_add _) (@pe_var _ 3 _ _ rfl v_law_asked_3 dn__law_price dc__law_price) (@pe_int _ _ _ _))) (swap1 rfl) (.inl rfl)) (@pss_cons _ _ _ _ _ (@ps_set _ _ 5 _ _ _ _ sc_law_asked.nd rfl l_law_asked_5 (@pe_op _ _ _ _ _ _ _ _ (@op_mod _) (@pe_callC _ _ _ _ _ _ _ _ _ _ _ C_law_cell_at hr g_law_asked__law_cell_at (@pa_cons _ _ _ _ _ (@pe_var _ 0 _ _ rfl v_law_asked_0 dn__law_script dc__law_script) (@pa_cons _ _ _ _ _ (@pe_op _ _ _ _ _ _ _ _ (@op_add _) (@pe_var _ 1 _ _ rfl v_law_asked_1 dn__law_k dc__law_k) (@pe_int _ _ _ _)) (@pa_nil _) (star1 rfl)) (star1 rfl)) (by decide) dn__law_cell_at (star1 rfl) (nost1 rfl nost0)) (@pe_int _ _ _ _)) (swap1 rfl) (.inl rfl)) (@pss_one _ _ _ (@ps_ret _ _ _ _ (@pe_tup _ _ _ _ _ (@pa_cons _ _ _ _ _ (@pe_var _ 2 _ _ rfl v_law_asked_2 dn__law_number_here dc__law_number_here) (@pa_cons _ _ _ _ _ (@pe_var _ 3 _ _ rfl v_law_asked_3 dn__law_price dc__law_price) (@pa_cons _ _ _ _ _ (@pe_var _ 4 _ _ rfl v_law_asked_4 dn__law_own dc__law_own) (@pa_cons _ _ _ _ _ (@pe_comp _ _ _ _ _ _ _ _ _ _ _ _ _ _ _ rfl (CompOk.make (N' := ["_law_script", "_law_k", "_law_j"]) (ix := [0, 1]) (nl := 1) (by rfl) (fm1 rfl (fm1 rfl fm0)) (by rfl) (by decide +kernel) rfl (by decide +kernel) rfl (And.intro ⟨rfl, .inl rfl, .inl rfl⟩ (And.intro ⟨rfl, .inl rfl, .inl rfl⟩ True.intro))) (@pi_range1 _ _ _ _ _ _ g_law_asked_range M.m_range (@pa_cons _ _ _ _ _ (@pe_var _ 5 _ _ rfl v_law_asked_5 dn__law_many dc__law_many) (@pa_nil _) (star1 rfl)) (star1' rfl)) (fun _ _ _ _ _ => (@pg_name _ _ 2 _ (show List.Nodup (["_law_script", "_law_k", "_law_j"] : List Str) from by decide) rfl (Or.inl rfl) (by first | exact .inl rfl | exact .inr rfl | assumption))) (fun _ _ _ _ _ => (@pif_nil _)) (fun _ _ _ _ _ => (@pe_callC _ _ _ _ _ _ _ _ _ _ _ C_law_number hr rfl (@pa_cons _ _ _ _ _ (@pe_callC _ _ _ _ _ _ _ _ _ _ _ C_law_cell_at hr rfl (@pa_cons _ _ _ _ _ (@pv _ 0 _ _ (by rfl) (by first | exact Or.inl rfl | exact Or.inr (Or.inl rfl) | exact Or.inr (Or.inr rfl)) (by decide) (by decide)) (@pa_cons _ _ _ _ _ (@pe_op _ _ _ _ _ _ _ _ (@op_add _) (@pe_op _ _ _ _ _ _ _ _ (@op_add _) (@pv _ 1 _ _ (by rfl) (by first | exact Or.inl rfl | exact Or.inr (Or.inl rfl) | exact Or.inr (Or.inr rfl)) (by decide) (by decide)) (@pe_int _ _ _ _)) (@pv _ 2 _ _ (by rfl) (by first | exact Or.inl rfl | exact Or.inr (Or.inl rfl) | exact Or.inr (Or.inr rfl)) (by decide) (by decide))) (@pa_nil _) (star1 rfl)) (star1 rfl)) (by decide) dn__law_cell_at (star1 rfl) (nost1 rfl nost0)) (@pa_nil _) (star1 rfl)) (by decide) dn__law_number (star1 rfl) nost0)) (by intro _; rfl)) (@pa_nil _) (star1 rfl)) (star1 rfl)) (star1 rfl)) (star1 rfl))))))))), ?_⟩
  simp only [tTurn, rTurnT, tTryS, rCountT, rPop, rRep, tCont, iZipT, tChain3, tFld, sFld, tMake, tMake0, tMethD, tBM0, rUpper, tDict1T, tTryN, rSlS, rMulS, rCatS, iZipL, rInsert, rReverse, tDNewX, tTry, tRaise, iEnumL, iEnumT, iZip, iSeq, iOr, rIx, iStr, rLeS, rJoin, rSlTA, tComp_eq, tComp1, slots, Option.getD_some, Option.getD_none, tYes, tSeq, tAsg, gName, tOp, tUn, tC, tVar, tCB, tCons, tNil, tCall, rI, rI0, rU, tRet, tRetN, tIfS, tTest, tB, tAnd, tOr, tNot, tAndV, tOrV, tNotV, tIf, tChain, tMenu, tPar, tDrop, tTup, tLst, tNext, tSl, tPart, tNoPart, tNever, gTup, gCons, gNil, gSub, rSetL, tBM, rAppend, rEq, rNe, rIsi, rIxL, rIxT, rIxS, rSlL, isi_non_bl, isi_non_int, isi_non_str, isi_non_lst, isi_non_tup, isi_bl_bl, isi_bl_int, isi_bl_str, isi_bl_lst, isi_bl_tup, isi_int_bl, isi_int_int, isi_int_str, isi_int_lst, isi_int_tup, isi_str_bl, isi_str_int, isi_str_str, isi_str_lst, isi_str_tup, isi_lst_bl, isi_lst_int, isi_lst_str, isi_lst_lst, isi_lst_tup, isi_tup_bl, isi_tup_int, isi_tup_str, isi_tup_lst, isi_tup_tup, isi_dct_bl, isi_dct_int, isi_dct_str, isi_dct_lst, isi_dct_tup, Kd_non, Kd_bl, Kd_int, Kd_str, sc_non_non, sc_non_int, sc_int_non, sc_non_bl, sc_bl_non, sc_non_str, sc_str_non, sc_int_int, sc_bl_bl, sc_str_str, sc_int_str, sc_str_int, sc_bl_str, sc_str_bl, decide_true, decide_false, tFor_eq, iList, iTup, iRng1, iRng2, iRng3, rIndexT, tBM0, tBMT, tyK_int, tyK_bool, tyK_str, tyK_list, tyK_tuple, L2.start, cxK, Int.reduceToNat, List.map_cons, List.map_nil, List.length_cons, List.length_nil, Nat.reduceAdd, Nat.reduceSub, Nat.zero_add, List.replicate_succ, List.replicate_zero, List.cons_append, List.nil_append, List.append_nil, List.getElem?_cons_zero, List.getElem?_cons_succ, List.set_cons_zero, List.set_cons_succ, Option.some.injEq, V.int.injEq, V.bl.injEq, V.ref.injEq, V.str.injEq, V.ty.injEq, List.cons.injEq, exists_eq_left', exists_eq_left, exists_eq_right, exists_and_left, exists_and_right, and_true, true_and, and_assoc, exists_const, decide_eq_true_eq, Bool.not_eq_true', Bool.not_true, Bool.not_false, Bool.not_not, decide_eq_false_iff_not, ite_not, Bool.false_eq_true, if_true, if_false, reduceCtorEq, and_false, false_and, exists_false, or_false, false_or, ↓reduceIte, eq_self, reduceIte]
  refine spCellAt_of hS k0 ⟨_, rfl, fun n H1 nn S1 TN n1 n4 => ?_⟩
  refine spCellAt_of (S1.seq hS) (by omega) ⟨cpow, _, rfl, by decide, ?_⟩
  have pr0 := Int.emod_nonneg (cellAt ns (k + 1)) (show (10 ^ 12 : Int) ≠ 0 by decide)
  have pr1 := Int.emod_lt_of_pos (cellAt ns (k + 1)) (show (0 : Int) < 10 ^ 12 by decide)
  obtain ⟨pr, hpr, p1, p12⟩ : ∃ pr : Int, 1 + cellAt ns (k + 1) % 10 ^ 12 = pr ∧ 1 ≤ pr ∧ pr ≤ 10 ^ 12 := ⟨_, rfl, by omega, by omega⟩
  rw [hpr]
  refine spCellAt_of (S1.seq hS) (by omega) ⟨_, rfl, by omega, ?_⟩
  obtain ⟨ow, how⟩ : ∃ ow : Int, cellAt ns (k + 2) % (pr + 1) = ow := ⟨_, rfl⟩
  have ow0 := Int.emod_nonneg (cellAt ns (k + 2)) (show pr + 1 ≠ 0 by omega)
  have ow1 := Int.emod_lt_of_pos (cellAt ns (k + 2)) (show 0 < pr + 1 by omega)
  rw [how] at ow0 ow1 ⊢
  obtain ⟨mn, hmn, m4⟩ : ∃ mn : Nat, cellAt ns (k + 3) % 5 = mn ∧ mn ≤ 4 := ⟨(cellAt ns (k + 3) % 5).toNat, by omega, by omega⟩
  refine spCellAt_of (S1.seq hS) (by omega) ⟨_, rfl, by decide, by omega, by omega, fun D hD => ?_⟩
  rw [hmn, Int.toNat_natCast]
  obtain ⟨Pc, hC⟩ : ∃ Pc : Nat → St → Hp → Prop, Pc = fun i τ H' => ∃ z fx fs, H' D = some (.lst fx) ∧ IntsAll K H' fx fs ∧ fs.length = i ∧ Same H1 H' ∧ τ = [some (.ref a), some (.int k), z] := ⟨_, rfl⟩
  refine compS_range Pc ?_ ?_ ?_
  · rw [hC]
    exact ⟨_, [], [], upd_same, .nil, rfl, same_new hD _, rfl⟩
  · intro i τ H' R' hi h next
    rw [hC] at h
    obtain ⟨z, fx, fs, d1, FA, lf, d2, rfl⟩ := h
    have len := FA.length
    simp only [tTurn, rTurnT, tTryS, rCountT, rPop, rRep, tCont, iZipT, tChain3, tFld, sFld, tMake, tMake0, tMethD, tBM0, rUpper, tDict1T, tTryN, rSlS, rMulS, rCatS, iZipL, rInsert, rReverse, tDNewX, tTry, tRaise, iEnumL, iEnumT, iZip, iSeq, iOr, rIx, iStr, rLeS, rJoin, rSlTA, tComp_eq, tComp1, slots, Option.getD_some, Option.getD_none, tYes, tSeq, tAsg, gName, tOp, tUn, tC, tVar, tCB, tCons, tNil, tCall, rI, rI0, rU, tRet, tRetN, tIfS, tTest, tB, tAnd, tOr, tNot, tAndV, tOrV, tNotV, tIf, tChain, tMenu, tPar, tDrop, tTup, tLst, tNext, tSl, tPart, tNoPart, tNever, gTup, gCons, gNil, gSub, rSetL, tBM, rAppend, rEq, rNe, rIsi, rIxL, rIxT, rIxS, rSlL, isi_non_bl, isi_non_int, isi_non_str, isi_non_lst, isi_non_tup, isi_bl_bl, isi_bl_int, isi_bl_str, isi_bl_lst, isi_bl_tup, isi_int_bl, isi_int_int, isi_int_str, isi_int_lst, isi_int_tup, isi_str_bl, isi_str_int, isi_str_str, isi_str_lst, isi_str_tup, isi_lst_bl, isi_lst_int, isi_lst_str, isi_lst_lst, isi_lst_tup, isi_tup_bl, isi_tup_int, isi_tup_str, isi_tup_lst, isi_tup_tup, isi_dct_bl, isi_dct_int, isi_dct_str, isi_dct_lst, isi_dct_tup, Kd_non, Kd_bl, Kd_int, Kd_str, sc_non_non, sc_non_int, sc_int_non, sc_non_bl, sc_bl_non, sc_non_str, sc_str_non, sc_int_int, sc_bl_bl, sc_str_str, sc_int_str, sc_str_int, sc_bl_str, sc_str_bl, decide_true, decide_false, tFor_eq, iList, iTup, iRng1, iRng2, iRng3, rIndexT, tBM0, tBMT, tyK_int, tyK_bool, tyK_str, tyK_list, tyK_tuple, L2.start, cxK, Int.reduceToNat, List.map_cons, List.map_nil, List.length_cons, List.length_nil, Nat.reduceAdd, Nat.reduceSub, Nat.zero_add, List.replicate_succ, List.replicate_zero, List.cons_append, List.nil_append, List.append_nil, List.getElem?_cons_zero, List.getElem?_cons_succ, List.set_cons_zero, List.set_cons_succ, Option.some.injEq, V.int.injEq, V.bl.injEq, V.ref.injEq, V.str.injEq, V.ty.injEq, List.cons.injEq, exists_eq_left', exists_eq_left, exists_eq_right, exists_and_left, exists_and_right, and_true, true_and, and_assoc, exists_const, decide_eq_true_eq, Bool.not_eq_true', Bool.not_true, Bool.not_false, Bool.not_not, decide_eq_false_iff_not, ite_not, Bool.false_eq_true, if_true, if_false, reduceCtorEq, and_false, false_and, exists_false, or_false, false_or, ↓reduceIte, eq_self, reduceIte]
    refine spCellAt_of ((S1.trans d2).seq hS) (by omega) ⟨_, rfl, fun p H3 ms S3 T3 l1 l4 => ⟨_, S3 _ _ d1, Nat.lt_of_lt_of_le (m := 64) (by omega) (by decide), next _ _ ?_⟩⟩
    rw [hC]
    refine ⟨_, _, fs ++ [ms], upd_same, ?_, by rw [List.length_append, lf]; rfl, same_upd (d2.trans S3) hD _, rfl⟩
    exact IntsAll.upd ((FA.same S3).snoc T3) (S3 _ _ d1)
  intro τ H3 h
  rw [hC] at h
  obtain ⟨z, fx, fs, LF, FA, lf, S3, rfl⟩ := h
  have e12 : (10 : Int) ^ 12 = 1000000000000 := by decide
  refine ⟨by decide, fun p hp => q _ _ (S1.trans (S3.trans (same_new hp _))) ?_⟩
  have S3p := S3.trans (same_new hp (.tup [V.ref n, V.int pr, V.int ow, V.ref D]))
  exact ⟨p, n, D, nn, pr, ow, fx, fs, rfl, SqT.of upd_same, Same.tup S3p TN, SqL.of (same_new hp _ _ _ LF), FA.same (same_new hp _), by omega, p1, p12, ow0, by omega⟩
theorem ok_law_holds {c_Rule : Addr} (F : Fun K "_law_holds" "_law_holds" s_law_holds f fd) (M : Mg mg) (C_law_enough : Cal P w K mg base CX0 "_law_enough" 5 ["_law_told", "_law_number_here", "_law_price", "_law_own", "_law_foreign"] (spLEn K 4))
    (D_told : ∀ C sp, DR (spTolR K cs) cs 4 C sp → Disp P w K mg base "told" 5 ["self"] C sp) (D_enough : ∀ C sp, DR (spEnR K cs) cs 4 C sp → Disp P w K mg base "enough" 5 ["self", "number", "price", "own", "foreign"] C sp) (A_Rule : mg "Rule" = some (.ref c_Rule)) (ok : RCok K cs c_Rule) : FnOk P w K mg base CX0 6 f fd ["_law_rule_here", "_law_told", "_law_some"] (spHolds K cs) := by
  refine F.ok sc_law_holds (fun vs H Q E h => ?_) (fun cdv A outer s H vs Q E hr h => ?_)
  · obtain ⟨a, p, l, r, x1, x2, x3, rfl, _⟩ := h
    rfl
  obtain ⟨a, p, l, r, x1, x2, x3, rfl, O, R, rok, dp, L, asks, q⟩ := h
  refine ⟨_, (@pss_cons _ _ _ _ _ (@ps_for _ _ _ _ _ _ _ _ PassesOwn.never rfl (@pi_list _ _ _ _ (@pe_op _ _ _ _ _ _ _ _ (@op_cat _) (@pe_var _ 2 _ _ rfl v_law_holds_2 dn__law_some dc__law_some) (@pe_slice _ _ _ _ _ _ _ _ _ _ (@sl_list _) (@pe_var _ 2 _ _ rfl v_law_holds_2 dn__law_some dc__law_some) (@po_none _) (@po_some _ _ _ (@pe_int _ _ _ _))))) (@pg_tup _ _ _ _ _ _ rfl (@pgs_cons _ _ _ _ _ (@pg_name _ _ 3 _ sc_law_holds.nd rfl l_law_holds_3 (.inl rfl)) (@pgs_cons _ _ _ _ _ (@pg_name _ _ 4 _ sc_law_holds.nd rfl l_law_holds_4 (.inl rfl)) (@pgs_cons _ _ _ _ _ (@pg_name _ _ 5 _ sc_law_holds.nd rfl l_law_holds_5 (.inl rfl)) (@pgs_cons _ _ _ _ _ (@pg_name _ _ 6 _ sc_law_holds.nd rfl l_law_holds_6 (.inl rfl)) (@pgs_nil _) (by rfl)) (by rfl)) (by rfl)) (by rfl)) (by rfl) (by rfl)) (@pss_cons _ _ _ _ _ (@ps_set _ _ 7 _ _ _ _ sc_law_holds.nd rfl l_law_holds_7 (@pe_methD _ _ _ _ _ _ _ _ _ _ _ _ _ _ (@pe_var _ 0 _ _ rfl v_law_holds_0 dn__law_rule_here dc__law_rule_here) D_enough hr (@pa_cons _ _ _ _ _ (@pe_var _ 3 _ _ rfl v_law_holds_3 dn__law_number_here dc__law_number_here) (@pa_cons _ _ _ _ _ (@pe_var _ 4 _ _ rfl v_law_holds_4 dn__law_price dc__law_price) (@pa_cons _ _ _ _ _ (@pe_var _ 5 _ _ rfl v_law_holds_5 dn__law_own dc__law_own) (@pa_cons _ _ _ _ _ (@pe_callTy _ _ _ _ _ _ _ _ _ call_list_of g_law_holds_list M.m_list b_list (@pa_cons _ _ _ _ _ (@pe_var _ 6 _ _ rfl v_law_holds_6 dn__law_foreign dc__law_foreign) (@pa_nil _) (star1 rfl)) nn_list dn_list (star1 rfl) nost0) (@pa_nil _) (star1 rfl)) (star1 rfl)) (star1 rfl)) (star1 rfl)) (by decide) (star1 rfl) (nost1 rfl (nost1 rfl (nost1 rfl nost0))) (by rfl)) (swap1 rfl) (.inl rfl)) (@pss_cons _ _ _ _ _ (@ps_if _ _ _ _ _ _ _ _ (@PW.pt _ _ _ (@pw_or _ _ _ _ _ _ _ (@pt_not _ _ _ _ (@pt_val _ _ _ (@pe_callB _ _ _ _ _ _ _ _ _ call_isi g_law_holds_isinstance M.m_isinstance b_isinstance (@pa_cons _ _ _ _ _ (@pe_var _ 7 _ _ rfl v_law_holds_7 dn__law_found dc__law_found) (@pa_cons _ _ _ _ _ (@pe_bltn _ _ (.ty "bool") _ _ g_law_holds_bool M.m_bool b_bool rfl nn_bool dn_bool) (@pa_nil _) (star1 rfl)) (star1 rfl)) nn_isinstance dn_isinstance (star1 rfl) (nost1 rfl nost0)) (test1 rfl))) (@pw_or1 _ _ _ _ (@pt_cmpR _ _ _ _ _ _ _ _ (@op_ne _) (@pe_var _ 7 _ _ rfl v_law_holds_7 dn__law_found dc__law_found) (@pe_callC _ _ _ _ _ _ _ _ _ _ _ C_law_enough hr g_law_holds__law_enough (@pa_cons _ _ _ _ _ (@pe_var _ 1 _ _ rfl v_law_holds_1 dn__law_told dc__law_told) (@pa_cons _ _ _ _ _ (@pe_var _ 3 _ _ rfl v_law_holds_3 dn__law_number_here dc__law_number_here) (@pa_cons _ _ _ _ _ (@pe_var _ 4 _ _ rfl v_law_holds_4 dn__law_price dc__law_price) (@pa_cons _ _ _ _ _ (@pe_var _ 5 _ _ rfl v_law_holds_5 dn__law_own dc__law_own) (@pa_cons _ _ _ _ _ (@pe_var _ 6 _ _ rfl v_law_holds_6 dn__law_foreign dc__law_foreign) (@pa_nil _) (star1 rfl)) (star1 rfl)) (star1 rfl)) (star1 rfl)) (star1 rfl)) (by decide) dn__law_enough (star1 rfl) (nost1 rfl (nost1 rfl (nost1 rfl (nost1 rfl nost0))))) (nomark _))))) (@pss_one _ _ _ (@ps_ret _ _ _ _ (@pe_bl _ _ _ _))) (@pss_nil _)) (@pss_cons _ _ _ _ _ (@ps_set _ _ 7 _ _ _ _ sc_law_holds.nd rfl l_law_holds_7 (@pe_methD0 _ _ _ _ _ _ _ _ _ _ _ (@pe_var _ 0 _ _ rfl v_law_holds_0 dn__law_rule_here dc__law_rule_here) D_told hr (by decide) (by rfl)) (swap1 rfl) (.inl rfl)) (@pss_one _ _ _ (@ps_if _ _ _ _ _ _ _ _ (@PW.pt _ _ _ (@pw_or _ _ _ _ _ _ _ (@pt_not _ _ _ _ (@pt_val _ _ _ (@pe_callB _ _ _ _ _ _ _ _ _ call_isi g_law_holds_isinstance M.m_isinstance b_isinstance (@pa_cons _ _ _ _ _ (@pe_var _ 7 _ _ rfl v_law_holds_7 dn__law_found dc__law_found) (@pa_cons _ _ _ _ _ (@pe_bltn _ _ (.ty "tuple") _ _ g_law_holds_tuple M.m_tuple b_tuple rfl nn_tuple dn_tuple) (@pa_nil _) (star1 rfl)) (star1 rfl)) nn_isinstance dn_isinstance (star1 rfl) (nost1 rfl nost0)) (test1 rfl))) (@pw_or _ _ _ _ _ _ _ (@pt_cmpR _ _ _ _ _ _ _ _ (op_neD (hu60 hr)) (@pe_var _ 7 _ _ rfl v_law_holds_7 dn__law_found dc__law_found) (@pe_var _ 1 _ _ rfl v_law_holds_1 dn__law_told dc__law_told) (nomark _)) (@pw_or1 _ _ _ _ (@pt_not _ _ _ _ (@pt_val _ _ _ (@pe_callB _ _ _ _ _ _ _ _ _ call_isiO g_law_holds_isinstance M.m_isinstance b_isinstance (@pa_cons _ _ _ _ _ (@pe_var _ 0 _ _ rfl v_law_holds_0 dn__law_rule_here dc__law_rule_here) (@pa_cons _ _ _ _ _ (@pe_glob _ _ _ _ _ g_law_holds_Rule A_Rule (show RelV (.ref c_Rule) _ from rfl) dn_Rule) (@pa_nil _) (star1 rfl)) (star1 rfl)) nn_isinstance dn_isinstance (star1 rfl) (nost1 rfl nost0)) (test1 rfl))))))) (@pss_one _ _ _ (@ps_ret _ _ _ _ (@pe_bl _ _ _ _))) (@pss_nil _)))))) (by intro _; rfl)) (@pss_one _ _ _ (@ps_ret _ _ _ _ (@pe_bl _ _ _ _)))), ?_⟩
  simp only [tTurn, rTurnT, tTryS, rCountT, rPop, rRep, tCont, iZipT, tChain3, tFld, sFld, tMake, tMake0, tMethD, tBM0, rUpper, tDict1T, tTryN, rSlS, rMulS, rCatS, iZipL, rInsert, rReverse, tDNewX, tTry, tRaise, iEnumL, iEnumT, iZip, iSeq, iOr, rIx, iStr, rLeS, rJoin, rSlTA, tComp_eq, tComp1, slots, Option.getD_some, Option.getD_none, tYes, tSeq, tAsg, gName, tOp, tUn, tC, tVar, tCB, tCons, tNil, tCall, rI, rI0, rU, tRet, tRetN, tIfS, tTest, tB, tAnd, tOr, tNot, tAndV, tOrV, tNotV, tIf, tChain, tMenu, tPar, tDrop, tTup, tLst, tNext, tSl, tPart, tNoPart, tNever, gTup, gCons, gNil, gSub, rSetL, tBM, rAppend, rEq, rNe, rIsi, rIxL, rIxT, rIxS, rSlL, isi_non_bl, isi_non_int, isi_non_str, isi_non_lst, isi_non_tup, isi_bl_bl, isi_bl_int, isi_bl_str, isi_bl_lst, isi_bl_tup, isi_int_bl, isi_int_int, isi_int_str, isi_int_lst, isi_int_tup, isi_str_bl, isi_str_int, isi_str_str, isi_str_lst, isi_str_tup, isi_lst_bl, isi_lst_int, isi_lst_str, isi_lst_lst, isi_lst_tup, isi_tup_bl, isi_tup_int, isi_tup_str, isi_tup_lst, isi_tup_tup, isi_dct_bl, isi_dct_int, isi_dct_str, isi_dct_lst, isi_dct_tup, Kd_non, Kd_bl, Kd_int, Kd_str, sc_non_non, sc_non_int, sc_int_non, sc_non_bl, sc_bl_non, sc_non_str, sc_str_non, sc_int_int, sc_bl_bl, sc_str_str, sc_int_str, sc_str_int, sc_bl_str, sc_str_bl, decide_true, decide_false, tFor_eq, iList, iTup, iRng1, iRng2, iRng3, rIndexT, tBM0, tBMT, tyK_int, tyK_bool, tyK_str, tyK_list, tyK_tuple, L2.start, cxK, Int.reduceToNat, List.map_cons, List.map_nil, List.length_cons, List.length_nil, Nat.reduceAdd, Nat.reduceSub, Nat.zero_add, List.replicate_succ, List.replicate_zero, List.cons_append, List.nil_append, List.append_nil, List.getElem?_cons_zero, List.getElem?_cons_succ, List.set_cons_zero, List.set_cons_succ, Option.some.injEq, V.int.injEq, V.bl.injEq, V.ref.injEq, V.str.injEq, V.ty.injEq, List.cons.injEq, exists_eq_left', exists_eq_left, exists_eq_right, exists_and_left, exists_and_right, and_true, true_and, and_assoc, exists_const, decide_eq_true_eq, Bool.not_eq_true', Bool.not_true, Bool.not_false, Bool.not_not, decide_eq_false_iff_not, ite_not, Bool.false_eq_true, if_true, if_false, reduceCtorEq, and_false, false_and, exists_false, or_false, false_or, ↓reduceIte, eq_self, reduceIte]
  refine ⟨_, SqL.of L, fun s1 hs1 => ?_⟩
  have ec : cutV [x1, x2, x3] none (some 1) = [x1] := rfl
  rw [ec]
  obtain ⟨H1, g1, S1, L1⟩ : ∃ H1, H1 = upd H s1 (.lst [x1]) ∧ Same H H1 ∧ H1 s1 = some (.lst [x1]) := ⟨_, rfl, same_new hs1 _, upd_same⟩
  rw [← g1]
  clear g1
  refine ⟨l, s1, [x1, x2, x3], [x1], rfl, rfl, S1 _ _ L, L1, (show 4 ≤ sizeLine by decide), fun s2 hs2 => ?_⟩
  obtain ⟨H2, g2, S2, LL⟩ : ∃ H2, H2 = upd H1 s2 (.lst ([x1, x2, x3] ++ [x1])) ∧ Same H1 H2 ∧ H2 s2 = some (.lst ([x1, x2, x3] ++ [x1])) := ⟨_, rfl, same_new hs2 _, upd_same⟩
  rw [← g2]
  clear g2
  have S02 := S1.trans S2
  have asks' : ∀ x ∈ [x1, x2, x3] ++ [x1], AskAt K H x := fun x hx => by
    rcases List.mem_append.mp hx with h | h
    · exact asks x h
    · rw [List.mem_singleton.mp h]
      exact asks x1 (List.mem_cons_self ..)
  refine ⟨_, rfl, ⟨_, SqL.of LL⟩, ?_⟩
  obtain ⟨Pv, hP⟩ : ∃ Pv : Nat → St → Hp → Prop, Pv = fun i σ H' => ∃ o3 o4 o5 o6 o7, Same H2 H' ∧ σ = [some (V.ref a), some (V.ref p), some (V.ref l), o3, o4, o5, o6, o7] := ⟨_, rfl⟩
  refine forW_list ([x1, x2, x3] ++ [x1]) Pv ?_ (fun i σ H' _ h => by rw [hP] at h; obtain ⟨_, _, _, _, _, e, _⟩ := h; exact SqL.of (e _ _ LL)) ?_ ?_
  · rw [hP]
    exact ⟨_, _, _, _, _, Same.refl _, rfl⟩
  · intro i x σ H' hx h
    rw [hP] at h
    obtain ⟨o3, o4, o5, o6, o7, e, rfl⟩ := h
    have e' := S02.trans e
    obtain ⟨pp, n, fl, nn, price, own, fx, fs, rfl, TA, en⟩ := (asks' x (List.mem_of_getElem? hx)).same e'
    simp only [tTurn, rTurnT, tTryS, rCountT, rPop, rRep, tCont, iZipT, tChain3, tFld, sFld, tMake, tMake0, tMethD, tBM0, rUpper, tDict1T, tTryN, rSlS, rMulS, rCatS, iZipL, rInsert, rReverse, tDNewX, tTry, tRaise, iEnumL, iEnumT, iZip, iSeq, iOr, rIx, iStr, rLeS, rJoin, rSlTA, tComp_eq, tComp1, slots, Option.getD_some, Option.getD_none, tYes, tSeq, tAsg, gName, tOp, tUn, tC, tVar, tCB, tCons, tNil, tCall, rI, rI0, rU, tRet, tRetN, tIfS, tTest, tB, tAnd, tOr, tNot, tAndV, tOrV, tNotV, tIf, tChain, tMenu, tPar, tDrop, tTup, tLst, tNext, tSl, tPart, tNoPart, tNever, gTup, gCons, gNil, gSub, rSetL, tBM, rAppend, rEq, rNe, rIsi, rIxL, rIxT, rIxS, rSlL, isi_non_bl, isi_non_int, isi_non_str, isi_non_lst, isi_non_tup, isi_bl_bl, isi_bl_int, isi_bl_str, isi_bl_lst, isi_bl_tup, isi_int_bl, isi_int_int, isi_int_str, isi_int_lst, isi_int_tup, isi_str_bl, isi_str_int, isi_str_str, isi_str_lst, isi_str_tup, isi_lst_bl, isi_lst_int, isi_lst_str, isi_lst_lst, isi_lst_tup, isi_tup_bl, isi_tup_int, isi_tup_str, isi_tup_lst, isi_tup_tup, isi_dct_bl, isi_dct_int, isi_dct_str, isi_dct_lst, isi_dct_tup, Kd_non, Kd_bl, Kd_int, Kd_str, sc_non_non, sc_non_int, sc_int_non, sc_non_bl, sc_bl_non, sc_non_str, sc_str_non, sc_int_int, sc_bl_bl, sc_str_str, sc_int_str, sc_str_int, sc_bl_str, sc_str_bl, decide_true, decide_false, tFor_eq, iList, iTup, iRng1, iRng2, iRng3, rIndexT, tBM0, tBMT, tyK_int, tyK_bool, tyK_str, tyK_list, tyK_tuple, L2.start, cxK, Int.reduceToNat, List.map_cons, List.map_nil, List.length_cons, List.length_nil, Nat.reduceAdd, Nat.reduceSub, Nat.zero_add, List.replicate_succ, List.replicate_zero, List.cons_append, List.nil_append, List.append_nil, List.getElem?_cons_zero, List.getElem?_cons_succ, List.set_cons_zero, List.set_cons_succ, Option.some.injEq, V.int.injEq, V.bl.injEq, V.ref.injEq, V.str.injEq, V.ty.injEq, List.cons.injEq, exists_eq_left', exists_eq_left, exists_eq_right, exists_and_left, exists_and_right, and_true, true_and, and_assoc, exists_const, decide_eq_true_eq, Bool.not_eq_true', Bool.not_true, Bool.not_false, Bool.not_not, decide_eq_false_iff_not, ite_not, Bool.false_eq_true, if_true, if_false, reduceCtorEq, and_false, false_and, exists_false, or_false, false_or, ↓reduceIte, eq_self, reduceIte]
    have O' := ObjR.same e' O
    obtain ⟨dx, gs, hO, l1, l2, h5⟩ := obj_cls O'
    refine ⟨_, TA, rfl, _, _, rfl, _, _, rfl, _, _, rfl, _, _, rfl, rfl, _, _, _, hO, l2, _, ⟨_, h5, rfl, rfl⟩, _, rfl, _, .inl en.L, fun l3 hl3 => ?_⟩
    obtain ⟨H3, g3, S3, L3⟩ : ∃ H3, H3 = upd H' l3 (.lst fx) ∧ Same H' H3 ∧ SqL K H3 l3 fx := ⟨_, rfl, same_new hl3 _, SqL.of upd_same⟩
    rw [← g3]
    clear g3
    have en3 := en.same S3
    refine ⟨a, n, l3, r, nn, price, own, fx, fs, rfl, rfl, ObjR.same S3 O', rok, dp, ⟨en3.TN, L3, en3.FA, en3.l4, en3.p1, en3.p12, en3.o0, en3.o12⟩, fun H4 S4 => ?_⟩
    have S34 := S3.trans S4
    refine ⟨_, (show Kd K H4 (.bl _) .bl from rfl), ?_⟩
    rw [if_neg (by decide)]
    refine ⟨p, n, fl, r, nn, price, own, fx, fs, rfl, R.same (e'.trans S34), rok, dp, en.same S34, fun H5 S5 => ?_⟩
    have S35 := S34.trans S5
    refine ⟨rfl, ?_⟩
    rw [if_pos rfl]
    refine told_byR (ObjR.same S35 O') dp fun pt H6 S6 R6 => ?_
    have S36 := S35.trans S6
    have e6 := e'.trans S36
    obtain ⟨xs, T6, _⟩ := rep_any R6
    refine ⟨_, Kd.tup T6, ?_⟩
    rw [if_neg (by decide)]
    refine rEqD_self R6 (R.same e6) (flat_data (by omega)) ⟨_, rfl, ?_⟩
    rw [if_neg (by decide)]
    refine isi_rule ok (ObjR.same S36 O') ⟨_, rfl, ?_⟩
    rw [if_neg (by decide), hP]
    exact ⟨_, _, _, _, _, e.trans S36, rfl⟩
  · intro σ H' h
    rw [hP] at h
    obtain ⟨o3, o4, o5, o6, o7, e, rfl⟩ := h
    simp only [tTurn, rTurnT, tTryS, rCountT, rPop, rRep, tCont, iZipT, tChain3, tFld, sFld, tMake, tMake0, tMethD, tBM0, rUpper, tDict1T, tTryN, rSlS, rMulS, rCatS, iZipL, rInsert, rReverse, tDNewX, tTry, tRaise, iEnumL, iEnumT, iZip, iSeq, iOr, rIx, iStr, rLeS, rJoin, rSlTA, tComp_eq, tComp1, slots, Option.getD_some, Option.getD_none, tYes, tSeq, tAsg, gName, tOp, tUn, tC, tVar, tCB, tCons, tNil, tCall, rI, rI0, rU, tRet, tRetN, tIfS, tTest, tB, tAnd, tOr, tNot, tAndV, tOrV, tNotV, tIf, tChain, tMenu, tPar, tDrop, tTup, tLst, tNext, tSl, tPart, tNoPart, tNever, gTup, gCons, gNil, gSub, rSetL, tBM, rAppend, rEq, rNe, rIsi, rIxL, rIxT, rIxS, rSlL, isi_non_bl, isi_non_int, isi_non_str, isi_non_lst, isi_non_tup, isi_bl_bl, isi_bl_int, isi_bl_str, isi_bl_lst, isi_bl_tup, isi_int_bl, isi_int_int, isi_int_str, isi_int_lst, isi_int_tup, isi_str_bl, isi_str_int, isi_str_str, isi_str_lst, isi_str_tup, isi_lst_bl, isi_lst_int, isi_lst_str, isi_lst_lst, isi_lst_tup, isi_tup_bl, isi_tup_int, isi_tup_str, isi_tup_lst, isi_tup_tup, isi_dct_bl, isi_dct_int, isi_dct_str, isi_dct_lst, isi_dct_tup, Kd_non, Kd_bl, Kd_int, Kd_str, sc_non_non, sc_non_int, sc_int_non, sc_non_bl, sc_bl_non, sc_non_str, sc_str_non, sc_int_int, sc_bl_bl, sc_str_str, sc_int_str, sc_str_int, sc_bl_str, sc_str_bl, decide_true, decide_false, tFor_eq, iList, iTup, iRng1, iRng2, iRng3, rIndexT, tBM0, tBMT, tyK_int, tyK_bool, tyK_str, tyK_list, tyK_tuple, L2.start, cxK, Int.reduceToNat, List.map_cons, List.map_nil, List.length_cons, List.length_nil, Nat.reduceAdd, Nat.reduceSub, Nat.zero_add, List.replicate_succ, List.replicate_zero, List.cons_append, List.nil_append, List.append_nil, List.getElem?_cons_zero, List.getElem?_cons_succ, List.set_cons_zero, List.set_cons_succ, Option.some.injEq, V.int.injEq, V.bl.injEq, V.ref.injEq, V.str.injEq, V.ty.injEq, List.cons.injEq, exists_eq_left', exists_eq_left, exists_eq_right, exists_and_left, exists_and_right, and_true, true_and, and_assoc, exists_const, decide_eq_true_eq, Bool.not_eq_true', Bool.not_true, Bool.not_false, Bool.not_not, decide_eq_false_iff_not, ite_not, Bool.false_eq_true, if_true, if_false, reduceCtorEq, and_false, false_and, exists_false, or_false, false_or, ↓reduceIte, eq_self, reduceIte]
    exact q _ (S02.trans e)
end

section
variable {P : Program} {w : World} {K : PySem.W.Frag} {mg : Str → Option Value} {base : Heap} {f : Addr} {fd : FuncData} {cs : RC} {cN : Addr}
theorem ok_law (F : Fun K "law" "law" s_law f fd) (M : Mg mg) (C_rule_of : Cal P w K mg base (CXE P w) "rule_of" 10 ["told"] (spRuleOf K cs cN)) (C_law_cell_at : Cal P w K mg base CX0 "_law_cell_at" 1 ["_law_script", "_law_k"] (spCellAt K)) (C_law_mix : Cal P w K mg base CX0 "_law_mix" 1 ["_law_cell", "_law_by"] spMix) (C_law_rule : Cal P w K mg base CX0 "_law_rule" 7 ["_law_cell", "_law_deep"] (spRuleU K))
    (C_law_made : Cal P w K mg base CX0 "_law_made" 7 ["_law_told"] (spMade K cs 4)) (C_law_spoilt : Cal P w K mg base CX0 "_law_spoilt" 6 ["_law_told", "_law_cell"] (spSpoilt K 4)) (C_law_deeper : Cal P w K mg base CX0 "_law_deeper" 1 ["_law_told", "_law_more", "_law_cell"] (spDeeper K)) (C_law_refused : Cal P w K mg base CX0 "_law_refused" 11 ["_law_told"] (spRefused K))
    (C_law_holds : Cal P w K mg base CX0 "_law_holds" 6 ["_law_rule_here", "_law_told", "_law_some"] (spHolds K cs)) (C_law_asked : Cal P w K mg base CX0 "_law_asked" 3 ["_law_script", "_law_k"] (spAsk K)) (D_told : ∀ C sp, DR (spTolR K cs) cs 4 C sp → Disp P w K mg base "told" 5 ["self"] C sp) : FnOk P w K mg base CX0 12 f fd ["_law_script"] (spLaw K) := by
  refine F.ok sc_law (fun vs H Q E h => ?_) (fun cdv A outer s H vs Q E hr h => ?_)
  · obtain ⟨a, ns, rfl, _⟩ := h
    rfl
  obtain ⟨a, ns, rfl, hS, hl, q⟩ := h
  refine ⟨_, (@pss_cons _ _ _ _ _ (@ps_set _ _ 1 _ _ _ _ sc_law.nd rfl l_law_1 (@pe_callC _ _ _ _ _ _ _ _ _ _ _ C_law_rule hr g_law__law_rule (@pa_cons _ _ _ _ _ (@pe_callC _ _ _ _ _ _ _ _ _ _ _ C_law_cell_at hr g_law__law_cell_at (@pa_cons _ _ _ _ _ (@pe_var _ 0 _ _ rfl v_law_0 dn__law_script dc__law_script) (@pa_cons _ _ _ _ _ (@pe_int _ _ _ _) (@pa_nil _) (star1 rfl)) (star1 rfl)) (by decide) dn__law_cell_at (star1 rfl) (nost1 rfl nost0)) (@pa_cons _ _ _ _ _ (@pe_op _ _ _ _ _ _ _ _ (@op_add _) (@pe_int _ _ _ _) (@pe_op _ _ _ _ _ _ _ _ (@op_mod _) (@pe_callC _ _ _ _ _ _ _ _ _ _ _ C_law_cell_at hr g_law__law_cell_at (@pa_cons _ _ _ _ _ (@pe_var _ 0 _ _ rfl v_law_0 dn__law_script dc__law_script) (@pa_cons _ _ _ _ _ (@pe_int _ _ _ _) (@pa_nil _) (star1 rfl)) (star1 rfl)) (by decide) dn__law_cell_at (star1 rfl) (nost1 rfl nost0)) (@pe_int _ _ _ _))) (@pa_nil _) (star1 rfl)) (star1 rfl)) (by decide) dn__law_rule (star1 rfl) (nost1 rfl nost0)) (swap1 rfl) (.inl rfl)) (@pss_cons _ _ _ _ _ (@ps_set _ _ 2 _ _ _ _ sc_law.nd rfl l_law_2 (@pe_lst _ _ _ _ (@pa_cons _ _ _ _ _ (@pe_callC _ _ _ _ _ _ _ _ _ _ _ C_law_asked hr g_law__law_asked (@pa_cons _ _ _ _ _ (@pe_var _ 0 _ _ rfl v_law_0 dn__law_script dc__law_script) (@pa_cons _ _ _ _ _ (@pe_int _ _ _ _) (@pa_nil _) (star1 rfl)) (star1 rfl)) (by decide) dn__law_asked (star1 rfl) (nost1 rfl nost0)) (@pa_cons _ _ _ _ _ (@pe_callC _ _ _ _ _ _ _ _ _ _ _ C_law_asked hr g_law__law_asked (@pa_cons _ _ _ _ _ (@pe_var _ 0 _ _ rfl v_law_0 dn__law_script dc__law_script) (@pa_cons _ _ _ _ _ (@pe_int _ _ _ _) (@pa_nil _) (star1 rfl)) (star1 rfl)) (by decide) dn__law_asked (star1 rfl) (nost1 rfl nost0)) (@pa_cons _ _ _ _ _ (@pe_callC _ _ _ _ _ _ _ _ _ _ _ C_law_asked hr g_law__law_asked (@pa_cons _ _ _ _ _ (@pe_var _ 0 _ _ rfl v_law_0 dn__law_script dc__law_script) (@pa_cons _ _ _ _ _ (@pe_int _ _ _ _) (@pa_nil _) (star1 rfl)) (star1 rfl)) (by decide) dn__law_asked (star1 rfl) (nost1 rfl nost0)) (@pa_nil _) (star1 rfl)) (star1 rfl)) (star1 rfl))) (swap1 rfl) (.inl rfl)) (@pss_cons _ _ _ _ _ (@ps_if _ _ _ _ _ _ _ _ (@PW.pt _ _ _ (@pw_or _ _ _ _ _ _ _ (@pt_not _ _ _ _ (@pt_val _ _ _ (@pe_callC _ _ _ _ _ _ _ _ _ _ _ C_law_holds hr g_law__law_holds (@pa_cons _ _ _ _ _ (@pe_callC _ _ _ _ _ _ _ _ _ _ _ C_law_made hr g_law__law_made (@pa_cons _ _ _ _ _ (@pe_var _ 1 _ _ rfl v_law_1 dn__law_told dc__law_told) (@pa_nil _) (star1 rfl)) (by decide) dn__law_made (star1 rfl) nost0) (@pa_cons _ _ _ _ _ (@pe_var _ 1 _ _ rfl v_law_1 dn__law_told dc__law_told) (@pa_cons _ _ _ _ _ (@pe_var _ 2 _ _ rfl v_law_2 dn__law_some dc__law_some) (@pa_nil _) (star1 rfl)) (star1 rfl)) (star1 rfl)) (by decide) dn__law_holds (star1 rfl) (nost1 rfl (nost1 rfl nost0))) (test1 rfl))) (@pw_or1 _ _ _ _ (@pt_not _ _ _ _ (@pt_val _ _ _ (@pe_callC _ _ _ _ _ _ _ _ _ _ _ C_law_holds hr g_law__law_holds (@pa_cons _ _ _ _ _ (@pe_callN _ _ _ _ _ _ _ _ _ _ _ C_rule_of hr g_law_rule_of (@pa_cons _ _ _ _ _ (@pe_var _ 1 _ _ rfl v_law_1 dn__law_told dc__law_told) (@pa_nil _) (star1 rfl)) (by decide) dn_rule_of (star1 rfl) nost0) (@pa_cons _ _ _ _ _ (@pe_var _ 1 _ _ rfl v_law_1 dn__law_told dc__law_told) (@pa_cons _ _ _ _ _ (@pe_var _ 2 _ _ rfl v_law_2 dn__law_some dc__law_some) (@pa_nil _) (star1 rfl)) (star1 rfl)) (star1 rfl)) (by decide) dn__law_holds (star1 rfl) (nost1 rfl (nost1 rfl nost0))) (test1 rfl)))))) (@pss_one _ _ _ (@ps_ret _ _ _ _ (@pe_bl _ _ _ _))) (@pss_nil _)) (@pss_cons _ _ _ _ _ (@ps_set _ _ 3 _ _ _ _ sc_law.nd rfl l_law_3 (@pe_callC _ _ _ _ _ _ _ _ _ _ _ C_law_mix hr g_law__law_mix (@pa_cons _ _ _ _ _ (@pe_callC _ _ _ _ _ _ _ _ _ _ _ C_law_cell_at hr g_law__law_cell_at (@pa_cons _ _ _ _ _ (@pe_var _ 0 _ _ rfl v_law_0 dn__law_script dc__law_script) (@pa_cons _ _ _ _ _ (@pe_int _ _ _ _) (@pa_nil _) (star1 rfl)) (star1 rfl)) (by decide) dn__law_cell_at (star1 rfl) (nost1 rfl nost0)) (@pa_cons _ _ _ _ _ (@pe_int _ _ _ _) (@pa_nil _) (star1 rfl)) (star1 rfl)) (by decide) dn__law_mix (star1 rfl) (nost1 rfl nost0)) (swap1 rfl) (.inl rfl)) (@pss_cons _ _ _ _ _ (@ps_if _ _ _ _ _ _ _ _ (@pt_not _ _ _ _ (@pt_val _ _ _ (@pe_callC _ _ _ _ _ _ _ _ _ _ _ C_law_refused hr g_law__law_refused (@pa_cons _ _ _ _ _ (@pe_callC _ _ _ _ _ _ _ _ _ _ _ C_law_spoilt hr g_law__law_spoilt (@pa_cons _ _ _ _ _ (@pe_var _ 1 _ _ rfl v_law_1 dn__law_told dc__law_told) (@pa_cons _ _ _ _ _ (@pe_var _ 3 _ _ rfl v_law_3 dn__law_cell dc__law_cell) (@pa_nil _) (star1 rfl)) (star1 rfl)) (by decide) dn__law_spoilt (star1 rfl) (nost1 rfl nost0)) (@pa_nil _) (star1 rfl)) (by decide) dn__law_refused (star1 rfl) nost0) (test1 rfl))) (@pss_one _ _ _ (@ps_ret _ _ _ _ (@pe_bl _ _ _ _))) (@pss_nil _)) (@pss_cons _ _ _ _ _ (@ps_for _ _ _ _ _ _ _ _ PassesOwn.never rfl (@pi_list _ _ _ _ (@pe_lst _ _ _ _ (@pa_cons _ _ _ _ _ (@pe_tup _ _ _ _ _ (@pa_cons _ _ _ _ _ (@pe_str _ _ _ _) (@pa_cons _ _ _ _ _ (@pe_tup _ _ _ _ _ (@pa_cons _ _ _ _ _ (@pe_int _ _ _ _) (@pa_cons _ _ _ _ _ (@pe_int _ _ _ _) (@pa_nil _) (star1 rfl)) (star1 rfl))) (@pa_nil _) (star1 rfl)) (star1 rfl))) (@pa_cons _ _ _ _ _ (@pe_tup _ _ _ _ _ (@pa_cons _ _ _ _ _ (@pe_str _ _ _ _) (@pa_cons _ _ _ _ _ (@pe_tup _ _ _ _ _ (@pa_cons _ _ _ _ _ (@pe_int _ _ _ _) (@pa_cons _ _ _ _ _ (@pe_int _ _ _ _) (@pa_nil _) (star1 rfl)) (star1 rfl))) (@pa_nil _) (star1 rfl)) (star1 rfl))) (@pa_cons _ _ _ _ _ (@pe_tup _ _ _ _ _ (@pa_cons _ _ _ _ _ (@pe_str _ _ _ _) (@pa_cons _ _ _ _ _ (@pe_tup _ _ _ _ _ (@pa_cons _ _ _ _ _ (@pe_op _ _ _ _ _ _ _ _ (@op_sub _) (@pe_op _ _ _ _ _ _ _ _ (@op_pow _) (@pe_int _ _ _ _) (@pe_int _ _ _ _)) (@pe_int _ _ _ _)) (@pa_cons _ _ _ _ _ (@pe_op _ _ _ _ _ _ _ _ (@op_pow _) (@pe_int _ _ _ _) (@pe_int _ _ _ _)) (@pa_nil _) (star1 rfl)) (star1 rfl))) (@pa_nil _) (star1 rfl)) (star1 rfl))) (@pa_cons _ _ _ _ _ (@pe_tup _ _ _ _ _ (@pa_cons _ _ _ _ _ (@pe_str _ _ _ _) (@pa_cons _ _ _ _ _ (@pe_int _ _ _ _) (@pa_nil _) (star1 rfl)) (star1 rfl))) (@pa_cons _ _ _ _ _ (@pe_tup _ _ _ _ _ (@pa_cons _ _ _ _ _ (@pe_str _ _ _ _) (@pa_cons _ _ _ _ _ (@pe_int _ _ _ _) (@pa_nil _) (star1 rfl)) (star1 rfl))) (@pa_nil _) (star1 rfl)) (star1 rfl)) (star1 rfl)) (star1 rfl)) (star1 rfl)))) (@pg_name _ _ 4 _ sc_law.nd rfl l_law_4 (.inl rfl)) (@pss_one _ _ _ (@ps_if _ _ _ _ _ _ _ _ (@pt_cmpR _ _ _ _ _ _ _ _ (op_neD (hu60 hr)) (@pe_methD0 _ _ _ _ _ _ _ _ _ _ _ (@pe_callN _ _ _ _ _ _ _ _ _ _ _ C_rule_of hr g_law_rule_of (@pa_cons _ _ _ _ _ (@pe_var _ 4 _ _ rfl v_law_4 dn__law_edge dc__law_edge) (@pa_nil _) (star1 rfl)) (by decide) dn_rule_of (star1 rfl) nost0) D_told hr (by decide) (by rfl)) (@pe_var _ 4 _ _ rfl v_law_4 dn__law_edge dc__law_edge) (nomark _)) (@pss_one _ _ _ (@ps_ret _ _ _ _ (@pe_bl _ _ _ _))) (@pss_nil _))) (by intro _; rfl)) (@pss_cons _ _ _ _ _ (@ps_set _ _ 5 _ _ _ _ sc_law.nd rfl l_law_5 (@pe_callC _ _ _ _ _ _ _ _ _ _ _ C_law_rule hr g_law__law_rule (@pa_cons _ _ _ _ _ (@pe_callC _ _ _ _ _ _ _ _ _ _ _ C_law_cell_at hr g_law__law_cell_at (@pa_cons _ _ _ _ _ (@pe_var _ 0 _ _ rfl v_law_0 dn__law_script dc__law_script) (@pa_cons _ _ _ _ _ (@pe_int _ _ _ _) (@pa_nil _) (star1 rfl)) (star1 rfl)) (by decide) dn__law_cell_at (star1 rfl) (nost1 rfl nost0)) (@pa_cons _ _ _ _ _ (@pe_int _ _ _ _) (@pa_nil _) (star1 rfl)) (star1 rfl)) (by decide) dn__law_rule (star1 rfl) (nost1 rfl nost0)) (swap1 rfl) (.inl rfl)) (@pss_cons _ _ _ _ _ (@ps_set _ _ 6 _ _ _ _ sc_law.nd rfl l_law_6 (@pe_callC _ _ _ _ _ _ _ _ _ _ _ C_law_deeper hr g_law__law_deeper (@pa_cons _ _ _ _ _ (@pe_var _ 5 _ _ rfl v_law_5 dn__law_plain dc__law_plain) (@pa_cons _ _ _ _ _ (@pe_int _ _ _ _) (@pa_cons _ _ _ _ _ (@pe_var _ 3 _ _ rfl v_law_3 dn__law_cell dc__law_cell) (@pa_nil _) (star1 rfl)) (star1 rfl)) (star1 rfl)) (by decide) dn__law_deeper (star1 rfl) (nost1 rfl (nost1 rfl nost0))) (swap1 rfl) (.inl rfl)) (@pss_cons _ _ _ _ _ (@ps_if _ _ _ _ _ _ _ _ (@PW.pt _ _ _ (@pw_or _ _ _ _ _ _ _ (@pt_not _ _ _ _ (@pt_val _ _ _ (@pe_callC _ _ _ _ _ _ _ _ _ _ _ C_law_holds hr g_law__law_holds (@pa_cons _ _ _ _ _ (@pe_callN _ _ _ _ _ _ _ _ _ _ _ C_rule_of hr g_law_rule_of (@pa_cons _ _ _ _ _ (@pe_var _ 6 _ _ rfl v_law_6 dn__law_deep dc__law_deep) (@pa_nil _) (star1 rfl)) (by decide) dn_rule_of (star1 rfl) nost0) (@pa_cons _ _ _ _ _ (@pe_var _ 6 _ _ rfl v_law_6 dn__law_deep dc__law_deep) (@pa_cons _ _ _ _ _ (@pe_var _ 2 _ _ rfl v_law_2 dn__law_some dc__law_some) (@pa_nil _) (star1 rfl)) (star1 rfl)) (star1 rfl)) (by decide) dn__law_holds (star1 rfl) (nost1 rfl (nost1 rfl nost0))) (test1 rfl))) (@pw_or1 _ _ _ _ (@pt_not _ _ _ _ (@pt_val _ _ _ (@pe_callC _ _ _ _ _ _ _ _ _ _ _ C_law_refused hr g_law__law_refused (@pa_cons _ _ _ _ _ (@pe_callC _ _ _ _ _ _ _ _ _ _ _ C_law_deeper hr g_law__law_deeper (@pa_cons _ _ _ _ _ (@pe_var _ 5 _ _ rfl v_law_5 dn__law_plain dc__law_plain) (@pa_cons _ _ _ _ _ (@pe_int _ _ _ _) (@pa_cons _ _ _ _ _ (@pe_var _ 3 _ _ rfl v_law_3 dn__law_cell dc__law_cell) (@pa_nil _) (star1 rfl)) (star1 rfl)) (star1 rfl)) (by decide) dn__law_deeper (star1 rfl) (nost1 rfl (nost1 rfl nost0))) (@pa_nil _) (star1 rfl)) (by decide) dn__law_refused (star1 rfl) nost0) (test1 rfl)))))) (@pss_one _ _ _ (@ps_ret _ _ _ _ (@pe_bl _ _ _ _))) (@pss_nil _)) (@pss_one _ _ _ (@ps_ret _ _ _ _ (@pe_callC _ _ _ _ _ _ _ _ _ _ _ C_law_refused hr g_law__law_refused (@pa_cons _ _ _ _ _ (@pe_callC _ _ _ _ _ _ _ _ _ _ _ C_law_deeper hr g_law__law_deeper (@pa_cons _ _ _ _ _ (@pe_var _ 5 _ _ rfl v_law_5 dn__law_plain dc__law_plain) (@pa_cons _ _ _ _ _ (@pe_op _ _ _ _ _ _ _ _ (@op_add _) (@pe_int _ _ _ _) (@pe_op _ _ _ _ _ _ _ _ (@op_mod _) (@pe_var _ 3 _ _ rfl v_law_3 dn__law_cell dc__law_cell) (@pe_int _ _ _ _))) (@pa_cons _ _ _ _ _ (@pe_var _ 3 _ _ rfl v_law_3 dn__law_cell dc__law_cell) (@pa_nil _) (star1 rfl)) (star1 rfl)) (star1 rfl)) (by decide) dn__law_deeper (star1 rfl) (nost1 rfl (nost1 rfl nost0))) (@pa_nil _) (star1 rfl)) (by decide) dn__law_refused (star1 rfl) nost0)))))))))))), ?_⟩
  simp only [tTurn, rTurnT, tTryS, rCountT, rPop, rRep, tCont, iZipT, tChain3, tFld, sFld, tMake, tMake0, tMethD, tBM0, rUpper, tDict1T, tTryN, rSlS, rMulS, rCatS, iZipL, rInsert, rReverse, tDNewX, tTry, tRaise, iEnumL, iEnumT, iZip, iSeq, iOr, rIx, iStr, rLeS, rJoin, rSlTA, tComp_eq, tComp1, slots, Option.getD_some, Option.getD_none, tYes, tSeq, tAsg, gName, tOp, tUn, tC, tVar, tCB, tCons, tNil, tCall, rI, rI0, rU, tRet, tRetN, tIfS, tTest, tB, tAnd, tOr, tNot, tAndV, tOrV, tNotV, tIf, tChain, tMenu, tPar, tDrop, tTup, tLst, tNext, tSl, tPart, tNoPart, tNever, gTup, gCons, gNil, gSub, rSetL, tBM, rAppend, rEq, rNe, rIsi, rIxL, rIxT, rIxS, rSlL, isi_non_bl, isi_non_int, isi_non_str, isi_non_lst, isi_non_tup, isi_bl_bl, isi_bl_int, isi_bl_str, isi_bl_lst, isi_bl_tup, isi_int_bl, isi_int_int, isi_int_str, isi_int_lst, isi_int_tup, isi_str_bl, isi_str_int, isi_str_str, isi_str_lst, isi_str_tup, isi_lst_bl, isi_lst_int, isi_lst_str, isi_lst_lst, isi_lst_tup, isi_tup_bl, isi_tup_int, isi_tup_str, isi_tup_lst, isi_tup_tup, isi_dct_bl, isi_dct_int, isi_dct_str, isi_dct_lst, isi_dct_tup, Kd_non, Kd_bl, Kd_int, Kd_str, sc_non_non, sc_non_int, sc_int_non, sc_non_bl, sc_bl_non, sc_non_str, sc_str_non, sc_int_int, sc_bl_bl, sc_str_str, sc_int_str, sc_str_int, sc_bl_str, sc_str_bl, decide_true, decide_false, tFor_eq, iList, iTup, iRng1, iRng2, iRng3, rIndexT, tBM0, tBMT, tyK_int, tyK_bool, tyK_str, tyK_list, tyK_tuple, L2.start, cxK, Int.reduceToNat, List.map_cons, List.map_nil, List.length_cons, List.length_nil, Nat.reduceAdd, Nat.reduceSub, Nat.zero_add, List.replicate_succ, List.replicate_zero, List.cons_append, List.nil_append, List.append_nil, List.getElem?_cons_zero, List.getElem?_cons_succ, List.set_cons_zero, List.set_cons_succ, Option.some.injEq, V.int.injEq, V.bl.injEq, V.ref.injEq, V.str.injEq, V.ty.injEq, List.cons.injEq, exists_eq_left', exists_eq_left, exists_eq_right, exists_and_left, exists_and_right, and_true, true_and, and_assoc, exists_const, decide_eq_true_eq, Bool.not_eq_true', Bool.not_true, Bool.not_false, Bool.not_not, decide_eq_false_iff_not, ite_not, Bool.false_eq_true, if_true, if_false, reduceCtorEq, and_false, false_and, exists_false, or_false, false_or, ↓reduceIte, eq_self, reduceIte]
  refine spCellAt_of hS (by decide) (spCellAt_of hS (by decide) ⟨_, rfl, by decide, ?_⟩)
  obtain ⟨d, hd, d1, d4⟩ : ∃ d : Nat, 1 + cellAt ns 1 % 4 = (d : Int) ∧ 1 ≤ d ∧ d ≤ 4 := ⟨(1 + cellAt ns 1 % 4).toNat, by omega, by omega, by omega⟩
  rw [hd]
  refine ⟨d, d4, _, rfl, d1, fun p1 H1 r S1 R1 ok1 dp1 => ?_⟩
  refine ⟨a, ns, _, rfl, S1.seq hS, by decide, by decide, fun q1 H2 S2 A1 => ?_⟩
  have S02 := S1.trans S2
  refine ⟨a, ns, _, rfl, S02.seq hS, by decide, by decide, fun q2 H3 S3 A2 => ?_⟩
  have S03 := S02.trans S3
  refine ⟨a, ns, _, rfl, S03.seq hS, by decide, by decide, fun q3 H4 S4 A3 => ?_⟩
  refine ⟨by decide, fun l hl4 => ?_⟩
  obtain ⟨H5, g5, S5, L5⟩ : ∃ H5, H5 = upd H4 l (.lst [V.ref q1, V.ref q2, V.ref q3]) ∧ Same H4 H5 ∧ H5 l = some (.lst [V.ref q1, V.ref q2, V.ref q3]) := ⟨_, rfl, same_new hl4 _, upd_same⟩
  rw [← g5]
  clear g5
  have S05 := S03.trans (S4.trans S5)
  have asks : ∀ H', Same H5 H' → ∀ x ∈ [V.ref q1, V.ref q2, V.ref q3], AskAt K H' x := fun H' e x hx => by
    simp only [List.mem_cons, List.not_mem_nil, or_false] at hx
    rcases hx with rfl | rfl | rfl
    · exact A1.same (S3.trans (S4.trans (S5.trans e)))
    · exact A2.same (S4.trans (S5.trans e))
    · exact A3.same (S5.trans e)
  have R5 := R1.same (S2.trans (S3.trans (S4.trans S5)))
  have hS5 := S05.seq hS
  refine ⟨p1, r, rfl, R5, by omega, fun a1 H6 S6 O6 => ?_⟩
  refine ⟨a1, p1, l, r, _, _, _, rfl, O6, R5.same S6, ok1, by omega, S6 _ _ L5, asks _ S6, fun H7 S7 => ⟨_, rfl, ?_⟩⟩
  rw [if_neg (by decide)]
  have S57 := S6.trans S7
  refine .inl ⟨p1, r, rfl, R5.same S57, ok1, by omega, fun a2 H8 S8 O8 => ?_⟩
  have S58 := S57.trans S8
  refine ⟨a2, p1, l, r, _, _, _, rfl, O8, R5.same S58, ok1, by omega, S58 _ _ L5, asks _ S58, fun H9 S9 => ⟨_, rfl, ?_⟩⟩
  rw [if_neg (by decide)]
  have S59 := S58.trans S9
  refine spCellAt_of (S59.seq hS5) (by decide) ⟨_, _, rfl, by decide, by decide, ?_⟩
  obtain ⟨cc, hcc⟩ : ∃ cc : Int, cellAt ns 10 % 1000003 * 48271 % 999983 = cc := ⟨_, rfl⟩
  rw [hcc]
  refine ⟨p1, _, r, rfl, R5.same S59, ok1, by omega, fun v H10 S10 B => ?_⟩
  refine ⟨v, rfl, B 4 (by omega), fun H11 S11 => ⟨_, rfl, ?_⟩⟩
  rw [if_neg (by decide)]
  have S511 := S59.trans (S10.trans S11)
  clear S6 S7 S57 S8 S58 S9 S59 S10 S11 S1 S2 S3 S4 S02 S03 B O6 O8
  refine ⟨by decide, fun e0 he0 => ?_⟩
  obtain ⟨J0, g, U0, Xe0⟩ := fresh_tup (K := K) he0 [V.int 0, V.int 1]
  rw [← g]
  clear g
  refine ⟨by decide, fun f0 hf0 => ?_⟩
  obtain ⟨J1, g, U1, Xf0⟩ := fresh_tup (K := K) hf0 [V.str (Str.ofString "share"), V.ref e0]
  rw [← g]
  clear g
  refine ⟨by decide, fun e1 he1 => ?_⟩
  obtain ⟨J2, g, U2, Xe1⟩ := fresh_tup (K := K) he1 [V.int 1, V.int 1]
  rw [← g]
  clear g
  refine ⟨by decide, fun f1 hf1 => ?_⟩
  obtain ⟨J3, g, U3, Xf1⟩ := fresh_tup (K := K) hf1 [V.str (Str.ofString "share"), V.ref e1]
  rw [← g]
  clear g
  refine ⟨cpow, cpow, by decide, fun e2 he2 => ?_⟩
  obtain ⟨J4, g, U4, Xe2⟩ := fresh_tup (K := K) he2 [V.int (10 ^ 9 - 1), V.int (10 ^ 9)]
  rw [← g]
  clear g
  refine ⟨by decide, fun f2 hf2 => ?_⟩
  obtain ⟨J5, g, U5, Xf2⟩ := fresh_tup (K := K) hf2 [V.str (Str.ofString "share"), V.ref e2]
  rw [← g]
  clear g
  refine ⟨by decide, fun f3 hf3 => ?_⟩
  obtain ⟨J6, g, U6, Xf3⟩ := fresh_tup (K := K) hf3 [V.str (Str.ofString "change"), V.int 1]
  rw [← g]
  clear g
  refine ⟨by decide, fun f4 hf4 => ?_⟩
  obtain ⟨J7, g, U7, Xf4⟩ := fresh_tup (K := K) hf4 [V.str (Str.ofString "change"), V.int 4]
  rw [← g]
  clear g
  refine ⟨by decide, fun el hel => ?_⟩
  obtain ⟨J8, g, U8, L8⟩ : ∃ J8, J8 = upd J7 el (.lst [V.ref f0, V.ref f1, V.ref f2, V.ref f3, V.ref f4]) ∧ Same J7 J8 ∧ SqL K J8 el [V.ref f0, V.ref f1, V.ref f2, V.ref f3, V.ref f4] := ⟨_, rfl, same_new hel _, SqL.of upd_same⟩
  rw [← g]
  clear g
  have edges : ∀ x ∈ [V.ref f0, V.ref f1, V.ref f2, V.ref f3, V.ref f4], ∃ (p : Addr) (r : Rl), x = .ref p ∧ TolA K J8 (.ref p) r ∧ r.ok ∧ r.dp = 1 := by
    simp only [List.forall_mem_cons]
    exact ⟨⟨_, .share 0 1, rfl, tol_share (Same.tup (U2.trans (U3.trans (U4.trans (U5.trans (U6.trans (U7.trans U8)))))) Xf0) (Same.tup (U1.trans (U2.trans (U3.trans (U4.trans (U5.trans (U6.trans (U7.trans U8))))))) Xe0), ⟨by decide, by decide, by decide, by decide, by decide⟩, rfl⟩,
      ⟨_, .share 1 1, rfl, tol_share (Same.tup (U4.trans (U5.trans (U6.trans (U7.trans U8)))) Xf1) (Same.tup (U3.trans (U4.trans (U5.trans (U6.trans (U7.trans U8))))) Xe1), ⟨by decide, by decide, by decide, by decide, by decide⟩, rfl⟩,
      ⟨_, .share (10 ^ 9 - 1) (10 ^ 9), rfl, tol_share (Same.tup (U6.trans (U7.trans U8)) Xf2) (Same.tup (U5.trans (U6.trans (U7.trans U8))) Xe2), ⟨by decide, by decide, by decide, by decide, by decide +kernel⟩, rfl⟩,
      ⟨_, .change 1, rfl, tol_change (Same.tup (U7.trans U8) Xf3), ⟨by decide, by decide⟩, rfl⟩, ⟨_, .change 4, rfl, tol_change (Same.tup U8 Xf4), ⟨by decide, by decide⟩, rfl⟩, fun _ h => by cases h⟩
  have S58 := S511.trans (U0.trans (U1.trans (U2.trans (U3.trans (U4.trans (U5.trans (U6.trans (U7.trans U8))))))))
  clear U0 U1 U2 U3 U4 U5 U6 U7 U8 Xe0 Xf0 Xe1 Xf1 Xe2 Xf2 Xf3 Xf4 S511 hel he0 hf0 he1 hf1 he2 hf2 hf3 hf4
  refine ⟨⟨_, L8⟩, ?_⟩
  obtain ⟨Pv, hP⟩ : ∃ Pv : Nat → St → Hp → Prop, Pv = fun i σ H' => ∃ o4 o5 o6, Same J8 H' ∧ σ = [some (V.ref a), some (V.ref p1), some (V.ref l), some (V.int cc), o4, o5, o6] := ⟨_, rfl⟩
  refine forW_list [V.ref f0, V.ref f1, V.ref f2, V.ref f3, V.ref f4] Pv ?_ (fun i σ H' _ h => by rw [hP] at h; obtain ⟨_, _, _, e, _⟩ := h; exact e.seq L8) ?_ ?_
  · rw [hP]
    exact ⟨_, _, _, Same.refl _, rfl⟩
  · intro i x σ H' hx h
    rw [hP] at h
    obtain ⟨o4, o5, o6, e, rfl⟩ := h
    obtain ⟨pe, re, rfl, Re, oke, dpe⟩ := edges x (List.mem_of_getElem? hx)
    simp only [tTurn, rTurnT, tTryS, rCountT, rPop, rRep, tCont, iZipT, tChain3, tFld, sFld, tMake, tMake0, tMethD, tBM0, rUpper, tDict1T, tTryN, rSlS, rMulS, rCatS, iZipL, rInsert, rReverse, tDNewX, tTry, tRaise, iEnumL, iEnumT, iZip, iSeq, iOr, rIx, iStr, rLeS, rJoin, rSlTA, tComp_eq, tComp1, slots, Option.getD_some, Option.getD_none, tYes, tSeq, tAsg, gName, tOp, tUn, tC, tVar, tCB, tCons, tNil, tCall, rI, rI0, rU, tRet, tRetN, tIfS, tTest, tB, tAnd, tOr, tNot, tAndV, tOrV, tNotV, tIf, tChain, tMenu, tPar, tDrop, tTup, tLst, tNext, tSl, tPart, tNoPart, tNever, gTup, gCons, gNil, gSub, rSetL, tBM, rAppend, rEq, rNe, rIsi, rIxL, rIxT, rIxS, rSlL, isi_non_bl, isi_non_int, isi_non_str, isi_non_lst, isi_non_tup, isi_bl_bl, isi_bl_int, isi_bl_str, isi_bl_lst, isi_bl_tup, isi_int_bl, isi_int_int, isi_int_str, isi_int_lst, isi_int_tup, isi_str_bl, isi_str_int, isi_str_str, isi_str_lst, isi_str_tup, isi_lst_bl, isi_lst_int, isi_lst_str, isi_lst_lst, isi_lst_tup, isi_tup_bl, isi_tup_int, isi_tup_str, isi_tup_lst, isi_tup_tup, isi_dct_bl, isi_dct_int, isi_dct_str, isi_dct_lst, isi_dct_tup, Kd_non, Kd_bl, Kd_int, Kd_str, sc_non_non, sc_non_int, sc_int_non, sc_non_bl, sc_bl_non, sc_non_str, sc_str_non, sc_int_int, sc_bl_bl, sc_str_str, sc_int_str, sc_str_int, sc_bl_str, sc_str_bl, decide_true, decide_false, tFor_eq, iList, iTup, iRng1, iRng2, iRng3, rIndexT, tBM0, tBMT, tyK_int, tyK_bool, tyK_str, tyK_list, tyK_tuple, L2.start, cxK, Int.reduceToNat, List.map_cons, List.map_nil, List.length_cons, List.length_nil, Nat.reduceAdd, Nat.reduceSub, Nat.zero_add, List.replicate_succ, List.replicate_zero, List.cons_append, List.nil_append, List.append_nil, List.getElem?_cons_zero, List.getElem?_cons_succ, List.set_cons_zero, List.set_cons_succ, Option.some.injEq, V.int.injEq, V.bl.injEq, V.ref.injEq, V.str.injEq, V.ty.injEq, List.cons.injEq, exists_eq_left', exists_eq_left, exists_eq_right, exists_and_left, exists_and_right, and_true, true_and, and_assoc, exists_const, decide_eq_true_eq, Bool.not_eq_true', Bool.not_true, Bool.not_false, Bool.not_not, decide_eq_false_iff_not, ite_not, Bool.false_eq_true, if_true, if_false, reduceCtorEq, and_false, false_and, exists_false, or_false, false_or, ↓reduceIte, eq_self, reduceIte]
    refine .inl ⟨pe, re, rfl, Re.same e, oke, by omega, fun ao J9 V9 O9 => ⟨ao, rfl, ?_⟩⟩
    refine told_byR O9 (show re.dp ≤ 4 by omega) fun pt J10 V10 R10 => ?_
    have e10 := e.trans (V9.trans V10)
    refine rEqD_self R10 (Re.same e10) (flat_data (by omega)) ⟨_, rfl, ?_⟩
    rw [if_neg (by decide), hP]
    exact ⟨_, _, _, e10, rfl⟩
  intro σ H' h
  rw [hP] at h
  obtain ⟨o4, o5, o6, e, rfl⟩ := h
  have S5e := S58.trans e
  clear S58 e edges L8 hP Pv
  simp only [tTurn, rTurnT, tTryS, rCountT, rPop, rRep, tCont, iZipT, tChain3, tFld, sFld, tMake, tMake0, tMethD, tBM0, rUpper, tDict1T, tTryN, rSlS, rMulS, rCatS, iZipL, rInsert, rReverse, tDNewX, tTry, tRaise, iEnumL, iEnumT, iZip, iSeq, iOr, rIx, iStr, rLeS, rJoin, rSlTA, tComp_eq, tComp1, slots, Option.getD_some, Option.getD_none, tYes, tSeq, tAsg, gName, tOp, tUn, tC, tVar, tCB, tCons, tNil, tCall, rI, rI0, rU, tRet, tRetN, tIfS, tTest, tB, tAnd, tOr, tNot, tAndV, tOrV, tNotV, tIf, tChain, tMenu, tPar, tDrop, tTup, tLst, tNext, tSl, tPart, tNoPart, tNever, gTup, gCons, gNil, gSub, rSetL, tBM, rAppend, rEq, rNe, rIsi, rIxL, rIxT, rIxS, rSlL, isi_non_bl, isi_non_int, isi_non_str, isi_non_lst, isi_non_tup, isi_bl_bl, isi_bl_int, isi_bl_str, isi_bl_lst, isi_bl_tup, isi_int_bl, isi_int_int, isi_int_str, isi_int_lst, isi_int_tup, isi_str_bl, isi_str_int, isi_str_str, isi_str_lst, isi_str_tup, isi_lst_bl, isi_lst_int, isi_lst_str, isi_lst_lst, isi_lst_tup, isi_tup_bl, isi_tup_int, isi_tup_str, isi_tup_lst, isi_tup_tup, isi_dct_bl, isi_dct_int, isi_dct_str, isi_dct_lst, isi_dct_tup, Kd_non, Kd_bl, Kd_int, Kd_str, sc_non_non, sc_non_int, sc_int_non, sc_non_bl, sc_bl_non, sc_non_str, sc_str_non, sc_int_int, sc_bl_bl, sc_str_str, sc_int_str, sc_str_int, sc_bl_str, sc_str_bl, decide_true, decide_false, tFor_eq, iList, iTup, iRng1, iRng2, iRng3, rIndexT, tBM0, tBMT, tyK_int, tyK_bool, tyK_str, tyK_list, tyK_tuple, L2.start, cxK, Int.reduceToNat, List.map_cons, List.map_nil, List.length_cons, List.length_nil, Nat.reduceAdd, Nat.reduceSub, Nat.zero_add, List.replicate_succ, List.replicate_zero, List.cons_append, List.nil_append, List.append_nil, List.getElem?_cons_zero, List.getElem?_cons_succ, List.set_cons_zero, List.set_cons_succ, Option.some.injEq, V.int.injEq, V.bl.injEq, V.ref.injEq, V.str.injEq, V.ty.injEq, List.cons.injEq, exists_eq_left', exists_eq_left, exists_eq_right, exists_and_left, exists_and_right, and_true, true_and, and_assoc, exists_const, decide_eq_true_eq, Bool.not_eq_true', Bool.not_true, Bool.not_false, Bool.not_not, decide_eq_false_iff_not, ite_not, Bool.false_eq_true, if_true, if_false, reduceCtorEq, and_false, false_and, exists_false, or_false, false_or, ↓reduceIte, eq_self, reduceIte]
  refine spCellAt_of (S5e.seq hS5) (by decide) ⟨1, by decide, _, rfl, by decide, fun pp J1 rp V1 Rp okp dpp => ?_⟩
  have dp1 : rp.dp = 1 := by have := Rl.dp_pos rp; omega
  refine ⟨pp, _, 3, rp, rfl, Rp, okp, dp1, by decide, fun pd rd J2 V2 Rd okd dpd Bd => ?_⟩
  refine .inl ⟨pd, rd, rfl, Rd, okd, by omega, fun ad J3 V3 O3 => ?_⟩
  have V13 := V2.trans V3
  have S3 := S5e.trans (V1.trans V13)
  refine ⟨ad, pd, l, rd, _, _, _, rfl, O3, Rd.same V3, okd, by omega, S3 _ _ L5, asks _ S3, fun J4 V4 => ⟨_, rfl, ?_⟩⟩
  rw [if_neg (by decide)]
  have V14 := V13.trans V4
  refine ⟨pp, _, 4, rp, rfl, Rp.same V14, okp, dp1, by decide, fun pe re J5 V5 Re oke dpe Be => ?_⟩
  refine ⟨_, rfl, Be 4 (Nat.le_refl _), fun J6 V6 => ⟨_, rfl, ?_⟩⟩
  rw [if_neg (by decide)]
  have V16 := V14.trans (V5.trans V6)
  obtain ⟨m, hm, m5, m64⟩ : ∃ m : Nat, 5 + cc % 60 = (m : Int) ∧ 4 ≤ m ∧ m ≤ 64 := ⟨(5 + cc % 60).toNat, by omega, by omega, by omega⟩
  refine ⟨by decide, ?_⟩
  rw [hm]
  refine ⟨pp, _, m, rp, rfl, Rp.same V16, okp, dp1, m64, fun pg rg J7 V7 Rg okg dpg Bg => ?_⟩
  exact ⟨_, rfl, Bg 4 m5, fun J8 V8 => q _⟩
end

theorem all_mk {l : PySem.W.OpenLaw} {w : World} {K : PySem.W.Frag} {h : Heap} {mg : Str → Option Value} {fa f1 f2 f3 f4 f5 f6 f7 f8 f9 f10 f11 f12 f13 f14 f15 f16 f17 f18 f19 f20 f21 f22 f23 f24 f25 f26 f27 f28 f29 f30 f31 f32 f33 f34 f35 f36 f37 : Addr} (X : K.In h) (G : h.Ns mainGlobals mg) (hfa : mg "law" = some (.ref fa))
    {c_TariffError c_NoNumber c_NoNote c_NoRule c_NoLot c_NoRate c_Rule c_OfRules c_Grown c_Change c_Worked c_AllOf c_OneOf : Addr}
    {od1 an1 od2 an2 od3 an3 od4 an4 od5 an5 od6 an6 od7 an7 od8 an8 od9 an9 od10 an10 od11 an11 od12 an12 od13 an13 od14 an14 od15 an15 od16 an16 od17 an17 od18 an18 od19 an19 od20 an20 od21 an21 od22 an22 od23 an23 od24 an24 od25 an25 od26 an26 od27 an27 od28 an28 od29 an29 od30 an30 od31 an31 od32 an32 od33 an33 od34 an34 od35 an35 od36 an36 od37 an37 : Option Addr} {sl1 sl2 sl3 sl4 sl5 sl6 sl7 sl8 sl9 sl10 sl11 sl12 sl13 sl14 sl15 sl16 sl17 sl18 sl19 sl20 sl21 sl22 sl23 sl24 sl25 sl26 sl27 sl28 sl29 sl30 sl31 sl32 sl33 sl34 sl35 sl36 sl37 : Array (Option Value)} {oc1 kV1 dc1 pm1 cd1 ct1 oc2 kV2 dc2 pm2 cd2 ct2 oc3 kV3 dc3 pm3 cd3 ct3 oc4 kV4 dc4 pm4 cd4 ct4 oc5 kV5 dc5 pm5 cd5 ct5 oc6 kV6 dc6 pm6 cd6 ct6 oc7 kV7 dc7 pm7 cd7 ct7 oc8 kV8 dc8 pm8 cd8 ct8 oc9 kV9 dc9 pm9 cd9 ct9 oc10 kV10 dc10 pm10 cd10 ct10 oc11 kV11 dc11 pm11 cd11 ct11 oc12 kV12 dc12 pm12 cd12 ct12 oc13 kV13 dc13 pm13 cd13 ct13 oc14 kV14 dc14 pm14 cd14 ct14 oc15 kV15 dc15 pm15 cd15 ct15 oc16 kV16 dc16 pm16 cd16 ct16 oc17 kV17 dc17 pm17 cd17 ct17 oc18 kV18 dc18 pm18 cd18 ct18 oc19 kV19 dc19 pm19 cd19 ct19 oc20 kV20 dc20 pm20 cd20 ct20 oc21 kV21 dc21 pm21 cd21 ct21 oc22 kV22 dc22 pm22 cd22 ct22 oc23 kV23 dc23 pm23 cd23 ct23 oc24 kV24 dc24 pm24 cd24 ct24 oc25 kV25 dc25 pm25 cd25 ct25 oc26 kV26 dc26 pm26 cd26 ct26 oc27 kV27 dc27 pm27 cd27 ct27 oc28 kV28 dc28 pm28 cd28 ct28 oc29 kV29 dc29 pm29 cd29 ct29 oc30 kV30 dc30 pm30 cd30 ct30 oc31 kV31 dc31 pm31 cd31 ct31 oc32 kV32 dc32 pm32 cd32 ct32 oc33 kV33 dc33 pm33 cd33 ct33 oc34 kV34 dc34 pm34 cd34 ct34 oc35 kV35 dc35 pm35 cd35 ct35 oc36 kV36 dc36 pm36 cd36 ct36 oc37 kV37 dc37 pm37 cd37 ct37 : Value}
    (n_TariffError : PySem.W.nsIn K mainGlobals "TariffError" = some (some (.ref c_TariffError)))
    (n_NoNumber : PySem.W.nsIn K mainGlobals "NoNumber" = some (some (.ref c_NoNumber)))
    (n_NoNote : PySem.W.nsIn K mainGlobals "NoNote" = some (some (.ref c_NoNote)))
    (n_NoRule : PySem.W.nsIn K mainGlobals "NoRule" = some (some (.ref c_NoRule)))
    (n_NoLot : PySem.W.nsIn K mainGlobals "NoLot" = some (some (.ref c_NoLot)))
    (n_NoRate : PySem.W.nsIn K mainGlobals "NoRate" = some (some (.ref c_NoRate)))
    (n_Rule : PySem.W.nsIn K mainGlobals "Rule" = some (some (.ref c_Rule)))
    (n_OfRules : PySem.W.nsIn K mainGlobals "OfRules" = some (some (.ref c_OfRules)))
    (n_Grown : PySem.W.nsIn K mainGlobals "Grown" = some (some (.ref c_Grown)))
    (n_Change : PySem.W.nsIn K mainGlobals "Change" = some (some (.ref c_Change)))
    (n_Worked : PySem.W.nsIn K mainGlobals "Worked" = some (some (.ref c_Worked)))
    (n_AllOf : PySem.W.nsIn K mainGlobals "AllOf" = some (some (.ref c_AllOf)))
    (n_OneOf : PySem.W.nsIn K mainGlobals "OneOf" = some (some (.ref c_OneOf)))
    (a1 : PySem.W.nsIn K mainGlobals "is_whole" = some (some (.ref f1))) (l1 : K.lookup f1 = some ⟨oc1, od1, .func (PySem.W.fnOf "is_whole" "is_whole" (defArgs s_is_whole) (defBody s_is_whole) (defScope s_is_whole) .none kV1 dc1 pm1 an1 cd1 ct1), sl1⟩) (c1 : PySem.W.codeIn K cd1 "is_whole" = true) (k1 : PySem.W.keepIn K (.ref f1) = true)
    (a2 : PySem.W.nsIn K mainGlobals "common_of" = some (some (.ref f2))) (l2 : K.lookup f2 = some ⟨oc2, od2, .func (PySem.W.fnOf "common_of" "common_of" (defArgs s_common_of) (defBody s_common_of) (defScope s_common_of) .none kV2 dc2 pm2 an2 cd2 ct2), sl2⟩) (c2 : PySem.W.codeIn K cd2 "common_of" = true) (k2 : PySem.W.keepIn K (.ref f2) = true)
    (a3 : PySem.W.nsIn K mainGlobals "is_share" = some (some (.ref f3))) (l3 : K.lookup f3 = some ⟨oc3, od3, .func (PySem.W.fnOf "is_share" "is_share" (defArgs s_is_share) (defBody s_is_share) (defScope s_is_share) .none kV3 dc3 pm3 an3 cd3 ct3), sl3⟩) (c3 : PySem.W.codeIn K cd3 "is_share" = true) (k3 : PySem.W.keepIn K (.ref f3) = true)
    (a4 : PySem.W.nsIn K mainGlobals "is_deep" = some (some (.ref f4))) (l4 : K.lookup f4 = some ⟨oc4, od4, .func (PySem.W.fnOf "is_deep" "is_deep" (defArgs s_is_deep) (defBody s_is_deep) (defScope s_is_deep) .none kV4 dc4 pm4 an4 cd4 ct4), sl4⟩) (c4 : PySem.W.codeIn K cd4 "is_deep" = true) (k4 : PySem.W.keepIn K (.ref f4) = true)
    (a5 : PySem.W.nsIn K mainGlobals "is_share_of_one" = some (some (.ref f5))) (l5 : K.lookup f5 = some ⟨oc5, od5, .func (PySem.W.fnOf "is_share_of_one" "is_share_of_one" (defArgs s_is_share_of_one) (defBody s_is_share_of_one) (defScope s_is_share_of_one) .none kV5 dc5 pm5 an5 cd5 ct5), sl5⟩) (c5 : PySem.W.codeIn K cd5 "is_share_of_one" = true) (k5 : PySem.W.keepIn K (.ref f5) = true)
    (a6 : PySem.W.findIn K (.ref c_Change) "__init__" = some (some (.ref f6))) (l6 : K.lookup f6 = some ⟨oc6, od6, .func (PySem.W.fnOf "__init__" "Change.__init__" (defArgs s_Change_init) (defBody s_Change_init) (defScope s_Change_init) .none kV6 dc6 pm6 an6 cd6 ct6), sl6⟩) (c6 : PySem.W.codeIn K cd6 "Change.__init__" = true) (k6 : PySem.W.keepIn K (.ref f6) = true)
    (t6 : PySem.W.isFn K (.ref f6) = true)
    (a7 : PySem.W.findIn K (.ref c_Worked) "__init__" = some (some (.ref f7))) (l7 : K.lookup f7 = some ⟨oc7, od7, .func (PySem.W.fnOf "__init__" "Worked.__init__" (defArgs s_Worked_init) (defBody s_Worked_init) (defScope s_Worked_init) .none kV7 dc7 pm7 an7 cd7 ct7), sl7⟩) (c7 : PySem.W.codeIn K cd7 "Worked.__init__" = true) (k7 : PySem.W.keepIn K (.ref f7) = true)
    (t7 : PySem.W.isFn K (.ref f7) = true)
    (a8 : PySem.W.findIn K (.ref c_OfRules) "__init__" = some (some (.ref f8))) (l8 : K.lookup f8 = some ⟨oc8, od8, .func (PySem.W.fnOf "__init__" "OfRules.__init__" (defArgs s_OfRules_init) (defBody s_OfRules_init) (defScope s_OfRules_init) .none kV8 dc8 pm8 an8 cd8 ct8), sl8⟩) (c8 : PySem.W.codeIn K cd8 "OfRules.__init__" = true) (k8 : PySem.W.keepIn K (.ref f8) = true)
    (t8 : PySem.W.isFn K (.ref f8) = true)
    (a9 : PySem.W.findIn K (.ref c_Grown) "enough" = some (some (.ref f9))) (l9 : K.lookup f9 = some ⟨oc9, od9, .func (PySem.W.fnOf "enough" "Grown.enough" (defArgs s_Grown_enough) (defBody s_Grown_enough) (defScope s_Grown_enough) .none kV9 dc9 pm9 an9 cd9 ct9), sl9⟩) (c9 : PySem.W.codeIn K cd9 "Grown.enough" = true) (k9 : PySem.W.keepIn K (.ref f9) = true)
    (t9 : PySem.W.isFn K (.ref f9) = true)
    (a10 : PySem.W.findIn K (.ref c_Grown) "told" = some (some (.ref f10))) (l10 : K.lookup f10 = some ⟨oc10, od10, .func (PySem.W.fnOf "told" "Grown.told" (defArgs s_Grown_told) (defBody s_Grown_told) (defScope s_Grown_told) .none kV10 dc10 pm10 an10 cd10 ct10), sl10⟩) (c10 : PySem.W.codeIn K cd10 "Grown.told" = true) (k10 : PySem.W.keepIn K (.ref f10) = true)
    (t10 : PySem.W.isFn K (.ref f10) = true)
    (a11 : PySem.W.findIn K (.ref c_Change) "enough" = some (some (.ref f11))) (l11 : K.lookup f11 = some ⟨oc11, od11, .func (PySem.W.fnOf "enough" "Change.enough" (defArgs s_Change_enough) (defBody s_Change_enough) (defScope s_Change_enough) .none kV11 dc11 pm11 an11 cd11 ct11), sl11⟩) (c11 : PySem.W.codeIn K cd11 "Change.enough" = true) (k11 : PySem.W.keepIn K (.ref f11) = true)
    (t11 : PySem.W.isFn K (.ref f11) = true)
    (a12 : PySem.W.findIn K (.ref c_Change) "told" = some (some (.ref f12))) (l12 : K.lookup f12 = some ⟨oc12, od12, .func (PySem.W.fnOf "told" "Change.told" (defArgs s_Change_told) (defBody s_Change_told) (defScope s_Change_told) .none kV12 dc12 pm12 an12 cd12 ct12), sl12⟩) (c12 : PySem.W.codeIn K cd12 "Change.told" = true) (k12 : PySem.W.keepIn K (.ref f12) = true)
    (t12 : PySem.W.isFn K (.ref f12) = true)
    (a13 : PySem.W.findIn K (.ref c_Worked) "enough" = some (some (.ref f13))) (l13 : K.lookup f13 = some ⟨oc13, od13, .func (PySem.W.fnOf "enough" "Worked.enough" (defArgs s_Worked_enough) (defBody s_Worked_enough) (defScope s_Worked_enough) .none kV13 dc13 pm13 an13 cd13 ct13), sl13⟩) (c13 : PySem.W.codeIn K cd13 "Worked.enough" = true) (k13 : PySem.W.keepIn K (.ref f13) = true)
    (t13 : PySem.W.isFn K (.ref f13) = true)
    (a14 : PySem.W.findIn K (.ref c_Worked) "told" = some (some (.ref f14))) (l14 : K.lookup f14 = some ⟨oc14, od14, .func (PySem.W.fnOf "told" "Worked.told" (defArgs s_Worked_told) (defBody s_Worked_told) (defScope s_Worked_told) .none kV14 dc14 pm14 an14 cd14 ct14), sl14⟩) (c14 : PySem.W.codeIn K cd14 "Worked.told" = true) (k14 : PySem.W.keepIn K (.ref f14) = true)
    (t14 : PySem.W.isFn K (.ref f14) = true)
    (a15 : PySem.W.findIn K (.ref c_AllOf) "enough" = some (some (.ref f15))) (l15 : K.lookup f15 = some ⟨oc15, od15, .func (PySem.W.fnOf "enough" "AllOf.enough" (defArgs s_AllOf_enough) (defBody s_AllOf_enough) (defScope s_AllOf_enough) .none kV15 dc15 pm15 an15 cd15 ct15), sl15⟩) (c15 : PySem.W.codeIn K cd15 "AllOf.enough" = true) (k15 : PySem.W.keepIn K (.ref f15) = true)
    (t15 : PySem.W.isFn K (.ref f15) = true)
    (a16 : PySem.W.findIn K (.ref c_AllOf) "told" = some (some (.ref f16))) (l16 : K.lookup f16 = some ⟨oc16, od16, .func (PySem.W.fnOf "told" "AllOf.told" (defArgs s_AllOf_told) (defBody s_AllOf_told) (defScope s_AllOf_told) .none kV16 dc16 pm16 an16 cd16 ct16), sl16⟩) (c16 : PySem.W.codeIn K cd16 "AllOf.told" = true) (k16 : PySem.W.keepIn K (.ref f16) = true)
    (t16 : PySem.W.isFn K (.ref f16) = true)
    (a17 : PySem.W.findIn K (.ref c_OneOf) "enough" = some (some (.ref f17))) (l17 : K.lookup f17 = some ⟨oc17, od17, .func (PySem.W.fnOf "enough" "OneOf.enough" (defArgs s_OneOf_enough) (defBody s_OneOf_enough) (defScope s_OneOf_enough) .none kV17 dc17 pm17 an17 cd17 ct17), sl17⟩) (c17 : PySem.W.codeIn K cd17 "OneOf.enough" = true) (k17 : PySem.W.keepIn K (.ref f17) = true)
    (t17 : PySem.W.isFn K (.ref f17) = true)
    (a18 : PySem.W.findIn K (.ref c_OneOf) "told" = some (some (.ref f18))) (l18 : K.lookup f18 = some ⟨oc18, od18, .func (PySem.W.fnOf "told" "OneOf.told" (defArgs s_OneOf_told) (defBody s_OneOf_told) (defScope s_OneOf_told) .none kV18 dc18 pm18 an18 cd18 ct18), sl18⟩) (c18 : PySem.W.codeIn K cd18 "OneOf.told" = true) (k18 : PySem.W.keepIn K (.ref f18) = true)
    (t18 : PySem.W.isFn K (.ref f18) = true)
    (a19 : PySem.W.nsIn K mainGlobals "rule_of_rules" = some (some (.ref f19))) (l19 : K.lookup f19 = some ⟨oc19, od19, .func (PySem.W.fnOf "rule_of_rules" "rule_of_rules" (defArgs s_rule_of_rules) (defBody s_rule_of_rules) (defScope s_rule_of_rules) .none kV19 dc19 pm19 an19 cd19 ct19), sl19⟩) (c19 : PySem.W.codeIn K cd19 "rule_of_rules" = true) (k19 : PySem.W.keepIn K (.ref f19) = true)
    (a20 : PySem.W.nsIn K mainGlobals "rule_of_one" = some (some (.ref f20))) (l20 : K.lookup f20 = some ⟨oc20, od20, .func (PySem.W.fnOf "rule_of_one" "rule_of_one" (defArgs s_rule_of_one) (defBody s_rule_of_one) (defScope s_rule_of_one) .none kV20 dc20 pm20 an20 cd20 ct20), sl20⟩) (c20 : PySem.W.codeIn K cd20 "rule_of_one" = true) (k20 : PySem.W.keepIn K (.ref f20) = true)
    (a21 : PySem.W.nsIn K mainGlobals "rule_within" = some (some (.ref f21))) (l21 : K.lookup f21 = some ⟨oc21, od21, .func (PySem.W.fnOf "rule_within" "rule_within" (defArgs s_rule_within) (defBody s_rule_within) (defScope s_rule_within) .none kV21 dc21 pm21 an21 cd21 ct21), sl21⟩) (c21 : PySem.W.codeIn K cd21 "rule_within" = true) (k21 : PySem.W.keepIn K (.ref f21) = true)
    (a22 : PySem.W.nsIn K mainGlobals "rule_of" = some (some (.ref f22))) (l22 : K.lookup f22 = some ⟨oc22, od22, .func (PySem.W.fnOf "rule_of" "rule_of" (defArgs s_rule_of) (defBody s_rule_of) (defScope s_rule_of) .none kV22 dc22 pm22 an22 cd22 ct22), sl22⟩) (c22 : PySem.W.codeIn K cd22 "rule_of" = true) (k22 : PySem.W.keepIn K (.ref f22) = true)
    (a23 : PySem.W.nsIn K mainGlobals "_law_cell_at" = some (some (.ref f23))) (l23 : K.lookup f23 = some ⟨oc23, od23, .func (PySem.W.fnOf "_law_cell_at" "_law_cell_at" (defArgs s_law_cell_at) (defBody s_law_cell_at) (defScope s_law_cell_at) .none kV23 dc23 pm23 an23 cd23 ct23), sl23⟩) (c23 : PySem.W.codeIn K cd23 "_law_cell_at" = true) (k23 : PySem.W.keepIn K (.ref f23) = true)
    (a24 : PySem.W.nsIn K mainGlobals "_law_mix" = some (some (.ref f24))) (l24 : K.lookup f24 = some ⟨oc24, od24, .func (PySem.W.fnOf "_law_mix" "_law_mix" (defArgs s_law_mix) (defBody s_law_mix) (defScope s_law_mix) .none kV24 dc24 pm24 an24 cd24 ct24), sl24⟩) (c24 : PySem.W.codeIn K cd24 "_law_mix" = true) (k24 : PySem.W.keepIn K (.ref f24) = true)
    (a25 : PySem.W.nsIn K mainGlobals "_law_number" = some (some (.ref f25))) (l25 : K.lookup f25 = some ⟨oc25, od25, .func (PySem.W.fnOf "_law_number" "_law_number" (defArgs s_law_number) (defBody s_law_number) (defScope s_law_number) .none kV25 dc25 pm25 an25 cd25 ct25), sl25⟩) (c25 : PySem.W.codeIn K cd25 "_law_number" = true) (k25 : PySem.W.keepIn K (.ref f25) = true)
    (a26 : PySem.W.nsIn K mainGlobals "_law_common" = some (some (.ref f26))) (l26 : K.lookup f26 = some ⟨oc26, od26, .func (PySem.W.fnOf "_law_common" "_law_common" (defArgs s_law_common) (defBody s_law_common) (defScope s_law_common) .none kV26 dc26 pm26 an26 cd26 ct26), sl26⟩) (c26 : PySem.W.codeIn K cd26 "_law_common" = true) (k26 : PySem.W.keepIn K (.ref f26) = true)
    (a27 : PySem.W.nsIn K mainGlobals "_law_part" = some (some (.ref f27))) (l27 : K.lookup f27 = some ⟨oc27, od27, .func (PySem.W.fnOf "_law_part" "_law_part" (defArgs s_law_part) (defBody s_law_part) (defScope s_law_part) .none kV27 dc27 pm27 an27 cd27 ct27), sl27⟩) (c27 : PySem.W.codeIn K cd27 "_law_part" = true) (k27 : PySem.W.keepIn K (.ref f27) = true)
    (a28 : PySem.W.nsIn K mainGlobals "_law_rule" = some (some (.ref f28))) (l28 : K.lookup f28 = some ⟨oc28, od28, .func (PySem.W.fnOf "_law_rule" "_law_rule" (defArgs s_law_rule) (defBody s_law_rule) (defScope s_law_rule) .none kV28 dc28 pm28 an28 cd28 ct28), sl28⟩) (c28 : PySem.W.codeIn K cd28 "_law_rule" = true) (k28 : PySem.W.keepIn K (.ref f28) = true)
    (a29 : PySem.W.nsIn K mainGlobals "_law_made" = some (some (.ref f29))) (l29 : K.lookup f29 = some ⟨oc29, od29, .func (PySem.W.fnOf "_law_made" "_law_made" (defArgs s_law_made) (defBody s_law_made) (defScope s_law_made) .none kV29 dc29 pm29 an29 cd29 ct29), sl29⟩) (c29 : PySem.W.codeIn K cd29 "_law_made" = true) (k29 : PySem.W.keepIn K (.ref f29) = true)
    (a30 : PySem.W.nsIn K mainGlobals "_law_enough" = some (some (.ref f30))) (l30 : K.lookup f30 = some ⟨oc30, od30, .func (PySem.W.fnOf "_law_enough" "_law_enough" (defArgs s_law_enough) (defBody s_law_enough) (defScope s_law_enough) .none kV30 dc30 pm30 an30 cd30 ct30), sl30⟩) (c30 : PySem.W.codeIn K cd30 "_law_enough" = true) (k30 : PySem.W.keepIn K (.ref f30) = true)
    (a31 : PySem.W.nsIn K mainGlobals "_law_bad" = some (some (.ref f31))) (l31 : K.lookup f31 = some ⟨oc31, od31, .func (PySem.W.fnOf "_law_bad" "_law_bad" (defArgs s_law_bad) (defBody s_law_bad) (defScope s_law_bad) .none kV31 dc31 pm31 an31 cd31 ct31), sl31⟩) (c31 : PySem.W.codeIn K cd31 "_law_bad" = true) (k31 : PySem.W.keepIn K (.ref f31) = true)
    (a32 : PySem.W.nsIn K mainGlobals "_law_spoilt" = some (some (.ref f32))) (l32 : K.lookup f32 = some ⟨oc32, od32, .func (PySem.W.fnOf "_law_spoilt" "_law_spoilt" (defArgs s_law_spoilt) (defBody s_law_spoilt) (defScope s_law_spoilt) .none kV32 dc32 pm32 an32 cd32 ct32), sl32⟩) (c32 : PySem.W.codeIn K cd32 "_law_spoilt" = true) (k32 : PySem.W.keepIn K (.ref f32) = true)
    (a33 : PySem.W.nsIn K mainGlobals "_law_deeper" = some (some (.ref f33))) (l33 : K.lookup f33 = some ⟨oc33, od33, .func (PySem.W.fnOf "_law_deeper" "_law_deeper" (defArgs s_law_deeper) (defBody s_law_deeper) (defScope s_law_deeper) .none kV33 dc33 pm33 an33 cd33 ct33), sl33⟩) (c33 : PySem.W.codeIn K cd33 "_law_deeper" = true) (k33 : PySem.W.keepIn K (.ref f33) = true)
    (a34 : PySem.W.nsIn K mainGlobals "_law_refused" = some (some (.ref f34))) (l34 : K.lookup f34 = some ⟨oc34, od34, .func (PySem.W.fnOf "_law_refused" "_law_refused" (defArgs s_law_refused) (defBody s_law_refused) (defScope s_law_refused) .none kV34 dc34 pm34 an34 cd34 ct34), sl34⟩) (c34 : PySem.W.codeIn K cd34 "_law_refused" = true) (k34 : PySem.W.keepIn K (.ref f34) = true)
    (a35 : PySem.W.nsIn K mainGlobals "_law_holds" = some (some (.ref f35))) (l35 : K.lookup f35 = some ⟨oc35, od35, .func (PySem.W.fnOf "_law_holds" "_law_holds" (defArgs s_law_holds) (defBody s_law_holds) (defScope s_law_holds) .none kV35 dc35 pm35 an35 cd35 ct35), sl35⟩) (c35 : PySem.W.codeIn K cd35 "_law_holds" = true) (k35 : PySem.W.keepIn K (.ref f35) = true)
    (a36 : PySem.W.nsIn K mainGlobals "_law_asked" = some (some (.ref f36))) (l36 : K.lookup f36 = some ⟨oc36, od36, .func (PySem.W.fnOf "_law_asked" "_law_asked" (defArgs s_law_asked) (defBody s_law_asked) (defScope s_law_asked) .none kV36 dc36 pm36 an36 cd36 ct36), sl36⟩) (c36 : PySem.W.codeIn K cd36 "_law_asked" = true) (k36 : PySem.W.keepIn K (.ref f36) = true)
    (a37 : PySem.W.nsIn K mainGlobals "law" = some (some (.ref f37))) (l37 : K.lookup f37 = some ⟨oc37, od37, .func (PySem.W.fnOf "law" "law" (defArgs s_law) (defBody s_law) (defScope s_law) .none kV37 dc37 pm37 an37 cd37 ct37), sl37⟩) (c37 : PySem.W.codeIn K cd37 "law" = true) (k37 : PySem.W.keepIn K (.ref f37) = true)
    (pg_Grown : PySem.W.plainGet K c_Grown Str.empty = true)
    (hd_Grown : PySem.W.hasDictIn K c_Grown = true)
    (po_Grown : PySem.W.plainOver K c_Grown = true)
    (sa_Grown : PySem.W.findIn K (.ref c_Grown) "__setattr__" = some (some (.builtin "object.__setattr__")))
    (ia_Grown : PySem.W.findIn K (.ref c_Grown) "__class__" = some (some (.builtin "object.__class__")))
    (im_Grown : PySem.W.mroIn K c_Grown (.type "object") = some true)
    (mk_Grown : PySem.W.makesIn K c_Grown = true)
    (kc_Grown : PySem.W.keepIn K (.ref c_Grown) = true)
    (in_Grown : PySem.W.findIn K (.ref c_Grown) "__init__" = some (some (.builtin "object.__init__")))
    (pg_Change : PySem.W.plainGet K c_Change Str.empty = true)
    (hd_Change : PySem.W.hasDictIn K c_Change = true)
    (po_Change : PySem.W.plainOver K c_Change = true)
    (sa_Change : PySem.W.findIn K (.ref c_Change) "__setattr__" = some (some (.builtin "object.__setattr__")))
    (ia_Change : PySem.W.findIn K (.ref c_Change) "__class__" = some (some (.builtin "object.__class__")))
    (im_Change : PySem.W.mroIn K c_Change (.type "object") = some true)
    (mk_Change : PySem.W.makesIn K c_Change = true)
    (kc_Change : PySem.W.keepIn K (.ref c_Change) = true)
    (pg_Worked : PySem.W.plainGet K c_Worked Str.empty = true)
    (hd_Worked : PySem.W.hasDictIn K c_Worked = true)
    (po_Worked : PySem.W.plainOver K c_Worked = true)
    (sa_Worked : PySem.W.findIn K (.ref c_Worked) "__setattr__" = some (some (.builtin "object.__setattr__")))
    (ia_Worked : PySem.W.findIn K (.ref c_Worked) "__class__" = some (some (.builtin "object.__class__")))
    (im_Worked : PySem.W.mroIn K c_Worked (.type "object") = some true)
    (mk_Worked : PySem.W.makesIn K c_Worked = true)
    (kc_Worked : PySem.W.keepIn K (.ref c_Worked) = true)
    (pg_AllOf : PySem.W.plainGet K c_AllOf Str.empty = true)
    (hd_AllOf : PySem.W.hasDictIn K c_AllOf = true)
    (po_AllOf : PySem.W.plainOver K c_AllOf = true)
    (sa_AllOf : PySem.W.findIn K (.ref c_AllOf) "__setattr__" = some (some (.builtin "object.__setattr__")))
    (ia_AllOf : PySem.W.findIn K (.ref c_AllOf) "__class__" = some (some (.builtin "object.__class__")))
    (im_AllOf : PySem.W.mroIn K c_AllOf (.type "object") = some true)
    (mk_AllOf : PySem.W.makesIn K c_AllOf = true)
    (kc_AllOf : PySem.W.keepIn K (.ref c_AllOf) = true)
    (pg_OneOf : PySem.W.plainGet K c_OneOf Str.empty = true)
    (hd_OneOf : PySem.W.hasDictIn K c_OneOf = true)
    (po_OneOf : PySem.W.plainOver K c_OneOf = true)
    (sa_OneOf : PySem.W.findIn K (.ref c_OneOf) "__setattr__" = some (some (.builtin "object.__setattr__")))
    (ia_OneOf : PySem.W.findIn K (.ref c_OneOf) "__class__" = some (some (.builtin "object.__class__")))
    (im_OneOf : PySem.W.mroIn K c_OneOf (.type "object") = some true)
    (mk_OneOf : PySem.W.makesIn K c_OneOf = true)
    (kc_OneOf : PySem.W.keepIn K (.ref c_OneOf) = true)
    (oget : PySem.W.specialIn K (.builtin "object.__class__") "__get__" = some (some (.builtin "getset_descriptor.__get__")))
    (otakes : PySem.W.takesIn K (.builtin "object.__class__") = some true)
    (e_NoRule : PySem.W.excIn K c_NoRule bmVE "ValueError.__new__" = true)
    (ci_TariffError : PySem.W.isClsIn K c_TariffError = true)
    (ct_TariffError : PySem.W.typeIn K (.ref c_TariffError) = some (.type "type"))
    (cb_TariffError : PySem.W.mroIn K c_TariffError (.type "BaseException") = some true)
    (xga_NoRule : PySem.W.findIn K (.ref c_NoRule) "__getattribute__" = some (some (.builtin "BaseException.__getattribute__")))
    (xgt_NoRule : PySem.W.findIn K (.ref c_NoRule) "__getattr__" = some none)
    (xca_NoRule : PySem.W.findIn K (.ref c_NoRule) "__class__" = some (some (.builtin "object.__class__")))
    (xcn_NoRule : PySem.W.specialIn K (.builtin "object.__class__") "__get__" = some (some (.builtin "getset_descriptor.__get__")))
    (xtk_NoRule : PySem.W.takesIn K (.builtin "object.__class__") = some true)
    (xmo_NoRule : PySem.W.mroIn K c_NoRule (.type "object") = some true)
    (xmb_NoRule : PySem.W.mroIn K c_NoRule (.type "BaseException") = some true)
    (xis_NoRule : PySem.W.isClsIn K c_NoRule = true)
    (sub2 : PySem.W.subIn K (.ref c_NoRule) (.ref c_TariffError) = some true)
    (kf1 : PySem.W.kitOne K (.ref c_NoRule) (.ref c_NoLot) = some false)
    (kf2 : PySem.W.kitOne K (.ref c_NoRule) (.ref c_NoRate) = some false)
    (kf3 : PySem.W.kitOne K (.ref c_NoRule) (.ref c_NoNote) = some false)
    (kf4 : PySem.W.kitOne K (.ref c_NoRule) (.ref c_NoNumber) = some false)
    (kn1 : PySem.W.kitOne K (.ref c_NoRule) (.ref c_NoRule) = some true)
    (kn2 : PySem.W.kitOne K (.ref c_NoRule) (.type "ValueError") = some true)
    (nad : PySem.W.findIn K (.ref c_Change) "deep" = some none)
    (nas : PySem.W.findIn K (.ref c_Worked) "share" = some none)
    (na1 : PySem.W.findIn K (.ref c_AllOf) "one" = some none)
    (na2 : PySem.W.findIn K (.ref c_AllOf) "other" = some none)
    (na3 : PySem.W.findIn K (.ref c_OneOf) "one" = some none)
    (na4 : PySem.W.findIn K (.ref c_OneOf) "other" = some none)
    (kit0 : PySem.W.kitOne K (.ref c_Grown) (.ref c_Rule) = some true)
    (kit1 : PySem.W.kitOne K (.ref c_Change) (.ref c_Rule) = some true)
    (kit2 : PySem.W.kitOne K (.ref c_Worked) (.ref c_Rule) = some true)
    (kit3 : PySem.W.kitOne K (.ref c_AllOf) (.ref c_Rule) = some true)
    (kit4 : PySem.W.kitOne K (.ref c_OneOf) (.ref c_Rule) = some true)
    (ini1 : PySem.W.findIn K (.ref c_AllOf) "__init__" = some (some (.ref f8)))
    (ini2 : PySem.W.findIn K (.ref c_OneOf) "__init__" = some (some (.ref f8)))
    (z_len : PySem.W.nsIn K mainGlobals "len" = some none)
    (z_range : PySem.W.nsIn K mainGlobals "range" = some none)
    (z_abs : PySem.W.nsIn K mainGlobals "abs" = some none)
    (z_max : PySem.W.nsIn K mainGlobals "max" = some none)
    (z_min : PySem.W.nsIn K mainGlobals "min" = some none)
    (z_isinstance : PySem.W.nsIn K mainGlobals "isinstance" = some none)
    (z_int : PySem.W.nsIn K mainGlobals "int" = some none)
    (z_bool : PySem.W.nsIn K mainGlobals "bool" = some none)
    (z_str : PySem.W.nsIn K mainGlobals "str" = some none)
    (z_list : PySem.W.nsIn K mainGlobals "list" = some none)
    (z_tuple : PySem.W.nsIn K mainGlobals "tuple" = some none)
    (z_sum : PySem.W.nsIn K mainGlobals "sum" = some none)
    (z_all : PySem.W.nsIn K mainGlobals "all" = some none)
    (z_enumerate : PySem.W.nsIn K mainGlobals "enumerate" = some none)
    (z_zip : PySem.W.nsIn K mainGlobals "zip" = some none)
    (z_ValueError : PySem.W.nsIn K mainGlobals "ValueError" = some none)
    (z_any : PySem.W.nsIn K mainGlobals "any" = some none)
    (z_set : PySem.W.nsIn K mainGlobals "set" = some none)
    (z_sorted : PySem.W.nsIn K mainGlobals "sorted" = some none)
    : ∃ fd : FuncData, (∀ (s : Shared) (v : Value), BindsTo s fd ⟨[v], []⟩ [("_law_script", v)]) ∧ ∀ base : Heap, K.In base → base.Ns mainGlobals mg → FnOk l.prog w K mg base CX0 12 fa fd ["_law_script"] (spLaw K) := by
  have e := hfa.symm.trans (PySem.W.mg_of X G a37)
  cases e
  have F1 := fun_mk (st := s_is_whole) l1 c1 k1
  have F2 := fun_mk (st := s_common_of) l2 c2 k2
  have F3 := fun_mk (st := s_is_share) l3 c3 k3
  have F4 := fun_mk (st := s_is_deep) l4 c4 k4
  have F5 := fun_mk (st := s_is_share_of_one) l5 c5 k5
  have F6 := fun_mk (st := s_Change_init) l6 c6 k6
  have F7 := fun_mk (st := s_Worked_init) l7 c7 k7
  have F8 := fun_mk (st := s_OfRules_init) l8 c8 k8
  have F9 := fun_mk (st := s_Grown_enough) l9 c9 k9
  have F10 := fun_mk (st := s_Grown_told) l10 c10 k10
  have F11 := fun_mk (st := s_Change_enough) l11 c11 k11
  have F12 := fun_mk (st := s_Change_told) l12 c12 k12
  have F13 := fun_mk (st := s_Worked_enough) l13 c13 k13
  have F14 := fun_mk (st := s_Worked_told) l14 c14 k14
  have F15 := fun_mk (st := s_AllOf_enough) l15 c15 k15
  have F16 := fun_mk (st := s_AllOf_told) l16 c16 k16
  have F17 := fun_mk (st := s_OneOf_enough) l17 c17 k17
  have F18 := fun_mk (st := s_OneOf_told) l18 c18 k18
  have F19 := fun_mk (st := s_rule_of_rules) l19 c19 k19
  have F20 := fun_mk (st := s_rule_of_one) l20 c20 k20
  have F21 := fun_mk (st := s_rule_within) l21 c21 k21
  have F22 := fun_mk (st := s_rule_of) l22 c22 k22
  have F23 := fun_mk (st := s_law_cell_at) l23 c23 k23
  have F24 := fun_mk (st := s_law_mix) l24 c24 k24
  have F25 := fun_mk (st := s_law_number) l25 c25 k25
  have F26 := fun_mk (st := s_law_common) l26 c26 k26
  have F27 := fun_mk (st := s_law_part) l27 c27 k27
  have F28 := fun_mk (st := s_law_rule) l28 c28 k28
  have F29 := fun_mk (st := s_law_made) l29 c29 k29
  have F30 := fun_mk (st := s_law_enough) l30 c30 k30
  have F31 := fun_mk (st := s_law_bad) l31 c31 k31
  have F32 := fun_mk (st := s_law_spoilt) l32 c32 k32
  have F33 := fun_mk (st := s_law_deeper) l33 c33 k33
  have F34 := fun_mk (st := s_law_refused) l34 c34 k34
  have F35 := fun_mk (st := s_law_holds) l35 c35 k35
  have F36 := fun_mk (st := s_law_asked) l36 c36 k36
  have F37 := fun_mk (st := s_law) l37 c37 k37
  have b1 := F1.binds (ps := ["thing"]) fun _ _ _ _ _ _ us hl => match us, hl with | [_], _ => rfl
  have b2 := F2.binds (ps := ["one", "other"]) fun _ _ _ _ _ _ us hl => match us, hl with | [_, _], _ => rfl
  have b3 := F3.binds (ps := ["thing"]) fun _ _ _ _ _ _ us hl => match us, hl with | [_], _ => rfl
  have b4 := F4.binds (ps := ["thing"]) fun _ _ _ _ _ _ us hl => match us, hl with | [_], _ => rfl
  have b5 := F5.binds (ps := ["thing"]) fun _ _ _ _ _ _ us hl => match us, hl with | [_], _ => rfl
  have b6 := F6.binds (ps := ["self", "deep"]) fun _ _ _ _ _ _ us hl => match us, hl with | [_, _], _ => rfl
  have b7 := F7.binds (ps := ["self", "share"]) fun _ _ _ _ _ _ us hl => match us, hl with | [_, _], _ => rfl
  have b8 := F8.binds (ps := ["self", "one", "other"]) fun _ _ _ _ _ _ us hl => match us, hl with | [_, _, _], _ => rfl
  have b9 := F9.binds (ps := ["self", "number", "price", "own", "foreign"]) fun _ _ _ _ _ _ us hl => match us, hl with | [_, _, _, _, _], _ => rfl
  have b10 := F10.binds (ps := ["self"]) fun _ _ _ _ _ _ us hl => match us, hl with | [_], _ => rfl
  have b11 := F11.binds (ps := ["self", "number", "price", "own", "foreign"]) fun _ _ _ _ _ _ us hl => match us, hl with | [_, _, _, _, _], _ => rfl
  have b12 := F12.binds (ps := ["self"]) fun _ _ _ _ _ _ us hl => match us, hl with | [_], _ => rfl
  have b13 := F13.binds (ps := ["self", "number", "price", "own", "foreign"]) fun _ _ _ _ _ _ us hl => match us, hl with | [_, _, _, _, _], _ => rfl
  have b14 := F14.binds (ps := ["self"]) fun _ _ _ _ _ _ us hl => match us, hl with | [_], _ => rfl
  have b15 := F15.binds (ps := ["self", "number", "price", "own", "foreign"]) fun _ _ _ _ _ _ us hl => match us, hl with | [_, _, _, _, _], _ => rfl
  have b16 := F16.binds (ps := ["self"]) fun _ _ _ _ _ _ us hl => match us, hl with | [_], _ => rfl
  have b17 := F17.binds (ps := ["self", "number", "price", "own", "foreign"]) fun _ _ _ _ _ _ us hl => match us, hl with | [_, _, _, _, _], _ => rfl
  have b18 := F18.binds (ps := ["self"]) fun _ _ _ _ _ _ us hl => match us, hl with | [_], _ => rfl
  have b19 := F19.binds (ps := ["word", "one", "other"]) fun _ _ _ _ _ _ us hl => match us, hl with | [_, _, _], _ => rfl
  have b20 := F20.binds (ps := ["told"]) fun _ _ _ _ _ _ us hl => match us, hl with | [_], _ => rfl
  have b21 := F21.binds (ps := ["left", "told"]) fun _ _ _ _ _ _ us hl => match us, hl with | [_, _], _ => rfl
  have b22 := F22.binds (ps := ["told"]) fun _ _ _ _ _ _ us hl => match us, hl with | [_], _ => rfl
  have b23 := F23.binds (ps := ["_law_script", "_law_k"]) fun _ _ _ _ _ _ us hl => match us, hl with | [_, _], _ => rfl
  have b24 := F24.binds (ps := ["_law_cell", "_law_by"]) fun _ _ _ _ _ _ us hl => match us, hl with | [_, _], _ => rfl
  have b25 := F25.binds (ps := ["_law_cell"]) fun _ _ _ _ _ _ us hl => match us, hl with | [_], _ => rfl
  have b26 := F26.binds (ps := ["_law_one", "_law_other"]) fun _ _ _ _ _ _ us hl => match us, hl with | [_, _], _ => rfl
  have b27 := F27.binds (ps := ["_law_cell"]) fun _ _ _ _ _ _ us hl => match us, hl with | [_], _ => rfl
  have b28 := F28.binds (ps := ["_law_cell", "_law_deep"]) fun _ _ _ _ _ _ us hl => match us, hl with | [_, _], _ => rfl
  have b29 := F29.binds (ps := ["_law_told"]) fun _ _ _ _ _ _ us hl => match us, hl with | [_], _ => rfl
  have b30 := F30.binds (ps := ["_law_told", "_law_number_here", "_law_price", "_law_own", "_law_foreign"]) fun _ _ _ _ _ _ us hl => match us, hl with | [_, _, _, _, _], _ => rfl
  have b31 := F31.binds (ps := ["_law_told", "_law_cell"]) fun _ _ _ _ _ _ us hl => match us, hl with | [_, _], _ => rfl
  have b32 := F32.binds (ps := ["_law_told", "_law_cell"]) fun _ _ _ _ _ _ us hl => match us, hl with | [_, _], _ => rfl
  have b33 := F33.binds (ps := ["_law_told", "_law_more", "_law_cell"]) fun _ _ _ _ _ _ us hl => match us, hl with | [_, _, _], _ => rfl
  have b34 := F34.binds (ps := ["_law_told"]) fun _ _ _ _ _ _ us hl => match us, hl with | [_], _ => rfl
  have b35 := F35.binds (ps := ["_law_rule_here", "_law_told", "_law_some"]) fun _ _ _ _ _ _ us hl => match us, hl with | [_, _, _], _ => rfl
  have b36 := F36.binds (ps := ["_law_script", "_law_k"]) fun _ _ _ _ _ _ us hl => match us, hl with | [_, _], _ => rfl
  have M : Mg mg := ⟨PySem.W.mg_none_of X G z_len, PySem.W.mg_none_of X G z_range, PySem.W.mg_none_of X G z_abs, PySem.W.mg_none_of X G z_max, PySem.W.mg_none_of X G z_min, PySem.W.mg_none_of X G z_isinstance, PySem.W.mg_none_of X G z_int, PySem.W.mg_none_of X G z_bool, PySem.W.mg_none_of X G z_str, PySem.W.mg_none_of X G z_list, PySem.W.mg_none_of X G z_tuple, PySem.W.mg_none_of X G z_sum, PySem.W.mg_none_of X G z_all, PySem.W.mg_none_of X G z_enumerate, PySem.W.mg_none_of X G z_zip, PySem.W.mg_none_of X G z_ValueError, PySem.W.mg_none_of X G z_any, PySem.W.mg_none_of X G z_set, PySem.W.mg_none_of X G z_sorted⟩
  refine ⟨PySem.W.fnOf "law" "law" (defArgs s_law) (defBody s_law) (defScope s_law) .none kV37 dc37 pm37 an37 cd37 ct37, fun s v => .of_eq rfl, fun base _ _ => ?_⟩
  have A_TariffError := PySem.W.mg_of X G n_TariffError
  have A_NoNumber := PySem.W.mg_of X G n_NoNumber
  have A_NoNote := PySem.W.mg_of X G n_NoNote
  have A_NoRule := PySem.W.mg_of X G n_NoRule
  have A_NoLot := PySem.W.mg_of X G n_NoLot
  have A_NoRate := PySem.W.mg_of X G n_NoRate
  have A_Rule := PySem.W.mg_of X G n_Rule
  have A_OfRules := PySem.W.mg_of X G n_OfRules
  have A_Grown := PySem.W.mg_of X G n_Grown
  have A_Change := PySem.W.mg_of X G n_Change
  have A_Worked := PySem.W.mg_of X G n_Worked
  have A_AllOf := PySem.W.mg_of X G n_AllOf
  have A_OneOf := PySem.W.mg_of X G n_OneOf
  have cls_Grown : Cls K c_Grown := ⟨pg_Grown, hd_Grown, po_Grown, sa_Grown⟩
  have ic_Grown : ICls K c_Grown := ⟨cls_Grown, ia_Grown, oget, otakes, im_Grown⟩
  have Z_Grown : Mk0 K c_Grown := ⟨mk_Grown, in_Grown, kc_Grown⟩
  have cls_Change : Cls K c_Change := ⟨pg_Change, hd_Change, po_Change, sa_Change⟩
  have ic_Change : ICls K c_Change := ⟨cls_Change, ia_Change, oget, otakes, im_Change⟩
  have cls_Worked : Cls K c_Worked := ⟨pg_Worked, hd_Worked, po_Worked, sa_Worked⟩
  have ic_Worked : ICls K c_Worked := ⟨cls_Worked, ia_Worked, oget, otakes, im_Worked⟩
  have cls_AllOf : Cls K c_AllOf := ⟨pg_AllOf, hd_AllOf, po_AllOf, sa_AllOf⟩
  have ic_AllOf : ICls K c_AllOf := ⟨cls_AllOf, ia_AllOf, oget, otakes, im_AllOf⟩
  have cls_OneOf : Cls K c_OneOf := ⟨pg_OneOf, hd_OneOf, po_OneOf, sa_OneOf⟩
  have ic_OneOf : ICls K c_OneOf := ⟨cls_OneOf, ia_OneOf, oget, otakes, im_OneOf⟩
  have R_NoRule : XRaise K mg "NoRule" c_NoRule := ⟨A_NoRule, e_NoRule⟩
  have X_TariffError : XCatch K mg "TariffError" c_TariffError := ⟨A_TariffError, (fun z => by unfold PySem.W.isClsIn at ci_TariffError; rw [z] at ci_TariffError; cases ci_TariffError), ct_TariffError, cb_TariffError⟩
  have K_NoRule : XCls K c_NoRule := ⟨xga_NoRule, xgt_NoRule, xca_NoRule, xcn_NoRule, xtk_NoRule, xmo_NoRule, xmb_NoRule, xis_NoRule⟩
  have tc1 : TwoC K c_AllOf := ⟨cls_AllOf, na1, na2⟩
  have tc2 : TwoC K c_OneOf := ⟨cls_OneOf, na3, na4⟩
  have okR : RCok K ⟨c_Grown, c_Change, c_Worked, c_AllOf, c_OneOf⟩ c_Rule := ⟨fun j hj => match j, hj with | 0, _ => ic_Grown | 1, _ => ic_Change | 2, _ => ic_Worked | 3, _ => ic_AllOf | 4, _ => ic_OneOf | j + 5, h => absurd h (by omega), fun j hj => match j, hj with | 0, _ => kit0 | 1, _ => kit1 | 2, _ => kit2 | 3, _ => kit3 | 4, _ => kit4 | j + 5, h => absurd h (by omega)⟩
  have C_is_whole : Cal l.prog w K mg base CX0 "is_whole" 1 ["thing"] (spIsWhole K) := ⟨⟨_, _, ok_is_whole F1 M, b1, k1, PySem.W.mg_of X G a1⟩⟩
  have C_common_of : Cal l.prog w K mg base CX0 "common_of" 1 ["one", "other"] (spCommon) := ⟨⟨_, _, ok_common_of F2 M, b2, k2, PySem.W.mg_of X G a2⟩⟩
  have C_is_share : Cal l.prog w K mg base CX0 "is_share" 2 ["thing"] (spShareV K) := ⟨⟨_, _, ok_is_share F3 M C_is_whole C_common_of, b3, k3, PySem.W.mg_of X G a3⟩⟩
  have C_is_deep : Cal l.prog w K mg base CX0 "is_deep" 2 ["thing"] (spDeepV K) := ⟨⟨_, _, ok_is_deep F4 M C_is_whole, b4, k4, PySem.W.mg_of X G a4⟩⟩
  have C_is_share_of_one : Cal l.prog w K mg base CX0 "is_share_of_one" 3 ["thing"] (spShareO K) := ⟨⟨_, _, ok_is_share_of_one F5 M C_is_share, b5, k5, PySem.W.mg_of X G a5⟩⟩
  have Z_Change : MkC l.prog w K mg base "Change" c_Change 1 ["self", "deep"] (spInit1 c_Change "deep") := ⟨⟨_, _, ⟨mk_Change, a6, t6, kc_Change⟩, ok_Change_init F6 M (cs:=⟨c_Grown,c_Change,c_Worked,c_AllOf,c_OneOf⟩) cls_Change nad, b6⟩, A_Change⟩
  have Z_Worked : MkC l.prog w K mg base "Worked" c_Worked 1 ["self", "share"] (spInit1 c_Worked "share") := ⟨⟨_, _, ⟨mk_Worked, a7, t7, kc_Worked⟩, ok_Worked_init F7 M (cs:=⟨c_Grown,c_Change,c_Worked,c_AllOf,c_OneOf⟩) cls_Worked nas, b7⟩, A_Worked⟩
  have Z_AllOf : MkC l.prog w K mg base "AllOf" c_AllOf 1 ["self", "one", "other"] (spInit2 K) := ⟨⟨_, _, ⟨mk_AllOf, ini1, t8, kc_AllOf⟩, ok_OfRules_init F8 M, b8⟩, A_AllOf⟩
  have Z_OneOf : MkC l.prog w K mg base "OneOf" c_OneOf 1 ["self", "one", "other"] (spInit2 K) := ⟨⟨_, _, ⟨mk_OneOf, ini2, t8, kc_OneOf⟩, ok_OfRules_init F8 M, b8⟩, A_OneOf⟩
  have cl5 : ∀ j, j < 5 → Cls K (rcCls ⟨c_Grown, c_Change, c_Worked, c_AllOf, c_OneOf⟩ j) := fun j hj => match j, hj with | 0, _ => cls_Grown | 1, _ => cls_Change | 2, _ => cls_Worked | 3, _ => cls_AllOf | 4, _ => cls_OneOf | j + 5, h => absurd h (by omega)
  have D_told : ∀ C sp, DR (spTolR K ⟨c_Grown, c_Change, c_Worked, c_AllOf, c_OneOf⟩) ⟨c_Grown, c_Change, c_Worked, c_AllOf, c_OneOf⟩ 4 C sp → Disp l.prog w K mg base "told" 5 ["self"] C sp := all_disp (spf := spTolR K ⟨c_Grown, c_Change, c_Worked, c_AllOf, c_OneOf⟩) (cs := ⟨c_Grown, c_Change, c_Worked, c_AllOf, c_OneOf⟩) cl5 (fun j hj k d => match j, hj with | 0, _ => ⟨_, _, ⟨a10, t10, k10⟩, ok_Grown_told (cs := ⟨c_Grown, c_Change, c_Worked, c_AllOf, c_OneOf⟩) F10 M, b10⟩ | 1, _ => ⟨_, _, ⟨a12, t12, k12⟩, ok_Change_told (cs := ⟨c_Grown, c_Change, c_Worked, c_AllOf, c_OneOf⟩) F12 M cls_Change nad, b12⟩ | 2, _ => ⟨_, _, ⟨a14, t14, k14⟩, ok_Worked_told (cs := ⟨c_Grown, c_Change, c_Worked, c_AllOf, c_OneOf⟩) F14 M cls_Worked nas, b14⟩ | j + 3, h => absurd h (by omega)) (fun j h3 hj => match j, h3, hj with | 3, _, _ => ⟨_, _, ⟨a16, t16, k16⟩, no_AllOf_told (cs := ⟨c_Grown, c_Change, c_Worked, c_AllOf, c_OneOf⟩) F16, b16⟩ | 4, _, _ => ⟨_, _, ⟨a18, t18, k18⟩, no_OneOf_told (cs := ⟨c_Grown, c_Change, c_Worked, c_AllOf, c_OneOf⟩) F18, b18⟩ | 0, h, _ => absurd h (by omega) | 1, h, _ => absurd h (by omega) | 2, h, _ => absurd h (by omega) | j + 5, _, h => absurd h (by omega)) (fun j h3 hj d D => match j, h3, hj with | 3, _, _ => ⟨_, _, ⟨a16, t16, k16⟩, ok_AllOf_told (cs := ⟨c_Grown, c_Change, c_Worked, c_AllOf, c_OneOf⟩) F16 M tc1 D, b16⟩ | 4, _, _ => ⟨_, _, ⟨a18, t18, k18⟩, ok_OneOf_told (cs := ⟨c_Grown, c_Change, c_Worked, c_AllOf, c_OneOf⟩) F18 M tc2 D, b18⟩ | 0, h, _ => absurd h (by omega) | 1, h, _ => absurd h (by omega) | 2, h, _ => absurd h (by omega) | j + 5, _, h => absurd h (by omega)) 4
  have D_enough : ∀ C sp, DR (spEnR K ⟨c_Grown, c_Change, c_Worked, c_AllOf, c_OneOf⟩) ⟨c_Grown, c_Change, c_Worked, c_AllOf, c_OneOf⟩ 4 C sp → Disp l.prog w K mg base "enough" 5 ["self", "number", "price", "own", "foreign"] C sp := all_disp (spf := spEnR K ⟨c_Grown, c_Change, c_Worked, c_AllOf, c_OneOf⟩) (cs := ⟨c_Grown, c_Change, c_Worked, c_AllOf, c_OneOf⟩) cl5 (fun j hj k d => match j, hj with | 0, _ => ⟨_, _, ⟨a9, t9, k9⟩, ok_Grown_enough (cs := ⟨c_Grown, c_Change, c_Worked, c_AllOf, c_OneOf⟩) F9 M, b9⟩ | 1, _ => ⟨_, _, ⟨a11, t11, k11⟩, ok_Change_enough (cs := ⟨c_Grown, c_Change, c_Worked, c_AllOf, c_OneOf⟩) F11 M cls_Change nad, b11⟩ | 2, _ => ⟨_, _, ⟨a13, t13, k13⟩, ok_Worked_enough (cs := ⟨c_Grown, c_Change, c_Worked, c_AllOf, c_OneOf⟩) F13 M cls_Worked nas, b13⟩ | j + 3, h => absurd h (by omega)) (fun j h3 hj => match j, h3, hj with | 3, _, _ => ⟨_, _, ⟨a15, t15, k15⟩, no_AllOf_enough (cs := ⟨c_Grown, c_Change, c_Worked, c_AllOf, c_OneOf⟩) F15, b15⟩ | 4, _, _ => ⟨_, _, ⟨a17, t17, k17⟩, no_OneOf_enough (cs := ⟨c_Grown, c_Change, c_Worked, c_AllOf, c_OneOf⟩) F17, b17⟩ | 0, h, _ => absurd h (by omega) | 1, h, _ => absurd h (by omega) | 2, h, _ => absurd h (by omega) | j + 5, _, h => absurd h (by omega)) (fun j h3 hj d D => match j, h3, hj with | 3, _, _ => ⟨_, _, ⟨a15, t15, k15⟩, ok_AllOf_enough (cs := ⟨c_Grown, c_Change, c_Worked, c_AllOf, c_OneOf⟩) F15 M tc1 D, b15⟩ | 4, _, _ => ⟨_, _, ⟨a17, t17, k17⟩, ok_OneOf_enough (cs := ⟨c_Grown, c_Change, c_Worked, c_AllOf, c_OneOf⟩) F17 M tc2 D, b17⟩ | 0, h, _ => absurd h (by omega) | 1, h, _ => absurd h (by omega) | 2, h, _ => absurd h (by omega) | j + 5, _, h => absurd h (by omega)) 4
  have C_rule_of_rules : Cal l.prog w K mg base CX0 "rule_of_rules" 3 ["word", "one", "other"] (spOfRules K ⟨c_Grown, c_Change, c_Worked, c_AllOf, c_OneOf⟩) := ⟨⟨_, _, ok_rule_of_rules F19 M Z_AllOf Z_OneOf tc1 tc2, b19, k19, PySem.W.mg_of X G a19⟩⟩
  have C_rule_of_one : Cal l.prog w K mg base (CXE l.prog w) "rule_of_one" 4 ["told"] (spOfOne K ⟨c_Grown, c_Change, c_Worked, c_AllOf, c_OneOf⟩ c_NoRule) := ⟨⟨_, _, ok_rule_of_one F20 M C_is_deep C_is_share_of_one Z_Grown A_Grown Z_Change Z_Worked R_NoRule, b20, k20, PySem.W.mg_of X G a20⟩⟩
  have C_rule_within : Cal l.prog w K mg base (CXE l.prog w) "rule_within" 9 ["left", "told"] (spWithin K ⟨c_Grown, c_Change, c_Worked, c_AllOf, c_OneOf⟩ c_NoRule 4) := ⟨⟨_, _, ok_rule_within F21 M C_rule_of_one C_rule_of_rules R_NoRule b21 k21 (PySem.W.mg_of X G a21) 4, b21, k21, PySem.W.mg_of X G a21⟩⟩
  have C_rule_of : Cal l.prog w K mg base (CXE l.prog w) "rule_of" 10 ["told"] (spRuleOf K ⟨c_Grown, c_Change, c_Worked, c_AllOf, c_OneOf⟩ c_NoRule) := ⟨⟨_, _, ok_rule_of F22 M C_rule_within, b22, k22, PySem.W.mg_of X G a22⟩⟩
  have C_law_cell_at : Cal l.prog w K mg base CX0 "_law_cell_at" 1 ["_law_script", "_law_k"] (spCellAt K) := ⟨⟨_, _, ok_law_cell_at F23 M, b23, k23, PySem.W.mg_of X G a23⟩⟩
  have C_law_mix : Cal l.prog w K mg base CX0 "_law_mix" 1 ["_law_cell", "_law_by"] (spMix) := ⟨⟨_, _, ok_law_mix F24 M, b24, k24, PySem.W.mg_of X G a24⟩⟩
  have C_law_number : Cal l.prog w K mg base CX0 "_law_number" 2 ["_law_cell"] (spNumber K) := ⟨⟨_, _, ok_law_number F25 M C_law_mix, b25, k25, PySem.W.mg_of X G a25⟩⟩
  have C_law_common : Cal l.prog w K mg base CX0 "_law_common" 1 ["_law_one", "_law_other"] (spGcd) := ⟨⟨_, _, ok_law_common F26 M, b26, k26, PySem.W.mg_of X G a26⟩⟩
  have C_law_part : Cal l.prog w K mg base CX0 "_law_part" 2 ["_law_cell"] (spPart K) := ⟨⟨_, _, ok_law_part F27 M C_law_mix C_law_common, b27, k27, PySem.W.mg_of X G a27⟩⟩
  have C_law_rule : Cal l.prog w K mg base CX0 "_law_rule" 7 ["_law_cell", "_law_deep"] (spRuleU K) := ⟨⟨_, _, fnok_union (L := 3) (n := 4) (ok_law_rule F28 M C_law_mix C_law_part b28 k28 (PySem.W.mg_of X G a28)), b28, k28, PySem.W.mg_of X G a28⟩⟩
  have C_law_made : Cal l.prog w K mg base CX0 "_law_made" 7 ["_law_told"] (spMade K ⟨c_Grown, c_Change, c_Worked, c_AllOf, c_OneOf⟩ 4) := ⟨⟨_, _, ok_law_made F29 M Z_Grown A_Grown Z_Change Z_Worked Z_AllOf Z_OneOf tc1 tc2 b29 k29 (PySem.W.mg_of X G a29) 4, b29, k29, PySem.W.mg_of X G a29⟩⟩
  have C_law_enough : Cal l.prog w K mg base CX0 "_law_enough" 5 ["_law_told", "_law_number_here", "_law_price", "_law_own", "_law_foreign"] (spLEn K 4) := ⟨⟨_, _, ok_law_enough F30 M b30 k30 (PySem.W.mg_of X G a30) 4, b30, k30, PySem.W.mg_of X G a30⟩⟩
  have C_law_bad : Cal l.prog w K mg base CX0 "_law_bad" 1 ["_law_told", "_law_cell"] (spBad K) := ⟨⟨_, _, ok_law_bad F31 M, b31, k31, PySem.W.mg_of X G a31⟩⟩
  have C_law_spoilt : Cal l.prog w K mg base CX0 "_law_spoilt" 6 ["_law_told", "_law_cell"] (spSpoilt K 4) := ⟨⟨_, _, ok_law_spoilt F32 M C_law_bad b32 k32 (PySem.W.mg_of X G a32) 4, b32, k32, PySem.W.mg_of X G a32⟩⟩
  have C_law_deeper : Cal l.prog w K mg base CX0 "_law_deeper" 1 ["_law_told", "_law_more", "_law_cell"] (spDeeper K) := ⟨⟨_, _, ok_law_deeper F33 M, b33, k33, PySem.W.mg_of X G a33⟩⟩
  have C_law_refused : Cal l.prog w K mg base CX0 "_law_refused" 11 ["_law_told"] (spRefused K) := ⟨⟨_, _, ok_law_refused F34 M C_rule_of A_NoRule A_NoLot A_NoRate A_NoNote A_NoNumber X_TariffError K_NoRule sub2 kf1 kf2 kf3 kf4 kn1 kn2, b34, k34, PySem.W.mg_of X G a34⟩⟩
  have C_law_holds : Cal l.prog w K mg base CX0 "_law_holds" 6 ["_law_rule_here", "_law_told", "_law_some"] (spHolds K ⟨c_Grown, c_Change, c_Worked, c_AllOf, c_OneOf⟩) := ⟨⟨_, _, ok_law_holds F35 M C_law_enough D_told D_enough A_Rule okR, b35, k35, PySem.W.mg_of X G a35⟩⟩
  have C_law_asked : Cal l.prog w K mg base CX0 "_law_asked" 3 ["_law_script", "_law_k"] (spAsk K) := ⟨⟨_, _, ok_law_asked F36 M C_law_cell_at C_law_number, b36, k36, PySem.W.mg_of X G a36⟩⟩
  exact ok_law F37 M C_rule_of C_law_cell_at C_law_mix C_law_rule C_law_made C_law_spoilt C_law_deeper C_law_refused C_law_holds C_law_asked D_told
theorem walk {l : PySem.W.OpenLaw} {q : Program} {loose : List Str} {XP : (Str → Option Value) → Heap → Prop} {YP : World → Heap → Prop} {d : DefRec} {K : Params → PySem.W.Frag} (hn : l.most = some 63) (hdf : d.params.defaults = [])
    (hY : ∀ (w : World) (h : Heap), YP w h → (K w.params).In h)
    (F : ∀ (w : World) (mg : Str → Option Value) (fa : Addr) (h : Heap), (K w.params).In h → h.Ns mainGlobals mg → mg d.name = some (.ref fa) →
      ∃ fd : FuncData, (∀ (s : Shared) (u : Value), BindsTo s fd ⟨[u], []⟩ [("_law_script", u)]) ∧ ∀ base : Heap, (K w.params).In base → base.Ns mainGlobals mg → FnOk l.prog w (K w.params) mg base CX0 12 fa fd ["_law_script"] (spLaw (K w.params))) :
    PySem.W.WalkO q loose XP YP l.row.toRowW d [] (fun f vs => PySem.call f vs) :=
  L2.walk_of (n := 63) (k := 12) (x := "_law_script") (CX := fun _ => CX0) (sp := fun w => spLaw (K w.params)) hn (by decide) hdf ⟨rfl, by decide, by decide⟩ hY F (fun _ _ a ns hl _ hS => ⟨a, ns, rfl, hS, hl, fun _ => rfl⟩) fun _ _ _ _ _ z => z
end My
theorem PySem.W.Fast.tw10328590671315666548 : True := trivial
theorem PySem.W.Fast.tw17588579883714902755 : True := trivial
theorem PySem.W.Fast.tw18404454859630711968 : True := trivial
theorem PySem.W.Fast.tw17696498747809170743 : True := trivial
theorem PySem.W.Fast.tw16563428200486809275 : True := trivial
theorem PySem.W.Fast.tw14422129452679432657 : True := trivial
theorem PySem.W.Fast.tw18002866261854234415 : True := trivial
theorem PySem.W.Fast.tw1845361023264476626 : True := trivial
theorem PySem.W.Fast.tw6765294304576792075 : True := trivial
theorem PySem.W.Fast.tw15492856770778021180 : True := trivial
theorem PySem.W.Fast.tw16385101600008843471 : True := trivial
theorem PySem.W.Fast.tw8997024019198591136 : True := trivial
theorem PySem.W.Fast.tw10730073449686179434 : True := trivial
theorem PySem.W.Fast.tw16407961916709454263 : True := trivial
theorem PySem.W.Fast.tw490921609291038394 : True := trivial
theorem PySem.W.Fast.tw12968705837434020108 : True := trivial
theorem PySem.W.Fast.tw10680582188508088055 : True := trivial
theorem PySem.W.Fast.tw13158298712608371525 : True := trivial
theorem PySem.W.Fast.tw6092198045555841917 : True := trivial
theorem PySem.W.Fast.tw5553490768513028924 : True := trivial
theorem PySem.W.Fast.tw11326290959311122622 : True := trivial
theorem PySem.W.Fast.tw10482770803701573714 : True := trivial
theorem PySem.W.Fast.tw1296811775176004587 : True := trivial
theorem PySem.W.Fast.tw5841904692740422457 : True := trivial
theorem PySem.W.Fast.tw12625907822518541993 : True := trivial
theorem PySem.W.Fast.tw9615718016014591507 : True := trivial
theorem PySem.W.Fast.tw17526221506865517218 : True := trivial
theorem PySem.W.Fast.tw18392518225900491056 : True := trivial
theorem PySem.W.Fast.tw6450828467340746149 : True := trivial
theorem PySem.W.Fast.tw4569602608505643146 : True := trivial
theorem PySem.W.Fast.tw17254600567224525244 : True := trivial
theorem PySem.W.Fast.tw12569713900566496678 : True := trivial
theorem PySem.W.Fast.tw1778551908097247345 : True := trivial
theorem PySem.W.Fast.tw5102736009638377143 : True := trivial
theorem PySem.W.Fast.tw1341168327480454844 : True := trivial
theorem PySem.W.Fast.tw8638884756376869539 : True := trivial
theorem PySem.W.Fast.tw16891448202371441214 : True := trivial
theorem PySem.W.Fast.tw18427150098430720620 : True := trivial
theorem PySem.W.Fast.tw4577546501792800113 : True := trivial
theorem PySem.W.Fast.tw2434757400422983247 : True := trivial
theorem PySem.W.Fast.tw13303805928274888870 : True := trivial
theorem PySem.W.Fast.tw6187279940816234059 : True := trivial
theorem PySem.W.Fast.tw9035447289420138186 : True := trivial
theorem PySem.W.Fast.tw11305976754555589090 : True := trivial
theorem PySem.W.Fast.tw11709308245194611964 : True := trivial
theorem PySem.W.Fast.tw14553240501432216675 : True := trivial
theorem PySem.W.Fast.tw12159580766982712739 : True := trivial
theorem PySem.W.Fast.tw17533594553305999041 : True := trivial
theorem PySem.W.Fast.tw15369574799706273643 : True := trivial
theorem PySem.W.Fast.tw3301575057079149434 : True := trivial
theorem PySem.W.Fast.tw15262814364505570172 : True := trivial
theorem PySem.W.Fast.tw4553120537956324558 : True := trivial
theorem PySem.W.Fast.tw4477174849964553962 : True := trivial
theorem PySem.W.Fast.tw8386564926718017643 : True := trivial
theorem PySem.W.Fast.tw16710263026208855751 : True := trivial
theorem PySem.W.Fast.tw5122193562832391254 : True := trivial
theorem PySem.W.Fast.tw10028267447925894393 : True := trivial
theorem PySem.W.Fast.tw4185523421205708035 : True := trivial
theorem PySem.W.Fast.tw16810256393373746388 : True := trivial
theorem PySem.W.Fast.tw4017488592458484661 : True := trivial
theorem PySem.W.Fast.tw1940685677416542204 : True := trivial
theorem PySem.W.Fast.tw5947430917552617575 : True := trivial
theorem PySem.W.Fast.tw16995746955311884723 : True := trivial
theorem PySem.W.Fast.tw10386321517955641282 : True := trivial
theorem PySem.W.Fast.tw2237271492971663232 : True := trivial
theorem PySem.W.Fast.tw14883010407291488211 : True := trivial
theorem PySem.W.Fast.tw4649369734131958913 : True := trivial
theorem PySem.W.Fast.tw3768997252458587620 : True := trivial
theorem PySem.W.Fast.tw5509447402571697035 : True := trivial
theorem PySem.W.Fast.tw2558181167712736475 : True := trivial
theorem PySem.W.Fast.tw9312539370372011527 : True := trivial
theorem PySem.W.Fast.tw15616643321212781792 : True := trivial
theorem PySem.W.Fast.tw12340398881858194457 : True := trivial
theorem PySem.W.Fast.tw3018738008110599887 : True := trivial
theorem PySem.W.Fast.tw7106508623700148378 : True := trivial
theorem PySem.W.Fast.tw5553926243229629347 : True := trivial
theorem PySem.W.Fast.tw1695599130334599746 : True := trivial
theorem PySem.W.Fast.tw15434812792396771850 : True := trivial
theorem PySem.W.Fast.tw12065562950481423276 : True := trivial
theorem PySem.W.Fast.tw15202413842821143210 : True := trivial
theorem PySem.W.Fast.tw11564432343849882207 : True := trivial
theorem PySem.W.Fast.tw579944164036621500 : True := trivial
theorem PySem.W.Fast.tw12523307909463089978 : True := trivial
theorem PySem.W.Fast.tw12983307280238728261 : True := trivial
theorem PySem.W.Fast.tw74646820267376929 : True := trivial
theorem PySem.W.Fast.tw4622189772024632066 : True := trivial
theorem PySem.W.Fast.tw6681465576147135664 : True := trivial
theorem PySem.W.Fast.tw5579395157554848999 : True := trivial
theorem PySem.W.Fast.tw17029260752575033529 : True := trivial
theorem PySem.W.Fast.tw1274648330398220154 : True := trivial
theorem PySem.W.Fast.tw3911495069897898375 : True := trivial
theorem PySem.W.Fast.tw13018348020996025474 : True := trivial
theorem PySem.W.Fast.tw7306851559575836577 : True := trivial
theorem PySem.W.Fast.tw8754370252799593781 : True := trivial
theorem PySem.W.Fast.tw15577926821856850757 : True := trivial
theorem PySem.W.Fast.tw2283907026271359066 : True := trivial
theorem PySem.W.Fast.tw4176853106885618728 : True := trivial
theorem PySem.W.Fast.tw4933629331759913359 : True := trivial
theorem PySem.W.Fast.tw3593325714510543496 : True := trivial
theorem PySem.W.Fast.tw4721087717307276896 : True := trivial
theorem PySem.W.Fast.tw7165769749053359623 : True := trivial
theorem PySem.W.Fast.tw7032989918422832431 : True := trivial
theorem PySem.W.Fast.tw6992594903504986975 : True := trivial
theorem PySem.W.Fast.tw4299075405164851603 : True := trivial
theorem PySem.W.Fast.tw8785930142989022463 : True := trivial
theorem PySem.W.Fast.tw11734228208521427842 : True := trivial
theorem PySem.W.Fast.tw12012217197281486322 : True := trivial
theorem PySem.W.Fast.tw14234495545562842879 : True := trivial
theorem PySem.W.Fast.tw5970619098423381690 : True := trivial
theorem PySem.W.Fast.tw5368042977017243557 : True := trivial
theorem PySem.W.Fast.tw8993324876044947681 : True := trivial
theorem PySem.W.Fast.tw5515722005513315914 : True := trivial
theorem PySem.W.Fast.tw5624770958477776974 : True := trivial
theorem PySem.W.Fast.tw5206139679303816593 : True := trivial
theorem PySem.W.Fast.tw6064145147009184266 : True := trivial
theorem PySem.W.Fast.tw12449460735007738031 : True := trivial
theorem PySem.W.Fast.tw4829528152449317027 : True := trivial
theorem PySem.W.Fast.tw70571009392416364 : True := trivial
theorem PySem.W.Fast.tw5813725211856970449 : True := trivial
theorem PySem.W.Fast.tw1238421890749501454 : True := trivial
theorem PySem.W.Fast.tw17712399866784586589 : True := trivial
theorem PySem.W.Fast.tw1148319646283759026 : True := trivial
theorem PySem.W.Fast.tw5215301235923773540 : True := trivial
theorem PySem.W.Fast.tw13251894915735909886 : True := trivial
theorem PySem.W.Fast.tw1469449793162555392 : True := trivial
theorem PySem.W.Fast.tw5775835944735735477 : True := trivial
theorem PySem.W.Fast.tw9384103486898105932 : True := trivial
theorem PySem.W.Fast.tw15207464278322383545 : True := trivial
theorem PySem.W.Fast.tw3769818673724101332 : True := trivial
theorem PySem.W.Fast.tw16171594584799766760 : True := trivial
theorem PySem.W.Fast.tw8505534484268665820 : True := trivial
theorem PySem.W.Fast.tw16491781809824413414 : True := trivial
theorem PySem.W.Fast.tw4341713456404760583 : True := trivial
theorem PySem.W.Fast.tw12945270975190085876 : True := trivial
theorem PySem.W.Fast.tw16649730103841694614 : True := trivial
theorem PySem.W.Fast.tw15146022571050232181 : True := trivial
theorem PySem.W.Fast.tw8443077216905958393 : True := trivial
theorem PySem.W.Fast.tw13582597827111561557 : True := trivial
theorem PySem.W.Fast.tw15998432179808475974 : True := trivial
theorem PySem.W.Fast.tw9411184132942404470 : True := trivial
theorem PySem.W.Fast.tw1179833842440932403 : True := trivial
theorem PySem.W.Fast.tw1409537453275756493 : True := trivial
theorem PySem.W.Fast.tw6969519726194995254 : True := trivial
theorem PySem.W.Fast.tw14455034156314874243 : True := trivial
theorem PySem.W.Fast.tw8097841510943551724 : True := trivial
theorem PySem.W.Fast.tw11579234867288077944 : True := trivial
theorem PySem.W.Fast.tw1463272719235837089 : True := trivial
theorem PySem.W.Fast.tw8677069351368868641 : True := trivial
theorem PySem.W.Fast.tw9766125370066591588 : True := trivial
theorem PySem.W.Fast.tw7156550578486378711 : True := trivial
theorem PySem.W.Fast.tw13135411848070595144 : True := trivial
theorem PySem.W.Fast.tw655844338335093100 : True := trivial
theorem PySem.W.Fast.tw18408563167324434367 : True := trivial
theorem PySem.W.Fast.tw12325908363378057940 : True := trivial
theorem PySem.W.Fast.tw6872322199926056303 : True := trivial
theorem PySem.W.Fast.tw4011307030391444054 : True := trivial
theorem PySem.W.Fast.tw806486546248495018 : True := trivial
theorem PySem.W.Fast.tw4031550130159785814 : True := trivial
theorem PySem.W.Fast.tw9555836571804594008 : True := trivial
theorem PySem.W.Fast.tw11288629033521146320 : True := trivial
theorem PySem.W.Fast.tw16330606219849928001 : True := trivial
theorem PySem.W.Fast.tw14846545058909000569 : True := trivial
theorem PySem.W.Fast.tw328999813479582593 : True := trivial
theorem PySem.W.Fast.tw643438745388798084 : True := trivial
theorem PySem.W.Fast.tw8863604813066077115 : True := trivial
theorem PySem.W.Fast.tw10961717255702565082 : True := trivial
theorem PySem.W.Fast.tw6396819431601736151 : True := trivial
theorem PySem.W.Fast.tw14423841751111768958 : True := trivial
theorem PySem.W.Fast.tw1950859440296612720 : True := trivial
theorem PySem.W.Fast.tw392233204788063916 : True := trivial
theorem PySem.W.Fast.tw12044810854118558357 : True := trivial
theorem PySem.W.Fast.tw17618068933122223309 : True := trivial
theorem PySem.W.Fast.tw5190951751584523812 : True := trivial
theorem PySem.W.Fast.tw6607209468943384242 : True := trivial
theorem PySem.W.Fast.tw6961664812168858956 : True := trivial
theorem PySem.W.Fast.tw2027317702915833536 : True := trivial
theorem PySem.W.Fast.tw18093954967967780317 : True := trivial
theorem PySem.W.Fast.tw16158929035356454234 : True := trivial
theorem PySem.W.Fast.tw7852264949693898941 : True := trivial
theorem PySem.W.Fast.tw9598899731098049771 : True := trivial
theorem PySem.W.Fast.tw17293992271104779309 : True := trivial
theorem PySem.W.Fast.tw1155367733455535158 : True := trivial
theorem PySem.W.Fast.tw2119821546142802664 : True := trivial
theorem PySem.W.Fast.tw14098970625867550400 : True := trivial
theorem PySem.W.Fast.tw15024263017328447783 : True := trivial
theorem PySem.W.Fast.tw3635023980709888519 : True := trivial
theorem PySem.W.Fast.tw3262530706786474817 : True := trivial
theorem PySem.W.Fast.tw8797813024613904571 : True := trivial
theorem PySem.W.Fast.tw10156672656819083496 : True := trivial
theorem PySem.W.Fast.tw14497250968190521497 : True := trivial
theorem PySem.W.Fast.tw14366341122266430856 : True := trivial
theorem PySem.W.Fast.tw11927352516437273697 : True := trivial
theorem PySem.W.Fast.tw14350799181384233126 : True := trivial
theorem PySem.W.Fast.tw7000410067374517026 : True := trivial
theorem PySem.W.Fast.tw1727973427689562498 : True := trivial
theorem PySem.W.Fast.tw16646979730493317557 : True := trivial
theorem PySem.W.Fast.tw9925022659404311475 : True := trivial
theorem PySem.W.Fast.tw3478853663895064384 : True := trivial
theorem PySem.W.Fast.tw17630166696039652432 : True := trivial
theorem PySem.W.Fast.tw325293278975988139 : True := trivial
theorem PySem.W.Fast.tw1120362285180019667 : True := trivial
theorem PySem.W.Fast.tw15834588934917356355 : True := trivial
theorem PySem.W.Fast.tw9306487512882194293 : True := trivial
theorem PySem.W.Fast.tw4304417057113606818 : True := trivial
theorem PySem.W.Fast.tw14303040001505004573 : True := trivial
theorem PySem.W.Fast.tw647932442483963913 : True := trivial
theorem PySem.W.Fast.tw2619468855013861299 : True := trivial
theorem PySem.W.Fast.tw4062733152001695849 : True := trivial
theorem PySem.W.Fast.tw12275874337377860385 : True := trivial
theorem PySem.W.Fast.tw1352757289373370159 : True := trivial
theorem PySem.W.Fast.tw8599371145523100226 : True := trivial
theorem PySem.W.Fast.tw13073574174567138012 : True := trivial
theorem PySem.W.Fast.tw16956913171451635094 : True := trivial
theorem PySem.W.Fast.tw8512574077278523298 : True := trivial
theorem PySem.W.Fast.tw10094470610664323525 : True := trivial
theorem PySem.W.Fast.tw8854230613900204449 : True := trivial
theorem PySem.W.Fast.tw15695690841014518210 : True := trivial
theorem PySem.W.Fast.tw1114488978080362313 : True := trivial
theorem PySem.W.Fast.tw9896721411499232557 : True := trivial
theorem PySem.W.Fast.tw15603722754669925885 : True := trivial
theorem PySem.W.Fast.tw7838062405195775778 : True := trivial
theorem PySem.W.Fast.tw16893520374929089529 : True := trivial
theorem PySem.W.Fast.tw11724130111337402464 : True := trivial
theorem PySem.W.Fast.tw10066403770578885181 : True := trivial
theorem PySem.W.Fast.tw12929784532707355475 : True := trivial
theorem PySem.W.Fast.tw1649433935035000747 : True := trivial
theorem PySem.W.Fast.tw4945286637599189847 : True := trivial
theorem PySem.W.Fast.tw9593343986517301837 : True := trivial
theorem PySem.W.Fast.tw4997865614115095107 : True := trivial
theorem PySem.W.Fast.tw4771611027700220480 : True := trivial
theorem PySem.W.Fast.tw18232556052488887811 : True := trivial
theorem PySem.W.Fast.tw2992370342784748208 : True := trivial
theorem PySem.W.Fast.tw5924566954247526210 : True := trivial
theorem PySem.W.Fast.tw11597842226229824344 : True := trivial
theorem PySem.W.Fast.tw7811595715768476252 : True := trivial
theorem PySem.W.Fast.tw623172556791964003 : True := trivial
theorem PySem.W.Fast.tw4582155345724744551 : True := trivial
theorem PySem.W.Fast.tw3632224520771735990 : True := trivial
theorem PySem.W.Fast.tw13472704992403981948 : True := trivial
theorem PySem.W.Fast.tw4064793648777496187 : True := trivial
theorem PySem.W.Fast.tw7658983495349840220 : True := trivial
theorem PySem.W.Fast.tw7567128538885941968 : True := trivial
theorem PySem.W.Fast.tw11154520114761177334 : True := trivial
theorem PySem.W.Fast.tw7150305038669479307 : True := trivial
theorem PySem.W.Fast.tw6201694204163165335 : True := trivial
theorem PySem.W.Fast.tw15422273371721923633 : True := trivial
theorem PySem.W.Fast.tw18270096044948523198 : True := trivial
theorem PySem.W.Fast.tw11463739598678049876 : True := trivial
theorem PySem.W.Fast.tw1057821329037319907 : True := trivial
theorem PySem.W.Fast.tw8997016376479142786 : True := trivial
theorem PySem.W.Fast.tw16205458575493431544 : True := trivial
theorem PySem.W.Fast.tw7832764598087375860 : True := trivial
theorem PySem.W.Fast.tw14086888732900765045 : True := trivial
theorem PySem.W.Fast.tw15992888549220353869 : True := trivial
theorem PySem.W.Fast.tw12457265171028239963 : True := trivial
theorem PySem.W.Fast.tw18014487245016718621 : True := trivial
theorem PySem.W.Fast.tw6373460297847714056 : True := trivial
theorem PySem.W.Fast.tw15304504516979171399 : True := trivial
theorem PySem.W.Fast.tw13133631712194657590 : True := trivial
theorem PySem.W.Fast.tw10429038438550691289 : True := trivial
theorem PySem.W.Fast.tw5439585528837901521 : True := trivial
theorem PySem.W.Fast.tw12773725254402218687 : True := trivial
theorem PySem.W.Fast.tw276938945473360307 : True := trivial
theorem PySem.W.Fast.tw2142906487955197242 : True := trivial
theorem PySem.W.Fast.tw1753729546987251874 : True := trivial
theorem PySem.W.Fast.tw2302453908821056418 : True := trivial
theorem PySem.W.Fast.tw8580818134311156072 : True := trivial
theorem PySem.W.Fast.tw11981748742425324052 : True := trivial
theorem PySem.W.Fast.tw12339490283145679444 : True := trivial
theorem PySem.W.Fast.tw14573437340924536706 : True := trivial
theorem PySem.W.Fast.tw11394870769931961854 : True := trivial
theorem PySem.W.Fast.tw1447730119747434756 : True := trivial
theorem PySem.W.Fast.tw8107218792298075639 : True := trivial
theorem PySem.W.Fast.tw5063130644198226945 : True := trivial
theorem PySem.W.Fast.tw3694555440321365811 : True := trivial
theorem PySem.W.Fast.tw3133813856202227883 : True := trivial
theorem PySem.W.Fast.tw15085973119112851211 : True := trivial
theorem PySem.W.Fast.tw14805784566305668796 : True := trivial
theorem PySem.W.Fast.tw7806164666296647771 : True := trivial
theorem PySem.W.Fast.tw7997055018207115004 : True := trivial
theorem PySem.W.Fast.tw2868269591848469912 : True := trivial
theorem PySem.W.Fast.tw7413959793849536283 : True := trivial
theorem PySem.W.Fast.tw4093655839080363957 : True := trivial
theorem PySem.W.Fast.tw12334902102810988618 : True := trivial
theorem PySem.W.Fast.tw5392078940668771049 : True := trivial
theorem PySem.W.Fast.tw9956175417513016359 : True := trivial
theorem PySem.W.Fast.tw15885576031465350198 : True := trivial
theorem PySem.W.Fast.tw2966268282622324432 : True := trivial
theorem PySem.W.Fast.tw12957170463982994923 : True := trivial
theorem PySem.W.Fast.tw2961562822027836001 : True := trivial
theorem PySem.W.Fast.tw1528692712442757686 : True := trivial
theorem PySem.W.Fast.tw6666324271036714288 : True := trivial
theorem PySem.W.Fast.tw17488205074576181662 : True := trivial
theorem PySem.W.Fast.tw8955813469986288503 : True := trivial
theorem PySem.W.Fast.tw5299382174754397367 : True := trivial
theorem PySem.W.Fast.tw5442845670168543058 : True := trivial
theorem PySem.W.Fast.tw855487773245277491 : True := trivial
theorem PySem.W.Fast.tw18294845761414719200 : True := trivial
theorem PySem.W.Fast.tw5922786828235402577 : True := trivial
theorem PySem.W.Fast.tw9842878583898998908 : True := trivial
theorem PySem.W.Fast.tw5530942761853542371 : True := trivial
theorem PySem.W.Fast.tw18230434012677202299 : True := trivial
theorem PySem.W.Fast.tw12659351412130352566 : True := trivial
theorem PySem.W.Fast.tw14057335544722971584 : True := trivial
theorem PySem.W.Fast.tw7692686014625602299 : True := trivial
theorem PySem.W.Fast.tw11522331856097791931 : True := trivial
theorem PySem.W.Fast.tw1889435349015005244 : True := trivial
theorem PySem.W.Fast.tw231653324350478809 : True := trivial
theorem PySem.W.Fast.tw11869065519273694536 : True := trivial
theorem PySem.W.Fast.tw13465042057635003088 : True := trivial
theorem PySem.W.Fast.tw4800219165985087994 : True := trivial
theorem PySem.W.Fast.tw16492803996964602866 : True := trivial
theorem PySem.W.Fast.tw733729300724560675 : True := trivial
theorem PySem.W.Fast.tw14115334175553328066 : True := trivial
theorem PySem.W.Fast.tw4907568730069887145 : True := trivial
theorem PySem.W.Fast.tw12085021686028390203 : True := trivial
theorem PySem.W.Fast.tw6658455824813750310 : True := trivial
theorem PySem.W.Fast.tw9399714003829906452 : True := trivial
theorem PySem.W.Fast.tw14323973422685242347 : True := trivial
theorem PySem.W.Fast.tw12949153207241521391 : True := trivial
theorem PySem.W.Fast.tw14272011829899070665 : True := trivial
theorem PySem.W.Fast.tw6841338161684250828 : True := trivial
theorem PySem.W.Fast.tw1302544255585081618 : True := trivial
theorem PySem.W.Fast.tw17901901727091243201 : True := trivial
theorem PySem.W.Fast.tw4202051308546271242 : True := trivial
theorem PySem.W.Fast.tw10474867708234683124 : True := trivial
theorem PySem.W.Fast.tw6196377893383990259 : True := trivial
theorem PySem.W.Fast.tw15243413369583932083 : True := trivial
theorem PySem.W.Fast.tw10502767681721501146 : True := trivial
theorem PySem.W.Fast.tw791748661676954379 : True := trivial
theorem PySem.W.Fast.tw15384172283816334013 : True := trivial
theorem PySem.W.Fast.tw12750513923677788566 : True := trivial
theorem PySem.W.Fast.tw14159416448980996832 : True := trivial
theorem PySem.W.Fast.tw6071705909564956125 : True := trivial
theorem PySem.W.Fast.tw1958481258592531219 : True := trivial
theorem PySem.W.Fast.tw5324823393441238814 : True := trivial
theorem PySem.W.Fast.tw11141527395170023352 : True := trivial
theorem PySem.W.Fast.tw6373452628360908820 : True := trivial
theorem PySem.W.Fast.tw1174202812148591183 : True := trivial
theorem PySem.W.Fast.tw11518031578441584927 : True := trivial
theorem PySem.W.Fast.tw14972430359323796722 : True := trivial
theorem PySem.W.Fast.tw11585393103419754502 : True := trivial
theorem PySem.W.Fast.tw5616123169747154206 : True := trivial
theorem PySem.W.Fast.tw12214654446120571340 : True := trivial
theorem PySem.W.Fast.tw14130005663653956833 : True := trivial
theorem PySem.W.Fast.tw6630020777450353212 : True := trivial
theorem PySem.W.Fast.tw15282885514738014815 : True := trivial
theorem PySem.W.Fast.tw17945230047481912686 : True := trivial
theorem PySem.W.Fast.tw13517155131947693085 : True := trivial
theorem PySem.W.Fast.tw5154796187760586475 : True := trivial
theorem PySem.W.Fast.tw8820088974999109046 : True := trivial
theorem PySem.W.Fast.tw4119141689548634948 : True := trivial
theorem PySem.W.Fast.tw686785733515252860 : True := trivial
theorem PySem.W.Fast.tw3443339938939244110 : True := trivial
theorem PySem.W.Fast.tw6800095079179817883 : True := trivial
theorem PySem.W.Fast.tw9635008503411877495 : True := trivial
theorem PySem.W.Fast.tw14217450612491620821 : True := trivial
theorem PySem.W.Fast.tw3049002495655826821 : True := trivial
theorem PySem.W.Fast.tw17802837101710929696 : True := trivial
theorem PySem.W.Fast.tw1786949574582333738 : True := trivial
theorem PySem.W.Fast.tw16421515745277248268 : True := trivial
theorem PySem.W.Fast.tw12134680299421109206 : True := trivial
theorem PySem.W.Fast.tw17192419240078110487 : True := trivial
theorem PySem.W.Fast.tw13238265781173247722 : True := trivial
theorem PySem.W.Fast.tw12412709463009246562 : True := trivial
theorem PySem.W.Fast.tw16164509186409790781 : True := trivial
theorem PySem.W.Fast.tw10638740915532511201 : True := trivial
theorem PySem.W.Fast.tw9924937196866627016 : True := trivial
theorem PySem.W.Fast.tw4839238655099061573 : True := trivial
theorem PySem.W.Fast.tw266499264649581226 : True := trivial
theorem PySem.W.Fast.tw10364656221343396020 : True := trivial
theorem PySem.W.Fast.tw4893687041737797986 : True := trivial
theorem PySem.W.Fast.tw6013420790381962282 : True := trivial
theorem PySem.W.Fast.tw11796641391011822359 : True := trivial
theorem PySem.W.Fast.tw15092862928032776195 : True := trivial
theorem PySem.W.Fast.tw17996609925058084687 : True := trivial
theorem PySem.W.Fast.tw8683057035473237282 : True := trivial
theorem PySem.W.Fast.tw13243871180669012394 : True := trivial
theorem PySem.W.Fast.tw9347236042601872282 : True := trivial
theorem PySem.W.Fast.tw13008584566670118674 : True := trivial
theorem PySem.W.Fast.tw1637839191792161589 : True := trivial
theorem PySem.W.Fast.tw7685049834034803657 : True := trivial
theorem PySem.W.Fast.tw12144898749765243234 : True := trivial
theorem PySem.W.Fast.tw7226009396814181807 : True := trivial
theorem PySem.W.Fast.tw11412794982358332688 : True := trivial
theorem PySem.W.Fast.tw8455498691619695543 : True := trivial
theorem PySem.W.Fast.tw13463736014418992127 : True := trivial
theorem PySem.W.Fast.tw3983726138628140485 : True := trivial
theorem PySem.W.Fast.tw5089984049098830245 : True := trivial
theorem PySem.W.Fast.tw17382512265572185765 : True := trivial
theorem PySem.W.Fast.tw14302222992522958716 : True := trivial
theorem PySem.W.Fast.tw9437102613461898146 : True := trivial
theorem PySem.W.Fast.tw17811478291730468518 : True := trivial
theorem PySem.W.Fast.tw15061099823243525006 : True := trivial
theorem PySem.W.Fast.tw5928708133175377698 : True := trivial
theorem PySem.W.Fast.tw3971015731754740270 : True := trivial
theorem PySem.W.Fast.tw17695850020966744608 : True := trivial
theorem PySem.W.Fast.tw9034973772017172375 : True := trivial
theorem PySem.W.Fast.tw15653329851578197257 : True := trivial
theorem PySem.W.Fast.tw12475024259624133001 : True := trivial
theorem PySem.W.Fast.tw4832904191224274005 : True := trivial
theorem PySem.W.Fast.tw10836274885274700699 : True := trivial
theorem PySem.W.Fast.tw13202289072432268859 : True := trivial
theorem PySem.W.Fast.tw17303627018337146949 : True := trivial
theorem PySem.W.Fast.tw16546491232639777164 : True := trivial
theorem PySem.W.Fast.tw8350362146485919250 : True := trivial
theorem PySem.W.Fast.tw16747327383957419845 : True := trivial
theorem PySem.W.Fast.tw3243531838342857073 : True := trivial
theorem PySem.W.Fast.tw2125716681084544221 : True := trivial
theorem PySem.W.Fast.tw17122190652637857729 : True := trivial
theorem PySem.W.Fast.tw3178419147052180022 : True := trivial
theorem PySem.W.Fast.tw10631984970715270103 : True := trivial
theorem PySem.W.Fast.tw16046756571798555589 : True := trivial
theorem PySem.W.Fast.tw4924351716566339602 : True := trivial
theorem PySem.W.Fast.tw5416999428542359171 : True := trivial
theorem PySem.W.Fast.tw15393187591949927278 : True := trivial
theorem PySem.W.Fast.tw16004706921178471572 : True := trivial
theorem PySem.W.Fast.tw17349495538127461567 : True := trivial
theorem PySem.W.Fast.tw13832788112857906962 : True := trivial
theorem PySem.W.Fast.tw16766518336645058497 : True := trivial
theorem PySem.W.Fast.tw5389338216996989484 : True := trivial
theorem PySem.W.Fast.tw3860376099061900121 : True := trivial
theorem PySem.W.Fast.tw8216386848362208836 : True := trivial
theorem PySem.W.Fast.tw5135385408351414072 : True := trivial
theorem PySem.W.Fast.tw14997672661338496103 : True := trivial
theorem PySem.W.Fast.tw6036124484325960679 : True := trivial
theorem PySem.W.Fast.tw3217253175111116551 : True := trivial
theorem PySem.W.Fast.tw15191596739238227455 : True := trivial
theorem PySem.W.Fast.tw6779839161393374751 : True := trivial
theorem PySem.W.Fast.tw8358471658768340210 : True := trivial
theorem PySem.W.Fast.tw3505053334528068915 : True := trivial
theorem PySem.W.Fast.tw4845104740310968184 : True := trivial
theorem PySem.W.Fast.tw16678414299781347874 : True := trivial
theorem PySem.W.Fast.tw10124201457093141530 : True := trivial
theorem PySem.W.Fast.tw14071252357928267313 : True := trivial
theorem PySem.W.Fast.tw14241291015172295598 : True := trivial
theorem PySem.W.Fast.tw10604643310447011140 : True := trivial
theorem PySem.W.Fast.tw15283952397008753853 : True := trivial
theorem PySem.W.Fast.tw12922420695071195783 : True := trivial
theorem PySem.W.Fast.tw11141350102276811165 : True := trivial
theorem PySem.W.Fast.tw6010587569322262338 : True := trivial
theorem PySem.W.Fast.tw13496428766547498884 : True := trivial
theorem PySem.W.Fast.tw4549950352201331793 : True := trivial
theorem PySem.W.Fast.tw4165617028736882771 : True := trivial
theorem PySem.W.Fast.tw3142180517062603386 : True := trivial
theorem PySem.W.Fast.tw12504340517024059216 : True := trivial
theorem PySem.W.Fast.tw6058085209916418455 : True := trivial
theorem PySem.W.Fast.tw9440913898364046747 : True := trivial
theorem PySem.W.Fast.tw11099081365879280919 : True := trivial
theorem PySem.W.Fast.tw12557239947907262567 : True := trivial
theorem PySem.W.Fast.tw7905742161990773301 : True := trivial
theorem PySem.W.Fast.tw12693724521200578825 : True := trivial
theorem PySem.W.Fast.tw13433852572062036515 : True := trivial
theorem PySem.W.Fast.tw8618237412593618613 : True := trivial
theorem PySem.W.Fast.tw7884803658012620071 : True := trivial
theorem PySem.W.Fast.tw3759591069451279962 : True := trivial
theorem PySem.W.Fast.tw9965032078767490327 : True := trivial
theorem PySem.W.Fast.tw17578071685447304643 : True := trivial
theorem PySem.W.Fast.tw12290872000275719768 : True := trivial
theorem PySem.W.Fast.tw10537303545069829169 : True := trivial
theorem PySem.W.Fast.tw9776886732350072306 : True := trivial
theorem PySem.W.Fast.tw7539597061094512951 : True := trivial
theorem PySem.W.Fast.tw3585523140129796394 : True := trivial
theorem PySem.W.Fast.tw13814013728883202075 : True := trivial
theorem PySem.W.Fast.tw14820655444743999211 : True := trivial
theorem PySem.W.Fast.tw16803175121985615529 : True := trivial
theorem PySem.W.Fast.tw12060558259422238545 : True := trivial
theorem PySem.W.Fast.tw14895746091242142590 : True := trivial
theorem PySem.W.Fast.tw15880398054721145015 : True := trivial
theorem PySem.W.Fast.tw8159241815149724907 : True := trivial
theorem PySem.W.Fast.tw11063288277534012260 : True := trivial
theorem PySem.W.Fast.tw2006129508882164044 : True := trivial
theorem PySem.W.Fast.tw12588682855901540822 : True := trivial
theorem PySem.W.Fast.tw4311271786336983530 : True := trivial
theorem PySem.W.Fast.tw13742147864658951471 : True := trivial
theorem PySem.W.Fast.tw2856198334965012666 : True := trivial
theorem PySem.W.Fast.tw14643668620656341357 : True := trivial
theorem PySem.W.Fast.tw12781750825214302520 : True := trivial
theorem PySem.W.Fast.tw2455458536334194486 : True := trivial
theorem PySem.W.Fast.tw9557492206093035420 : True := trivial
theorem PySem.W.Fast.tw15734927628345364671 : True := trivial
theorem PySem.W.Fast.tw10200844271803172531 : True := trivial
theorem PySem.W.Fast.tw13438511221771707791 : True := trivial
theorem PySem.W.Fast.tw3350626107057535268 : True := trivial
theorem PySem.W.Fast.tw14299766116043898594 : True := trivial
theorem PySem.W.Fast.tw8972647772660797279 : True := trivial
theorem PySem.W.Fast.tw451627380015014202 : True := trivial
theorem PySem.W.Fast.tw7415868920401086243 : True := trivial
theorem PySem.W.Fast.tw11215445021796997804 : True := trivial
theorem PySem.W.Fast.tw7619325860278092153 : True := trivial
theorem PySem.W.Fast.tw5164665780307990909 : True := trivial
theorem PySem.W.Fast.tw14125920524480500173 : True := trivial
theorem PySem.W.Fast.tw3757727735100226359 : True := trivial
theorem PySem.W.Fast.tw12053163071315780735 : True := trivial
theorem PySem.W.Fast.tw13880991444939026323 : True := trivial
theorem PySem.W.Fast.tw6775075224500904182 : True := trivial
theorem PySem.W.Fast.tw1830217723624814663 : True := trivial
theorem PySem.W.Fast.tw886798060944564964 : True := trivial
theorem PySem.W.Fast.tw2622659153201218494 : True := trivial
theorem PySem.W.Fast.tw7939967203036461290 : True := trivial
theorem PySem.W.Fast.tw8746272711889322253 : True := trivial
theorem PySem.W.Fast.tw4665409940601113384 : True := trivial
theorem PySem.W.Fast.tw13098332220299574417 : True := trivial
theorem PySem.W.Fast.tw18166793170736251120 : True := trivial
theorem PySem.W.Fast.tw2771143736060393138 : True := trivial
theorem PySem.W.Fast.tw15648907693903415252 : True := trivial
theorem PySem.W.Fast.tw5215428929730021736 : True := trivial
theorem PySem.W.Fast.tw2058559178269977075 : True := trivial
theorem PySem.W.Fast.tw7151021213737661197 : True := trivial
theorem PySem.W.Fast.tw16050585806723528712 : True := trivial
theorem PySem.W.Fast.tw1471975594743840601 : True := trivial
theorem PySem.W.Fast.tw781050733568467442 : True := trivial
open PySem PySem.W PyProof.Rows
set_option maxRecDepth 100000 in
set_option maxHeartbeats 0 in
theorem PySem.Challenge.cw_tariffgate_k54_joined_rules_holds : PySem.Challenge.rw_tariffgate_k54_joined_rules.Holds := by
  w_on; o_law; k_head; (case hw => w_witness2)
  k_fill
  refine My.walk (l := PySem.Challenge.rw_tariffgate_k54_joined_rules) rfl rfl (fun w h Y => PySem.W.kIn_of Y) ?F
  case F =>
    intro w mg fa h KX G hmg
    refine' My.all_mk KX G hmg ?n_TariffError ?n_NoNumber ?n_NoNote ?n_NoRule ?n_NoLot ?n_NoRate ?n_Rule ?n_OfRules ?n_Grown ?n_Change ?n_Worked ?n_AllOf ?n_OneOf ?a1 ?l1 ?c1 ?k1 ?a2 ?l2 ?c2 ?k2 ?a3 ?l3 ?c3 ?k3 ?a4 ?l4 ?c4 ?k4 ?a5 ?l5 ?c5 ?k5 ?a6 ?l6 ?c6 ?k6 ?t6 ?a7 ?l7 ?c7 ?k7 ?t7 ?a8 ?l8 ?c8 ?k8 ?t8 ?a9 ?l9 ?c9 ?k9 ?t9 ?a10 ?l10 ?c10 ?k10 ?t10 ?a11 ?l11 ?c11 ?k11 ?t11 ?a12 ?l12 ?c12 ?k12 ?t12 ?a13 ?l13 ?c13 ?k13 ?t13 ?a14 ?l14 ?c14 ?k14 ?t14 ?a15 ?l15 ?c15 ?k15 ?t15 ?a16 ?l16 ?c16 ?k16 ?t16 ?a17 ?l17 ?c17 ?k17 ?t17 ?a18 ?l18 ?c18 ?k18 ?t18 ?a19 ?l19 ?c19 ?k19 ?a20 ?l20 ?c20 ?k20 ?a21 ?l21 ?c21 ?k21 ?a22 ?l22 ?c22 ?k22 ?a23 ?l23 ?c23 ?k23 ?a24 ?l24 ?c24 ?k24 ?a25 ?l25 ?c25 ?k25 ?a26 ?l26 ?c26 ?k26 ?a27 ?l27 ?c27 ?k27 ?a28 ?l28 ?c28 ?k28 ?a29 ?l29 ?c29 ?k29 ?a30 ?l30 ?c30 ?k30 ?a31 ?l31 ?c31 ?k31 ?a32 ?l32 ?c32 ?k32 ?a33 ?l33 ?c33 ?k33 ?a34 ?l34 ?c34 ?k34 ?a35 ?l35 ?c35 ?k35 ?a36 ?l36 ?c36 ?k36 ?a37 ?l37 ?c37 ?k37 ?pg_Grown ?hd_Grown ?po_Grown ?sa_Grown ?ia_Grown ?im_Grown ?mk_Grown ?kc_Grown ?in_Grown ?pg_Change ?hd_Change ?po_Change ?sa_Change ?ia_Change ?im_Change ?mk_Change ?kc_Change ?pg_Worked ?hd_Worked ?po_Worked ?sa_Worked ?ia_Worked ?im_Worked ?mk_Worked ?kc_Worked ?pg_AllOf ?hd_AllOf ?po_AllOf ?sa_AllOf ?ia_AllOf ?im_AllOf ?mk_AllOf ?kc_AllOf ?pg_OneOf ?hd_OneOf ?po_OneOf ?sa_OneOf ?ia_OneOf ?im_OneOf ?mk_OneOf ?kc_OneOf ?oget ?otakes ?e_NoRule ?ci_TariffError ?ct_TariffError ?cb_TariffError ?xga_NoRule ?xgt_NoRule ?xca_NoRule ?xcn_NoRule ?xtk_NoRule ?xmo_NoRule ?xmb_NoRule ?xis_NoRule ?sub2 ?kf1 ?kf2 ?kf3 ?kf4 ?kn1 ?kn2 ?nad ?nas ?na1 ?na2 ?na3 ?na4 ?kit0 ?kit1 ?kit2 ?kit3 ?kit4 ?ini1 ?ini2 ?z_len ?z_range ?z_abs ?z_max ?z_min ?z_isinstance ?z_int ?z_bool ?z_str ?z_list ?z_tuple ?z_sum ?z_all ?z_enumerate ?z_zip ?z_ValueError ?z_any ?z_set ?z_sorted
    (case n_TariffError => first | k_is | k_exc | kit_is)
    (case n_NoNumber => first | k_is | k_exc | kit_is)
    (case n_NoNote => first | k_is | k_exc | kit_is)
    (case n_NoRule => first | k_is | k_exc | kit_is)
    (case n_NoLot => first | k_is | k_exc | kit_is)
    (case n_NoRate => first | k_is | k_exc | kit_is)
    (case n_Rule => first | k_is | k_exc | kit_is)
    (case n_OfRules => first | k_is | k_exc | kit_is)
    (case n_Grown => first | k_is | k_exc | kit_is)
    (case n_Change => first | k_is | k_exc | kit_is)
    (case n_Worked => first | k_is | k_exc | kit_is)
    (case n_AllOf => first | k_is | k_exc | kit_is)
    (case n_OneOf => first | k_is | k_exc | kit_is)
    (case a1 => first | k_is | k_exc | kit_is)
    (case l1 => first | k_is | k_exc | kit_is)
    (case c1 => first | k_is | k_exc | kit_is)
    (case k1 => first | k_is | k_exc | kit_is)
    (case a2 => first | k_is | k_exc | kit_is)
    (case l2 => first | k_is | k_exc | kit_is)
    (case c2 => first | k_is | k_exc | kit_is)
    (case k2 => first | k_is | k_exc | kit_is)
    (case a3 => first | k_is | k_exc | kit_is)
    (case l3 => first | k_is | k_exc | kit_is)
    (case c3 => first | k_is | k_exc | kit_is)
    (case k3 => first | k_is | k_exc | kit_is)
    (case a4 => first | k_is | k_exc | kit_is)
    (case l4 => first | k_is | k_exc | kit_is)
    (case c4 => first | k_is | k_exc | kit_is)
    (case k4 => first | k_is | k_exc | kit_is)
    (case a5 => first | k_is | k_exc | kit_is)
    (case l5 => first | k_is | k_exc | kit_is)
    (case c5 => first | k_is | k_exc | kit_is)
    (case k5 => first | k_is | k_exc | kit_is)
    (case a6 => first | k_is | k_exc | kit_is)
    (case l6 => first | k_is | k_exc | kit_is)
    (case c6 => first | k_is | k_exc | kit_is)
    (case k6 => first | k_is | k_exc | kit_is)
    (case t6 => first | k_is | k_exc | kit_is)
    (case a7 => first | k_is | k_exc | kit_is)
    (case l7 => first | k_is | k_exc | kit_is)
    (case c7 => first | k_is | k_exc | kit_is)
    (case k7 => first | k_is | k_exc | kit_is)
    (case t7 => first | k_is | k_exc | kit_is)
    (case a8 => first | k_is | k_exc | kit_is)
    (case l8 => first | k_is | k_exc | kit_is)
    (case c8 => first | k_is | k_exc | kit_is)
    (case k8 => first | k_is | k_exc | kit_is)
    (case t8 => first | k_is | k_exc | kit_is)
    (case a9 => first | k_is | k_exc | kit_is)
    (case l9 => first | k_is | k_exc | kit_is)
    (case c9 => first | k_is | k_exc | kit_is)
    (case k9 => first | k_is | k_exc | kit_is)
    (case t9 => first | k_is | k_exc | kit_is)
    (case a10 => first | k_is | k_exc | kit_is)
    (case l10 => first | k_is | k_exc | kit_is)
    (case c10 => first | k_is | k_exc | kit_is)
    (case k10 => first | k_is | k_exc | kit_is)
    (case t10 => first | k_is | k_exc | kit_is)
    (case a11 => first | k_is | k_exc | kit_is)
    (case l11 => first | k_is | k_exc | kit_is)
    (case c11 => first | k_is | k_exc | kit_is)
    (case k11 => first | k_is | k_exc | kit_is)
    (case t11 => first | k_is | k_exc | kit_is)
    (case a12 => first | k_is | k_exc | kit_is)
    (case l12 => first | k_is | k_exc | kit_is)
    (case c12 => first | k_is | k_exc | kit_is)
    (case k12 => first | k_is | k_exc | kit_is)
    (case t12 => first | k_is | k_exc | kit_is)
    (case a13 => first | k_is | k_exc | kit_is)
    (case l13 => first | k_is | k_exc | kit_is)
    (case c13 => first | k_is | k_exc | kit_is)
    (case k13 => first | k_is | k_exc | kit_is)
    (case t13 => first | k_is | k_exc | kit_is)
    (case a14 => first | k_is | k_exc | kit_is)
    (case l14 => first | k_is | k_exc | kit_is)
    (case c14 => first | k_is | k_exc | kit_is)
    (case k14 => first | k_is | k_exc | kit_is)
    (case t14 => first | k_is | k_exc | kit_is)
    (case a15 => first | k_is | k_exc | kit_is)
    (case l15 => first | k_is | k_exc | kit_is)
    (case c15 => first | k_is | k_exc | kit_is)
    (case k15 => first | k_is | k_exc | kit_is)
    (case t15 => first | k_is | k_exc | kit_is)
    (case a16 => first | k_is | k_exc | kit_is)
    (case l16 => first | k_is | k_exc | kit_is)
    (case c16 => first | k_is | k_exc | kit_is)
    (case k16 => first | k_is | k_exc | kit_is)
    (case t16 => first | k_is | k_exc | kit_is)
    (case a17 => first | k_is | k_exc | kit_is)
    (case l17 => first | k_is | k_exc | kit_is)
    (case c17 => first | k_is | k_exc | kit_is)
    (case k17 => first | k_is | k_exc | kit_is)
    (case t17 => first | k_is | k_exc | kit_is)
    (case a18 => first | k_is | k_exc | kit_is)
    (case l18 => first | k_is | k_exc | kit_is)
    (case c18 => first | k_is | k_exc | kit_is)
    (case k18 => first | k_is | k_exc | kit_is)
    (case t18 => first | k_is | k_exc | kit_is)
    (case a19 => first | k_is | k_exc | kit_is)
    (case l19 => first | k_is | k_exc | kit_is)
    (case c19 => first | k_is | k_exc | kit_is)
    (case k19 => first | k_is | k_exc | kit_is)
    (case a20 => first | k_is | k_exc | kit_is)
    (case l20 => first | k_is | k_exc | kit_is)
    (case c20 => first | k_is | k_exc | kit_is)
    (case k20 => first | k_is | k_exc | kit_is)
    (case a21 => first | k_is | k_exc | kit_is)
    (case l21 => first | k_is | k_exc | kit_is)
    (case c21 => first | k_is | k_exc | kit_is)
    (case k21 => first | k_is | k_exc | kit_is)
    (case a22 => first | k_is | k_exc | kit_is)
    (case l22 => first | k_is | k_exc | kit_is)
    (case c22 => first | k_is | k_exc | kit_is)
    (case k22 => first | k_is | k_exc | kit_is)
    (case a23 => first | k_is | k_exc | kit_is)
    (case l23 => first | k_is | k_exc | kit_is)
    (case c23 => first | k_is | k_exc | kit_is)
    (case k23 => first | k_is | k_exc | kit_is)
    (case a24 => first | k_is | k_exc | kit_is)
    (case l24 => first | k_is | k_exc | kit_is)
    (case c24 => first | k_is | k_exc | kit_is)
    (case k24 => first | k_is | k_exc | kit_is)
    (case a25 => first | k_is | k_exc | kit_is)
    (case l25 => first | k_is | k_exc | kit_is)
    (case c25 => first | k_is | k_exc | kit_is)
    (case k25 => first | k_is | k_exc | kit_is)
    (case a26 => first | k_is | k_exc | kit_is)
    (case l26 => first | k_is | k_exc | kit_is)
    (case c26 => first | k_is | k_exc | kit_is)
    (case k26 => first | k_is | k_exc | kit_is)
    (case a27 => first | k_is | k_exc | kit_is)
    (case l27 => first | k_is | k_exc | kit_is)
    (case c27 => first | k_is | k_exc | kit_is)
    (case k27 => first | k_is | k_exc | kit_is)
    (case a28 => first | k_is | k_exc | kit_is)
    (case l28 => first | k_is | k_exc | kit_is)
    (case c28 => first | k_is | k_exc | kit_is)
    (case k28 => first | k_is | k_exc | kit_is)
    (case a29 => first | k_is | k_exc | kit_is)
    (case l29 => first | k_is | k_exc | kit_is)
    (case c29 => first | k_is | k_exc | kit_is)
    (case k29 => first | k_is | k_exc | kit_is)
    (case a30 => first | k_is | k_exc | kit_is)
    (case l30 => first | k_is | k_exc | kit_is)
    (case c30 => first | k_is | k_exc | kit_is)
    (case k30 => first | k_is | k_exc | kit_is)
    (case a31 => first | k_is | k_exc | kit_is)
    (case l31 => first | k_is | k_exc | kit_is)
    (case c31 => first | k_is | k_exc | kit_is)
    (case k31 => first | k_is | k_exc | kit_is)
    (case a32 => first | k_is | k_exc | kit_is)
    (case l32 => first | k_is | k_exc | kit_is)
    (case c32 => first | k_is | k_exc | kit_is)
    (case k32 => first | k_is | k_exc | kit_is)
    (case a33 => first | k_is | k_exc | kit_is)
    (case l33 => first | k_is | k_exc | kit_is)
    (case c33 => first | k_is | k_exc | kit_is)
    (case k33 => first | k_is | k_exc | kit_is)
    (case a34 => first | k_is | k_exc | kit_is)
    (case l34 => first | k_is | k_exc | kit_is)
    (case c34 => first | k_is | k_exc | kit_is)
    (case k34 => first | k_is | k_exc | kit_is)
    (case a35 => first | k_is | k_exc | kit_is)
    (case l35 => first | k_is | k_exc | kit_is)
    (case c35 => first | k_is | k_exc | kit_is)
    (case k35 => first | k_is | k_exc | kit_is)
    (case a36 => first | k_is | k_exc | kit_is)
    (case l36 => first | k_is | k_exc | kit_is)
    (case c36 => first | k_is | k_exc | kit_is)
    (case k36 => first | k_is | k_exc | kit_is)
    (case a37 => first | k_is | k_exc | kit_is)
    (case l37 => first | k_is | k_exc | kit_is)
    (case c37 => first | k_is | k_exc | kit_is)
    (case k37 => first | k_is | k_exc | kit_is)
    (case pg_Grown => first | k_is | k_exc | kit_is)
    (case hd_Grown => first | k_is | k_exc | kit_is)
    (case po_Grown => first | k_is | k_exc | kit_is)
    (case sa_Grown => first | k_is | k_exc | kit_is)
    (case ia_Grown => first | k_is | k_exc | kit_is)
    (case im_Grown => first | k_is | k_exc | kit_is)
    (case mk_Grown => first | k_is | k_exc | kit_is)
    (case kc_Grown => first | k_is | k_exc | kit_is)
    (case in_Grown => first | k_is | k_exc | kit_is)
    (case pg_Change => first | k_is | k_exc | kit_is)
    (case hd_Change => first | k_is | k_exc | kit_is)
    (case po_Change => first | k_is | k_exc | kit_is)
    (case sa_Change => first | k_is | k_exc | kit_is)
    (case ia_Change => first | k_is | k_exc | kit_is)
    (case im_Change => first | k_is | k_exc | kit_is)
    (case mk_Change => first | k_is | k_exc | kit_is)
    (case kc_Change => first | k_is | k_exc | kit_is)
    (case pg_Worked => first | k_is | k_exc | kit_is)
    (case hd_Worked => first | k_is | k_exc | kit_is)
    (case po_Worked => first | k_is | k_exc | kit_is)
    (case sa_Worked => first | k_is | k_exc | kit_is)
    (case ia_Worked => first | k_is | k_exc | kit_is)
    (case im_Worked => first | k_is | k_exc | kit_is)
    (case mk_Worked => first | k_is | k_exc | kit_is)
    (case kc_Worked => first | k_is | k_exc | kit_is)
    (case pg_AllOf => first | k_is | k_exc | kit_is)
    (case hd_AllOf => first | k_is | k_exc | kit_is)
    (case po_AllOf => first | k_is | k_exc | kit_is)
    (case sa_AllOf => first | k_is | k_exc | kit_is)
    (case ia_AllOf => first | k_is | k_exc | kit_is)
    (case im_AllOf => first | k_is | k_exc | kit_is)
    (case mk_AllOf => first | k_is | k_exc | kit_is)
    (case kc_AllOf => first | k_is | k_exc | kit_is)
    (case pg_OneOf => first | k_is | k_exc | kit_is)
    (case hd_OneOf => first | k_is | k_exc | kit_is)
    (case po_OneOf => first | k_is | k_exc | kit_is)
    (case sa_OneOf => first | k_is | k_exc | kit_is)
    (case ia_OneOf => first | k_is | k_exc | kit_is)
    (case im_OneOf => first | k_is | k_exc | kit_is)
    (case mk_OneOf => first | k_is | k_exc | kit_is)
    (case kc_OneOf => first | k_is | k_exc | kit_is)
    (case oget => first | k_is | k_exc | kit_is)
    (case otakes => first | k_is | k_exc | kit_is)
    (case e_NoRule => first | k_is | k_exc | kit_is)
    (case ci_TariffError => first | k_is | k_exc | kit_is)
    (case ct_TariffError => first | k_is | k_exc | kit_is)
    (case cb_TariffError => first | k_is | k_exc | kit_is)
    (case xga_NoRule => first | k_is | k_exc | kit_is)
    (case xgt_NoRule => first | k_is | k_exc | kit_is)
    (case xca_NoRule => first | k_is | k_exc | kit_is)
    (case xcn_NoRule => first | k_is | k_exc | kit_is)
    (case xtk_NoRule => first | k_is | k_exc | kit_is)
    (case xmo_NoRule => first | k_is | k_exc | kit_is)
    (case xmb_NoRule => first | k_is | k_exc | kit_is)
    (case xis_NoRule => first | k_is | k_exc | kit_is)
    (case sub2 => first | k_is | k_exc | kit_is)
    (case kf1 => first | k_is | k_exc | kit_is)
    (case kf2 => first | k_is | k_exc | kit_is)
    (case kf3 => first | k_is | k_exc | kit_is)
    (case kf4 => first | k_is | k_exc | kit_is)
    (case kn1 => first | k_is | k_exc | kit_is)
    (case kn2 => first | k_is | k_exc | kit_is)
    (case nad => first | k_is | k_exc | kit_is)
    (case nas => first | k_is | k_exc | kit_is)
    (case na1 => first | k_is | k_exc | kit_is)
    (case na2 => first | k_is | k_exc | kit_is)
    (case na3 => first | k_is | k_exc | kit_is)
    (case na4 => first | k_is | k_exc | kit_is)
    (case kit0 => first | k_is | k_exc | kit_is)
    (case kit1 => first | k_is | k_exc | kit_is)
    (case kit2 => first | k_is | k_exc | kit_is)
    (case kit3 => first | k_is | k_exc | kit_is)
    (case kit4 => first | k_is | k_exc | kit_is)
    (case ini1 => first | k_is | k_exc | kit_is)
    (case ini2 => first | k_is | k_exc | kit_is)
    (case z_len => first | k_is | k_exc | kit_is)
    (case z_range => first | k_is | k_exc | kit_is)
    (case z_abs => first | k_is | k_exc | kit_is)
    (case z_max => first | k_is | k_exc | kit_is)
    (case z_min => first | k_is | k_exc | kit_is)
    (case z_isinstance => first | k_is | k_exc | kit_is)
    (case z_int => first | k_is | k_exc | kit_is)
    (case z_bool => first | k_is | k_exc | kit_is)
    (case z_str => first | k_is | k_exc | kit_is)
    (case z_list => first | k_is | k_exc | kit_is)
    (case z_tuple => first | k_is | k_exc | kit_is)
    (case z_sum => first | k_is | k_exc | kit_is)
    (case z_all => first | k_is | k_exc | kit_is)
    (case z_enumerate => first | k_is | k_exc | kit_is)
    (case z_zip => first | k_is | k_exc | kit_is)
    (case z_ValueError => first | k_is | k_exc | kit_is)
    (case z_any => first | k_is | k_exc | kit_is)
    (case z_set => first | k_is | k_exc | kit_is)
    (case z_sorted => first | k_is | k_exc | kit_is)
#print axioms PySem.Challenge.cw_tariffgate_k54_joined_rules_holds

