import PyProof.Rows.All
import Wide.All
import OpenK.AllK
import Wide.FinOn
import Lean
import PyProof.EqAt
import PyProof.EqKinds
import PyProof.TupleCall
import PyProof.NeKinds
import PyProof.Draws
import PyProof.EnumMake
import PyProof.WalksEnum
import PyProof.Rows.EnumRows
import PyProof.ExcArgsOwn
import PyProof.ExcAttrAll.ValueError
import PyProof.ExcBaseAll.ValueError
import KE.KIsAll
import KE.KTryOn
import KE.RegKIsAll
import OpenK.KOwn
import PyProof.ZipIter
import PyProof.StrWalks
import PyProof.DictTable
import PyProof.SetNew
import PyProof.SetRoads
import PyProof.P3In
import PyProof.NeData
import PySem.Challenge.RW_tariffgate_k34_notes_refused
set_option Elab.async false
set_option linter.all false
set_option maxRecDepth 100000
namespace L2
open PySem PySem.Spec PyProof.Rows

abbrev Key := Sum Int Str
def keyIs : Key → Value → Bool
  | .inl k, v => Value.isInt k v
  | .inr x, v => Value.isStrOf x v
def keyH (w : World) : Key → Int
  | .inl k => hashInt k
  | .inr x => hashStr w x
theorem keyIs_shape : ∀ {k : Key} {v : Value}, keyIs k v = true → (∃ i t, k = Sum.inl i ∧ v = Value.int i t) ∨ (∃ x t, k = Sum.inr x ∧ v = Value.str x t)
  | .inl i, v, h => by
    obtain ⟨t, e⟩ := Value.isInt_shape (k := i) (v := v) h
    exact .inl ⟨i, t, rfl, e⟩
  | .inr x, v, h => by
    obtain ⟨t, e⟩ := Value.isStrOf_shape (x := x) (v := v) h
    exact .inr ⟨x, t, rfl, e⟩
theorem key_ll (a b : Int) : decide ((Sum.inl a : Key) = Sum.inl b) = (a == b) := by
  by_cases e : a = b
  · subst e; simp
  · have h : ¬ (Sum.inl a : Key) = Sum.inl b := fun q => e (Sum.inl.inj q)
    rw [decide_eq_false h]
    exact (beq_eq_false_iff_ne.mpr e).symm
theorem key_rr (a b : Str) : decide ((Sum.inr a : Key) = Sum.inr b) = decide (a = b) := by
  by_cases e : a = b
  · subst e; simp
  · have h : ¬ (Sum.inr a : Key) = Sum.inr b := fun q => e (Sum.inr.inj q)
    rw [decide_eq_false h, decide_eq_false e]
theorem key_lr (a : Int) (b : Str) : decide ((Sum.inl a : Key) = Sum.inr b) = false := decide_eq_false (fun q => nomatch q)
theorem key_rl (a : Str) (b : Int) : decide ((Sum.inr a : Key) = Sum.inl b) = false := decide_eq_false (fun q => nomatch q)

def mixKind (prog : Program) (w : World) : PySem.KeyKind prog w Key where
  is := keyIs
  hash := keyH w
  inj := fun v a b ha hb => by
    rcases keyIs_shape ha with ⟨i, t, rfl, rfl⟩ | ⟨x, t, rfl, rfl⟩
    · rcases keyIs_shape hb with ⟨j, u, rfl, e⟩ | ⟨y, u, rfl, e⟩
      · injection e with e1 _; rw [e1]
      · exact nomatch e
    · rcases keyIs_shape hb with ⟨j, u, rfl, e⟩ | ⟨y, u, rfl, e⟩
      · exact nomatch e
      · injection e with e1 _; rw [e1]
  byValue := fun k v h => by
    rcases keyIs_shape h with ⟨i, t, rfl, rfl⟩ | ⟨x, t, rfl, rfl⟩ <;> rfl
  pyHash := fun hv h => by
    rcases keyIs_shape hv with ⟨i, t, rfl, rfl⟩ | ⟨x, t, rfl, rfl⟩
    · exact wpAny_pyHash_int h
    · exact wpAny_pyHash_str h
  eqBool := fun hu hv h => by
    rcases keyIs_shape hu with ⟨i, t, rfl, rfl⟩ | ⟨x, t, rfl, rfl⟩
    · rcases keyIs_shape hv with ⟨j, u, rfl, rfl⟩ | ⟨y, u, rfl, rfl⟩
      · rw [key_ll] at h; exact wpAny_eqBool_int h
      · rw [key_lr] at h; exact SeqAt.EqAt.int_str i t y u _ _ _ _ h
    · rcases keyIs_shape hv with ⟨j, u, rfl, rfl⟩ | ⟨y, u, rfl, rfl⟩
      · rw [key_rl] at h; exact SeqAt.EqAt.str_int x t j u _ _ _ _ h
      · rw [key_rr] at h; exact wpAny_eqBool_str h
  «strs» := fun k x t v h => by
    rcases keyIs_shape h with ⟨i, u, rfl, e⟩ | ⟨y, u, rfl, e⟩
    · exact nomatch e
    · injection e with e1 _
      subst e1
      cases v <;> rfl

end L2

namespace L2
open PySem PySem.Spec PyProof.Rows

inductive V where
  | non | bl (b : Bool) | int (i : Int) | str (x : Str) | byt (b : Array UInt8) | flt (b : UInt64) | ref (a : Addr) | ty (n : String)
  deriving DecidableEq

def RelV : V → Value → Prop
  | .non, u => u = Value.none
  | .bl b, u => u = Value.bool b
  | .int i, u => ∃ t, u = Value.int i t
  | .str x, u => ∃ t, u = Value.str x t
  | .byt b, u => ∃ t, u = Value.bytes b t
  | .flt b, u => ∃ t, u = Value.float b t
  | .ref a, u => u = Value.ref a
  | .ty n, u => u = Value.type n

abbrev Vals : List V → List Value → Prop := Paired RelV
theorem Vals.length {xs : List V} {us : List Value} (r : Vals xs us) : xs.length = us.length := Paired.length r
theorem Vals.get : ∀ {xs : List V} {us : List Value} {i : Nat} {x : V}, Vals xs us → xs[i]? = some x → ∃ u, us[i]? = some u ∧ RelV x u
  | _, _, _, _, .nil, e => by simp at e
  | _, _, 0, _, .cons r _, e => by simp at e; subst e; exact ⟨_, rfl, r⟩
  | _, _, i + 1, x, .cons _ t, e => by
    obtain ⟨u, h1, h2⟩ := Vals.get (i := i) (x := x) t (by simpa using e)
    exact ⟨u, by simpa using h1, h2⟩
theorem Vals.set {x : V} {u : Value} (r : RelV x u) : ∀ {xs : List V} {us : List Value} (i : Nat), Vals xs us → Vals (xs.set i x) (us.set i u)
  | _, _, _, .nil => .nil
  | _, _, 0, .cons _ t => .cons r t
  | _, _, i + 1, .cons q t => .cons q (Vals.set r i t)
theorem Vals.append : ∀ {xs ys : List V} {us ws : List Value}, Vals xs us → Vals ys ws → Vals (xs ++ ys) (us ++ ws)
  | _, _, _, _, .nil, s => s
  | _, _, _, _, .cons r t, s => .cons r (Vals.append t s)
theorem Vals.take : ∀ {xs : List V} {us : List Value} (n : Nat), Vals xs us → Vals (xs.take n) (us.take n)
  | _, _, 0, _ => .nil
  | _, _, _ + 1, .nil => .nil
  | _, _, n + 1, .cons r t => .cons r (Vals.take n t)
theorem Vals.drop : ∀ {xs : List V} {us : List Value} (n : Nat), Vals xs us → Vals (xs.drop n) (us.drop n)
  | _, _, 0, r => r
  | _, _, _ + 1, .nil => .nil
  | _, _, n + 1, .cons _ t => Vals.drop n t
theorem Vals.none_of : ∀ {xs : List V} {us : List Value} {i : Nat}, Vals xs us → xs[i]? = none → us[i]? = none := fun {xs us i} r e => by
  have h1 := r.length
  have h2 : xs.length ≤ i := List.getElem?_eq_none_iff.mp e
  exact List.getElem?_eq_none_iff.mpr (by omega)

def RelO : Option V → Option Value → Prop
  | some v, some u => RelV v u
  | none, none => True
  | _, _ => False
def KV {κ : Type} : List (κ × V) → List (κ × Value) → Prop := Paired fun (p : κ × V) (q : κ × Value) => p.1 = q.1 ∧ RelV p.2 q.2

def kV : Key → V
  | .inl i => .int i
  | .inr x => .str x

inductive HO where
  /-- a list -/
  | lst (xs : List V)
  /-- a tuple (never changes) -/
  | tup (xs : List V)
  /-- a dict whose keys are ints and texts; one whose keys are tuples of ints and texts (the empty one is both) -/
  | dK (kvs : List (Key × V)) | dT (kvs : List (List Key × V))
  /-- a set of ints: its members, its size -/
  | set (S : Int → Bool) (n : Nat)
  /-- an instance of the class at C, its dict at dx, its attributes -/
  | ins (C dx : Addr) (fs : List (Str × V))
  /-- the dict of the instance at x -/
  | own (x : Addr)
  /-- the dict of an exception -/
  | xd (fs : List (Str × V))
  /-- a bound method, f of x -/
  | met (f x : Addr)
  /-- a range object lo, lo + 1, .. below hi -/
  | rng (lo hi : Int)
  /-- a thing that is known to the object (the script; a dict while a loop walks it): read, never written while it is so -/
  | frz (o : Obj) (u : HO)
  /-- a code object's table -/
  | tbl (ps : Array Value)
  /-- any other thing, by what is true of its one object (a def of one's own: SetO a S n := HO.ext fun h => ..) -/
  | ext (φ : Heap → Prop)

abbrev Hp := Addr → Option HO
def upd (H : Hp) (a : Addr) (o : HO) : Hp := fun b => if b = a then some o else H b
theorem upd_same {H : Hp} {a : Addr} {o : HO} : upd H a o a = some o := by unfold upd; rw [if_pos rfl]
theorem upd_ne {H : Hp} {a b : Addr} {o : HO} (h : b ≠ a) : upd H a o b = H b := by unfold upd; rw [if_neg h]
theorem ne_of {H : Hp} {a b : Addr} {o u : HO} (h : H a = some o) (h' : H b = some u) (d : o ≠ u) : a ≠ b := by
  intro e; subst e; rw [h] at h'; exact d (Option.some.inj h')
theorem ne_of_none {H : Hp} {a b : Addr} {o : HO} (h : H a = some o) (h' : H b = none) : a ≠ b := by
  intro e; subst e; rw [h] at h'; cases h'

section
variable (P : Program) (w : World)
def NoD (h : Heap) (a : Addr) : Prop := ∃ o, h.get? a = some o ∧ o.dict = none
def ObjOk (H : Hp) (h : Heap) (a : Addr) : HO → Prop
  | .lst xs => xs.length ≤ sizeLine ∧ ∃ (its : List Value) (n : Nat), Vals xs its ∧ h.get? a = some { cls := .type "list", data := .seq its.toArray n }
  | .tup xs => xs.length ≤ sizeLine ∧ ∃ its : List Value, Vals xs its ∧ IsTup h a its.toArray ∧ NoD h a
  | .dK kvs => kvs.length ≤ sizeLine ∧ (a == sysModules) = false ∧ ∃ vs, KV kvs vs ∧ h.DictOf (mixKind P w) a vs
  | .dT kvs => kvs.length ≤ sizeLine ∧ (a == sysModules) = false ∧ ∃ xs : List (List Key × Addr × Value),
      Paired (fun (p : List Key × V) (q : List Key × Addr × Value) => p.1 = q.1 ∧ H q.2.1 = some (.tup (p.1.map kV)) ∧ RelV p.2 q.2.2) kvs xs ∧
      ∃ o es ep, h.get? a = some o ∧ o.ExactDict ∧ o.data = .dict es ep ∧ es.toList = xs.map (entryOfKey (tupleKind (mixKind P w))) ∧ (xs.map (·.1)).Nodup
  | .set S n => h.SetOf (intKind P w) a S n
  | .ins C dx fs => H dx = some (.own a) ∧ fs.length ≤ 1000 ∧ dx ≠ a ∧ h.get? a = some (PySem.W.instObj C dx) ∧
      ∃ mA, h.Ns1 dx mA ∧ (∀ f, RelO (fs.lookup f) (mA f)) ∧ PySem.Within mA (fs.map (·.1))
  | .own _ => ∃ o, h.get? a = some o
  | .xd fs => ∃ mA, h.Ns1 a mA ∧ ∀ f, RelO (fs.lookup f) (mA f)
  | .rng lo hi => ∃ t u v, h.get? a = some { cls := .type "range", data := .fields #[.int lo t, .int hi u, .int 1 v] }
  | .frz o u => h.get? a = some o ∧ ObjOk H h a u
  | .tbl ps => h.get? a = some { cls := .none, data := .fields ps }
  | .met f x => h.get? a = some (PySem.W.methodObj (.ref f) (.ref x))
  | .ext φ => φ h ∧ (∃ o, h.get? a = some o) ∧ ∀ h1 h2 : Heap, φ h1 → (∀ o, h1.get? a = some o → h2.get? a = some o) → φ h2
def HOk (H : Hp) (h : Heap) : Prop := ∀ a o, H a = some o → ObjOk P w H h a o
end

section
variable {P : Program} {w : World} {H H' : Hp} {h h' : Heap} {a : Addr} {o : HO}
theorem ObjOk.lt (x : ObjOk P w H h a o) : a < h.objs.size := by
  cases o with
  | lst xs => obtain ⟨_, _, _, _, e⟩ := x; exact Heap.lt_size e
  | tup xs => obtain ⟨_, _, _, p, _⟩ := x; exact p.lt
  | dK kvs => obtain ⟨_, _, _, _, o, _, _, e, _⟩ := x; exact Heap.lt_size e
  | dT kvs => obtain ⟨_, _, _, _, o, _, _, e, _⟩ := x; exact Heap.lt_size e
  | set S n => obtain ⟨o, _, _, _, e, _⟩ := x; exact Heap.lt_size e
  | ins C dx fs => obtain ⟨_, _, _, e, _⟩ := x; exact Heap.lt_size e
  | own y => obtain ⟨_, e⟩ := x; exact Heap.lt_size e
  | xd fs => obtain ⟨_, ⟨_, _, _, e, _⟩, _⟩ := x; exact Heap.lt_size e
  | rng lo hi => obtain ⟨_, _, _, e⟩ := x; exact Heap.lt_size e
  | frz ob u => obtain ⟨e, _⟩ := x; exact Heap.lt_size e
  | tbl ps => exact Heap.lt_size (show h.get? a = some _ from x)
  | met f y => exact Heap.lt_size (show h.get? a = some _ from x)
  | ext φ => obtain ⟨_, ⟨_, e⟩, _⟩ := x; exact Heap.lt_size e
theorem Paired.mapP {α β : Type} {F G : α → β → Prop} : ∀ {l₁ : List α} {l₂ : List β}, Paired F l₁ l₂ → (∀ a b, F a b → G a b) → Paired G l₁ l₂
  | _, _, .nil, _ => .nil
  | _, _, .cons r t, f => .cons (f _ _ r) (Paired.mapP t f)
theorem ObjOk.stay (x : ObjOk P w H h a o) (k : ∀ b u, (b = a ∨ H b = some (.own a)) → h.get? b = some u → h'.get? b = some u)
    (ho : ∀ b, H b = some (.own a) → H' b = some (.own a)) (ht : ∀ b xs, H b = some (.tup xs) → H' b = some (.tup xs)) : ObjOk P w H' h' a o := by
  induction o with
  | lst xs => obtain ⟨z, its, n, r, e⟩ := x; exact ⟨z, its, n, r, k _ _ (.inl rfl) e⟩
  | tup xs => obtain ⟨z, its, r, ⟨ob, e, c⟩, o2, e2, d2⟩ := x; exact ⟨z, its, r, ⟨ob, k _ _ (.inl rfl) e, c⟩, o2, k _ _ (.inl rfl) e2, d2⟩
  | dK kvs => obtain ⟨z, y, vs, r, ob, es, ep, e, c⟩ := x; exact ⟨z, y, vs, r, ob, es, ep, k _ _ (.inl rfl) e, c⟩
  | dT kvs =>
    obtain ⟨z, y, xs, r, ob, es, ep, e, c⟩ := x
    exact ⟨z, y, xs, Paired.mapP r fun p q z => ⟨z.1, ht _ _ z.2.1, z.2.2⟩, ob, es, ep, k _ _ (.inl rfl) e, c⟩
  | set S n => obtain ⟨ob, es, ep, t, e, c⟩ := x; exact ⟨ob, es, ep, t, k _ _ (.inl rfl) e, c⟩
  | ins C dx fs =>
    obtain ⟨d, z, ne, e, mA, ⟨od, es, ep, e2, c⟩, r⟩ := x
    exact ⟨ho _ d, z, ne, k _ _ (.inl rfl) e, mA, ⟨od, es, ep, k _ _ (.inr d) e2, c⟩, r⟩
  | own y => obtain ⟨ob, e⟩ := x; exact ⟨ob, k _ _ (.inl rfl) e⟩
  | xd fs => obtain ⟨mA, ⟨od, es, ep, e, c⟩, r⟩ := x; exact ⟨mA, ⟨od, es, ep, k _ _ (.inl rfl) e, c⟩, r⟩
  | rng lo hi => obtain ⟨t, u, v, e⟩ := x; exact ⟨t, u, v, k _ _ (.inl rfl) e⟩
  | frz ob u ih => obtain ⟨e, q⟩ := x; exact ⟨k _ _ (.inl rfl) e, ih q⟩
  | tbl ps =>
    have e : h.get? a = some { cls := .none, data := .fields ps } := x
    show h'.get? a = some { cls := .none, data := .fields ps }
    exact k a _ (.inl rfl) e
  | met f y =>
    have e : h.get? a = some (PySem.W.methodObj (.ref f) (.ref y)) := x
    show h'.get? a = some (PySem.W.methodObj (.ref f) (.ref y))
    exact k a _ (.inl rfl) e
  | ext φ => obtain ⟨p, ⟨o, e⟩, st⟩ := x; exact ⟨st _ _ p fun o q => k _ _ (.inl rfl) q, ⟨o, k _ _ (.inl rfl) e⟩, st⟩
theorem HOk.lt (x : HOk P w H h) (e : H a = some o) : a < h.objs.size := (x a o e).lt
theorem HOk.fresh (x : HOk P w H h) (e : h.objs.size ≤ a) : H a = none := by
  cases q : H a with
  | none => rfl
  | some u => exact absurd (Nat.lt_of_lt_of_le (x.lt q) e) (Nat.lt_irrefl _)
theorem HOk.kept (x : HOk P w H h) (k : ∀ b u, h.get? b = some u → h'.get? b = some u) : HOk P w H h' := fun a o e =>
  (x a o e).stay (fun b u _ q => k b u q) (fun _ q => q) fun _ _ q => q
theorem HOk.laid (x : HOk P w H h) (k : ∀ b u, h.get? b = some u → h'.get? b = some u) (hp : h.objs.size ≤ a) (new : ObjOk P w (upd H a o) h' a o) : HOk P w (upd H a o) h' := fun b u e => by
  have hn := x.fresh hp
  by_cases hb : b = a
  · subst hb; rw [upd_same] at e; cases e; exact new
  · rw [upd_ne hb] at e
    exact (x b u e).stay (fun c v _ q => k c v q) (fun c q => by rw [upd_ne (ne_of_none q hn)]; exact q) fun c xs q => by rw [upd_ne (ne_of_none q hn)]; exact q
end

def Rd (H : Hp) (a : Addr) (u : HO) : Prop := H a = some u ∨ ∃ o, H a = some (.frz o u)
theorem Rd.of {H : Hp} {a : Addr} {u : HO} (h : H a = some u) : Rd H a u := .inl h
theorem Rd.ok {P : Program} {w : World} {H : Hp} {h : Heap} {a : Addr} {u : HO} (r : Rd H a u) (x : HOk P w H h) : ObjOk P w H h a u := by
  rcases r with r | ⟨o, r⟩
  · exact x a u r
  · obtain ⟨_, q⟩ := x a _ r
    exact q
def Mut : Option HO → Prop
  | some (.lst _) => True
  | some (.dK _) => True
  | some (.dT _) => True
  | some (.set _ _) => True
  | some (.ins _ _ _) => True
  | some (.ext _) => True
  | _ => False
section
variable {P : Program} {w : World} {H : Hp} {h h' : Heap} {x e : Addr} {o' : HO}
theorem HOk.write (ok : HOk P w H h) (mu : Mut (H x)) (he : e = x ∨ H e = some (.own x)) (k : ∀ b u, b ≠ e → h.get? b = some u → h'.get? b = some u) (heo : ∃ u, h'.get? e = some u)
    (new : ObjOk P w (upd H x o') h' x o') : HOk P w (upd H x o') h' := fun b u q => by
  have nown : ∀ c y, H c = some (.own y) → c ≠ x := fun c y r z => by subst z; rw [r] at mu; exact mu
  have ntup : ∀ c xs, H c = some (.tup xs) → c ≠ x := fun c xs r z => by subst z; rw [r] at mu; exact mu
  by_cases hb : b = x
  · subst hb; rw [upd_same] at q; cases q; exact new
  · rw [upd_ne hb] at q
    by_cases hbe : b = e
    · have q' : H b = some (.own x) := by
        rcases he with z | z
        · exact absurd (hbe.trans z) hb
        · rw [hbe]; exact z
      rw [q] at q'; cases q'
      obtain ⟨v, hv⟩ := heo
      exact ⟨v, by rw [hbe]; exact hv⟩
    · refine (ok b u q).stay (fun c v hc r => k c v ?_ r) (fun c r => by rw [upd_ne (nown c b r)]; exact r) fun c xs r => by rw [upd_ne (ntup c xs r)]; exact r
      rcases hc with rfl | hc
      · exact hbe
      · rintro rfl
        rcases he with z | z
        · exact nown c b hc z
        · rw [hc] at z; cases z; exact hb rfl
end

structure Un (fs ex : List Addr) (H H' : Hp) (h h' : Heap) : Prop where
  keep : ∀ b o, h.get? b = some o → H b = none → b ∉ fs → b ∉ ex → h'.get? b = some o
  slot : ∀ b o, h.get? b = some o → H b = none → b ∈ fs → b ∉ ex → ∃ sl, h'.get? b = some { o with slots := sl }
  free : ∀ b o, h.get? b = some o → H b = none → b ∉ ex → H' b = none
  there : ∀ b o, h.get? b = some o → b ∉ ex → ∃ o', h'.get? b = some o'
  tups : ∀ b xs, H b = some (.tup xs) → H' b = some (.tup xs)
  frzs : ∀ b o u, H b = some (.frz o u) → H' b = some (.frz o u)
  tbls : ∀ b ps, H b = some (.tbl ps) → ∃ more, H' b = some (.tbl (ps ++ more))
section
variable {fs fs' ex ex' : List Addr} {H H1 H2 : Hp} {h h1 h2 h' : Heap} {a x e : Addr} {o : HO}
theorem Un.any (u : Un fs ex H H1 h h1) {b : Addr} {ob : Obj} (q : h.get? b = some ob) (n : H b = none) (hx : b ∉ ex) : ∃ sl, h1.get? b = some { ob with slots := sl } := by
  by_cases hb : b ∈ fs
  · exact u.slot b ob q n hb hx
  · exact ⟨ob.slots, u.keep b ob q n hb hx⟩
theorem Un.trans (a : Un fs ex H H1 h h1) (b : Un fs ex H1 H2 h1 h2) : Un fs ex H H2 h h2 where
  keep := fun c ob q n hc hx => b.keep c ob (a.keep c ob q n hc hx) (a.free c ob q n hx) hc hx
  slot := fun c ob q n hc hx => by
    obtain ⟨sl, e1⟩ := a.slot c ob q n hc hx
    obtain ⟨sl', e2⟩ := b.slot c _ e1 (a.free c ob q n hx) hc hx
    exact ⟨sl', e2⟩
  free := fun c ob q n hx => by
    obtain ⟨o', e1⟩ := a.there c ob q hx
    exact b.free c o' e1 (a.free c ob q n hx) hx
  there := fun c ob q hx => by
    obtain ⟨o', e1⟩ := a.there c ob q hx
    exact b.there c o' e1 hx
  tups := fun c xs q => b.tups c xs (a.tups c xs q)
  frzs := fun c ob xs q => b.frzs c ob xs (a.frzs c ob xs q)
  tbls := fun c ps q => by
    obtain ⟨m1, e1⟩ := a.tbls c ps q
    obtain ⟨m2, e2⟩ := b.tbls c _ e1
    exact ⟨m1 ++ m2, by rw [e2, Array.append_assoc]⟩
theorem Un.kept (k : ∀ b u, h.get? b = some u → h'.get? b = some u) : Un fs ex H H h h' :=
  ⟨fun b ob q _ _ _ => k b ob q, fun b ob q _ _ _ => ⟨ob.slots, k b ob q⟩, fun _ _ _ n _ => n, fun b ob q _ => ⟨ob, k b ob q⟩, fun _ _ q => q, fun _ _ _ q => q, fun _ ps q => ⟨#[], by rw [q]; simp⟩⟩
theorem Un.refl : Un fs ex H H h h := Un.kept fun _ _ q => q
theorem Un.laid (k : ∀ b u, h.get? b = some u → h'.get? b = some u) (hp : h.objs.size ≤ a) (hn : H a = none) : Un fs ex H (upd H a o) h h' where
  keep := fun b u q _ _ _ => k b u q
  slot := fun b u q _ _ _ => ⟨u.slots, k b u q⟩
  free := fun b u q n _ => by rw [upd_ne (Nat.ne_of_lt (Nat.lt_of_lt_of_le (Heap.lt_size q) hp))]; exact n
  there := fun b u q _ => ⟨u, k b u q⟩
  tups := fun b xs q => by rw [upd_ne (ne_of_none q hn)]; exact q
  frzs := fun b u xs q => by rw [upd_ne (ne_of_none q hn)]; exact q
  tbls := fun b ps q => ⟨#[], by rw [upd_ne (ne_of_none q hn), q]; simp⟩
theorem Un.write (mu : Mut (H x)) (he : e = x ∨ H e = some (.own x)) (k : ∀ b u, b ≠ e → h.get? b = some u → h'.get? b = some u) (heo : ∃ u, h'.get? e = some u) : Un fs ex H (upd H x o) h h' := by
  have hx : ∀ b, H b = none → b ≠ x := fun b n z => by subst z; rw [n] at mu; exact mu
  have hb : ∀ b, H b = none → b ≠ e := fun b n z => by
    subst z
    rcases he with r | r
    · exact hx b n r
    · rw [n] at r; cases r
  have hm : ∀ b u, H b = some u → ¬ Mut (some u) → b ≠ x := fun b u q nm z => by subst z; rw [q] at mu; exact nm mu
  refine ⟨fun b u q n _ _ => k b u (hb b n) q, fun b u q n _ _ => ⟨u.slots, k b u (hb b n) q⟩, fun b u q n _ => by rw [upd_ne (hx b n)]; exact n, fun b u q _ => ?_,
    fun b xs q => by rw [upd_ne (hm b _ q fun z => z)]; exact q, fun b u xs q => by rw [upd_ne (hm b _ q fun z => z)]; exact q, fun b ps q => ⟨#[], by rw [upd_ne (hm b _ q fun z => z), q]; simp⟩⟩
  by_cases hbe : b = e
  · subst hbe; exact heo
  · exact ⟨u, k b u hbe q⟩
theorem Un.mono (u : Un fs ex H H1 h h1) (hs : ∀ b ∈ fs, b ∈ fs') (hx : ∀ b ∈ ex, b ∈ ex') : Un fs' ex' H H1 h h1 :=
  ⟨fun b ob q n hb he => u.keep b ob q n (fun z => hb (hs b z)) fun z => he (hx b z), fun _ _ q n _ he => u.any q n fun z => he (hx _ z), fun b ob q n he => u.free b ob q n fun z => he (hx b z), fun b ob q he => u.there b ob q fun z => he (hx b z), u.tups, u.frzs, u.tbls⟩
end

def trk (h : Heap) (H : Hp) : List Addr := (List.range h.objs.size).filter fun a => (H a).isSome
def hidT (h : Heap) (H : Hp) : Heap := PySem.W.hideAll h (trk h H)
theorem hidT_size (h : Heap) (H : Hp) : (hidT h H).objs.size = h.objs.size := PySem.W.hideAll_size _ _
theorem hidT_get {h : Heap} {H : Hp} {b : Addr} {o : Obj} (e : h.get? b = some o) (n : H b = none) : (hidT h H).get? b = some o :=
  PySem.W.hideAll_get _ e fun hm => by
    have q : (H b).isSome = true := (List.mem_filter.mp hm).2
    rw [n] at q; simp at q
theorem of_hidT {h : Heap} {H : Hp} {b : Addr} {o : Obj} (e : (hidT h H).get? b = some o) : h.get? b = some o ∧ H b = none := by
  have e' : h.get? b = some o := PySem.W.of_hideAll (trk h H) e
  refine ⟨e', ?_⟩
  cases q : H b with
  | none => rfl
  | some x =>
    have hm : b ∈ trk h H := List.mem_filter.mpr ⟨List.mem_range.mpr (Heap.lt_size e'), by simp [q]⟩
    have z : (hidT h H).get? b = none := PySem.W.hideAll_none (trk h H) hm
    rw [z] at e; cases e

def allNews (g h : Heap) (L : Addr) : List (Addr × Obj) := (List.range h.objs.size).filterMap fun a => if a = L ∨ (g.get? a).isSome = true then none else (h.get? a).map fun o => (a, o)
def rest (g h : Heap) (L d : Addr) : List (Addr × Obj) := (allNews g h L).filter fun p => decide (p.1 ≠ d)
end L2

namespace L2
open PySem PySem.Spec PyProof.Rows

structure Mod (K : PySem.W.Frag) (mg : Str → Option Value) (base : Heap) : Prop where
  kin : K.In base
  glob : base.Ns mainGlobals mg
  blt : ∃ mb, base.Ns builtinsNs mb ∧ ∀ x : Str, x ≠ "__name__" → mb x = bootBuiltins x
  nolimit : base.NoLimit

structure Cx where
  prog : Program
  w : World
  K : PySem.W.Frag
  mg : Str → Option Value
  base : Heap
  A : Around
  N : List Str
  s₀ : Shared
  H₀ : Hp
  env : Env
  outer : List Env
  stack : List Env
  ex : List Addr
  fn : Str → Bool
  calm : Bool
  pn : List (Addr × Obj)
  xe : Value → Shared → Prop
def frs (l : List Env) : List Addr := l.filterMap (·.frame)
abbrev Cx.fs (X : Cx) : List Addr := frs X.outer

def Vis (sc : Scope) (x : Str) : Prop := sc.names.lookup x = some .local ∨ sc.names.lookup x = some .cell ∨ sc.names.lookup x = some .free
def Loc (sc : Scope) (x : Str) : Prop := sc.names.lookup x = some .local ∨ sc.names.lookup x = some .cell
def Look (env : Env) (h : Heap) (m : Str → Option Value) (x : Str) (u : Value) : Prop :=
  (env.kindOf x = some .local ∧ m x = some u) ∨ ((env.kindOf x = some .cell ∨ env.kindOf x = some .free) ∧ ∃ c, env.cells.lookup x = some c ∧ h.IsCell c (some u))

structure Cx.Ok (X : Cx) : Prop where
  mod : Mod X.K X.mg X.base
  kind : X.env.scope.kind = .function
  glob : X.env.globals = mainGlobals
  blt : X.env.builtins = builtinsNs
  above : X.s₀.heap.objs.size ≤ X.env.locals
  inj : ∀ x y c, X.env.cells.lookup x = some c → X.env.cells.lookup y = some c → x = y
  has : ∀ x, (X.env.kindOf x = some .cell ∨ X.env.kindOf x = some .free) → ∃ c, X.env.cells.lookup x = some c
  cab : ∀ x c, X.fn x = true → X.env.cells.lookup x = some c → X.s₀.heap.objs.size ≤ c
  hd : X.calm = true → X.A.handled = none
  frames : X.A.frames = some X.stack
  stk : X.stack = X.outer ∨ (X.stack = X.env :: X.outer ∧ X.env.frame = some X.env.locals)
  exf : ∀ b ∈ X.ex, b ≠ X.env.locals ∧ ∀ x c, X.env.cells.lookup x = some c → c ≠ b
  bs : ∀ b o, X.base.get? b = some o → X.s₀.heap.get? b = some o ∧ X.H₀ b = none
  bsz : X.base.objs.size ≤ X.s₀.heap.objs.size
  noex : ∀ b o, X.base.get? b = some o → b ∉ X.ex
  exfs : ∀ b ∈ X.ex, b ∉ X.fs
  funs : X.s₀.heap.FunFrames X.base X.outer
  frf : ∀ b ∈ X.fs, X.H₀ b = none

structure Inv (X : Cx) (pins : List (Addr × Obj)) (σ : List (Option V)) (H : Hp) (s : Shared) : Prop where
  ok : X.Ok
  os : s.os = X.s₀.os
  bare : AllBare s.gens
  base : Un X.fs X.ex X.H₀ H X.s₀.heap s.heap
  loc : ∃ m, s.heap.Ns X.env.locals m ∧ ∀ (i : Nat) (x : Str) (v : V), X.N[i]? = some x → σ[i]? = some (some v) → Vis X.env.scope x → ∃ u, RelV v u ∧ Look X.env s.heap m x u
  cell : ∀ x c, X.env.cells.lookup x = some c → ∃ v, s.heap.IsCell c v
  free : H X.env.locals = none
  freeC : ∀ x c, X.env.cells.lookup x = some c → H c = none
  pin : ∀ p ∈ X.pn ++ pins, s.heap.get? p.1 = some p.2 ∧ H p.1 = none ∧ p.1 ≠ X.env.locals ∧ p.1 ∉ X.fs ∧ ∀ v, p.2.data ≠ .cell v
  hok : HOk X.prog X.w H s.heap
  len : σ.length = X.N.length

section
variable {X : Cx} {pins : List (Addr × Obj)} {σ : List (Option V)} {H H' : Hp} {s : Shared} {h' : Heap}

theorem Cx.Ok.nofr (ok : X.Ok) {b : Addr} {o : Obj} (e : X.base.get? b = some o) : b ∉ X.fs := fun hb => by
  have := (ok.funs.mem hb).1
  rw [e] at this; cases this
theorem Inv.bs (I : Inv X pins σ H s) : ∀ b o, X.base.get? b = some o → s.heap.get? b = some o ∧ H b = none := fun b o e =>
  ⟨I.base.keep b o (I.ok.bs b o e).1 (I.ok.bs b o e).2 (I.ok.nofr e) (I.ok.noex b o e), I.base.free b o (I.ok.bs b o e).1 (I.ok.bs b o e).2 (I.ok.noex b o e)⟩
theorem Inv.bk (I : Inv X pins σ H s) : ∀ b o, X.base.get? b = some o → s.heap.get? b = some o := fun b o e => (I.bs b o e).1
theorem Inv.mod (I : Inv X pins σ H s) : Mod X.K X.mg X.base := I.ok.mod
theorem Inv.kIn (I : Inv X pins σ H s) : X.K.In s.heap := I.ok.mod.kin.keeps I.bk
theorem Inv.nolimit (I : Inv X pins σ H s) : s.heap.NoLimit := I.ok.mod.nolimit.keeps I.bk
theorem Inv.fr (I : Inv X pins σ H s) : ∃ m, Fr X.base X.env.locals s.heap m :=
  let ⟨m, hn, _⟩ := I.loc
  ⟨m, hn, I.bk, Nat.le_trans I.ok.bsz I.ok.above⟩
theorem Inv.lt (I : Inv X pins σ H s) : X.env.locals < s.heap.objs.size := let ⟨_, hn, _⟩ := I.loc; hn.lt
theorem Inv.sz (I : Inv X pins σ H s) : X.s₀.heap.objs.size ≤ s.heap.objs.size := Nat.le_trans I.ok.above (Nat.le_of_lt I.lt)
theorem Inv.nofs (I : Inv X pins σ H s) {a : Addr} (h : s.heap.objs.size ≤ a) : a ∉ X.fs := fun hb => by
  obtain ⟨_, o, ho, _⟩ := I.ok.funs.mem hb
  exact absurd (Nat.lt_of_lt_of_le (Heap.lt_size ho) (Nat.le_trans I.sz h)) (Nat.lt_irrefl _)
theorem Inv.cne (I : Inv X pins σ H s) : ∀ x c, X.env.cells.lookup x = some c → c ≠ X.env.locals := fun x c e z => by
  obtain ⟨v, o, ho, hd⟩ := I.cell x c e
  obtain ⟨m, ⟨o', es, ep, ho', hd', _⟩, _⟩ := I.loc
  rw [z, ho'] at ho; cases ho; rw [hd'] at hd; cases hd
theorem Inv.funs (I : Inv X pins σ H s) : s.heap.FunFrames X.base X.outer := by
  have all : ∀ (l : List Env), (∀ b ∈ frs l, b ∈ X.fs) → X.s₀.heap.FunFrames X.base l → s.heap.FunFrames X.base l := by
    intro l
    induction l with
    | nil => intro _ _; trivial
    | cons env r ih =>
      intro hs hl
      obtain ⟨hk, ⟨L, o, hf, hn, ho, hd⟩, hr⟩ := hl
      have hL : L ∈ X.fs := hs L (by unfold frs; rw [List.filterMap_cons, hf]; exact List.mem_cons_self)
      obtain ⟨sl, e⟩ := I.base.slot L o ho (I.ok.frf L hL) hL fun z => I.ok.exfs L z hL
      exact ⟨hk, ⟨L, _, hf, hn, e, hd⟩, ih (fun b hb => hs b (by unfold frs; rw [List.filterMap_cons, hf]; exact List.mem_cons_of_mem _ hb)) hr⟩
  exact all X.outer (fun _ hb => hb) I.ok.funs

theorem Inv.stack (I : Inv X pins σ H s) : s.heap.FunFrames X.base X.stack := by
  rcases I.ok.stk with e | ⟨e, hf⟩
  · rw [e]; exact I.funs
  · rw [e]
    obtain ⟨m, hn, _⟩ := I.loc
    refine .cons (by rw [I.ok.kind]; decide) hf hn ?_ I.funs
    exact Heap.get?_none_of_le (Nat.le_trans I.ok.bsz I.ok.above)
theorem Inv.stkSub (I : Inv X pins σ H s) : ∀ b ∈ frs X.stack, b ∈ X.env.locals :: X.fs := fun b hb => by
  rcases I.ok.stk with e | ⟨e, hf⟩
  · rw [e] at hb; exact List.mem_cons_of_mem _ hb
  · rw [e] at hb
    unfold frs at hb
    rw [List.filterMap_cons, hf] at hb
    exact hb
theorem Inv.stkFree (I : Inv X pins σ H s) : ∀ b ∈ frs X.stack, H b = none := fun b hb => by
  rcases List.mem_cons.mp (I.stkSub b hb) with e | hb
  · rw [e]; exact I.free
  · obtain ⟨_, o, ho, _⟩ := I.ok.funs.mem hb
    exact I.base.free b o ho (I.ok.frf b hb) fun z => I.ok.exfs b z hb

theorem Inv.step {g' : Array GenState} {t' : Nat} {d' : Drawn} {ch : List Addr} (I : Inv X pins σ H s)
    (hch : ∀ b ∈ ch, (b ∈ X.ex ∨ X.s₀.heap.objs.size ≤ b) ∧ b ≠ X.env.locals ∧ (∀ x c, X.env.cells.lookup x = some c → c ≠ b) ∧ ∀ p ∈ X.pn ++ pins, p.1 ≠ b)
    (keep : ∀ b o, b ≠ X.env.locals → b ∉ X.fs → b ∉ ch → s.heap.get? b = some o → H b = none → h'.get? b = some o)
    (slot : ∀ b o, b ≠ X.env.locals → b ∈ X.fs → b ∉ ch → s.heap.get? b = some o → H b = none → ∃ sl, h'.get? b = some { o with slots := sl }) (free : ∀ b o, b ∉ ch → s.heap.get? b = some o → H b = none → H' b = none)
    (there : ∀ b o, b ∉ ch → s.heap.get? b = some o → ∃ o', h'.get? b = some o')
    (tups : ∀ b xs, H b = some (.tup xs) → H' b = some (.tup xs)) (frzs : ∀ b o u, H b = some (.frz o u) → H' b = some (.frz o u)) (tbls : ∀ b ps, H b = some (.tbl ps) → ∃ more, H' b = some (.tbl (ps ++ more)))
    (ns : ∀ m, s.heap.Ns X.env.locals m → h'.Ns X.env.locals m) (hok : HOk X.prog X.w H' h') (hg : AllBare g') :
    Inv X pins σ H' { s with heap := h', gens := g', drawn := d', toks := t' } := by
  have neL : ∀ b o, X.s₀.heap.get? b = some o → b ≠ X.env.locals := fun b o e => Nat.ne_of_lt (Nat.lt_of_lt_of_le (Heap.lt_size e) I.ok.above)
  have neC : ∀ b o, X.s₀.heap.get? b = some o → b ∉ X.ex → b ∉ ch := fun b o e hx hb => by
    rcases (hch b hb).1 with z | z
    · exact hx z
    · exact absurd (Nat.lt_of_lt_of_le (Heap.lt_size e) z) (Nat.lt_irrefl _)
  have cellK : ∀ x c, X.env.cells.lookup x = some c → ∀ v, s.heap.IsCell c v → h'.IsCell c v := fun x c e v ⟨o, ho, hd⟩ => by
    have nch : c ∉ ch := fun z => (hch c z).2.2.1 x c e rfl
    by_cases hc : c ∈ X.fs
    · obtain ⟨sl, q⟩ := slot c o (I.cne x c e) hc nch ho (I.freeC x c e)
      exact ⟨_, q, hd⟩
    · exact ⟨o, keep c o (I.cne x c e) hc nch ho (I.freeC x c e), hd⟩
  refine ⟨I.ok, I.os, hg, ⟨fun b o e n hb hx => ?_, fun b o e n hb hx => ?_, fun b o e n hx => ?_, fun b o e hx => ?_, fun b xs e => tups b xs (I.base.tups b xs e), fun b o xs e => frzs b o xs (I.base.frzs b o xs e), fun b ps e => ?_⟩, ?_, fun x c e => ?_, ?_, fun x c e => ?_, fun p hp => ?_, hok, I.len⟩
  · exact keep b o (neL b o e) hb (neC b o e hx) (I.base.keep b o e n hb hx) (I.base.free b o e n hx)
  · obtain ⟨sl, e1⟩ := I.base.slot b o e n hb hx
    obtain ⟨sl', e2⟩ := slot b _ (neL b o e) hb (neC b o e hx) e1 (I.base.free b o e n hx)
    exact ⟨sl', e2⟩
  · obtain ⟨o', e1⟩ := I.base.there b o e hx
    exact free b o' (neC b o e hx) e1 (I.base.free b o e n hx)
  · obtain ⟨o', e1⟩ := I.base.there b o e hx
    exact there b o' (neC b o e hx) e1
  · obtain ⟨m1, e1⟩ := I.base.tbls b ps e
    obtain ⟨m2, e2⟩ := tbls b _ e1
    exact ⟨m1 ++ m2, by rw [e2, Array.append_assoc]⟩
  · obtain ⟨m, hn, hl⟩ := I.loc
    refine ⟨m, ns m hn, fun i x v e1 e2 e3 => ?_⟩
    obtain ⟨u, r, l⟩ := hl i x v e1 e2 e3
    refine ⟨u, r, ?_⟩
    rcases l with l | ⟨k, c, e, z⟩
    · exact .inl l
    · exact .inr ⟨k, c, e, cellK x c e _ z⟩
  · obtain ⟨v, z⟩ := I.cell x c e
    exact ⟨v, cellK x c e v z⟩
  · obtain ⟨m, ⟨o, _, _, ho, _⟩, _⟩ := I.loc
    exact free _ o (fun z => (hch _ z).2.1 rfl) ho I.free
  · obtain ⟨v, o, ho, hd⟩ := I.cell x c e
    exact free c o (fun z => (hch c z).2.2.1 x c e rfl) ho (I.freeC x c e)
  · obtain ⟨e, n, ne, nf, d⟩ := I.pin p hp
    have nch : p.1 ∉ ch := fun z => (hch p.1 z).2.2.2 p hp rfl
    exact ⟨keep p.1 p.2 ne nf nch e n, free p.1 p.2 nch e n, ne, nf, d⟩
theorem Inv.un {t' : Nat} (I : Inv X pins σ H s) (u : Un X.fs [] H H' s.heap h') (hok : HOk X.prog X.w H' h') : Inv X pins σ H' { s with heap := h', toks := t' } := by
  obtain ⟨m, ⟨o, es, ep, ho, r⟩, _⟩ := id I.loc
  obtain ⟨sl, hL⟩ := u.any ho I.free (by simp)
  exact I.step (g' := s.gens) (d' := s.drawn) (ch := []) (fun _ z => nomatch z) (fun b o _ hb _ e n => u.keep b o e n hb (by simp)) (fun b o _ hb _ e n => u.slot b o e n hb (by simp)) (fun b o _ e n => u.free b o e n (by simp)) (fun b o _ e => u.there b o e (by simp)) u.tups u.frzs u.tbls (fun m' hm => by
    obtain ⟨o', es', ep', ho', r'⟩ := hm
    rw [ho] at ho'; cases ho'
    exact ⟨_, es', ep', hL, r'⟩) hok I.bare
theorem Inv.call {g' : Array GenState} {t' : Nat} {d' : Drawn} {ch : List Addr} (I : Inv X pins σ H s) (u : Un (frs X.stack) ch H H' s.heap h') (hok : HOk X.prog X.w H' h') (hg : AllBare g')
    (hch : ∀ b ∈ ch, (b ∈ X.ex ∨ X.s₀.heap.objs.size ≤ b) ∧ b ≠ X.env.locals ∧ (∀ x c, X.env.cells.lookup x = some c → c ≠ b) ∧ ∀ p ∈ X.pn ++ pins, p.1 ≠ b) :
    Inv X pins σ H' { s with heap := h', gens := g', drawn := d', toks := t' } := by
  obtain ⟨m, ⟨o, es, ep, ho, r⟩, _⟩ := id I.loc
  obtain ⟨sl, hL⟩ := u.any ho I.free fun z => (hch _ z).2.1 rfl
  exact I.step (ch := ch) hch (fun b o hL hb hc e n => u.keep b o e n (fun z => (List.mem_cons.mp (I.stkSub b z)).elim hL hb) hc) (fun b o _ _ hc e n => u.any e n hc) (fun b o hc e n => u.free b o e n hc) (fun b o hc e => u.there b o e hc) u.tups u.frzs u.tbls (fun m' hm => by
    obtain ⟨o', es', ep', ho', r'⟩ := hm
    rw [ho] at ho'; cases ho'
    exact ⟨_, es', ep', hL, r'⟩) hok hg
theorem Inv.turned {t' : Nat} {it : Addr} (I : Inv X pins σ H s) (k : ∀ b o, b ≠ it → s.heap.get? b = some o → h'.get? b = some o) (hn : H it = none) (hL : it ≠ X.env.locals)
    (h1 : it ∈ X.ex ∨ X.s₀.heap.objs.size ≤ it) (h2 : ∀ x c, X.env.cells.lookup x = some c → c ≠ it) (h3 : ∀ p ∈ X.pn ++ pins, p.1 ≠ it) : Inv X pins σ H { s with heap := h', toks := t' } := by
  have nit : ∀ b u, H b = some u → b ≠ it := fun b u e z => by rw [z, hn] at e; cases e
  refine I.step (g' := s.gens) (d' := s.drawn) (ch := [it]) (fun b hb => ?_) (fun b o _ _ hc e _ => k b o (fun z => hc (by simp [z])) e) (fun b o _ _ hc e _ => ⟨o.slots, k b o (fun z => hc (by simp [z])) e⟩) (fun _ _ _ _ n => n)
    (fun b o hc e => ⟨o, k b o (fun z => hc (by simp [z])) e⟩) (fun _ _ e => e) (fun _ _ _ e => e) (fun b ps e => ⟨#[], by rw [e]; simp⟩) (fun m hm => ?_) (fun b u e => ?_) I.bare
  · have e : b = it := by simpa using hb
    subst e
    exact ⟨h1, hL, h2, h3⟩
  · obtain ⟨o, es, ep, ho, r⟩ := hm
    exact ⟨o, es, ep, k _ o (Ne.symm hL) ho, r⟩
  · refine (I.hok b u e).stay (fun c v hc q => k c v ?_ q) (fun _ q => q) fun _ _ q => q
    rcases hc with z | z
    · rw [z]; exact nit b u e
    · exact nit c _ z
theorem Inv.tok (I : Inv X pins σ H s) (t : Nat) : Inv X pins σ H { s with toks := t } := I.un (h' := s.heap) (t' := t) Un.refl I.hok
theorem Inv.kept {t' : Nat} (I : Inv X pins σ H s) (k : ∀ b u, s.heap.get? b = some u → h'.get? b = some u) : Inv X pins σ H { s with heap := h', toks := t' } := I.un (Un.kept k) (I.hok.kept k)
theorem Inv.laid {a : Addr} {o : HO} {t' : Nat} (I : Inv X pins σ H s) (k : ∀ b u, s.heap.get? b = some u → h'.get? b = some u) (hp : s.heap.objs.size ≤ a) (new : ObjOk X.prog X.w (upd H a o) h' a o) :
    Inv X pins σ (upd H a o) { s with heap := h', toks := t' } := I.un (Un.laid k hp (I.hok.fresh hp)) (I.hok.laid k hp new)
theorem Inv.write {x e : Addr} {o : HO} {t' : Nat} (I : Inv X pins σ H s) (mu : Mut (H x)) (he : e = x ∨ H e = some (.own x)) (k : ∀ b u, b ≠ e → s.heap.get? b = some u → h'.get? b = some u) (heo : ∃ u, h'.get? e = some u)
    (new : ObjOk X.prog X.w (upd H x o) h' x o) : Inv X pins σ (upd H x o) { s with heap := h', toks := t' } := I.un (Un.write mu he k heo) (I.hok.write mu he k heo new)
theorem Inv.pins_of {pins' : List (Addr × Obj)} (I : Inv X pins σ H s) (h : ∀ p ∈ pins', s.heap.get? p.1 = some p.2 ∧ H p.1 = none ∧ p.1 ≠ X.env.locals ∧ p.1 ∉ X.fs ∧ ∀ v, p.2.data ≠ .cell v) : Inv X pins' σ H s :=
  ⟨I.ok, I.os, I.bare, I.base, I.loc, I.cell, I.free, I.freeC, fun p hp => (List.mem_append.mp hp).elim (fun z => I.pin p (List.mem_append_left _ z)) (h p), I.hok, I.len⟩

theorem nodup_ix {N : List Str} (hN : N.Nodup) {i j : Nat} {x : Str} (a : N[i]? = some x) (b : N[j]? = some x) : i = j := by
  obtain ⟨h1, e1⟩ := List.getElem?_eq_some_iff.mp a
  obtain ⟨h2, e2⟩ := List.getElem?_eq_some_iff.mp b
  exact (List.getElem_inj hN).mp (e1.trans e2.symm)

theorem store_ok2 {M : Model} {A : Around} {E : Value → Shared → Prop} {i : Nat} {x : Str} {v : V} {u : Value} {Q : Unit → Shared → Prop} (I : Inv X pins σ H s) (hN : X.N.Nodup) (hi : X.N[i]? = some x) (hx : Loc X.env.scope x) (r : RelV v u)
    (h : ∀ s', Inv X pins (σ.set i (some v)) H s' → (∃ a, Heap.SameBut a s.heap s'.heap ∧ (a = X.env.locals ∨ X.env.cells.lookup x = some a)) → Q () s') (hf : X.fn x = true ∨ X.env.scope.names.lookup x = some .local := by first | exact .inl rfl | exact .inr rfl | assumption) : wpAny M A (storeName X.env x u) Q E s := by
  obtain ⟨m, hn, hl⟩ := id I.loc
  have hcls : (X.env.scope.kind == .class || (X.env.scope.kind == .module && X.env.locals != X.env.globals)) = false := by rw [I.ok.kind]; rfl
  have hiσ : i < σ.length := by rw [I.len]; exact (List.getElem?_eq_some_iff.mp hi).1
  have cne := I.cne
  have tracked : ∀ {a : Addr} {h' : Heap}, (∃ o, s.heap.get? a = some o ∧ H a = none) → Heap.SameBut a s.heap h' → HOk X.prog X.w H h' := fun {a h'} ha hs b ob e => by
    obtain ⟨_, _, hfree⟩ := ha
    refine (I.hok b ob e).stay (fun c w' hc q => (hs.2 c ?_).trans q) (fun _ q => q) fun _ _ q => q
    rintro rfl
    rcases hc with rfl | hc
    · rw [hfree] at e; cases e
    · rw [hfree] at hc; cases hc
  rcases hx with hk | hk
  · refine wpAny_storeName_local hk hn (fun h' hn' hs => ?_) hcls
    obtain ⟨oL, _, _, hoL, _⟩ := id hn
    refine h _ ⟨I.ok, I.os, I.bare, ⟨fun b o e n hb hx => ?_, fun b o e n hb hx => ?_, I.base.free, fun b o e hx => ?_, I.base.tups, I.base.frzs, I.base.tbls⟩, ⟨_, hn', fun j y v' e1 e2 e3 => ?_⟩, fun y c e => ?_, I.free, I.freeC, fun p hp => ?_, tracked ⟨oL, hoL, I.free⟩ hs, by simpa using I.len⟩ ⟨_, hs, .inl rfl⟩
    · exact (hs.2 b (Nat.ne_of_lt (Nat.lt_of_lt_of_le (Heap.lt_size e) I.ok.above))).trans (I.base.keep b o e n hb hx)
    · obtain ⟨sl, e1⟩ := I.base.slot b o e n hb hx
      exact ⟨sl, (hs.2 b (Nat.ne_of_lt (Nat.lt_of_lt_of_le (Heap.lt_size e) I.ok.above))).trans e1⟩
    · obtain ⟨o', e1⟩ := I.base.there b o e hx
      exact ⟨o', (hs.2 b (Nat.ne_of_lt (Nat.lt_of_lt_of_le (Heap.lt_size e) I.ok.above))).trans e1⟩
    · by_cases hj : j = i
      · subst hj
        rw [hi] at e1; cases e1
        rw [List.getElem?_set_self hiσ] at e2
        cases e2
        exact ⟨u, r, .inl ⟨hk, by simp⟩⟩
      · rw [List.getElem?_set_ne (Ne.symm hj)] at e2
        obtain ⟨u', r', q⟩ := hl j y v' e1 e2 e3
        refine ⟨u', r', ?_⟩
        rcases q with ⟨k, e⟩ | ⟨k, c, e, z⟩
        · refine .inl ⟨k, ?_⟩
          have : y ≠ x := fun e => hj (nodup_ix hN e1 (e ▸ hi))
          simp [this, e]
        · exact .inr ⟨k, c, e, z.sameBut hs (cne y c e)⟩
    · obtain ⟨w', z⟩ := I.cell y c e
      exact ⟨w', z.sameBut hs (cne y c e)⟩
    · obtain ⟨e, n, ne, nf, d⟩ := I.pin p hp
      exact ⟨(hs.2 p.1 ne).trans e, n, ne, nf, d⟩
  · have hfn : X.fn x = true := by
      rcases hf with z | z
      · exact z
      · rw [z] at hk; cases hk
    obtain ⟨c, hc⟩ := I.ok.has x (.inl hk)
    obtain ⟨w', z⟩ := I.cell x c hc
    refine wpAny_storeName_cell I.ok.kind hk hc z (fun h' hc' hs => ?_)
    obtain ⟨oc, hoc, hocd⟩ := id z
    refine h { s with heap := h' } ⟨I.ok, I.os, I.bare, ⟨fun b o e n hb hx => ?_, fun b o e n hb hx => ?_, I.base.free, fun b o e hx => ?_, I.base.tups, I.base.frzs, I.base.tbls⟩, ⟨m, hn.sameBut hs (Ne.symm (cne x c hc)), fun j y v' e1 e2 e3 => ?_⟩, fun y c' e => ?_, I.free, I.freeC, fun p hp => ?_, tracked ⟨oc, hoc, I.freeC x c hc⟩ hs, by simpa using I.len⟩ ⟨c, hs, .inr hc⟩
    · exact (hs.2 b (Nat.ne_of_lt (Nat.lt_of_lt_of_le (Heap.lt_size e) (I.ok.cab x c hfn hc)))).trans (I.base.keep b o e n hb hx)
    · obtain ⟨sl, e1⟩ := I.base.slot b o e n hb hx
      exact ⟨sl, (hs.2 b (Nat.ne_of_lt (Nat.lt_of_lt_of_le (Heap.lt_size e) (I.ok.cab x c hfn hc)))).trans e1⟩
    · obtain ⟨o', e1⟩ := I.base.there b o e hx
      exact ⟨o', (hs.2 b (Nat.ne_of_lt (Nat.lt_of_lt_of_le (Heap.lt_size e) (I.ok.cab x c hfn hc)))).trans e1⟩
    · by_cases hj : j = i
      · subst hj
        rw [hi] at e1; cases e1
        rw [List.getElem?_set_self hiσ] at e2
        cases e2
        exact ⟨u, r, .inr ⟨.inl hk, c, hc, hc'⟩⟩
      · rw [List.getElem?_set_ne (Ne.symm hj)] at e2
        obtain ⟨u', r', q⟩ := hl j y v' e1 e2 e3
        refine ⟨u', r', ?_⟩
        rcases q with q | ⟨k, c', e, z'⟩
        · exact .inl q
        · refine .inr ⟨k, c', e, z'.sameBut hs ?_⟩
          rintro rfl
          exact hj (nodup_ix hN e1 (I.ok.inj _ _ _ e hc ▸ hi))
    · by_cases hcc : c' = c
      · subst hcc; exact ⟨_, hc'⟩
      · obtain ⟨w2, z2⟩ := I.cell y c' e
        exact ⟨w2, z2.sameBut hs hcc⟩
    · obtain ⟨e, n, ne, nf, d⟩ := I.pin p hp
      refine ⟨(hs.2 p.1 ?_).trans e, n, ne, nf, d⟩
      intro q
      rw [q, hoc] at e
      have q' : oc = p.2 := Option.some.inj e
      exact d w' (by rw [← q']; exact hocd)
theorem store_ok {M : Model} {A : Around} {E : Value → Shared → Prop} {i : Nat} {x : Str} {v : V} {u : Value} {Q : Unit → Shared → Prop} (I : Inv X pins σ H s) (hN : X.N.Nodup) (hi : X.N[i]? = some x) (hx : Loc X.env.scope x) (r : RelV v u)
    (h : ∀ s', Inv X pins (σ.set i (some v)) H s' → Q () s') (hf : X.fn x = true ∨ X.env.scope.names.lookup x = some .local := by first | exact .inl rfl | exact .inr rfl | assumption) : wpAny M A (storeName X.env x u) Q E s :=
  store_ok2 I hN hi hx r (fun s' I' _ => h s' I') hf
theorem Inv.call' {s' : Shared} {ch : List Addr} (I : Inv X pins σ H s) (ho : s'.os = s.os) (u : Un (frs X.stack) ch H H' s.heap s'.heap) (hok : HOk X.prog X.w H' s'.heap) (hg : AllBare s'.gens)
    (hch : ∀ b ∈ ch, (b ∈ X.ex ∨ X.s₀.heap.objs.size ≤ b) ∧ b ≠ X.env.locals ∧ (∀ x c, X.env.cells.lookup x = some c → c ≠ b) ∧ ∀ p ∈ X.pn ++ pins, p.1 ≠ b) : Inv X pins σ H' s' := by
  obtain ⟨h', g', d', t', o'⟩ := s'
  have e : o' = s.os := ho
  subst e
  exact I.call (g' := g') (t' := t') (d' := d') u hok hg hch
end

abbrev XK := Value → Option Addr → Hp → Prop
abbrev St := List (Option V)
abbrev VK := V → Hp → Prop
abbrev TE := St → Hp → VK → Prop
abbrev TT := St → Hp → (Bool → Hp → Prop) → Prop
abbrev TA := St → Hp → (List V → Hp → Prop) → Prop
structure Ends where
  nx : St → Hp → Prop
  rt : VK
  bk : St → Hp → Prop := fun _ _ => False
  ct : St → Hp → Prop := fun _ _ => False
abbrev TS := Ends → St → Hp → Prop

def EP (X : Cx) (pins : List (Addr × Obj)) (σ : St) (Q : VK) (u : Value) (s' : Shared) : Prop := ∃ v H', Inv X pins σ H' s' ∧ RelV v u ∧ Q v H'
def TP (X : Cx) (pins : List (Addr × Obj)) (σ : St) (Q : Bool → Hp → Prop) (b : Bool) (s' : Shared) : Prop := ∃ H', Inv X pins σ H' s' ∧ Q b H'
def AP (X : Cx) (pins : List (Addr × Obj)) (σ : St) (Q : List V → Hp → Prop) (us : List Value) (s' : Shared) : Prop := ∃ vs H', Inv X pins σ H' s' ∧ Vals vs us ∧ Q vs H'
def SP (X : Cx) (pins : List (Addr × Obj)) (D : Ends) (f : Flow) (s' : Shared) : Prop :=
  match f with
  | .next => ∃ σ' H', Inv X pins σ' H' s' ∧ D.nx σ' H'
  | .brk => ∃ σ' H', Inv X pins σ' H' s' ∧ D.bk σ' H'
  | .cont => ∃ σ' H', Inv X pins σ' H' s' ∧ D.ct σ' H'
  | .ret u => ∃ v σ' H', Inv X pins σ' H' s' ∧ RelV v u ∧ D.rt v H'

def PE (X : Cx) (e : Expr) (t : TE) : Prop :=
  ∀ (pins : List (Addr × Obj)) (s : Shared) (σ : St) (H : Hp) (Q : VK), Inv X pins σ H s → t σ H Q → wpAny (model X.prog X.w) X.A (eval e X.env) (EP X pins σ Q) X.xe s
def PT (X : Cx) (e : Expr) (t : TT) : Prop :=
  ∀ (pins : List (Addr × Obj)) (s : Shared) (σ : St) (H : Hp) (Q : Bool → Hp → Prop), Inv X pins σ H s → t σ H Q → wpAny (model X.prog X.w) X.A (isTrue e X.env (eval e X.env)) (TP X pins σ Q) X.xe s
def PW (X : Cx) (e : Expr) (t : TT) : Prop :=
  ∀ (whole : Sem Value) (pins : List (Addr × Obj)) (s : Shared) (σ : St) (H : Hp) (Q : Bool → Hp → Prop), Inv X pins σ H s → t σ H Q → wpAny (model X.prog X.w) X.A (isTrue e X.env whole) (TP X pins σ Q) X.xe s
theorem PW.pt {X : Cx} {e : Expr} {t : TT} (h : PW X e t) : PT X e t := h _
def PA (X : Cx) (es : List Expr) (t : TA) : Prop :=
  ∀ (pos : Pos) (pins : List (Addr × Obj)) (s : Shared) (σ : St) (H : Hp) (Q : List V → Hp → Prop), Inv X pins σ H s → t σ H Q → wpAny (model X.prog X.w) X.A (spliced (backTo pos (starEach es X.env))) (AP X pins σ Q) X.xe s
def PS (X : Cx) (st : Stmt) (t : TS) : Prop :=
  ∀ (pins : List (Addr × Obj)) (s : Shared) (σ : St) (H : Hp) (D : Ends), Inv X pins σ H s → t D σ H → wpAny (model X.prog X.w) X.A (exec st X.env) (SP X pins D) X.xe s
def PSs (X : Cx) (st : List Stmt) (t : TS) : Prop :=
  ∀ (pins : List (Addr × Obj)) (s : Shared) (σ : St) (H : Hp) (D : Ends), Inv X pins σ H s → t D σ H → wpAny (model X.prog X.w) X.A (execs st X.env) (SP X pins D) X.xe s
theorem thn {α : Type} {t : Sem α} {Q Q' : α → Shared → Prop} {M : Model} {A : Around} {E : Value → Shared → Prop} {s : Shared} (h : wpAny M A t Q E s) (hQ : ∀ a s, Q a s → Q' a s) : wpAny M A t Q' E s := wpAny_mono h hQ fun _ _ x => x
end L2

namespace L2
open PySem PySem.Spec PyProof.Rows
section
variable {X : Cx}

def tVar (i : Nat) : TE := fun σ H Q => ∃ v, σ[i]? = some (some v) ∧ Q v H
def tC (v : V) : TE := fun _ H Q => Q v H
theorem pe_var {i : Nat} {x : Str} {pos : Pos} (hN : X.N[i]? = some x) (hv : Vis X.env.scope x) (hd : (x == ("__debug__" : Str)) = false := by decide) (hcd : (x == ("__classdict__" : Str)) = false := by decide) : PE X (.Name x pos) (tVar i) := by
  intro pins s σ H Q I h
  obtain ⟨v, e, h⟩ := h
  obtain ⟨m, hn, hl⟩ := I.loc
  obtain ⟨u, r, l⟩ := hl i x v hN e hv
  have fin : EP X pins σ Q u s := ⟨v, H, I, r, h⟩
  rcases l with ⟨hk, hm⟩ | ⟨hk, c, hc, hcell⟩
  · exact wpAny_Name (wpAny_loadName_local I.ok.kind hk hn hm fin) hd
  · rcases hk with hk | hk
    · exact wpAny_Name (wpAny_loadName_cell I.ok.kind hk hc hcell fin) hd
    · exact wpAny_Name (wpAny_loadName_free I.ok.kind hk hc hcell fin hcd) hd
theorem pe_int {i j pos} : PE X (.Constant (.int i) j pos) (tC (.int i)) := fun _ _ _ H _ I h => wpAny_Constant_int ⟨.int i, H, I.tok _, ⟨_, rfl⟩, h⟩
theorem pe_bl {b j pos} : PE X (.Constant (.bool b) j pos) (tC (.bl b)) := fun _ _ _ H _ I h => Constant_bool ⟨.bl b, H, I, rfl, h⟩
theorem pe_non {j pos} : PE X (.Constant .none j pos) (tC .non) := fun _ _ _ H _ I h => Constant_none ⟨.non, H, I, rfl, h⟩
theorem pe_str {x j pos} : PE X (.Constant (.str x) j pos) (tC (.str x)) := fun _ _ _ H _ I h => Calls.Constant_str ⟨.str x, H, I.tok _, ⟨_, rfl⟩, h⟩

def Gl (X : Cx) (x : Str) : Prop := X.env.kindOf x = some .globalImplicit
theorem ld_glob {E : Value → Shared → Prop} {pins : List (Addr × Obj)} {s : Shared} {σ : St} {H : Hp} {x : Str} {u : Value} {pos : Pos} {Q : Value → Shared → Prop} (I : Inv X pins σ H s) (hg : Gl X x) (hm : X.mg x = some u) (h : Q u s)
    (hd : (x == ("__debug__" : Str)) = false := by decide) : wpAny (model X.prog X.w) X.A (eval (.Name x pos) X.env) Q E s :=
  Calls.Name_function_global I.ok.kind hg (Calls.loadGlobal_global (by rw [I.ok.glob]; exact I.mod.glob.keeps I.bk) hm h) hd
theorem ld_blt {E : Value → Shared → Prop} {pins : List (Addr × Obj)} {s : Shared} {σ : St} {H : Hp} {x : Str} {u : Value} {pos : Pos} {Q : Value → Shared → Prop} (I : Inv X pins σ H s) (hg : Gl X x) (hm : X.mg x = none) (hv : bootBuiltins x = some u) (h : Q u s)
    (hn : x ≠ "__name__" := by decide) (hd : (x == ("__debug__" : Str)) = false := by decide) : wpAny (model X.prog X.w) X.A (eval (.Name x pos) X.env) Q E s := by
  obtain ⟨mb, h1, h2⟩ := I.mod.blt
  exact Calls.Name_function_global I.ok.kind hg (Calls.loadGlobal_builtin (by rw [I.ok.glob]; exact I.mod.glob.keeps I.bk) hm (by rw [I.ok.blt]; exact h1.keeps I.bk) ((h2 x hn).trans hv) h) hd
theorem pe_glob {x : Str} {v : V} {u : Value} {pos : Pos} (hg : Gl X x) (hm : X.mg x = some u) (r : RelV v u) (hd : (x == ("__debug__" : Str)) = false := by decide) : PE X (.Name x pos) (tC v) :=
  fun _ _ _ H _ I h => ld_glob I hg hm ⟨v, H, I, r, h⟩ hd
theorem pe_bltn {x : Str} {v : V} {u : Value} {pos : Pos} (hg : Gl X x) (hm : X.mg x = none) (hv : bootBuiltins x = some u) (r : RelV v u) (hn : x ≠ "__name__" := by decide) (hd : (x == ("__debug__" : Str)) = false := by decide) : PE X (.Name x pos) (tC v) :=
  fun _ _ _ H _ I h => ld_blt I hg hm hv ⟨v, H, I, r, h⟩ hn hd

variable {a b : Expr} {ta tb : TE} {pos : Pos}
def tB (t : TE) : TT := fun σ H Q => t σ H fun x H1 => ∃ c, x = .bl c ∧ Q c H1
theorem pt_val {e : Expr} {t : TE} (h : PE X e t) (he : ∀ whole, isTrue e X.env whole = (do let v ← whole; standAt e.pos; holding [v] (truthy v)) := by intro _; rfl) : PT X e (tB t) := by
  intro pins s σ H Q I hw
  refine isTrue_plain (thn (h pins s σ H _ I hw) fun v s1 ⟨x, H1, I1, r1, q1⟩ => ?_) (he _)
  obtain ⟨d, rfl, q⟩ := q1
  cases r1
  exact wpAny_truthy_bool ⟨H1, I1, q⟩

variable {tA tB' : TT} {rest : List Expr}
def tAnd (t u : TT) : TT := fun σ H Q => t σ H fun c H1 => if c = true then u σ H1 Q else Q false H1
def tOr (t u : TT) : TT := fun σ H Q => t σ H fun c H1 => if c = true then Q true H1 else u σ H1 Q
def tNot (t : TT) : TT := fun σ H Q => t σ H fun c H1 => Q (!c) H1
theorem pw_and1 (ha : PT X a tA) : PW X (.BoolOp .And [a] pos) tA := by
  intro wh pins s σ H Q I h
  refine isTrue_and (thn (ha pins s σ H Q I h) fun c s1 e => ?_)
  cases c with
  | true => exact isTrue_and_nil e
  | false => exact e
theorem pw_or1 (ha : PT X a tA) : PW X (.BoolOp .Or [a] pos) tA := by
  intro wh pins s σ H Q I h
  refine isTrue_or (thn (ha pins s σ H Q I h) fun c s1 e => ?_)
  cases c with
  | false => exact isTrue_or_nil e
  | true => exact e
theorem pw_and (ha : PT X a tA) (hb : PW X (.BoolOp .And (b :: rest) pos) tB') : PW X (.BoolOp .And (a :: b :: rest) pos) (tAnd tA tB') := by
  intro wh pins s σ H Q I h
  refine isTrue_and (thn (ha pins s σ H _ I h) fun c s1 ⟨H1, I1, q1⟩ => ?_)
  cases c with
  | true => exact hb wh pins s1 σ H1 Q I1 q1
  | false => exact ⟨H1, I1, q1⟩
theorem pw_or (ha : PT X a tA) (hb : PW X (.BoolOp .Or (b :: rest) pos) tB') : PW X (.BoolOp .Or (a :: b :: rest) pos) (tOr tA tB') := by
  intro wh pins s σ H Q I h
  refine isTrue_or (thn (ha pins s σ H _ I h) fun c s1 ⟨H1, I1, q1⟩ => ?_)
  cases c with
  | true => exact ⟨H1, I1, q1⟩
  | false => exact hb wh pins s1 σ H1 Q I1 q1
theorem pt_not (ha : PT X a tA) : PT X (.UnaryOp .Not a pos) (tNot tA) := by
  intro pins s σ H Q I h
  exact isTrue_not (ha pins s σ H (fun c H1 => Q (!c) H1) I h)
def tAndV (ta tb : TE) : TE := fun σ H Q => ta σ H fun x H1 => ∃ c, x = .bl c ∧ if c = true then tb σ H1 Q else Q (.bl false) H1
def tOrV (ta tb : TE) : TE := fun σ H Q => ta σ H fun x H1 => ∃ c, x = .bl c ∧ if c = true then Q (.bl true) H1 else tb σ H1 Q
def tNotV (ta : TE) : TE := fun σ H Q => ta σ H fun x H1 => ∃ c, x = .bl c ∧ Q (.bl (!c)) H1
theorem pe_one {op} {t : TE} (h : PE X a t) : PE X (.BoolOp op [a] pos) t := fun pins s σ H Q I hw => BoolOp_one (h pins s σ H Q I hw)
theorem pe_and (ha : PE X a ta) (hb : PE X (.BoolOp .And (b :: rest) pos) tb) : PE X (.BoolOp .And (a :: b :: rest) pos) (tAndV ta tb) := by
  intro pins s σ H Q I h
  refine BoolOp_and (thn (ha pins s σ H _ I h) fun v s1 ⟨x, H1, I1, r1, q1⟩ => ?_)
  obtain ⟨c, rfl, q1⟩ := q1
  cases r1
  refine wpAny_truthy_bool ?_
  cases c with
  | true => exact hb pins s1 σ H1 Q I1 q1
  | false => exact ⟨.bl false, H1, I1, rfl, q1⟩
theorem pe_not (ha : PE X a ta) : PE X (.UnaryOp .Not a pos) (tNotV ta) := by
  intro pins s σ H Q I h
  refine UnaryOp_ (thn (ha pins s σ H _ I h) fun v s1 ⟨x, H1, I1, r1, q1⟩ => ?_)
  obtain ⟨c, rfl, q1⟩ := q1
  cases r1
  exact not_of (wpAny_truthy_bool ⟨.bl (!c), H1, I1, rfl, q1⟩)
def tIf (t : TT) (ta tb : TE) : TE := fun σ H Q => t σ H fun c H1 => if c = true then ta σ H1 Q else tb σ H1 Q
end
end L2

namespace L2
open PySem PySem.Spec PyProof.Rows

def SqL (K : PySem.W.Frag) (H : Hp) (a : Addr) (xs : List V) : Prop :=
  Rd H a (.lst xs) ∨
    ∃ (o : Obj) (its : Array Value) (n : Nat), K.lookup a = some o ∧ o.cls = .type "list" ∧ o.dict = none ∧ o.data = .seq its n ∧ its.size ≤ sizeLine ∧ Vals xs its.toList
def SqT (K : PySem.W.Frag) (H : Hp) (a : Addr) (xs : List V) : Prop :=
  Rd H a (.tup xs) ∨
    ∃ (o : Obj) (its : Array Value) (n : Nat), K.lookup a = some o ∧ o.cls = .type "tuple" ∧ o.data = .seq its n ∧ its.size ≤ sizeLine ∧ Vals xs its.toList
def absV : Value → Option V
  | .none => some .non
  | .bool b => some (.bl b)
  | .int i _ => some (.int i)
  | .str x _ => some (.str x)
  | .bytes b _ => some (.byt b)
  | .float b _ => some (.flt b)
  | .ref a => some (.ref a)
  | .type n => some (.ty n)
  | _ => none
theorem RelV.abs {x : V} {u : Value} (r : RelV x u) : absV u = some x := by
  cases x with
  | non => cases r; rfl
  | bl _ => cases r; rfl
  | int _ => obtain ⟨t, rfl⟩ := r; rfl
  | str _ => obtain ⟨t, rfl⟩ := r; rfl
  | byt _ => obtain ⟨t, rfl⟩ := r; rfl
  | flt _ => obtain ⟨t, rfl⟩ := r; rfl
  | ref _ => cases r; rfl
  | ty _ => cases r; rfl
theorem RelV.inj {x y : V} {u : Value} (r : RelV x u) (q : RelV y u) : x = y := Option.some.inj (r.abs.symm.trans q.abs)
theorem Vals.inj : ∀ {xs ys : List V} {us : List Value}, Vals xs us → Vals ys us → xs = ys
  | _, _, _, .nil, .nil => rfl
  | _, _, _, .cons r t, .cons r' t' => by rw [r.inj r', Vals.inj t t']
section
variable {X : Cx} {pins : List (Addr × Obj)} {σ : St} {H : Hp} {s : Shared} {a : Addr} {xs ys : List V}
theorem SqL.of {K : PySem.W.Frag} (h : H a = some (.lst xs)) : SqL K H a xs := .inl (.inl h)
theorem SqT.of {K : PySem.W.Frag} (h : H a = some (.tup xs)) : SqT K H a xs := .inl (.inl h)
theorem Inv.list (I : Inv X pins σ H s) (h : SqL X.K H a xs) : ∃ its : List Value, Vals xs its ∧ PlainL s.heap a its.toArray ∧ xs.length ≤ sizeLine := by
  rcases h with h | ⟨o, its, n, hk, hc, hd, hs, hz, r⟩
  · obtain ⟨z, its, n, r, e⟩ := h.ok I.hok
    exact ⟨its, r, ⟨_, n, e, rfl, rfl, rfl⟩, z⟩
  · refine ⟨its.toList, r, ⟨o, n, I.kIn a o hk, hc, hd, by simpa using hs⟩, ?_⟩
    have e := r.length
    simp only [Array.length_toList] at e
    omega
theorem Inv.tuple (I : Inv X pins σ H s) (h : SqT X.K H a xs) : ∃ its : List Value, Vals xs its ∧ IsTup s.heap a its.toArray ∧ xs.length ≤ sizeLine := by
  rcases h with h | ⟨o, its, n, hk, hc, hs, hz, r⟩
  · obtain ⟨z, its, r, p, _⟩ := h.ok I.hok
    exact ⟨its, r, p, z⟩
  · refine ⟨its.toList, r, ⟨o, I.kIn a o hk, hc, n, by simpa using hs⟩, ?_⟩
    have e := r.length
    simp only [Array.length_toList] at e
    omega
end

abbrev Cx.wish (X : Cx) (E : Value → Shared → Prop) : Cx := { X with xe := E }
abbrev Cx.nox (X : Cx) : Cx := X.wish fun _ _ => False
theorem Cx.Ok.wish {X : Cx} (ok : X.Ok) (E : Value → Shared → Prop) : (X.wish E).Ok :=
  ⟨ok.mod, ok.kind, ok.glob, ok.blt, ok.above, ok.inj, ok.has, ok.cab, ok.hd, ok.frames, ok.stk, ok.exf, ok.bs, ok.bsz, ok.noex, ok.exfs, ok.funs, ok.frf⟩
theorem Cx.Ok.unwish {X : Cx} {E : Value → Shared → Prop} (ok : (X.wish E).Ok) : X.Ok :=
  ⟨ok.mod, ok.kind, ok.glob, ok.blt, ok.above, ok.inj, ok.has, ok.cab, ok.hd, ok.frames, ok.stk, ok.exf, ok.bs, ok.bsz, ok.noex, ok.exfs, ok.funs, ok.frf⟩
section
variable {X : Cx} {pins : List (Addr × Obj)} {σ : St} {H : Hp} {s : Shared} {E : Value → Shared → Prop}
theorem Inv.wish (I : Inv X pins σ H s) (E : Value → Shared → Prop) : Inv (X.wish E) pins σ H s := ⟨I.ok.wish E, I.os, I.bare, I.base, I.loc, I.cell, I.free, I.freeC, I.pin, I.hok, I.len⟩
theorem Inv.unwish (I : Inv (X.wish E) pins σ H s) : Inv X pins σ H s := ⟨I.ok.unwish, I.os, I.bare, I.base, I.loc, I.cell, I.free, I.freeC, I.pin, I.hok, I.len⟩
theorem SP.unwish {D : Ends} {f : Flow} {s' : Shared} (h : SP (X.wish E) pins D f s') : SP X pins D f s' := by
  cases f with
  | next => obtain ⟨σ', H', I, q⟩ := h; exact ⟨σ', H', I.unwish, q⟩
  | brk => obtain ⟨σ', H', I, q⟩ := h; exact ⟨σ', H', I.unwish, q⟩
  | cont => obtain ⟨σ', H', I, q⟩ := h; exact ⟨σ', H', I.unwish, q⟩
  | ret u => obtain ⟨v, σ', H', I, r, q⟩ := h; exact ⟨v, σ', H', I.unwish, r, q⟩
theorem PE.nox {e : Expr} {t : TE} (h : PE X.nox e t) : PE X e t := fun pins s σ H Q I hw =>
  wpAny_mono (h pins s σ H Q (I.wish _) hw) (fun _ _ ⟨v, H', I', r, q⟩ => ⟨v, H', I'.unwish, r, q⟩) fun _ _ z => False.elim z
theorem PT.nox {e : Expr} {t : TT} (h : PT X.nox e t) : PT X e t := fun pins s σ H Q I hw =>
  wpAny_mono (h pins s σ H Q (I.wish _) hw) (fun _ _ ⟨H', I', q⟩ => ⟨H', I'.unwish, q⟩) fun _ _ z => False.elim z
theorem PSs.nox {st : List Stmt} {t : TS} (h : PSs X.nox st t) : PSs X st t := fun pins s σ H D I hw =>
  wpAny_mono (h pins s σ H D (I.wish _) hw) (fun _ _ q => q.unwish) fun _ _ z => False.elim z
end

section
variable {X : Cx} {st : Stmt} {rest : List Stmt} {t u : TS} {e : Expr} {te : TE} {pos : Pos}
def tNext : TS := fun D σ H => D.nx σ H
def tSeq (t u : TS) : TS := fun D σ H => t { D with nx := u D } σ H
theorem pss_nil : PSs X [] tNext := fun _ _ σ H _ I h => wpAny_execs_nil ⟨σ, H, I, h⟩
theorem pss_cons (h1 : PS X st t) (h2 : PSs X rest u) : PSs X (st :: rest) (tSeq t u) := by
  intro pins s σ H D I h
  refine wpAny_execs_cons (thn (h1 pins s σ H { D with nx := u D } I h) fun f s1 q => ?_)
  cases f with
  | next =>
    obtain ⟨σ', H', I', q⟩ := q
    exact h2 pins s1 σ' H' D I' q
  | ret v => exact q
  | brk => exact q
  | cont => exact q
theorem pss_one (h1 : PS X st t) : PSs X [st] t := by
  intro pins s σ H D I h
  refine wpAny_execs_cons (thn (h1 pins s σ H D I h) fun f s1 q => ?_)
  cases f with
  | next => exact wpAny_execs_nil q
  | ret v => exact q
  | brk => exact q
  | cont => exact q
def tCont : TS := fun D σ H => D.ct σ H
theorem Inv.quiet {pins : List (Addr × Obj)} {σ : St} {H : Hp} {s : Shared} (I : Inv X pins σ H s) : interactive X.env = false := by simp [interactive, I.ok.kind]
def tDrop (te : TE) : TS := fun D σ H => te σ H fun _ H1 => D.nx σ H1
theorem ps_expr (he : PE X e te) (hs : swapsWith e none pos.line X.env = pure false := by rfl) : PS X (.Expr e pos) (tDrop te) := by
  intro pins s σ H D I h
  exact wpAny_Expr_any (thn (he pins s σ H _ I h) fun v s1 ⟨x, H1, I1, r1, q1⟩ => ⟨σ, H1, I1, q1⟩) I.quiet hs
def tRet (te : TE) : TS := fun D σ H => te σ H D.rt
theorem ps_ret (he : PE X e te) : PS X (.Return (some e) pos) (tRet te) := by
  intro pins s σ H D I h
  exact wpAny_Return_some (thn (he pins s σ H _ I h) fun v s1 ⟨x, H1, I1, r1, q1⟩ => ⟨x, σ, H1, I1, r1, q1⟩)
def tRetN : TS := fun D _ H => D.rt .non H
def tIfS (c : TT) (t u : TS) : TS := fun D σ H => c σ H fun b H1 => if b = true then t D σ H1 else u D σ H1
theorem ps_if {c : Expr} {a b : List Stmt} {tc : TT} (hc : PT X c tc) (ha : PSs X a t) (hb : PSs X b u) : PS X (.If c a b pos) (tIfS tc t u) := by
  intro pins s σ H D I h
  refine wpAny_If (thn (hc pins s σ H _ I h) fun d s1 ⟨H1, I1, q1⟩ => ?_)
  cases d with
  | true => exact ha pins s1 σ H1 D I1 q1
  | false => exact hb pins s1 σ H1 D I1 q1
def tNever : TS := fun _ _ _ => False
end

abbrev TG := V → St → Hp → (St → Hp → Prop) → Prop
abbrev TGs := List V → St → Hp → (St → Hp → Prop) → Prop
def PG (X : Cx) (target : Expr) (t : TG) : Prop :=
  ∀ (pins : List (Addr × Obj)) (s : Shared) (σ : St) (H : Hp) (v : V) (u : Value) (Q : St → Hp → Prop), Inv X pins σ H s → RelV v u → t v σ H Q →
    wpAny (model X.prog X.w) X.A (assign target X.env u) (fun _ s' => ∃ σ' H', Inv X pins σ' H' s' ∧ Q σ' H') X.xe s
abbrev TSet := V → V → V → Hp → (Hp → Prop) → Prop
section
variable {X : Cx} {pos : Pos}
def gName (i : Nat) : TG := fun v σ H Q => Q (σ.set i (some v)) H
theorem pg_name {i : Nat} {x : Str} (hN : X.N.Nodup) (hi : X.N[i]? = some x) (hx : Loc X.env.scope x) (hf : X.fn x = true ∨ X.env.scope.names.lookup x = some .local := by first | exact .inl rfl | exact .inr rfl | assumption) : PG X (.Name x pos) (gName i) := by
  intro pins s σ H v u Q I r h
  exact wpAny_assign_Name (store_ok I hN hi hx r (fun s' I' => ⟨_, H, I', h⟩) hf)
def gNil : TGs := fun vs σ H Q => vs = [] ∧ Q σ H
def gCons (t : TG) (u : TGs) : TGs := fun vs σ H Q => ∃ v r, vs = v :: r ∧ t v σ H fun σ' H' => u r σ' H' Q
def gTup (K : PySem.W.Frag) (n : Nat) (t : TGs) : TG := fun v σ H Q => ∃ a xs, v = .ref a ∧ SqT K H a xs ∧ xs.length = n ∧ t xs σ H Q
def gSub (to ti : TE) (t : TSet) : TG := fun v σ H Q => to σ H fun o H1 => ti σ H1 fun i H2 => t o i v H2 fun H3 => Q σ H3
def tAsg (te : TE) (g : TG) : TS := fun D σ H => te σ H fun x H1 => g x σ H1 D.nx
theorem ps_set {i : Nat} {x : Str} {e : Expr} {te : TE} {pos' : Pos} (hN : X.N.Nodup) (hi : X.N[i]? = some x) (hx : Loc X.env.scope x) (he : PE X e te) (hs : swapsWith e (some (.Name x pos')) pos.line X.env = pure false := by rfl) (hf : X.fn x = true ∨ X.env.scope.names.lookup x = some .local := by first | exact .inl rfl | exact .inr rfl | assumption) :
    PS X (.Assign [.Name x pos'] e pos) (tAsg te (gName i)) := by
  intro pins s σ H D I h
  refine wpAny_Assign_Name (thn (he pins s σ H _ I h) fun v s1 ⟨y, H1, I1, r1, q1⟩ => ?_) hs
  exact store_ok I1 hN hi hx r1 (fun s2 I2 => ⟨_, H1, I2, q1⟩) hf
def tPar (i j : Nat) (ta : TA) : TS := fun D σ H => ta σ H fun vs H1 => ∃ v w, vs = [v, w] ∧ D.nx ((σ.set i (some v)).set j (some w)) H1
end

section
variable {X : Cx} {pos : Pos}
end

structure It where
  go : Nat → Hp → Prop
  yld : Nat → Hp → V → Hp → Prop
  stop : Nat → Hp → Prop
def FpOk (X : Cx) (pins : List (Addr × Obj)) (H : Hp) (b : Addr) : Prop :=
  H b = none ∧ b ≠ X.env.locals ∧ b ∉ X.fs ∧ (b ∈ X.ex ∨ X.s₀.heap.objs.size ≤ b) ∧ (∀ x c, X.env.cells.lookup x = some c → c ≠ b) ∧ ∀ p ∈ X.pn ++ pins, p.1 ≠ b
theorem Inv.fpOk {X : Cx} {pins : List (Addr × Obj)} {σ : St} {H H' : Hp} {s : Shared} {b : Addr} (I : Inv X pins σ H s) (hb : s.heap.objs.size ≤ b) (hn : H' b = none) : FpOk X pins H' b := by
  refine ⟨hn, Nat.ne_of_gt (Nat.lt_of_lt_of_le I.lt hb), I.nofs hb, .inr (Nat.le_trans I.sz hb), fun x c e z => ?_, fun p hp z => ?_⟩
  · obtain ⟨v, q⟩ := I.cell x c e
    exact absurd (Nat.lt_of_lt_of_le q.lt (by rw [z]; exact hb)) (Nat.lt_irrefl _)
  · exact absurd (Nat.lt_of_lt_of_le (Heap.lt_size (I.pin p hp).1) (by rw [z]; exact hb)) (Nat.lt_irrefl _)
structure Turn (P : Program) (w : World) (K : PySem.W.Frag) (tg : Expr) (J : It) (fp : List Addr) (it : Addr) (tn : Nat → Heap → Prop) : Prop where
  mem : it ∈ fp
  obj : ∀ i h, tn i h → ∀ b ∈ fp, ∃ o, h.get? b = some o ∧ ∀ v, o.data ≠ .cell v
  keep : ∀ i h h', tn i h → (∀ b ∈ fp, ∀ o, h.get? b = some o → h'.get? b = some o) → tn i h'
  item : ∀ (X : Cx), X.prog = P → X.w = w → X.K = K → X.calm = true → ∀ (i : Nat) (pins : List (Addr × Obj)) (s : Shared) (σ : St) (H : Hp) (E : Value → Shared → Prop), Inv X pins σ H s → (∀ b ∈ fp, FpOk X pins H b) → tn i s.heap → J.go i H →
    wpAny (model P w) X.A (pyNext (.ref it)) (fun r s1 => ∃ u, r = some u ∧
      wpAny (model P w) X.A (letOwnedTupleGo tg (.ref it) u) (fun _ s2 => ∃ x H', Inv X pins σ H' s2 ∧ RelV x u ∧ J.yld i H x H' ∧ tn (i + 1) s2.heap ∧ ∀ b ∈ fp, H' b = none) E s1) E s
  done : ∀ (X : Cx), X.prog = P → X.w = w → X.K = K → X.calm = true → ∀ (i : Nat) (pins : List (Addr × Obj)) (s : Shared) (σ : St) (H : Hp) (E : Value → Shared → Prop), Inv X pins σ H s → (∀ b ∈ fp, FpOk X pins H b) → tn i s.heap → J.stop i H →
    wpAny (model P w) X.A (pyNext (.ref it)) (fun r s1 => r = none ∧ Inv X pins σ H s1) E s
  self : ∀ (A : Around) (i : Nat) (s : Shared) (Q : Value → Shared → Prop) (E : Value → Shared → Prop), tn i s.heap → Q (.ref it) s → wpAny (model P w) A (pyIter (.ref it)) Q E s
abbrev TI := St → Hp → (It → Hp → Prop) → Prop
def PIE (X : Cx) (pins : List (Addr × Obj)) (σ : St) (tg : Expr) (R : It → Hp → Prop) (itv : Value) (s2 : Shared) : Prop :=
  ∃ (it : Addr) (fp : List Addr) (tn : Nat → Heap → Prop) (J : It) (H' : Hp), itv = .ref it ∧ Inv X pins σ H' s2 ∧ Turn X.prog X.w X.K tg J fp it tn ∧ tn 0 s2.heap ∧ (∀ b ∈ fp, FpOk X pins H' b) ∧ R J H'
def PI (X : Cx) (tg iter : Expr) (wi : TI) : Prop :=
  ∀ (pins : List (Addr × Obj)) (s : Shared) (σ : St) (H : Hp) (R : It → Hp → Prop), Inv X pins σ H s → wi σ H R →
    wpAny (model X.prog X.w) X.A (eval iter X.env) (fun v s1 => wpAny (model X.prog X.w) X.A (pyIter v) (PIE X pins σ tg R) X.xe s1) X.xe s

theorem go_of {M : Model} {A : Around} {E : Value → Shared → Prop} {s : Shared} {tg : Expr} {it : Addr} {u : Value} {o : Obj} {n : String} {vs : Array Value} {Q : Unit → Shared → Prop} (ho : s.heap.get? it = some o) (hc : o.cls = .type n) (hd : o.data = .fields vs)
    (hn : ["enumerate", "zip", "dict_itemiterator", "dict_reverseitemiterator", "odict_iterator", "itertools.zip_longest", "itertools.pairwise"].contains n = false) (hQ : Q () s) : wpAny M A (letOwnedTupleGo tg (.ref it) u) Q E s := by
  unfold letOwnedTupleGo
  cases tg <;> first
    | exact wpAny_pure hQ
    | (cases u <;> first
        | exact wpAny_pure hQ
        | (refine wpAny_bind (wpAny_load ho ?_)
           rw [hc, hd]
           show wpAny M A (if (["enumerate", "zip", "dict_itemiterator", "dict_reverseitemiterator", "odict_iterator", "itertools.zip_longest", "itertools.pairwise"].contains n && vs[0]? == some (rawInt _)) = true then _ else _) Q E s
           rw [if_neg (by intro h; rw [hn, Bool.false_and] at h; cases h)]
           exact wpAny_pure hQ))

def Itl (K : PySem.W.Frag) (a : Addr) : It :=
  ⟨fun i H => ∃ xs x, SqL K H a xs ∧ xs[i]? = some x, fun i H x H' => H' = H ∧ ∀ xs, SqL K H a xs → xs[i]? = some x, fun i H => ∃ xs, SqL K H a xs ∧ xs.length ≤ i⟩
def Itt (K : PySem.W.Frag) (a : Addr) : It :=
  ⟨fun i H => ∃ xs x, SqT K H a xs ∧ xs[i]? = some x, fun i H x H' => H' = H ∧ ∀ xs, SqT K H a xs → xs[i]? = some x, fun i H => ∃ xs, SqT K H a xs ∧ xs.length ≤ i⟩
def Itr (lo : Int) (n : Nat) : It := ⟨fun i _ => i < n, fun i H x H' => H' = H ∧ x = .int (lo + i), fun i _ => n ≤ i⟩
theorem turn_range {P : Program} {w : World} {K : PySem.W.Frag} {tg : Expr} (it : Addr) (lo : Int) (n : Nat) : Turn P w K tg (Itr lo n) [it] it (fun i h => IsRangeIter h it (lo + (i : Nat) * 1) ((n : Int) - (i : Nat)) 1) where
  mem := by simp
  obj := fun i h st b hb => by
    have e : b = it := by simpa using hb
    subst e
    exact ⟨_, st, fun v z => by
      have z' : Data.fields _ = Data.cell v := z
      cases z'⟩
  keep := fun i h h' st k => k it (by simp) _ st
  item := by
    intro X hP hw hK hc i pins s σ H E I hf st hg
    subst hP hw hK
    obtain ⟨f0, f1, f2, f3, f4, f5⟩ := hf it (by simp)
    have W := Walks.range (prog := X.prog) (w := X.w) (I.ok.hd hc) it lo 1 n
    refine W.item i s _ _ hg st fun v h' tk hv st' kk => ?_
    obtain ⟨t, rfl⟩ := hv
    have I1 : Inv X pins σ H { s with heap := h', toks := tk } := I.turned (fun b o hb e => kk b o (by simpa using hb) e) f0 f1 f3 f4 f5
    refine ⟨_, rfl, go_of (s := { s with heap := h', toks := tk }) (n := "range_iterator") st' rfl rfl (by decide) ⟨.int (lo + i), H, I1, ⟨t, ?_⟩, ⟨rfl, rfl⟩, st', fun b hb => (hf b hb).1⟩⟩
    rw [Int.mul_one]
  done := by
    intro X hP hw hK hc i pins s σ H E I hf st hg
    subst hP hw hK
    obtain ⟨f0, f1, f2, f3, f4, f5⟩ := hf it (by simp)
    exact wpAny_pyNext_range_end (I.ok.hd hc) st (by have : n ≤ i := hg; omega) fun h' eb => ⟨rfl, I.turned (t' := s.toks) (fun b o hb e => eb b o hb e) f0 f1 f3 f4 f5⟩
  self := fun _ _ _ _ _ st h => wpAny_pyIter_rangeiter st h
end L2

namespace L2
open PySem PySem.Spec PyProof.Rows
section
variable {X : Cx} {tg : Expr}
def iList (K : PySem.W.Frag) (tl : TE) : TI := fun σ H R => tl σ H fun x H1 => ∃ a, x = .ref a ∧ (∃ xs, SqL K H1 a xs) ∧ R (Itl K a) H1
def iTup (K : PySem.W.Frag) (tl : TE) : TI := fun σ H R => tl σ H fun x H1 => ∃ a, x = .ref a ∧ (∃ xs, SqT K H1 a xs) ∧ R (Itt K a) H1
theorem range_it {pins : List (Addr × Obj)} {σ : St} {H : Hp} {s : Shared} {R : It → Hp → Prop} {E : Value → Shared → Prop} {lo hi : Int} {t u v : Tok} {tk : Nat} (I : Inv X pins σ H s) (h1 : -(2 ^ 62) ≤ lo) (h2 : lo < 2 ^ 62) (h3 : -(2 ^ 62) ≤ hi) (h4 : hi < 2 ^ 62)
    (q : R (Itr lo (hi - lo).toNat) H) : wpAny (model X.prog X.w) X.A (pyIter (.ref s.heap.objs.size)) (PIE X pins σ tg R) E { s with heap := s.heap.push { cls := .type "range", data := .fields #[.int lo t, .int hi u, .int 1 v] }, toks := tk } := by
  refine wpAny_pyIter_range (IsRange.new ..) (small_one h1 h2 h3 h4) ?_
  have I1 : Inv X pins σ H { s with heap := s.heap.push { cls := .type "range", data := .fields #[.int lo t, .int hi u, .int 1 v] }, toks := tk } := I.kept fun b o e => Heap.get?_push_of_some _ e
  refine ⟨(s.heap.push { cls := .type "range", data := .fields #[.int lo t, .int hi u, .int 1 v] }).objs.size, [(s.heap.push { cls := .type "range", data := .fields #[.int lo t, .int hi u, .int 1 v] }).objs.size], _, _, H, rfl,
    I1.kept (t' := tk) fun b o e => Heap.get?_push_of_some _ e, turn_range _ lo (hi - lo).toNat, ?_, fun b hb => ?_, q⟩
  · have e1 : lo + ((0 : Nat) : Int) * 1 = lo := by simp
    have e2 : (((hi - lo).toNat : Nat) : Int) - ((0 : Nat) : Int) = Builtin.Range.rangeSize lo hi 1 := by rw [rangeSize_one]; split <;> omega
    show IsRangeIter _ _ (lo + ((0 : Nat) : Int) * 1) ((((hi - lo).toNat : Nat) : Int) - ((0 : Nat) : Int)) 1
    rw [e1, e2]
    exact Heap.get?_push_size _ rfl
  · have e : b = (s.heap.push { cls := .type "range", data := .fields #[.int lo t, .int hi u, .int 1 v] }).objs.size := by simpa using hb
    subst e
    exact I1.fpOk (Nat.le_refl _) (I1.hok.fresh (Nat.le_refl _))
def iRng1 (ta : TA) : TI := fun σ H R => ta σ H fun vs H1 => ∃ j : Int, vs = [.int j] ∧ -(2 ^ 62) ≤ j ∧ j < 2 ^ 62 ∧ R (Itr 0 j.toNat) H1
def iRng2 (ta : TA) : TI := fun σ H R => ta σ H fun vs H1 => ∃ i j : Int, vs = [.int i, .int j] ∧ (-(2 ^ 62) ≤ i ∧ i < 2 ^ 62 ∧ -(2 ^ 62) ≤ j ∧ j < 2 ^ 62) ∧ R (Itr i (j - i).toNat) H1
theorem pi_range1 {a : Expr} {ta : TA} {p pos : Pos} (hg : Gl X "range") (hm : X.mg "range" = none) (ha : PA X [a] ta) (hs : starEach [a] X.env = [(false, eval a X.env)] := by rfl) : PI X tg (.Call (.Name "range" p) [a] [] pos) (iRng1 ta) := by
  intro pins s σ H R I h
  refine Call_ (ld_blt I hg hm boot_range (PyProof.Rows.callWith_type1 (thn (ha pos pins s σ H _ I h) fun us s1 ⟨vs, H1, I1, r1, q1⟩ => ?_) hs rfl))
  obtain ⟨j, e, q1, q2, q⟩ := q1
  subst e
  cases r1 with
  | cons r rr =>
    cases rr
    obtain ⟨t, rfl⟩ := r
    exact call_range_1 (range_it I1 (by omega) (by omega) q1 q2 (by simpa using q))
theorem pi_range2 {a b : Expr} {ta : TA} {p pos : Pos} (hg : Gl X "range") (hm : X.mg "range" = none) (ha : PA X [a, b] ta) (hs : starEach [a, b] X.env = [(false, eval a X.env), (false, eval b X.env)] := by rfl) (hs2 : starEach [b] X.env = [(false, eval b X.env)] := by rfl) :
    PI X tg (.Call (.Name "range" p) [a, b] [] pos) (iRng2 ta) := by
  intro pins s σ H R I h
  refine Call_ (ld_blt I hg hm boot_range (PyProof.Rows.callWith_type1 (thn (ha pos pins s σ H _ I h) fun us s1 ⟨vs, H1, I1, r1, q1⟩ => ?_) (by rw [hs, hs2]) (by rw [hs2]; rfl)))
  obtain ⟨i, j, e, ⟨q1, q2, q3, q4⟩, q⟩ := q1
  subst e
  cases r1 with
  | cons r rr =>
    cases rr with
    | cons r' rr =>
      cases rr
      obtain ⟨t, rfl⟩ := r
      obtain ⟨t', rfl⟩ := r'
      exact call_range_2 (range_it I1 q1 q2 q3 q4 q)

def tFor (wi : TI) (g : TG) (tb : TS) : TS := fun D σ H => wi σ H fun J H1 => ∃ W : Nat → Nat → St → Hp → Prop, (∃ m, W 0 m σ H1) ∧ ∀ i m σ H, W i m σ H →
  (J.stop i H ∧ D.nx σ H) ∨ (J.go i H ∧ ∃ N : St → Hp → Prop, (∀ σ' H', N σ' H' → ∃ m', m' < m ∧ W (i + 1) m' σ' H') ∧ ∀ x H', J.yld i H x H' → g x σ H' fun σ2 H2 => tb { D with nx := N, ct := N, bk := D.nx } σ2 H2)
def pinsAt (fp : List Addr) (h : Heap) : List (Addr × Obj) := fp.filterMap fun b => (h.get? b).map fun o => (b, o)
theorem mem_pinsAt {fp : List Addr} {h : Heap} {b : Addr} {o : Obj} (hb : b ∈ fp) (e : h.get? b = some o) : (b, o) ∈ pinsAt fp h := List.mem_filterMap.mpr ⟨b, hb, by rw [e]; rfl⟩
theorem of_pinsAt {fp : List Addr} {h : Heap} {p : Addr × Obj} (hp : p ∈ pinsAt fp h) : p.1 ∈ fp ∧ h.get? p.1 = some p.2 := by
  obtain ⟨b, hb, e⟩ := List.mem_filterMap.mp hp
  cases q : h.get? b with
  | none => rw [q] at e; cases e
  | some o =>
    rw [q] at e
    have e' : (b, o) = p := Option.some.inj e
    subst e'
    exact ⟨hb, q⟩
theorem Inv.pinned {pins : List (Addr × Obj)} {σ : St} {H : Hp} {s : Shared} {fp : List Addr} (I : Inv X pins σ H s) (hf : ∀ b ∈ fp, FpOk X pins H b) (ho : ∀ b ∈ fp, ∃ o, s.heap.get? b = some o ∧ ∀ v, o.data ≠ .cell v) : Inv X (pins ++ pinsAt fp s.heap) σ H s :=
  I.pins_of fun p hp => (List.mem_append.mp hp).elim (fun z => I.pin p (List.mem_append_right _ z)) fun z => by
    obtain ⟨hb, e⟩ := of_pinsAt z
    obtain ⟨f0, f1, f2, _⟩ := hf p.1 hb
    obtain ⟨o, e', d⟩ := ho p.1 hb
    rw [e] at e'; cases e'
    exact ⟨e, f0, f1, f2, d⟩
theorem Inv.unpinned {pins pl : List (Addr × Obj)} {σ : St} {H : Hp} {s : Shared} (I : Inv X (pins ++ pl) σ H s) : Inv X pins σ H s := I.pins_of fun p hp => I.pin p (List.mem_append_right _ (List.mem_append_left _ hp))
theorem ps_for {iter : Expr} {body : List Stmt} {wi : TI} {g : TG} {tb : TS} {pos : Pos} (hp : PassesOwn (model X.prog X.w) X.A X.env X.xe) (hc : X.calm = true) (hi : PI X tg iter wi) (hg : PG X tg g) (hb : PSs X body tb)
    (hs : ∀ x, foldedSetIterable iter X.env x = pure x := by intro _; rfl) : PS X (.For tg iter body [] pos) (tFor wi g tb) := by
  intro pins s σ H D I h
  refine wpAny_For (thn (hi pins s σ H _ I h) fun v s1 h1 => thn h1 fun itv s2 h2 => ?_) hs
  obtain ⟨it, fp, tn, J, H2, e, I2, T, st2, f2, W, ⟨m0, w0⟩, turn⟩ := h2
  subst e
  -- what stays true of the iterator's objects through the loop
  have stat : ∀ {H' : Hp}, (∀ b ∈ fp, H' b = none) → ∀ b ∈ fp, FpOk X pins H' b := fun hn b hb => ⟨hn b hb, (f2 b hb).2⟩
  refine codeAny_forLoop_any (fun n s' => ∃ i σ' H', Inv X pins σ' H' s' ∧ tn i s'.heap ∧ (∀ b ∈ fp, H' b = none) ∧ W i n σ' H') ?_ m0 ⟨0, σ, H2, I2, st2, fun b hb => (f2 b hb).1, w0⟩
  rintro n s3 ⟨i, σ3, H3, I3, st3, fr3, w3⟩
  rcases turn i n σ3 H3 w3 with ⟨stop, qn⟩ | ⟨go, N, hN, step⟩
  · refine wpAny_passesOwn hp (thn (T.done X rfl rfl rfl hc i pins s3 σ3 H3 X.xe I3 (stat fr3) st3 stop) fun r s4 ⟨hr, I4⟩ => ?_)
    subst hr
    exact wpAny_execs_nil ⟨σ3, H3, I4, qn⟩
  · refine wpAny_passesOwn hp (thn (T.item X rfl rfl rfl hc i pins s3 σ3 H3 X.xe I3 (stat fr3) st3 go) fun r s4 ⟨u, hr, h4⟩ => ?_)
    subst hr
    refine wpAny_passesOwn hp (thn h4 fun _ s5 ⟨x, H5, I5, r5, y5, st5, fr5⟩ => ?_)
    have I5' := I5.pinned (stat fr5) (T.obj _ _ st5)
    refine wpAny_passesOwn hp (thn (hg _ s5 σ3 H5 x u _ I5' r5 (step x H5 y5)) fun _ s6 ⟨σ6, H6, I6, q6⟩ => ?_)
    refine wpAny_passesOwn hp (thn (hb _ s6 σ6 H6 _ I6 q6) fun f s7 q7 => ?_)
    have again : ∀ {σ7 : St} {H7 : Hp}, Inv X (pins ++ pinsAt fp s5.heap) σ7 H7 s7 → N σ7 H7 → ∃ m, m < n ∧ ∃ i σ' H', Inv X pins σ' H' s7 ∧ tn i s7.heap ∧ (∀ b ∈ fp, H' b = none) ∧ W i m σ' H' := fun {σ7 H7} I7 n7 => by
      obtain ⟨m', hm, w7⟩ := hN σ7 H7 n7
      refine ⟨m', hm, i + 1, σ7, H7, I7.unpinned, T.keep _ _ _ st5 fun b hb o e => (I7.pin (b, o) (List.mem_append_right _ (List.mem_append_right _ (mem_pinsAt hb e)))).1, fun b hb => ?_, w7⟩
      obtain ⟨o, e, d⟩ := T.obj _ _ st5 b hb
      exact (I7.pin (b, o) (List.mem_append_right _ (List.mem_append_right _ (mem_pinsAt hb e)))).2.1
    cases f with
    | next => obtain ⟨σ7, H7, I7, n7⟩ := q7; exact again I7 n7
    | cont => obtain ⟨σ7, H7, I7, n7⟩ := q7; exact again I7 n7
    | brk => obtain ⟨σ7, H7, I7, q7⟩ := q7; exact ⟨σ7, H7, I7.unpinned, q7⟩
    | ret v => obtain ⟨x7, σ7, H7, I7, r7, q7⟩ := q7; exact ⟨x7, σ7, H7, I7.unpinned, r7, q7⟩
end

theorem for_range {lo : Int} {n : Nat} {g : TG} {tb : TS} {D : Ends} {σ : St} {H : Hp} (Pv : Nat → St → Hp → Prop) (h0 : Pv 0 σ H)
    (hs : ∀ i σ H, i < n → Pv i σ H → g (.int (lo + i)) σ H fun σ2 H2 => tb { D with nx := Pv (i + 1), ct := Pv (i + 1), bk := D.nx } σ2 H2) (hd : ∀ σ H, Pv n σ H → D.nx σ H) :
    ∃ W : Nat → Nat → St → Hp → Prop, (∃ m, W 0 m σ H) ∧ ∀ i m σ H, W i m σ H →
      ((Itr lo n).stop i H ∧ D.nx σ H) ∨ ((Itr lo n).go i H ∧ ∃ N : St → Hp → Prop, (∀ σ' H', N σ' H' → ∃ m', m' < m ∧ W (i + 1) m' σ' H') ∧ ∀ x H', (Itr lo n).yld i H x H' → g x σ H' fun σ2 H2 => tb { D with nx := N, ct := N, bk := D.nx } σ2 H2) := by
  refine ⟨fun i m σ H => m = n - i ∧ i ≤ n ∧ Pv i σ H, ⟨n, by simp, Nat.zero_le _, h0⟩, ?_⟩
  rintro i m σ H ⟨rfl, hi, p⟩
  by_cases hlt : i < n
  · refine .inr ⟨hlt, Pv (i + 1), fun σ' H' p' => ⟨n - (i + 1), by omega, rfl, hlt, p'⟩, fun x H' y => ?_⟩
    obtain ⟨e, y⟩ := y
    subst e y
    exact hs i σ _ hlt p
  · have e : i = n := by omega
    subst e
    exact .inl ⟨Nat.le_refl _, hd σ H p⟩
end L2

namespace L2
open PySem PySem.Spec PyProof.Rows

abbrev R2 := V → V → Hp → VK → Prop
def OpR (X : Cx) (f : Value → Value → Sem Value) (r : R2) : Prop :=
  ∀ (pins : List (Addr × Obj)) (s : Shared) (σ : St) (H : Hp) (x y : V) (v u : Value) (Q : VK), Inv X pins σ H s → RelV x v → RelV y u → r x y H Q →
    wpAny (model X.prog X.w) X.A (f v u) (EP X pins σ Q) X.xe s
def CallR (X : Cx) (f : Value) (r : List V → Hp → VK → Prop) : Prop :=
  ∀ (pins : List (Addr × Obj)) (s : Shared) (σ : St) (H : Hp) (xs : List V) (us : List Value) (Q : VK), Inv X pins σ H s → Vals xs us → r xs H Q →
    wpAny (model X.prog X.w) X.A (call f us) (EP X pins σ Q) X.xe s
def tOp (r : R2) (ta tb : TE) : TE := fun σ H Q => ta σ H fun x H1 => tb σ H1 fun y H2 => r x y H2 Q
def tUn (r : V → Hp → VK → Prop) (ta : TE) : TE := fun σ H Q => ta σ H fun x H1 => r x H1 Q
def rI (C : Int → Int → Prop) (g : Int → Int → V) : R2 := fun x y H Q => ∃ i j, x = .int i ∧ y = .int j ∧ C i j ∧ Q (g i j) H
def rI0 (g : Int → Int → V) : R2 := fun x y H Q => ∃ i j, x = .int i ∧ y = .int j ∧ Q (g i j) H
def rU (g : Int → V) : V → Hp → VK → Prop := fun x H Q => ∃ i, x = .int i ∧ Q (g i) H

section
variable {X : Cx} {a b c : Expr} {ta tb tc : TE} {pos : Pos}

theorem binT (ha : PE X a ta) (hb : PE X b tb) {pins : List (Addr × Obj)} {s : Shared} {σ : St} {H : Hp} {R : V → V → Hp → Prop} (I : Inv X pins σ H s)
    (h : ta σ H fun x H1 => tb σ H1 fun y H2 => R x y H2) {Q : Value → Shared → Prop} {f : Value → Value → Sem Value}
    (hf : ∀ v u s2 x y H2, Inv X pins σ H2 s2 → RelV x v → RelV y u → R x y H2 → wpAny (model X.prog X.w) X.A (f v u) Q X.xe s2) :
    wpAny (model X.prog X.w) X.A (eval a X.env) (fun v s₁ => wpAny (model X.prog X.w) X.A (eval b X.env) (fun u s₂ => wpAny (model X.prog X.w) X.A (f v u) Q X.xe s₂) X.xe s₁) X.xe s := by
  refine thn (ha pins s σ H _ I h) fun v s1 ⟨x, H1, I1, r1, q1⟩ => ?_
  refine thn (hb pins s1 σ H1 _ I1 q1) fun u s2 ⟨y, H2, I2, r2, q2⟩ => ?_
  exact hf v u s2 x y H2 I2 r1 r2 q2

theorem pe_op {op : Operator} {r : R2} (ho : OpR X (binaryOp op) r) (ha : PE X a ta) (hb : PE X b tb) : PE X (.BinOp a op b pos) (tOp r ta tb) := by
  intro pins s σ H Q I h
  exact wpAny_BinOp (binT ha hb I h fun v u s2 x y H2 I2 rx ry q => ho pins s2 σ H2 x y v u Q I2 rx ry q)
theorem opI {f : Value → Value → Sem Value} {C : Int → Int → Prop} {g : Int → Int → Int}
    (rule : ∀ (i j : Int) (t u : Tok) (s : Shared) (Q : Value → Shared → Prop) (E : Value → Shared → Prop), C i j → Q (.int (g i j) s.toks) { s with toks := s.toks + 1 } → wpAny (model X.prog X.w) X.A (f (.int i t) (.int j u)) Q E s) :
    OpR X f (rI C fun i j => .int (g i j)) := by
  intro pins s σ H x y v u Q I rx ry h
  obtain ⟨i, j, rfl, rfl, hc, q⟩ := h
  obtain ⟨t, rfl⟩ := rx
  obtain ⟨t', rfl⟩ := ry
  exact rule i j t t' s _ _ hc ⟨.int (g i j), H, I.tok _, ⟨_, rfl⟩, q⟩
theorem opI0 {f : Value → Value → Sem Value} {g : Int → Int → Int}
    (rule : ∀ (i j : Int) (t u : Tok) (s : Shared) (Q : Value → Shared → Prop) (E : Value → Shared → Prop), Q (.int (g i j) s.toks) { s with toks := s.toks + 1 } → wpAny (model X.prog X.w) X.A (f (.int i t) (.int j u)) Q E s) :
    OpR X f (rI0 fun i j => .int (g i j)) := by
  intro pins s σ H x y v u Q I rx ry h
  obtain ⟨i, j, rfl, rfl, q⟩ := h
  obtain ⟨t, rfl⟩ := rx
  obtain ⟨t', rfl⟩ := ry
  exact rule i j t t' s _ _ ⟨.int (g i j), H, I.tok _, ⟨_, rfl⟩, q⟩
theorem opB0 {f : Value → Value → Sem Value} {g : Int → Int → Bool}
    (rule : ∀ (i j : Int) (t u : Tok) (s : Shared) (Q : Value → Shared → Prop) (E : Value → Shared → Prop), Q (.bool (g i j)) s → wpAny (model X.prog X.w) X.A (f (.int i t) (.int j u)) Q E s) :
    OpR X f (rI0 fun i j => .bl (g i j)) := by
  intro pins s σ H x y v u Q I rx ry h
  obtain ⟨i, j, rfl, rfl, q⟩ := h
  obtain ⟨t, rfl⟩ := rx
  obtain ⟨t', rfl⟩ := ry
  exact rule i j t t' s _ _ ⟨.bl (g i j), H, I, rfl, q⟩

def CPow (i j : Int) : Prop := 0 ≤ j ∧ j ≤ 1000000 ∧ i.natAbs < 2 ^ 64
theorem op_add : OpR X (binaryOp .Add) (rI0 fun i j => .int (i + j)) := opI0 fun _ _ _ _ _ _ _ q => add_int q
theorem op_sub : OpR X (binaryOp .Sub) (rI0 fun i j => .int (i - j)) := opI0 fun _ _ _ _ _ _ _ q => sub_int q
theorem op_mod : OpR X (binaryOp .Mod) (rI (fun _ j => 0 < j) fun i j => .int (i % j)) := opI fun i j _ _ _ _ _ hc q => by
  have h1 : (0 : Int) < j := hc
  exact mod_int' (by omega) (by rw [Int.fmod_eq_emod_of_nonneg i (by omega)]; exact q)
theorem op_pow : OpR X (binaryOp .Pow) (rI CPow fun i j => .int (i ^ j.toNat)) := opI fun _ _ _ _ _ _ _ hc q => pow_int_small hc.1 hc.2.1 hc.2.2 q
end

def scal : V → V → Bool
  | .non, .non => true | .non, .int _ => true | .int _, .non => true | .non, .bl _ => true | .bl _, .non => true | .non, .str _ => true | .str _, .non => true
  | .int _, .int _ => true | .bl _, .bl _ => true | .str _, .str _ => true | .byt _, .byt _ => true
  | .int _, .str _ => true | .str _, .int _ => true | .bl _, .str _ => true | .str _, .bl _ => true
  | _, _ => false
def rEq : R2 := fun x y H Q => scal x y = true ∧ Q (.bl (decide (x = y))) H
def rNe : R2 := fun x y H Q => scal x y = true ∧ Q (.bl (!decide (x = y))) H

theorem dec_int {i j : Int} : decide (V.int i = V.int j) = (i == j) := by
  rw [Bool.eq_iff_iff]
  simp
theorem dec_bl {i j : Bool} : decide (V.bl i = V.bl j) = (i == j) := by
  rw [Bool.eq_iff_iff]
  simp
theorem dec_str {i j : Str} : decide (V.str i = V.str j) = (i == j) := by
  rw [Bool.eq_iff_iff]
  simp
theorem dec_byt {i j : Array UInt8} : decide (V.byt i = V.byt j) = (i.toList == j.toList) := by
  rw [Bool.eq_iff_iff]
  cases i
  cases j
  simp

section
variable {X : Cx} {a b c : Expr} {ta tb tc : TE} {pos : Pos}
theorem fin_bl {pins : List (Addr × Obj)} {σ : St} {H : Hp} {s : Shared} {Q : VK} {k k' : Bool} (I : Inv X pins σ H s) (q : Q (.bl k) H) (e : k = k') : EP X pins σ Q (.bool k') s := by
  subst e
  exact ⟨.bl k, H, I, rfl, q⟩
theorem op_eq : OpR X (compareOp .Eq) rEq := by
  intro pins s σ H x y v u Q I rx ry h
  obtain ⟨hs, q⟩ := h
  cases x with
  | non =>
    cases rx
    cases y with
    | non => cases ry; exact PySem.EqNone.eq_none_none (fin_bl I q (by simp))
    | bl j => cases ry; exact PySem.EqNone.eq_none_bool (fin_bl I q (by simp))
    | int j => obtain ⟨t', rfl⟩ := ry; exact PySem.EqNone.eq_none_int (fin_bl I q (by simp))
    | str j => obtain ⟨t', rfl⟩ := ry; exact PySem.EqNone.eq_none_str (fin_bl I q (by simp))
    | _ => exact absurd (show false = true from hs) Bool.false_ne_true
  | bl i =>
    cases rx
    cases y with
    | non => cases ry; exact PySem.EqNone.eq_bool_none (fin_bl I q (by simp))
    | bl j => cases ry; exact eq_bool (fin_bl I q dec_bl)
    | str j => obtain ⟨t', rfl⟩ := ry; exact PySem.EqMixed.eq_bool_str (fin_bl I q (by simp))
    | _ => exact absurd (show false = true from hs) Bool.false_ne_true
  | int i =>
    obtain ⟨t, rfl⟩ := rx
    cases y with
    | non => cases ry; exact PySem.EqNone.eq_int_none (fin_bl I q (by simp))
    | int j => obtain ⟨t', rfl⟩ := ry; exact eq_int (fin_bl I q dec_int)
    | str j => obtain ⟨t', rfl⟩ := ry; exact PySem.EqMixed.eq_int_str (fin_bl I q (by simp))
    | _ => exact absurd (show false = true from hs) Bool.false_ne_true
  | str i =>
    obtain ⟨t, rfl⟩ := rx
    cases y with
    | non => cases ry; exact PySem.EqNone.eq_str_none (fin_bl I q (by simp))
    | bl j => cases ry; exact PySem.EqMixed.eq_str_bool (fin_bl I q (by simp))
    | int j => obtain ⟨t', rfl⟩ := ry; exact PySem.EqMixed.eq_str_int (fin_bl I q (by simp))
    | str j => obtain ⟨t', rfl⟩ := ry; exact eq_str (fin_bl I q dec_str)
    | _ => exact absurd (show false = true from hs) Bool.false_ne_true
  | byt i =>
    obtain ⟨t, rfl⟩ := rx
    cases y with
    | byt j => obtain ⟨t', rfl⟩ := ry; exact PySem.W.eq_bytes (fin_bl I q dec_byt)
    | _ => exact absurd (show false = true from hs) Bool.false_ne_true
  | _ => cases y <;> exact absurd (show false = true from hs) Bool.false_ne_true
theorem op_ne : OpR X (compareOp .NotEq) rNe := by
  intro pins s σ H x y v u Q I rx ry h
  obtain ⟨hs, q⟩ := h
  cases x with
  | non =>
    cases rx
    cases y with
    | non => cases ry; exact PySem.EqNone.ne_none_none (fin_bl I q (by simp))
    | bl j => cases ry; exact PySem.EqNone.ne_none_bool (fin_bl I q (by simp))
    | int j => obtain ⟨t', rfl⟩ := ry; exact PySem.EqNone.ne_none_int (fin_bl I q (by simp))
    | str j => obtain ⟨t', rfl⟩ := ry; exact PySem.EqNone.ne_none_str (fin_bl I q (by simp))
    | _ => exact absurd (show false = true from hs) Bool.false_ne_true
  | bl i =>
    cases rx
    cases y with
    | non => cases ry; exact PySem.EqNone.ne_bool_none (fin_bl I q (by simp))
    | bl j => cases ry; exact ne_bool (fin_bl I q (congrArg not dec_bl))
    | str j => obtain ⟨t', rfl⟩ := ry; exact PySem.EqMixed.ne_bool_str (fin_bl I q (by simp))
    | _ => exact absurd (show false = true from hs) Bool.false_ne_true
  | int i =>
    obtain ⟨t, rfl⟩ := rx
    cases y with
    | non => cases ry; exact PySem.EqNone.ne_int_none (fin_bl I q (by simp))
    | int j => obtain ⟨t', rfl⟩ := ry; exact ne_int (fin_bl I q (congrArg not dec_int))
    | str j => obtain ⟨t', rfl⟩ := ry; exact PySem.EqMixed.ne_int_str (fin_bl I q (by simp))
    | _ => exact absurd (show false = true from hs) Bool.false_ne_true
  | str i =>
    obtain ⟨t, rfl⟩ := rx
    cases y with
    | non => cases ry; exact PySem.EqNone.ne_str_none (fin_bl I q (by simp))
    | bl j => cases ry; exact PySem.EqMixed.ne_str_bool (fin_bl I q (by simp))
    | int j => obtain ⟨t', rfl⟩ := ry; exact PySem.EqMixed.ne_str_int (fin_bl I q (by simp))
    | str j => obtain ⟨t', rfl⟩ := ry; exact ne_str (fin_bl I q (congrArg not dec_str))
    | _ => exact absurd (show false = true from hs) Bool.false_ne_true
  | byt i =>
    obtain ⟨t, rfl⟩ := rx
    cases y with
    | byt j => obtain ⟨t', rfl⟩ := ry; exact PySem.W.ne_bytes (fin_bl I q (congrArg not dec_byt))
    | _ => exact absurd (show false = true from hs) Bool.false_ne_true
  | _ => cases y <;> exact absurd (show false = true from hs) Bool.false_ne_true

theorem op_lt : OpR X (compareOp .Lt) (rI0 fun i j => .bl (decide (i < j))) := opB0 fun _ _ _ _ _ _ _ q => lt_int q
theorem op_le : OpR X (compareOp .LtE) (rI0 fun i j => .bl (decide (i ≤ j))) := opB0 fun _ _ _ _ _ _ _ q => le_int q
theorem op_gt : OpR X (compareOp .Gt) (rI0 fun i j => .bl (decide (j < i))) := opB0 fun _ _ _ _ _ _ _ q => gt_int q
theorem nomark (b : Expr) {op : CmpOp} (h : op ≠ .In := by decide) (h2 : op ≠ .NotIn := by decide) : behindInMarks op b = false := by
  have e1 : (op == CmpOp.In) = false := by cases op <;> first | rfl | exact absurd rfl h
  have e2 : (op == CmpOp.NotIn) = false := by cases op <;> first | rfl | exact absurd rfl h2
  cases b <;> simp [behindInMarks, e1, e2]
theorem pe_cmpR {op : CmpOp} {r : R2} (ho : OpR X (compareOp op) r) (ha : PE X a ta) (hb : PE X b tb) (hm : behindInMarks op b = false) : PE X (.Compare a [op] [b] pos) (tOp r ta tb) := by
  intro pins s σ H Q I h
  exact wpAny_Compare1 (binT ha hb I h fun v u s2 x y H2 I2 rx ry q => ho pins s2 σ H2 x y v u Q I2 rx ry q) hm
def tTest (t : TE) : TT := fun σ H Q => t σ H fun x H' => ∃ k, x = .bl k ∧ Q k H'
theorem pt_cmpR {op : CmpOp} {r : R2} (ho : OpR X (compareOp op) r) (ha : PE X a ta) (hb : PE X b tb) (hm : behindInMarks op b = false) : PT X (.Compare a [op] [b] pos) (tTest (tOp r ta tb)) := by
  intro pins s σ H Q I h
  refine wpAny_isTrue_Compare1 (thn (ha pins s σ H _ I h) fun v s1 ⟨x, H1, I1, r1, q1⟩ => thn (hb pins s1 σ H1 _ I1 q1) fun u s2 ⟨y, H2, I2, r2, q2⟩ =>
    thn (ho pins s2 σ H2 x y v u _ I2 r1 r2 q2) fun c s3 ⟨z, H3, I3, r3, k, e, q3⟩ => ?_) hm
  subst e
  cases r3
  exact wpAny_truthy_bool ⟨H3, I3, q3⟩
def tChain (r r' : R2) (ta tb tc : TE) : TE := fun σ H Q => ta σ H fun x H1 => tb σ H1 fun y H2 => r x y H2 fun z H3 => ∃ k, z = .bl k ∧
  (if k = true then tc σ H3 fun w' H4 => r' y w' H4 Q else Q (.bl false) H3)
theorem pe_chain {op op' : CmpOp} {r r' : R2} (ho : OpR X (compareOp op) r) (ho' : OpR X (compareOp op') r') (ha : PE X a ta) (hb : PE X b tb) (hc : PE X c tc)
    (hm : lastMarks [op, op'] [b, c] = false := by with_unfolding_all rfl) : PE X (.Compare a [op, op'] [b, c] pos) (tChain r r' ta tb tc) := by
  intro pins s σ H Q I h
  refine Compare_chain (thn (ha pins s σ H _ I h) fun v s1 ⟨x, H1, I1, r1, q1⟩ => chain_link (thn (hb pins s1 σ H1 _ I1 q1) fun u s2 ⟨y, H2, I2, r2, q2⟩ =>
    thn (ho pins s2 σ H2 x y v u _ I2 r1 r2 q2) fun d s3 ⟨z, H3, I3, r3, k, e, q3⟩ => ?_)) hm
  subst e
  cases r3
  refine wpAny_truthy_bool ?_
  cases k with
  | false => exact ite_ff ⟨.bl false, H3, I3, rfl, q3⟩
  | true => exact ite_tt (chain_last (thn (hc pins s3 σ H3 _ I3 q3) fun w' s4 ⟨z', H4, I4, r4, q4⟩ => ho' pins s4 σ H4 y z' u w' Q I4 r2 r4 q4))
theorem pt_chain {op op' : CmpOp} {r r' : R2} (ho : OpR X (compareOp op) r) (ho' : OpR X (compareOp op') r') (ha : PE X a ta) (hb : PE X b tb) (hc : PE X c tc)
    (hm : lastMarks [op, op'] [b, c] = false := by with_unfolding_all rfl) : PT X (.Compare a [op, op'] [b, c] pos) (tTest (tChain r r' ta tb tc)) := by
  intro pins s σ H Q I h
  refine isTrue_chain (thn (ha pins s σ H _ I h) fun v s1 ⟨x, H1, I1, r1, q1⟩ => test_link (thn (hb pins s1 σ H1 _ I1 q1) fun u s2 ⟨y, H2, I2, r2, q2⟩ =>
    thn (ho pins s2 σ H2 x y v u _ I2 r1 r2 q2) fun d s3 ⟨z, H3, I3, r3, k, e, q3⟩ => ?_)) hm
  subst e
  cases r3
  refine wpAny_truthy_bool ?_
  cases k with
  | false =>
    obtain ⟨k', e', q'⟩ := q3
    cases e'
    exact ite_ff ⟨H3, I3, q'⟩
  | true =>
    refine ite_tt (test_last (thn (hc pins s3 σ H3 _ I3 q3) fun w' s4 ⟨z', H4, I4, r4, q4⟩ => thn (ho' pins s4 σ H4 y z' u w' _ I4 r2 r4 q4) fun d' s5 ⟨z2, H5, I5, r5, k2, e2, q5⟩ => ?_))
    subst e2
    cases r5
    exact wpAny_truthy_bool ⟨H5, I5, q5⟩

theorem line63 : (sizeLine : Nat) < 2 ^ 63 := by rw [sizeLine_eq]; decide
theorem op_add_str : OpR X (binaryOp .Add) (fun x y H Q => ∃ i j, x = .str i ∧ y = .str j ∧ i.length + j.length ≤ sizeLine ∧ Q (.str (i ++ j)) H) := by
  intro pins s σ H x y v u Q I rx ry h
  obtain ⟨i, j, rfl, rfl, hz, q⟩ := h
  obtain ⟨t, rfl⟩ := rx
  obtain ⟨t', rfl⟩ := ry
  exact add_str (fun t' tk => ⟨.str (i ++ j), H, I.tok _, ⟨_, rfl⟩, q⟩) hz
theorem vals1 {x : V} {us : List Value} (r : Vals [x] us) : ∃ u, us = [u] ∧ RelV x u := by
  cases r with
  | cons r1 r2 => cases r2; exact ⟨_, rfl, r1⟩
theorem vals2 {x y : V} {us : List Value} (r : Vals [x, y] us) : ∃ u w', us = [u, w'] ∧ RelV x u ∧ RelV y w' := by
  cases r with
  | cons r1 r2 =>
    cases r2 with
    | cons r3 r4 => cases r4; exact ⟨_, _, rfl, r1, r3⟩
theorem call_max2 (hc : X.calm = true) : CallR X (.builtin "max") (fun xs H Q => ∃ i j, xs = [.int i, .int j] ∧ Q (.int (if j > i then j else i)) H) := by
  intro pins s σ H xs us Q I r h
  obtain ⟨i, j, rfl, q⟩ := h
  obtain ⟨u, w', rfl, ⟨t, rfl⟩, ⟨t', rfl⟩⟩ := vals2 r
  refine max_two_ints (I.ok.hd hc) fun h' tk k => ⟨_, H, I.kept k, ?_, q⟩
  by_cases hj : j > i
  · rw [if_pos hj, if_pos hj]; exact ⟨_, rfl⟩
  · rw [if_neg hj, if_neg hj]; exact ⟨_, rfl⟩
theorem call_min2 (hc : X.calm = true) : CallR X (.builtin "min") (fun xs H Q => ∃ i j, xs = [.int i, .int j] ∧ Q (.int (if j < i then j else i)) H) := by
  intro pins s σ H xs us Q I r h
  obtain ⟨i, j, rfl, q⟩ := h
  obtain ⟨u, w', rfl, ⟨t, rfl⟩, ⟨t', rfl⟩⟩ := vals2 r
  refine min_two_ints (I.ok.hd hc) fun h' tk k => ⟨_, H, I.kept k, ?_, q⟩
  by_cases hj : j < i
  · rw [if_pos hj, if_pos hj]; exact ⟨_, rfl⟩
  · rw [if_neg hj, if_neg hj]; exact ⟨_, rfl⟩
end
end L2

namespace L2
open PySem PySem.Spec PyProof.Rows

structure ObjM (h : Heap) (x dx C : Addr) (mA : Str → Option Value) : Prop where
  obj : h.get? x = some (PySem.W.instObj C dx)
  ns : h.Ns1 dx mA
  ne : dx ≠ x

theorem lookIn_ns {h : Heap} {dx : Addr} {mA : Str → Option Value} (n : h.Ns1 dx mA) : ∃ od, h.get? dx = some od ∧ ∀ name, PySem.W.lookIn name od = some (mA name) := by
  obtain ⟨o, es, ep, ho, hd, hk, _, hm⟩ := n
  refine ⟨o, ho, fun name => ?_⟩
  have e := hm name
  unfold nsFind findBy at e
  rw [← Array.find?_toList] at e
  unfold PySem.W.lookIn
  rw [hd]
  dsimp only
  split
  · rename_i y q
    rw [q] at e
    exact congrArg some e
  · rename_i q
    rw [q] at e
    have a : es.toList.any (·.refKey) = false := by
      rw [List.any_eq_false]
      intro y hy
      obtain ⟨z, t, hkey⟩ := hk y (Array.mem_toList_iff.mp hy)
      simp [DictEntry.refKey, hkey]
    have a' : ¬ es.toList.any (·.refKey) = true := by rw [a]; exact Bool.false_ne_true
    rw [if_neg a']
    exact congrArg some e

theorem ObjM.look {h : Heap} {x dx C : Addr} {mA : Str → Option Value} (I : ObjM h x dx C mA) : ∃ od, PySem.W.InstAt h x (PySem.W.instObj C dx) C (some od) ∧ ∀ name, PySem.W.lookIn name od = some (mA name) :=
  let ⟨od, ho, hl⟩ := lookIn_ns I.ns
  ⟨od, ⟨I.obj, rfl, rfl, ho⟩, hl⟩

section
variable {prog : Program} {w : World} {A : Around} {E : Value → Shared → Prop} {s : Shared} {K : PySem.W.Frag} {x dx C f : Addr} {mA : Str → Option Value} {name : Str} {v : Value}

theorem get_map {expr : Bool} {Q : Value → Shared → Prop} (X : K.In s.heap) (I : ObjM s.heap x dx C mA) (hg : PySem.W.plainGet K C name = true) (hh : PySem.W.hasDictIn K C = true)
    (ha : PySem.W.findIn K (.ref C) name = some none) (hv : mA name = some v) (hv' : PySem.W.handedIn v = true) (h : Q v { s with toks := s.toks + 1 }) :
    wpAny (model prog w) A (getAttr (.ref x) name expr) Q E s := by
  obtain ⟨od, J, hl⟩ := I.look
  exact PySem.W.get_value X J (PySem.W.plainGet_of hg).1 (PySem.W.findObj_own hh ha rfl (by rw [hl, hv])) hv' h

theorem get_meth {pl : Sem Bool} {Q : Value × List Value → Shared → Prop} (X : K.In s.heap) (I : ObjM s.heap x dx C mA) (hg : PySem.W.plainGet K C name = true)
    (hf : PySem.W.findIn K (.ref C) name = some (some (.ref f))) (ht : PySem.W.isFn K (.ref f) = true) (hv : mA name = none) (h : Q (.ref f, [.ref x]) s) :
    wpAny (model prog w) A (getMethod (.ref x) name pl) Q E s := by
  obtain ⟨od, J, hl⟩ := I.look
  exact PySem.W.method_fn X J (PySem.W.plainGet_of hg).1 (PySem.W.plainGet_of hg).2 hf (beq_iff_eq.mp ht) (by show (PySem.W.lookIn name od).map (·.isSome) = some false; rw [hl, hv]; rfl) h

theorem set_map {ns : List Str} {Q : Unit → Shared → Prop} (X : K.In s.heap) (I : ObjM s.heap x dx C mA)
    (hs : PySem.W.findIn K (.ref C) "__setattr__" = some (some (.builtin "object.__setattr__"))) (hp : PySem.W.plainOver K C = true) (ht : PySem.W.takerIn K C name = some none) (hh : PySem.W.hasDictIn K C = true)
    (hw : PySem.Within mA ns) (hsz : ns.length ≤ sizeLine)
    (h : ∀ h', ObjM h' x dx C (fun y => if y = name then some v else mA y) → Heap.SameBut dx s.heap h' → Q () { s with heap := h', toks := s.toks + 2 }) :
    wpAny (model prog w) A (setAttr (.ref x) name v) Q E s := by
  obtain ⟨od, J, hl⟩ := I.look
  refine PySem.W.set_plain X J hs (PySem.W.osa_open (s := { s with toks := s.toks + 1 }) (r := none) X J hp ht fun b => ?_)
  obtain ⟨cd, hc, hd'⟩ := PySem.W.any_some hh
  have hx : s.heap.get? x = some ⟨.ref C, some dx, .plain, #[]⟩ := I.obj
  refine wpAny_bind (wpAny_pure (wpAny_bind (wpAny_bind (wpAny_loadPart hx (wpAny_bind (PySem.W.Looks.here (s := { s with toks := s.toks + 1 }) (PySem.W.looks_clsIn X hc) ?_))))))
  rw [hd']
  refine wpAny_pure (a := some dx) (wpAny_bind (wpAny_pure (wpAny_bind ?_)))
  refine wpAny_nsSet1 (s := { s with toks := s.toks + 1 }) I.ns fun h' hn2 hs2 => ?_
  obtain ⟨oD, esD, epD, hoD, hdD, hcD⟩ := hn2.count (PySem.Within.cons name v hw)
  refine wpAny_bind (wpAny_lookBehind hoD (by rw [hdD]; exact pastItsLine_dict (Nat.le_trans hcD (by rw [List.length_cons]; omega))) ?_)
  exact wpAny_pure (h _ ⟨(hs2.2 _ (Ne.symm I.ne)).trans I.obj, hn2, I.ne⟩ hs2)

theorem make_map {R : Result → Shared → Prop} {vs : List Value} {kw : List (Str × Value)} (X : K.In s.heap) (hm : PySem.W.makesIn K C = true)
    (hi : PySem.W.findIn K (.ref C) "__init__" = some (some (.ref f))) (hf : PySem.W.typeIn K (.ref f) = some (.type "function"))
    (h : codeAny (model prog w) (A.under (.builtin "type.__call__" ⟨.ref C :: vs, kw⟩)) (.call (.ref f) ⟨.ref (s.heap.objs.size + 1) :: vs, kw⟩) (PySem.W.InitBack (s.heap.objs.size + 1) R)
      { s with heap := (s.heap.push PySem.W.emptyDict).push (PySem.W.instObj C s.heap.objs.size) }) :
    codeAny (model prog w) A (.call (.ref C) ⟨vs, kw⟩) R s := by
  obtain ⟨hh, g, d, t, os⟩ := s
  exact PySem.W.make_core (PySem.W.makes_of X hm) (PySem.W.looks_findIn X hi) (fun self => PySem.W.bind_fn X self hf) (.inl rfl) h
theorem make_map0 {R : Result → Shared → Prop} (X : K.In s.heap) (hm : PySem.W.makesIn K C = true)
    (hi : PySem.W.findIn K (.ref C) "__init__" = some (some (.builtin "object.__init__")))
    (hb : ∀ self, PySem.W.Looks (model prog w) s.heap (bindSpecial (.builtin "object.__init__") self) (.builtin "object.__init__", [self]))
    (h : codeAny (model prog w) (A.under (.builtin "type.__call__" ⟨[.ref C], []⟩)) (.call (.builtin "object.__init__") ⟨[.ref (s.heap.objs.size + 1)], []⟩) (PySem.W.InitBack (s.heap.objs.size + 1) R)
      { s with heap := (s.heap.push PySem.W.emptyDict).push (PySem.W.instObj C s.heap.objs.size) }) :
    codeAny (model prog w) A (.call (.ref C) ⟨[], []⟩) R s := by
  obtain ⟨hh, g, d, t, os⟩ := s
  exact PySem.W.make_core (PySem.W.makes_of X hm) (PySem.W.looks_findIn X hi) hb (.inr ⟨rfl, rfl⟩) h
end

def putF (f : Str) (v : V) : List (Str × V) → List (Str × V)
  | [] => [(f, v)]
  | (g, x) :: r => if g = f then (g, v) :: r else (g, x) :: putF f v r
theorem lookup_putF (f g : Str) (v : V) : ∀ fs : List (Str × V), (putF f v fs).lookup g = if g = f then some v else fs.lookup g
  | [] => by
    show List.lookup g [(f, v)] = _
    by_cases h : g = f
    · have hb : (g == f) = true := beq_iff_eq.mpr h
      simp only [List.lookup, hb, if_pos h]
    · have hb : (g == f) = false := beq_eq_false_iff_ne.mpr h
      simp only [List.lookup, hb, if_neg h]
  | (k, x) :: r => by
    have ih := lookup_putF f g v r
    rw [show putF f v ((k, x) :: r) = (if k = f then (k, v) :: r else (k, x) :: putF f v r) from rfl]
    by_cases hk : k = f
    · rw [if_pos hk]
      by_cases h : g = k
      · have hb : (g == k) = true := beq_iff_eq.mpr h
        simp only [List.lookup, hb, if_pos (h.trans hk)]
      · have hb : (g == k) = false := beq_eq_false_iff_ne.mpr h
        simp only [List.lookup, hb, if_neg (fun e : g = f => h (e.trans hk.symm))]
    · rw [if_neg hk]
      by_cases h : g = k
      · have hb : (g == k) = true := beq_iff_eq.mpr h
        simp only [List.lookup, hb, if_neg (fun e : g = f => hk (h.symm.trans e))]
      · have hb : (g == k) = false := beq_eq_false_iff_ne.mpr h
        simp only [List.lookup, hb]
        exact ih
theorem keys_putF (f : Str) (v : V) : ∀ fs : List (Str × V), f ∈ (putF f v fs).map (·.1) ∧ ∀ g, g ∈ fs.map (·.1) → g ∈ (putF f v fs).map (·.1)
  | [] => ⟨by simp [putF], fun g h => by simp at h⟩
  | (k, x) :: r => by
    obtain ⟨i1, i2⟩ := keys_putF f v r
    rw [show putF f v ((k, x) :: r) = (if k = f then (k, v) :: r else (k, x) :: putF f v r) from rfl]
    by_cases hk : k = f
    · rw [if_pos hk]
      subst hk
      exact ⟨by simp, fun g h => by simpa using h⟩
    · rw [if_neg hk]
      refine ⟨?_, fun g h => ?_⟩
      · rw [List.map_cons]
        exact List.mem_cons_of_mem _ i1
      · rw [List.map_cons] at h ⊢
        rcases List.mem_cons.mp h with e | e
        · exact List.mem_cons.mpr (.inl e)
        · exact List.mem_cons_of_mem _ (i2 g e)
theorem length_putF (f : Str) (v : V) : ∀ fs : List (Str × V), (putF f v fs).length ≤ fs.length + 1
  | [] => by simp [putF]
  | (k, x) :: r => by
    have ih := length_putF f v r
    rw [show putF f v ((k, x) :: r) = (if k = f then (k, v) :: r else (k, x) :: putF f v r) from rfl]
    by_cases hk : k = f
    · rw [if_pos hk, List.length_cons, List.length_cons]; omega
    · rw [if_neg hk, List.length_cons, List.length_cons]; omega

theorem RelO.some_of {v : V} {o : Option Value} (r : RelO (some v) o) : ∃ u, o = some u ∧ RelV v u := by
  cases o with
  | none => exact (show False from r).elim
  | some u => exact ⟨u, rfl, r⟩
theorem RelO.none_of {o : Option Value} (r : RelO none o) : o = none := by
  cases o with
  | none => rfl
  | some u => exact (show False from r).elim
theorem handed_of {v : V} {u : Value} (r : RelV v u) : PySem.W.handedIn u = true := by
  cases v with
  | non => cases (show u = Value.none from r); rfl
  | bl b => cases (show u = Value.bool b from r); rfl
  | int i => obtain ⟨t, e⟩ := (show ∃ t, u = Value.int i t from r); cases e; rfl
  | str x => obtain ⟨t, e⟩ := (show ∃ t, u = Value.str x t from r); cases e; rfl
  | byt b => obtain ⟨t, e⟩ := (show ∃ t, u = Value.bytes b t from r); cases e; rfl
  | flt b => obtain ⟨t, e⟩ := (show ∃ t, u = Value.float b t from r); cases e; rfl
  | ref a => cases (show u = Value.ref a from r); rfl
  | ty n => cases (show u = Value.type n from r); rfl

section
variable {P : Program} {w : World} {H H' : Hp} {h h' : Heap} {a C dx : Addr} {fs fs' : List (Str × V)}
theorem ins_get (hok : HOk P w H h) (e : H a = some (.ins C dx fs)) : ∃ mA, ObjM h a dx C mA ∧ (∀ f, RelO (fs.lookup f) (mA f)) ∧ PySem.Within mA (fs.map (·.1)) ∧ fs.length ≤ 1000 ∧ H dx = some (.own a) := by
  obtain ⟨d, z, ne, ob, mA, n, r, q⟩ := (show ObjOk P w H h a (.ins C dx fs) from hok a _ e)
  exact ⟨mA, ⟨ob, n, ne⟩, r, q, z, d⟩
end

structure Cls (K : PySem.W.Frag) (C : Addr) : Prop where
  pg : PySem.W.plainGet K C Str.empty = true
  hd : PySem.W.hasDictIn K C = true
  po : PySem.W.plainOver K C = true
  sa : PySem.W.findIn K (.ref C) "__setattr__" = some (some (.builtin "object.__setattr__"))
theorem Cls.get {K : PySem.W.Frag} {C : Addr} (c : Cls K C) (f : Str) : PySem.W.plainGet K C f = true := c.pg
def NoAttr (K : PySem.W.Frag) (C : Addr) (f : Str) : Prop := PySem.W.findIn K (.ref C) f = some none
theorem NoAttr.taker {K : PySem.W.Frag} {C : Addr} {f : Str} (n : NoAttr K C f) : PySem.W.takerIn K C f = some none := by
  unfold PySem.W.takerIn
  rw [show PySem.W.findIn K (.ref C) f = some none from n]
  rfl
structure Con (K : PySem.W.Frag) (C : Addr) (f : Str) (v : V) (u : Value) : Prop where
  at_ : PySem.W.findIn K (.ref C) f = some (some u)
  rel : RelV v u
  get : PySem.W.specialIn K u "__get__" = some none
  cp : PySem.W.copiedNames.contains f = false
structure Meth (K : PySem.W.Frag) (C : Addr) (m : Str) (f : Addr) : Prop where
  at_ : PySem.W.findIn K (.ref C) m = some (some (.ref f))
  fn : PySem.W.isFn K (.ref f) = true
  kp : PySem.W.keepIn K (.ref f) = true

section
variable {X : Cx} {pins : List (Addr × Obj)} {σ : St} {H : Hp} {s : Shared} {a C dx : Addr} {fs : List (Str × V)} {f : Str} {v : V} {A : Around} {E : Value → Shared → Prop}

theorem getattr_ok {b : Bool} {Q : Value → Shared → Prop} (I : Inv X pins σ H s) (e : H a = some (.ins C dx fs)) (c : Cls X.K C) (n : NoAttr X.K C f) (l : fs.lookup f = some v)
    (h : ∀ u s', Inv X pins σ H s' → RelV v u → Q u s') : wpAny (model X.prog X.w) A (getAttr (.ref a) f b) Q E s := by
  obtain ⟨mA, O, r, _, _, _⟩ := ins_get I.hok e
  obtain ⟨u, hu, ru⟩ := RelO.some_of (v := v) (o := mA f) (by rw [← l]; exact r f)
  exact get_map I.kIn O (c.get f) c.hd n hu (handed_of ru) (h u _ (I.tok _) ru)

theorem getmeth_ok {m : Str} {g : Addr} {pl : Sem Bool} {Q : Value × List Value → Shared → Prop} (I : Inv X pins σ H s) (e : H a = some (.ins C dx fs)) (c : Cls X.K C) (k : Meth X.K C m g) (l : fs.lookup m = none)
    (h : Q (.ref g, [.ref a]) s) : wpAny (model X.prog X.w) A (getMethod (.ref a) m pl) Q E s := by
  obtain ⟨mA, O, r, _, _, _⟩ := ins_get I.hok e
  have hn : mA m = none := RelO.none_of (by rw [← l]; exact r m)
  exact get_meth I.kIn O (c.get m) k.at_ k.fn hn h

theorem setattr_ok {y : V} {u : Value} {Q : Unit → Shared → Prop} (I : Inv X pins σ H s) (e : H a = some (.ins C dx fs)) (c : Cls X.K C) (n : NoAttr X.K C f) (hl : fs.length < 1000) (ry : RelV y u)
    (h : ∀ s', Inv X pins σ (upd H a (.ins C dx (putF f y fs))) s' → Q () s') : wpAny (model X.prog X.w) A (setAttr (.ref a) f u) Q E s := by
  obtain ⟨mA, O, r, wi, _, ho⟩ := ins_get I.hok e
  have hz : (fs.map (·.1)).length ≤ sizeLine := by rw [List.length_map, sizeLine_eq]; omega
  refine set_map I.kIn O c.sa c.po n.taker c.hd wi hz fun h' O' sb => h _ ?_
  have hd : ∃ o, h'.get? dx = some o := let ⟨o, _, _, e', _⟩ := O'.ns; ⟨o, e'⟩
  refine I.write (x := a) (e := dx) (by rw [e]; exact True.intro) (.inr ho) (fun b q hb z => (sb.2 b hb).trans z) hd ?_
  refine ⟨by rw [upd_ne O.ne]; exact ho, ?_, O.ne, O'.obj, _, O'.ns, fun g => ?_, fun g hg => ?_⟩
  · have := length_putF f y fs; omega
  · show RelO ((putF f y fs).lookup g) (if g = f then some u else mA g)
    rw [lookup_putF]
    by_cases q : g = f
    · rw [if_pos q, if_pos q]; exact ry
    · rw [if_neg q, if_neg q]; exact r g
  · by_cases q : g = f
    · rw [q]; exact (keys_putF f y fs).1
    · refine (keys_putF f y fs).2 g (wi g fun z => hg ?_)
      show (if g = f then some u else mA g) = none
      rw [if_neg q]; exact z

theorem Inv.made (I : Inv X pins σ H s) : Inv X pins σ (upd (upd H s.heap.objs.size (.own (s.heap.objs.size + 1))) (s.heap.objs.size + 1) (.ins C s.heap.objs.size []))
    { s with heap := (s.heap.push PySem.W.emptyDict).push (PySem.W.instObj C s.heap.objs.size) } := by
  have e1 : (s.heap.push PySem.W.emptyDict).get? s.heap.objs.size = some PySem.W.emptyDict := Heap.get?_push_size s.heap rfl
  have e2 : ((s.heap.push PySem.W.emptyDict).push (PySem.W.instObj C s.heap.objs.size)).get? (s.heap.objs.size + 1) = some (PySem.W.instObj C s.heap.objs.size) := by
    have := Heap.get?_push_size (s.heap.push PySem.W.emptyDict) (o := PySem.W.instObj C s.heap.objs.size) rfl
    rwa [Heap.size_push] at this
  have e3 : (s.heap.push PySem.W.emptyDict).Ns s.heap.objs.size (fun _ => none) := ⟨PySem.W.emptyDict, #[], _, e1, rfl, (fun e he => absurd he (by simp)), fun _ => rfl⟩
  have I1 := I.laid (a := s.heap.objs.size) (o := .own (s.heap.objs.size + 1)) (h' := s.heap.push PySem.W.emptyDict) (t' := s.toks) (fun b u q => Heap.get?_push_of_some _ q) (Nat.le_refl _) ⟨_, e1⟩
  refine I1.laid (a := s.heap.objs.size + 1) (o := .ins C s.heap.objs.size []) (t' := s.toks) (fun b u q => Heap.get?_push_of_some _ q) (Nat.le_of_eq (Heap.size_push _ _)) ?_
  have ne : s.heap.objs.size ≠ s.heap.objs.size + 1 := Nat.ne_of_lt (Nat.lt_succ_self _)
  refine ⟨by rw [upd_ne ne, upd_same], Nat.zero_le _, ne, e2, fun _ => none, (Heap.Ns1.of_empty e3).at fun o q => Heap.get?_push_of_some _ q, fun _ => True.intro, fun y hy => absurd rfl hy⟩

theorem attr_of {prog : Program} {w : World} {env : Env} {e : Expr} {f : Str} {pos : Pos} {s : Shared} {Q : Value → Shared → Prop} (hb : attributeBase e f env (eval e env) = eval e env)
    (h : wpAny (model prog w) A (eval e env) (fun o s₁ => wpAny (model prog w) A (getAttr o f true) Q E s₁) E s) : wpAny (model prog w) A (eval (.Attribute e f pos) env) Q E s :=
  Attribute_any_ h (by rw [arm_eval_Attribute, hb])
end

def tFld (K : PySem.W.Frag) (ta : TE) (f : Str) : TE := fun σ H Q => ta σ H fun x H1 => ∃ a C dx fs v, x = .ref a ∧ H1 a = some (.ins C dx fs) ∧ Cls K C ∧ NoAttr K C f ∧ fs.lookup f = some v ∧ Q v H1
def sFld (K : PySem.W.Frag) (ta tv : TE) (f : Str) : TS := fun D σ H => tv σ H fun y H1 => ta σ H1 fun x H2 => ∃ a C dx fs, x = .ref a ∧ H2 a = some (.ins C dx fs) ∧ Cls K C ∧ NoAttr K C f ∧ fs.length < 1000 ∧
  D.nx σ (upd H2 a (.ins C dx (putF f y fs)))
section
variable {X : Cx} {o e value : Expr} {f : Str} {pos pos' tpos : Pos} {ta tv : TE}
theorem pe_fld (he : PE X e ta) (hb : attributeBase e f X.env (eval e X.env) = eval e X.env) : PE X (.Attribute e f pos) (tFld X.K ta f) := by
  intro pins s σ H Q I h
  refine attr_of hb (thn (he pins s σ H _ I h) fun u s1 ⟨x, H1, I1, rx, a, C, dx, fs, v, ex, ea, c, n, l, q⟩ => ?_)
  subst ex
  obtain rfl : u = Value.ref a := rx
  exact getattr_ok I1 ea c n l fun u' s2 I2 ru => ⟨v, H1, I2, ru, q⟩
theorem ps_fld (ha : PE X o ta) (hv : PE X value tv) (hs : swapsWith value (some (.Attribute o f pos')) pos.line X.env = pure false) : PS X (.Assign [.Attribute o f pos'] value pos) (sFld X.K ta tv f) := by
  intro pins s σ H D I h
  refine plainObj_wpAny_Assign_Attribute (thn (hv pins s σ H _ I h) fun u s1 ⟨y, H1, I1, ry, q⟩ => thn (ha pins s1 σ H1 _ I1 q) fun ov s2 ⟨x, H2, I2, rx, a, C, dx, fs, ex, ea, c, n, l, q2⟩ => ?_) hs
  subst ex
  obtain rfl : ov = Value.ref a := rx
  exact setattr_ok I2 ea c n l ry fun s3 I3 => ⟨σ, _, I3, q2⟩
end

section
variable {X : Cx} {pins : List (Addr × Obj)} {σ : St} {H : Hp} {s : Shared} {A : Around} {E : Value → Shared → Prop} {Q : Value → Shared → Prop} {c : Value} {b : Bool}
inductive TyOf (K : PySem.W.Frag) (H : Hp) : V → Value → Prop where
  | non : TyOf K H .non (.type "NoneType")
  | bl (x : Bool) : TyOf K H (.bl x) (.type "bool")
  | int (i : Int) : TyOf K H (.int i) (.type "int")
  | str (x : Str) : TyOf K H (.str x) (.type "str")
  | flt (x : UInt64) : TyOf K H (.flt x) (.type "float")
  | lst {a : Addr} {xs : List V} (e : H a = some (.lst xs)) : TyOf K H (.ref a) (.type "list")
  | frz {a : Addr} {o : Obj} {xs : List V} (e : H a = some (.frz o (.lst xs))) : TyOf K H (.ref a) (.type "list")
  | tup {a : Addr} {xs : List V} (e : H a = some (.tup xs)) : TyOf K H (.ref a) (.type "tuple")
  | dK {a : Addr} {kvs : List (Key × V)} (e : H a = some (.dK kvs)) : TyOf K H (.ref a) (.type "dict")
  | dT {a : Addr} {kvs : List (List Key × V)} (e : H a = some (.dT kvs)) : TyOf K H (.ref a) (.type "dict")
  | ins {a C dx : Addr} {fs : List (Str × V)} (e : H a = some (.ins C dx fs)) (cl : Cls K C) (ha : PySem.W.findIn K (.ref C) "__class__" = some (some (.builtin "object.__class__")))
      (hn : PySem.W.specialIn K (.builtin "object.__class__") "__get__" = some (some (.builtin "getset_descriptor.__get__"))) (htk : PySem.W.takesIn K (.builtin "object.__class__") = some true)
      (hm : PySem.W.mroIn K C (.type "object") = some true) : TyOf K H (.ref a) (.ref C)
end
end L2

namespace L2
open PySem PySem.Spec PyProof.Rows

structure Room (k : Nat) (A : Around) : Prop where
  hd : A.handled = none
  dp : A.depth + 3 * k + 5 < recursionLimit
  un : A.units + 16 * k + 200 < cLine
theorem Room.mono {j k : Nat} {A : Around} (r : Room k A) (h : j ≤ k) : Room j A := ⟨r.hd, by have := r.dp; omega, by have := r.un; omega⟩
theorem Room.deeper {k : Nat} {A : Around} (r : Room (k + 1) A) (env : Env) : Room k (A.deeper env) :=
  ⟨r.hd, by have := r.dp; show A.depth + 1 + 3 * k + 5 < _; omega, by have := r.un; show A.units + 3 + 16 * k + 200 < _; omega⟩
theorem Room.in1 {k : Nat} {A : Around} (r : Room (k + 1) A) : Room k A.in1 :=
  ⟨r.hd, by have := r.dp; show A.depth + 3 * k + 5 < _; omega, by have := r.un; show A.units + 1 + 16 * k + 200 < _; omega⟩
theorem make_depth {A : Around} {C : Addr} {us : List Value} {kw : List (Str × Value)} : (A.under (.builtin "type.__call__" ⟨.ref C :: us, kw⟩)).depth = A.depth + 1 := by
  first | rfl | simp [Around.under, Code.weight, Code.isCreation, Code.isGuard, Code.isCaller, Code.frames, Code.isFrame, guardIds]
theorem make_units {A : Around} {C : Addr} {us : List Value} {kw : List (Str × Value)} : (A.under (.builtin "type.__call__" ⟨.ref C :: us, kw⟩)).units = A.units + 1 := by
  first | rfl | simp [Around.under, Code.cUnits, Code.frames, Code.isFrame]
theorem Room.make {k : Nat} {A : Around} (r : Room (k + 1) A) (C : Addr) (us : List Value) (kw : List (Str × Value)) : Room k (A.under (.builtin "type.__call__" ⟨.ref C :: us, kw⟩)) :=
  ⟨r.hd, by have := r.dp; rw [make_depth]; omega, by have := r.un; rw [make_units]; omega⟩
theorem Room.depth {k : Nat} {A : Around} (r : Room k A) : A.depth < recursionLimit := by have := r.dp; omega
theorem Room.units {k : Nat} {A : Around} (r : Room k A) : A.units + 64 < cLine := by have := r.un; omega
def tNil : TA := fun _ H Q => Q [] H
def tCons (ta : TE) (tr : TA) : TA := fun σ H Q => ta σ H fun x H1 => tr σ H1 fun xs H2 => Q (x :: xs) H2
section
variable {X : Cx} {e : Expr} {es : List Expr} {te : TE} {t : TA} {pos : Pos}
theorem pa_nil : PA X [] tNil := fun _ _ _ _ H Q I h => Calls.spliced_nil ⟨[], H, I, .nil, h⟩
theorem pa_cons (ha : PE X e te) (hr : PA X es t) (hs : starEach (e :: es) X.env = (false, eval e X.env) :: starEach es X.env := by rfl) : PA X (e :: es) (tCons te t) := by
  intro pos pins s σ H Q I h
  rw [hs]
  show wpAny _ _ (spliced ((false, eval e X.env) :: backTo pos (starEach es X.env))) _ _ s
  refine Calls.spliced_cons (thn (ha pins s σ H _ I h) fun u s1 ⟨x, H1, I1, r1, q1⟩ => ?_)
  exact thn (hr pos pins s1 σ H1 _ I1 q1) fun us s2 ⟨xs, H2, I2, r2, q2⟩ => ⟨x :: xs, H2, I2, .cons r1 r2, q2⟩

def tTup (t : TA) : TE := fun σ H Q => t σ H fun xs H1 => xs.length ≤ sizeLine ∧ ∀ p, H1 p = none → Q (.ref p) (upd H1 p (.tup xs))
def tLst (t : TA) : TE := fun σ H Q => t σ H fun xs H1 => xs.length ≤ sizeLine ∧ ∀ p, H1 p = none → Q (.ref p) (upd H1 p (.lst xs))
theorem pe_tup {x1} (h : PA X es t) : PE X (.Tuple es x1 pos) (tTup t) := by
  intro pins s σ H Q I hq
  refine wpAny_Tuple_spliced (thn (h pos pins s σ H _ I hq) fun us s1 ⟨xs, H1, I1, r, z, q⟩ => ⟨by rw [← r.length]; exact z, ?_⟩)
  have hf : H1 s1.heap.objs.size = none := I1.hok.fresh (Nat.le_refl _)
  refine ⟨.ref s1.heap.objs.size, upd H1 s1.heap.objs.size (.tup xs), I1.laid (t' := s1.toks) (fun b u e => Heap.get?_push_of_some _ e) (Nat.le_refl _) ?_, rfl, q _ hf⟩
  exact ⟨z, us, r, ⟨_, Heap.get?_push_size _ rfl, rfl, _, rfl⟩, _, Heap.get?_push_size _ rfl, rfl⟩
theorem pe_lst (h : PA X es t) : PE X (.List es pos) (tLst t) := by
  intro pins s σ H Q I hq
  refine wpAny_List_spliced (thn (h pos pins s σ H _ I hq) fun us s1 ⟨xs, H1, I1, r, z, q⟩ => ⟨by rw [← r.length]; exact z, ?_⟩)
  have hf : H1 s1.heap.objs.size = none := I1.hok.fresh (Nat.le_refl _)
  refine ⟨.ref s1.heap.objs.size, upd H1 s1.heap.objs.size (.lst xs), I1.laid (t' := s1.toks) (fun b u e => Heap.get?_push_of_some _ e) (Nat.le_refl _) ?_, rfl, q _ hf⟩
  exact ⟨z, us, 0, r, Heap.get?_push_size _ rfl⟩
end

abbrev Sp := List V → Hp → VK → XK → Prop
abbrev CXT := List Env → Hp → Shared → XK → Value → Shared → Prop

structure Env0 (P : Program) (w : World) (K : PySem.W.Frag) (mg : Str → Option Value) (base : Heap) (A : Around) (outer : List Env) (s : Shared) (H : Hp) : Prop where
  frames : A.frames = some outer
  mod : Mod K mg base
  bs : ∀ b o, base.get? b = some o → s.heap.get? b = some o ∧ H b = none
  bsz : base.objs.size ≤ s.heap.objs.size
  funs : s.heap.FunFrames base outer
  frf : ∀ b ∈ frs outer, H b = none
  hok : HOk P w H s.heap
  bare : AllBare s.gens
def CE (outer : List Env) (P : Program) (w : World) (H : Hp) (s : Shared) (Q : VK) (u : Value) (s' : Shared) : Prop :=
  ∃ v H', s'.os = s.os ∧ AllBare s'.gens ∧ Un (frs outer) [] H H' s.heap s'.heap ∧ HOk P w H' s'.heap ∧ RelV v u ∧ Q v H'
def CR (CX : CXT) (outer : List Env) (P : Program) (w : World) (H : Hp) (s : Shared) (Q : VK) (E : XK) (r : Result) (s' : Shared) : Prop :=
  match r with
  | .ok (.ret u) => CE outer P w H s Q u s'
  | .ok _ => False
  | .error e => CX outer H s E e s'
structure FnOk (P : Program) (w : World) (K : PySem.W.Frag) (mg : Str → Option Value) (base : Heap) (CX : CXT) (k : Nat) (f : Addr) (fd : FuncData) (ps : List Str) (sp : Sp) : Prop where
  len : ∀ vs H Q E, sp vs H Q E → vs.length = ps.length
  run : ∀ (A : Around) (outer : List Env) (s : Shared) (H : Hp) (args : Args) (us : List Value) (vs : List V) (Q : VK) (E : XK), Room k A → Env0 P w K mg base A outer s H → BindsTo s fd args (ps.zip us) → Vals vs us → sp vs H Q E →
    codeAny (model P w) A (.call (.ref f) args) (CR CX outer P w H s Q E) s
theorem FnOk.mono {P : Program} {w : World} {K : PySem.W.Frag} {mg : Str → Option Value} {base : Heap} {CX : CXT} {j k : Nat} {f : Addr} {fd : FuncData} {ps : List Str} {sp : Sp} (F : FnOk P w K mg base CX j f fd ps sp) (h : j ≤ k) :
    FnOk P w K mg base CX k f fd ps sp := ⟨F.len, fun A outer s H args us vs Q E hr => F.run A outer s H args us vs Q E (hr.mono h)⟩
theorem Env0.make {P : Program} {w : World} {K : PySem.W.Frag} {mg : Str → Option Value} {base : Heap} {A : Around} {outer : List Env} {s : Shared} {H : Hp} (e : Env0 P w K mg base A outer s H) (C : Addr) (us : List Value) (kw : List (Str × Value)) :
    Env0 P w K mg base (A.under (.builtin "type.__call__" ⟨.ref C :: us, kw⟩)) outer s H := ⟨by first | exact e.frames | (simpa [Around.under, Code.envs, Code.isFrame, pushEnvs] using e.frames), e.mod, e.bs, e.bsz, e.funs, e.frf, e.hok, e.bare⟩
theorem Env0.in1 {P : Program} {w : World} {K : PySem.W.Frag} {mg : Str → Option Value} {base : Heap} {A : Around} {outer : List Env} {s : Shared} {H : Hp} (e : Env0 P w K mg base A outer s H) :
    Env0 P w K mg base A.in1 outer s H := ⟨e.frames, e.mod, e.bs, e.bsz, e.funs, e.frf, e.hok, e.bare⟩

section
variable {X : Cx} {pins : List (Addr × Obj)} {σ : St} {H : Hp} {s s' : Shared}
theorem Inv.env0 (I : Inv X pins σ H s) : Env0 X.prog X.w X.K X.mg X.base X.A X.stack s H :=
  ⟨I.ok.frames, I.ok.mod, I.bs, Nat.le_trans I.ok.bsz I.sz, I.stack, I.stkFree, I.hok, I.bare⟩
theorem Inv.after {Q : VK} {u : Value} (I : Inv X pins σ H s) (h : CE X.stack X.prog X.w H s Q u s') : EP X pins σ Q u s' := by
  obtain ⟨v, H', os, bare, un, hok, r, q⟩ := h
  obtain ⟨hh, g, d, t, os'⟩ := s'
  obtain rfl : os' = s.os := os
  exact ⟨v, H', I.call (h' := hh) (g' := g) (d' := d) (t' := t) (ch := []) un hok bare (fun b z => absurd z (by simp)), r, q⟩
end

def tCall (sp : Sp) (dvs : List V) (E : XK) (t : TA) : TE := fun σ H Q => t σ H fun vs H1 => sp (vs ++ dvs) H1 Q E
def tMake (C : Addr) (sp : Sp) (dvs : List V) (E : XK) (t : TA) : TE := fun σ H Q => t σ H fun vs H1 => ∀ x dx, H1 x = none → H1 dx = none → dx ≠ x →
  sp (.ref x :: (vs ++ dvs)) (upd (upd H1 dx (.own x)) x (.ins C dx [])) (fun v H2 => v = .non ∧ Q (.ref x) H2) E

def Binds (K : PySem.W.Frag) (fd : FuncData) (ps : List Str) (ds : List Value) : Prop :=
  ∀ (s : Shared) (us : List Value), K.In s.heap → (us ++ ds).length = ps.length → BindsTo s fd ⟨us, []⟩ (ps.zip (us ++ ds))
theorem Binds.all {K : PySem.W.Frag} {fd : FuncData} {ps : List Str} (h : ∀ us : List Value, us.length = ps.length → bindArgs fd ⟨us, []⟩ = pure (ps.zip us)) : Binds K fd ps [] := fun s us _ hl => by
  rw [List.append_nil] at hl ⊢
  exact .of_eq (h us hl)

def Passes (CX : CXT) (X : Cx) (E : XK) : Prop := ∀ (pins : List (Addr × Obj)) (σ : St) (H : Hp) (s : Shared) (e : Value) (s' : Shared), Inv X pins σ H s → CX X.stack H s E e s' → X.xe e s'

section
variable {X : Cx} {CX : CXT} {k : Nat} {f C : Addr} {fd : FuncData} {ps : List Str} {sp : Sp} {dvs : List V} {ds : List Value} {E : XK} {x m : Str} {p pos apos : Pos} {e o : Expr} {es : List Expr} {ta : TE} {t : TA}

theorem run_fn {pins : List (Addr × Obj)} {σ : St} {H : Hp} {s : Shared} {Q : VK} {us : List Value} {vs : List V} (F : FnOk X.prog X.w X.K X.mg X.base CX k f fd ps sp) (hr : Room k X.A) (hb : Binds X.K fd ps ds) (hd : Vals dvs ds) (hx : Passes CX X E)
    (I : Inv X pins σ H s) (r : Vals vs us) (h : sp (vs ++ dvs) H Q E) : wpAny (model X.prog X.w) X.A (call (.ref f) us) (EP X pins σ Q) X.xe s := by
  have r2 : Vals (vs ++ dvs) (us ++ ds) := r.append hd
  have hl : (us ++ ds).length = ps.length := by rw [← r2.length]; exact F.len _ _ _ _ h
  refine wpAny_call (codeAny_mono (F.run X.A X.stack s H ⟨us, []⟩ (us ++ ds) (vs ++ dvs) Q E hr I.env0 (hb s us I.kIn hl) r2 h) fun r s' hq => ?_)
  cases r with
  | error e => exact hx pins σ H s e s' I hq
  | ok fl =>
    cases fl with
    | ret u => exact I.after hq
    | next => exact False.elim hq
    | brk => exact False.elim hq
    | cont => exact False.elim hq

theorem pe_call (F : FnOk X.prog X.w X.K X.mg X.base CX k f fd ps sp) (hr : Room k X.A) (hg : Gl X x) (hm : X.mg x = some (.ref f)) (hk : PySem.W.keepIn X.K (.ref f) = true) (hb : Binds X.K fd ps ds) (hd : Vals dvs ds) (hx : Passes CX X E)
    (ha : PA X (e :: es) t) (hdb : (x == ("__debug__" : Str)) = false := by decide) (he : starEach (e :: es) X.env = (false, eval e X.env) :: starEach es X.env := by rfl) (hpl : (backTo pos (starEach es X.env)).any (·.1) = false := by rfl) :
    PE X (.Call (.Name x p) (e :: es) [] pos) (tCall sp dvs E t) := by
  intro pins s σ H Q I h
  refine wpAny_Call_Name_kw (ld_glob I hg hm ?_ hdb)
  refine PySem.W.callWith_K (h₀ := X.base) I.ok.mod.kin hk (thn (ha pos pins s σ H _ I h) fun us s1 ⟨vs, H1, I1, r, q⟩ => ⟨I1.kIn, ?_⟩) he hpl
  exact run_fn F hr hb hd hx I1 r q
structure Mk (K : PySem.W.Frag) (C f : Addr) : Prop where
  makes : PySem.W.makesIn K C = true
  init : PySem.W.findIn K (.ref C) "__init__" = some (some (.ref f))
  fn : PySem.W.isFn K (.ref f) = true
  kp : PySem.W.keepIn K (.ref C) = true

theorem run_make {pins : List (Addr × Obj)} {σ : St} {H : Hp} {s : Shared} {Q : VK} {us : List Value} {vs : List V} (M : Mk X.K C f) (F : FnOk X.prog X.w X.K X.mg X.base CX k f fd ps sp) (hr : Room (k + 1) X.A) (hb : Binds X.K fd ps ds) (hd : Vals dvs ds)
    (hx : Passes CX X E) (I : Inv X pins σ H s) (r : Vals vs us)
    (h : ∀ x dx, H x = none → H dx = none → dx ≠ x → sp (.ref x :: (vs ++ dvs)) (upd (upd H dx (.own x)) x (.ins C dx [])) (fun v H2 => v = .non ∧ Q (.ref x) H2) E) :
    wpAny (model X.prog X.w) X.A (call (.ref C) us) (EP X pins σ Q) X.xe s := by
  have hq := h (s.heap.objs.size + 1) s.heap.objs.size (I.hok.fresh (Nat.le_succ _)) (I.hok.fresh (Nat.le_refl _)) (Nat.ne_of_lt (Nat.lt_succ_self _))
  have I2 := Inv.made (C := C) I
  have r2 : Vals (V.ref (s.heap.objs.size + 1) :: (vs ++ dvs)) (Value.ref (s.heap.objs.size + 1) :: (us ++ ds)) := .cons rfl (r.append hd)
  have hl : (Value.ref (s.heap.objs.size + 1) :: us ++ ds).length = ps.length := by
    have e := r2.length
    rw [F.len _ _ _ _ hq] at e
    exact e.symm
  refine wpAny_call (make_map (f := f) I.kIn M.makes M.init (beq_iff_eq.mp M.fn) (codeAny_mono (F.run _ X.stack _ _ ⟨Value.ref (s.heap.objs.size + 1) :: us, []⟩ (Value.ref (s.heap.objs.size + 1) :: (us ++ ds)) _ _ E (hr.make C us [])
    (I2.env0.make C us []) (hb _ (Value.ref (s.heap.objs.size + 1) :: us) I2.kIn hl) r2 hq) fun r s' hq' => ?_))
  cases r with
  | error e => exact hx pins σ _ _ e s' I2 hq'
  | ok fl =>
    cases fl with
    | ret u =>
      obtain ⟨v, H', I3, rv, ev, q3⟩ := I2.after hq'
      subst ev
      exact ⟨rv, ⟨V.ref (s.heap.objs.size + 1), H', I3, rfl, q3⟩⟩
    | next => exact False.elim hq'
    | brk => exact False.elim hq'
    | cont => exact False.elim hq'
theorem pe_make (M : Mk X.K C f) (F : FnOk X.prog X.w X.K X.mg X.base CX k f fd ps sp) (hr : Room (k + 1) X.A) (hg : Gl X x) (hm : X.mg x = some (.ref C)) (hb : Binds X.K fd ps ds) (hd : Vals dvs ds) (hx : Passes CX X E)
    (ha : PA X (e :: es) t) (hdb : (x == ("__debug__" : Str)) = false := by decide) (he : starEach (e :: es) X.env = (false, eval e X.env) :: starEach es X.env := by rfl) (hpl : (backTo pos (starEach es X.env)).any (·.1) = false := by rfl) :
    PE X (.Call (.Name x p) (e :: es) [] pos) (tMake C sp dvs E t) := by
  intro pins s σ H Q I h
  refine wpAny_Call_Name_kw (ld_glob I hg hm ?_ hdb)
  refine PySem.W.callWith_K (h₀ := X.base) I.ok.mod.kin M.kp (thn (ha pos pins s σ H _ I h) fun us s1 ⟨vs, H1, I1, r, q⟩ => ⟨I1.kIn, ?_⟩) he hpl
  exact run_make M F hr hb hd hx I1 r q
end

section
variable {X : Cx} {CX : CXT} {k : Nat} {f C : Addr} {fd : FuncData} {ps ks : List Str} {sp : Sp} {E : XK} {x m : Str} {p pos apos kpos : Pos} {e o : Expr} {es : List Expr} {kws : List Keyword} {te ta : TE} {t tk : TA} {nm : Option Str}
structure KBinds (K : PySem.W.Frag) (fd : FuncData) (ps ks : List Str) (g : List Value → List Value → List Value) (gV : List V → List V → List V) : Prop where
  to : ∀ (s : Shared) (us ws : List Value), K.In s.heap → (g us ws).length = ps.length → BindsTo s fd ⟨us, ks.zip ws⟩ (ps.zip (g us ws))
  rel : ∀ {vs : List V} {us : List Value} {zs : List V} {ws : List Value}, Vals vs us → Vals zs ws → Vals (gV vs zs) (g us ws)
variable {g : List Value → List Value → List Value} {gV : List V → List V → List V}
end

structure FnScope (N P : List Str) (sc : Scope) : Prop where
  kind : sc.kind = .function
  co : sc.isCoroutine = false
  gen : sc.isGenerator = false
  nd : N.Nodup
  pre : N.take P.length = P
  par : ∀ x ∈ P, sc.names.lookup x = some .local ∨ sc.names.lookup x = some .cell
  nofree : ∀ y ∈ sc.names, y.2 ≠ .free

theorem bindL_out {kindOf : Str → Option NameKind} {x : Str} : ∀ {binds : List (Str × Value)} {m : Str → Option Value}, (∀ v, (x, v) ∉ binds) → bindL kindOf binds m x = m x
  | [], _, _ => rfl
  | (n, v) :: r, m, h => by
    unfold bindL
    rw [bindL_out fun w hw => h w (List.mem_cons_of_mem _ hw)]
    split
    · have : x ≠ n := by rintro rfl; exact h v List.mem_cons_self
      simp [this]
    · rfl
theorem bindC_out {kindOf : Str → Option NameKind} {x : Str} : ∀ {binds : List (Str × Value)} {m : Str → Option Value}, (∀ v, (x, v) ∉ binds) → bindC kindOf binds m x = m x
  | [], _, _ => rfl
  | (n, v) :: r, m, h => by
    unfold bindC
    rw [bindC_out fun w hw => h w (List.mem_cons_of_mem _ hw)]
    split
    · rfl
    · have : x ≠ n := by rintro rfl; exact h v List.mem_cons_self
      simp [this]
theorem bindL_get {kindOf : Str → Option NameKind} {x : Str} {v : Value} : ∀ {P : List Str} {vs : List Value} {i : Nat} {m : Str → Option Value}, P.Nodup → P[i]? = some x → vs[i]? = some v → kindOf x = some .local →
    bindL kindOf (P.zip vs) m x = some v
  | [], _, _, _, _, h, _, _ => by simp at h
  | _ :: _, [], _, _, _, _, h, _ => by simp at h
  | p :: P, w :: vs, 0, m, nd, h1, h2, hk => by
    simp at h1 h2; subst h1; subst h2
    show bindL kindOf ((p, w) :: P.zip vs) m p = _
    unfold bindL
    rw [bindL_out fun v hv => (List.nodup_cons.mp nd).1 (List.of_mem_zip hv).1, if_pos hk]
    simp
  | p :: P, w :: vs, i + 1, m, nd, h1, h2, hk => by
    show bindL kindOf ((p, w) :: P.zip vs) m x = _
    unfold bindL
    exact bindL_get (i := i) (List.nodup_cons.mp nd).2 (by simpa using h1) (by simpa using h2) hk
theorem bindC_get {kindOf : Str → Option NameKind} {x : Str} {v : Value} : ∀ {P : List Str} {vs : List Value} {i : Nat} {m : Str → Option Value}, P.Nodup → P[i]? = some x → vs[i]? = some v → kindOf x ≠ some .local →
    bindC kindOf (P.zip vs) m x = some v
  | [], _, _, _, _, h, _, _ => by simp at h
  | _ :: _, [], _, _, _, _, h, _ => by simp at h
  | p :: P, w :: vs, 0, m, nd, h1, h2, hk => by
    simp at h1 h2; subst h1; subst h2
    show bindC kindOf ((p, w) :: P.zip vs) m p = _
    unfold bindC
    rw [bindC_out fun v hv => (List.nodup_cons.mp nd).1 (List.of_mem_zip hv).1, if_neg hk]
    simp
  | p :: P, w :: vs, i + 1, m, nd, h1, h2, hk => by
    show bindC kindOf ((p, w) :: P.zip vs) m x = _
    unfold bindC
    exact bindC_get (i := i) (List.nodup_cons.mp nd).2 (by simpa using h1) (by simpa using h2) hk

def start (N : List Str) (vs : List V) : St := vs.map some ++ List.replicate (N.length - vs.length) none

def cxOf (CX : CXT) (P : Program) (w : World) (K : PySem.W.Frag) (mg : Str → Option Value) (base : Heap) (N : List Str) (qual : Str) (scope : Scope) (f : Addr) (cd : Value) (A : Around) (outer : List Env) (s : Shared) (H : Hp) (E : XK) : Cx where
  prog := P
  w := w
  K := K
  mg := mg
  base := base
  A := A.deeper (envOfC qual scope s.heap.objs.size f cd)
  N := N
  s₀ := s
  H₀ := H
  env := envOfC qual scope s.heap.objs.size f cd
  outer := outer
  stack := envOfC qual scope s.heap.objs.size f cd :: outer
  ex := []
  calm := true
  fn := fun _ => true
  pn := []
  xe := fun e s' => wpAny (model P w) (A.deeper (envOfC qual scope s.heap.objs.size f cd)) (leaving (envOfC qual scope s.heap.objs.size f cd) e) (fun _ s'' => CX outer H s E e s'') (fun e' s'' => CX outer H s E e' s'') s'

theorem cell_has {sc : Scope} {n : Nat} {x : Str} (h : sc.names.lookup x = some .cell) : ∃ c, (cellsFrom n sc.names []).lookup x = some c := by
  have q := PySem.W.cellsFrom_some sc.names n [] (.inl h)
  exact Option.isSome_iff_exists.mp q

theorem inv_start {CX : CXT} {P : Program} {w : World} {K : PySem.W.Frag} {mg : Str → Option Value} {base : Heap} {N ps : List Str} {qual : Str} {scope : Scope} {f : Addr} {cd : Value} {A : Around} {outer : List Env} {s s1 : Shared} {H : Hp} {E : XK} {us : List Value} {vs : List V}
    (S : FnScope N ps scope) (hd : A.handled = none) (e0 : Env0 P w K mg base A outer s H) (hl : vs.length = ps.length) (r : Vals vs us)
    (x : InCallC s s.heap.objs.size (bindL (envOfC qual scope s.heap.objs.size f cd).kindOf (ps.zip us) fun _ => none) (cellsFrom (s.heap.objs.size + 1) scope.names []) (bindC (envOfC qual scope s.heap.objs.size f cd).kindOf (ps.zip us) fun _ => none) s1) :
    Inv (cxOf CX P w K mg base N qual scope f cd A outer s H E) [] (start N vs) H s1 := by
  have hpl : ps.length ≤ N.length := by have := congrArg List.length S.pre; rw [List.length_take] at this; omega
  obtain ⟨h1, tk, rfl, hk⟩ := x.done
  have noA : ∀ b : Addr, b ∉ (cxOf CX P w K mg base N qual scope f cd A outer s H E).ex := fun b z => absurd (show b ∈ ([] : List Addr) from z) (by simp)
  refine ⟨⟨e0.mod, S.kind, rfl, rfl, Nat.le_refl _, fun y z c h1 h2 => ?_, fun y hy => ?_, fun y c _ h => ?_, fun _ => hd, Around.frames_deeper e0.frames, .inr ⟨rfl, rfl⟩, fun b z => absurd z (noA b), e0.bs, e0.bsz, fun b _ _ => noA b, fun b z => absurd z (noA b), e0.funs, e0.frf⟩,
    rfl, e0.bare, Un.kept hk, ⟨_, x.toInCall.ns, fun i y v h1 h2 h3 => ?_⟩, fun y c h => ⟨_, x.cell y c h⟩, e0.hok.fresh (Nat.le_refl _), fun y c h => ?_, fun p hp => absurd (show p ∈ ([] : List (Addr × Obj)) from hp) (by simp), e0.hok.kept hk, ?_⟩
  · exact name_of_addr x.apart (PySem.mem_of_lookup h1) (PySem.mem_of_lookup h2)
  · have hy : scope.names.lookup y = some .cell ∨ scope.names.lookup y = some .free := hy
    rcases hy with hy | hy
    · exact cell_has hy
    · exact absurd rfl (S.nofree _ (PySem.mem_of_lookup hy))
  · exact Nat.le_of_lt (x.above y c (PySem.mem_of_lookup h))
  · have hi : i < vs.length := by
      unfold start at h2
      by_cases hi : i < vs.length
      · exact hi
      · rw [List.getElem?_append_right (by simpa using hi)] at h2
        rw [List.getElem?_replicate] at h2
        split at h2 <;> cases h2
    have ha : vs[i]? = some v := by
      unfold start at h2
      rw [List.getElem?_append_left (by simpa using hi), List.getElem?_map] at h2
      cases e : vs[i]? with
      | none => rw [e] at h2; cases h2
      | some a => rw [e] at h2; cases h2; rfl
    obtain ⟨u, hu, rv⟩ := r.get ha
    have hp : ps[i]? = some y := by
      rw [← S.pre, List.getElem?_take_of_lt (by omega)]; exact h1
    have ndP : ps.Nodup := by rw [← S.pre]; exact S.nd.sublist (List.take_sublist _ _)
    refine ⟨u, rv, ?_⟩
    rcases S.par y (List.mem_of_getElem? hp) with k | k
    · exact .inl ⟨k, bindL_get ndP hp hu k⟩
    · obtain ⟨c, e⟩ := cell_has (n := s.heap.objs.size + 1) k
      refine .inr ⟨.inl k, c, e, ?_⟩
      have q := x.cell y c e
      rw [bindC_get ndP hp hu (by show scope.names.lookup y ≠ _; rw [k]; decide)] at q
      exact q
  · exact e0.hok.fresh (Nat.le_of_lt (x.above y c (PySem.mem_of_lookup h)))
  · unfold start
    show _ = N.length
    rw [List.length_append, List.length_map, List.length_replicate]
    omega

theorem fn_of {CX : CXT} {P : Program} {w : World} {K : PySem.W.Frag} {mg : Str → Option Value} {base : Heap} {k : Nat} {f : Addr} {name qual : Str} {params : Arguments} {body : List Stmt} {scope : Scope} {dV kV doc pm cdv ct oc : Value} {an od : Option Addr}
    {osl : Array (Option Value)} {N ps : List Str} {sp : Sp} (lk : K.lookup f = some ⟨oc, od, .func (PySem.W.fnOf name qual params body scope dV kV doc pm an cdv ct), osl⟩) (hcd : PySem.W.codeIn K cdv qual = true) (S : FnScope N ps scope)
    (len : ∀ vs H Q E, sp vs H Q E → vs.length = ps.length)
    (hbody : ∀ (A : Around) (outer : List Env) (s : Shared) (H : Hp) (vs : List V) (Q : VK) (E : XK), Room k (A.deeper (envOfC qual scope s.heap.objs.size f cdv)) → sp vs H Q E →
      ∃ t, PSs (cxOf CX P w K mg base N qual scope f cdv A outer s H E) body t ∧ t { nx := fun _ H' => Q .non H', rt := Q } (start N vs) H) :
    FnOk P w K mg base CX (k + 1) f (PySem.W.fnOf name qual params body scope dV kV doc pm an cdv ct) ps sp := by
  refine ⟨len, fun A outer s H args us vs Q E hr e0 hb r hsp => ?_⟩
  have hl := len _ _ _ _ hsp
  have KX : K.In s.heap := e0.mod.kin.keeps fun b o e => (e0.bs b o e).1
  have lim : s.heap.NoLimit := e0.mod.nolimit.keeps fun b o e => (e0.bs b o e).1
  have hkind : ∀ y ∈ ps.zip us, scope.names.lookup y.1 = some .local ∨ (scope.names.lookup y.1 = some .cell ∧ ((cellsFrom (s.heap.objs.size + 1) scope.names []).lookup y.1).isSome = true) := fun ⟨n, v⟩ hy => by
    rcases S.par n (List.of_mem_zip hy).1 with q | q
    · exact .inl q
    · exact .inr ⟨q, PySem.W.cellsFrom_some _ _ _ (.inl q)⟩
  refine codeAny_call_function hr.depth (KX _ _ lk) rfl S.co S.gen rfl (PySem.W.codeRec_of KX hcd) (hb _ _ _ _ ?_)
  refine wpAny_newFunctionEnv_cells S.kind hkind fun env he s1 x => ?_
  subst he
  refine ⟨lim.keeps x.toInCall.keep, codeAny_func ?_⟩
  obtain ⟨t, ht, hq⟩ := hbody A outer s H vs Q E (hr.deeper _) hsp
  have I : Inv (cxOf CX P w K mg base N qual scope f cdv A outer s H E) [] (start N vs) H s1 := inv_start S hr.hd e0 hl r x
  refine wpAny_mono (ht [] s1 (start N vs) H _ I hq) (fun fl s' hs => ?_) fun e s' hs => hs
  have fin : ∀ {σ' : St} {H' : Hp} {v : V} {u : Value}, Inv (cxOf CX P w K mg base N qual scope f cdv A outer s H E) [] σ' H' s' → RelV v u → Q v H' → CE outer P w H s Q u s' :=
    fun {σ' H' v u} J rv q => ⟨v, H', J.os, J.bare, J.base, J.hok, rv, q⟩
  cases fl with
  | ret u =>
    obtain ⟨v, σ', H', J, rv, q⟩ := hs
    exact fin J rv q
  | next =>
    obtain ⟨σ', H', J, q⟩ := hs
    exact fin (v := V.non) (u := Value.none) J rfl q
  | brk =>
    obtain ⟨_, _, _, q⟩ := hs
    exact False.elim q
  | cont =>
    obtain ⟨_, _, _, q⟩ := hs
    exact False.elim q
end L2

namespace L2
open PySem PySem.Spec PyProof.Rows
section
variable {X : Cx} {x : Str} {p pos : Pos} {e : Expr} {es : List Expr} {t : TA} {id T : String} {r : List V → Hp → VK → Prop}

def tCB (r : List V → Hp → VK → Prop) (t : TA) : TE := fun σ H Q => t σ H fun vs H1 => r vs H1 Q
theorem pe_callB (hc : CallR X (.builtin id) r) (hg : Gl X x) (hm : X.mg x = none) (hv : bootBuiltins x = some (.builtin id)) (ha : PA X (e :: es) t) (hn : x ≠ "__name__" := by decide) (hdb : (x == ("__debug__" : Str)) = false := by decide)
    (he : starEach (e :: es) X.env = (false, eval e X.env) :: starEach es X.env := by rfl) (hpl : (backTo pos (starEach es X.env)).any (·.1) = false := by rfl) : PE X (.Call (.Name x p) (e :: es) [] pos) (tCB r t) := by
  intro pins s σ H Q I h
  refine wpAny_Call_Name_kw (ld_blt I hg hm hv ?_ hn hdb)
  exact PyProof.Rows.callWith_builtin1 (thn (ha pos pins s σ H _ I h) fun us s1 ⟨vs, H1, I1, r1, q1⟩ => hc pins s1 σ H1 vs us Q I1 r1 q1) he hpl
theorem pe_callTy (hc : CallR X (.type T) r) (hg : Gl X x) (hm : X.mg x = none) (hv : bootBuiltins x = some (.type T)) (ha : PA X (e :: es) t) (hn : x ≠ "__name__" := by decide) (hdb : (x == ("__debug__" : Str)) = false := by decide)
    (he : starEach (e :: es) X.env = (false, eval e X.env) :: starEach es X.env := by rfl) (hpl : (backTo pos (starEach es X.env)).any (·.1) = false := by rfl) : PE X (.Call (.Name x p) (e :: es) [] pos) (tCB r t) := by
  intro pins s σ H Q I h
  refine wpAny_Call_Name_kw (ld_blt I hg hm hv ?_ hn hdb)
  exact PyProof.Rows.callWith_type1 (thn (ha pos pins s σ H _ I h) fun us s1 ⟨vs, H1, I1, r1, q1⟩ => hc pins s1 σ H1 vs us Q I1 r1 q1) he hpl
end
end L2

namespace HT
open PySem PyProof.Rows

section
open PySem.SeqAt
open PySem.AutoSeq1 (wpAny_loadPart')
open PySem.MeetsSeq PySem.MeetsSeq2 PySem.MeetsSeq3

end

section
variable {prog : Program} {w : World} {A : Around} {E : Value → Shared → Prop} {s : Shared}

theorem cat_tup {t b : Addr} {vs ws : List Value} {Q : Value → Shared → Prop} (ht : IsTup s.heap t vs.toArray) (hb : IsTup s.heap b ws.toArray) (hv : vs ≠ [])
    (h1 : ws = [] → Q (.ref t) s) (h2 : ws ≠ [] → Q (.ref s.heap.objs.size) { s with heap := s.heap.push { cls := .type "tuple", data := .seq (vs ++ ws).toArray } })
    (hsz : vs.length + ws.length ≤ sizeLine) : wpAny (model prog w) A (binaryOp .Add (.ref t) (.ref b)) Q E s := by
  obtain ⟨⟨cls, dd, data, sl⟩, ho, hc, n, hd⟩ := id ht
  obtain ⟨⟨cls2, dd2, data2, sl2⟩, ho2, hc2, n2, hd2⟩ := id hb
  simp only at hc hd hc2 hd2
  subst hc hd hc2 hd2
  have e : vs.toArray ++ ws.toArray = (vs ++ ws).toArray := by simp
  by_cases hw : ws = []
  · exact concat_meets ⟨_, ho, rfl⟩ ⟨_, ho2, rfl⟩ noFill_tuple_add seq_tuple_add PySem.F.slot_tuple_add PySem.F.entry_tuple_add (PySem.F.args_tuple_add_2 _ _)
      (tuple_addW1 t b vs.toArray ws.toArray n n2 dd dd2 sl sl2 (by simpa using hv) (by simp [hw])) ⟨ho, ho2, h1 hw⟩
  · refine concat_meets ⟨_, ho, rfl⟩ ⟨_, ho2, rfl⟩ noFill_tuple_add seq_tuple_add PySem.F.slot_tuple_add PySem.F.entry_tuple_add (PySem.F.args_tuple_add_2 _ _)
      (tuple_addW2 t b vs.toArray ws.toArray n n2 dd dd2 sl sl2 (by simpa using hv) (by simpa using hw) (by rw [List.size_toArray, List.size_toArray]; exact hsz)) ⟨ho, ho2, ?_⟩
    rw [e]
    exact h2 hw

def sIx (n d : Nat) : Option Int → Nat
  | none => d
  | some v => if v < 0 then (v + (n : Int)).toNat else min v.toNat n
theorem sIx_none (n d : Nat) : sIx n d none = d := rfl
theorem sIx_nat (n d k : Nat) : sIx n d (some (k : Int)) = min k n := by
  show (if (k : Int) < 0 then ((k : Int) + (n : Int)).toNat else min (k : Int).toNat n) = min k n
  rw [if_neg (by omega), Int.toNat_natCast]
end
end HT

namespace L2
open PySem PySem.Spec PyProof.Rows

abbrev TO := St → Hp → (Option Int → Hp → Prop) → Prop
def PO (X : Cx) (e : Option Expr) (t : TO) : Prop :=
  ∀ (pins : List (Addr × Obj)) (s : Shared) (σ : St) (H : Hp) (Q : Option Int → Hp → Prop), Inv X pins σ H s → t σ H Q →
    wpAny (model X.prog X.w) X.A (evalPart e X.env) (fun u s' => ∃ o H', Inv X pins σ H' s' ∧ IsPart u o ∧ Q o H') X.xe s
def tNoPart : TO := fun _ H Q => Q none H
def tPart (t : TE) : TO := fun σ H Q => t σ H fun x H1 => ∃ i, x = .int i ∧ Q (some i) H1

section
variable {X : Cx} {e : Expr} {te : TE} {lo hi : Option Expr} {tl th : TO} {pos p2 : Pos}

theorem po_none : PO X none tNoPart := by
  intro pins s σ H Q I h
  rw [evalPart_none]
  exact wpAny_pure ⟨none, H, I, .none, h⟩
theorem po_some (h : PE X e te) : PO X (some e) (tPart te) := by
  intro pins s σ H Q I hw
  rw [evalPart_some]
  refine thn (h pins s σ H _ I hw) fun u s1 ⟨x, H1, I1, r1, q1⟩ => ?_
  obtain ⟨i, rfl, q⟩ := q1
  obtain ⟨t, rfl⟩ := r1
  exact ⟨some i, H1, I1, .int i t, q⟩

def SlR (X : Cx) (r : V → Option Int → Option Int → Hp → VK → Prop) : Prop :=
  ∀ (pins : List (Addr × Obj)) (s : Shared) (σ : St) (H : Hp) (x : V) (v vl vu : Value) (lo hi : Option Int) (sl : Addr) (Q : VK), Inv X pins σ H s → RelV x v → s.heap.IsSliceOf sl vl vu .none → IsPart vl lo → IsPart vu hi → r x lo hi H Q →
    ∃ T id, typeLookup (.type T) "__getitem__" = pure (some (.builtin id)) ∧ s.TypeIs v T ∧ wpAny (model X.prog X.w) X.A (getItem v (.ref sl)) (EP X pins σ Q) X.xe s
def tSl (r : V → Option Int → Option Int → Hp → VK → Prop) (te : TE) (tl th : TO) : TE := fun σ H Q => te σ H fun x H1 => tl σ H1 fun l H2 => th σ H2 fun u H3 => r x l u H3 Q
theorem pe_slice {r : V → Option Int → Option Int → Hp → VK → Prop} (hr : SlR X r) (he : PE X e te) (hl : PO X lo tl) (hu : PO X hi th) : PE X (.Subscript e (.Slice lo hi none p2) pos) (tSl r te tl th) := by
  intro pins s σ H Q I h
  refine Subscript_ (thn (he pins s σ H _ I h) fun v s1 ⟨x, H1, I1, r1, q1⟩ => ?_)
  refine wpAny_Slice (thn (hl pins s1 σ H1 _ I1 q1) fun vl s2 ⟨l, H2, I2, pl, q2⟩ => thn (hu pins s2 σ H2 _ I2 q2) fun vu s3 ⟨u, H3, I3, pu, q3⟩ => ?_)
  rw [evalPart_none]
  refine wpAny_pure ?_
  have I4 : Inv X pins σ H3 { s3 with heap := s3.heap.push { cls := .type "slice", data := .fields #[vl, vu, .none] } } := I3.kept (t' := s3.toks) fun b ob q => Heap.get?_push_of_some _ q
  obtain ⟨T, id, hT, ht, hg⟩ := hr pins { s3 with heap := s3.heap.push { cls := .type "slice", data := .fields #[vl, vu, .none] } } σ H3 x v vl vu l u s3.heap.objs.size Q I4 r1 (Heap.IsSliceOf.new ..) pl pu q3
  show wpAny (model X.prog X.w) X.A (subscriptTail e (.Slice lo hi none p2) v (.ref s3.heap.objs.size)) (EP X pins σ Q) X.xe { s3 with heap := s3.heap.push { cls := .type "slice", data := .fields #[vl, vu, .none] } }
  exact tail_any (ops := [.ref s3.heap.objs.size, v]) ht hT hg (by with_unfolding_all rfl)

def cutV (xs : List V) (lo hi : Option Int) : List V := (xs.drop (HT.sIx xs.length 0 lo)).take (HT.sIx xs.length xs.length hi - HT.sIx xs.length 0 lo)
def rCatT (K : PySem.W.Frag) : R2 := fun x y H Q => ∃ a b xs ys, x = .ref a ∧ y = .ref b ∧ SqT K H a xs ∧ SqT K H b ys ∧ xs ≠ [] ∧ xs.length + ys.length ≤ sizeLine ∧
  (ys = [] → Q (.ref a) H) ∧ (ys ≠ [] → ∀ p, H p = none → Q (.ref p) (upd H p (.tup (xs ++ ys))))
theorem Vals.nil_iff {xs : List V} {us : List Value} (r : Vals xs us) : us = [] ↔ xs = [] := by
  cases r with
  | nil => simp
  | cons _ _ => simp
theorem op_catT : OpR X (binaryOp .Add) (rCatT X.K) := by
  intro pins s σ H x y v u Q I rx ry h
  obtain ⟨a, b, xs, ys, rfl, rfl, ha, hb, hx, hz, q1, q2⟩ := h
  cases rx
  cases ry
  obtain ⟨its, r1, p1, _⟩ := I.tuple ha
  obtain ⟨its2, r2, p2, _⟩ := I.tuple hb
  refine HT.cat_tup p1 p2 (fun z => hx (r1.nil_iff.mp z)) (fun z => ⟨.ref a, H, I, rfl, q1 (r2.nil_iff.mp z)⟩) (fun z => ?_) (by rw [← r1.length, ← r2.length]; exact hz)
  refine ⟨.ref s.heap.objs.size, _, I.laid (t' := s.toks) (o := .tup (xs ++ ys)) (fun b ob q => Heap.get?_push_of_some _ q) (Nat.le_refl _) ?_, rfl, q2 (fun w => z (r2.nil_iff.mpr w)) _ (I.hok.fresh (Nat.le_refl _))⟩
  exact ⟨by rw [List.length_append]; exact hz, _, r1.append r2, IsTup.new _ _, _, Heap.get?_push_size _ rfl, rfl⟩
end
end L2

namespace L2
open PySem PySem.Spec PyProof.Rows

def ixN (n : Nat) (i : Int) : Option Nat := if 0 ≤ i then (if i < n then some i.toNat else none) else if -(n : Int) ≤ i then some (i + n).toNat else none
def atI {α : Type} (xs : List α) (i : Int) : Option α := (ixN xs.length i).bind fun j => xs[j]?
theorem ixN_seq {n : Nat} {i : Int} {j : Nat} (h : ixN n i = some j) : seqIndex? i n = some j ∧ j < n ∧ -(n : Int) ≤ i ∧ i < n := by
  unfold ixN at h
  by_cases h0 : 0 ≤ i
  · rw [if_pos h0] at h
    by_cases h1 : i < n
    · rw [if_pos h1] at h
      have e : i.toNat = j := Option.some.inj h
      exact ⟨by rw [seqIndex_of h0 h1, e], by omega, by omega, h1⟩
    · rw [if_neg h1] at h; cases h
  · rw [if_neg h0] at h
    by_cases h1 : -(n : Int) ≤ i
    · rw [if_pos h1] at h
      have e : (i + n).toNat = j := Option.some.inj h
      exact ⟨by rw [seqIndex_neg (by omega) h1, e], by omega, h1, by omega⟩
    · rw [if_neg h1] at h; cases h
theorem atI_get {α : Type} {xs : List α} {i : Int} {v : α} (h : atI xs i = some v) : ∃ j, seqIndex? i xs.length = some j ∧ xs[j]? = some v ∧ j < xs.length ∧ -(xs.length : Int) ≤ i ∧ i < xs.length := by
  unfold atI at h
  cases e : ixN xs.length i with
  | none => rw [e] at h; cases h
  | some j =>
    rw [e] at h
    obtain ⟨h1, h2, h3, h4⟩ := ixN_seq e
    exact ⟨j, h1, h, h2, h3, h4⟩
theorem atI_nat {α : Type} {xs : List α} {j : Nat} {v : α} (h : xs[j]? = some v) : atI xs (j : Int) = some v := by
  have hj : j < xs.length := (List.getElem?_eq_some_iff.mp h).1
  have e : ixN xs.length (j : Int) = some j := by
    unfold ixN
    rw [if_pos (by omega), if_pos (by omega)]; simp
  unfold atI; rw [e]; exact h
def PlainIx (b : Expr) : Prop := ∀ o i, subscripted b false o i = operate [o, i] (getItem o i)
def IxR (X : Cx) (r : R2) : Prop :=
  ∀ (value slice : Expr) (pins : List (Addr × Obj)) (s : Shared) (σ : St) (H : Hp) (x y : V) (v u : Value) (Q : VK), Inv X pins σ H s → RelV x v → RelV y u → r x y H Q →
    subscripted slice false v u = operate [v, u] (getItem v u) → wpAny (model X.prog X.w) X.A (subscriptTail value slice v u) (EP X pins σ Q) X.xe s
def MtR (X : Cx) (id : String) (r : V → List V → Hp → VK → Prop) : Prop :=
  ∀ (pins : List (Addr × Obj)) (s : Shared) (σ : St) (H : Hp) (x : V) (xs : List V) (v : Value) (us : List Value) (Q : VK), Inv X pins σ H s → RelV x v → Vals xs us → r x xs H Q →
    wpAny (model X.prog X.w) X.A (call (.builtin id) (v :: us)) (EP X pins σ Q) X.xe s
section
variable {X : Cx} {a b : Expr} {ta tb : TE} {pos : Pos}
theorem pe_ix {r : R2} (hr : IxR X r) (ha : PE X a ta) (hb : PE X b tb) (hs : PlainIx b) : PE X (.Subscript a b pos) (tOp r ta tb) := by
  intro pins s σ H Q I h
  exact Subscript_ (binT ha hb I h fun v u s2 x y H2 I2 rx ry q => hr a b pins s2 σ H2 x y v u Q I2 rx ry q (hs _ _))

def rIxL (K : PySem.W.Frag) : R2 := fun x y H Q => ∃ p xs i v, x = .ref p ∧ y = .int i ∧ SqL K H p xs ∧ atI xs i = some v ∧ Q v H
def rIxT (K : PySem.W.Frag) : R2 := fun x y H Q => ∃ p xs i v, x = .ref p ∧ y = .int i ∧ SqT K H p xs ∧ atI xs i = some v ∧ Q v H
def rIxS : R2 := fun x y H Q => ∃ z i c, x = .str z ∧ y = .int i ∧ z.length ≤ sizeLine ∧ atI z.cps.toList i = some c ∧ Q (.str ⟨#[c]⟩) H
theorem ix_list : IxR X (rIxL X.K) := by
  intro value slice pins s σ H x y v u Q I rx ry h hs
  obtain ⟨p, xs, i, z, rfl, rfl, hq, he, q⟩ := h
  cases rx
  obtain ⟨t, rfl⟩ := ry
  obtain ⟨its, r, pl, hz⟩ := I.list hq
  obtain ⟨j, h1, h2, h3, h4, h5⟩ := atI_get he
  obtain ⟨w, ew, rw'⟩ := r.get h2
  have hl := r.length
  have hn := line63
  have fin : EP X pins σ Q w s := ⟨z, H, I, rw', q⟩
  by_cases h0 : 0 ≤ i
  · have hj : i.toNat = j := by
      rw [seqIndex_of h0 h5] at h1
      exact Option.some.inj h1
    exact item_listR pl.isList h0 (by omega) (by rw [hj]; simpa using ew) fin hs
  · have hj : (i + (its.toArray.size : Int)).toNat = j := by
      rw [seqIndex_neg (by omega) h4] at h1
      rw [List.size_toArray, ← hl]
      exact Option.some.inj h1
    exact subscriptTail_builtinR (x := w) pl.isList.typeIs slot_list_getitem.lookup
      (wpAny_getItem_list_neg (Q := fun r s' => r = w ∧ EP X pins σ Q r s') pl.isList (by omega) (by rw [List.size_toArray] <;> omega) (by omega) (by rw [hj]; simpa using ew) ⟨rfl, fin⟩) hs
theorem ix_tup : IxR X (rIxT X.K) := by
  intro value slice pins s σ H x y v u Q I rx ry h hs
  obtain ⟨p, xs, i, z, rfl, rfl, hq, he, q⟩ := h
  cases rx
  obtain ⟨t, rfl⟩ := ry
  obtain ⟨its, r, pl, hz⟩ := I.tuple hq
  obtain ⟨j, h1, h2, h3, h4, h5⟩ := atI_get he
  obtain ⟨w, ew, rw'⟩ := r.get h2
  have hl := r.length
  have hn := line63
  have fin : EP X pins σ Q w s := ⟨z, H, I, rw', q⟩
  exact subscriptTail_builtinR (x := w) pl.typeIs slot_tuple_getitem.lookup
    (getItem_tuple (j := j) (Q := fun r s' => r = w ∧ EP X pins σ Q r s') pl (by omega) (by omega) (by rw [List.size_toArray, ← hl]; exact h1) (by simpa using ew) ⟨rfl, fin⟩) hs
theorem ix_str : IxR X rIxS := by
  intro value slice pins s σ H x y v u Q I rx ry h hs
  obtain ⟨z, i, c, rfl, rfl, hz, he, q⟩ := h
  obtain ⟨t, rfl⟩ := rx
  obtain ⟨t', rfl⟩ := ry
  obtain ⟨j, h1, h2, h3, h4, h5⟩ := atI_get he
  have hl : z.cps.toList.length = z.length := by simp [Str.length]
  rw [hl] at h1 h4 h5
  have hn := line63
  exact tail_any (typeIs_str s z t) slot_str_getitem.lookup (getItem_str (c := c) (by
    have e1 : decide (i < -(2 ^ 63 : Int)) = false := decide_eq_false (by omega)
    have e2 : decide (i ≥ 2 ^ 63) = false := decide_eq_false (by omega)
    rw [e1, e2, Bool.or_false]) (by rw [h1]; simpa using h2) ⟨.str ⟨#[c]⟩, H, I.tok _, ⟨_, rfl⟩, q⟩) hs
def rIx (K : PySem.W.Frag) : R2 := fun x y H Q => rIxL K x y H Q ∨ rIxT K x y H Q ∨ rIxS x y H Q
theorem Inv.lst {pins : List (Addr × Obj)} {σ : St} {H : Hp} {s : Shared} {p : Addr} {xs : List V} (I : Inv X pins σ H s) (h : H p = some (.lst xs)) :
    ∃ (its : List Value) (n : Nat), Vals xs its ∧ s.heap.get? p = some { cls := .type "list", data := .seq its.toArray n } ∧ xs.length ≤ sizeLine := by
  obtain ⟨z, its, n, r, e⟩ := I.hok p _ h
  exact ⟨its, n, r, e, z⟩
def rSetL : V → V → V → Hp → (Hp → Prop) → Prop := fun o i v H Q => ∃ p xs k j, o = .ref p ∧ i = .int k ∧ H p = some (.lst xs) ∧ ixN xs.length k = some j ∧ Q (upd H p (.lst (xs.set j v)))
theorem slice_bounds (lo hi : Option Int) (n : Nat) : (sliceBounds lo hi none n).1 = ((HT.sIx n 0 lo : Nat) : Int) ∧ (sliceBounds lo hi none n).2.1 = ((HT.sIx n n hi : Nat) : Int) ∧ (sliceBounds lo hi none n).2.2 = 1 := by
  refine ⟨?_, ?_, rfl⟩
  · cases lo with
    | none => simp [sliceBounds, HT.sIx]
    | some i =>
      simp only [sliceBounds, HT.sIx, Option.getD_none, show (1 : Int) > 0 by decide, if_true]
      by_cases h : i < 0
      · simp only [h, if_true] <;> omega
      · simp only [h, if_false] <;> omega
  · cases hi with
    | none => simp [sliceBounds, HT.sIx]
    | some i =>
      simp only [sliceBounds, HT.sIx, Option.getD_none, show (1 : Int) > 0 by decide, if_true]
      by_cases h : i < 0
      · simp only [h, if_true] <;> omega
      · simp only [h, if_false] <;> omega
def rSlL (K : PySem.W.Frag) : V → Option Int → Option Int → Hp → VK → Prop := fun x lo hi H Q => ∃ a xs, x = .ref a ∧ SqL K H a xs ∧ ∀ p, H p = none → Q (.ref p) (upd H p (.lst (cutV xs lo hi)))
def flatV : V → Bool
  | .non => true
  | .bl _ => true
  | .int _ => true
  | .str _ => true
  | _ => false
def eqV : V → V → Bool
  | .non, .non => true
  | .bl a, .bl b => a == b
  | .bl a, .int b => (if a then 1 else 0) == b
  | .int a, .bl b => a == (if b then 1 else 0)
  | .int a, .int b => a == b
  | .str a, .str b => a == b
  | _, _ => false
theorem eqAt_V {A : Around} {s : Shared} {y x : V} {u v : Value} (ry : RelV y u) (rx : RelV x v) (fy : flatV y = true) (fx : flatV x = true) : SeqAt.EqAt A s u v (eqV y x) := by
  cases y with
  | non =>
    cases ry
    cases x with
    | non => cases rx; exact SeqAt.EqAt.same _
    | bl b => cases rx; exact SeqAt.EqAt.none_bool b
    | int b => obtain ⟨t, rfl⟩ := rx; exact SeqAt.EqAt.none_int b t
    | str b => obtain ⟨t, rfl⟩ := rx; exact SeqAt.EqAt.none_str b t
    | _ => exact absurd (show false = true from fx) Bool.false_ne_true
  | bl a =>
    cases ry
    cases x with
    | non => cases rx; exact SeqAt.EqAt.bool_none a
    | bl b => cases rx; exact SeqAt.EqAt.bool_bool a b
    | int b => obtain ⟨t, rfl⟩ := rx; exact SeqAt.EqAt.bool_int a b t
    | str b => obtain ⟨t, rfl⟩ := rx; exact SeqAt.EqAt.bool_str a b t
    | _ => exact absurd (show false = true from fx) Bool.false_ne_true
  | int a =>
    obtain ⟨t', rfl⟩ := ry
    cases x with
    | non => cases rx; exact SeqAt.EqAt.int_none a t'
    | bl b => cases rx; exact SeqAt.EqAt.int_bool a t' b
    | int b => obtain ⟨t, rfl⟩ := rx; exact SeqAt.EqAt.int_int a t' b t
    | str b => obtain ⟨t, rfl⟩ := rx; exact SeqAt.EqAt.int_str a t' b t
    | _ => exact absurd (show false = true from fx) Bool.false_ne_true
  | str a =>
    obtain ⟨t', rfl⟩ := ry
    cases x with
    | non => cases rx; exact SeqAt.EqAt.str_none a t'
    | bl b => cases rx; exact SeqAt.EqAt.str_bool a t' b
    | int b => obtain ⟨t, rfl⟩ := rx; exact SeqAt.EqAt.str_int a t' b t
    | str b => obtain ⟨t, rfl⟩ := rx; exact SeqAt.EqAt.str_str a t' b t
    | _ => exact absurd (show false = true from fx) Bool.false_ne_true
  | _ => exact absurd (show false = true from fy) Bool.false_ne_true
def eqU (x : V) (u : Value) : Bool := match u with
  | .none => eqV .non x
  | .bool b => eqV (.bl b) x
  | .int i _ => eqV (.int i) x
  | .str z _ => eqV (.str z) x
  | _ => false
theorem eqU_of {x y : V} {u : Value} (r : RelV y u) (f : flatV y = true) : eqU x u = eqV y x := by
  cases y with
  | non => cases r; rfl
  | bl b => cases r; rfl
  | int i => obtain ⟨t, rfl⟩ := r; rfl
  | str z => obtain ⟨t, rfl⟩ := r; rfl
  | _ => exact absurd (show false = true from f) Bool.false_ne_true
theorem any_eqU {x : V} : ∀ {xs : List V} {us : List Value}, Vals xs us → xs.all flatV = true → us.any (eqU x) = xs.any fun y => eqV y x
  | _, _, .nil, _ => rfl
  | y :: xs, u :: us, .cons r t, f => by
    rw [List.all_cons, Bool.and_eq_true] at f
    rw [List.any_cons, List.any_cons, eqU_of r f.1, any_eqU t f.2]
theorem mem_eqAt {A : Around} {s : Shared} {x : V} {v : Value} (rx : RelV x v) (fx : flatV x = true) : ∀ {xs : List V} {us : List Value}, Vals xs us → xs.all flatV = true → ∀ u ∈ us, SeqAt.EqAt A s u v (eqU x u)
  | _, _, .nil, _ => fun u hu => by cases hu
  | y :: xs, u :: us, .cons r t, f => fun u' hu => by
    rw [List.all_cons, Bool.and_eq_true] at f
    rcases List.mem_cons.mp hu with rfl | hu
    · rw [eqU_of r f.1]; exact eqAt_V r rx f.1 fx
    · exact mem_eqAt rx fx t f.2 u' hu
def inV (x : V) (xs : List V) : Bool := xs.any fun y => eqV y x
def rIn (K : PySem.W.Frag) (neg : Bool) : R2 := fun x y H Q => ∃ p xs, y = .ref p ∧ (SqL K H p xs ∨ SqT K H p xs) ∧ flatV x = true ∧ xs.all flatV = true ∧ Q (.bl (if neg then !inV x xs else inV x xs)) H
theorem op_in_seq : OpR X (compareOp .In) (rIn X.K false) := by
  intro pins s σ H x y v u Q I rx ry h
  obtain ⟨p, xs, rfl, hq, fx, fs, q⟩ := h
  cases ry
  rcases hq with hq | hq
  · obtain ⟨its, r, pl, hz⟩ := I.list hq
    refine SeqAt.in_listAt (eqU x) pl.isList (fun w hw => mem_eqAt rx fx r fs w (by simpa using hw)) ⟨.bl _, H, I, rfl, ?_⟩
    rw [show its.toArray.any (eqU x) = its.any (eqU x) by simp, any_eqU r fs]
    exact q
  · obtain ⟨its, r, pl, hz⟩ := I.tuple hq
    refine SeqAt.in_tupleAt (eqU x) pl (fun w hw => mem_eqAt rx fx r fs w (by simpa using hw)) ⟨.bl _, H, I, rfl, ?_⟩
    rw [show its.toArray.any (eqU x) = its.any (eqU x) by simp, any_eqU r fs]
    exact q
theorem call_len_seq : CallR X (.builtin "len") (fun xs H Q => ∃ p ys, xs = [.ref p] ∧ (SqL X.K H p ys ∨ SqT X.K H p ys) ∧ Q (.int ys.length) H) := by
  intro pins s σ H xs us Q I r h
  obtain ⟨p, ys, rfl, hq, q⟩ := h
  obtain ⟨u, rfl, rx⟩ := vals1 r
  cases rx
  have hn := line63
  rcases hq with hq | hq
  · obtain ⟨its, r', pl, hz⟩ := I.list hq
    have hlen := r'.length
    exact Calls.call_len_list pl.isList (by simp only [List.size_toArray] <;> omega) ⟨.int ys.length, H, I.tok _, ⟨s.toks + 1, by rw [List.size_toArray, hlen]⟩, q⟩
  · obtain ⟨its, r', pl, hz⟩ := I.tuple hq
    have hlen := r'.length
    exact len_tuple pl (by simp only [List.size_toArray] <;> omega) ⟨.int ys.length, H, I.tok _, ⟨s.toks + 1, by rw [List.size_toArray, hlen]⟩, q⟩
theorem call_len_str : CallR X (.builtin "len") (fun xs H Q => ∃ z, xs = [.str z] ∧ z.length ≤ sizeLine ∧ Q (.int z.length) H) := by
  intro pins s σ H xs us Q I r h
  obtain ⟨z, rfl, hz, q⟩ := h
  obtain ⟨u, rfl, t, rfl⟩ := vals1 r
  have hn := line63
  exact len_str (by omega) ⟨.int z.length, H, I.tok _, ⟨_, rfl⟩, q⟩
theorem call_list_of : CallR X (.type "list") (fun xs H Q => ∃ p ys, xs = [.ref p] ∧ (SqL X.K H p ys ∨ SqT X.K H p ys) ∧ ∀ l, H l = none → Q (.ref l) (upd H l (.lst ys))) := by
  intro pins s σ H xs us Q I r h
  obtain ⟨p, ys, rfl, hq, q⟩ := h
  obtain ⟨u, rfl, rx⟩ := vals1 r
  cases rx
  have fin : ∀ (its : List Value), Vals ys its → ys.length ≤ sizeLine → ∀ (h' : Heap) (c' : Nat), (∀ b o', s.heap.get? b = some o' → h'.get? b = some o') →
      h'.get? s.heap.objs.size = some { cls := .type "list", dict := none, data := .seq its.toArray c', slots := #[] } → EP X pins σ Q (.ref s.heap.objs.size) { s with heap := h' } := fun its r' hz h' c' kp e =>
    ⟨.ref s.heap.objs.size, _, I.laid (t' := s.toks) kp (Nat.le_refl _) (show ObjOk X.prog X.w _ h' _ (.lst ys) from ⟨hz, its, c', r', e⟩), rfl, q _ (I.hok.fresh (Nat.le_refl _))⟩
  rcases hq with hq | hq
  · obtain ⟨its, r', pl, hz⟩ := I.list hq
    have hlen := r'.length
    obtain ⟨o, ho, hc, n, hd⟩ := pl.isList
    exact call_list_seq p (.inl rfl) ho hc hd (fun h' c' kp e => fin its r' hz h' c' kp e) (by simp only [List.size_toArray] <;> omega)
  · obtain ⟨its, r', pl, hz⟩ := I.tuple hq
    have hlen := r'.length
    obtain ⟨o, ho, hc, n, hd⟩ := pl
    exact call_list_seq p (.inr rfl) ho hc hd (fun h' c' kp e => fin its r' hz h' c' kp e) (by simp only [List.size_toArray] <;> omega)
def tyV (K : PySem.W.Frag) (T : String) (x : V) (H : Hp) : Prop := match x with
  | .str _ => T = "str"
  | .int _ => T = "int"
  | .ref p => (T = "list" ∧ ∃ xs, SqL K H p xs) ∨ (T = "tuple" ∧ ∃ o, K.lookup p = some o ∧ o.cls = .type "tuple" ∧ o.dict = none) ∨
      (T = "dict" ∧ ((∃ kvs, H p = some (.dK kvs)) ∨ ∃ kvs, H p = some (.dT kvs))) ∨ (T = "set" ∧ ∃ S n, H p = some (.set S n))
  | _ => False
theorem tyV_is {pins : List (Addr × Obj)} {σ : St} {H : Hp} {s : Shared} {T : String} {x : V} {v : Value} (I : Inv X pins σ H s) (r : RelV x v) (ty : tyV X.K T x H) :
    s.TypeIs v T ∧ ∀ a, v = .ref a → ∃ ob, s.heap.get? a = some ob ∧ ob.dict = none := by
  cases x with
  | str z =>
    obtain ⟨t, rfl⟩ := r
    cases (show T = "str" from ty)
    exact ⟨typeIs_str s z t, fun _ e => nomatch e⟩
  | int i =>
    obtain ⟨t, rfl⟩ := r
    cases (show T = "int" from ty)
    exact ⟨typeIs_int s i t, fun _ e => nomatch e⟩
  | ref p =>
    cases r
    rcases ty with ⟨rfl, xs, hq⟩ | ⟨rfl, o, hk, hc, hd⟩ | ⟨rfl, hk⟩ | ⟨rfl, S, n, hk⟩
    · obtain ⟨its, _, pl, _⟩ := I.list hq
      refine ⟨pl.isList.typeIs, fun a e => ?_⟩
      cases e
      obtain ⟨o, n, e, c, hd, _⟩ := pl
      exact ⟨o, e, hd⟩
    · refine ⟨⟨o, I.kIn p o hk, hc⟩, fun a e => ?_⟩
      cases e
      exact ⟨o, I.kIn _ o hk, hd⟩
    · have z : ∃ o, s.heap.get? p = some o ∧ o.ExactDict := by
        rcases hk with ⟨kvs, hk⟩ | ⟨kvs, hk⟩
        · obtain ⟨_, _, _, _, o, _, _, e, ex, _⟩ := I.hok p _ hk
          exact ⟨o, e, ex⟩
        · obtain ⟨_, _, _, _, o, _, _, e, ex, _⟩ := I.hok p _ hk
          exact ⟨o, e, ex⟩
      obtain ⟨o, e, ex⟩ := z
      refine ⟨⟨o, e, ex.1⟩, fun a e2 => ?_⟩
      cases e2
      exact ⟨o, e, ex.2.1⟩
    · obtain ⟨o, _, _, _, e, ex, _⟩ := I.hok p _ hk
      refine ⟨⟨o, e, ex.1⟩, fun a e2 => ?_⟩
      cases e2
      exact ⟨o, e, ex.2.1⟩
  | _ => exact False.elim ty
def tBM0 (K : PySem.W.Frag) (T : String) (r : V → List V → Hp → VK → Prop) (to : TE) : TE := fun σ H Q => to σ H fun x H1 => tyV K T x H1 ∧ r x [] H1 Q
def tBM (K : PySem.W.Frag) (T : String) (r : V → List V → Hp → VK → Prop) (to : TE) (t : TA) : TE := fun σ H Q => to σ H fun x H1 => tyV K T x H1 ∧ t σ H1 fun xs H2 => r x xs H2 Q
variable {o e : Expr} {es : List Expr} {to : TE} {t : TA} {name : Str} {apos cpos : Pos} {T id : String} {r : V → List V → Hp → VK → Prop}
theorem pe_bm0 (pa : PlainAttrs T) (slot : Slot T name id) (hty : typeOf (.builtin id) = pure (.type "method_descriptor")) (hm : MtR X id r) (ho : PE X o to)
    (hbase : attributeBase o name X.env (eval o X.env) = eval o X.env := by rfl) (hline : (apos.endLine == cpos.line) = true := by rfl) : PE X (.Call (.Attribute o name apos) [] [] cpos) (tBM0 X.K T r to) := by
  intro pins s σ H Q I h
  refine wpAny_Call_method0_late hbase hline (thn (ho pins s σ H _ I h) fun v s1 ⟨x, H1, I1, r1, ty, q1⟩ => ?_)
  obtain ⟨h1, h2⟩ := tyV_is I1 r1 ty
  exact ⟨T, id, pa, slot, hty, h1, h2, Calls.callWith_builtin rfl (PySem.evalArgs_none (hm pins s1 σ H1 x [] v [] Q I1 r1 .nil q1))⟩
theorem pe_bm (pa : PlainAttrs T) (slot : Slot T name id) (hty : typeOf (.builtin id) = pure (.type "method_descriptor")) (hm : MtR X id r) (ho : PE X o to) (ha : PA X (e :: es) t)
    (hbase : attributeBase o name X.env (eval o X.env) = eval o X.env := by rfl)
    (hfew : ((backTo cpos (starEach (e :: es) X.env)).all (fun x => !x.1) && (backToKw cpos (keywordEach [] X.env)).all (fun x => x.1.isSome)
      && decide ((e :: es).length + ([] : List Keyword).length + (if ([] : List Keyword).isEmpty then 0 else 1) < 30)) = true := by rfl)
    (hline : (apos.endLine == cpos.line) = true := by rfl) (hs : starEach (e :: es) X.env = (false, eval e X.env) :: starEach es X.env := by rfl) (hplain : (backTo cpos (starEach es X.env)).any (·.1) = false := by rfl) :
    PE X (.Call (.Attribute o name apos) (e :: es) [] cpos) (tBM X.K T r to t) := by
  intro pins s σ H Q I h
  refine wpAny_Call_method_late hbase hfew hline rfl (thn (ho pins s σ H _ I h) fun v s1 ⟨x, H1, I1, r1, ty, q1⟩ => ?_)
  obtain ⟨h1, h2⟩ := tyV_is I1 r1 ty
  refine ⟨T, id, pa, slot, hty, h1, h2, ?_⟩
  have hA := ha cpos pins s1 σ H1 _ I1 q1
  rw [hs] at hA ⊢
  refine Calls.callWith_builtin (by show (false || (backTo cpos (starEach es X.env)).any (·.1)) = false; rw [hplain] <;> rfl) (Calls.evalArgs_plain ?_)
  exact thn hA fun us s2 ⟨vs, H2, I2, r2, q2⟩ => hm pins s2 σ H2 x vs v us Q I2 r1 r2 q2
end
end L2

namespace L2
open PySem PySem.Spec PyProof.Rows

def MtM (X : Cx) (id : String) (r : V → List V → Hp → VK → Prop) : Prop :=
  ∀ (pins : List (Addr × Obj)) (s : Shared) (σ : St) (H : Hp) (x : V) (xs : List V) (v : Value) (us : List Value) (Q : VK), Inv X pins σ H s → RelV x v → Vals xs us → r x xs H Q →
    wpAny (model X.prog X.w) X.A (call (.builtin id) (v :: us)) (EP X pins σ Q) X.xe s

theorem Vals.one : ∀ {x : V} {us : List Value}, Vals [x] us → ∃ u, us = [u] ∧ RelV x u
  | _, _, .cons r .nil => ⟨_, rfl, r⟩
theorem Vals.two : ∀ {x y : V} {us : List Value}, Vals [x, y] us → ∃ u v, us = [u, v] ∧ RelV x u ∧ RelV y v
  | _, _, _, .cons r (.cons q .nil) => ⟨_, _, rfl, r, q⟩
theorem Vals.zero : ∀ {us : List Value}, Vals [] us → us = []
  | _, .nil => rfl
theorem Vals.dropLast {xs : List V} {us : List Value} (h : Vals xs us) : Vals xs.dropLast us.dropLast := by
  induction h with
  | nil => exact .nil
  | cons r t ih =>
    cases t with
    | nil => exact .nil
    | cons q t' => exact .cons r ih
theorem Vals.reverse {xs : List V} {us : List Value} (h : Vals xs us) : Vals xs.reverse us.reverse := by
  induction h with
  | nil => exact .nil
  | cons r t ih => rw [List.reverse_cons, List.reverse_cons]; exact Vals.append ih (.cons r .nil)
theorem Vals.rep {xs : List V} {us : List Value} (h : Vals xs us) : ∀ k : Nat, Vals (List.replicate k xs).flatten (List.replicate k us).flatten
  | 0 => .nil
  | k + 1 => by
    rw [List.replicate_succ, List.replicate_succ, List.flatten_cons, List.flatten_cons]
    exact Vals.append h (Vals.rep h k)
section
variable {X : Cx} {pins : List (Addr × Obj)} {σ : St} {H : Hp} {s : Shared} {l b : Addr} {xs ys zs : List V}

theorem Inv.lset {its its' : List Value} {n : Nat} {f : Array Value → Array Value} {t' : Nat} (I : Inv X pins σ H s) (hH : H l = some (.lst xs))
    (e : s.heap.get? l = some { cls := .type "list", data := .seq its.toArray n }) (hf : f its.toArray = its'.toArray) (hv : Vals ys its') (hz : ys.length ≤ sizeLine) :
    Inv X pins σ (upd H l (.lst ys)) { s with heap := s.heap.update l (Obj.mapSeq f), toks := t' } := by
  have q := PySem.IsL.update e f
  rw [hf] at q
  refine I.write (x := l) (e := l) (by rw [hH]; exact trivial) (.inl rfl) (fun b' u hb hu => (Heap.get?_update_other s.heap (Obj.mapSeq f) (Ne.symm hb)).trans hu) ⟨_, q⟩ ?_
  exact ⟨hz, its', _, hv, q⟩
theorem Inv.lnew {its : List Value} {t' : Nat} (I : Inv X pins σ H s) (hv : Vals ys its) (hz : ys.length ≤ sizeLine) :
    Inv X pins σ (upd H s.heap.objs.size (.lst ys)) { s with heap := s.heap.push { cls := .type "list", data := .seq its.toArray }, toks := t' } :=
  I.laid (fun _ _ q => Heap.get?_push_of_some _ q) (Nat.le_refl _) ⟨hz, its, 0, hv, Heap.get?_push_size _ rfl⟩
theorem Inv.fresh (I : Inv X pins σ H s) : H s.heap.objs.size = none := I.hok.fresh (Nat.le_refl _)
theorem Inv.lstM (I : Inv X pins σ H s) (hH : H l = some (.lst xs)) : xs.length ≤ sizeLine ∧ ∃ (its : List Value) (n : Nat), Vals xs its ∧ xs.length = its.length ∧ s.heap.get? l = some { cls := .type "list", data := .seq its.toArray n } := by
  obtain ⟨z, its, n, r, e⟩ := I.hok l _ hH
  exact ⟨z, its, n, r, r.length, e⟩

end

section
variable {X : Cx}

def rAppend : V → List V → Hp → VK → Prop := fun x vs H Q => ∃ l xs y, x = .ref l ∧ vs = [y] ∧ H l = some (.lst xs) ∧ xs.length < sizeLine ∧ Q .non (upd H l (.lst (xs ++ [y])))
theorem mt_append : MtM X "list.append" rAppend := by
  intro pins s σ H x vs v us Q I rx rv h
  obtain ⟨l, xs, y, rfl, rfl, hH, hz, q⟩ := h
  cases rx
  obtain ⟨u, rfl, ru⟩ := rv.one
  obtain ⟨z, its, n, r, hl, e⟩ := I.lstM hH
  refine call_meets F.slot_list_append ⟨_, e, rfl⟩ F.entry_list_append (F.args_list_append_2 _ _) (PySem.list_append l its.toArray n u (by rw [List.size_toArray]; omega)) ⟨e, ?_⟩
  refine ⟨.non, _, I.lset (its' := its ++ [u]) hH e (by simp) (r.append (.cons ru .nil)) ?_, rfl, q⟩
  rw [List.length_append, List.length_singleton]
  omega

def rPop : V → List V → Hp → VK → Prop := fun x vs H Q => ∃ l xs y, x = .ref l ∧ vs = [] ∧ H l = some (.lst xs) ∧ xs[xs.length - 1]? = some y ∧ Q y (upd H l (.lst xs.dropLast))
def rReverse : V → List V → Hp → VK → Prop := fun x vs H Q => ∃ l xs, x = .ref l ∧ vs = [] ∧ H l = some (.lst xs) ∧ Q .non (upd H l (.lst xs.reverse))
def rCat : R2 := fun x y H Q => ∃ l b xs zs, x = .ref l ∧ y = .ref b ∧ H l = some (.lst xs) ∧ H b = some (.lst zs) ∧ xs.length + zs.length ≤ sizeLine ∧ ∀ p, H p = none → Q (.ref p) (upd H p (.lst (xs ++ zs)))
theorem op_cat : OpR X (binaryOp .Add) rCat := by
  intro pins s σ H x y v u Q I rx ry h
  obtain ⟨l, b, xs, zs, rfl, rfl, hH, hB, hz, q⟩ := h
  cases rx
  cases ry
  obtain ⟨z, its, n, r, hl, e⟩ := I.lstM hH
  obtain ⟨z2, its2, n2, r2, hl2, e2⟩ := I.lstM hB
  refine PySem.P.add_list e e2 ?_ (by rw [List.size_toArray, List.size_toArray]; omega)
  have ea : its.toArray ++ its2.toArray = (its ++ its2).toArray := by simp
  rw [ea]
  exact ⟨.ref _, _, I.lnew (t' := s.toks) (r.append r2) (by rw [List.length_append]; omega), rfl, q _ I.fresh⟩
def rRep : R2 := fun x y H Q => ∃ l k xs, x = .ref l ∧ y = .int k ∧ H l = some (.lst xs) ∧ -(2 ^ 63) ≤ k ∧ k < 2 ^ 63 ∧ xs.length * k.toNat ≤ sizeLine ∧
  ∀ p, H p = none → Q (.ref p) (upd H p (.lst (List.replicate k.toNat xs).flatten))
end

section
variable {prog : Program} {w : World} {A : Around} {E : Value → Shared → Prop} {s : Shared}
end

section
variable {X : Cx}
end
end L2

namespace Att
open PySem PySem.W PySem.Calls PyProof.Rows

theorem ints_of_wellAll {P : Params} {h : Heap} : ∀ (ns : List Int) (vs : List Value), WellAll P h vs (ns.map WData.int) → IntsAre vs ns := by
  intro ns
  induction ns with
  | nil =>
    intro vs w
    rw [List.map_nil] at w
    cases w
    exact .nil
  | cons n ns ih =>
    intro vs w
    rw [List.map_cons] at w
    cases w with
    | cons a b =>
      cases a
      exact .cons _ _ (ih _ b)

theorem script_of {l : OpenLaw} {n : Nat} (hn : l.most = some n) {P : Params} {h : Heap} {args : List WData} {vals : List Value}
    (hpre : l.row.toRowW.claim.pre args = true) (hwl : WellAll P h vals args) :
    ∃ a vs ns, vals = [Value.ref a] ∧ args = [WData.list (ns.map WData.int)] ∧ h.get? a = some { cls := .type "list", data := .seq vs.toArray } ∧ IntsAre vs ns ∧ ns.length ≤ n := by
  have hsh : WShape.hasAll [] args [.list .int] = true := (pre_splitW hpre).1
  have hc : l.pre.holds [] { args := args } = true := (pre_splitW hpre).2
  obtain ⟨d, r, rfl, h1, h2⟩ := hasAllW_cons hsh
  obtain rfl := hasAllW_nil h2
  obtain ⟨xs, rfl, h3⟩ := hasW_list h1
  obtain ⟨ns, rfl⟩ := items_int h3
  have hlen : ns.length ≤ n := by
    unfold OpenLaw.pre at hc
    have h4 : (WTm.not (.lt (.lit (.int (n : Int))) (.len (.arg 0)))).holds [] { args := [.list (ns.map .int)] } = true := by
      have h4 := (holds_andW hc).1
      rw [hn] at h4
      exact h4
    have h5 := condW_of h4 (w_not (w_lt w_lit (w_len_list (w_arg rfl))))
    rw [List.length_map] at h5
    refine Nat.le_of_not_lt fun q => ?_
    have q' : (n : Int) < ((ns.length : Nat) : Int) := by omega
    first
      | (rw [decide_eq_true q'] at h5; exact absurd h5 (by decide))
      | (simp at h5; omega)
  cases hwl with
  | cons w1 w2 =>
    cases w2
    cases w1 with
    | list ho hall => exact ⟨_, _, ns, rfl, rfl, ho, ints_of_wellAll ns _ hall, hlen⟩

theorem post_true (l : OpenLaw) (args : List WData) : l.row.toRowW.claim.post args (.bool true) args = true :=
  postW_of (r := l.row.toRowW) (X := (true == true))
    (show WShape.has [] (.bool true) .bool = true by first | rfl | decide | simp [WShape.has, WShape.arms, WShape.armsAll])
    (show (WTm.eq .res (.lit (.bool true))).value [] { args := args, res := some (.bool true), after := args } = some (.bool (true == true)) from w_eq_bool (w_res rfl) w_lit) rfl

theorem attach_call {l : OpenLaw} {n : Nat} {q : Program} {loose : List Str} {XP : (Str → Option Value) → Heap → Prop} {YP : World → Heap → Prop} {d : DefRec}
    (hn : l.most = some n) (hdf : d.params.defaults = [])
    (call : ∀ (w : World) (s₀ s₁ : Shared) (mg mb : Str → Option Value) (fa : Addr) (o : Obj) (pm cd doc : Value) (a : Addr) (vs : List Value) (ns : List Int),
      Ground q loose [] XP w s₀ mg mb s₁.heap → YP w s₁.heap →
      s₁.heap.get? fa = some o → o.data = .func (docDef d.name d.params d.body d.scope pm cd doc) → s₁.heap.CodeRec cd d.name → mg d.name = some (.ref fa) →
      s₁.heap.get? a = some { cls := .type "list", data := .seq vs.toArray } → IntsAre vs ns → ns.length ≤ n → s₁.gens = #[] →
      codeAny (model l.prog w) callerA (.call (.ref fa) ⟨[.ref a], []⟩) (fun r s' => r = .ok (.ret (.bool true)) ∧ OldK s₁.heap s'.heap ∧ s'.os = s₁.os ∧ AllBare s'.gens) s₁) :
    WalkO q loose XP YP l.row.toRowW d [] (fun f vs => PySem.call f vs) := by
  intro w s₀ s₁ mg mb G Y fa o pm cd doc dV kV ho hd hcd hD hmg hg args vals as hpre hlay hrd hwl hlo
  obtain rfl : dV = .none := Dflts.none hD hdf
  obtain rfl : kV = .none := Dflts.noKw hD
  obtain ⟨a, vs, ns, rfl, rfl, hobj, hints, hlen⟩ := script_of hn hpre hwl
  refine enter_call (codeAny_mono (call w s₀ s₁ mg mb fa o pm cd doc a vs ns G Y ho (fd_plain hd) hcd hmg hobj hints hlen hg) fun r s' hq => ?_)
  obtain ⟨rfl, h2, h3, h4⟩ := hq
  exact ⟨.inl ⟨.bool true, .bool true, [], rfl, fun _ => rfl, .bool true, post_true l _, fun _ => ⟨List.Pairwise.nil, fun _ hm => (nomatch hm)⟩⟩, h2, h3, h4⟩

section
variable {prog : Program} {w : World} {A : Around} {E : Value → Shared → Prop} {s : Shared} {K : Frag}

end
end Att

namespace L2
open PySem PySem.Spec PyProof.Rows

theorem vals_ints : ∀ {vs : List Value} {ns : List Int}, IntsAre vs ns → Vals (ns.map V.int) vs
  | _, _, .nil => .nil
  | _, _, .cons n t h => .cons ⟨t, rfl⟩ (vals_ints h)

def Only (H : Hp) : Prop := ∀ b, H b = none ∨ ∃ o xs, H b = some (.frz o (.lst xs))

theorem law_call {P : Program} {w : World} {K : PySem.W.Frag} {mg mb : Str → Option Value} {CX : CXT} {k : Nat} {fa a : Addr} {fd : FuncData} {x : Str} {sp : Sp} {s₁ : Shared} {vs : List Value} {ns : List Int}
    (KX : K.In s₁.heap) (hns : s₁.heap.Ns mainGlobals mg) (hb : s₁.heap.Ns builtinsNs mb) (hbb : ∀ x : Str, x ≠ "__name__" → mb x = bootBuiltins x) (hlim : s₁.heap.NoLimit) (hg : s₁.gens = #[])
    (ha : s₁.heap.get? a = some { cls := .type "list", data := .seq vs.toArray }) (hi : IntsAre vs ns) (hl : ns.length ≤ sizeLine) (hr : Room k callerA)
    (F : ∀ base : Heap, K.In base → base.Ns mainGlobals mg → FnOk P w K mg base CX k fa fd [x] sp) (hbind : ∀ (s : Shared) (u : Value), BindsTo s fd ⟨[u], []⟩ [(x, u)])
    (hsp : ∀ H : Hp, Only H → SqL K H a (ns.map V.int) → sp [.ref a] H (fun v _ => v = .bl true) fun _ _ _ => False)
    (hCX : ∀ H e s', CX [] H s₁ (fun _ _ _ => False) e s' → False) :
    codeAny (model P w) callerA (.call (.ref fa) ⟨[.ref a], []⟩) (fun r s' => r = .ok (.ret (.bool true)) ∧ OldK s₁.heap s'.heap ∧ s'.os = s₁.os ∧ AllBare s'.gens) s₁ := by
  have rv := vals_ints hi
  have lenV := hi.length
  -- from an abstract heap in which nothing but the script may be tracked
  have core : ∀ H : Hp, Only H → SqL K H a (ns.map V.int) → HOk P w H s₁.heap → (∀ b, H b ≠ none → b = a) → (H a ≠ none → K.lookup a = none) →
      codeAny (model P w) callerA (.call (.ref fa) ⟨[.ref a], []⟩) (fun r s' => r = .ok (.ret (.bool true)) ∧ OldK s₁.heap s'.heap ∧ s'.os = s₁.os ∧ AllBare s'.gens) s₁ := by
    intro H hO hS hok hA hK
    have base_of : ∀ {b : Addr} {o : Obj}, s₁.heap.get? b = some o → H b = none → (hidT s₁.heap H).get? b = some o := fun e n => hidT_get e n
    have noA : ∀ {b : Addr} {o : Obj} {es : Array DictEntry} {ep : Nat}, s₁.heap.get? b = some o → o.data = .dict es ep → H b = none := fun {b o es ep} e d => by
      cases q : H b with
      | none => rfl
      | some u =>
        have e' : b = a := hA b (by rw [q]; simp)
        subst e'
        rw [ha] at e; cases e
        have d' : Data.seq vs.toArray _ = Data.dict es ep := d
        cases d'
    have nsK : ∀ {b : Addr} {m : Str → Option Value}, s₁.heap.Ns b m → (hidT s₁.heap H).Ns b m := fun {b m} ⟨o, es, ep, e, d, r⟩ => ⟨o, es, ep, base_of e (noA e d), d, r⟩
    have hKb : K.In (hidT s₁.heap H) := fun b o e => base_of (KX b o e) (by
      cases q : H b with
      | none => rfl
      | some u =>
        have e' : b = a := hA b (by rw [q]; simp)
        subst e'
        rw [hK (by rw [q]; simp)] at e; cases e)
    have hM : Mod K mg (hidT s₁.heap H) := ⟨hKb, nsK hns, ⟨mb, nsK hb, hbb⟩, let ⟨mc, h1, h2⟩ := hlim; ⟨mc, nsK h1, h2⟩⟩
    have e0 : Env0 P w K mg (hidT s₁.heap H) callerA [] s₁ H := ⟨rfl, hM, fun b o e => of_hidT e, Nat.le_of_eq (hidT_size _ _), trivial, fun b hb => absurd (show b ∈ ([] : List Addr) from hb) (by simp), hok, .of_eq hg⟩
    refine codeAny_mono ((F _ hKb (nsK hns)).run callerA [] s₁ H ⟨[.ref a], []⟩ [.ref a] [.ref a] _ _ hr e0 (hbind s₁ (.ref a)) (.cons rfl .nil) (hsp H hO hS)) fun r s' h => ?_
    cases r with
    | error e => exact (hCX H e s' h).elim
    | ok fl =>
      cases fl with
      | next => exact False.elim h
      | brk => exact False.elim h
      | cont => exact False.elim h
      | ret u =>
        obtain ⟨v, H', os, bare, un, hok', r', q⟩ := h
        have q' : v = .bl true := q
        subst q'
        obtain rfl : u = Value.bool true := r'
        refine ⟨rfl, OldK.of_keep fun b o e => ?_, os, bare⟩
        cases q : H b with
        | none => exact un.keep b o e q (by intro z; exact absurd (show b ∈ ([] : List Addr) from z) (by simp)) (by simp)
        | some u =>
          rcases hO b with z | ⟨ob, xs, z⟩
          · rw [q] at z; cases z
          · have z2 := un.frzs b ob _ z
            obtain ⟨e1, _⟩ := hok b _ z
            obtain ⟨e2, _⟩ := hok' b _ z2
            rw [e] at e1; cases e1
            exact e2
  cases hk : K.lookup a with
  | some o =>
    -- the script is one of the module's own objects
    have e := KX a o hk
    rw [ha] at e
    cases e
    refine core (fun _ => none) (fun _ => .inl rfl) (.inr ⟨_, vs.toArray, _, hk, rfl, rfl, rfl, by rw [List.size_toArray, lenV]; exact hl, by simpa using rv⟩) (fun b u z => by have z' : (none : Option HO) = some u := z; cases z') (fun b z => absurd rfl z) fun z => absurd rfl z
  | none =>
    refine core (fun b => if b = a then some (.frz { cls := .type "list", data := .seq vs.toArray } (.lst (ns.map V.int))) else none) (fun b => ?_) (.inl (.inr ⟨{ cls := .type "list", data := .seq vs.toArray }, if_pos rfl⟩)) (fun b u z => ?_) (fun b z => ?_) fun _ => hk
    · by_cases hb : b = a
      · exact .inr ⟨_, _, if_pos hb⟩
      · exact .inl (if_neg hb)
    · by_cases hb : b = a
      · have z' := (if_pos hb).symm.trans z
        cases z'
        subst hb
        exact ⟨ha, by rw [List.length_map]; exact hl, vs, _, rv, ha⟩
      · have z' := (if_neg hb).symm.trans z
        cases z'
    · by_cases hb : b = a
      · exact hb
      · exact absurd (if_neg hb) z
end L2

namespace L2
open PySem PySem.Spec PyProof.Rows

theorem walk_of {l : PySem.W.OpenLaw} {n k : Nat} {q : Program} {loose : List Str} {XP : (Str → Option Value) → Heap → Prop} {YP : World → Heap → Prop} {d : DefRec} {K : Params → PySem.W.Frag} {CX : World → CXT} {sp : World → Sp} {x : Str}
    (hn : l.most = some n) (hn2 : n ≤ sizeLine) (hdf : d.params.defaults = []) (hr : Room k callerA)
    (hY : ∀ (w : World) (h : Heap), YP w h → (K w.params).In h)
    (F : ∀ (w : World) (mg : Str → Option Value) (fa : Addr) (h : Heap), (K w.params).In h → h.Ns mainGlobals mg → mg d.name = some (.ref fa) →
      ∃ fd : FuncData, (∀ (s : Shared) (u : Value), BindsTo s fd ⟨[u], []⟩ [(x, u)]) ∧
        ∀ base : Heap, (K w.params).In base → base.Ns mainGlobals mg → FnOk l.prog w (K w.params) mg base (CX w) k fa fd [x] (sp w))
    (hsp : ∀ (w : World) (H : Hp) (a : Addr) (ns : List Int), ns.length ≤ n → Only H → SqL (K w.params) H a (ns.map V.int) → sp w [.ref a] H (fun v _ => v = .bl true) fun _ _ _ => False)
    (hCX : ∀ (w : World) (H : Hp) (s : Shared) (e : Value) (s' : Shared), CX w [] H s (fun _ _ _ => False) e s' → False) :
    PySem.W.WalkO q loose XP YP l.row.toRowW d [] (fun f vs => PySem.call f vs) := by
  refine Att.attach_call hn hdf fun w s₀ s₁ mg mb fa o pm cd doc a vs ns G Y ho hd hcd hmg hobj hints hlen hg => ?_
  have KX := hY w _ Y
  obtain ⟨fd, hb, hF⟩ := F w mg fa _ KX G.T.g hmg
  exact law_call KX G.T.g G.T.b G.T.builtins G.T.nolimit hg hobj hints (Nat.le_trans hlen hn2) hr hF hb (fun H hO hS => hsp w H a ns hlen hO hS) fun H e s' => hCX w H s₁ e s'
end L2


namespace L2
open PySem PySem.Spec PyProof.Rows

def defArgs (s : Stmt) : Arguments := match s with
  | .FunctionDef _ a _ _ _ _ _ _ _ _ => a
  | _ => { posonlyargs := [], args := [], vararg := none, kwonlyargs := [], kw_defaults := [], kwarg := none, defaults := [] }
def defBody (s : Stmt) : List Stmt := match s with
  | .FunctionDef _ _ b _ _ _ _ _ _ _ => b
  | _ => []
def defScope (s : Stmt) : Scope := match s with
  | .FunctionDef _ _ _ _ _ _ sc _ _ _ => sc
  | _ => { kind := .function, names := [], isGenerator := false, isCoroutine := false }

abbrev CX0 : CXT := fun _ _ _ _ _ _ => False
abbrev E0 : XK := fun _ _ _ => False
theorem pass0 {X : Cx} : Passes CX0 X E0 := fun _ _ _ _ _ _ _ h => h.elim

structure Fun (K : PySem.W.Frag) (x qual : Str) (st : Stmt) (f : Addr) (fd : FuncData) : Prop where
  ex : ∃ (oc : Value) (od : Option Addr) (kV doc pm : Value) (an : Option Addr) (cdv ct : Value) (osl : Array (Option Value)),
    fd = PySem.W.fnOf x qual (defArgs st) (defBody st) (defScope st) .none kV doc pm an cdv ct ∧ K.lookup f = some ⟨oc, od, .func fd, osl⟩ ∧ PySem.W.codeIn K cdv qual = true
  kp : PySem.W.keepIn K (.ref f) = true
section
variable {P : Program} {w : World} {K : PySem.W.Frag} {mg : Str → Option Value} {base : Heap}
theorem Fun.ok {x qual : Str} {st : Stmt} {f : Addr} {fd : FuncData} {N ps : List Str} {k : Nat} {sp : Sp} (F : Fun K x qual st f fd) (S : FnScope N ps (defScope st)) (len : ∀ vs H Q E, sp vs H Q E → vs.length = ps.length)
    (hbody : ∀ (cdv : Value) (A : Around) (outer : List Env) (s : Shared) (H : Hp) (vs : List V) (Q : VK) (E : XK), Room k (A.deeper (envOfC qual (defScope st) s.heap.objs.size f cdv)) → sp vs H Q E →
      ∃ t, PSs (cxOf CX0 P w K mg base N qual (defScope st) f cdv A outer s H E).nox (defBody st) t ∧ t { nx := fun _ H' => Q .non H', rt := Q } (start N vs) H) : FnOk P w K mg base CX0 (k + 1) f fd ps sp := by
  obtain ⟨oc, od, kV, doc, pm, an, cdv, ct, osl, rfl, lk, hcd⟩ := F.ex
  refine fn_of lk hcd S len fun A outer s H vs Q E hr hsp => ?_
  obtain ⟨t, h, q⟩ := hbody cdv A outer s H vs Q E hr hsp
  exact ⟨t, h.nox, q⟩
theorem Fun.binds {x qual : Str} {st : Stmt} {f : Addr} {fd : FuncData} {ps : List Str} (F : Fun K x qual st f fd)
    (h : ∀ (kV doc pm : Value) (an : Option Addr) (cdv ct : Value) (us : List Value), us.length = ps.length → bindArgs (PySem.W.fnOf x qual (defArgs st) (defBody st) (defScope st) .none kV doc pm an cdv ct) ⟨us, []⟩ = pure (ps.zip us)) : Binds K fd ps [] := by
  obtain ⟨oc, od, kV, doc, pm, an, cdv, ct, osl, rfl, lk, hcd⟩ := F.ex
  exact .all (h kV doc pm an cdv ct)
theorem fun_mk {x qual : Str} {st : Stmt} {f : Addr} {oc : Value} {od an : Option Addr} {osl : Array (Option Value)} {kV doc pm cdv ct : Value} (l : K.lookup f = some ⟨oc, od, .func (PySem.W.fnOf x qual (defArgs st) (defBody st) (defScope st) .none kV doc pm an cdv ct), osl⟩)
    (c : PySem.W.codeIn K cdv qual = true) (k : PySem.W.keepIn K (.ref f) = true) : Fun K x qual st f (PySem.W.fnOf x qual (defArgs st) (defBody st) (defScope st) .none kV doc pm an cdv ct) := ⟨⟨oc, od, kV, doc, pm, an, cdv, ct, osl, rfl, l, c⟩, k⟩
end
section
variable {X : Cx}
theorem pv (i : Nat) {x : Str} {pos : Pos} (hN : X.N[i]? = some x := by rfl) (hv : Vis X.env.scope x := by first | exact Or.inl rfl | exact Or.inr (Or.inl rfl) | exact Or.inr (Or.inr rfl)) (hd : (x == ("__debug__" : Str)) = false := by decide)
    (hcd : (x == ("__classdict__" : Str)) = false := by decide) : PE X (.Name x pos) (tVar i) := pe_var hN hv hd hcd
end

def Same (H H' : Hp) : Prop := ∀ b o, H b = some o → H' b = some o
theorem Same.refl (H : Hp) : Same H H := fun _ _ h => h
theorem Same.trans {H H1 H2 : Hp} (a : Same H H1) (b : Same H1 H2) : Same H H2 := fun c o h => b c o (a c o h)
theorem Same.free {H H' : Hp} (e : Same H H') {l : Addr} (h : H' l = Option.none) : H l = Option.none := by
  cases q : H l with
  | none => rfl
  | some o =>
    rw [e l o q] at h
    cases h
theorem Same.seq {K : PySem.W.Frag} {H H' : Hp} {a : Addr} {xs : List V} (e : Same H H') (h : SqL K H a xs) : SqL K H' a xs := by
  rcases h with (h | ⟨o, h⟩) | h
  · exact .inl (.inl (e _ _ h))
  · exact .inl (.inr ⟨o, e _ _ h⟩)
  · exact .inr h

end L2

set_option Elab.async false
set_option linter.all false
set_option maxRecDepth 100000
namespace L2
open PySem PySem.Spec PyProof.Rows

structure Cal (P : Program) (w : World) (K : PySem.W.Frag) (mg : Str → Option Value) (base : Heap) (CX : CXT) (x : Str) (k : Nat) (ps : List Str) (sp : Sp) : Prop where
  ex : ∃ f fd, FnOk P w K mg base CX k f fd ps sp ∧ Binds K fd ps [] ∧ PySem.W.keepIn K (.ref f) = true ∧ mg x = some (.ref f)

section
variable {X : Cx} {CX : CXT} {x : Str} {j k : Nat} {ps : List Str} {sp : Sp} {E : XK} {p pos : Pos} {e : Expr} {es : List Expr} {t : TA}
theorem pe_callX (C : Cal X.prog X.w X.K X.mg X.base CX x j ps sp) (hr : Room k X.A) (hg : Gl X x) (hx : Passes CX X E) (ha : PA X (e :: es) t) (hj : j ≤ k := by decide) (hdb : (x == ("__debug__" : Str)) = false := by decide)
    (he : starEach (e :: es) X.env = (false, eval e X.env) :: starEach es X.env := by rfl) (hpl : (backTo pos (starEach es X.env)).any (·.1) = false := by rfl) :
    PE X (.Call (.Name x p) (e :: es) [] pos) (tCall sp [] E t) := by
  obtain ⟨f, fd, F, b, kp, m⟩ := C.ex
  exact pe_call F (hr.mono hj) hg m kp b .nil hx ha hdb he hpl
theorem pe_callC (C : Cal X.prog X.w X.K X.mg X.base CX0 x j ps sp) (hr : Room k X.A) (hg : Gl X x) (ha : PA X (e :: es) t) (hj : j ≤ k := by decide) (hdb : (x == ("__debug__" : Str)) = false := by decide)
    (he : starEach (e :: es) X.env = (false, eval e X.env) :: starEach es X.env := by rfl) (hpl : (backTo pos (starEach es X.env)).any (·.1) = false := by rfl) :
    PE X (.Call (.Name x p) (e :: es) [] pos) (tCall sp [] E0 t) := pe_callX C hr hg pass0 ha hj hdb he hpl
end

inductive Kn where
  | non | bl | int | str | lst | tup | dct
def tyK (T : String) : Option Kn :=
  if T = "int" then some .int else if T = "bool" then some .bl else if T = "str" then some .str else if T = "list" then some .lst else if T = "tuple" then some .tup else none
theorem tyK_int : tyK "int" = some .int := rfl
theorem tyK_bool : tyK "bool" = some .bl := rfl
theorem tyK_str : tyK "str" = some .str := rfl
theorem tyK_list : tyK "list" = some .lst := rfl
theorem tyK_tuple : tyK "tuple" = some .tup := rfl
def isiB : Kn → Kn → Bool
  | .int, .int => true
  | .bl, .int => true
  | .bl, .bl => true
  | .str, .str => true
  | .lst, .lst => true
  | .tup, .tup => true
  | _, _ => false
def dctO (a : Addr) : HO := .ext fun h => ∃ o, h.get? a = some o ∧ o.cls = .type "dict"
theorem dctO_ok {P : Program} {w : World} {H : Hp} {h : Heap} {a : Addr} {o : Obj} (e : h.get? a = some o) (c : o.cls = .type "dict") : ObjOk P w H h a (dctO a) :=
  ⟨⟨o, e, c⟩, ⟨o, e⟩, fun h1 h2 ⟨o1, e1, c1⟩ k => ⟨o1, k _ e1, c1⟩⟩
def tDNewX : TE := fun _ H Q => ∀ p, H p = none → Q (.ref p) (upd H p (dctO p))
theorem pe_dnewX {X : Cx} {pos : Pos} : PE X (.Dict [] [] pos) tDNewX := fun pins s σ H Q I h =>
  wpAny_Dict_empty ⟨.ref s.heap.objs.size, _, I.laid (a := s.heap.objs.size) (o := dctO s.heap.objs.size) (t' := s.toks) (fun _ _ q => Heap.get?_push_of_some _ q) (Nat.le_refl _) (dctO_ok (Heap.get?_push_size _ rfl) rfl), rfl, h _ (I.hok.fresh (Nat.le_refl _))⟩
def Kd (K : PySem.W.Frag) (H : Hp) : V → Kn → Prop
  | .non, k => k = .non
  | .bl _, k => k = .bl
  | .int _, k => k = .int
  | .str _, k => k = .str
  | .ref a, k => (k = .lst ∧ ∃ xs, SqL K H a xs) ∨ (k = .tup ∧ ∃ xs, SqT K H a xs) ∨ (k = .dct ∧ H a = some (dctO a))
  | _, _ => False
def rIsi (K : PySem.W.Frag) : List V → Hp → VK → Prop := fun xs H Q => ∃ x T kt k, xs = [x, .ty T] ∧ tyK T = some kt ∧ Kd K H x k ∧ Q (.bl (isiB k kt)) H
theorem tyK_some {T : String} {kt : Kn} (h : tyK T = some kt) : (T = "int" ∧ kt = .int) ∨ (T = "bool" ∧ kt = .bl) ∨ (T = "str" ∧ kt = .str) ∨ (T = "list" ∧ kt = .lst) ∨ (T = "tuple" ∧ kt = .tup) := by
  unfold tyK at h
  split at h
  · next e => exact .inl ⟨e, (Option.some.inj h).symm⟩
  split at h
  · next e => exact .inr (.inl ⟨e, (Option.some.inj h).symm⟩)
  split at h
  · next e => exact .inr (.inr (.inl ⟨e, (Option.some.inj h).symm⟩))
  split at h
  · next e => exact .inr (.inr (.inr (.inl ⟨e, (Option.some.inj h).symm⟩)))
  split at h
  · next e => exact .inr (.inr (.inr (.inr ⟨e, (Option.some.inj h).symm⟩)))
  · cases h
section
variable {X : Cx}
theorem call_isi : CallR X (.builtin "isinstance") (rIsi X.K) := by
  intro pins s σ H xs us Q I r h
  obtain ⟨x, T, kt, k, rfl, ht, hk, q⟩ := h
  obtain ⟨u, w', rfl, rx, rt⟩ := vals2 r
  obtain rfl : w' = Value.type T := rt
  have f1 : EP X pins σ Q (.bool (isiB k kt)) s := ⟨.bl _, H, I, rfl, q⟩
  have f2 : EP X pins σ Q (.bool (isiB k kt)) { s with toks := s.toks + 1 } := ⟨.bl _, H, I.tok _, rfl, q⟩
  have hT := tyK_some ht
  clear ht q
  cases x with
  | non =>
    obtain rfl : u = Value.none := rx
    obtain rfl : k = .non := hk
    rcases hT with ⟨rfl, rfl⟩ | ⟨rfl, rfl⟩ | ⟨rfl, rfl⟩ | ⟨rfl, rfl⟩ | ⟨rfl, rfl⟩
    · exact IsiPair.NoneType_int f2
    · exact IsiPair.NoneType_bool f2
    · exact IsiPair.NoneType_str f2
    · exact IsiPair.NoneType_list f2
    · exact IsiPair.NoneType_tuple f2
  | bl b =>
    obtain rfl : u = Value.bool b := rx
    obtain rfl : k = .bl := hk
    rcases hT with ⟨rfl, rfl⟩ | ⟨rfl, rfl⟩ | ⟨rfl, rfl⟩ | ⟨rfl, rfl⟩ | ⟨rfl, rfl⟩
    · first | exact IsiPair.bool_int f1 | exact IsiPair.bool_int f2
    · exact IsiPair.bool_bool f1
    · exact IsiPair.bool_str f2
    · exact IsiPair.bool_list f2
    · exact IsiPair.bool_tuple f2
  | int i =>
    obtain ⟨t, rfl⟩ := rx
    obtain rfl : k = .int := hk
    rcases hT with ⟨rfl, rfl⟩ | ⟨rfl, rfl⟩ | ⟨rfl, rfl⟩ | ⟨rfl, rfl⟩ | ⟨rfl, rfl⟩
    · exact IsiPair.int_int f1
    · exact IsiPair.int_bool f2
    · exact IsiPair.int_str f2
    · exact IsiPair.int_list f2
    · exact IsiPair.int_tuple f2
  | str z =>
    obtain ⟨t, rfl⟩ := rx
    obtain rfl : k = .str := hk
    rcases hT with ⟨rfl, rfl⟩ | ⟨rfl, rfl⟩ | ⟨rfl, rfl⟩ | ⟨rfl, rfl⟩ | ⟨rfl, rfl⟩
    · exact IsiPair.str_int f2
    · exact IsiPair.str_bool f2
    · exact IsiPair.str_str f1
    · exact IsiPair.str_list f2
    · exact IsiPair.str_tuple f2
  | ref a =>
    obtain rfl : u = Value.ref a := rx
    rcases hk with ⟨rfl, xs, hq⟩ | ⟨rfl, xs, hq⟩ | ⟨rfl, hq⟩
    · obtain ⟨its, _, ⟨o, n, e, c, _, _⟩, _⟩ := I.list hq
      rcases hT with ⟨rfl, rfl⟩ | ⟨rfl, rfl⟩ | ⟨rfl, rfl⟩ | ⟨rfl, rfl⟩ | ⟨rfl, rfl⟩
      · exact IsiPair.list_int e c f2
      · exact IsiPair.list_bool e c f2
      · exact IsiPair.list_str e c f2
      · exact IsiPair.list_list e c f1
      · exact IsiPair.list_tuple e c f2
    · obtain ⟨its, _, ⟨o, e, c, _⟩, _⟩ := I.tuple hq
      rcases hT with ⟨rfl, rfl⟩ | ⟨rfl, rfl⟩ | ⟨rfl, rfl⟩ | ⟨rfl, rfl⟩ | ⟨rfl, rfl⟩
      · exact IsiPair.tuple_int e c f2
      · exact IsiPair.tuple_bool e c f2
      · exact IsiPair.tuple_str e c f2
      · exact IsiPair.tuple_list e c f2
      · exact IsiPair.tuple_tuple e c f1
    · obtain ⟨⟨o, e, c⟩, _⟩ := I.hok a _ hq
      rcases hT with ⟨rfl, rfl⟩ | ⟨rfl, rfl⟩ | ⟨rfl, rfl⟩ | ⟨rfl, rfl⟩ | ⟨rfl, rfl⟩
      · exact IsiPair.dict_int e c f2
      · exact IsiPair.dict_bool e c f2
      · exact IsiPair.dict_str e c f2
      · exact IsiPair.dict_list e c f2
      · exact IsiPair.dict_tuple e c f2
  | _ => exact False.elim hk
end

def Itr2 (lo : Int) (n : Nat) : It := ⟨fun i _ => i < n, fun i H x H' => H' = H ∧ x = .int (lo + i * 2), fun i _ => n ≤ i⟩
section
variable {X : Cx} {tg : Expr}
def iRng3 (ta : TA) : TI := fun σ H R => ta σ H fun vs H1 => ∃ i j : Int, vs = [.int i, .int j, .int 2] ∧ (-(2 ^ 60) ≤ i ∧ i < 2 ^ 60 ∧ -(2 ^ 60) ≤ j ∧ j < 2 ^ 60) ∧ R (Itr2 i ((j - i + 1) / 2).toNat) H1
end
def ForW (J : It) (g : TG) (tb : TS) (D : Ends) (σ : St) (H : Hp) : Prop := ∃ W : Nat → Nat → St → Hp → Prop, (∃ m, W 0 m σ H) ∧ ∀ i m σ H, W i m σ H →
  (J.stop i H ∧ D.nx σ H) ∨ (J.go i H ∧ ∃ N : St → Hp → Prop, (∀ σ' H', N σ' H' → ∃ m', m' < m ∧ W (i + 1) m' σ' H') ∧ ∀ x H', J.yld i H x H' → g x σ H' fun σ2 H2 => tb { D with nx := N, ct := N, bk := D.nx } σ2 H2)
theorem tFor_eq {wi : TI} {g : TG} {tb : TS} {D : Ends} {σ : St} {H : Hp} : tFor wi g tb D σ H = wi σ H fun J H1 => ForW J g tb D σ H1 := rfl
section
variable {K : PySem.W.Frag} {a : Addr} {xs : List V} {g : TG} {tb : TS} {D : Ends} {σ : St} {H : Hp} {lo : Int} {n : Nat}
theorem forW_range (Pv : Nat → St → Hp → Prop) (h0 : Pv 0 σ H)
    (hs : ∀ i σ H, i < n → Pv i σ H → g (.int (lo + i)) σ H fun σ2 H2 => tb { D with nx := Pv (i + 1), ct := Pv (i + 1), bk := D.nx } σ2 H2) (hd : ∀ σ H, Pv n σ H → D.nx σ H) : ForW (Itr lo n) g tb D σ H := for_range Pv h0 hs hd
end

structure Bits (n : Nat) (i : Int) : Prop where
  lt : i.natAbs < 2 ^ n
theorem Bits.mono {m n : Nat} {i : Int} (h : Bits m i) (le : m ≤ n) : Bits n i := ⟨Nat.lt_of_lt_of_le h.lt (Nat.pow_le_pow_right (by decide) le)⟩
theorem Bits.add {n : Nat} {i j : Int} (h : Bits n i) (h' : Bits n j) : Bits (n + 1) (i + j) := ⟨by
  have := Int.natAbs_add_le i j
  have := h.lt
  have := h'.lt
  rw [Nat.pow_succ]
  omega⟩
theorem Bits.neg {n : Nat} {i : Int} (h : Bits n i) : Bits n (-i) := ⟨by rw [Int.natAbs_neg]; exact h.lt⟩
theorem Bits.sub {n : Nat} {i j : Int} (h : Bits n i) (h' : Bits n j) : Bits (n + 1) (i - j) := by
  rw [Int.sub_eq_add_neg]
  exact h.add h'.neg
theorem Bits.of {n : Nat} {i b : Int} (lo : -b ≤ i) (hi : i ≤ b) (hb : b < ((2 ^ n : Nat) : Int)) : Bits n i := ⟨by omega⟩
theorem Bits.le {n : Nat} {i j : Int} (h : Bits n j) (le : i.natAbs ≤ j.natAbs) : Bits n i := ⟨Nat.lt_of_le_of_lt le h.lt⟩
theorem Bits.bits {n : Nat} {i : Int} (h : Bits n i) : Builtin.Int.intBits i ≤ n := by
  unfold Builtin.Int.intBits
  split
  · exact Nat.zero_le _
  · have q := h.lt
    rcases Nat.eq_zero_or_pos i.natAbs with h0 | hp
    · rw [h0] at q ⊢
      have : (0 : Nat).log2 = 0 := by decide
      rename_i hz
      exact absurd (by simp; omega) hz
    · have := (Nat.log2_lt (Nat.ne_of_gt hp)).mpr q
      omega
def CMulB (i j : Int) : Prop := Bits 100000 i ∧ Bits 100000 j
theorem CMulB.ok {i j : Int} (h : CMulB i j) : IntMulOk i j := IntMulOk.of_bits (Nat.le_trans h.1.bits (by decide)) (Nat.le_trans h.2.bits (by decide))
def CDivB (_ j : Int) : Prop := 0 < j ∧ Bits 8999 j
theorem CDivB.ok {i j : Int} (h : CDivB i j) : Builtin.divisionGoesByPylong i j = false := by
  refine PyProof.noPylong_of_log2 ?_
  have q := h.2.lt
  have := (Nat.log2_lt (n := j.natAbs) (k := 8999) (by have := h.1; omega)).mpr q
  omega
section
variable {X : Cx}
theorem op_mulB : OpR X (binaryOp .Mult) (rI CMulB fun i j => .int (i * j)) := opI fun _ _ _ _ _ _ _ hc q => mul_int q hc.ok
theorem op_fdivB : OpR X (binaryOp .FloorDiv) (rI CDivB fun i j => .int (i / j)) := opI fun i j _ _ _ _ _ hc q => by
  have h1 : (0 : Int) < j := hc.1
  exact floordiv_int (by omega) (by rw [Int.fdiv_eq_ediv_of_nonneg i (by omega)]; exact q) (.inl hc.ok)
def tMenu (t : TA) (ti : TE) : TE := fun σ H Q => t σ H fun xs H1 => xs.length ≤ sizeLine ∧ ti σ H1 fun y H2 => ∃ i v, y = .int i ∧ 0 ≤ i ∧ xs[i.toNat]? = some v ∧ Q v H2
end
section
variable {X : Cx} {es : List Expr} {b : Expr} {t : TA} {ti : TE} {pos p2 : Pos}
theorem pe_menu (h : PA X es t) (hb : PE X b ti) (hs : PlainIx b) : PE X (.Subscript (.List es p2) b pos) (tMenu t ti) := by
  intro pins s σ H Q I hq
  refine Subscript_ (wpAny_List_spliced (thn (h p2 pins s σ H _ I hq) fun us s1 ⟨xs, H1, I1, r, z, q⟩ => ⟨by rw [← r.length]; exact z, ?_⟩))
  have hf : H1 s1.heap.objs.size = none := I1.hok.fresh (Nat.le_refl _)
  have I2 : Inv X (pins ++ [(s1.heap.objs.size, { cls := .type "list", data := .seq us.toArray })]) σ H1 { s1 with heap := s1.heap.push { cls := .type "list", data := .seq us.toArray } } := by
    have J : Inv X pins σ H1 { s1 with heap := s1.heap.push { cls := .type "list", data := .seq us.toArray } } := I1.kept (t' := s1.toks) fun b u e => Heap.get?_push_of_some _ e
    refine J.pins_of fun p hp => ?_
    rcases List.mem_append.mp hp with hp | hp
    · exact J.pin p (List.mem_append_right _ hp)
    · have e := List.mem_singleton.mp hp
      subst e
      exact ⟨Heap.get?_push_size _ rfl, hf, Nat.ne_of_gt I1.lt, I1.nofs (Nat.le_refl _), fun v z => by cases z⟩
  refine thn (hb _ _ σ H1 _ I2 q) fun u s2 ⟨y, H2, I3, ry, i, v, e, h0, ha, q2⟩ => ?_
  subst e
  obtain ⟨t', rfl⟩ := ry
  obtain ⟨hp, _⟩ := I3.pin (s1.heap.objs.size, { cls := .type "list", data := .seq us.toArray }) (List.mem_append_right _ (List.mem_append_right _ (List.mem_singleton.mpr rfl)))
  obtain ⟨w, ew, rw'⟩ := r.get ha
  have I4 : Inv X pins σ H2 s2 := I3.pins_of fun p hp => I3.pin p (List.mem_append_right _ (List.mem_append_left _ hp))
  have hl := r.length
  have hn := line63
  have hi : i.toNat < us.length := (List.getElem?_eq_some_iff.mp ew).1
  have fin : EP X pins σ Q w s2 := ⟨v, H2, I4, rw', q2⟩
  exact item_listR (l := s1.heap.objs.size) ⟨_, hp, rfl, _, rfl⟩ h0 (by omega) (by simpa using ew) fin (hs _ _)
end
theorem isi_non_bl : isiB .non .bl = false := rfl
theorem isi_non_int : isiB .non .int = false := rfl
theorem isi_non_str : isiB .non .str = false := rfl
theorem isi_non_lst : isiB .non .lst = false := rfl
theorem isi_non_tup : isiB .non .tup = false := rfl
theorem isi_bl_bl : isiB .bl .bl = true := rfl
theorem isi_bl_int : isiB .bl .int = true := rfl
theorem isi_bl_str : isiB .bl .str = false := rfl
theorem isi_bl_lst : isiB .bl .lst = false := rfl
theorem isi_bl_tup : isiB .bl .tup = false := rfl
theorem isi_int_bl : isiB .int .bl = false := rfl
theorem isi_int_int : isiB .int .int = true := rfl
theorem isi_int_str : isiB .int .str = false := rfl
theorem isi_int_lst : isiB .int .lst = false := rfl
theorem isi_int_tup : isiB .int .tup = false := rfl
theorem isi_str_bl : isiB .str .bl = false := rfl
theorem isi_str_int : isiB .str .int = false := rfl
theorem isi_str_str : isiB .str .str = true := rfl
theorem isi_str_lst : isiB .str .lst = false := rfl
theorem isi_str_tup : isiB .str .tup = false := rfl
theorem isi_lst_bl : isiB .lst .bl = false := rfl
theorem isi_lst_int : isiB .lst .int = false := rfl
theorem isi_lst_str : isiB .lst .str = false := rfl
theorem isi_lst_lst : isiB .lst .lst = true := rfl
theorem isi_lst_tup : isiB .lst .tup = false := rfl
theorem isi_tup_bl : isiB .tup .bl = false := rfl
theorem isi_tup_int : isiB .tup .int = false := rfl
theorem isi_tup_str : isiB .tup .str = false := rfl
theorem isi_tup_lst : isiB .tup .lst = false := rfl
theorem isi_tup_tup : isiB .tup .tup = true := rfl
theorem isi_dct_bl : isiB .dct .bl = false := rfl
theorem isi_dct_int : isiB .dct .int = false := rfl
theorem isi_dct_str : isiB .dct .str = false := rfl
theorem isi_dct_lst : isiB .dct .lst = false := rfl
theorem isi_dct_tup : isiB .dct .tup = false := rfl
theorem Kd_non {K : PySem.W.Frag} {H : Hp} {k : Kn} : Kd K H .non k = (k = .non) := rfl
theorem Kd_bl {K : PySem.W.Frag} {H : Hp} {k : Kn} {b : Bool} : Kd K H (.bl b) k = (k = .bl) := rfl
theorem Kd_int {K : PySem.W.Frag} {H : Hp} {k : Kn} {i : Int} : Kd K H (.int i) k = (k = .int) := rfl
theorem Kd_str {K : PySem.W.Frag} {H : Hp} {k : Kn} {z : Str} : Kd K H (.str z) k = (k = .str) := rfl
theorem Kd.tup {K : PySem.W.Frag} {H : Hp} {a : Addr} {xs : List V} (h : SqT K H a xs) : Kd K H (.ref a) .tup := .inr (.inl ⟨rfl, xs, h⟩)
theorem Kd.lst {K : PySem.W.Frag} {H : Hp} {a : Addr} {xs : List V} (h : SqL K H a xs) : Kd K H (.ref a) .lst := .inl ⟨rfl, xs, h⟩
theorem Kd.dct {K : PySem.W.Frag} {H : Hp} {a : Addr} (h : H a = some (dctO a)) : Kd K H (.ref a) .dct := .inr (.inr ⟨rfl, h⟩)
theorem Kd.ref {K : PySem.W.Frag} {H : Hp} {a : Addr} {k : Kn} (h : Kd K H (.ref a) k) : k ≠ .int ∧ k ≠ .bl ∧ k ≠ .str ∧ k ≠ .non := by
  rcases h with ⟨rfl, _⟩ | ⟨rfl, _⟩ | ⟨rfl, _⟩ <;> exact ⟨(by intro z; cases z), (by intro z; cases z), (by intro z; cases z), (by intro z; cases z)⟩
theorem sc_non_non : scal .non .non = true := rfl
theorem sc_non_int {x2 : Int} : scal .non (.int x2) = true := rfl
theorem sc_int_non {x1 : Int} : scal (.int x1) .non = true := rfl
theorem sc_non_bl {x2 : Bool} : scal .non (.bl x2) = true := rfl
theorem sc_bl_non {x1 : Bool} : scal (.bl x1) .non = true := rfl
theorem sc_non_str {x2 : Str} : scal .non (.str x2) = true := rfl
theorem sc_str_non {x1 : Str} : scal (.str x1) .non = true := rfl
theorem sc_int_int {x1 : Int} {x2 : Int} : scal (.int x1) (.int x2) = true := rfl
theorem sc_bl_bl {x1 : Bool} {x2 : Bool} : scal (.bl x1) (.bl x2) = true := rfl
theorem sc_str_str {x1 : Str} {x2 : Str} : scal (.str x1) (.str x2) = true := rfl
theorem sc_int_str {x1 : Int} {x2 : Str} : scal (.int x1) (.str x2) = true := rfl
theorem sc_str_int {x1 : Str} {x2 : Int} : scal (.str x1) (.int x2) = true := rfl
theorem sc_bl_str {x1 : Bool} {x2 : Str} : scal (.bl x1) (.str x2) = true := rfl
theorem sc_str_bl {x1 : Str} {x2 : Bool} : scal (.str x1) (.bl x2) = true := rfl
theorem cxK {CX : CXT} {P : Program} {w : World} {K : PySem.W.Frag} {mg : Str → Option Value} {base : Heap} {N : List Str} {qual : Str} {scope : Scope} {f : Addr} {cd : Value} {A : Around} {outer : List Env} {s : Shared} {H : Hp} {E : XK} :
    (cxOf CX P w K mg base N qual scope f cd A outer s H E).K = K := rfl
theorem b_len : bootBuiltins "len" = some (.builtin "len") := by decide +kernel
theorem b_max : bootBuiltins "max" = some (.builtin "max") := by decide +kernel
theorem b_min : bootBuiltins "min" = some (.builtin "min") := by decide +kernel
theorem b_isinstance : bootBuiltins "isinstance" = some (.builtin "isinstance") := by decide +kernel
theorem b_int : bootBuiltins "int" = some (.type "int") := by decide +kernel
theorem b_str : bootBuiltins "str" = some (.type "str") := by decide +kernel
theorem b_list : bootBuiltins "list" = some (.type "list") := by decide +kernel
theorem b_tuple : bootBuiltins "tuple" = some (.type "tuple") := by decide +kernel
theorem b_all : bootBuiltins "all" = some (.builtin "all") := by decide +kernel
theorem b_ValueError : bootBuiltins "ValueError" = some (.type "ValueError") := by decide +kernel
structure Mg (mg : Str → Option Value) : Prop where
  m_len : mg "len" = none
  m_range : mg "range" = none
  m_abs : mg "abs" = none
  m_max : mg "max" = none
  m_min : mg "min" = none
  m_isinstance : mg "isinstance" = none
  m_int : mg "int" = none
  m_bool : mg "bool" = none
  m_str : mg "str" = none
  m_list : mg "list" = none
  m_tuple : mg "tuple" = none
  m_sum : mg "sum" = none
  m_all : mg "all" = none
  m_enumerate : mg "enumerate" = none
  m_zip : mg "zip" = none
  m_ValueError : mg "ValueError" = none
  m_any : mg "any" = none
  m_set : mg "set" = none
  m_sorted : mg "sorted" = none
end L2

set_option Elab.async false
set_option linter.all false
set_option maxRecDepth 100000
set_option maxHeartbeats 1000000
namespace L2
open PySem PySem.Spec PyProof.Rows
section
variable {prog : Program} {w : World} {A : Around} {R : Result → Shared → Prop} {s : Shared}
theorem compLoop_go {elt target iter : Expr} {ifs : List Expr} {scope : Scope} {pos : Pos} {it acc : Value} {env : Env} (I : Nat → Shared → Prop)
    (turn : ∀ n s, I n s → wpAny (model prog w) A (pyNext it) (fun r s₁ => match r with
      | none => R (.ok .next) s₁
      | some v => wpAny (model prog w) A (letOwnedTupleGo target it v) (fun _ s₁' => wpAny (model prog w) A (assign target env v) (fun _ s₂ =>
          wpAny (model prog w) A (forIn ifs true fun c r => if r = true then do let ok ← isTrue c env (eval c env); pure (ForInStep.yield ok) else pure (ForInStep.yield r)) (fun ok s₃ =>
            if ok = true then wpAny (model prog w) A (eval elt env) (fun x s₄ =>
              wpAny (model prog w) A (call (.builtin "list.append") [acc, x]) (fun _ s₅ => ∃ m, m < n ∧ I m s₅) (fun _ _ => False) s₄) (fun _ _ => False) s₃
            else ∃ m, m < n ∧ I m s₃) (fun _ _ => False) s₂) (fun _ _ => False) s₁') (fun _ _ => False) s₁) (fun _ _ => False) s)
    (n : Nat) (h : I n s) :
    codeAny (model prog w) A (.compLoop (.ListComp elt [⟨target, iter, ifs, 0⟩] scope pos) 0 it acc env) R s := by
  refine codeAny_loop rfl I (fun n s hI => ?_) n h
  show wpAny _ A ((compTurn (.ListComp elt [⟨target, iter, ifs, 0⟩] scope pos) 0 it acc env).onRaise (fun x => do noteFrame x env; theTreesLotGoes x)) _ _ s
  refine wpAny_noted ?_
  rw [compTurn_list]
  refine wpAny_bind (wpAny_standAt (wpAny_bind (wpAny_mono (turn n s hI) (fun r s₁ h₁ => ?_) fun _ _ h' => h'.elim)))
  cases r with
  | none => exact wpAny_pure h₁
  | some v =>
    refine wpAny_bind (wpAny_mono h₁ (fun _ s₁' h₁' => wpAny_bind (wpAny_mono h₁' (fun _ s₂ h₂ => wpAny_bind (wpAny_mono h₂ (fun ok s₃ h₃ => ?_) fun _ _ h' => h'.elim)) fun _ _ h' => h'.elim)) fun _ _ h' => h'.elim)
    cases ok with
    | false => exact wpAny_pure ⟨rfl, h₃⟩
    | true =>
      exact wpAny_bind (wpAny_bind (wpAny_mono h₃ (fun x s₄ h₄ => wpAny_bind (wpAny_mono h₄ (fun _ s₅ h₅ => wpAny_pure (wpAny_pure ⟨rfl, h₅⟩)) fun _ _ h' => h'.elim)) fun _ _ h' => h'.elim))
end

def blk (X : Cx) (scope : Scope) (cl : List (Str × Addr)) (N' : List Str) (s₀ : Shared) (H₀ : Hp) (C : Addr) (pn : List (Addr × Obj)) (ex : List Addr) : Cx where
  prog := X.prog
  w := X.w
  K := X.K
  mg := X.mg
  base := X.base
  A := X.A
  N := N'
  s₀ := s₀
  H₀ := H₀
  env := compEnvC scope cl C X.env
  outer := X.stack
  stack := X.stack
  ex := ex
  fn := fun _ => false
  calm := X.calm
  pn := pn
  xe := fun _ _ => False
def PIfs (X : Cx) (ifs : List Expr) (t : TT) : Prop :=
  ∀ (pins : List (Addr × Obj)) (s : Shared) (σ : St) (H : Hp) (Q : Bool → Hp → Prop), Inv X pins σ H s → t σ H Q →
    wpAny (model X.prog X.w) X.A (forIn ifs true fun c r => if r = true then do let ok ← isTrue c X.env (eval c X.env); pure (ForInStep.yield ok) else pure (ForInStep.yield r)) (TP X pins σ Q) X.xe s
def tYes : TT := fun _ H Q => Q true H
theorem pif_nil {X : Cx} : PIfs X [] tYes := fun _ _ _ H _ I h => wpAny_tests_nil ⟨H, I, h⟩
def slots (ix : List Nat) (σ : St) : St := ix.map fun j => (σ[j]?).getD none
def compW (D : Addr) (J : It) (g : TG) (tt : TT) (te : TE) (Q : VK) (W : Nat → Nat → St → Hp → Prop) : Prop :=
  ∀ i m τ H2, W i m τ H2 → (J.stop i H2 ∧ Q (.ref D) H2) ∨ (J.go i H2 ∧ ∀ x H3, J.yld i H2 x H3 → g x τ H3 fun τ' H3' => tt τ' H3' fun b H4 =>
    if b = true then te τ' H4 fun v H5 => ∃ ys, H5 D = some (.lst ys) ∧ ys.length < sizeLine ∧ ∃ m', m' < m ∧ W (i + 1) m' τ' (upd H5 D (.lst (ys ++ [v]))) else ∃ m', m' < m ∧ W (i + 1) m' τ' H4)
def tComp (ix : List Nat) (nl : Nat) (wi : TI) (g : TG) (tt : TT) (te : TE) : TE := fun σ H Q => wi σ H fun J H1 => ∀ D, H1 D = none →
  ∃ W : Nat → Nat → St → Hp → Prop, (∃ m, W 0 m (slots ix σ ++ List.replicate nl none) (upd H1 D (.lst []))) ∧ compW D J g tt te Q W

structure CompOk (X : Cx) (scope : Scope) (cl : List (Str × Addr)) (N' : List Str) (ix : List Nat) (nl : Nat) : Prop where
  clos : closureFor scope X.env = pure cl
  sub : ∀ y c, cl.lookup y = some c → X.env.cells.lookup y = some c
  has : ∀ p ∈ (relabel scope X.env).names, (p.2 = .cell ∨ p.2 = .free) → (cl.lookup p.1).isSome = true
  cell : ∀ y ∈ scope.names, y.2 ≠ .cell
  kind : scope.kind = .function
  names : ∀ y ∈ scope.names, y.2 = .local → scope.names.lookup y.1 = some .local
  len : N'.length = ix.length + nl
  out : ∀ (i j : Nat) (y : Str), ix[i]? = some j → N'[i]? = some y → X.N[j]? = some y ∧ (X.env.kindOf y = some .cell ∨ X.env.kindOf y = some .free) ∧ ((relabel scope X.env).names.lookup y = some .cell ∨ (relabel scope X.env).names.lookup y = some .free)

theorem fm0 {α : Type} {P : α → Prop} : ∀ p ∈ ([] : List α), P p := fun _ h => nomatch h
theorem fm1 {α : Type} {P : α → Prop} {a : α} {l : List α} (h : P a) (r : ∀ p ∈ l, P p) : ∀ p ∈ a :: l, P p := List.forall_mem_cons.mpr ⟨h, r⟩
def OutsOk (X : Cx) (scope : Scope) : List Nat → List Str → Prop
  | [], _ => True
  | j :: r, y :: t => (X.N[j]? = some y ∧ (X.env.kindOf y = some .cell ∨ X.env.kindOf y = some .free) ∧ ((relabel scope X.env).names.lookup y = some .cell ∨ (relabel scope X.env).names.lookup y = some .free)) ∧ OutsOk X scope r t
  | _ :: _, [] => False
theorem OutsOk.at {X : Cx} {scope : Scope} : ∀ {ix : List Nat} {N : List Str}, OutsOk X scope ix N → ∀ (i j : Nat) (y : Str), ix[i]? = some j → N[i]? = some y → X.N[j]? = some y ∧ (X.env.kindOf y = some .cell ∨ X.env.kindOf y = some .free) ∧ ((relabel scope X.env).names.lookup y = some .cell ∨ (relabel scope X.env).names.lookup y = some .free)
  | [], _, _, i, j, y, h1, _ => by simp at h1
  | _ :: _, [], h, _, _, _, _, _ => h.elim
  | _ :: _, _ :: _, h, 0, j, y, h1, h2 => by
    simp at h1 h2
    subst h1 h2
    exact h.1
  | _ :: _, _ :: _, h, i + 1, j, y, h1, h2 => OutsOk.at h.2 i j y (by simpa using h1) (by simpa using h2)
theorem CompOk.make {X : Cx} {scope : Scope} {cl : List (Str × Addr)} {N' : List Str} {ix : List Nat} {nl : Nat} (clos : closureFor scope X.env = pure cl) (sub : ∀ p ∈ cl, X.env.cells.lookup p.1 = some p.2)
    (has : ((relabel scope X.env).names.all fun p => !(p.2 == .cell || p.2 == .free) || (cl.lookup p.1).isSome) = true) (cell : ∀ y ∈ scope.names, y.2 ≠ .cell) (kind : scope.kind = .function)
    (names : ∀ y ∈ scope.names, y.2 = .local → scope.names.lookup y.1 = some .local) (len : N'.length = ix.length + nl) (out : OutsOk X scope ix N') : CompOk X scope cl N' ix nl :=
  ⟨clos, fun y c h => sub (y, c) (PySem.mem_of_lookup h), fun p hp hc => by
    have q := List.all_eq_true.mp has p hp
    rcases hc with e | e <;> (rw [e] at q; simpa using q), cell, kind, names, len, out.at⟩

section
variable {X : Cx} {pins : List (Addr × Obj)} {σ : St} {H : Hp} {s : Shared}
theorem blk_ok {scope : Scope} {cl : List (Str × Addr)} {N' : List Str} {ix : List Nat} {nl : Nat} {C : Addr} {fp : List Addr} (O : CompOk X scope cl N' ix nl) (I : Inv X pins σ H s) (hC : s.heap.objs.size ≤ C) (f : ∀ b ∈ fp, FpOk X pins H b) (lt : ∀ b ∈ fp, b < s.heap.objs.size) :
    (blk X scope cl N' s H C (X.pn ++ pins) fp).Ok where
  mod := I.ok.mod
  kind := O.kind
  glob := I.ok.glob
  blt := I.ok.blt
  above := hC
  inj := fun x y c h1 h2 => I.ok.inj x y c (O.sub x c h1) (O.sub y c h2)
  has := fun x hx => by
    have hx' : (relabel scope X.env).names.lookup x = some .cell ∨ (relabel scope X.env).names.lookup x = some .free := hx
    rcases hx' with h | h
    · exact Option.isSome_iff_exists.mp (O.has _ (PySem.mem_of_lookup h) (.inl rfl))
    · exact Option.isSome_iff_exists.mp (O.has _ (PySem.mem_of_lookup h) (.inr rfl))
  cab := fun x c h => nomatch (show false = true from h)
  hd := I.ok.hd
  frames := I.ok.frames
  stk := .inl rfl
  exf := fun b hb => ⟨Nat.ne_of_lt (Nat.lt_of_lt_of_le (lt b hb) hC), fun x c h => (f b hb).2.2.2.2.1 x c (O.sub x c h)⟩
  bs := I.bs
  bsz := Nat.le_trans I.ok.bsz I.sz
  noex := fun b o e hb => by
    rcases (f b hb).2.2.2.1 with z | z
    · exact I.ok.noex b o e z
    · exact absurd (Nat.lt_of_lt_of_le (Heap.lt_size e) (Nat.le_trans I.ok.bsz z)) (Nat.lt_irrefl _)
  exfs := fun b hb z => by
    rcases List.mem_cons.mp (I.stkSub b z) with e | e
    · exact (f b hb).2.1 e
    · exact (f b hb).2.2.1 e
  funs := I.stack
  frf := I.stkFree

theorem blk_inv {scope : Scope} {cl : List (Str × Addr)} {N' : List Str} {ix : List Nat} {nl : Nat} {C : Addr} {fp : List Addr} {h' : Heap} {t' : Nat} (O : CompOk X scope cl N' ix nl) (I : Inv X pins σ H s) (hC : s.heap.objs.size ≤ C) (f : ∀ b ∈ fp, FpOk X pins H b) (lt : ∀ b ∈ fp, b < s.heap.objs.size)
    (hn : h'.Ns C fun _ => none) (k : ∀ b o, s.heap.get? b = some o → h'.get? b = some o) :
    Inv (blk X scope cl N' s H C (X.pn ++ pins) fp) [] (slots ix σ ++ List.replicate nl none) H { s with heap := h', toks := t' } := by
  refine ⟨blk_ok O I hC f lt, rfl, I.bare, Un.kept k, ⟨_, hn, fun i x v e1 e2 e3 => ?_⟩, fun x c e => ?_, I.hok.fresh hC, fun x c e => I.freeC x c (O.sub x c e), fun p hp => ?_, I.hok.kept k, ?_⟩
  · have e1 : N'[i]? = some x := e1
    have hi : i < ix.length := by
      by_cases hi : i < ix.length
      · exact hi
      · rw [List.getElem?_append_right (by simpa [slots] using hi)] at e2
        rw [List.getElem?_replicate] at e2
        split at e2 <;> cases e2
    have e2' : (σ[ix[i]]?).getD none = some v := by
      rw [List.getElem?_append_left (by simpa [slots] using hi)] at e2
      simpa [slots, hi] using e2
    have e4 : σ[ix[i]]? = some (some v) := by
      cases q : σ[ix[i]]? with
      | none => rw [q] at e2'; cases e2'
      | some z => rw [q] at e2'; exact congrArg some e2'
    obtain ⟨o1, o2, o3⟩ := O.out i ix[i] x (by simp [hi]) e1
    obtain ⟨m, hm, hl⟩ := I.loc
    have vis : Vis X.env.scope x := by
      rcases o2 with z | z
      · exact .inr (.inl z)
      · exact .inr (.inr z)
    obtain ⟨u, r, l⟩ := hl _ x v o1 e4 vis
    rcases l with ⟨z, _⟩ | ⟨_, c, hc, o, ho, hd⟩
    · rcases o2 with y | y <;> (rw [y] at z; cases z)
    · obtain ⟨c', hc'⟩ := (blk_ok O I hC f lt).has x o3
      have z := O.sub x c' hc'
      rw [hc] at z
      cases z
      exact ⟨u, r, .inr ⟨o3, c, hc', o, k _ _ ho, hd⟩⟩
  · obtain ⟨v, q⟩ := I.cell x c (O.sub x c e)
    exact ⟨v, by obtain ⟨o, ho, hd⟩ := q; exact ⟨o, k _ _ ho, hd⟩⟩
  · have hp' : p ∈ X.pn ++ pins := by
      have z : p ∈ (X.pn ++ pins) ++ [] := hp
      rwa [List.append_nil] at z
    obtain ⟨a1, a2, a3, a4, a5⟩ := I.pin p hp'
    refine ⟨k _ _ a1, a2, Nat.ne_of_lt (Nat.lt_of_lt_of_le (Heap.lt_size a1) hC), fun z => ?_, a5⟩
    rcases List.mem_cons.mp (I.stkSub p.1 z) with e | e
    · exact a3 e
    · exact a4 e
  · show (slots ix σ ++ List.replicate nl none).length = N'.length
    rw [List.length_append, List.length_replicate, O.len]
    simp [slots]

theorem blk_back {scope : Scope} {cl : List (Str × Addr)} {N' : List Str} {C : Addr} {fp : List Addr} {s' : Shared} {τ : St} {H' : Hp} (I : Inv X pins σ H s) (f : ∀ b ∈ fp, FpOk X pins H b)
    (J : Inv (blk X scope cl N' s H C (X.pn ++ pins) fp) [] τ H' s') : Inv X pins σ H' s' :=
  I.call' J.os J.base J.hok J.bare fun b hb => ⟨(f b hb).2.2.2.1, (f b hb).2.1, (f b hb).2.2.2.2.1, (f b hb).2.2.2.2.2⟩
theorem Inv.letgo {C : Addr} {s' : Shared} {h' : Heap} (J : Inv X pins σ H s') (hsz : X.s₀.heap.objs.size ≤ C) (hL : C ≠ X.env.locals) (hc : ∀ x c, X.env.cells.lookup x = some c → c ≠ C) (hp : ∀ p ∈ X.pn ++ pins, p.1 ≠ C) (hH : H C = none)
    (sb : Heap.SameBut C s'.heap h') : Inv X pins σ H { s' with heap := h' } :=
  J.turned (t' := s'.toks) (it := C) (fun b o hb e => sb.extBut b o hb e) hH hL (.inr hsz) hc hp
theorem blk_loop {elt iter tg : Expr} {ifs : List Expr} {scope : Scope} {pos : Pos} {cl : List (Str × Addr)} {N' : List Str} {C D it : Addr} {fp : List Addr} {tn : Nat → Heap → Prop} {J : It} {g : TG} {tt : TT} {te : TE} {s₄ : Shared} {W : Nat → Nat → St → Hp → Prop} {Q : VK}
    {τ : St} {H₀ : Hp} {s₃ : Shared} {pn : List (Addr × Obj)} {m0 : Nat} {R : Result → Shared → Prop} (hc : X.calm = true) (T : Turn X.prog X.w X.K tg J fp it tn)
    (f : ∀ H', (∀ b ∈ fp, H' b = none) → ∀ b ∈ fp, FpOk (blk X scope cl N' s₃ H₀ C pn fp) [] H' b)
    (hg : PG (blk X scope cl N' s₃ H₀ C pn fp) tg g) (ht : PIfs (blk X scope cl N' s₃ H₀ C pn fp) ifs tt) (he : PE (blk X scope cl N' s₃ H₀ C pn fp) elt te)
    (I4 : Inv (blk X scope cl N' s₃ H₀ C pn fp) [] τ H s₄) (st : tn 0 s₄.heap) (fr : ∀ b ∈ fp, H b = none) (w0 : W 0 m0 τ H) (hW : compW D J g tt te Q W)
    (fin : ∀ τ' H' s', Inv (blk X scope cl N' s₃ H₀ C pn fp) [] τ' H' s' → Q (.ref D) H' → R (.ok .next) s') :
    codeAny (model X.prog X.w) X.A (.compLoop (.ListComp elt [⟨tg, iter, ifs, 0⟩] scope pos) 0 (.ref it) (.ref D) (compEnvC scope cl C X.env)) R s₄ := by
  refine compLoop_go (fun n s' => ∃ i τ' H', Inv (blk X scope cl N' s₃ H₀ C pn fp) [] τ' H' s' ∧ tn i s'.heap ∧ (∀ b ∈ fp, H' b = none) ∧ W i n τ' H') ?_ m0 ⟨0, τ, H, I4, st, fr, w0⟩
  rintro n s5 ⟨i, τ5, H5, I5, st5, fr5, w5⟩
  rcases hW i n τ5 H5 w5 with ⟨stop, q⟩ | ⟨go, step⟩
  · refine thn (T.done (blk X scope cl N' s₃ H₀ C pn fp) rfl rfl rfl hc i [] s5 τ5 H5 (fun _ _ => False) I5 (f H5 fr5) st5 stop) fun r s6 ⟨hr, I6⟩ => ?_
    subst hr
    exact fin τ5 H5 s6 I6 q
  · refine thn (T.item (blk X scope cl N' s₃ H₀ C pn fp) rfl rfl rfl hc i [] s5 τ5 H5 (fun _ _ => False) I5 (f H5 fr5) st5 go) fun r s6 ⟨u, hr, h6⟩ => ?_
    subst hr
    refine thn h6 fun _ s7 ⟨x, H7, I7, r7, y7, st7, fr7⟩ => ?_
    have I7' := I7.pinned (f H7 fr7) (T.obj _ _ st7)
    have keep : ∀ {τ8 : St} {H8 : Hp} {s8 : Shared}, Inv (blk X scope cl N' s₃ H₀ C pn fp) ([] ++ pinsAt fp s7.heap) τ8 H8 s8 → Inv (blk X scope cl N' s₃ H₀ C pn fp) [] τ8 H8 s8 ∧ tn (i + 1) s8.heap ∧ ∀ b ∈ fp, H8 b = none := fun {τ8 H8 s8} I8 => by
      refine ⟨I8.unpinned, T.keep _ _ _ st7 fun b hb o e => (I8.pin (b, o) (List.mem_append_right _ (List.mem_append_right _ (mem_pinsAt hb e)))).1, fun b hb => ?_⟩
      obtain ⟨o, e, d⟩ := T.obj _ _ st7 b hb
      exact (I8.pin (b, o) (List.mem_append_right _ (List.mem_append_right _ (mem_pinsAt hb e)))).2.1
    refine thn (hg _ s7 τ5 H7 x u _ I7' r7 (step x H7 y7)) fun _ s8 ⟨τ8, H8, I8, q8⟩ => ?_
    refine thn (ht _ s8 τ8 H8 _ I8 q8) fun b s9 ⟨H9, I9, q9⟩ => ?_
    cases b with
    | false =>
      obtain ⟨m', hm, w'⟩ := q9
      obtain ⟨k1, k2, k3⟩ := keep I9
      exact ⟨m', hm, i + 1, τ8, H9, k1, k2, k3, w'⟩
    | true =>
      refine thn (he _ s9 τ8 H9 _ I9 q9) fun y s10 ⟨v, H10, I10, r10, ys, hD, hl, m', hm, w'⟩ => ?_
      refine thn (mt_append _ s10 τ8 H10 (.ref D) [v] (.ref D) [y] (fun _ H11 => W (i + 1) m' τ8 H11) I10 rfl (.cons r10 .nil) ⟨D, ys, v, rfl, rfl, hD, hl, w'⟩) fun z s11 ⟨_, H11, I11, _, w11⟩ => ?_
      obtain ⟨k1, k2, k3⟩ := keep I11
      exact ⟨m', hm, i + 1, τ8, H11, k1, k2, k3, w11⟩
end

section
variable {X : Cx} {elt iter tg : Expr} {ifs : List Expr} {scope : Scope} {pos : Pos} {cl : List (Str × Addr)} {N' : List Str} {ix : List Nat} {nl : Nat} {wi : TI} {g : TG} {tt : TT} {te : TE}
structure Left (X : Cx) (pins : List (Addr × Obj)) (σ : St) (C : Addr) (H : Hp) (s : Shared) : Prop where
  inv : Inv X pins σ H s
  ns : ∃ m, s.heap.Ns C m
  sz : X.s₀.heap.objs.size ≤ C
  loc : C ≠ X.env.locals
  cel : ∀ x c, X.env.cells.lookup x = some c → c ≠ C
  pin : ∀ p ∈ X.pn ++ pins, p.1 ≠ C
  non : H C = none
theorem comp_run {pins : List (Addr × Obj)} {σ : St} {H1 : Hp} {s2 : Shared} {Q : VK} {it : Addr} {fp : List Addr} {tn : Nat → Heap → Prop} {J : It} {RR : Value → Addr → Result → Shared → Prop} {E : Value → Shared → Prop}
    (hc : X.calm = true) (O : CompOk X scope cl N' ix nl) (hg : ∀ s₀ H₀ C pn ex, PG (blk X scope cl N' s₀ H₀ C pn ex) tg g) (ht : ∀ s₀ H₀ C pn ex, PIfs (blk X scope cl N' s₀ H₀ C pn ex) ifs tt)
    (he : ∀ s₀ H₀ C pn ex, PE (blk X scope cl N' s₀ H₀ C pn ex) elt te) (I1 : Inv X pins σ H1 s2) (T : Turn X.prog X.w X.K tg J fp it tn) (st : tn 0 s2.heap) (f1 : ∀ b ∈ fp, FpOk X pins H1 b)
    (q : ∀ D, H1 D = none → ∃ W : Nat → Nat → St → Hp → Prop, (∃ m, W 0 m (slots ix σ ++ List.replicate nl none) (upd H1 D (.lst []))) ∧ compW D J g tt te Q W)
    (fin : ∀ D C H' s', Left X pins σ C H' s' → Q (.ref D) H' → RR (.ref D) C (.ok .next) s') :
    wpAny (model X.prog X.w) X.A (newList []) (fun acc s₃ => wpAny (model X.prog X.w) X.A (newFunctionEnv scope X.env.globals cl [] X.env.qual none .none (some X.env)) (fun cenv s₄ =>
      codeAny (model X.prog X.w) X.A (.compStart (.ListComp elt [⟨tg, iter, ifs, 0⟩] scope pos) 0 (.ref it) acc { cenv with scope := relabel scope X.env }) (RR acc cenv.locals) s₄) E s₃) E s2 := by
  refine wpAny_newObj_type (wpAny_newFunctionEnv O.cell (by intro y hy; simp at hy) (fun h₁ hns₁ hsb₁ => ?_) O.kind)
  have hf : H1 s2.heap.objs.size = none := I1.hok.fresh (Nat.le_refl _)
  obtain ⟨W, ⟨m0, w0⟩, hW⟩ := q s2.heap.objs.size hf
  have lt : ∀ b ∈ fp, b < s2.heap.objs.size := fun b hb => by
    obtain ⟨o, e, _⟩ := T.obj _ _ st b hb
    exact Heap.lt_size e
  have I3 : Inv X pins σ (upd H1 s2.heap.objs.size (.lst [])) { s2 with heap := s2.heap.push { cls := .type "list", data := .seq ([] : List Value).toArray } } :=
    I1.laid (t' := s2.toks) (fun b u e => Heap.get?_push_of_some _ e) (Nat.le_refl _) ⟨Nat.zero_le _, [], 0, .nil, Heap.get?_push_size _ rfl⟩
  have f3 : ∀ b ∈ fp, FpOk X pins (upd H1 s2.heap.objs.size (.lst [])) b := fun b hb => ⟨by rw [upd_ne (Nat.ne_of_lt (lt b hb))]; exact (f1 b hb).1, (f1 b hb).2⟩
  have sz : (s2.heap.push { cls := .type "list", data := .seq ([] : List Value).toArray }).objs.size = s2.heap.objs.size + 1 := Heap.size_push ..
  have lt3 : ∀ b ∈ fp, b < (s2.heap.push { cls := .type "list", data := .seq ([] : List Value).toArray }).objs.size := fun b hb => by rw [sz]; exact Nat.lt_succ_of_lt (lt b hb)
  have k3 : ∀ b o, (s2.heap.push { cls := .type "list", data := .seq ([] : List Value).toArray }).get? b = some o → h₁.get? b = some o := fun b o e => hsb₁.extBut b o (Nat.ne_of_lt (Heap.lt_size e)) (Heap.get?_push_of_some _ e)
  have I4 := blk_inv (t' := s2.toks + ([] : List (Str × Value)).length) O I3 (Nat.le_refl _) f3 lt3 hns₁ k3
  have st4 : tn 0 h₁ := T.keep _ _ _ st fun b hb o e => k3 b o (Heap.get?_push_of_some _ e)
  have fB : ∀ H', (∀ b ∈ fp, H' b = none) → ∀ b ∈ fp, FpOk (blk X scope cl N' { s2 with heap := s2.heap.push { cls := .type "list", data := .seq ([] : List Value).toArray } } (upd H1 s2.heap.objs.size (.lst [])) (s2.heap.push { cls := .type "list", data := .seq ([] : List Value).toArray }).objs.size (X.pn ++ pins) fp) [] H' b := fun H' hn b hb => by
    refine ⟨hn b hb, Nat.ne_of_lt (lt3 b hb), ?_, .inl hb, fun x c h => (f1 b hb).2.2.2.2.1 x c (O.sub x c h), fun p hp => ?_⟩
    · intro z
      rcases List.mem_cons.mp (I3.stkSub b z) with e | e
      · exact (f1 b hb).2.1 e
      · exact (f1 b hb).2.2.1 e
    · have hp' : p ∈ X.pn ++ pins := by
        have z : p ∈ (X.pn ++ pins) ++ [] := hp
        rwa [List.append_nil] at z
      exact (f1 b hb).2.2.2.2.2 p hp'
  have loop := blk_loop (pos := pos) (iter := iter) (R := RR (.ref s2.heap.objs.size) (s2.heap.push { cls := .type "list", data := .seq ([] : List Value).toArray }).objs.size) hc T fB (hg _ _ _ _ _) (ht _ _ _ _ _) (he _ _ _ _ _) I4 st4 (fun b hb => (f3 b hb).1) w0 hW (fun τ' H' s' J' qf => by
    obtain ⟨m, hm, _⟩ := J'.loc
    refine fin _ _ H' s' ⟨blk_back I3 f3 J', ⟨m, hm⟩, I3.sz, Nat.ne_of_gt I3.lt, fun x c e z => ?_, fun p hp z => ?_, J'.free⟩ qf
    · obtain ⟨v, o, ho, _⟩ := I3.cell x c e
      exact absurd (Heap.lt_size ho) (by rw [z]; exact Nat.lt_irrefl _)
    · exact absurd (Heap.lt_size (I3.pin p hp).1) (by rw [z]; exact Nat.lt_irrefl _))
  exact codeAny_compStart_list loop (T.self _ 0 _ _ _ st4 loop)
theorem pe_comp (hc : X.calm = true) (O : CompOk X scope cl N' ix nl) (hi : PI X tg iter wi) (hg : ∀ s₀ H₀ C pn ex, PG (blk X scope cl N' s₀ H₀ C pn ex) tg g) (ht : ∀ s₀ H₀ C pn ex, PIfs (blk X scope cl N' s₀ H₀ C pn ex) ifs tt)
    (he : ∀ s₀ H₀ C pn ex, PE (blk X scope cl N' s₀ H₀ C pn ex) elt te) (hs : ∀ x, foldedSetIterable iter X.env x = pure x := by intro _; rfl) :
    PE X (.ListComp elt [⟨tg, iter, ifs, 0⟩] scope pos) (tComp ix nl wi g tt te) := by
  intro pins s σ H Q I h
  rw [eval_ListComp]
  refine wpAny_comprehension_free (use := none) rfl hs O.clos O.kind O.names (thn (hi pins s σ H _ I h) fun xv s1 h1 => thn h1 fun itv s2 h2 => ?_)
  obtain ⟨it, fp, tn, J, H1, rfl, I1, T, st, f1, q⟩ := h2
  refine comp_run (RR := fun acc C => compPost (model X.prog X.w) X.A X.xe none (EP X pins σ Q) acc C) hc O hg ht he I1 T st f1 q (fun D C H' s' L qf => ?_)
  obtain ⟨m, hm⟩ := L.ns
  exact ⟨m, hm, fun h' sb => ⟨.ref D, H', L.inv.letgo L.sz L.loc L.cel L.pin L.non sb, rfl, qf⟩⟩
end
end L2

set_option Elab.async false
set_option linter.all false
set_option maxRecDepth 100000
set_option maxHeartbeats 1000000
namespace L2
open PySem PySem.Spec PyProof.Rows
section
variable {X : Cx}
end
end L2

set_option Elab.async false
set_option linter.all false
set_option maxRecDepth 100000
set_option maxHeartbeats 1000000
namespace L2
open PySem PySem.Spec PyProof.Rows
def tComp1 (D : Addr) (g : TG) (tt : TT) (te : TE) (x : V) (τ : St) (H : Hp) (R : St → Hp → Prop) : Prop := g x τ H fun τ' H' => tt τ' H' fun b H4 =>
  if b = true then te τ' H4 fun v H5 => ∃ ys, H5 D = some (.lst ys) ∧ ys.length < sizeLine ∧ R τ' (upd H5 D (.lst (ys ++ [v]))) else R τ' H4
def CompS (D : Addr) (J : It) (g : TG) (tt : TT) (te : TE) (Q : VK) (τ : St) (H : Hp) : Prop := ∃ W : Nat → Nat → St → Hp → Prop, (∃ m, W 0 m τ H) ∧ compW D J g tt te Q W
theorem tComp_eq {ix : List Nat} {nl : Nat} {wi : TI} {g : TG} {tt : TT} {te : TE} {σ : St} {H : Hp} {Q : VK} :
    tComp ix nl wi g tt te σ H Q = wi σ H fun J H1 => ∀ D, H1 D = none → CompS D J g tt te Q (slots ix σ ++ List.replicate nl none) (upd H1 D (.lst [])) := rfl
section
variable {K : PySem.W.Frag} {D a : Addr} {g : TG} {tt : TT} {te : TE} {Q : VK} {τ : St} {H : Hp}
theorem compS_range {lo : Int} {n : Nat} (Pv : Nat → St → Hp → Prop) (h0 : Pv 0 τ H)
    (hs : ∀ i τ H (R : St → Hp → Prop), i < n → Pv i τ H → (∀ τ' H', Pv (i + 1) τ' H' → R τ' H') → tComp1 D g tt te (.int (lo + i)) τ H R) (hd : ∀ τ H, Pv n τ H → Q (.ref D) H) : CompS D (Itr lo n) g tt te Q τ H := by
  refine ⟨fun i m τ H => m = n - i ∧ i ≤ n ∧ Pv i τ H, ⟨n, by simp, Nat.zero_le _, h0⟩, ?_⟩
  rintro i m τ H2 ⟨rfl, hi, p⟩
  by_cases hlt : i < n
  · refine .inr ⟨hlt, fun x H' y => ?_⟩
    obtain ⟨e, y⟩ := y
    subst e y
    exact hs i τ _ (fun τ' H' => ∃ m', m' < n - i ∧ m' = n - (i + 1) ∧ i + 1 ≤ n ∧ Pv (i + 1) τ' H') hlt p fun τ' H' p' => ⟨_, by omega, rfl, hlt, p'⟩
  · have e : i = n := by omega
    subst e
    exact .inl ⟨Nat.le_refl _, hd τ H2 p⟩
theorem SqT.lst {H : Hp} {p b : Addr} {xs ys zs : List V} (h : SqT K H b xs) (hp : H p = some (.lst ys)) : SqT K (upd H p (.lst zs)) b xs := by
  rcases h with (h | ⟨o, h⟩) | h
  · exact .inl (.inl (by rw [upd_ne (ne_of h hp (by intro z; cases z))]; exact h))
  · exact .inl (.inr ⟨o, by rw [upd_ne (ne_of h hp (by intro z; cases z))]; exact h⟩)
  · exact .inr h
end
section
variable {X : Cx} {K : PySem.W.Frag}
theorem ix_listK (h : X.K = K) : IxR X (rIxL K) := by subst h; exact ix_list
end
end L2

set_option Elab.async false
set_option linter.all false
set_option maxRecDepth 100000
set_option maxHeartbeats 1000000
namespace L2
open PySem PySem.Spec PyProof.Rows
section
variable {prog : Program} {w : World} {A : Around} {E : Value → Shared → Prop} {s : Shared}
end
section
variable {prog : Program} {w : World} {A : Around} {E : Value → Shared → Prop} {s : Shared}
end
def Ite (sq : Hp → List V → Prop) : It := ⟨fun i H => ∃ xs x, sq H xs ∧ xs[i]? = some x, fun i H x H' => ∃ T v, H T = none ∧ x = .ref T ∧ H' = upd H T (.tup [.int i, v]) ∧ ∀ xs, sq H xs → xs[i]? = some v, fun i H => ∃ xs, sq H xs ∧ xs.length ≤ i⟩
section
variable {X : Cx} {elts : List Expr} {kk : Nat} {tpos : Pos}
def iEnumL (K : PySem.W.Frag) (ta : TA) : TI := fun σ H R => ta σ H fun vs H1 => ∃ a, vs = [.ref a] ∧ (∃ xs, SqL K H1 a xs) ∧ R (Ite fun H xs => SqL K H a xs) H1
def iEnumT (K : PySem.W.Frag) (ta : TA) : TI := fun σ H R => ta σ H fun vs H1 => ∃ a, vs = [.ref a] ∧ (∃ xs, SqT K H1 a xs) ∧ R (Ite fun H xs => SqT K H a xs) H1
end
end L2

set_option Elab.async false
set_option linter.all false
set_option maxRecDepth 100000
set_option maxHeartbeats 1000000
namespace HT
open PySem PySem.Spec PyProof.Rows
section
variable {prog : Program} {w : World} {A : Around} {E : Value → Shared → Prop} {s : Shared}
end
end HT
namespace L2
open PySem PySem.Spec PyProof.Rows
section
variable {X : Cx}
def rSlTA (K : PySem.W.Frag) : V → Option Int → Option Int → Hp → VK → Prop := fun x lo hi H Q => ∃ a xs, x = .ref a ∧ SqT K H a xs ∧ (cutV xs lo hi = xs → Q (.ref a) H) ∧ ∀ p, H p = none → Q (.ref p) (upd H p (.tup (cutV xs lo hi)))
end
end L2

set_option Elab.async false
set_option linter.all false
set_option maxRecDepth 100000
set_option maxHeartbeats 1000000
namespace L2
open PySem PySem.Spec PyProof.Rows
open PySem.Builtin PySem.Builtin.ObjectAttr PySem.Builtin.Getset_descriptor
open PySem.W (Frag Looks looks_findIn looks_specialIn looks_takesIn looks_mroIn looks_subIn looks_typeIn)

def ExcAt (x D : Addr) (h : Heap) : Prop := ∃ o vs, h.get? x = some o ∧ o.cls = .ref D ∧ o.data = .fields vs
structure XCls (K : Frag) (D : Addr) : Prop where
  ga : PySem.W.findIn K (.ref D) "__getattribute__" = some (some (.builtin "BaseException.__getattribute__"))
  gt : PySem.W.findIn K (.ref D) "__getattr__" = some none
  ca : PySem.W.findIn K (.ref D) "__class__" = some (some (.builtin "object.__class__"))
  cn : PySem.W.specialIn K (.builtin "object.__class__") "__get__" = some (some (.builtin "getset_descriptor.__get__"))
  tk : PySem.W.takesIn K (.builtin "object.__class__") = some true
  mo : PySem.W.mroIn K D (.type "object") = some true
  mb : PySem.W.mroIn K D (.type "BaseException") = some true
  is : (PySem.W.clsIn K D).isSome = true
section
variable {prog : Program} {w : World} {A : Around} {E : Value → Shared → Prop} {s : Shared} {K : Frag} {x D : Addr}
theorem ExcAt.type {M : Model} {h : Heap} (I : ExcAt x D h) : Looks M h (typeOf (.ref x)) (.ref D) := by
  obtain ⟨o, vs, e, c, _⟩ := I
  exact c ▸ (Looks.ld e).andThen .now
theorem xcls_get {R : Result → Shared → Prop} {tp : Value} (X : K.In s.heap) (I : ExcAt x D s.heap) (hm : PySem.W.mroIn K D (.type "object") = some true)
    (h : R (.ok (.ret (.ref D))) s) : codeAny (model prog w) A (.call (.builtin "getset_descriptor.__get__") ⟨[.builtin "object.__class__", .ref x, tp], []⟩) R s := by
  obtain ⟨hh, g, dr, t, os⟩ := s
  have L0 := I.type (M := model prog w)
  have L1 := looks_mroIn (M := model prog w) X hm
  refine codeAny_call_builtin PySem.W.KF.slot_gs.plain PySem.W.KF.entry_gs (PySem.W.KF.slot_gs.check _ _ _ _ _ _ _ _ PySem.W.KF.type_class (PySem.W.KF.args_gs _ _ _) ?_)
  unfold Builtin.«getset_descriptor.__get__» descrGet
  rw [PySem.W.dga_obj]
  refine wpAny_bind (wpAny_pure ?_)
  unfold descrGetter descrCheckInstance descrNameAndClass isInstance
  simp only [PySem.W.KF.owner_class]
  repeat lk
  refine ⟨Code.quiet_builtin _ (by decide +kernel), codeAny_builtin PySem.W.KF.entry_class ?_⟩
  unfold Builtin.«object.__class__» shownTypeOf
  repeat lk
  exact h
theorem xcls_find {M : Model} {h : Heap} (X : K.In h) (c : XCls K D) : Looks M h (find (.ref x) (.ref D) "__class__") (.bind (.builtin "getset_descriptor.__get__") (.builtin "object.__class__")) := by
  have L1 := looks_findIn (M := M) X c.ca
  have L2 : Looks M h (getOf (some (.builtin "object.__class__"))) (some (.builtin "getset_descriptor.__get__")) := looks_specialIn X c.cn
  have L3 := looks_takesIn (M := M) X c.tk
  have L4 : Looks M h (dataDescriptor? (some (.builtin "object.__class__")) (some (.builtin "getset_descriptor.__get__"))) (some (.builtin "getset_descriptor.__get__", .builtin "object.__class__")) := L3.andThen .now
  unfold find
  exact L1.andThen (L2.andThen (L4.andThen (Looks.tag .now)))
theorem xcls_entry {tk : Tok} {Q : Fin → Shared → Prop} (X : K.In s.heap) (c : XCls K D) (I : ExcAt x D s.heap) (hq : Q (.done (.ret (.ref D))) s) :
    wpAny (model prog w) A (Builtin.«object.__getattribute__» ⟨[.ref x, .str "__class__" tk], []⟩) Q E s := by
  obtain ⟨hh, g, dr, t, os⟩ := s
  have L0 := I.type (M := model prog w)
  have L1 := xcls_find (M := model prog w) (x := x) X c
  unfold Builtin.«object.__getattribute__»
  refine wpAny_bind (wpAny_pure (wpAny_bind (wpAny_pure (wpAny_bind (L0.at (wpAny_bind (L1.at ?_)))))))
  show wpAny _ _ (holding [.builtin "object.__class__"] (call (.builtin "getset_descriptor.__get__") [.builtin "object.__class__", .ref x, .ref D]) >>= ret) _ _ _
  exact wpAny_bind (wpAny_holding (wpAny_call (xcls_get X I c.mo (wpAny_pure hq))))
theorem xcls_check {M : Model} {nameV : Value} {Q : Unit → Shared → Prop} (X : K.In s.heap) (c : XCls K D) (I : ExcAt x D s.heap) (hq : Q () s) : wpAny M A (checkBuiltinCall "BaseException.__getattribute__" ⟨[.ref x, nameV], []⟩) Q E s := by
  obtain ⟨hh, g, dr, t, os⟩ := s
  have hk : builtinKind "BaseException.__getattribute__" = some .slot := by decide +kernel
  have hsplit : splitId "BaseException.__getattribute__" = some ("BaseException", "__getattribute__") := by decide +kernel
  have ha := F.args_bexc_ga (.ref x) nameV
  have L0 := I.type (M := M)
  have L1 := looks_mroIn (M := M) X c.mb
  have L2 : Looks M hh (isInstance (.ref x) (.type "BaseException")) true := L0.andThen L1
  simp only [checkBuiltinCall, hk, hsplit]
  refine wpAny_bind (L2.at ?_)
  repeat (first | wp_step)
  exact hq
theorem xcls_attr {Q : Option Value → Shared → Prop} (X : K.In s.heap) (c : XCls K D) (I : ExcAt x D s.heap) (hq : Q (some (.ref D)) { s with toks := s.toks + 1 }) : wpAny (model prog w) A (getAttr? (.ref x) "__class__") Q E s := by
  obtain ⟨hh, g, dr, t, os⟩ := s
  have L0 := I.type (M := model prog w)
  have L1 := looks_findIn (M := model prog w) X c.ga
  have L2 := looks_findIn (M := model prog w) X c.gt
  have hb := F.excAttr_ValueError.ga.bind (.ref x)
  unfold getAttr? getAttrBy? getAttrBy
  refine wpAny_bind (wpAny_mkText (wpAny_bind (wpAny_attempt (wpAny_holding (wpAny_bind (L0.at (wpAny_bind (L1.at ?_))))))))
  show wpAny _ _ (getAttrByItsOwn _ _ _ _ _ _) _ _ _
  unfold getAttrByItsOwn
  refine wpAny_bind (show wpAny _ _ (typeLookup (.ref D) "__getattr__") _ _ _ from L2.at ?_)
  refine wpAny_bind (wpAny_attempt (wpAny_holding ?_))
  show wpAny _ _ (boundAndCalled _ _ _) _ _ _
  unfold boundAndCalled
  rw [hb]
  refine wpAny_bind (wpAny_pure (wpAny_call ?_))
  refine codeAny_call_builtin F.excAttr_ValueError.ga.plain F.entry_bexc_ga (xcls_check X c I (xcls_entry X c I ?_))
  show wpAny _ _ (handedOut (.ref D)) _ _ _
  exact PySem.W.handed_on rfl (wpAny_pure hq)
theorem kitx_exc (c : XCls K D) : PySem.W.KitX K (.ref x) (.ref D) (ExcAt x D) where
  ty := fun _ _ _ I => I.type
  it := fun _ _ X _ => by
    obtain ⟨cdD, hcD⟩ := Option.isSome_iff_exists.mp c.is
    unfold PySem.W.clsIn at hcD
    split at hcD
    · rename_i c' d' cd' sl' ho
      intro A' Q' E' s' k q
      unfold isType loadHead
      exact wpAny_bind (wpAny_loadPart (k _ _ (X _ _ ho)) (wpAny_pure q))
    · cases hcD
  ne := fun h tp dd its n sl X htp => by
    obtain ⟨cdD, hcD⟩ := Option.isSome_iff_exists.mp c.is
    refine Bool.eq_false_iff.mpr fun q => ?_
    have e : D = tp := Value.ref.inj (beq_iff_eq.mp q)
    subst e
    unfold PySem.W.clsIn at hcD
    split at hcD
    · rename_i c' d' cd' sl' ho
      have z := (X _ _ ho).symm.trans htp
      cases z
    · cases hcD
  ca := fun X I k => xcls_attr X c I k
theorem xcls_matches {M : Model} {C : Addr} {b : Bool} {Q : Bool → Shared → Prop} (X : K.In s.heap) (I : ExcAt x D s.heap) (hc : PySem.W.clsIn K C ≠ none) (ht : PySem.W.typeIn K (.ref C) = some (.type "type")) (hb : PySem.W.mroIn K C (.type "BaseException") = some true)
    (hs : PySem.W.subIn K (.ref D) (.ref C) = some b) (hq : Q b s) : wpAny M A (excMatches (.ref x) (.ref C)) Q E s := by
  obtain ⟨hh, g, dr, t, os⟩ := s
  have L0 := I.type (M := M)
  have L1 := looks_typeIn (M := M) X ht
  have L2 : Looks M hh (isSubtype (.type "type") (.type "tuple")) false := Looks.of_pure (by rw [isSubtype_type]; kernel_rfl)
  have L3 : Looks M hh (isInstance (.ref C) (.type "tuple")) false := L1.andThen L2
  have L4 := looks_mroIn (M := M) X hb
  have L5 := looks_subIn (M := M) X hs
  have L6 : Looks M hh (isType (.ref C)) true := by
    obtain ⟨cdD, hcD⟩ := Option.ne_none_iff_exists'.mp hc
    unfold PySem.W.clsIn at hcD
    split at hcD
    · rename_i c' d' cd' sl' ho
      intro A' Q' E' s' k q
      unfold isType loadHead
      exact wpAny_bind (wpAny_loadPart (k _ _ (X _ _ ho)) (wpAny_pure q))
    · cases hcD
  have L7 : Looks M hh (isExcClass (.ref C)) true := L6.andThen L4
  unfold excMatches
  refine wpAny_bind (L3.at ?_)
  rw [if_neg Bool.false_ne_true]
  refine wpAny_bind (wpAny_pure ?_)
  simp only [List.forIn_cons, List.forIn_nil]
  refine wpAny_bind (wpAny_bind (wpAny_bind (L7.at ?_)))
  rw [if_neg (by decide)]
  refine wpAny_pure (wpAny_pure (wpAny_bind (L0.at (wpAny_bind (wpAny_bind (wpAny_bind (L5.at ?_)))))))
  cases b with
  | true => exact wpAny_pure (wpAny_pure (wpAny_pure hq))
  | false => exact wpAny_pure (wpAny_pure (wpAny_pure hq))
end
end L2

set_option Elab.async false
set_option linter.all false
set_option maxRecDepth 100000
set_option maxHeartbeats 1000000
namespace L2
open PySem PySem.Spec PyProof.Rows
theorem ObjOk.here {P : Program} {w : World} {H : Hp} {h : Heap} {a : Addr} {o : HO} (x : ObjOk P w H h a o) : ∃ ob, h.get? a = some ob := by
  cases o with
  | lst xs => obtain ⟨_, _, _, _, e⟩ := x; exact ⟨_, e⟩
  | tup xs => obtain ⟨_, _, _, _, ob, e, _⟩ := x; exact ⟨_, e⟩
  | dK kvs => obtain ⟨_, _, _, _, o, _, _, e, _⟩ := x; exact ⟨_, e⟩
  | dT kvs => obtain ⟨_, _, _, _, o, _, _, e, _⟩ := x; exact ⟨_, e⟩
  | set S n => obtain ⟨o, _, _, _, e, _⟩ := x; exact ⟨_, e⟩
  | ins C dx fs => obtain ⟨_, _, _, e, _⟩ := x; exact ⟨_, e⟩
  | own y => exact x
  | xd fs => obtain ⟨_, ⟨_, _, _, e, _⟩, _⟩ := x; exact ⟨_, e⟩
  | rng lo hi => obtain ⟨_, _, _, e⟩ := x; exact ⟨_, e⟩
  | frz ob u => obtain ⟨e, _⟩ := x; exact ⟨_, e⟩
  | tbl ps => exact ⟨_, (show h.get? a = some _ from x)⟩
  | met f y => exact ⟨_, (show h.get? a = some _ from x)⟩
  | ext φ => obtain ⟨_, e, _⟩ := x; exact e
structure Fly (P : Program) (w : World) (outer : List Env) (H : Hp) (s : Shared) (B : Heap) (H' : Hp) (a C : Addr) (a0 : Value) (s' : Shared) : Prop where
  os : s'.os = s.os
  bare : AllBare s'.gens
  un : Un (frs outer) [] H H' s.heap s'.heap
  hok : HOk P w H' s'.heap
  fly : Heap.FlyingW B outer a (.ref C) a0 s'.heap
  old : ∀ b o, s'.heap.get? b = some o → (∃ o', s.heap.get? b = some o') → b ∉ frs outer → B.get? b = some o
  trk : ∀ b u o, H' b = some u → s'.heap.get? b = some o → B.get? b = some o
  new : H' a = none
  fresh : s.heap.get? a = none
def CXE (P : Program) (w : World) : CXT := fun outer H s E e s' => ∃ a C H' B a0, e = .ref a ∧ Fly P w outer H s B H' a C a0 s' ∧ E (.ref C) none H'
section
variable {P : Program} {w : World} {outer : List Env} {H H' : Hp} {s s' : Shared} {B : Heap} {a C : Addr} {a0 : Value} {h6 : Heap}
theorem Fly.excAt (F : Fly P w outer H s B H' a C a0 s') : ExcAt a C s'.heap := by
  obtain ⟨_, _, _, oe, vs, _, _, _, he, hc, hd, _⟩ := F.fly
  exact ⟨oe, vs, he, hc.1, hd⟩
theorem Fly.on (F : Fly P w outer H s B H' a C a0 s') (fl : Heap.FlyingW B outer a (.ref C) a0 h6) (up : s'.heap.UpToSlots h6) : Fly P w outer H s B H' a C a0 { s' with heap := h6 } := by
  have st := fl.1
  have fr : ∀ b ∈ frs outer, ∀ o, s'.heap.get? b = some o → ∃ sl, h6.get? b = some { o with slots := sl } := fun b hb o e => by
    obtain ⟨_, o', e', hd⟩ := F.fly.2.2.1.mem hb
    rw [e] at e'
    cases e'
    exact up b o e hd
  have inB : ∀ b o, s'.heap.get? b = some o → (∃ o', s.heap.get? b = some o') → b ∉ frs outer → h6.get? b = some o := fun b o e x hb => st b o (F.old b o e x hb)
  refine ⟨F.os, F.bare, ⟨fun b o e n hb hx => ?_, fun b o e n hb hx => ?_, F.un.free, fun b o e hx => ?_, F.un.tups, F.un.frzs, F.un.tbls⟩, fun b u e => ?_, fl, fun b o e x hb => ?_, fun b u o e q => ?_, F.new, F.fresh⟩
  · exact inB b o (F.un.keep b o e n hb hx) ⟨o, e⟩ hb
  · obtain ⟨sl, e1⟩ := F.un.slot b o e n hb hx
    obtain ⟨sl', e2⟩ := fr b hb _ e1
    exact ⟨sl', e2⟩
  · obtain ⟨o', e1⟩ := F.un.there b o e hx
    by_cases hb : b ∈ frs outer
    · obtain ⟨sl, e2⟩ := fr b hb _ e1
      exact ⟨_, e2⟩
    · exact ⟨o', inB b o' e1 ⟨o, e⟩ hb⟩
  · refine (F.hok b u e).stay (fun c v hc q => ?_) (fun _ q => q) fun _ _ q => q
    have tc : ∃ u', H' c = some u' := by
      rcases hc with rfl | hc
      · exact ⟨u, e⟩
      · exact ⟨_, hc⟩
    obtain ⟨u', eu⟩ := tc
    exact st c v (F.trk c u' v eu q)
  · obtain ⟨o', ho'⟩ := x
    obtain ⟨o1, e1⟩ := F.un.there b o' ho' (by simp)
    have z := F.old b o1 e1 ⟨o', ho'⟩ hb
    have z2 : h6.get? b = some o1 := st b o1 z
    rw [show h6.get? b = some o from e] at z2
    cases z2
    exact z
  · obtain ⟨o1, e1⟩ := (F.hok b u e).here
    have z := F.trk b u o1 e e1
    have z2 : h6.get? b = some o1 := st b o1 z
    rw [show h6.get? b = some o from q] at z2
    cases z2
    exact z
end
theorem frs_cons {env : Env} {outer : List Env} {L : Addr} (h : env.frame = some L) : frs (env :: outer) = L :: frs outer := by
  unfold frs
  rw [List.filterMap_cons, h]
section
variable {X : Cx} {pins : List (Addr × Obj)} {σ : St} {H H' : Hp} {s s' : Shared} {B : Heap} {a C : Addr} {a0 : Value}
theorem Inv.caught (I : Inv X pins σ H s) (F : Fly X.prog X.w X.stack H s B H' a C a0 s') : Inv X pins σ H' s' := by
  obtain ⟨hh, g, d, t, os'⟩ := s'
  obtain rfl : os' = s.os := F.os
  exact I.call (h' := hh) (g' := g) (d' := d) (t' := t) (ch := []) F.un F.hok F.bare (fun b z => absurd z (by simp))
theorem Inv.flies (I : Inv X pins σ H s) (hx : X.ex = []) (hs : X.stack = X.env :: X.outer) (hf : X.env.frame = some X.env.locals) (F : Fly X.prog X.w X.stack H s B H' a C a0 s') (fl : Heap.FlyingW B X.outer a (.ref C) a0 s'.heap) :
    Fly X.prog X.w X.outer X.H₀ X.s₀ B H' a C a0 s' := by
  have u := F.un
  have ol := F.old
  rw [hs, frs_cons hf] at u ol
  have nex : ∀ b : Addr, b ∉ X.ex := fun b => by rw [hx]; simp
  have neL : ∀ b o, X.s₀.heap.get? b = some o → b ≠ X.env.locals := fun b o e => Nat.ne_of_lt (Nat.lt_of_lt_of_le (Heap.lt_size e) I.ok.above)
  refine ⟨F.os.trans I.os, F.bare, ⟨fun b o e n hb _ => ?_, fun b o e n hb _ => ?_, fun b o e n _ => ?_, fun b o e _ => ?_, fun b xs e => u.tups b xs (I.base.tups b xs e), fun b o v e => u.frzs b o v (I.base.frzs b o v e), fun b ps e => ?_⟩, F.hok, fl, fun b o e x hb => ?_, F.trk, F.new, ?_⟩
  · exact u.keep b o (I.base.keep b o e n hb (nex b)) (I.base.free b o e n (nex b)) (by simp [neL b o e]; exact hb) (by simp)
  · obtain ⟨sl, e1⟩ := I.base.slot b o e n hb (nex b)
    obtain ⟨sl', e2⟩ := u.slot b _ e1 (I.base.free b o e n (nex b)) (List.mem_cons_of_mem _ hb) (by simp)
    exact ⟨sl', e2⟩
  · obtain ⟨o', e1⟩ := I.base.there b o e (nex b)
    exact u.free b o' e1 (I.base.free b o e n (nex b)) (by simp)
  · obtain ⟨o', e1⟩ := I.base.there b o e (nex b)
    exact u.there b o' e1 (by simp)
  · obtain ⟨m1, e1⟩ := I.base.tbls b ps e
    obtain ⟨m2, e2⟩ := u.tbls b _ e1
    exact ⟨m1 ++ m2, by rw [e2, Array.append_assoc]⟩
  · obtain ⟨o', ho'⟩ := x
    obtain ⟨o1, e1⟩ := I.base.there b o' ho' (nex b)
    exact ol b o e ⟨o1, e1⟩ (by simp [neL b o' ho']; exact hb)
  · cases q : X.s₀.heap.get? a with
    | none => rfl
    | some o =>
      obtain ⟨o', e⟩ := I.base.there a o q (nex a)
      rw [F.fresh] at e
      cases e
theorem Inv.made' {h' : Heap} {args : List Value} (I : Inv X pins σ H s) (hs : X.stack = X.env :: X.outer) (hf : X.env.frame = some X.env.locals) (hm : Heap.MadeExcOf s.heap h' a (.ref C) args) {Q : Unit → Shared → Prop} {E : Value → Shared → Prop}
    (k : ∀ B a0 s', Fly X.prog X.w X.stack H s B H a C a0 s' → Heap.FlyingW B X.outer a (.ref C) a0 s'.heap → Q () s') {M : Model} : wpAny M X.A (leaving X.env (.ref a)) Q E { s with heap := h' } := by
  have fr := I.stack
  rw [hs] at fr
  have hfr := I.ok.frames
  rw [hs] at hfr
  have hin : ∀ env ∈ (X.env :: X.outer), ∀ b, env.frame = some b → b ∈ frs (X.env :: X.outer) := fun env he b hb => List.mem_filterMap.mpr ⟨env, he, hb⟩
  refine wpAny_leaves_madeW (base := PySem.W.hideAll s.heap (frs (X.env :: X.outer))) hfr hf (fun b o q => PySem.W.of_hideAll _ q) (PySem.W.funFrames_hide fr hin) hm fun h'' t x1 x2 x3 x4 => ?_
  have ha : H a = none := by
    cases q : H a with
    | none => rfl
    | some u =>
      obtain ⟨o, e⟩ := (I.hok a u q).here
      rw [hm.new] at e
      cases e
  have st := x1.1
  have hd : ∀ b o, s.heap.get? b = some o → b ∉ frs (X.env :: X.outer) → (PySem.W.hideAll s.heap (frs (X.env :: X.outer))).get? b = some o := fun b o e n => PySem.W.hideAll_get _ e n
  have frm : ∀ b ∈ frs (X.env :: X.outer), ∀ o, s.heap.get? b = some o → ∃ sl, h''.get? b = some { o with slots := sl } := fun b hb o e => by
    obtain ⟨_, o', e', hdt⟩ := fr.mem hb
    rw [e] at e'
    cases e'
    exact x4 b o (hm.keeps b o e) hdt
  have nt : ∀ b u, H b = some u → b ∉ frs (X.env :: X.outer) := fun b u e hb => by
    have z := I.stkFree b (by rw [hs]; exact hb)
    rw [e] at z
    cases z
  refine k (PySem.W.hideAll s.heap (frs (X.env :: X.outer))) (.ref t) { s with heap := h'' } ?_ x1
  rw [hs]
  refine ⟨rfl, I.bare, ⟨fun b o e n hb _ => st b o (hd b o e hb), fun b o e n hb _ => frm b hb o e, fun _ _ _ n _ => n, fun b o e _ => ?_, fun _ _ e => e, fun _ _ _ e => e, fun b ps e => ⟨#[], by rw [e]; simp⟩⟩, fun b u e => ?_, ?_, fun b o e x hb => ?_, fun b u o e q => ?_, ha, hm.new⟩
  · by_cases hb : b ∈ frs (X.env :: X.outer)
    · obtain ⟨sl, q⟩ := frm b hb o e
      exact ⟨_, q⟩
    · exact ⟨o, st b o (hd b o e hb)⟩
  · refine (I.hok b u e).stay (fun c v hc q => ?_) (fun _ q => q) fun _ _ q => q
    refine st c v (hd c v q ?_)
    rcases hc with rfl | hc
    · exact nt _ _ e
    · exact nt _ _ hc
  · obtain ⟨k1, k2, k3, k4⟩ := x1
    refine ⟨k1, k2, ?_, k4⟩
    have ff : h''.FunFrames (PySem.W.hideAll s.heap (frs (X.env :: X.outer))) (X.env :: X.outer) := by
      have f0 := PySem.W.funFrames_hide fr hin
      refine f0.of_keeps fun b o e hdt => ?_
      by_cases hb : b ∈ frs (X.env :: X.outer)
      · obtain ⟨sl, q⟩ := frm b hb o e
        exact ⟨_, q, rfl⟩
      · exact ⟨o, st b o (hd b o e hb), rfl⟩
    exact ff
  · obtain ⟨o', e'⟩ := x
    have z := hd b o' e' hb
    have z2 : h''.get? b = some o' := st b o' z
    rw [show h''.get? b = some o from e] at z2
    cases z2
    exact z
  · obtain ⟨o1, e1⟩ := (I.hok b u e).here
    have z := hd b o1 e1 (nt b u e)
    have z2 : h''.get? b = some o1 := st b o1 z
    rw [show h''.get? b = some o from q] at z2
    cases z2
    exact z
end
def Throws (X : Cx) (E : XK) : Prop := ∀ (pins : List (Addr × Obj)) (σ : St) (H : Hp) (s : Shared) (h' : Heap) (a C : Addr) (args : List Value), Inv X pins σ H s → Heap.MadeExcOf s.heap h' a (.ref C) args → E (.ref C) none H → X.xe (.ref a) { s with heap := h' }
section
variable {P : Program} {w : World} {K : PySem.W.Frag} {mg : Str → Option Value} {base : Heap} {N : List Str} {qual : Str} {scope : Scope} {f : Addr} {cd : Value} {A : Around} {outer : List Env} {s : Shared} {H : Hp} {E : XK}
theorem throws_cx : Throws (cxOf (CXE P w) P w K mg base N qual scope f cd A outer s H E) E := by
  intro pins σ H1 s1 h' a C args I hm e
  exact I.made' rfl rfl hm fun B a0 s' F fl => ⟨a, C, H1, B, a0, rfl, I.flies rfl rfl rfl F fl, e⟩
theorem pass_cx : Passes (CXE P w) (cxOf (CXE P w) P w K mg base N qual scope f cd A outer s H E) E := by
  rintro pins σ H1 s1 ev s' I ⟨a, C, H', B, a0, rfl, F, e⟩
  show wpAny _ _ (leaving _ (.ref a)) _ _ s'
  refine wpAny_leaves_onW I.ok.frames rfl F.fly fun h' fl up => ?_
  have fl2 : Heap.FlyingW B (envOfC qual scope s.heap.objs.size f cd :: outer) a (.ref C) a0 h' := by
    obtain ⟨k1, k2, k3, k4⟩ := fl
    refine ⟨k1, k2, ?_, k4⟩
    refine F.fly.2.2.1.of_keeps fun b o e hd => ?_
    obtain ⟨sl, q⟩ := up b o e hd
    exact ⟨_, q, rfl⟩
  exact ⟨a, C, H', B, a0, rfl, I.flies rfl rfl rfl (F.on fl2 up) fl, e⟩
theorem passE0 {X : Cx} : Passes (CXE X.prog X.w) X E0 := by
  rintro pins σ H1 s1 ev s' I ⟨a, C, H', B, a0, rfl, F, e⟩
  exact e.elim
end
theorem Fun.okX {P : Program} {w : World} {K : PySem.W.Frag} {mg : Str → Option Value} {base : Heap} {x qual : Str} {st : Stmt} {f : Addr} {fd : FuncData} {N ps : List Str} {k : Nat} {sp : Sp} (F : Fun K x qual st f fd) (S : FnScope N ps (defScope st)) (len : ∀ vs H Q E, sp vs H Q E → vs.length = ps.length)
    (hbody : ∀ (cdv : Value) (A : Around) (outer : List Env) (s : Shared) (H : Hp) (vs : List V) (Q : VK) (E : XK), Room k (A.deeper (envOfC qual (defScope st) s.heap.objs.size f cdv)) → sp vs H Q E →
      ∃ t, PSs (cxOf (CXE P w) P w K mg base N qual (defScope st) f cdv A outer s H E) (defBody st) t ∧ t { nx := fun _ H' => Q .non H', rt := Q } (start N vs) H) : FnOk P w K mg base (CXE P w) (k + 1) f fd ps sp := by
  obtain ⟨oc, od, kV, doc, pm, an, cdv, ct, osl, rfl, lk, hcd⟩ := F.ex
  exact fn_of lk hcd S len fun A outer s H vs Q E hr hsp => hbody cdv A outer s H vs Q E hr hsp
abbrev bmVE : List Value := [.type "ValueError", .type "Exception", .type "BaseException", .type "object"]
structure XRaise (K : PySem.W.Frag) (mg : Str → Option Value) (x : Str) (C : Addr) : Prop where
  at_ : mg x = some (.ref C)
  ex : PySem.W.excIn K C bmVE "ValueError.__new__" = true
theorem XRaise.own {K : PySem.W.Frag} {mg : Str → Option Value} {x : Str} {C : Addr} {h : Heap} (R : XRaise K mg x C) (X : K.In h) : OwnCls x C bmVE "ValueError.__new__" mg h := by
  refine ⟨R.at_, ?_⟩
  have q := R.ex
  unfold PySem.W.excIn at q
  split at q
  · rename_i dd cd sl ho
    split at q
    · rename_i C' bm k0 k1 k2 k3 n k5 hm hs
      simp only [Bool.and_eq_true, beq_iff_eq, Bool.not_eq_true'] at q
      obtain ⟨⟨⟨⟨⟨rfl, rfl⟩, hdel⟩, ht⟩, hok⟩, hni⟩ := q
      obtain ⟨nm, bs, mro, ns, qn, hd, sn, sub, ab, col, del⟩ := cd
      dsimp only at hm hdel hok hni
      subst hm hdel
      have hsl : sl = #[k0, k1, k2, k3, some (.builtin "ValueError.__new__"), k5] := by
        obtain ⟨l⟩ := sl
        simp only at hs
        rw [hs]
      subst hsl
      exact ⟨bm, ns, nm, qn, bs, hd, sn, sub, ab, col, dd, k0, k1, k2, k3, k5, _, X _ _ ho, .of_isNs (PySem.W.isNs_of_in X hok), PySem.W.nsMap_none_of_in X hok hni, PySem.W.tail_of_in X ht⟩
    · cases q
  · cases q
def tRaise (E : XK) (C : Addr) (t : TA) : TS := fun _ σ H => t σ H fun vs H1 => vs.length ≤ sizeLine ∧ E (.ref C) none H1
theorem ps_raise {X : Cx} {E : XK} {k : Nat} {x : Str} {C : Addr} {e₀ : Expr} {rest : List Expr} {np cpos pos : Pos} {t : TA} (T : Throws X E) (hr : Room k X.A) (hg : Gl X x) (R : XRaise X.K X.mg x C) (ha : PA X (e₀ :: rest) t)
    (he : starEach (e₀ :: rest) X.env = (false, eval e₀ X.env) :: starEach rest X.env := by rfl) (hpl : (backTo cpos (starEach rest X.env)).any (·.1) = false := by rfl) (hd : (x == ("__debug__" : Str)) = false := by decide) :
    PS X (.Raise (some (.Call (.Name x np) (e₀ :: rest) [] cpos)) none pos) (tRaise E C t) := by
  intro pins s σ H D I h
  obtain ⟨tl, N, nm, q, bs, hdct, sn, sub, ab, col, dd, k0, k1, k2, k3, k5, mN, hC, hN, hni, TL⟩ := (R.own I.mod.kin).obj
  refine wpAny_Raise_call_subT (C := C) (nm := nm) (q := q) (N := N) (bs := bs) (bm := tl) (hdct := hdct) (sn := sn) (sub := sub) (ab := ab) (col := col) (dd := dd) (k0 := k0) (k1 := k1) (k2 := k2) (k3 := k3) (k5 := k5)
    PySem.F.excBase_ValueError (mN := mN) (TL.hasType PySem.F.excBase_ValueError.hasBase) hr.hd (by rw [he]; show (false || (backTo cpos (starEach rest X.env)).any (·.1)) = false; rw [hpl]; rfl) hni (ld_glob I hg R.at_ ⟨rfl, ?_⟩ hd)
  have h0 := ha cpos pins s σ H _ I h
  rw [he] at h0 ⊢
  exact Calls.evalArgs_plain (wpAny_mono h0 (fun us s₂ ⟨vs, H1, I1, r, z, q⟩ => ⟨rfl, by rw [← r.length]; exact z, I1.bk _ _ hC, hN.keeps I1.bk, TL.keeps I1.bk, fun h' e hm => T pins σ H1 s₂ h' e C us I1 hm q⟩) fun _ _ y => y)

abbrev Cx.suite (X : Cx) (a : Addr) : Cx := { X with A := X.A.mark (some (.ref a)), calm := false }
theorem Cx.Ok.suite {X : Cx} (ok : X.Ok) (a : Addr) : (X.suite a).Ok :=
  ⟨ok.mod, ok.kind, ok.glob, ok.blt, ok.above, ok.inj, ok.has, ok.cab, (fun z => nomatch z), ok.frames, ok.stk, ok.exf, ok.bs, ok.bsz, ok.noex, ok.exfs, ok.funs, ok.frf⟩
section
variable {X : Cx} {pins : List (Addr × Obj)} {σ : St} {H : Hp} {s : Shared} {a : Addr}
theorem Inv.suite (I : Inv X pins σ H s) (a : Addr) : Inv (X.suite a) pins σ H s := ⟨I.ok.suite a, I.os, I.bare, I.base, I.loc, I.cell, I.free, I.freeC, I.pin, I.hok, I.len⟩
theorem Inv.unsuite (ok : X.Ok) (I : Inv (X.suite a) pins σ H s) : Inv X pins σ H s := ⟨ok, I.os, I.bare, I.base, I.loc, I.cell, I.free, I.freeC, I.pin, I.hok, I.len⟩
theorem Inv.blank {h' : Heap} {m' : Str → Option Value} {t' : Nat} (I : Inv X pins σ H s) (hn' : h'.Ns X.env.locals m') (hs : Heap.SameBut X.env.locals s.heap h') : Inv X pins (List.replicate X.N.length none) H { s with heap := h', toks := t' } := by
  obtain ⟨m, hn, _⟩ := I.loc
  obtain ⟨oL, _, _, hoL, _⟩ := id hn
  refine ⟨I.ok, I.os, I.bare, ⟨fun b o e n hb hx => ?_, fun b o e n hb hx => ?_, I.base.free, fun b o e hx => ?_, I.base.tups, I.base.frzs, I.base.tbls⟩, ⟨_, hn', fun j y v' e1 e2 e3 => ?_⟩, fun y c e => ?_, I.free, I.freeC, fun p hp => ?_, fun b ob e => ?_, by simp⟩
  · exact (hs.2 b (Nat.ne_of_lt (Nat.lt_of_lt_of_le (Heap.lt_size e) I.ok.above))).trans (I.base.keep b o e n hb hx)
  · obtain ⟨sl, e1⟩ := I.base.slot b o e n hb hx
    exact ⟨sl, (hs.2 b (Nat.ne_of_lt (Nat.lt_of_lt_of_le (Heap.lt_size e) I.ok.above))).trans e1⟩
  · obtain ⟨o', e1⟩ := I.base.there b o e hx
    exact ⟨o', (hs.2 b (Nat.ne_of_lt (Nat.lt_of_lt_of_le (Heap.lt_size e) I.ok.above))).trans e1⟩
  · rw [List.getElem?_replicate] at e2
    split at e2 <;> cases e2
  · obtain ⟨w', z⟩ := I.cell y c e
    exact ⟨w', z.sameBut hs (I.cne y c e)⟩
  · obtain ⟨e, n, ne, nf, d⟩ := I.pin p hp
    exact ⟨(hs.2 p.1 ne).trans e, n, ne, nf, d⟩
  · refine (I.hok b ob e).stay (fun c w' hc q => (hs.2 c ?_).trans q) (fun _ q => q) fun _ _ q => q
    rintro rfl
    rcases hc with rfl | hc
    · rw [I.free] at e; cases e
    · rw [I.free] at hc; cases hc
end
def excO (a D : Addr) : HO := .ext (ExcAt a D)
theorem excO_ok {P : Program} {w : World} {H : Hp} {h : Heap} {a D : Addr} (x : ExcAt a D h) : ObjOk P w H h a (excO a D) := by
  obtain ⟨o, vs, e, c, d⟩ := x
  exact ⟨⟨o, vs, e, c, d⟩, ⟨o, e⟩, fun h1 h2 ⟨o1, vs1, e1, c1, d1⟩ k => ⟨o1, vs1, k _ e1, c1, d1⟩⟩
theorem Inv.hold {X : Cx} {pins : List (Addr × Obj)} {σ : St} {H : Hp} {s : Shared} {a D : Addr} (I : Inv X pins σ H s) (x : ExcAt a D s.heap) (hn : H a = none) (hs : X.s₀.heap.get? a = none) (hL : a ≠ X.env.locals) (hc : ∀ x c, X.env.cells.lookup x = some c → c ≠ a) (hp : ∀ p ∈ X.pn ++ pins, p.1 ≠ a) :
    Inv X pins σ (upd H a (excO a D)) s := by
  have ne0 : ∀ b o, X.s₀.heap.get? b = some o → b ≠ a := fun b o e z => by rw [z, hs] at e; cases e
  refine ⟨I.ok, I.os, I.bare, ⟨I.base.keep, I.base.slot, fun b o e n hx => ?_, I.base.there, fun b xs e => ?_, fun b o u e => ?_, fun b ps e => ?_⟩, I.loc, I.cell, ?_, fun x c e => ?_, fun p hp' => ?_, fun b u e => ?_, I.len⟩
  · rw [upd_ne (ne0 b o e)]; exact I.base.free b o e n hx
  · rw [upd_ne (ne_of_none (I.base.tups b xs e) hn)]; exact I.base.tups b xs e
  · rw [upd_ne (ne_of_none (I.base.frzs b o u e) hn)]; exact I.base.frzs b o u e
  · obtain ⟨more, z⟩ := I.base.tbls b ps e
    exact ⟨more, by rw [upd_ne (ne_of_none z hn)]; exact z⟩
  · rw [upd_ne (Ne.symm hL)]; exact I.free
  · rw [upd_ne (hc x c e)]; exact I.freeC x c e
  · obtain ⟨e1, e2, e3⟩ := I.pin p hp'
    exact ⟨e1, by rw [upd_ne (hp p hp')]; exact e2, e3⟩
  · by_cases hb : b = a
    · subst hb
      rw [upd_same] at e
      cases e
      exact excO_ok x
    · rw [upd_ne hb] at e
      exact (I.hok b u e).stay (fun _ _ _ q => q) (fun c q => by rw [upd_ne (ne_of_none q hn)]; exact q) fun c xs q => by rw [upd_ne (ne_of_none q hn)]; exact q
structure XCatch (K : PySem.W.Frag) (mg : Str → Option Value) (x : Str) (C : Addr) : Prop where
  at_ : mg x = some (.ref C)
  is : PySem.W.clsIn K C ≠ none
  ty : PySem.W.typeIn K (.ref C) = some (.type "type")
  mb : PySem.W.mroIn K C (.type "BaseException") = some true
def tTry (sp : Sp) (t : TA) (i : Nat) (K : PySem.W.Frag) (C : Addr) (ts : TS) : TS := fun D σ H => t σ H fun vs H1 => sp vs H1 (fun _ H2 => D.nx σ H2) fun c _ H2 =>
  ∃ D', c = .ref D' ∧ PySem.W.subIn K (.ref D') (.ref C) = some true ∧ ∀ a, H2 a = none → ts { nx := fun _ _ => False, rt := D.rt } (σ.set i (some (.ref a))) (upd H2 a (excO a D'))
section
variable {X : Cx} {CX : CXT} {x y n : Str} {j k i : Nat} {ps : List Str} {sp : Sp} {p pos tpos hpos np epos : Pos} {e : Expr} {es : List Expr} {t : TA} {C : Addr} {b₀ : Stmt} {suite : List Stmt} {ts : TS}
theorem ps_try (hcalm : X.calm = true) (hxe : X.xe = fun _ _ => False) (hstk : X.stack = X.env :: X.outer) (hfr : X.env.frame = some X.env.locals)
    (F : Cal X.prog X.w X.K X.mg X.base (CXE X.prog X.w) x j ps sp) (hr : Room k X.A) (hg : Gl X x) (ha : PA X (e :: es) t) (hgy : Gl X y) (c : XCatch X.K X.mg y C) (hN : X.N.Nodup) (hi : X.N[i]? = some n) (hlo : X.env.scope.names.lookup n = some .local) (hex : X.ex = [])
    (hsu : ∀ a, PSs (X.suite a) (b₀ :: suite) ts) (hj : j ≤ k := by decide) (hdb : (x == ("__debug__" : Str)) = false := by decide) (hdy : (y == ("__debug__" : Str)) = false := by decide)
    (he : starEach (e :: es) X.env = (false, eval e X.env) :: starEach es X.env := by rfl) (hpl : (backTo pos (starEach es X.env)).any (·.1) = false := by rfl) (hsw : swapsWith (.Call (.Name x p) (e :: es) [] pos) none epos.line X.env = pure false := by rfl) :
    PS X (.Try [.Expr (.Call (.Name x p) (e :: es) [] pos) epos] [.ExceptHandler (some (.Name y np)) (some n) (b₀ :: suite) hpos] [] [] tpos) (tTry sp t i X.K C ts) := by
  intro pins s σ H D I h
  obtain ⟨f, fd, Fk, hb, kp, m⟩ := F.ex
  have hr' := hr.mono hj
  refine wpAny_Try_except (wpAny_execs_cons (wpAny_Expr_any ?_ I.quiet hsw))
  refine wpAny_Call_Name_kw (ld_glob I hg m ?_ hdb)
  refine PySem.W.callWith_K (h₀ := X.base) I.ok.mod.kin kp (wpAny_mono (ha pos pins s σ H _ I h) (fun us s1 ⟨vs, H1, I1, r, q⟩ => ⟨I1.kIn, ?_⟩) (fun _ _ z => by rw [hxe] at z; exact z.elim)) he hpl
  have hl : us.length = ps.length := by rw [← r.length]; exact Fk.len _ _ _ _ q
  have hb' := hb s1 us I1.kIn (by rw [List.append_nil]; exact hl)
  rw [List.append_nil] at hb'
  refine wpAny_call (codeAny_mono (Fk.run X.A X.stack s1 H1 ⟨us, []⟩ us vs _ _ hr' I1.env0 hb' r q) fun res s' hq => ?_)
  cases res with
  | ok fl =>
    cases fl with
    | ret u =>
      obtain ⟨v, H2, I2, rv, q2⟩ := I1.after hq
      exact wpAny_execs_nil (wpAny_execs_nil ⟨σ, H2, I2, q2⟩)
    | next => exact False.elim hq
    | brk => exact False.elim hq
    | cont => exact False.elim hq
  | error ev =>
    obtain ⟨a, D', H2, B, a0, rfl, Fl, ⟨D2, hD, hsub, q2⟩⟩ := hq
    cases hD
    have hfr2 : X.A.frames = some (X.env :: X.outer) := by rw [← hstk]; exact I.ok.frames
    have Fl1 := Fl
    rw [hstk] at Fl1
    refine wpAny_looks_onW hfr2 hfr Fl1.fly fun h4 held4 up4 => ?_
    refine wpAny_landsW held4 fun h5 fl5 up5 => ?_
    have F5 : Fly X.prog X.w X.stack H1 s1 B H2 a D' a0 { s' with heap := h5 } := by
      rw [hstk]
      exact Fl1.on fl5 (up4.trans up5)
    have I5 := I1.caught F5
    have hsa : s1.heap.get? a = none := Fl.fresh
    have hsa0 : X.s₀.heap.get? a = none := by
      cases q0 : X.s₀.heap.get? a with
      | none => rfl
      | some o0 =>
        obtain ⟨o', e'⟩ := I1.base.there a o0 q0 (by rw [hex]; simp)
        rw [hsa] at e'
        cases e'
    refine wpAny_handleBy_cons (codeAny_handlers_test (ld_glob (X := X.suite a) (I5.suite a) hgy c.at_ ?_ hdy)) (by intro z; cases z)
    refine xcls_matches I5.kIn F5.excAt c.is c.ty c.mb hsub ?_
    refine codeAny_handlers_suite_as ?_
    have fl5' := F5.fly
    refine lands_againW fl5' fun h6 fl6 up6 => ?_
    have F6 : Fly X.prog X.w X.stack H1 s1 B H2 a D' a0 { s' with heap := h6 } := F5.on fl6 up6
    have I6 := I1.caught F6
    have hne : ∀ b o, s1.heap.get? b = some o → b ≠ a := fun b o e z => by rw [z, hsa] at e; cases e
    obtain ⟨m1, ⟨oL, _, _, hoL, _⟩, _⟩ := id I1.loc
    have J6 := I6.hold F6.excAt F6.new hsa0 (hne _ _ hoL).symm (fun x c e => by
      obtain ⟨v, o, ho, _⟩ := I1.cell x c e
      exact hne _ _ ho) (fun p hp => hne _ _ (I1.pin p hp).1)
    refine store_ok J6 hN hi (.inl hlo) (v := .ref a) rfl (fun s7 I7 => ?_) (.inr hlo)
    refine wpAny_mono (hsu a pins s7 _ _ { nx := fun _ _ => False, rt := D.rt } (I7.suite a) (q2 a F6.new)) (fun fl s8 hq8 => ?_) (fun _ _ z => by
      have z' : X.xe _ _ := z
      rw [hxe] at z'
      exact z'.elim)
    cases fl with
    | ret u =>
      obtain ⟨v, σ8, H8, I8, r8, q8⟩ := hq8
      have I9 := I8.unsuite I.ok
      obtain ⟨m8, hn8, _⟩ := id I9.loc
      exact wpAny_nameGoes hlo hn8 (by rw [I.ok.kind]; rfl) fun h9 m9 hn9 hs9 => ⟨v, _, H8, I9.blank hn9 hs9, r8, q8⟩
    | next => obtain ⟨_, _, _, z⟩ := hq8; exact z.elim
    | brk => obtain ⟨_, _, _, z⟩ := hq8; exact z.elim
    | cont => obtain ⟨_, _, _, z⟩ := hq8; exact z.elim
end
end L2

set_option Elab.async false
set_option linter.all false
set_option maxRecDepth 100000
set_option maxHeartbeats 1000000
namespace L2
open PySem PySem.Spec PyProof.Rows
def rIsiX (K : PySem.W.Frag) : List V → Hp → VK → Prop := fun xs H Q => ∃ a D b, H a = some (excO a D) ∧ XCls K D ∧ ((∃ C, xs = [.ref a, .ref C] ∧ PySem.W.kitOne K (.ref D) (.ref C) = some b) ∨ (∃ T, xs = [.ref a, .ty T] ∧ PySem.W.kitOne K (.ref D) (.type T) = some b) ∨
  ∃ (p : Addr) (cs : List Addr), xs = [.ref a, .ref p] ∧ H p = some (.tup (cs.map V.ref)) ∧ PySem.W.kitAny K (.ref D) (cs.map Value.ref) = some b) ∧ Q (.bl b) H
theorem vals_refs : ∀ {cs : List Addr} {us : List Value}, Vals (cs.map V.ref) us → us = cs.map Value.ref
  | [], _, .nil => rfl
  | c :: cs, _, .cons r t => by
    cases r
    rw [List.map_cons, vals_refs t]
section
variable {X : Cx} {K : PySem.W.Frag}
theorem call_isiX (hK : X.K = K) : CallR X (.builtin "isinstance") (rIsiX K) := by
  subst hK
  intro pins s σ H xs us Q I r h
  obtain ⟨a, D, b, ha, c, h, q⟩ := h
  have ok := I.hok a _ ha
  have fin : ∀ tk, EP X pins σ Q (.bool b) { s with toks := tk } := fun tk => ⟨.bl b, H, I.tok tk, rfl, q⟩
  rcases h with ⟨C, rfl, e⟩ | ⟨T, rfl, e⟩ | ⟨p, cs, rfl, hp, e⟩
  · obtain ⟨u, u', rfl, r1, r2⟩ := vals2 r
    cases r1
    cases r2
    exact PySem.W.kia_one (kitx_exc c) I.kIn ok.1 e (fun z => nomatch z) fin
  · obtain ⟨u, u', rfl, r1, r2⟩ := vals2 r
    cases r1
    obtain rfl : u' = Value.type T := r2
    exact PySem.W.kia_one (kitx_exc c) I.kIn ok.1 e (fun z => nomatch z) fin
  · obtain ⟨u, u', rfl, r1, r2⟩ := vals2 r
    cases r1
    cases r2
    obtain ⟨_, its, rv, ⟨⟨cl, dd, dt, sl⟩, ho, hc, n, hd⟩, _⟩ := (show ObjOk X.prog X.w H s.heap p (.tup (cs.map V.ref)) from I.hok p _ hp)
    have hc' : cl = .type "tuple" := hc
    have hd' : dt = .seq its.toArray n := hd
    subst hc' hd'
    rw [vals_refs rv] at ho
    exact PySem.W.kia_tup (kitx_exc c) I.kIn ok.1 ho e (fun z => nomatch z) fin
theorem isiX_one {K : PySem.W.Frag} {H : Hp} {a D C : Addr} {b : Bool} {Q : VK} (ha : H a = some (excO a D)) (c : XCls K D) (e : PySem.W.kitOne K (.ref D) (.ref C) = some b) (q : Q (.bl b) H) : rIsiX K [.ref a, .ref C] H Q := ⟨a, D, b, ha, c, .inl ⟨C, rfl, e⟩, q⟩
theorem isiX_ty {K : PySem.W.Frag} {H : Hp} {a D : Addr} {T : String} {b : Bool} {Q : VK} (ha : H a = some (excO a D)) (c : XCls K D) (e : PySem.W.kitOne K (.ref D) (.type T) = some b) (q : Q (.bl b) H) : rIsiX K [.ref a, .ty T] H Q := ⟨a, D, b, ha, c, .inr (.inl ⟨T, rfl, e⟩), q⟩
theorem isiX_tup {K : PySem.W.Frag} {H : Hp} {a D p : Addr} {cs : List Addr} {b : Bool} {Q : VK} (ha : H a = some (excO a D)) (c : XCls K D) (hp : H p = some (.tup (cs.map V.ref))) (e : PySem.W.kitAny K (.ref D) (cs.map Value.ref) = some b) (q : Q (.bl b) H) : rIsiX K [.ref a, .ref p] H Q := ⟨a, D, b, ha, c, .inr (.inr ⟨p, cs, rfl, hp, e⟩), q⟩
end
structure RoomS (k : Nat) (A : Around) : Prop where
  dp : A.depth + 3 * k + 5 < recursionLimit
  un : A.units + 16 * k + 200 < cLine
theorem Room.toS {k : Nat} {A : Around} (r : Room k A) : RoomS k A := ⟨r.dp, r.un⟩
theorem Room.suite {k : Nat} {A : Around} (r : Room k A) (v : Option Value) : RoomS k (A.mark v) := ⟨r.dp, r.un⟩
theorem RoomS.mono {j k : Nat} {A : Around} (r : RoomS k A) (h : j ≤ k) : RoomS j A := ⟨by have := r.dp; omega, by have := r.un; omega⟩
theorem RoomS.deeper {k : Nat} {A : Around} (r : RoomS (k + 1) A) (env : Env) : RoomS k (A.deeper env) :=
  ⟨by have := r.dp; show A.depth + 1 + 3 * k + 5 < _; omega, by have := r.un; show A.units + 3 + 16 * k + 200 < _; omega⟩
structure FnOkS (P : Program) (w : World) (K : PySem.W.Frag) (mg : Str → Option Value) (base : Heap) (CX : CXT) (k : Nat) (f : Addr) (fd : FuncData) (ps : List Str) (sp : Sp) : Prop where
  len : ∀ vs H Q E, sp vs H Q E → vs.length = ps.length
  run : ∀ (A : Around) (outer : List Env) (s : Shared) (H : Hp) (args : Args) (us : List Value) (vs : List V) (Q : VK) (E : XK), RoomS k A → Env0 P w K mg base A outer s H → BindsTo s fd args (ps.zip us) → Vals vs us → sp vs H Q E →
    codeAny (model P w) A (.call (.ref f) args) (CR CX outer P w H s Q E) s
theorem FnOkS.fn {P : Program} {w : World} {K : PySem.W.Frag} {mg : Str → Option Value} {base : Heap} {CX : CXT} {k : Nat} {f : Addr} {fd : FuncData} {ps : List Str} {sp : Sp} (F : FnOkS P w K mg base CX k f fd ps sp) : FnOk P w K mg base CX k f fd ps sp :=
  ⟨F.len, fun A outer s H args us vs Q E hr => F.run A outer s H args us vs Q E hr.toS⟩
structure CalS (P : Program) (w : World) (K : PySem.W.Frag) (mg : Str → Option Value) (base : Heap) (CX : CXT) (x : Str) (k : Nat) (ps : List Str) (sp : Sp) : Prop where
  ex : ∃ f fd, FnOkS P w K mg base CX k f fd ps sp ∧ Binds K fd ps [] ∧ PySem.W.keepIn K (.ref f) = true ∧ mg x = some (.ref f)
abbrev Cx.any (X : Cx) (A : Around) : Cx := { X with A := A, calm := false }
theorem Inv.any {X : Cx} {pins : List (Addr × Obj)} {σ : St} {H : Hp} {s : Shared} (I : Inv X pins σ H s) {A : Around} (hf : A.frames = some X.stack) : Inv (X.any A) pins σ H s :=
  ⟨⟨I.ok.mod, I.ok.kind, I.ok.glob, I.ok.blt, I.ok.above, I.ok.inj, I.ok.has, I.ok.cab, (fun z => nomatch z), hf, I.ok.stk, I.ok.exf, I.ok.bs, I.ok.bsz, I.ok.noex, I.ok.exfs, I.ok.funs, I.ok.frf⟩, I.os, I.bare, I.base, I.loc, I.cell, I.free, I.freeC, I.pin, I.hok, I.len⟩
theorem Fun.okS {P : Program} {w : World} {K : PySem.W.Frag} {mg : Str → Option Value} {base : Heap} {x qual : Str} {st : Stmt} {f : Addr} {fd : FuncData} {N ps : List Str} {k : Nat} {sp : Sp} (F : Fun K x qual st f fd) (S : FnScope N ps (defScope st)) (len : ∀ vs H Q E, sp vs H Q E → vs.length = ps.length)
    (hbody : ∀ (cdv : Value) (A : Around) (outer : List Env) (s : Shared) (H : Hp) (vs : List V) (Q : VK) (E : XK), RoomS k (A.deeper (envOfC qual (defScope st) s.heap.objs.size f cdv)) → sp vs H Q E →
      ∃ t, PSs ((cxOf CX0 P w K mg base N qual (defScope st) f cdv { A with handled := none } outer s H E).nox.any (A.deeper (envOfC qual (defScope st) s.heap.objs.size f cdv))) (defBody st) t ∧ t { nx := fun _ H' => Q .non H', rt := Q } (start N vs) H) : FnOkS P w K mg base CX0 (k + 1) f fd ps sp := by
  obtain ⟨oc, od, kV, doc, pm, an, cdv, ct, osl, rfl, lk, hcd⟩ := F.ex
  refine ⟨len, fun A outer s H args us vs Q E hr e0 hb r hsp => ?_⟩
  have hl := len _ _ _ _ hsp
  have KX : K.In s.heap := e0.mod.kin.keeps fun b o e => (e0.bs b o e).1
  have lim : s.heap.NoLimit := e0.mod.nolimit.keeps fun b o e => (e0.bs b o e).1
  have hkind : ∀ y ∈ ps.zip us, (defScope st).names.lookup y.1 = some .local ∨ ((defScope st).names.lookup y.1 = some .cell ∧ ((cellsFrom (s.heap.objs.size + 1) (defScope st).names []).lookup y.1).isSome = true) := fun ⟨n, v⟩ hy => by
    rcases S.par n (List.of_mem_zip hy).1 with q | q
    · exact .inl q
    · exact .inr ⟨q, PySem.W.cellsFrom_some _ _ _ (.inl q)⟩
  refine codeAny_call_function (by have := hr.dp; omega) (KX _ _ lk) rfl S.co S.gen rfl (PySem.W.codeRec_of KX hcd) (hb _ _ _ _ ?_)
  refine wpAny_newFunctionEnv_cells S.kind hkind fun env he s1 x => ?_
  subst he
  refine ⟨lim.keeps x.toInCall.keep, codeAny_func ?_⟩
  obtain ⟨t, ht, hq⟩ := hbody cdv A outer s H vs Q E (hr.deeper _) hsp
  have I0 : Inv (cxOf CX0 P w K mg base N qual (defScope st) f cdv { A with handled := none } outer s H E) [] (start N vs) H s1 := inv_start S rfl ⟨e0.frames, e0.mod, e0.bs, e0.bsz, e0.funs, e0.frf, e0.hok, e0.bare⟩ hl r x
  have I := (I0.wish (fun _ _ => False)).any (A := A.deeper (envOfC qual (defScope st) s.heap.objs.size f cdv)) (Around.frames_deeper e0.frames)
  refine wpAny_mono (ht [] s1 (start N vs) H _ I hq) (fun fl s' hs => ?_) fun e s' hs => False.elim hs
  have fin : ∀ {σ' : St} {H' : Hp} {v : V} {u : Value}, Inv ((cxOf CX0 P w K mg base N qual (defScope st) f cdv { A with handled := none } outer s H E).nox.any (A.deeper (envOfC qual (defScope st) s.heap.objs.size f cdv))) [] σ' H' s' → RelV v u → Q v H' → CE outer P w H s Q u s' :=
    fun {σ' H' v u} J rv q => ⟨v, H', J.os, J.bare, J.base, J.hok, rv, q⟩
  cases fl with
  | ret u =>
    obtain ⟨v, σ', H', J, rv, q⟩ := hs
    exact fin J rv q
  | next =>
    obtain ⟨σ', H', J, q⟩ := hs
    exact fin (v := V.non) (u := Value.none) J rfl q
  | brk =>
    obtain ⟨_, _, _, q⟩ := hs
    exact False.elim q
  | cont =>
    obtain ⟨_, _, _, q⟩ := hs
    exact False.elim q
theorem pe_callS {X : Cx} {x : Str} {j k : Nat} {ps : List Str} {sp : Sp} {p pos : Pos} {e : Expr} {es : List Expr} {t : TA} (C : CalS X.prog X.w X.K X.mg X.base CX0 x j ps sp) (hr : RoomS k X.A) (hg : Gl X x) (ha : PA X (e :: es) t) (hj : j ≤ k := by decide) (hdb : (x == ("__debug__" : Str)) = false := by decide)
    (he : starEach (e :: es) X.env = (false, eval e X.env) :: starEach es X.env := by rfl) (hpl : (backTo pos (starEach es X.env)).any (·.1) = false := by rfl) :
    PE X (.Call (.Name x p) (e :: es) [] pos) (tCall sp [] E0 t) := by
  obtain ⟨f, fd, F, b, kp, m⟩ := C.ex
  intro pins s σ H Q I h
  refine wpAny_Call_Name_kw (ld_glob I hg m ?_ hdb)
  refine PySem.W.callWith_K (h₀ := X.base) I.ok.mod.kin kp (thn (ha pos pins s σ H _ I h) fun us s1 ⟨vs, H1, I1, r, q⟩ => ⟨I1.kIn, ?_⟩) he hpl
  have q : sp vs H1 Q E0 := by
    have z : sp (vs ++ []) H1 Q E0 := q
    rwa [List.append_nil] at z
  have hl : us.length = ps.length := by rw [← r.length]; exact F.len _ _ _ _ q
  have hb' := b s1 us I1.kIn (by rw [List.append_nil]; exact hl)
  rw [List.append_nil] at hb'
  refine wpAny_call (codeAny_mono (F.run X.A X.stack s1 H1 ⟨us, []⟩ us vs Q E0 (hr.mono hj) I1.env0 hb' r q) fun res s' hq => ?_)
  cases res with
  | error e => exact False.elim hq
  | ok fl =>
    cases fl with
    | ret u => exact I1.after hq
    | next => exact False.elim hq
    | brk => exact False.elim hq
    | cont => exact False.elim hq
theorem pe_callN {X : Cx} {x : Str} {j k : Nat} {ps : List Str} {sp : Sp} {p pos : Pos} {e : Expr} {es : List Expr} {t : TA} (C : Cal X.prog X.w X.K X.mg X.base (CXE X.prog X.w) x j ps sp) (hr : Room k X.A) (hg : Gl X x) (ha : PA X (e :: es) t) (hj : j ≤ k := by decide) (hdb : (x == ("__debug__" : Str)) = false := by decide)
    (he : starEach (e :: es) X.env = (false, eval e X.env) :: starEach es X.env := by rfl) (hpl : (backTo pos (starEach es X.env)).any (·.1) = false := by rfl) :
    PE X (.Call (.Name x p) (e :: es) [] pos) (tCall sp [] E0 t) := pe_callX C hr hg passE0 ha hj hdb he hpl
end L2

set_option Elab.async false
set_option linter.all false
set_option maxRecDepth 100000
namespace L2
open PySem PySem.Spec PyProof.Rows
def noStar : Expr → Bool
  | .Starred _ _ => false
  | _ => true
theorem star1 {e : Expr} {es : List Expr} {env : Env} (h : noStar e = true) : starEach (e :: es) env = (false, eval e env) :: starEach es env := by
  cases e <;> first | rfl | cases h
theorem star1' {e : Expr} {env : Env} (h : noStar e = true) : starEach [e] env = [(false, eval e env)] := by rw [star1 h]; rfl
theorem star2' {e e2 : Expr} {env : Env} (h : noStar e = true) (h2 : noStar e2 = true) : starEach [e, e2] env = [(false, eval e env), (false, eval e2 env)] := by rw [star1 h, star1' h2]
theorem nost0 {env : Env} {pos : Pos} : (backTo pos (starEach [] env)).any (·.1) = false := rfl
theorem nost1 {e : Expr} {es : List Expr} {env : Env} {pos : Pos} (h : noStar e = true) (r : (backTo pos (starEach es env)).any (·.1) = false) : (backTo pos (starEach (e :: es) env)).any (·.1) = false := by
  rw [star1 h]
  show (false || (backTo pos (starEach es env)).any (·.1)) = false
  rw [r]
  rfl
def plainT : Expr → Bool
  | .UnaryOp _ _ _ => false
  | .BoolOp _ _ _ => false
  | .IfExp _ _ _ _ => false
  | .Compare _ _ _ _ => false
  | _ => true
theorem test1 {e : Expr} {env : Env} (h : plainT e = true) : ∀ whole, isTrue e env whole = (do let v ← whole; standAt e.pos; holding [v] (truthy v)) := by
  intro whole
  cases e <;> first | rfl | cases h
def noComp : Expr → Bool
  | .ListComp _ _ _ _ => false
  | .SetComp _ _ _ _ => false
  | .DictComp _ _ _ _ _ => false
  | _ => true
theorem swap1 {e : Expr} {tg : Option Expr} {n : Nat} {env : Env} (h : noComp e = true) : swapsWith e tg n env = pure false := by
  cases e <;> first | rfl | cases h
end L2

set_option Elab.async false
set_option linter.all false
set_option maxRecDepth 100000
set_option maxHeartbeats 1000000
namespace L2
open PySem PySem.Spec PyProof.Rows
end L2

set_option Elab.async false
set_option linter.all false
set_option maxRecDepth 100000
set_option maxHeartbeats 1000000
namespace L2
open PySem PySem.Spec PyProof.Rows
theorem ints_are : ∀ {ns : List Int} {its : List Value}, Vals (ns.map V.int) its → IntsAre its ns
  | [], _, .nil => .nil
  | n :: ns, _, .cons ⟨t, e⟩ r => by subst e; exact .cons n t (ints_are r)
section
variable {X : Cx}
theorem call_all1 (hc : X.calm = true) : CallR X (.builtin "all") (fun xs H Q => ∃ (p : Addr) (bs : List Bool), xs = [.ref p] ∧ SqL X.K H p (bs.map V.bl) ∧ Q (.bl (bs.all id)) H) := by
  intro pins s σ H xs us Q I r h
  obtain ⟨p, bs, rfl, hq, q⟩ := h
  obtain ⟨u, rfl, rx⟩ := vals1 r
  cases rx
  obtain ⟨its, r', pl, hz⟩ := I.list hq
  have hl := pl.isList
  have hlt : p < s.heap.objs.size := by obtain ⟨_, e, _⟩ := hl; exact Heap.lt_size e
  have len := r'.length
  rw [List.length_map] at len
  refine call_all_walk (wpAny_pyIter_list hl ⟨_, _, _, _, _, _, fun i => bs.getD i true, rfl, Walks.list (A := X.A.in1) (I.ok.hd hc) s.heap.objs.size p (Nat.ne_of_lt hlt) its.toArray, ⟨⟨_, Heap.get?_push_size _ rfl, rfl, rfl⟩, hl.push _⟩, ?_, ?_⟩)
  · intro i v s' Q' E' hP hQ
    have hP' : its[i]? = some v := by simpa using hP
    have li : i < bs.length := by
      have := (List.getElem?_eq_some_iff.mp hP').1
      omega
    obtain ⟨u, e1, e2⟩ := r'.get (i := i) (x := .bl (bs.getD i true)) (by simp [List.getD, li])
    rw [hP'] at e1
    cases e1
    obtain rfl : v = Value.bool (bs.getD i true) := e2
    exact wpAny_truthy_bool hQ
  · intro h' tk hk
    have : (List.range its.toArray.size).all (fun i => bs.getD i true) = bs.all id := by
      rw [List.size_toArray, ← len]
      clear len hq q r' hz
      induction bs with
      | nil => rfl
      | cons b bs ih =>
        rw [List.length_cons, List.range_succ_eq_map, List.all_cons, List.all_map, List.all_cons]
        exact congrArg _ ih
    rw [this]
    exact ⟨.bl _, H, I.kept (old_kept hk), rfl, q⟩
end
end L2

set_option Elab.async false
set_option linter.all false
set_option maxRecDepth 100000
set_option maxHeartbeats 1000000
namespace L2
open PySem PySem.Spec PyProof.Rows
structure Apart (z TI TO i1 i2 : Addr) (f1 f2 : List Addr) : Prop where
  zTI : z ≠ TI
  zTO : z ≠ TO
  TITO : TI ≠ TO
  TI1 : TI ≠ i1
  TI2 : TI ≠ i2
  m1 : i1 ∈ f1
  m2 : i2 ∈ f2
  z1 : z ∉ f1
  z2 : z ∉ f2
  t1 : TO ∉ f1
  t2 : TO ∉ f2
  i12 : i1 ∉ f2
  i21 : i2 ∉ f1
section
variable {prog : Program} {w : World} {A : Around} {E : Value → Shared → Prop} {s : Shared} {z TI TO i1 i2 : Addr} {f1 f2 : List Addr} {n1 n2 k : Nat} {P1 P2 : Nat → Value → Prop} {S1 S2 : Nat → Heap → Prop}
end
def Itz (K : PySem.W.Frag) (a b : Addr) : It := ⟨fun i H => ∃ xs ys x y, SqL K H a xs ∧ SqT K H b ys ∧ xs[i]? = some x ∧ ys[i]? = some y,
  fun i H x H' => ∃ T u v, H T = none ∧ x = .ref T ∧ H' = upd H T (.tup [u, v]) ∧ (∀ xs, SqL K H a xs → xs[i]? = some u) ∧ ∀ ys, SqT K H b ys → ys[i]? = some v,
  fun i H => ∃ xs ys, SqL K H a xs ∧ SqT K H b ys ∧ xs.length = ys.length ∧ xs.length = i⟩
end L2

set_option Elab.async false
set_option linter.all false
set_option maxRecDepth 100000
set_option maxHeartbeats 1000000
namespace L2
open PySem PySem.Spec PyProof.Rows
def iZip (K : PySem.W.Frag) (ta : TA) : TI := fun σ H R => ta σ H fun vs H1 => ∃ a b, vs = [.ref a, .ref b] ∧ (∃ xs, SqL K H1 a xs) ∧ (∃ ys, SqT K H1 b ys) ∧ R (Itz K a b) H1
end L2

set_option Elab.async false
set_option linter.all false
set_option maxRecDepth 100000
set_option maxHeartbeats 1000000
namespace L2
open PySem PySem.Spec PyProof.Rows
section
variable {X : Cx}
theorem call_int_bl : CallR X (.type "int") (fun xs H Q => ∃ b, xs = [.bl b] ∧ Q (.int (if b = true then 1 else 0)) H) := by
  intro pins s σ H xs us Q I r h
  obtain ⟨b, rfl, q⟩ := h
  obtain ⟨u, rfl, rfl⟩ := vals1 r
  exact call_int_bool ⟨.int _, H, I.tok _, ⟨_, rfl⟩, q⟩
def rIndexT (K : PySem.W.Frag) : V → List V → Hp → VK → Prop := fun x vs H Q => ∃ (p : Addr) (xs : List V) (y : V) (j : Nat), x = .ref p ∧ vs = [y] ∧ SqT K H p xs ∧ flatV y = true ∧ xs.all flatV = true ∧ (∃ z, xs[j]? = some z ∧ eqV z y = true) ∧ (∀ m z, m < j → xs[m]? = some z → eqV z y = false) ∧ Q (.int j) H
def tBMT (K : PySem.W.Frag) (r : V → List V → Hp → VK → Prop) (to : TE) (t : TA) : TE := fun σ H Q => to σ H fun x H1 => (∃ p xs, x = .ref p ∧ H1 p = some (.tup xs)) ∧ t σ H1 fun xs H2 => r x xs H2 Q
def iSeq (K : PySem.W.Frag) (tl : TE) : TI := fun σ H R => tl σ H fun x H1 => ∃ a, x = .ref a ∧ (((∃ xs, SqL K H1 a xs) ∧ R (Itl K a) H1) ∨ ((∃ xs, SqT K H1 a xs) ∧ R (Itt K a) H1))
section
variable {K : PySem.W.Frag} {D : Ends} {g : TG} {tb : TS} {σ : St} {H : Hp} {a : Addr}
end
section
variable {K : PySem.W.Frag} {D a : Addr} {g : TG} {tt : TT} {te : TE} {Q : VK} {τ : St} {H : Hp}
end
end
end L2

set_option Elab.async false
set_option linter.all false
set_option maxRecDepth 100000
set_option maxHeartbeats 1000000
namespace L2
open PySem PySem.Spec PyProof.Rows
abbrev sgn (c : Nat) : V := .str ⟨#[c]⟩
abbrev txt (cs : List Nat) : Str := ⟨cs.toArray⟩
def Its (cs : List Nat) : It := ⟨fun i _ => i < cs.length, fun i H v H' => H' = H ∧ ∃ c, cs[i]? = some c ∧ v = sgn c, fun i _ => cs.length ≤ i⟩
theorem turn_str {P : Program} {w : World} {K : PySem.W.Frag} {tg : Expr} (it : Addr) (cs : List Nat) (t : Tok) : Turn P w K tg (Its cs) [it] it (fun i h => h.IsStrIter it "str_ascii_iterator" (txt cs) t i) where
  mem := by simp
  obj := fun i h st b hb => by
    have e : b = it := by simpa using hb
    subst e
    obtain ⟨o, e, c, d⟩ := st
    exact ⟨o, e, fun v z => by rw [d] at z; cases z⟩
  keep := fun i h h' st k => by
    obtain ⟨o, e, r⟩ := st
    exact ⟨o, k it (by simp) o e, r⟩
  item := by
    intro X hP hw hK hc i pins s σ H E I hf st hg
    subst hP hw hK
    obtain ⟨f0, f1, f2, f3, f4, f5⟩ := hf it (by simp)
    have W := Walks.strAscii (prog := X.prog) (w := X.w) (I.ok.hd hc) it (txt cs) t
    have hg' : i < (txt cs).cps.size := by simpa using (show i < cs.length from hg)
    refine W.item i s _ _ hg' st fun v h' tk hv st' kk => ?_
    obtain ⟨c, u, hcp, rfl⟩ := hv
    have I1 : Inv X pins σ H { s with heap := h', toks := tk } := I.turned (fun b o hb e => kk b o (by simpa using hb) e) f0 f1 f3 f4 f5
    obtain ⟨o, e, c', d⟩ := id st'
    exact ⟨_, rfl, go_of (s := { s with heap := h', toks := tk }) e c' d (by decide) ⟨sgn c, H, I1, ⟨u, rfl⟩, ⟨rfl, c, by simpa using hcp, rfl⟩, st', fun b hb => (hf b hb).1⟩⟩
  done := by
    intro X hP hw hK hc i pins s σ H E I hf st hg
    subst hP hw hK
    obtain ⟨f0, f1, f2, f3, f4, f5⟩ := hf it (by simp)
    have hg' : cs.length ≤ i := hg
    exact wpAny_pyNext_ascii_end (I.ok.hd hc) st (by simp; omega) fun h' eb => ⟨rfl, I.turned (t' := s.toks) (fun b o hb e => eb b o hb e) f0 f1 f3 f4 f5⟩
  self := fun _ _ _ _ _ st h => wpAny_pyIter_striter_ascii st h
section
variable {X : Cx} {tg : Expr}
def iStr (tl : TE) : TI := fun σ H R => tl σ H fun x H1 => ∃ cs, x = .str (txt cs) ∧ cs.all (fun c => decide (c < 128)) = true ∧ R (Its cs) H1
theorem pi_str {l : Expr} {tl : TE} (hl : PE X l tl) : PI X tg l (iStr tl) := by
  intro pins s σ H R I h
  refine thn (hl pins s σ H _ I h) fun v s1 ⟨x, H1, I1, r1, q1⟩ => ?_
  obtain ⟨cs, e, ha, q⟩ := q1
  subst e
  obtain ⟨t, rfl⟩ := r1
  refine wpAny_pyIter_ascii (by simpa using ha) ?_
  refine ⟨s1.heap.objs.size, [s1.heap.objs.size], _, _, H1, rfl, I1.kept (t' := s1.toks) fun b o e => Heap.get?_push_of_some _ e, turn_str _ cs t, ⟨_, Heap.get?_push_size _ rfl, rfl, rfl⟩, fun b hb => ?_, q⟩
  have e : b = s1.heap.objs.size := by simpa using hb
  subst e
  exact I1.fpOk (Nat.le_refl _) (I1.hok.fresh (Nat.le_refl _))
end
section
variable {g : TG} {tb : TS} {D : Ends} {σ : St} {H : Hp}
end
section
variable {D : Addr} {g : TG} {tt : TT} {te : TE} {Q : VK} {τ : St} {H : Hp}
theorem compS_str (cs : List Nat) (Pv : Nat → St → Hp → Prop) (h0 : Pv 0 τ H)
    (hs : ∀ i c τ H (R : St → Hp → Prop), cs[i]? = some c → Pv i τ H → (∀ τ' H', Pv (i + 1) τ' H' → R τ' H') → tComp1 D g tt te (sgn c) τ H R) (hd : ∀ τ H, Pv cs.length τ H → Q (.ref D) H) : CompS D (Its cs) g tt te Q τ H := by
  refine ⟨fun i m τ H => m = cs.length - i ∧ i ≤ cs.length ∧ Pv i τ H, ⟨cs.length, by simp, Nat.zero_le _, h0⟩, ?_⟩
  rintro i m τ H2 ⟨rfl, hi, p⟩
  by_cases hlt : i < cs.length
  · refine .inr ⟨hlt, fun x H' y => ?_⟩
    obtain ⟨e, c, hc, rfl⟩ := y
    subst e
    exact hs i c τ _ (fun τ' H' => ∃ m', m' < cs.length - i ∧ m' = cs.length - (i + 1) ∧ i + 1 ≤ cs.length ∧ Pv (i + 1) τ' H') hc p fun τ' H' p' => ⟨_, by omega, rfl, hlt, p'⟩
  · have e : i = cs.length := by omega
    subst e
    exact .inl ⟨Nat.le_refl _, hd τ H2 p⟩
end
section
variable {X : Cx}
def rLeS : R2 := fun x y H Q => ∃ c d : Nat, x = sgn c ∧ y = sgn d ∧ Q (.bl (decide (c ≤ d))) H
theorem op_leS : OpR X (compareOp .LtE) rLeS := by
  intro pins s σ H x y v u Q I rx ry h
  obtain ⟨c, d, rfl, rfl, q⟩ := h
  obtain ⟨t, rfl⟩ := rx
  obtain ⟨t', rfl⟩ := ry
  refine P.le_str (fin_bl I q ?_)
  have e : (([d] : List Nat) < [c]) ↔ d < c := by simp [List.cons_lt_cons_iff]
  show decide (c ≤ d) = !decide (([d] : List Nat) < [c])
  by_cases h : c ≤ d
  · rw [decide_eq_true h, decide_eq_false (fun z => absurd (e.mp z) (by omega))]
    rfl
  · rw [decide_eq_false h, decide_eq_true (e.mpr (by omega))]
    rfl
theorem join_sgn : ∀ cs : List Nat, Str.join "" (cs.map fun c => (⟨#[c]⟩ : Str)) = txt cs
  | [] => rfl
  | [c] => rfl
  | c :: d :: cs => by
    have ih := join_sgn (d :: cs)
    show (⟨#[c]⟩ : Str) ++ "" ++ Str.join "" ((d :: cs).map fun c => (⟨#[c]⟩ : Str)) = txt (c :: d :: cs)
    rw [ih]
    apply Str.ext'
    simp [Str.cps_append]
    rfl
theorem strs_of : ∀ {ts : List Str} {its : List Value}, Vals (ts.map V.str) its → ∃ l : List (Str × Tok), its = strValues l ∧ l.map (·.1) = ts
  | [], _, .nil => ⟨[], rfl, rfl⟩
  | z :: ts, _, .cons ⟨t, e⟩ r => by
    subst e
    obtain ⟨l, e1, e2⟩ := strs_of r
    exact ⟨(z, t) :: l, by rw [e1]; rfl, by rw [List.map_cons, e2]⟩
def rJoin (K : PySem.W.Frag) : V → List V → Hp → VK → Prop := fun x vs H Q => ∃ (p : Addr) (cs : List Nat), x = .str "" ∧ vs = [.ref p] ∧ SqL K H p (cs.map sgn) ∧ cs.length ≤ 1000 ∧ Q (.str (txt cs)) H
theorem join_sum : ∀ (ts : List Str) (n : Nat), (∀ z ∈ ts, z.length = 1) → ts.foldl (fun a p => a + p.length + ("" : Str).length) n = n + ts.length
  | [], n, _ => rfl
  | z :: ts, n, h => by
    rw [List.foldl_cons, join_sum ts _ fun y hy => h y (List.mem_cons_of_mem _ hy), h z (List.mem_cons_self ..), List.length_cons, show ("" : Str).length = 0 from rfl]
    omega
theorem mt_join : MtR X "str.join" (rJoin X.K) := by
  intro pins s σ H x vs v us Q I rx rv h
  obtain ⟨p, cs, rfl, rfl, hq, hz, q⟩ := h
  obtain ⟨t, rfl⟩ := rx
  obtain ⟨u, rfl, ru⟩ := vals1 rv
  cases ru
  obtain ⟨its, r, pl, _⟩ := I.list hq
  have r' : Vals ((cs.map fun c => (⟨#[c]⟩ : Str)).map V.str) its := by rw [List.map_map]; exact r
  obtain ⟨l, e1, e2⟩ := strs_of r'
  have hl := pl.isList
  rw [e1] at hl
  have one : ∀ z ∈ cs.map (fun c => (⟨#[c]⟩ : Str)), z.length = 1 := fun z hz => by
    obtain ⟨c, _, rfl⟩ := List.mem_map.mp hz
    rfl
  have tot : Builtin.Str.tooLong ((l.map (·.1)).toArray.foldl (· + ·.length + ("" : Str).length) 0) = false := by
    rw [e2, List.foldl_toArray, join_sum _ _ one, List.length_map]
    unfold Builtin.Str.tooLong
    rw [sizeLine_eq]
    simp
    omega
  refine call_meets PySem.F.slot_str_join (typeIs_str s _ t) PySem.F.entry_str_join (PySem.F.args_str_join_2 _ _) (meets_str_join_list "" t p l tot) ⟨hl, ?_⟩
  have fin : ∀ (tk' : Tok) (s' : Shared), Inv X pins σ H s' → EP X pins σ Q (.str (txt cs) tk') s' := fun tk' s' I' => ⟨.str (txt cs), H, I', ⟨tk', rfl⟩, q⟩
  have gl : Builtin.Str.glued "" (l.map (·.1)) = txt cs := by
    rw [StrLaws.glued_eq_join, e2, join_sgn]
  have sz : (txt cs).length ≤ sizeLine := by
    show cs.toArray.size ≤ sizeLine
    rw [List.size_toArray, sizeLine_eq]
    omega
  match l, e2, gl with
  | [p1], e2, gl =>
    obtain ⟨z, tz⟩ := p1
    have : z = txt cs := gl
    subst this
    exact fin tz s I
  | [], e2, gl =>
    refine ⟨by rw [gl]; exact sz, ?_⟩
    rw [gl]
    exact fin _ _ (I.tok _)
  | p1 :: p2 :: r2, e2, gl =>
    refine ⟨by rw [gl]; exact sz, ?_⟩
    rw [gl]
    exact fin _ _ (I.tok _)
def isLow (c : Nat) : Bool := decide (97 ≤ c) && decide (c ≤ 122)
end
end L2

set_option Elab.async false
set_option linter.all false
set_option maxRecDepth 100000
set_option maxHeartbeats 1000000
namespace L2
open PySem PySem.Spec PyProof.Rows
deriving instance DecidableEq for Kn
section
variable {X : Cx}
end
end L2

set_option Elab.async false
set_option linter.all false
set_option maxRecDepth 100000
set_option maxHeartbeats 1000000
namespace PySem
open Sem (wp)
namespace SetL
section
variable {prog : Program} {w : World} {A : Around} {R : Result → Shared → Prop} {I : Addr} {fp wr : List Addr} {n : Nat} {P : Nat → Value → Prop} {St : Nat → Heap → Prop}
end
section
variable {prog : Program} {w : World} {A : Around} {E : Value → Shared → Prop} {s : Shared}
end
end SetL
end PySem
namespace L2
open PySem PySem.Spec PyProof.Rows
section
variable {X : Cx}
end
end L2

set_option Elab.async false
set_option linter.all false
set_option maxRecDepth 100000
set_option maxHeartbeats 1000000
namespace L2
open PySem PySem.Spec PyProof.Rows
mutual
inductive Rep (K : PySem.W.Frag) (H : Hp) : V → PyData → Prop
  | non : Rep K H .non .none
  | bl (b : Bool) : Rep K H (.bl b) (.bool b)
  | int (i : Int) : Rep K H (.int i) (.int i)
  | str (z : Str) : Rep K H (.str z) (.str z)
  | lst {a : Addr} {xs : List V} {ds : List PyData} : SqL K H a xs → RepAll K H xs ds → Rep K H (.ref a) (.list ds)
  | tup {a : Addr} {xs : List V} {ds : List PyData} : SqT K H a xs → RepAll K H xs ds → Rep K H (.ref a) (.tuple ds)
inductive RepAll (K : PySem.W.Frag) (H : Hp) : List V → List PyData → Prop
  | nil : RepAll K H [] []
  | cons {x : V} {d : PyData} {xs : List V} {ds : List PyData} : Rep K H x d → RepAll K H xs ds → RepAll K H (x :: xs) (d :: ds)
end
theorem sqT_same {K : PySem.W.Frag} {H H' : Hp} {a : Addr} {xs : List V} (e : Same H H') (h : SqT K H a xs) : SqT K H' a xs := by
  rcases h with (h | ⟨o, h⟩) | h
  · exact .inl (.inl (e _ _ h))
  · exact .inl (.inr ⟨o, e _ _ h⟩)
  · exact .inr h
mutual
theorem Rep.same {K : PySem.W.Frag} {H H' : Hp} (e : Same H H') : ∀ {v : V} {d : PyData}, Rep K H v d → Rep K H' v d
  | _, _, .non => .non
  | _, _, .bl b => .bl b
  | _, _, .int i => .int i
  | _, _, .str z => .str z
  | _, _, .lst h r => .lst (e.seq h) (RepAll.same e r)
  | _, _, .tup h r => .tup (sqT_same e h) (RepAll.same e r)
theorem RepAll.same {K : PySem.W.Frag} {H H' : Hp} (e : Same H H') : ∀ {xs : List V} {ds : List PyData}, RepAll K H xs ds → RepAll K H' xs ds
  | _, _, .nil => .nil
  | _, _, .cons h r => .cons (Rep.same e h) (RepAll.same e r)
end
section
variable {X : Cx} {pins : List (Addr × Obj)} {σ : St} {H : Hp} {s : Shared}
mutual
theorem Rep.reads (I : Inv X pins σ H s) : ∀ {v : V} {d : PyData} {u : Value}, Rep X.K H v d → RelV v u → ∃ as, Reads s.heap u d as
  | _, _, u, .non, r => by
    obtain rfl : u = Value.none := r
    exact ⟨[], .none⟩
  | _, _, u, .bl b, r => by
    obtain rfl : u = Value.bool b := r
    exact ⟨[], .bool b⟩
  | _, _, u, .int i, r => by
    obtain ⟨t, rfl⟩ := r
    exact ⟨[], .int i t⟩
  | _, _, u, .str z, r => by
    obtain ⟨t, rfl⟩ := r
    exact ⟨[], .str z t⟩
  | _, _, u, .lst (a := a) h ra, r => by
    obtain rfl : u = Value.ref a := r
    obtain ⟨its, rv, ⟨o, n, e, c, _, dt⟩, _⟩ := I.list h
    obtain ⟨as, ra'⟩ := RepAll.reads I ra rv
    exact ⟨a :: as, .list e c dt (by simpa using ra')⟩
  | _, _, u, .tup (a := a) h ra, r => by
    obtain rfl : u = Value.ref a := r
    obtain ⟨its, rv, ⟨o, e, c, n, dt⟩, _⟩ := I.tuple h
    obtain ⟨as, ra'⟩ := RepAll.reads I ra rv
    exact ⟨as, .tuple e c dt (by simpa using ra')⟩
theorem RepAll.reads (I : Inv X pins σ H s) : ∀ {xs : List V} {ds : List PyData} {us : List Value}, RepAll X.K H xs ds → Vals xs us → ∃ as, ReadsAll s.heap us ds as
  | _, _, _, .nil, .nil => ⟨[], .nil⟩
  | _, _, _, .cons h r, .cons rv rs => by
    obtain ⟨as, h1⟩ := Rep.reads I h rv
    obtain ⟨bs, h2⟩ := RepAll.reads I r rs
    exact ⟨as ++ bs, .cons h1 h2⟩
end
end
def flatD (d : PyData) : Prop := d.canLay0 = true ∧ d.depth ≤ 40
theorem hu60 {A : Around} {k : Nat} (hr : Room k A) : A.units + 60 < cLine := Nat.lt_of_le_of_lt (Nat.add_le_add_left (by decide : 60 ≤ 64) _) hr.units
section
variable {X : Cx}
def rEqD (K : PySem.W.Frag) (neg : Bool) : R2 := fun x y H Q => ∃ d e, Rep K H x d ∧ Rep K H y e ∧ flatD d ∧ flatD e ∧ Q (.bl (if neg then !PyData.eqv d e else PyData.eqv d e)) H
theorem op_neD (hu : X.A.units + 60 < cLine) : OpR X (compareOp .NotEq) (rEqD X.K true) := by
  intro pins s σ H x y v u Q I rx ry h
  obtain ⟨d, e, hd, he, fd, fe, q⟩ := h
  obtain ⟨as, r1⟩ := hd.reads I rx
  obtain ⟨bs, r2⟩ := he.reads I ry
  exact SeqAt.compareNe_reads r1 r2 fd.1 fe.1 (by have := fd.2; have := fe.2; omega) ⟨.bl _, H, I, rfl, q⟩
def rInD (K : PySem.W.Frag) (neg : Bool) : R2 := fun x y H Q => ∃ (p : Addr) (d : PyData) (ds : List PyData), y = .ref p ∧ Rep K H x d ∧ (Rep K H (.ref p) (.list ds) ∨ Rep K H (.ref p) (.tuple ds)) ∧ flatD d ∧ flatD (.list ds) ∧ Q (.bl (if neg then !(ds.any fun y => PyData.eqv y d) else ds.any fun y => PyData.eqv y d)) H
end
end L2

set_option Elab.async false
set_option linter.all false
set_option maxRecDepth 100000
set_option maxHeartbeats 1000000
namespace HT
open PySem PyProof.Rows
section
open PySem.SeqAt
open PySem.AutoSeq1 (wpAny_loadPart')
open PySem.MeetsSeq PySem.MeetsSeq2 PySem.MeetsSeq3

end
end HT

set_option Elab.async false
set_option linter.all false
set_option maxRecDepth 100000
set_option maxHeartbeats 1000000
namespace HT
open PySem PyProof.Rows PySem.SeqAt
section
variable {l b : Addr}
theorem vals_ints {ns : List Int} {its : List Value} (r : L2.Vals (ns.map L2.V.int) its) : IntsAre its ns := L2.ints_are r
end
end HT
namespace L2
open PySem PySem.Spec PyProof.Rows
end L2

set_option Elab.async false
set_option linter.all false
set_option maxRecDepth 100000
set_option maxHeartbeats 1000000
namespace L2
open PySem PySem.Spec PyProof.Rows
def iOr (w1 w2 : TI) : TI := fun σ H R => w1 σ H R ∨ w2 σ H R
section
variable {K : PySem.W.Frag} {a : Addr} {g : TG} {tt : TT} {te : TE} {Q : VK} {H : Hp}
end
end L2

set_option Elab.async false
set_option linter.all false
set_option maxRecDepth 100000
set_option maxHeartbeats 1000000
namespace L2
open PySem PySem.Spec PyProof.Rows
section
variable {prog : Program} {w : World} {A : Around} {E : Value → Shared → Prop} {s : Shared} {z TI TO i1 i2 : Addr}
end
def ItzL (K : PySem.W.Frag) (a b : Addr) : It := ⟨fun i H => ∃ xs ys x y, SqL K H a xs ∧ SqL K H b ys ∧ xs[i]? = some x ∧ ys[i]? = some y,
  fun i H x H' => ∃ T u v, H T = none ∧ x = .ref T ∧ H' = upd H T (.tup [u, v]) ∧ (∀ xs, SqL K H a xs → xs[i]? = some u) ∧ ∀ ys, SqL K H b ys → ys[i]? = some v,
  fun i H => ∃ xs ys, SqL K H a xs ∧ SqL K H b ys ∧ xs.length = ys.length ∧ xs.length = i⟩
def iZipL (K : PySem.W.Frag) (ta : TA) : TI := fun σ H R => ta σ H fun vs H1 => ∃ a b, vs = [.ref a, .ref b] ∧ (∃ xs, SqL K H1 a xs) ∧ (∃ ys, SqL K H1 b ys) ∧ R (ItzL K a b) H1
end L2

set_option Elab.async false
set_option linter.all false
set_option maxRecDepth 100000
set_option maxHeartbeats 1000000
namespace L2
open PySem PySem.Spec PyProof.Rows
section
variable {X : Cx}
def rInsert : V → List V → Hp → VK → Prop := fun x vs H Q => ∃ (l : Addr) (xs : List V) (k : Nat) (y : V), x = .ref l ∧ vs = [.int k, y] ∧ H l = some (.lst xs) ∧ k ≤ xs.length ∧ xs.length < sizeLine ∧ Q .non (upd H l (.lst (xs.take k ++ y :: xs.drop k)))
end
section
variable {K : PySem.W.Frag} {a b : Addr} {g : TG} {tt : TT} {te : TE} {Q : VK} {H : Hp}
end
end L2

set_option Elab.async false
set_option linter.all false
set_option maxRecDepth 100000
set_option maxHeartbeats 1000000
namespace L2
open PySem PySem.Spec PyProof.Rows
section
variable {X : Cx}
def cutN (cs : List Nat) (lo hi : Option Int) : List Nat := (cs.drop (HT.sIx cs.length 0 lo)).take (HT.sIx cs.length cs.length hi - HT.sIx cs.length 0 lo)
theorem ssi_eq (lo hi : Option Int) (n : Nat) : Builtin.Str.strSliceIndices lo hi 1 n = sliceRange (sliceBounds lo hi none n).1 (sliceBounds lo hi none n).2.1 1 := rfl
theorem partOf {v : Value} {i : Option Int} (h : IsPart v i) : ∃ l : Option (Int × Tok), v = partValue l ∧ l.map (·.1) = i := by
  cases h with
  | none => exact ⟨none, rfl, rfl⟩
  | int i t => exact ⟨some (i, t), rfl, rfl⟩
def rSlS : V → Option Int → Option Int → Hp → VK → Prop := fun x lo hi H Q => ∃ cs : List Nat, x = .str (txt cs) ∧ cs.length ≤ 1000 ∧ Q (.str (txt (cutN cs lo hi))) H
theorem sl_str : SlR X rSlS := by
  intro pins s σ H x v vl vu lo hi sl Q I rx hs pl pu h
  obtain ⟨cs, rfl, hz, q⟩ := h
  obtain ⟨t, rfl⟩ := rx
  obtain ⟨l, rfl, el⟩ := partOf pl
  obtain ⟨u, rfl, eu⟩ := partOf pu
  refine ⟨"str", _, slot_str_getitem.lookup, typeIs_str s _ t, ?_⟩
  obtain ⟨o, h1, h2, h3⟩ := hs
  refine wpAny_getItem_str_slice (l := l) (u := u) (st := none) ⟨o, h1, h2, h3⟩ rfl ?_
  have e1 : slicePicked (txt cs) l u none = Builtin.Str.strSliceIndices lo hi 1 cs.length := by
    unfold slicePicked
    rw [el, eu]
    rfl
  obtain ⟨b1, b2, _⟩ := slice_bounds lo hi cs.length
  rw [ssi_eq, b1, b2] at e1
  have e2 : (List.filterMap (fun i => (txt cs).cps[i]?) (slicePicked (txt cs) l u none)) = cutN cs lo hi := by
    rw [e1]
    unfold cutN
    simp only [sliceRange_one, pick_run]
  have e3 : (slicePicked (txt cs) l u none).length = HT.sIx cs.length cs.length hi - HT.sIx cs.length 0 lo := by
    rw [e1, sliceRange_one, List.length_map, List.length_range]
  have e4 : HT.sIx cs.length cs.length hi ≤ cs.length := by
    unfold HT.sIx
    split
    · exact Nat.le_refl _
    · split <;> omega
  have e5 : (cutN cs lo hi).length ≤ cs.length := by
    unfold cutN
    rw [List.length_take, List.length_drop]
    omega
  unfold sliceMade
  by_cases hc : ((Option.map (fun x : Int × Tok => x.fst) none).getD 1 == 1 && (slicePicked (txt cs) l u none).length == (txt cs).length) = true
  · rw [if_pos hc]
    rw [Bool.and_eq_true] at hc
    have h5 := eq_of_beq hc.2
    rw [e3] at h5
    have h6 : HT.sIx cs.length cs.length hi - HT.sIx cs.length 0 lo = cs.length := h5
    have e6 : cutN cs lo hi = cs := by
      unfold cutN
      rw [h6]
      rcases Nat.eq_zero_or_pos cs.length with h0 | h0
      · rw [List.length_eq_zero_iff.mp h0, List.drop_nil, List.take_nil]
      · rw [show HT.sIx cs.length 0 lo = 0 by omega, List.drop_zero, List.take_of_length_le (Nat.le_refl _)]
    rw [e6] at q
    exact ⟨.str (txt cs), H, I, ⟨_, rfl⟩, q⟩
  · rw [if_neg hc, e2]
    exact ⟨Nat.le_trans (show (cutN cs lo hi).toArray.size ≤ 1000 by rw [List.size_toArray]; omega) (by decide), .str (txt (cutN cs lo hi)), H, I.tok _, ⟨_, rfl⟩, q⟩
def rMulS : R2 := fun x y H Q => ∃ (c : Nat) (n : Nat), x = .str (txt [c]) ∧ y = .int n ∧ 1 ≤ n ∧ n ≤ 1000 ∧ Q (.str (txt (List.replicate n c))) H
def rCatS : R2 := fun x y H Q => ∃ cs ds : List Nat, x = .str (txt cs) ∧ y = .str (txt ds) ∧ cs.length + ds.length ≤ 1000 ∧ Q (.str (txt (cs ++ ds))) H
theorem op_catS : OpR X (binaryOp .Add) rCatS := by
  intro pins s σ H x y v u Q I rx ry h
  obtain ⟨cs, ds, rfl, rfl, hz, q⟩ := h
  refine op_add_str pins s σ H _ _ v u Q I rx ry ⟨_, _, rfl, rfl, Nat.le_trans (show cs.toArray.size + ds.toArray.size ≤ 1000 by rw [List.size_toArray, List.size_toArray]; omega) (by decide), ?_⟩
  have : (txt cs ++ txt ds : Str) = txt (cs ++ ds) := by
    apply Str.ext'
    simp [Str.cps_append]
  rw [this]
  exact q
end
def tTryN (sp : Sp) (t : TA) (K : PySem.W.Frag) (C : Addr) (ts : TS) : TS := fun D σ H => t σ H fun vs H1 => sp vs H1 (fun _ H2 => D.nx σ H2) fun c _ H2 =>
  ∃ D', c = .ref D' ∧ PySem.W.subIn K (.ref D') (.ref C) = some true ∧ ∀ a, H2 a = none → ts { nx := fun _ _ => False, rt := D.rt } σ (upd H2 a (excO a D'))
section
variable {X : Cx} {CX : CXT} {x y : Str} {j k : Nat} {ps : List Str} {sp : Sp} {p pos tpos hpos np epos : Pos} {e : Expr} {es : List Expr} {t : TA} {C : Addr} {b₀ : Stmt} {suite : List Stmt} {ts : TS}
end
def tDict1T (K : PySem.W.Frag) (te : TE) : TE := fun σ H Q => te σ H fun x H1 => ∃ (p : Addr) (zs : List Str), x = .ref p ∧ SqT K H1 p (zs.map V.str) ∧ ∀ d, H1 d = none → Q (.ref d) (upd H1 d (dctO d))
theorem up_all : ∀ c : Fin 26, Unicode.upperOf (97 + c.val) = [65 + c.val] := by decide +kernel
theorem up_one {c : Nat} (h : 97 ≤ c) (h' : c ≤ 122) : Unicode.upperOf c = [c - 32] := by
  have := up_all ⟨c - 97, by omega⟩
  have e1 : 97 + (c - 97) = c := by omega
  have e2 : 65 + (c - 97) = c - 32 := by omega
  rw [show (97 + (⟨c - 97, by omega⟩ : Fin 26).val) = c from e1, show (65 + (⟨c - 97, by omega⟩ : Fin 26).val) = c - 32 from e2] at this
  exact this
theorem up_txt {cs : List Nat} (h : ∀ c ∈ cs, 97 ≤ c ∧ c ≤ 122) : Txt.upper (txt cs) = txt (cs.map (· - 32)) := by
  unfold Txt.upper placed
  have e : Array.mapIdx (fun i c => (Unicode.upperOf c).toArray) cs.toArray = (cs.map fun c => #[c - 32]).toArray := by
    rw [Array.mapIdx_eq_iff]
    intro i
    simp only [List.getElem?_toArray, List.getElem?_map]
    cases hc : cs[i]? with
    | none => rfl
    | some c =>
      obtain ⟨a, b⟩ := h c (List.mem_of_getElem? hc)
      simp only [Option.map_some, up_one a b]
  show (⟨(Array.mapIdx (fun i c => (Unicode.upperOf c).toArray) cs.toArray).flatten⟩ : Str) = _
  rw [e]
  apply Str.ext'
  show (cs.map fun c => #[c - 32]).toArray.flatten = (cs.map (· - 32)).toArray
  clear e h
  induction cs with
  | nil => rfl
  | cons c cs ih =>
    apply Array.toList_inj.mp
    have := congrArg Array.toList ih
    simp [Array.toList_flatten] at this ⊢
    exact this
def rUpper : V → List V → Hp → VK → Prop := fun x vs H Q => ∃ cs : List Nat, x = .str (txt cs) ∧ vs = [] ∧ (∀ c ∈ cs, 97 ≤ c ∧ c ≤ 122) ∧ cs.length ≤ 1000 ∧ Q (.str (txt (cs.map (· - 32)))) H
theorem mt_upper {X : Cx} : MtR X "str.upper" rUpper := by
  intro pins s σ H x vs v us Q I rx rv h
  obtain ⟨cs, rfl, rfl, hc, hz, q⟩ := h
  obtain ⟨t, rfl⟩ := rx
  cases rv
  refine SCL.upper (show cs.toArray.size ≤ 5592405 by rw [List.size_toArray]; omega) fun _ => ?_
  rw [up_txt hc]
  exact ⟨.str _, H, I.tok _, ⟨_, rfl⟩, q⟩
end L2

set_option Elab.async false
set_option linter.all false
set_option maxRecDepth 100000
set_option maxHeartbeats 1000000
namespace L2
open PySem PySem.Spec PyProof.Rows
structure Mk0 (K : PySem.W.Frag) (C : Addr) : Prop where
  makes : PySem.W.makesIn K C = true
  init : PySem.W.findIn K (.ref C) "__init__" = some (some (.builtin "object.__init__"))
  kp : PySem.W.keepIn K (.ref C) = true
def tMake0 (C : Addr) : TE := fun _ H Q => ∀ x dx, H x = none → H dx = none → dx ≠ x → Q (.ref x) (upd (upd H dx (.own x)) x (.ins C dx []))
section
variable {X : Cx} {C : Addr} {x : Str} {p pos apos : Pos}
theorem run_make0 {pins : List (Addr × Obj)} {σ : St} {H : Hp} {s : Shared} {Q : VK} (M : Mk0 X.K C) (I : Inv X pins σ H s)
    (h : ∀ x dx, H x = none → H dx = none → dx ≠ x → Q (.ref x) (upd (upd H dx (.own x)) x (.ins C dx []))) :
    wpAny (model X.prog X.w) X.A (call (.ref C) []) (EP X pins σ Q) X.xe s := by
  have hq := h (s.heap.objs.size + 1) s.heap.objs.size (I.hok.fresh (Nat.le_succ _)) (I.hok.fresh (Nat.le_refl _)) (Nat.ne_of_lt (Nat.lt_succ_self _))
  have I2 := Inv.made (C := C) I
  have Y := PySem.W.makes_of (M := model X.prog X.w) I.kIn M.makes
  have hx : ((s.heap.push PySem.W.emptyDict).push (PySem.W.instObj C s.heap.objs.size)).get? (s.heap.objs.size + 1) = some (PySem.W.instObj C s.heap.objs.size) := by
    have := Heap.get?_push_size (s.heap.push PySem.W.emptyDict) (o := PySem.W.instObj C s.heap.objs.size) rfl
    rwa [Heap.size_push] at this
  refine wpAny_call (make_map0 I.kIn M.makes M.init (fun self => PySem.W.Looks.of_pure (PySem.W.oi_bind self)) ?_)
  refine codeAny_call_builtin PySem.W.oi_plain PySem.W.entry_oi (PySem.W.check_slot PySem.W.oi_kind PySem.W.oi_split (PySem.W.Looks.andThen (PySem.W.Looks.andThen (PySem.W.Looks.ld hx) PySem.W.Looks.now) (PySem.W.Looks.keeps Y.top fun b o e => Heap.get?_push_of_some (PySem.W.instObj C s.heap.objs.size) (Heap.get?_push_of_some PySem.W.emptyDict e))) (PySem.W.oi_args (Value.ref (s.heap.objs.size + 1))) ?_)
  rw [PySem.W.oi_run]
  exact wpAny_pure ⟨rfl, ⟨V.ref (s.heap.objs.size + 1), _, I2, rfl, hq⟩⟩
theorem pe_makeN (M : Mk0 X.K C) (hg : Gl X x) (hm : X.mg x = some (.ref C)) (hdb : (x == ("__debug__" : Str)) = false := by decide) : PE X (.Call (.Name x p) [] [] pos) (tMake0 C) := by
  intro pins s σ H Q I h
  refine wpAny_Call_Name_kw (ld_glob I hg hm ?_ hdb)
  exact PySem.W.callWith_K0 I.kIn M.kp (run_make0 M I h)
end
structure MkC (P : Program) (w : World) (K : PySem.W.Frag) (mg : Str → Option Value) (base : Heap) (x : Str) (C : Addr) (k : Nat) (ps : List Str) (sp : Sp) : Prop where
  ex : ∃ f fd, Mk K C f ∧ FnOk P w K mg base CX0 k f fd ps sp ∧ Binds K fd ps []
  at_ : mg x = some (.ref C)
section
variable {X : Cx} {C : Addr} {x : Str} {j k : Nat} {ps : List Str} {sp : Sp} {p pos apos : Pos} {e o : Expr} {es : List Expr} {t : TA} {ta : TE} {m : Str}
theorem pe_makeC (M : MkC X.prog X.w X.K X.mg X.base x C j ps sp) (hr : Room k X.A) (hg : Gl X x) (ha : PA X (e :: es) t) (hj : j + 1 ≤ k := by decide) (hdb : (x == ("__debug__" : Str)) = false := by decide)
    (he : starEach (e :: es) X.env = (false, eval e X.env) :: starEach es X.env := by rfl) (hpl : (backTo pos (starEach es X.env)).any (·.1) = false := by rfl) :
    PE X (.Call (.Name x p) (e :: es) [] pos) (tMake C sp [] E0 t) := by
  obtain ⟨f, fd, Mk, F, b⟩ := M.ex
  exact pe_make Mk F (hr.mono hj) hg M.at_ b .nil pass0 ha hdb he hpl
structure Disp (P : Program) (w : World) (K : PySem.W.Frag) (mg : Str → Option Value) (base : Heap) (m : Str) (k : Nat) (ps : List Str) (C : Addr) (sp : Sp) : Prop where
  cls : Cls K C
  ex : ∃ f fd, Meth K C m f ∧ FnOk P w K mg base CX0 k f fd ps sp ∧ Binds K fd ps []
def tMethD (D : Addr → Sp → Prop) (m : Str) (ta : TE) (t : TA) : TE := fun σ H Q => ta σ H fun x H1 => ∃ a C dx fs sp, x = .ref a ∧ H1 a = some (.ins C dx fs) ∧ fs.lookup m = none ∧ D C sp ∧ t σ H1 fun vs H2 => sp (.ref a :: vs) H2 Q E0
theorem run_fnD {pins : List (Addr × Obj)} {σ : St} {H : Hp} {s : Shared} {Q : VK} {us : List Value} {vs : List V} {f : Addr} {fd : FuncData} (F : FnOk X.prog X.w X.K X.mg X.base CX0 k f fd ps sp) (hr : Room k X.A) (hb : Binds X.K fd ps [])
    (I : Inv X pins σ H s) (r : Vals vs us) (h : sp vs H Q E0) : wpAny (model X.prog X.w) X.A (call (.ref f) us) (EP X pins σ Q) X.xe s := by
  have := run_fn F hr hb .nil pass0 I r (by rw [List.append_nil]; exact h)
  exact this
theorem pe_methD0 {D : Addr → Sp → Prop} {pl : Sem Bool} (he : PE X o ta) (hD : ∀ C sp, D C sp → Disp X.prog X.w X.K X.mg X.base m j ps C sp) (hr : Room k X.A) (hj : j ≤ k := by decide)
    (ht : eval (.Call (.Attribute o m apos) [] [] pos) X.env = (do
      let ov ← eval o X.env
      standAt apos.atName
      let (f, first) ← holding [ov] (getMethod ov m pl)
      callWith pos f first (backTo pos (starEach [] X.env)) (backToKw pos (keywordEach [] X.env))) := by rfl) :
    PE X (.Call (.Attribute o m apos) [] [] pos) (tMethD D m ta tNil) := by
  intro pins s σ H Q I h
  refine PySem.W.methodCall_KW (pl := pl) (thn (he pins s σ H _ I h) fun u s1 ⟨x, H1, I1, rx, a, C, dx, fs, sp, ex, ea, l, d, q⟩ => ?_) ht
  subst ex
  obtain rfl : u = Value.ref a := rx
  obtain ⟨c, f, fd, hm, F, hb⟩ := hD C sp d
  refine getmeth_ok I1 ea c hm l ?_
  exact PySem.W.callWith_K0 (first := [.ref a]) I1.kIn hm.kp (run_fnD (us := [.ref a]) (vs := [.ref a]) F (hr.mono hj) hb I1 (.cons rfl .nil) q)
end
structure ICls (K : PySem.W.Frag) (C : Addr) : Prop where
  cl : Cls K C
  ha : PySem.W.findIn K (.ref C) "__class__" = some (some (.builtin "object.__class__"))
  hn : PySem.W.specialIn K (.builtin "object.__class__") "__get__" = some (some (.builtin "getset_descriptor.__get__"))
  htk : PySem.W.takesIn K (.builtin "object.__class__") = some true
  hm : PySem.W.mroIn K C (.type "object") = some true
def tChain3 (r r' r'' : R2) (ta tb tc td : TE) : TE := fun σ H Q => ta σ H fun x H1 => tb σ H1 fun y H2 => r x y H2 fun z H3 => ∃ k, z = .bl k ∧
  (if k = true then tc σ H3 fun w' H4 => r' y w' H4 fun z' H5 => ∃ k', z' = .bl k' ∧ (if k' = true then td σ H5 fun v' H6 => r'' w' v' H6 Q else Q (.bl false) H5) else Q (.bl false) H3)
section
variable {X : Cx} {a b c d : Expr} {ta tb tc td : TE} {pos : Pos}
end
def rCatTQ (K : PySem.W.Frag) : R2 := fun x y H Q => ∃ a b xs ys, x = .ref a ∧ y = .ref b ∧ SqT K H a xs ∧ SqT K H b ys ∧ xs.length + ys.length ≤ sizeLine ∧ ∀ p H', Same H H' → SqT K H' p (xs ++ ys) → Q (.ref p) H'
theorem op_catTQ {X : Cx} : OpR X (binaryOp .Add) (rCatTQ X.K) := by
  intro pins s σ H x y v u Q I rx ry h
  obtain ⟨a, b, xs, ys, rfl, rfl, ha, hb, hz, q⟩ := h
  have sn : ∀ p, H p = none → Same H (upd H p (.tup (xs ++ ys))) := fun p hp b u z => by rw [upd_ne (ne_of_none z hp)]; exact z
  by_cases hx : xs = []
  · subst hx
    cases rx
    cases ry
    obtain ⟨its, r1, p1, _⟩ := I.tuple ha
    obtain ⟨its2, r2, p2, _⟩ := I.tuple hb
    have e0 := r1.nil_iff.mpr rfl
    obtain ⟨⟨cls, dd, data, sl⟩, ho, hc, n, hd⟩ := id p1
    obtain ⟨⟨cls2, dd2, data2, sl2⟩, ho2, hc2, n2, hd2⟩ := id p2
    simp only at hc hd hc2 hd2
    subst hc hd hc2 hd2
    exact concat_meets ⟨_, ho, rfl⟩ ⟨_, ho2, rfl⟩ noFill_tuple_add seq_tuple_add PySem.F.slot_tuple_add PySem.F.entry_tuple_add (PySem.F.args_tuple_add_2 _ _)
      (tuple_addW0 a b its.toArray its2.toArray n n2 dd dd2 sl sl2 (by simp [e0])) ⟨ho, ho2, ⟨.ref b, H, I, rfl, q _ _ (Same.refl _) hb⟩⟩
  · refine op_catT pins s σ H _ _ v u Q I rx ry ⟨a, b, xs, ys, rfl, rfl, ha, hb, hx, hz, fun e => q _ _ (Same.refl _) (by rw [e, List.append_nil]; exact ha), fun _ p hp => q _ _ (sn p hp) (SqT.of upd_same)⟩
end L2

set_option Elab.async false
set_option linter.all false
set_option maxRecDepth 100000
set_option maxHeartbeats 1000000
namespace L2
open PySem PySem.Spec PyProof.Rows
section
variable {prog : Program} {w : World} {A : Around} {E : Value → Shared → Prop} {s : Shared} {z TI TO i1 i2 : Addr}
end
def ItzT (K : PySem.W.Frag) (a b : Addr) : It := ⟨fun i H => ∃ xs ys x y, SqT K H a xs ∧ SqT K H b ys ∧ xs[i]? = some x ∧ ys[i]? = some y,
  fun i H x H' => ∃ T u v, H T = none ∧ x = .ref T ∧ H' = upd H T (.tup [u, v]) ∧ (∀ xs, SqT K H a xs → xs[i]? = some u) ∧ ∀ ys, SqT K H b ys → ys[i]? = some v,
  fun i H => ∃ xs ys, SqT K H a xs ∧ SqT K H b ys ∧ xs.length = ys.length ∧ xs.length = i⟩
def iZipT (K : PySem.W.Frag) (ta : TA) : TI := fun σ H R => ta σ H fun vs H1 => ∃ a b, vs = [.ref a, .ref b] ∧ (∃ xs, SqT K H1 a xs) ∧ (∃ ys, SqT K H1 b ys) ∧ R (ItzT K a b) H1
end L2

set_option Elab.async false
set_option linter.all false
set_option maxRecDepth 100000
set_option maxHeartbeats 1000000
namespace HT
open PySem PySem.Spec PyProof.Rows
section
variable {prog : Program} {w : World} {A : Around} {E : Value → Shared → Prop} {s : Shared}
end
end HT
namespace L2
open PySem PySem.Spec PyProof.Rows
def rTurnT (K : PySem.W.Frag) : V → Hp → VK → Prop := fun x H Q => ∃ a xs, x = .ref a ∧ SqT K H a xs ∧ ∀ p, H p = none → Q (.ref p) (upd H p (.tup xs.reverse))
def tTurn (K : PySem.W.Frag) (te : TE) (ts : TO) : TE := fun σ H Q => te σ H fun x H1 => ts σ H1 fun o H2 => o = some (-1) ∧ rTurnT K x H2 Q
end L2

set_option Elab.async false
set_option linter.all false
set_option maxRecDepth 100000
set_option maxHeartbeats 1000000
namespace L2
open PySem PySem.Spec PyProof.Rows
def tTryS (sp : Sp) (t : TA) (i iz : Nat) (K : PySem.W.Frag) (C : Addr) (ts : TS) : TS := fun D σ H => t σ H fun vs H1 => sp vs H1 (fun v H2 => D.nx (σ.set iz (some v)) H2) fun c _ H2 =>
  ∃ D', c = .ref D' ∧ PySem.W.subIn K (.ref D') (.ref C) = some true ∧ ∀ a, H2 a = none → ts { nx := fun _ _ => False, rt := D.rt } (σ.set i (some (.ref a))) (upd H2 a (excO a D'))
section
variable {X : Cx} {CX : CXT} {x y n z : Str} {j k i iz : Nat} {ps : List Str} {sp : Sp} {p zpos pos tpos hpos np epos : Pos} {e : Expr} {es : List Expr} {t : TA} {C : Addr} {b₀ : Stmt} {suite : List Stmt} {ts : TS}
end
end L2

set_option Elab.async false
set_option linter.all false
set_option maxRecDepth 100000
set_option maxHeartbeats 1000000
namespace L2
open PySem PySem.Spec PyProof.Rows
def rCountT : V → List V → Hp → VK → Prop := fun x vs H Q => ∃ (p : Addr) (ns : List Int) (j : Int), x = .ref p ∧ vs = [.int j] ∧ H p = some (.tup (ns.map V.int)) ∧ Q (.int (ns.count j)) H
end L2

set_option linter.all false
namespace MthL
def pk (ws : List Int) (w : Int) (i : Nat) : Bool := decide (0 < ws.getD i 0 ∧ ws.getD i 0 ≤ w ∧ ∀ j, j < i → ws.getD j 0 ≠ ws.getD i 0)
def rk (ws : List Int) (w : Int) : Nat := ((List.range ws.length).filter (pk ws w)).length
theorem first {ws : List Int} {w : Int} (h : w ∈ ws) : ∃ i, i < ws.length ∧ ws.getD i 0 = w ∧ ∀ j, j < i → ws.getD j 0 ≠ w := by
  induction ws with
  | nil => cases h
  | cons a ws ih =>
    by_cases e : a = w
    · exact ⟨0, Nat.zero_lt_succ _, e, fun j hj => absurd hj (Nat.not_lt_zero _)⟩
    · obtain ⟨i, h1, h2, h3⟩ := ih ((List.mem_cons.mp h).resolve_left fun z => e z.symm)
      refine ⟨i + 1, Nat.succ_lt_succ h1, h2, fun j hj => ?_⟩
      cases j with
      | zero => exact e
      | succ j => exact h3 j (Nat.lt_of_succ_lt_succ hj)
theorem below {ws : List Int} (w : Int) : (∀ o ∈ ws, 0 < o → w ≤ o) ∨ ∃ v ∈ ws, 0 < v ∧ v < w ∧ ∀ o ∈ ws, o < w → o ≤ v := by
  induction ws with
  | nil => exact .inl fun o ho => by cases ho
  | cons a ws ih =>
    by_cases ha : 0 < a ∧ a < w
    · rcases ih with ih | ⟨v, h1, h2, h3, h4⟩
      · refine .inr ⟨a, List.mem_cons_self .., ha.1, ha.2, fun o ho hl => ?_⟩
        rcases List.mem_cons.mp ho with rfl | ho
        · exact Int.le_refl _
        · by_cases h0 : 0 < o
          · have := ih o ho h0
            omega
          · omega
      · by_cases hv : a ≤ v
        · refine .inr ⟨v, List.mem_cons_of_mem _ h1, h2, h3, fun o ho hl => ?_⟩
          rcases List.mem_cons.mp ho with rfl | ho
          · exact hv
          · exact h4 o ho hl
        · refine .inr ⟨a, List.mem_cons_self .., ha.1, ha.2, fun o ho hl => ?_⟩
          rcases List.mem_cons.mp ho with rfl | ho
          · exact Int.le_refl _
          · have := h4 o ho hl
            omega
    · rcases ih with ih | ⟨v, h1, h2, h3, h4⟩
      · refine .inl fun o ho h0 => ?_
        rcases List.mem_cons.mp ho with rfl | ho
        · omega
        · exact ih o ho h0
      · refine .inr ⟨v, List.mem_cons_of_mem _ h1, h2, h3, fun o ho hl => ?_⟩
        rcases List.mem_cons.mp ho with rfl | ho
        · omega
        · exact h4 o ho hl
def look (ws : List Int) : List Int := ws.map fun w => (rk ws w : Int)
end MthL

set_option linter.all false
namespace Mth
def cell (ns : List Int) (k : Int) : Int :=
  if k < (ns.length : Int) then ns.getD k.toNat 0 % 10 ^ 60
  else (if 0 < (ns.length : Int) then ns.getD (k * 7 % (ns.length : Int)).toNat 0 % 10 ^ 60 * 48271 + k * k * 69621 else 7919 * k + 5) % 2147483647 * 16807 % 2147483629
theorem cell_in (ns : List Int) (k : Int) : 0 ≤ cell ns k ∧ cell ns k < 10 ^ 60 := by
  unfold cell
  split
  · have h1 := Int.emod_nonneg (ns.getD k.toNat 0) (show (10 ^ 60 : Int) ≠ 0 by decide)
    have h2 := Int.emod_lt_of_pos (ns.getD k.toNat 0) (show (0 : Int) < 10 ^ 60 by decide)
    exact ⟨h1, h2⟩
  · generalize (if 0 < (ns.length : Int) then ns.getD (k * 7 % (ns.length : Int)).toNat 0 % 10 ^ 60 * 48271 + k * k * 69621 else 7919 * k + 5) % 2147483647 * 16807 = z
    have h1 := Int.emod_nonneg z (show (2147483629 : Int) ≠ 0 by decide)
    have h2 := Int.emod_lt_of_pos z (show (0 : Int) < 2147483629 by decide)
    have h3 : (2147483629 : Int) ≤ 10 ^ 60 := by decide
    exact ⟨h1, by omega⟩

def gcd (a b : Int) : Int := (Int.gcd a b : Nat)
structure IsShare (t b x y : Int) : Prop where
  pos : 0 < y
  low : gcd x y = 1
  eq : x * b = t * y
  le1 : x.natAbs ≤ t.natAbs
  le2 : y.natAbs ≤ b.natAbs
def tot (s r : Int × Int) : Int × Int := (s.1 * r.2 + r.1 * s.2, s.2 * r.2)
structure Low (T : Int × Int) (x y : Int) : Prop where
  pos : 0 < y
  low : gcd x y = 1
  eq : x * T.2 = T.1 * y
end Mth

set_option Elab.async false
set_option linter.all false
set_option maxRecDepth 100000
set_option maxHeartbeats 4000000
namespace My
open PySem L2
def spLaw (K : PySem.W.Frag) : Sp := fun vs H Q _ => ∃ (a : Addr) (ns : List Int), vs = [.ref a] ∧ SqL K H a (ns.map V.int) ∧ ns.length ≤ 63 ∧ ∀ H', Q (.bl true) H'
theorem atI_map {ns : List Int} {k : Int} (h0 : 0 ≤ k) (h1 : k < ns.length) : atI (ns.map V.int) k = some (.int (ns.getD k.toNat 0)) := by
  have e : k = ((k.toNat : Nat) : Int) := by omega
  have h2 : k.toNat < ns.length := by omega
  have q : (ns.map V.int)[k.toNat]? = some (.int (ns.getD k.toNat 0)) := by
    rw [List.getElem?_map, List.getElem?_eq_getElem h2]
    simp [List.getD, h2]
  have := atI_nat q
  rw [← e] at this
  exact this
theorem bitsN {n : Nat} {i : Int} (lo : -(10 ^ 61) ≤ i) (hi : i ≤ 10 ^ 61) (hn : 204 ≤ n := by decide) : Bits n i := (Bits.of (n := 204) (b := 10 ^ 61) lo hi (by decide)).mono hn
theorem same_new {H : Hp} {p : Addr} (h : H p = none) (o : HO) : Same H (upd H p o) := fun b u q => by rw [upd_ne (ne_of_none q h)]; exact q
theorem Same.tup {K : PySem.W.Frag} {H H' : Hp} {a : Addr} {xs : List V} (e : Same H H') (h : SqT K H a xs) : SqT K H' a xs := by
  rcases h with (h | ⟨o, h⟩) | h
  · exact .inl (.inl (e _ _ h))
  · exact .inl (.inr ⟨o, e _ _ h⟩)
  · exact .inr h
theorem cpow {n : Int} (h0 : 0 ≤ n := by decide) (h1 : n ≤ 1000000 := by decide) : CPow 10 n := ⟨h0, h1, by decide⟩
theorem ten_pos (n : Nat) : (0 : Int) < 10 ^ n := Int.pow_pos (by decide)
theorem cmul {i j : Int} (a : -(10 ^ 61) ≤ i) (b : i ≤ 10 ^ 61) (c : -(10 ^ 61) ≤ j) (d : j ≤ 10 ^ 61) : CMulB i j := ⟨bitsN a b, bitsN c d⟩
theorem cdiv {i j : Int} (a : 0 < j) (b : j ≤ 10 ^ 61) : CDivB i j := ⟨a, bitsN (by omega) b⟩
theorem getD_at {α : Type} {ws : List α} {j : Nat} {d : α} (h : j < ws.length) : ws.getD j d = ws[j] := by simp only [List.getD, List.getElem?_eq_getElem h, Option.getD_some]
theorem ixN_nat {n j : Nat} (h : j < n) : ixN n (j : Int) = some j := by
  unfold ixN
  rw [if_pos (by omega), if_pos (by omega)]
  rfl
theorem fresh_tup {K : PySem.W.Frag} {H : Hp} {p : Addr} (h : H p = none) (xs : List V) : ∃ H1, H1 = upd H p (.tup xs) ∧ Same H H1 ∧ SqT K H1 p xs := ⟨_, rfl, same_new h _, SqT.of upd_same⟩
theorem fresh_lst {K : PySem.W.Frag} {H : Hp} {p : Addr} (h : H p = none) (xs : List V) : ∃ H1, H1 = upd H p (.lst xs) ∧ Same H H1 ∧ SqL K H1 p xs := ⟨_, rfl, same_new h _, SqL.of upd_same⟩
theorem fresh_dct {K : PySem.W.Frag} {H : Hp} {p : Addr} (h : H p = none) : ∃ H1, H1 = upd H p (dctO p) ∧ Same H H1 ∧ Kd K H1 (.ref p) .dct := ⟨_, rfl, same_new h _, Kd.dct upd_same⟩
theorem same_upd {H H' : Hp} {l : Addr} (e : Same H H') (h : H l = none) (o : HO) : Same H (upd H' l o) := fun b u hb => by rw [upd_ne (ne_of_none hb h)]; exact e _ _ hb


def top (i : Nat) : Stmt := PySem.Challenge.pw_tariffgate_k34_notes_refused.main.body.getD i (.Pass ⟨0, 0, 0, 0⟩)
def inner : Stmt → Nat → Stmt
  | .ClassDef _ _ _ b _ _ _ _ _ _ _, j => b.getD j (.Pass ⟨0, 0, 0, 0⟩)
  | st, _ => st
theorem dn_thing : (("thing" : Str) == ("__debug__" : Str)) = false := by decide
theorem dc_thing : (("thing" : Str) == ("__classdict__" : Str)) = false := by decide
theorem nn_thing : ("thing" : Str) ≠ "__name__" := by decide
theorem dn_all : (("all" : Str) == ("__debug__" : Str)) = false := by decide
theorem dc_all : (("all" : Str) == ("__classdict__" : Str)) = false := by decide
theorem nn_all : ("all" : Str) ≠ "__name__" := by decide
theorem dn_isinstance : (("isinstance" : Str) == ("__debug__" : Str)) = false := by decide
theorem dc_isinstance : (("isinstance" : Str) == ("__classdict__" : Str)) = false := by decide
theorem nn_isinstance : ("isinstance" : Str) ≠ "__name__" := by decide
theorem dn_str : (("str" : Str) == ("__debug__" : Str)) = false := by decide
theorem dc_str : (("str" : Str) == ("__classdict__" : Str)) = false := by decide
theorem nn_str : ("str" : Str) ≠ "__name__" := by decide
theorem dn_letter : (("letter" : Str) == ("__debug__" : Str)) = false := by decide
theorem dc_letter : (("letter" : Str) == ("__classdict__" : Str)) = false := by decide
theorem nn_letter : ("letter" : Str) ≠ "__name__" := by decide
theorem dn_len : (("len" : Str) == ("__debug__" : Str)) = false := by decide
theorem dc_len : (("len" : Str) == ("__classdict__" : Str)) = false := by decide
theorem nn_len : ("len" : Str) ≠ "__name__" := by decide
theorem dn_is_name : (("is_name" : Str) == ("__debug__" : Str)) = false := by decide
theorem dc_is_name : (("is_name" : Str) == ("__classdict__" : Str)) = false := by decide
theorem nn_is_name : ("is_name" : Str) ≠ "__name__" := by decide
theorem dn_tuple : (("tuple" : Str) == ("__debug__" : Str)) = false := by decide
theorem dc_tuple : (("tuple" : Str) == ("__classdict__" : Str)) = false := by decide
theorem nn_tuple : ("tuple" : Str) ≠ "__name__" := by decide
theorem dn__law_script : (("_law_script" : Str) == ("__debug__" : Str)) = false := by decide
theorem dc__law_script : (("_law_script" : Str) == ("__classdict__" : Str)) = false := by decide
theorem nn__law_script : ("_law_script" : Str) ≠ "__name__" := by decide
theorem dn__law_k : (("_law_k" : Str) == ("__debug__" : Str)) = false := by decide
theorem dc__law_k : (("_law_k" : Str) == ("__classdict__" : Str)) = false := by decide
theorem nn__law_k : ("_law_k" : Str) ≠ "__name__" := by decide
theorem dn__law_number : (("_law_number" : Str) == ("__debug__" : Str)) = false := by decide
theorem dc__law_number : (("_law_number" : Str) == ("__classdict__" : Str)) = false := by decide
theorem nn__law_number : ("_law_number" : Str) ≠ "__name__" := by decide
theorem dn__law_many : (("_law_many" : Str) == ("__debug__" : Str)) = false := by decide
theorem dc__law_many : (("_law_many" : Str) == ("__classdict__" : Str)) = false := by decide
theorem nn__law_many : ("_law_many" : Str) ≠ "__name__" := by decide
theorem dn__law_cell_here : (("_law_cell_here" : Str) == ("__debug__" : Str)) = false := by decide
theorem dc__law_cell_here : (("_law_cell_here" : Str) == ("__classdict__" : Str)) = false := by decide
theorem nn__law_cell_here : ("_law_cell_here" : Str) ≠ "__name__" := by decide
theorem dn__law_letters : (("_law_letters" : Str) == ("__debug__" : Str)) = false := by decide
theorem dc__law_letters : (("_law_letters" : Str) == ("__classdict__" : Str)) = false := by decide
theorem nn__law_letters : ("_law_letters" : Str) ≠ "__name__" := by decide
theorem dn__law_base : (("_law_base" : Str) == ("__debug__" : Str)) = false := by decide
theorem dc__law_base : (("_law_base" : Str) == ("__classdict__" : Str)) = false := by decide
theorem nn__law_base : ("_law_base" : Str) ≠ "__name__" := by decide
theorem dn__law_size : (("_law_size" : Str) == ("__debug__" : Str)) = false := by decide
theorem dc__law_size : (("_law_size" : Str) == ("__classdict__" : Str)) = false := by decide
theorem nn__law_size : ("_law_size" : Str) ≠ "__name__" := by decide
theorem dn__law_at : (("_law_at" : Str) == ("__debug__" : Str)) = false := by decide
theorem dc__law_at : (("_law_at" : Str) == ("__classdict__" : Str)) = false := by decide
theorem nn__law_at : ("_law_at" : Str) ≠ "__name__" := by decide
theorem dn__law_words_here : (("_law_words_here" : Str) == ("__debug__" : Str)) = false := by decide
theorem dc__law_words_here : (("_law_words_here" : Str) == ("__classdict__" : Str)) = false := by decide
theorem nn__law_words_here : ("_law_words_here" : Str) ≠ "__name__" := by decide
theorem dn_range : (("range" : Str) == ("__debug__" : Str)) = false := by decide
theorem dc_range : (("range" : Str) == ("__classdict__" : Str)) = false := by decide
theorem nn_range : ("range" : Str) ≠ "__name__" := by decide
theorem dn__law_word : (("_law_word" : Str) == ("__debug__" : Str)) = false := by decide
theorem dc__law_word : (("_law_word" : Str) == ("__classdict__" : Str)) = false := by decide
theorem nn__law_word : ("_law_word" : Str) ≠ "__name__" := by decide
theorem dn__law_j : (("_law_j" : Str) == ("__debug__" : Str)) = false := by decide
theorem dc__law_j : (("_law_j" : Str) == ("__classdict__" : Str)) = false := by decide
theorem nn__law_j : ("_law_j" : Str) ≠ "__name__" := by decide
theorem dn_int : (("int" : Str) == ("__debug__" : Str)) = false := by decide
theorem dc_int : (("int" : Str) == ("__classdict__" : Str)) = false := by decide
theorem nn_int : ("int" : Str) ≠ "__name__" := by decide
theorem dn__law_step : (("_law_step" : Str) == ("__debug__" : Str)) = false := by decide
theorem dc__law_step : (("_law_step" : Str) == ("__classdict__" : Str)) = false := by decide
theorem nn__law_step : ("_law_step" : Str) ≠ "__name__" := by decide
theorem dn__law_shift : (("_law_shift" : Str) == ("__debug__" : Str)) = false := by decide
theorem dc__law_shift : (("_law_shift" : Str) == ("__classdict__" : Str)) = false := by decide
theorem nn__law_shift : ("_law_shift" : Str) ≠ "__name__" := by decide
theorem dn__law_kinds_here : (("_law_kinds_here" : Str) == ("__debug__" : Str)) = false := by decide
theorem dc__law_kinds_here : (("_law_kinds_here" : Str) == ("__classdict__" : Str)) = false := by decide
theorem nn__law_kinds_here : ("_law_kinds_here" : Str) ≠ "__name__" := by decide
theorem dn__law_place : (("_law_place" : Str) == ("__debug__" : Str)) = false := by decide
theorem dc__law_place : (("_law_place" : Str) == ("__classdict__" : Str)) = false := by decide
theorem nn__law_place : ("_law_place" : Str) ≠ "__name__" := by decide
theorem dn__law_way : (("_law_way" : Str) == ("__debug__" : Str)) = false := by decide
theorem dc__law_way : (("_law_way" : Str) == ("__classdict__" : Str)) = false := by decide
theorem nn__law_way : ("_law_way" : Str) ≠ "__name__" := by decide
theorem dn__law_name : (("_law_name" : Str) == ("__debug__" : Str)) = false := by decide
theorem dc__law_name : (("_law_name" : Str) == ("__classdict__" : Str)) = false := by decide
theorem nn__law_name : ("_law_name" : Str) ≠ "__name__" := by decide
theorem dn__law_some : (("_law_some" : Str) == ("__debug__" : Str)) = false := by decide
theorem dc__law_some : (("_law_some" : Str) == ("__classdict__" : Str)) = false := by decide
theorem nn__law_some : ("_law_some" : Str) ≠ "__name__" := by decide
theorem dn__law_one : (("_law_one" : Str) == ("__debug__" : Str)) = false := by decide
theorem dc__law_one : (("_law_one" : Str) == ("__classdict__" : Str)) = false := by decide
theorem nn__law_one : ("_law_one" : Str) ≠ "__name__" := by decide
theorem dn__law_mix : (("_law_mix" : Str) == ("__debug__" : Str)) = false := by decide
theorem dc__law_mix : (("_law_mix" : Str) == ("__classdict__" : Str)) = false := by decide
theorem nn__law_mix : ("_law_mix" : Str) ≠ "__name__" := by decide
theorem dn__law_deep : (("_law_deep" : Str) == ("__debug__" : Str)) = false := by decide
theorem dc__law_deep : (("_law_deep" : Str) == ("__classdict__" : Str)) = false := by decide
theorem nn__law_deep : ("_law_deep" : Str) ≠ "__name__" := by decide
theorem dn__law_other_here : (("_law_other_here" : Str) == ("__debug__" : Str)) = false := by decide
theorem dc__law_other_here : (("_law_other_here" : Str) == ("__classdict__" : Str)) = false := by decide
theorem nn__law_other_here : ("_law_other_here" : Str) ≠ "__name__" := by decide
theorem dn__law_note : (("_law_note" : Str) == ("__debug__" : Str)) = false := by decide
theorem dc__law_note : (("_law_note" : Str) == ("__classdict__" : Str)) = false := by decide
theorem nn__law_note : ("_law_note" : Str) ≠ "__name__" := by decide
theorem dn__law_plain : (("_law_plain" : Str) == ("__debug__" : Str)) = false := by decide
theorem dc__law_plain : (("_law_plain" : Str) == ("__classdict__" : Str)) = false := by decide
theorem nn__law_plain : ("_law_plain" : Str) ≠ "__name__" := by decide
theorem dn_self : (("self" : Str) == ("__debug__" : Str)) = false := by decide
theorem dc_self : (("self" : Str) == ("__classdict__" : Str)) = false := by decide
theorem nn_self : ("self" : Str) ≠ "__name__" := by decide
theorem dn_stuff : (("stuff" : Str) == ("__debug__" : Str)) = false := by decide
theorem dc_stuff : (("stuff" : Str) == ("__classdict__" : Str)) = false := by decide
theorem nn_stuff : ("stuff" : Str) ≠ "__name__" := by decide
theorem dn_use : (("use" : Str) == ("__debug__" : Str)) = false := by decide
theorem dc_use : (("use" : Str) == ("__classdict__" : Str)) = false := by decide
theorem nn_use : ("use" : Str) ≠ "__name__" := by decide
theorem dn_one : (("one" : Str) == ("__debug__" : Str)) = false := by decide
theorem dc_one : (("one" : Str) == ("__classdict__" : Str)) = false := by decide
theorem nn_one : ("one" : Str) ≠ "__name__" := by decide
theorem dn_other : (("other" : Str) == ("__debug__" : Str)) = false := by decide
theorem dc_other : (("other" : Str) == ("__classdict__" : Str)) = false := by decide
theorem nn_other : ("other" : Str) ≠ "__name__" := by decide
theorem dn_word : (("word" : Str) == ("__debug__" : Str)) = false := by decide
theorem dc_word : (("word" : Str) == ("__classdict__" : Str)) = false := by decide
theorem nn_word : ("word" : Str) ≠ "__name__" := by decide
theorem dn_name : (("name" : Str) == ("__debug__" : Str)) = false := by decide
theorem dc_name : (("name" : Str) == ("__classdict__" : Str)) = false := by decide
theorem nn_name : ("name" : Str) ≠ "__name__" := by decide
theorem dn_NoNote : (("NoNote" : Str) == ("__debug__" : Str)) = false := by decide
theorem dc_NoNote : (("NoNote" : Str) == ("__classdict__" : Str)) = false := by decide
theorem nn_NoNote : ("NoNote" : Str) ≠ "__name__" := by decide
theorem dn_Made : (("Made" : Str) == ("__debug__" : Str)) = false := by decide
theorem dc_Made : (("Made" : Str) == ("__classdict__" : Str)) = false := by decide
theorem nn_Made : ("Made" : Str) ≠ "__name__" := by decide
theorem dn_Used : (("Used" : Str) == ("__debug__" : Str)) = false := by decide
theorem dc_Used : (("Used" : Str) == ("__classdict__" : Str)) = false := by decide
theorem nn_Used : ("Used" : Str) ≠ "__name__" := by decide
theorem dn_Chief : (("Chief" : Str) == ("__debug__" : Str)) = false := by decide
theorem dc_Chief : (("Chief" : Str) == ("__classdict__" : Str)) = false := by decide
theorem nn_Chief : ("Chief" : Str) ≠ "__name__" := by decide
theorem dn_But : (("But" : Str) == ("__debug__" : Str)) = false := by decide
theorem dc_But : (("But" : Str) == ("__classdict__" : Str)) = false := by decide
theorem nn_But : ("But" : Str) ≠ "__name__" := by decide
theorem dn_Both : (("Both" : Str) == ("__debug__" : Str)) = false := by decide
theorem dc_Both : (("Both" : Str) == ("__classdict__" : Str)) = false := by decide
theorem nn_Both : ("Both" : Str) ≠ "__name__" := by decide
theorem dn_Either : (("Either" : Str) == ("__debug__" : Str)) = false := by decide
theorem dc_Either : (("Either" : Str) == ("__classdict__" : Str)) = false := by decide
theorem nn_Either : ("Either" : Str) ≠ "__name__" := by decide
theorem dn_told : (("told" : Str) == ("__debug__" : Str)) = false := by decide
theorem dc_told : (("told" : Str) == ("__classdict__" : Str)) = false := by decide
theorem nn_told : ("told" : Str) ≠ "__name__" := by decide
theorem dn_Anything : (("Anything" : Str) == ("__debug__" : Str)) = false := by decide
theorem dc_Anything : (("Anything" : Str) == ("__classdict__" : Str)) = false := by decide
theorem nn_Anything : ("Anything" : Str) ≠ "__name__" := by decide
theorem dn_note_of_name : (("note_of_name" : Str) == ("__debug__" : Str)) = false := by decide
theorem dc_note_of_name : (("note_of_name" : Str) == ("__classdict__" : Str)) = false := by decide
theorem nn_note_of_name : ("note_of_name" : Str) ≠ "__name__" := by decide
theorem dn_is_kind : (("is_kind" : Str) == ("__debug__" : Str)) = false := by decide
theorem dc_is_kind : (("is_kind" : Str) == ("__classdict__" : Str)) = false := by decide
theorem nn_is_kind : ("is_kind" : Str) ≠ "__name__" := by decide
theorem dn_Over : (("Over" : Str) == ("__debug__" : Str)) = false := by decide
theorem dc_Over : (("Over" : Str) == ("__classdict__" : Str)) = false := by decide
theorem nn_Over : ("Over" : Str) ≠ "__name__" := by decide
theorem dn_left : (("left" : Str) == ("__debug__" : Str)) = false := by decide
theorem dc_left : (("left" : Str) == ("__classdict__" : Str)) = false := by decide
theorem nn_left : ("left" : Str) ≠ "__name__" := by decide
theorem dn_note_of_one : (("note_of_one" : Str) == ("__debug__" : Str)) = false := by decide
theorem dc_note_of_one : (("note_of_one" : Str) == ("__classdict__" : Str)) = false := by decide
theorem nn_note_of_one : ("note_of_one" : Str) ≠ "__name__" := by decide
theorem dn_note_within : (("note_within" : Str) == ("__debug__" : Str)) = false := by decide
theorem dc_note_within : (("note_within" : Str) == ("__classdict__" : Str)) = false := by decide
theorem nn_note_within : ("note_within" : Str) ≠ "__name__" := by decide
theorem dn_note_of_notes : (("note_of_notes" : Str) == ("__debug__" : Str)) = false := by decide
theorem dc_note_of_notes : (("note_of_notes" : Str) == ("__classdict__" : Str)) = false := by decide
theorem nn_note_of_notes : ("note_of_notes" : Str) ≠ "__name__" := by decide
theorem dn__law_wrong : (("_law_wrong" : Str) == ("__debug__" : Str)) = false := by decide
theorem dc__law_wrong : (("_law_wrong" : Str) == ("__classdict__" : Str)) = false := by decide
theorem nn__law_wrong : ("_law_wrong" : Str) ≠ "__name__" := by decide
theorem dn__law_kind : (("_law_kind" : Str) == ("__debug__" : Str)) = false := by decide
theorem dc__law_kind : (("_law_kind" : Str) == ("__classdict__" : Str)) = false := by decide
theorem nn__law_kind : ("_law_kind" : Str) ≠ "__name__" := by decide
theorem dn__law_bad_name : (("_law_bad_name" : Str) == ("__debug__" : Str)) = false := by decide
theorem dc__law_bad_name : (("_law_bad_name" : Str) == ("__classdict__" : Str)) = false := by decide
theorem nn__law_bad_name : ("_law_bad_name" : Str) ≠ "__name__" := by decide
theorem dn_list : (("list" : Str) == ("__debug__" : Str)) = false := by decide
theorem dc_list : (("list" : Str) == ("__classdict__" : Str)) = false := by decide
theorem nn_list : ("list" : Str) ≠ "__name__" := by decide
theorem dn__law_told : (("_law_told" : Str) == ("__debug__" : Str)) = false := by decide
theorem dc__law_told : (("_law_told" : Str) == ("__classdict__" : Str)) = false := by decide
theorem nn__law_told : ("_law_told" : Str) ≠ "__name__" := by decide
theorem dn__law_bad_here : (("_law_bad_here" : Str) == ("__debug__" : Str)) = false := by decide
theorem dc__law_bad_here : (("_law_bad_here" : Str) == ("__classdict__" : Str)) = false := by decide
theorem nn__law_bad_here : ("_law_bad_here" : Str) ≠ "__name__" := by decide
theorem dn__law_spoilt : (("_law_spoilt" : Str) == ("__debug__" : Str)) = false := by decide
theorem dc__law_spoilt : (("_law_spoilt" : Str) == ("__classdict__" : Str)) = false := by decide
theorem nn__law_spoilt : ("_law_spoilt" : Str) ≠ "__name__" := by decide
theorem dn__law_e : (("_law_e" : Str) == ("__debug__" : Str)) = false := by decide
theorem dc__law_e : (("_law_e" : Str) == ("__classdict__" : Str)) = false := by decide
theorem nn__law_e : ("_law_e" : Str) ≠ "__name__" := by decide
theorem dn_NoNumber : (("NoNumber" : Str) == ("__debug__" : Str)) = false := by decide
theorem dc_NoNumber : (("NoNumber" : Str) == ("__classdict__" : Str)) = false := by decide
theorem nn_NoNumber : ("NoNumber" : Str) ≠ "__name__" := by decide
theorem dn_NoBands : (("NoBands" : Str) == ("__debug__" : Str)) = false := by decide
theorem dc_NoBands : (("NoBands" : Str) == ("__classdict__" : Str)) = false := by decide
theorem nn_NoBands : ("NoBands" : Str) ≠ "__name__" := by decide
theorem dn_NoKinds : (("NoKinds" : Str) == ("__debug__" : Str)) = false := by decide
theorem dc_NoKinds : (("NoKinds" : Str) == ("__classdict__" : Str)) = false := by decide
theorem nn_NoKinds : ("NoKinds" : Str) ≠ "__name__" := by decide
theorem dn_NoGoods : (("NoGoods" : Str) == ("__debug__" : Str)) = false := by decide
theorem dc_NoGoods : (("NoGoods" : Str) == ("__classdict__" : Str)) = false := by decide
theorem nn_NoGoods : ("NoGoods" : Str) ≠ "__name__" := by decide
theorem dn_NoTree : (("NoTree" : Str) == ("__debug__" : Str)) = false := by decide
theorem dc_NoTree : (("NoTree" : Str) == ("__classdict__" : Str)) = false := by decide
theorem nn_NoTree : ("NoTree" : Str) ≠ "__name__" := by decide
theorem dn_NoneClaims : (("NoneClaims" : Str) == ("__debug__" : Str)) = false := by decide
theorem dc_NoneClaims : (("NoneClaims" : Str) == ("__classdict__" : Str)) = false := by decide
theorem nn_NoneClaims : ("NoneClaims" : Str) ≠ "__name__" := by decide
theorem dn_TwoClaim : (("TwoClaim" : Str) == ("__debug__" : Str)) = false := by decide
theorem dc_TwoClaim : (("TwoClaim" : Str) == ("__classdict__" : Str)) = false := by decide
theorem nn_TwoClaim : ("TwoClaim" : Str) ≠ "__name__" := by decide
theorem dn_NoRule : (("NoRule" : Str) == ("__debug__" : Str)) = false := by decide
theorem dc_NoRule : (("NoRule" : Str) == ("__classdict__" : Str)) = false := by decide
theorem nn_NoRule : ("NoRule" : Str) ≠ "__name__" := by decide
theorem dn_NoLot : (("NoLot" : Str) == ("__debug__" : Str)) = false := by decide
theorem dc_NoLot : (("NoLot" : Str) == ("__classdict__" : Str)) = false := by decide
theorem nn_NoLot : ("NoLot" : Str) ≠ "__name__" := by decide
theorem dn_NoQuota : (("NoQuota" : Str) == ("__debug__" : Str)) = false := by decide
theorem dc_NoQuota : (("NoQuota" : Str) == ("__classdict__" : Str)) = false := by decide
theorem nn_NoQuota : ("NoQuota" : Str) ≠ "__name__" := by decide
theorem dn_NoRate : (("NoRate" : Str) == ("__debug__" : Str)) = false := by decide
theorem dc_NoRate : (("NoRate" : Str) == ("__classdict__" : Str)) = false := by decide
theorem nn_NoRate : ("NoRate" : Str) ≠ "__name__" := by decide
theorem dn_NoEntry : (("NoEntry" : Str) == ("__debug__" : Str)) = false := by decide
theorem dc_NoEntry : (("NoEntry" : Str) == ("__classdict__" : Str)) = false := by decide
theorem nn_NoEntry : ("NoEntry" : Str) ≠ "__name__" := by decide
theorem dn_NoDeed : (("NoDeed" : Str) == ("__debug__" : Str)) = false := by decide
theorem dc_NoDeed : (("NoDeed" : Str) == ("__classdict__" : Str)) = false := by decide
theorem nn_NoDeed : ("NoDeed" : Str) ≠ "__name__" := by decide
theorem dn_NoRow : (("NoRow" : Str) == ("__debug__" : Str)) = false := by decide
theorem dc_NoRow : (("NoRow" : Str) == ("__classdict__" : Str)) = false := by decide
theorem nn_NoRow : ("NoRow" : Str) ≠ "__name__" := by decide
theorem dn_note_of : (("note_of" : Str) == ("__debug__" : Str)) = false := by decide
theorem dc_note_of : (("note_of" : Str) == ("__classdict__" : Str)) = false := by decide
theorem nn_note_of : ("note_of" : Str) ≠ "__name__" := by decide
theorem dn_TariffError : (("TariffError" : Str) == ("__debug__" : Str)) = false := by decide
theorem dc_TariffError : (("TariffError" : Str) == ("__classdict__" : Str)) = false := by decide
theorem nn_TariffError : ("TariffError" : Str) ≠ "__name__" := by decide
theorem dn_ValueError : (("ValueError" : Str) == ("__debug__" : Str)) = false := by decide
theorem dc_ValueError : (("ValueError" : Str) == ("__classdict__" : Str)) = false := by decide
theorem nn_ValueError : ("ValueError" : Str) ≠ "__name__" := by decide
theorem dn__law_other : (("_law_other" : Str) == ("__debug__" : Str)) = false := by decide
theorem dc__law_other : (("_law_other" : Str) == ("__classdict__" : Str)) = false := by decide
theorem nn__law_other : ("_law_other" : Str) ≠ "__name__" := by decide
theorem dn__law_words : (("_law_words" : Str) == ("__debug__" : Str)) = false := by decide
theorem dc__law_words : (("_law_words" : Str) == ("__classdict__" : Str)) = false := by decide
theorem nn__law_words : ("_law_words" : Str) ≠ "__name__" := by decide
theorem dn__law_kinds : (("_law_kinds" : Str) == ("__debug__" : Str)) = false := by decide
theorem dc__law_kinds : (("_law_kinds" : Str) == ("__classdict__" : Str)) = false := by decide
theorem nn__law_kinds : ("_law_kinds" : Str) ≠ "__name__" := by decide
theorem dn__law_spoilt_here : (("_law_spoilt_here" : Str) == ("__debug__" : Str)) = false := by decide
theorem dc__law_spoilt_here : (("_law_spoilt_here" : Str) == ("__classdict__" : Str)) = false := by decide
theorem nn__law_spoilt_here : ("_law_spoilt_here" : Str) ≠ "__name__" := by decide
theorem dn__law_cell : (("_law_cell" : Str) == ("__debug__" : Str)) = false := by decide
theorem dc__law_cell : (("_law_cell" : Str) == ("__classdict__" : Str)) = false := by decide
theorem nn__law_cell : ("_law_cell" : Str) ≠ "__name__" := by decide
theorem dn_max : (("max" : Str) == ("__debug__" : Str)) = false := by decide
theorem dc_max : (("max" : Str) == ("__classdict__" : Str)) = false := by decide
theorem nn_max : ("max" : Str) ≠ "__name__" := by decide
theorem dn__law_bad : (("_law_bad" : Str) == ("__debug__" : Str)) = false := by decide
theorem dc__law_bad : (("_law_bad" : Str) == ("__classdict__" : Str)) = false := by decide
theorem nn__law_bad : ("_law_bad" : Str) ≠ "__name__" := by decide
theorem dn_min : (("min" : Str) == ("__debug__" : Str)) = false := by decide
theorem dc_min : (("min" : Str) == ("__classdict__" : Str)) = false := by decide
theorem nn_min : ("min" : Str) ≠ "__name__" := by decide
theorem dn__law_deeper : (("_law_deeper" : Str) == ("__debug__" : Str)) = false := by decide
theorem dc__law_deeper : (("_law_deeper" : Str) == ("__classdict__" : Str)) = false := by decide
theorem nn__law_deeper : ("_law_deeper" : Str) ≠ "__name__" := by decide
theorem dn__law_refused : (("_law_refused" : Str) == ("__debug__" : Str)) = false := by decide
theorem dc__law_refused : (("_law_refused" : Str) == ("__classdict__" : Str)) = false := by decide
theorem nn__law_refused : ("_law_refused" : Str) ≠ "__name__" := by decide
theorem dn__law_refused_by_base : (("_law_refused_by_base" : Str) == ("__debug__" : Str)) = false := by decide
theorem dc__law_refused_by_base : (("_law_refused_by_base" : Str) == ("__classdict__" : Str)) = false := by decide
theorem nn__law_refused_by_base : ("_law_refused_by_base" : Str) ≠ "__name__" := by decide
abbrev s_is_name : Stmt := top 19
theorem sc_is_name : FnScope ["thing"] ["thing"] (defScope s_is_name) := ⟨rfl, rfl, rfl, by decide +kernel, rfl, by decide +kernel, by decide +kernel⟩
theorem v_is_name_0 : Vis (defScope s_is_name) "thing" := by first | exact Or.inl rfl | exact Or.inr (Or.inl rfl) | exact Or.inr (Or.inr rfl)
theorem l_is_name_0 : Loc (defScope s_is_name) "thing" := by first | exact Or.inl rfl | exact Or.inr rfl
theorem g_is_name_isinstance : (defScope s_is_name).names.lookup ("isinstance" : Str) = some .globalImplicit := by rfl
theorem g_is_name_str : (defScope s_is_name).names.lookup ("str" : Str) = some .globalImplicit := by rfl
theorem g_is_name_len : (defScope s_is_name).names.lookup ("len" : Str) = some .globalImplicit := by rfl
theorem g_is_name_all : (defScope s_is_name).names.lookup ("all" : Str) = some .globalImplicit := by rfl
abbrev s_is_kind : Stmt := top 21
theorem sc_is_kind : FnScope ["thing"] ["thing"] (defScope s_is_kind) := ⟨rfl, rfl, rfl, by decide +kernel, rfl, by decide +kernel, by decide +kernel⟩
theorem v_is_kind_0 : Vis (defScope s_is_kind) "thing" := by first | exact Or.inl rfl | exact Or.inr (Or.inl rfl) | exact Or.inr (Or.inr rfl)
theorem l_is_kind_0 : Loc (defScope s_is_kind) "thing" := by first | exact Or.inl rfl | exact Or.inr rfl
theorem g_is_kind_isinstance : (defScope s_is_kind).names.lookup ("isinstance" : Str) = some .globalImplicit := by rfl
theorem g_is_kind_tuple : (defScope s_is_kind).names.lookup ("tuple" : Str) = some .globalImplicit := by rfl
theorem g_is_kind_len : (defScope s_is_kind).names.lookup ("len" : Str) = some .globalImplicit := by rfl
theorem g_is_kind_is_name : (defScope s_is_kind).names.lookup ("is_name" : Str) = some .globalImplicit := by rfl
abbrev s_law_cell : Stmt := top 45
theorem sc_law_cell : FnScope ["_law_script", "_law_k", "_law_number"] ["_law_script", "_law_k"] (defScope s_law_cell) := ⟨rfl, rfl, rfl, by decide +kernel, rfl, by decide +kernel, by decide +kernel⟩
theorem v_law_cell_0 : Vis (defScope s_law_cell) "_law_script" := by first | exact Or.inl rfl | exact Or.inr (Or.inl rfl) | exact Or.inr (Or.inr rfl)
theorem l_law_cell_0 : Loc (defScope s_law_cell) "_law_script" := by first | exact Or.inl rfl | exact Or.inr rfl
theorem v_law_cell_1 : Vis (defScope s_law_cell) "_law_k" := by first | exact Or.inl rfl | exact Or.inr (Or.inl rfl) | exact Or.inr (Or.inr rfl)
theorem l_law_cell_1 : Loc (defScope s_law_cell) "_law_k" := by first | exact Or.inl rfl | exact Or.inr rfl
theorem v_law_cell_2 : Vis (defScope s_law_cell) "_law_number" := by first | exact Or.inl rfl | exact Or.inr (Or.inl rfl) | exact Or.inr (Or.inr rfl)
theorem l_law_cell_2 : Loc (defScope s_law_cell) "_law_number" := by first | exact Or.inl rfl | exact Or.inr rfl
theorem g_law_cell_len : (defScope s_law_cell).names.lookup ("len" : Str) = some .globalImplicit := by rfl
abbrev s_law_mix : Stmt := top 46
theorem sc_law_mix : FnScope ["_law_number", "_law_k", "_law_many"] ["_law_number", "_law_k", "_law_many"] (defScope s_law_mix) := ⟨rfl, rfl, rfl, by decide +kernel, rfl, by decide +kernel, by decide +kernel⟩
theorem v_law_mix_0 : Vis (defScope s_law_mix) "_law_number" := by first | exact Or.inl rfl | exact Or.inr (Or.inl rfl) | exact Or.inr (Or.inr rfl)
theorem l_law_mix_0 : Loc (defScope s_law_mix) "_law_number" := by first | exact Or.inl rfl | exact Or.inr rfl
theorem v_law_mix_1 : Vis (defScope s_law_mix) "_law_k" := by first | exact Or.inl rfl | exact Or.inr (Or.inl rfl) | exact Or.inr (Or.inr rfl)
theorem l_law_mix_1 : Loc (defScope s_law_mix) "_law_k" := by first | exact Or.inl rfl | exact Or.inr rfl
theorem v_law_mix_2 : Vis (defScope s_law_mix) "_law_many" := by first | exact Or.inl rfl | exact Or.inr (Or.inl rfl) | exact Or.inr (Or.inr rfl)
theorem l_law_mix_2 : Loc (defScope s_law_mix) "_law_many" := by first | exact Or.inl rfl | exact Or.inr rfl
abbrev s_law_words : Stmt := top 47
theorem sc_law_words : FnScope ["_law_cell_here", "_law_many", "_law_letters", "_law_base", "_law_size", "_law_at", "_law_words_here", "_law_k", "_law_word", "_law_j"] ["_law_cell_here", "_law_many"] (defScope s_law_words) := ⟨rfl, rfl, rfl, by decide +kernel, rfl, by decide +kernel, by decide +kernel⟩
theorem v_law_words_0 : Vis (defScope s_law_words) "_law_cell_here" := by first | exact Or.inl rfl | exact Or.inr (Or.inl rfl) | exact Or.inr (Or.inr rfl)
theorem l_law_words_0 : Loc (defScope s_law_words) "_law_cell_here" := by first | exact Or.inl rfl | exact Or.inr rfl
theorem v_law_words_1 : Vis (defScope s_law_words) "_law_many" := by first | exact Or.inl rfl | exact Or.inr (Or.inl rfl) | exact Or.inr (Or.inr rfl)
theorem l_law_words_1 : Loc (defScope s_law_words) "_law_many" := by first | exact Or.inl rfl | exact Or.inr rfl
theorem v_law_words_2 : Vis (defScope s_law_words) "_law_letters" := by first | exact Or.inl rfl | exact Or.inr (Or.inl rfl) | exact Or.inr (Or.inr rfl)
theorem l_law_words_2 : Loc (defScope s_law_words) "_law_letters" := by first | exact Or.inl rfl | exact Or.inr rfl
theorem v_law_words_3 : Vis (defScope s_law_words) "_law_base" := by first | exact Or.inl rfl | exact Or.inr (Or.inl rfl) | exact Or.inr (Or.inr rfl)
theorem l_law_words_3 : Loc (defScope s_law_words) "_law_base" := by first | exact Or.inl rfl | exact Or.inr rfl
theorem v_law_words_4 : Vis (defScope s_law_words) "_law_size" := by first | exact Or.inl rfl | exact Or.inr (Or.inl rfl) | exact Or.inr (Or.inr rfl)
theorem l_law_words_4 : Loc (defScope s_law_words) "_law_size" := by first | exact Or.inl rfl | exact Or.inr rfl
theorem v_law_words_5 : Vis (defScope s_law_words) "_law_at" := by first | exact Or.inl rfl | exact Or.inr (Or.inl rfl) | exact Or.inr (Or.inr rfl)
theorem l_law_words_5 : Loc (defScope s_law_words) "_law_at" := by first | exact Or.inl rfl | exact Or.inr rfl
theorem v_law_words_6 : Vis (defScope s_law_words) "_law_words_here" := by first | exact Or.inl rfl | exact Or.inr (Or.inl rfl) | exact Or.inr (Or.inr rfl)
theorem l_law_words_6 : Loc (defScope s_law_words) "_law_words_here" := by first | exact Or.inl rfl | exact Or.inr rfl
theorem v_law_words_7 : Vis (defScope s_law_words) "_law_k" := by first | exact Or.inl rfl | exact Or.inr (Or.inl rfl) | exact Or.inr (Or.inr rfl)
theorem l_law_words_7 : Loc (defScope s_law_words) "_law_k" := by first | exact Or.inl rfl | exact Or.inr rfl
theorem v_law_words_8 : Vis (defScope s_law_words) "_law_word" := by first | exact Or.inl rfl | exact Or.inr (Or.inl rfl) | exact Or.inr (Or.inr rfl)
theorem l_law_words_8 : Loc (defScope s_law_words) "_law_word" := by first | exact Or.inl rfl | exact Or.inr rfl
theorem v_law_words_9 : Vis (defScope s_law_words) "_law_j" := by first | exact Or.inl rfl | exact Or.inr (Or.inl rfl) | exact Or.inr (Or.inr rfl)
theorem l_law_words_9 : Loc (defScope s_law_words) "_law_j" := by first | exact Or.inl rfl | exact Or.inr rfl
theorem g_law_words_range : (defScope s_law_words).names.lookup ("range" : Str) = some .globalImplicit := by rfl
theorem g_law_words_int : (defScope s_law_words).names.lookup ("int" : Str) = some .globalImplicit := by rfl
abbrev s_law_kinds : Stmt := top 48
theorem sc_law_kinds : FnScope ["_law_cell_here", "_law_words_here", "_law_many", "_law_step", "_law_shift", "_law_kinds_here", "_law_k", "_law_place"] ["_law_cell_here", "_law_words_here"] (defScope s_law_kinds) := ⟨rfl, rfl, rfl, by decide +kernel, rfl, by decide +kernel, by decide +kernel⟩
theorem v_law_kinds_0 : Vis (defScope s_law_kinds) "_law_cell_here" := by first | exact Or.inl rfl | exact Or.inr (Or.inl rfl) | exact Or.inr (Or.inr rfl)
theorem l_law_kinds_0 : Loc (defScope s_law_kinds) "_law_cell_here" := by first | exact Or.inl rfl | exact Or.inr rfl
theorem v_law_kinds_1 : Vis (defScope s_law_kinds) "_law_words_here" := by first | exact Or.inl rfl | exact Or.inr (Or.inl rfl) | exact Or.inr (Or.inr rfl)
theorem l_law_kinds_1 : Loc (defScope s_law_kinds) "_law_words_here" := by first | exact Or.inl rfl | exact Or.inr rfl
theorem v_law_kinds_2 : Vis (defScope s_law_kinds) "_law_many" := by first | exact Or.inl rfl | exact Or.inr (Or.inl rfl) | exact Or.inr (Or.inr rfl)
theorem l_law_kinds_2 : Loc (defScope s_law_kinds) "_law_many" := by first | exact Or.inl rfl | exact Or.inr rfl
theorem v_law_kinds_3 : Vis (defScope s_law_kinds) "_law_step" := by first | exact Or.inl rfl | exact Or.inr (Or.inl rfl) | exact Or.inr (Or.inr rfl)
theorem l_law_kinds_3 : Loc (defScope s_law_kinds) "_law_step" := by first | exact Or.inl rfl | exact Or.inr rfl
theorem v_law_kinds_4 : Vis (defScope s_law_kinds) "_law_shift" := by first | exact Or.inl rfl | exact Or.inr (Or.inl rfl) | exact Or.inr (Or.inr rfl)
theorem l_law_kinds_4 : Loc (defScope s_law_kinds) "_law_shift" := by first | exact Or.inl rfl | exact Or.inr rfl
theorem v_law_kinds_5 : Vis (defScope s_law_kinds) "_law_kinds_here" := by first | exact Or.inl rfl | exact Or.inr (Or.inl rfl) | exact Or.inr (Or.inr rfl)
theorem l_law_kinds_5 : Loc (defScope s_law_kinds) "_law_kinds_here" := by first | exact Or.inl rfl | exact Or.inr rfl
theorem v_law_kinds_6 : Vis (defScope s_law_kinds) "_law_k" := by first | exact Or.inl rfl | exact Or.inr (Or.inl rfl) | exact Or.inr (Or.inr rfl)
theorem l_law_kinds_6 : Loc (defScope s_law_kinds) "_law_k" := by first | exact Or.inl rfl | exact Or.inr rfl
theorem v_law_kinds_7 : Vis (defScope s_law_kinds) "_law_place" := by first | exact Or.inl rfl | exact Or.inr (Or.inl rfl) | exact Or.inr (Or.inr rfl)
theorem l_law_kinds_7 : Loc (defScope s_law_kinds) "_law_place" := by first | exact Or.inl rfl | exact Or.inr rfl
theorem g_law_kinds_range : (defScope s_law_kinds).names.lookup ("range" : Str) = some .globalImplicit := by rfl
abbrev s_law_plain : Stmt := top 50
theorem sc_law_plain : FnScope ["_law_number", "_law_kinds_here", "_law_words_here", "_law_way", "_law_name", "_law_some", "_law_one"] ["_law_number", "_law_kinds_here", "_law_words_here"] (defScope s_law_plain) := ⟨rfl, rfl, rfl, by decide +kernel, rfl, by decide +kernel, by decide +kernel⟩
theorem v_law_plain_0 : Vis (defScope s_law_plain) "_law_number" := by first | exact Or.inl rfl | exact Or.inr (Or.inl rfl) | exact Or.inr (Or.inr rfl)
theorem l_law_plain_0 : Loc (defScope s_law_plain) "_law_number" := by first | exact Or.inl rfl | exact Or.inr rfl
theorem v_law_plain_1 : Vis (defScope s_law_plain) "_law_kinds_here" := by first | exact Or.inl rfl | exact Or.inr (Or.inl rfl) | exact Or.inr (Or.inr rfl)
theorem l_law_plain_1 : Loc (defScope s_law_plain) "_law_kinds_here" := by first | exact Or.inl rfl | exact Or.inr rfl
theorem v_law_plain_2 : Vis (defScope s_law_plain) "_law_words_here" := by first | exact Or.inl rfl | exact Or.inr (Or.inl rfl) | exact Or.inr (Or.inr rfl)
theorem l_law_plain_2 : Loc (defScope s_law_plain) "_law_words_here" := by first | exact Or.inl rfl | exact Or.inr rfl
theorem v_law_plain_3 : Vis (defScope s_law_plain) "_law_way" := by first | exact Or.inl rfl | exact Or.inr (Or.inl rfl) | exact Or.inr (Or.inr rfl)
theorem l_law_plain_3 : Loc (defScope s_law_plain) "_law_way" := by first | exact Or.inl rfl | exact Or.inr rfl
theorem v_law_plain_4 : Vis (defScope s_law_plain) "_law_name" := by first | exact Or.inl rfl | exact Or.inr (Or.inl rfl) | exact Or.inr (Or.inr rfl)
theorem l_law_plain_4 : Loc (defScope s_law_plain) "_law_name" := by first | exact Or.inl rfl | exact Or.inr rfl
theorem v_law_plain_5 : Vis (defScope s_law_plain) "_law_some" := by first | exact Or.inl rfl | exact Or.inr (Or.inl rfl) | exact Or.inr (Or.inr rfl)
theorem l_law_plain_5 : Loc (defScope s_law_plain) "_law_some" := by first | exact Or.inl rfl | exact Or.inr rfl
theorem v_law_plain_6 : Vis (defScope s_law_plain) "_law_one" := by first | exact Or.inl rfl | exact Or.inr (Or.inl rfl) | exact Or.inr (Or.inr rfl)
theorem l_law_plain_6 : Loc (defScope s_law_plain) "_law_one" := by first | exact Or.inl rfl | exact Or.inr rfl
theorem g_law_plain__law_mix : (defScope s_law_plain).names.lookup ("_law_mix" : Str) = some .globalImplicit := by rfl
theorem g_law_plain_len : (defScope s_law_plain).names.lookup ("len" : Str) = some .globalImplicit := by rfl
abbrev s_law_note : Stmt := top 51
theorem sc_law_note : FnScope ["_law_number", "_law_deep", "_law_kinds_here", "_law_words_here", "_law_one", "_law_other_here"] ["_law_number", "_law_deep", "_law_kinds_here", "_law_words_here"] (defScope s_law_note) := ⟨rfl, rfl, rfl, by decide +kernel, rfl, by decide +kernel, by decide +kernel⟩
theorem v_law_note_0 : Vis (defScope s_law_note) "_law_number" := by first | exact Or.inl rfl | exact Or.inr (Or.inl rfl) | exact Or.inr (Or.inr rfl)
theorem l_law_note_0 : Loc (defScope s_law_note) "_law_number" := by first | exact Or.inl rfl | exact Or.inr rfl
theorem v_law_note_1 : Vis (defScope s_law_note) "_law_deep" := by first | exact Or.inl rfl | exact Or.inr (Or.inl rfl) | exact Or.inr (Or.inr rfl)
theorem l_law_note_1 : Loc (defScope s_law_note) "_law_deep" := by first | exact Or.inl rfl | exact Or.inr rfl
theorem v_law_note_2 : Vis (defScope s_law_note) "_law_kinds_here" := by first | exact Or.inl rfl | exact Or.inr (Or.inl rfl) | exact Or.inr (Or.inr rfl)
theorem l_law_note_2 : Loc (defScope s_law_note) "_law_kinds_here" := by first | exact Or.inl rfl | exact Or.inr rfl
theorem v_law_note_3 : Vis (defScope s_law_note) "_law_words_here" := by first | exact Or.inl rfl | exact Or.inr (Or.inl rfl) | exact Or.inr (Or.inr rfl)
theorem l_law_note_3 : Loc (defScope s_law_note) "_law_words_here" := by first | exact Or.inl rfl | exact Or.inr rfl
theorem v_law_note_4 : Vis (defScope s_law_note) "_law_one" := by first | exact Or.inl rfl | exact Or.inr (Or.inl rfl) | exact Or.inr (Or.inr rfl)
theorem l_law_note_4 : Loc (defScope s_law_note) "_law_one" := by first | exact Or.inl rfl | exact Or.inr rfl
theorem v_law_note_5 : Vis (defScope s_law_note) "_law_other_here" := by first | exact Or.inl rfl | exact Or.inr (Or.inl rfl) | exact Or.inr (Or.inr rfl)
theorem l_law_note_5 : Loc (defScope s_law_note) "_law_other_here" := by first | exact Or.inl rfl | exact Or.inr rfl
theorem g_law_note__law_mix : (defScope s_law_note).names.lookup ("_law_mix" : Str) = some .globalImplicit := by rfl
theorem g_law_note__law_plain : (defScope s_law_note).names.lookup ("_law_plain" : Str) = some .globalImplicit := by rfl
theorem g_law_note__law_note : (defScope s_law_note).names.lookup ("_law_note" : Str) = some .globalImplicit := by rfl
abbrev s_Made_init : Stmt := inner (top 31) 0
theorem sc_Made_init : FnScope ["self", "stuff"] ["self", "stuff"] (defScope s_Made_init) := ⟨rfl, rfl, rfl, by decide +kernel, rfl, by decide +kernel, by decide +kernel⟩
theorem v_Made_init_0 : Vis (defScope s_Made_init) "self" := by first | exact Or.inl rfl | exact Or.inr (Or.inl rfl) | exact Or.inr (Or.inr rfl)
theorem l_Made_init_0 : Loc (defScope s_Made_init) "self" := by first | exact Or.inl rfl | exact Or.inr rfl
theorem v_Made_init_1 : Vis (defScope s_Made_init) "stuff" := by first | exact Or.inl rfl | exact Or.inr (Or.inl rfl) | exact Or.inr (Or.inr rfl)
theorem l_Made_init_1 : Loc (defScope s_Made_init) "stuff" := by first | exact Or.inl rfl | exact Or.inr rfl
abbrev s_Used_init : Stmt := inner (top 32) 0
theorem sc_Used_init : FnScope ["self", "use"] ["self", "use"] (defScope s_Used_init) := ⟨rfl, rfl, rfl, by decide +kernel, rfl, by decide +kernel, by decide +kernel⟩
theorem v_Used_init_0 : Vis (defScope s_Used_init) "self" := by first | exact Or.inl rfl | exact Or.inr (Or.inl rfl) | exact Or.inr (Or.inr rfl)
theorem l_Used_init_0 : Loc (defScope s_Used_init) "self" := by first | exact Or.inl rfl | exact Or.inr rfl
theorem v_Used_init_1 : Vis (defScope s_Used_init) "use" := by first | exact Or.inl rfl | exact Or.inr (Or.inl rfl) | exact Or.inr (Or.inr rfl)
theorem l_Used_init_1 : Loc (defScope s_Used_init) "use" := by first | exact Or.inl rfl | exact Or.inr rfl
abbrev s_Chief_init : Stmt := inner (top 33) 0
theorem sc_Chief_init : FnScope ["self", "stuff"] ["self", "stuff"] (defScope s_Chief_init) := ⟨rfl, rfl, rfl, by decide +kernel, rfl, by decide +kernel, by decide +kernel⟩
theorem v_Chief_init_0 : Vis (defScope s_Chief_init) "self" := by first | exact Or.inl rfl | exact Or.inr (Or.inl rfl) | exact Or.inr (Or.inr rfl)
theorem l_Chief_init_0 : Loc (defScope s_Chief_init) "self" := by first | exact Or.inl rfl | exact Or.inr rfl
theorem v_Chief_init_1 : Vis (defScope s_Chief_init) "stuff" := by first | exact Or.inl rfl | exact Or.inr (Or.inl rfl) | exact Or.inr (Or.inr rfl)
theorem l_Chief_init_1 : Loc (defScope s_Chief_init) "stuff" := by first | exact Or.inl rfl | exact Or.inr rfl
abbrev s_Over_init : Stmt := inner (top 34) 0
theorem sc_Over_init : FnScope ["self", "one", "other"] ["self", "one", "other"] (defScope s_Over_init) := ⟨rfl, rfl, rfl, by decide +kernel, rfl, by decide +kernel, by decide +kernel⟩
theorem v_Over_init_0 : Vis (defScope s_Over_init) "self" := by first | exact Or.inl rfl | exact Or.inr (Or.inl rfl) | exact Or.inr (Or.inr rfl)
theorem l_Over_init_0 : Loc (defScope s_Over_init) "self" := by first | exact Or.inl rfl | exact Or.inr rfl
theorem v_Over_init_1 : Vis (defScope s_Over_init) "one" := by first | exact Or.inl rfl | exact Or.inr (Or.inl rfl) | exact Or.inr (Or.inr rfl)
theorem l_Over_init_1 : Loc (defScope s_Over_init) "one" := by first | exact Or.inl rfl | exact Or.inr rfl
theorem v_Over_init_2 : Vis (defScope s_Over_init) "other" := by first | exact Or.inl rfl | exact Or.inr (Or.inl rfl) | exact Or.inr (Or.inr rfl)
theorem l_Over_init_2 : Loc (defScope s_Over_init) "other" := by first | exact Or.inl rfl | exact Or.inr rfl
abbrev s_OfTwo_init : Stmt := inner (top 35) 0
theorem sc_OfTwo_init : FnScope ["self", "one", "other"] ["self", "one", "other"] (defScope s_OfTwo_init) := ⟨rfl, rfl, rfl, by decide +kernel, rfl, by decide +kernel, by decide +kernel⟩
theorem v_OfTwo_init_0 : Vis (defScope s_OfTwo_init) "self" := by first | exact Or.inl rfl | exact Or.inr (Or.inl rfl) | exact Or.inr (Or.inr rfl)
theorem l_OfTwo_init_0 : Loc (defScope s_OfTwo_init) "self" := by first | exact Or.inl rfl | exact Or.inr rfl
theorem v_OfTwo_init_1 : Vis (defScope s_OfTwo_init) "one" := by first | exact Or.inl rfl | exact Or.inr (Or.inl rfl) | exact Or.inr (Or.inr rfl)
theorem l_OfTwo_init_1 : Loc (defScope s_OfTwo_init) "one" := by first | exact Or.inl rfl | exact Or.inr rfl
theorem v_OfTwo_init_2 : Vis (defScope s_OfTwo_init) "other" := by first | exact Or.inl rfl | exact Or.inr (Or.inl rfl) | exact Or.inr (Or.inr rfl)
theorem l_OfTwo_init_2 : Loc (defScope s_OfTwo_init) "other" := by first | exact Or.inl rfl | exact Or.inr rfl
abbrev s_note_of_name : Stmt := top 39
theorem sc_note_of_name : FnScope ["word", "name"] ["word", "name"] (defScope s_note_of_name) := ⟨rfl, rfl, rfl, by decide +kernel, rfl, by decide +kernel, by decide +kernel⟩
theorem v_note_of_name_0 : Vis (defScope s_note_of_name) "word" := by first | exact Or.inl rfl | exact Or.inr (Or.inl rfl) | exact Or.inr (Or.inr rfl)
theorem l_note_of_name_0 : Loc (defScope s_note_of_name) "word" := by first | exact Or.inl rfl | exact Or.inr rfl
theorem v_note_of_name_1 : Vis (defScope s_note_of_name) "name" := by first | exact Or.inl rfl | exact Or.inr (Or.inl rfl) | exact Or.inr (Or.inr rfl)
theorem l_note_of_name_1 : Loc (defScope s_note_of_name) "name" := by first | exact Or.inl rfl | exact Or.inr rfl
theorem g_note_of_name_Made : (defScope s_note_of_name).names.lookup ("Made" : Str) = some .globalImplicit := by rfl
theorem g_note_of_name_Used : (defScope s_note_of_name).names.lookup ("Used" : Str) = some .globalImplicit := by rfl
theorem g_note_of_name_Chief : (defScope s_note_of_name).names.lookup ("Chief" : Str) = some .globalImplicit := by rfl
theorem g_note_of_name_NoNote : (defScope s_note_of_name).names.lookup ("NoNote" : Str) = some .globalImplicit := by rfl
abbrev s_note_of_notes : Stmt := top 40
theorem sc_note_of_notes : FnScope ["word", "one", "other"] ["word", "one", "other"] (defScope s_note_of_notes) := ⟨rfl, rfl, rfl, by decide +kernel, rfl, by decide +kernel, by decide +kernel⟩
theorem v_note_of_notes_0 : Vis (defScope s_note_of_notes) "word" := by first | exact Or.inl rfl | exact Or.inr (Or.inl rfl) | exact Or.inr (Or.inr rfl)
theorem l_note_of_notes_0 : Loc (defScope s_note_of_notes) "word" := by first | exact Or.inl rfl | exact Or.inr rfl
theorem v_note_of_notes_1 : Vis (defScope s_note_of_notes) "one" := by first | exact Or.inl rfl | exact Or.inr (Or.inl rfl) | exact Or.inr (Or.inr rfl)
theorem l_note_of_notes_1 : Loc (defScope s_note_of_notes) "one" := by first | exact Or.inl rfl | exact Or.inr rfl
theorem v_note_of_notes_2 : Vis (defScope s_note_of_notes) "other" := by first | exact Or.inl rfl | exact Or.inr (Or.inl rfl) | exact Or.inr (Or.inr rfl)
theorem l_note_of_notes_2 : Loc (defScope s_note_of_notes) "other" := by first | exact Or.inl rfl | exact Or.inr rfl
theorem g_note_of_notes_Both : (defScope s_note_of_notes).names.lookup ("Both" : Str) = some .globalImplicit := by rfl
theorem g_note_of_notes_Either : (defScope s_note_of_notes).names.lookup ("Either" : Str) = some .globalImplicit := by rfl
theorem g_note_of_notes_But : (defScope s_note_of_notes).names.lookup ("But" : Str) = some .globalImplicit := by rfl
abbrev s_note_of_one : Stmt := top 41
theorem sc_note_of_one : FnScope ["told"] ["told"] (defScope s_note_of_one) := ⟨rfl, rfl, rfl, by decide +kernel, rfl, by decide +kernel, by decide +kernel⟩
theorem v_note_of_one_0 : Vis (defScope s_note_of_one) "told" := by first | exact Or.inl rfl | exact Or.inr (Or.inl rfl) | exact Or.inr (Or.inr rfl)
theorem l_note_of_one_0 : Loc (defScope s_note_of_one) "told" := by first | exact Or.inl rfl | exact Or.inr rfl
theorem g_note_of_one_len : (defScope s_note_of_one).names.lookup ("len" : Str) = some .globalImplicit := by rfl
theorem g_note_of_one_Anything : (defScope s_note_of_one).names.lookup ("Anything" : Str) = some .globalImplicit := by rfl
theorem g_note_of_one_is_name : (defScope s_note_of_one).names.lookup ("is_name" : Str) = some .globalImplicit := by rfl
theorem g_note_of_one_note_of_name : (defScope s_note_of_one).names.lookup ("note_of_name" : Str) = some .globalImplicit := by rfl
theorem g_note_of_one_is_kind : (defScope s_note_of_one).names.lookup ("is_kind" : Str) = some .globalImplicit := by rfl
theorem g_note_of_one_Over : (defScope s_note_of_one).names.lookup ("Over" : Str) = some .globalImplicit := by rfl
theorem g_note_of_one_NoNote : (defScope s_note_of_one).names.lookup ("NoNote" : Str) = some .globalImplicit := by rfl
abbrev s_note_within : Stmt := top 42
theorem sc_note_within : FnScope ["left", "told", "one", "other"] ["left", "told"] (defScope s_note_within) := ⟨rfl, rfl, rfl, by decide +kernel, rfl, by decide +kernel, by decide +kernel⟩
theorem v_note_within_0 : Vis (defScope s_note_within) "left" := by first | exact Or.inl rfl | exact Or.inr (Or.inl rfl) | exact Or.inr (Or.inr rfl)
theorem l_note_within_0 : Loc (defScope s_note_within) "left" := by first | exact Or.inl rfl | exact Or.inr rfl
theorem v_note_within_1 : Vis (defScope s_note_within) "told" := by first | exact Or.inl rfl | exact Or.inr (Or.inl rfl) | exact Or.inr (Or.inr rfl)
theorem l_note_within_1 : Loc (defScope s_note_within) "told" := by first | exact Or.inl rfl | exact Or.inr rfl
theorem v_note_within_2 : Vis (defScope s_note_within) "one" := by first | exact Or.inl rfl | exact Or.inr (Or.inl rfl) | exact Or.inr (Or.inr rfl)
theorem l_note_within_2 : Loc (defScope s_note_within) "one" := by first | exact Or.inl rfl | exact Or.inr rfl
theorem v_note_within_3 : Vis (defScope s_note_within) "other" := by first | exact Or.inl rfl | exact Or.inr (Or.inl rfl) | exact Or.inr (Or.inr rfl)
theorem l_note_within_3 : Loc (defScope s_note_within) "other" := by first | exact Or.inl rfl | exact Or.inr rfl
theorem g_note_within_NoNote : (defScope s_note_within).names.lookup ("NoNote" : Str) = some .globalImplicit := by rfl
theorem g_note_within_isinstance : (defScope s_note_within).names.lookup ("isinstance" : Str) = some .globalImplicit := by rfl
theorem g_note_within_tuple : (defScope s_note_within).names.lookup ("tuple" : Str) = some .globalImplicit := by rfl
theorem g_note_within_len : (defScope s_note_within).names.lookup ("len" : Str) = some .globalImplicit := by rfl
theorem g_note_within_str : (defScope s_note_within).names.lookup ("str" : Str) = some .globalImplicit := by rfl
theorem g_note_within_note_within : (defScope s_note_within).names.lookup ("note_within" : Str) = some .globalImplicit := by rfl
theorem g_note_within_note_of_notes : (defScope s_note_within).names.lookup ("note_of_notes" : Str) = some .globalImplicit := by rfl
theorem g_note_within_note_of_one : (defScope s_note_within).names.lookup ("note_of_one" : Str) = some .globalImplicit := by rfl
abbrev s_note_of : Stmt := top 43
theorem sc_note_of : FnScope ["told"] ["told"] (defScope s_note_of) := ⟨rfl, rfl, rfl, by decide +kernel, rfl, by decide +kernel, by decide +kernel⟩
theorem v_note_of_0 : Vis (defScope s_note_of) "told" := by first | exact Or.inl rfl | exact Or.inr (Or.inl rfl) | exact Or.inr (Or.inr rfl)
theorem l_note_of_0 : Loc (defScope s_note_of) "told" := by first | exact Or.inl rfl | exact Or.inr rfl
theorem g_note_of_note_within : (defScope s_note_of).names.lookup ("note_within" : Str) = some .globalImplicit := by rfl
abbrev s_Anything_told : Stmt := inner (top 30) 0
theorem sc_Anything_told : FnScope ["self"] ["self"] (defScope s_Anything_told) := ⟨rfl, rfl, rfl, by decide +kernel, rfl, by decide +kernel, by decide +kernel⟩
theorem v_Anything_told_0 : Vis (defScope s_Anything_told) "self" := by first | exact Or.inl rfl | exact Or.inr (Or.inl rfl) | exact Or.inr (Or.inr rfl)
theorem l_Anything_told_0 : Loc (defScope s_Anything_told) "self" := by first | exact Or.inl rfl | exact Or.inr rfl
abbrev s_Made_told : Stmt := inner (top 31) 1
theorem sc_Made_told : FnScope ["self"] ["self"] (defScope s_Made_told) := ⟨rfl, rfl, rfl, by decide +kernel, rfl, by decide +kernel, by decide +kernel⟩
theorem v_Made_told_0 : Vis (defScope s_Made_told) "self" := by first | exact Or.inl rfl | exact Or.inr (Or.inl rfl) | exact Or.inr (Or.inr rfl)
theorem l_Made_told_0 : Loc (defScope s_Made_told) "self" := by first | exact Or.inl rfl | exact Or.inr rfl
abbrev s_Used_told : Stmt := inner (top 32) 1
theorem sc_Used_told : FnScope ["self"] ["self"] (defScope s_Used_told) := ⟨rfl, rfl, rfl, by decide +kernel, rfl, by decide +kernel, by decide +kernel⟩
theorem v_Used_told_0 : Vis (defScope s_Used_told) "self" := by first | exact Or.inl rfl | exact Or.inr (Or.inl rfl) | exact Or.inr (Or.inr rfl)
theorem l_Used_told_0 : Loc (defScope s_Used_told) "self" := by first | exact Or.inl rfl | exact Or.inr rfl
abbrev s_Chief_told : Stmt := inner (top 33) 1
theorem sc_Chief_told : FnScope ["self"] ["self"] (defScope s_Chief_told) := ⟨rfl, rfl, rfl, by decide +kernel, rfl, by decide +kernel, by decide +kernel⟩
theorem v_Chief_told_0 : Vis (defScope s_Chief_told) "self" := by first | exact Or.inl rfl | exact Or.inr (Or.inl rfl) | exact Or.inr (Or.inr rfl)
theorem l_Chief_told_0 : Loc (defScope s_Chief_told) "self" := by first | exact Or.inl rfl | exact Or.inr rfl
abbrev s_Over_told : Stmt := inner (top 34) 1
theorem sc_Over_told : FnScope ["self"] ["self"] (defScope s_Over_told) := ⟨rfl, rfl, rfl, by decide +kernel, rfl, by decide +kernel, by decide +kernel⟩
theorem v_Over_told_0 : Vis (defScope s_Over_told) "self" := by first | exact Or.inl rfl | exact Or.inr (Or.inl rfl) | exact Or.inr (Or.inr rfl)
theorem l_Over_told_0 : Loc (defScope s_Over_told) "self" := by first | exact Or.inl rfl | exact Or.inr rfl
abbrev s_Both_told : Stmt := inner (top 36) 0
theorem sc_Both_told : FnScope ["self"] ["self"] (defScope s_Both_told) := ⟨rfl, rfl, rfl, by decide +kernel, rfl, by decide +kernel, by decide +kernel⟩
theorem v_Both_told_0 : Vis (defScope s_Both_told) "self" := by first | exact Or.inl rfl | exact Or.inr (Or.inl rfl) | exact Or.inr (Or.inr rfl)
theorem l_Both_told_0 : Loc (defScope s_Both_told) "self" := by first | exact Or.inl rfl | exact Or.inr rfl
abbrev s_Either_told : Stmt := inner (top 37) 0
theorem sc_Either_told : FnScope ["self"] ["self"] (defScope s_Either_told) := ⟨rfl, rfl, rfl, by decide +kernel, rfl, by decide +kernel, by decide +kernel⟩
theorem v_Either_told_0 : Vis (defScope s_Either_told) "self" := by first | exact Or.inl rfl | exact Or.inr (Or.inl rfl) | exact Or.inr (Or.inr rfl)
theorem l_Either_told_0 : Loc (defScope s_Either_told) "self" := by first | exact Or.inl rfl | exact Or.inr rfl
abbrev s_But_told : Stmt := inner (top 38) 0
theorem sc_But_told : FnScope ["self"] ["self"] (defScope s_But_told) := ⟨rfl, rfl, rfl, by decide +kernel, rfl, by decide +kernel, by decide +kernel⟩
theorem v_But_told_0 : Vis (defScope s_But_told) "self" := by first | exact Or.inl rfl | exact Or.inr (Or.inl rfl) | exact Or.inr (Or.inr rfl)
theorem l_But_told_0 : Loc (defScope s_But_told) "self" := by first | exact Or.inl rfl | exact Or.inr rfl
abbrev s_law_bad_name : Stmt := top 52
theorem sc_law_bad_name : FnScope ["_law_cell_here", "_law_name", "_law_some"] ["_law_cell_here", "_law_name"] (defScope s_law_bad_name) := ⟨rfl, rfl, rfl, by decide +kernel, rfl, by decide +kernel, by decide +kernel⟩
theorem v_law_bad_name_0 : Vis (defScope s_law_bad_name) "_law_cell_here" := by first | exact Or.inl rfl | exact Or.inr (Or.inl rfl) | exact Or.inr (Or.inr rfl)
theorem l_law_bad_name_0 : Loc (defScope s_law_bad_name) "_law_cell_here" := by first | exact Or.inl rfl | exact Or.inr rfl
theorem v_law_bad_name_1 : Vis (defScope s_law_bad_name) "_law_name" := by first | exact Or.inl rfl | exact Or.inr (Or.inl rfl) | exact Or.inr (Or.inr rfl)
theorem l_law_bad_name_1 : Loc (defScope s_law_bad_name) "_law_name" := by first | exact Or.inl rfl | exact Or.inr rfl
theorem v_law_bad_name_2 : Vis (defScope s_law_bad_name) "_law_some" := by first | exact Or.inl rfl | exact Or.inr (Or.inl rfl) | exact Or.inr (Or.inr rfl)
theorem l_law_bad_name_2 : Loc (defScope s_law_bad_name) "_law_some" := by first | exact Or.inl rfl | exact Or.inr rfl
abbrev s_law_bad : Stmt := top 53
theorem sc_law_bad : FnScope ["_law_cell_here", "_law_kinds_here", "_law_words_here", "_law_way", "_law_name", "_law_wrong", "_law_kind"] ["_law_cell_here", "_law_kinds_here", "_law_words_here"] (defScope s_law_bad) := ⟨rfl, rfl, rfl, by decide +kernel, rfl, by decide +kernel, by decide +kernel⟩
theorem v_law_bad_0 : Vis (defScope s_law_bad) "_law_cell_here" := by first | exact Or.inl rfl | exact Or.inr (Or.inl rfl) | exact Or.inr (Or.inr rfl)
theorem l_law_bad_0 : Loc (defScope s_law_bad) "_law_cell_here" := by first | exact Or.inl rfl | exact Or.inr rfl
theorem v_law_bad_1 : Vis (defScope s_law_bad) "_law_kinds_here" := by first | exact Or.inl rfl | exact Or.inr (Or.inl rfl) | exact Or.inr (Or.inr rfl)
theorem l_law_bad_1 : Loc (defScope s_law_bad) "_law_kinds_here" := by first | exact Or.inl rfl | exact Or.inr rfl
theorem v_law_bad_2 : Vis (defScope s_law_bad) "_law_words_here" := by first | exact Or.inl rfl | exact Or.inr (Or.inl rfl) | exact Or.inr (Or.inr rfl)
theorem l_law_bad_2 : Loc (defScope s_law_bad) "_law_words_here" := by first | exact Or.inl rfl | exact Or.inr rfl
theorem v_law_bad_3 : Vis (defScope s_law_bad) "_law_way" := by first | exact Or.inl rfl | exact Or.inr (Or.inl rfl) | exact Or.inr (Or.inr rfl)
theorem l_law_bad_3 : Loc (defScope s_law_bad) "_law_way" := by first | exact Or.inl rfl | exact Or.inr rfl
theorem v_law_bad_4 : Vis (defScope s_law_bad) "_law_name" := by first | exact Or.inl rfl | exact Or.inr (Or.inl rfl) | exact Or.inr (Or.inr rfl)
theorem l_law_bad_4 : Loc (defScope s_law_bad) "_law_name" := by first | exact Or.inl rfl | exact Or.inr rfl
theorem v_law_bad_5 : Vis (defScope s_law_bad) "_law_wrong" := by first | exact Or.inl rfl | exact Or.inr (Or.inl rfl) | exact Or.inr (Or.inr rfl)
theorem l_law_bad_5 : Loc (defScope s_law_bad) "_law_wrong" := by first | exact Or.inl rfl | exact Or.inr rfl
theorem v_law_bad_6 : Vis (defScope s_law_bad) "_law_kind" := by first | exact Or.inl rfl | exact Or.inr (Or.inl rfl) | exact Or.inr (Or.inr rfl)
theorem l_law_bad_6 : Loc (defScope s_law_bad) "_law_kind" := by first | exact Or.inl rfl | exact Or.inr rfl
theorem g_law_bad__law_mix : (defScope s_law_bad).names.lookup ("_law_mix" : Str) = some .globalImplicit := by rfl
theorem g_law_bad__law_bad_name : (defScope s_law_bad).names.lookup ("_law_bad_name" : Str) = some .globalImplicit := by rfl
theorem g_law_bad_list : (defScope s_law_bad).names.lookup ("list" : Str) = some .globalImplicit := by rfl
abbrev s_law_deeper : Stmt := top 54
theorem sc_law_deeper : FnScope ["_law_told", "_law_deep", "_law_number", "_law_k", "_law_word"] ["_law_told", "_law_deep", "_law_number"] (defScope s_law_deeper) := ⟨rfl, rfl, rfl, by decide +kernel, rfl, by decide +kernel, by decide +kernel⟩
theorem v_law_deeper_0 : Vis (defScope s_law_deeper) "_law_told" := by first | exact Or.inl rfl | exact Or.inr (Or.inl rfl) | exact Or.inr (Or.inr rfl)
theorem l_law_deeper_0 : Loc (defScope s_law_deeper) "_law_told" := by first | exact Or.inl rfl | exact Or.inr rfl
theorem v_law_deeper_1 : Vis (defScope s_law_deeper) "_law_deep" := by first | exact Or.inl rfl | exact Or.inr (Or.inl rfl) | exact Or.inr (Or.inr rfl)
theorem l_law_deeper_1 : Loc (defScope s_law_deeper) "_law_deep" := by first | exact Or.inl rfl | exact Or.inr rfl
theorem v_law_deeper_2 : Vis (defScope s_law_deeper) "_law_number" := by first | exact Or.inl rfl | exact Or.inr (Or.inl rfl) | exact Or.inr (Or.inr rfl)
theorem l_law_deeper_2 : Loc (defScope s_law_deeper) "_law_number" := by first | exact Or.inl rfl | exact Or.inr rfl
theorem v_law_deeper_3 : Vis (defScope s_law_deeper) "_law_k" := by first | exact Or.inl rfl | exact Or.inr (Or.inl rfl) | exact Or.inr (Or.inr rfl)
theorem l_law_deeper_3 : Loc (defScope s_law_deeper) "_law_k" := by first | exact Or.inl rfl | exact Or.inr rfl
theorem v_law_deeper_4 : Vis (defScope s_law_deeper) "_law_word" := by first | exact Or.inl rfl | exact Or.inr (Or.inl rfl) | exact Or.inr (Or.inr rfl)
theorem l_law_deeper_4 : Loc (defScope s_law_deeper) "_law_word" := by first | exact Or.inl rfl | exact Or.inr rfl
theorem g_law_deeper_range : (defScope s_law_deeper).names.lookup ("range" : Str) = some .globalImplicit := by rfl
theorem g_law_deeper__law_mix : (defScope s_law_deeper).names.lookup ("_law_mix" : Str) = some .globalImplicit := by rfl
abbrev s_law_spoilt : Stmt := top 55
theorem sc_law_spoilt : FnScope ["_law_told", "_law_number", "_law_bad_here"] ["_law_told", "_law_number", "_law_bad_here"] (defScope s_law_spoilt) := ⟨rfl, rfl, rfl, by decide +kernel, rfl, by decide +kernel, by decide +kernel⟩
theorem v_law_spoilt_0 : Vis (defScope s_law_spoilt) "_law_told" := by first | exact Or.inl rfl | exact Or.inr (Or.inl rfl) | exact Or.inr (Or.inr rfl)
theorem l_law_spoilt_0 : Loc (defScope s_law_spoilt) "_law_told" := by first | exact Or.inl rfl | exact Or.inr rfl
theorem v_law_spoilt_1 : Vis (defScope s_law_spoilt) "_law_number" := by first | exact Or.inl rfl | exact Or.inr (Or.inl rfl) | exact Or.inr (Or.inr rfl)
theorem l_law_spoilt_1 : Loc (defScope s_law_spoilt) "_law_number" := by first | exact Or.inl rfl | exact Or.inr rfl
theorem v_law_spoilt_2 : Vis (defScope s_law_spoilt) "_law_bad_here" := by first | exact Or.inl rfl | exact Or.inr (Or.inl rfl) | exact Or.inr (Or.inr rfl)
theorem l_law_spoilt_2 : Loc (defScope s_law_spoilt) "_law_bad_here" := by first | exact Or.inl rfl | exact Or.inr rfl
theorem g_law_spoilt_len : (defScope s_law_spoilt).names.lookup ("len" : Str) = some .globalImplicit := by rfl
theorem g_law_spoilt__law_spoilt : (defScope s_law_spoilt).names.lookup ("_law_spoilt" : Str) = some .globalImplicit := by rfl
abbrev s_law_other : Stmt := top 56
theorem sc_law_other : FnScope ["_law_e"] ["_law_e"] (defScope s_law_other) := ⟨rfl, rfl, rfl, by decide +kernel, rfl, by decide +kernel, by decide +kernel⟩
theorem v_law_other_0 : Vis (defScope s_law_other) "_law_e" := by first | exact Or.inl rfl | exact Or.inr (Or.inl rfl) | exact Or.inr (Or.inr rfl)
theorem l_law_other_0 : Loc (defScope s_law_other) "_law_e" := by first | exact Or.inl rfl | exact Or.inr rfl
theorem g_law_other_isinstance : (defScope s_law_other).names.lookup ("isinstance" : Str) = some .globalImplicit := by rfl
theorem g_law_other_NoNumber : (defScope s_law_other).names.lookup ("NoNumber" : Str) = some .globalImplicit := by rfl
theorem g_law_other_NoBands : (defScope s_law_other).names.lookup ("NoBands" : Str) = some .globalImplicit := by rfl
theorem g_law_other_NoKinds : (defScope s_law_other).names.lookup ("NoKinds" : Str) = some .globalImplicit := by rfl
theorem g_law_other_NoGoods : (defScope s_law_other).names.lookup ("NoGoods" : Str) = some .globalImplicit := by rfl
theorem g_law_other_NoTree : (defScope s_law_other).names.lookup ("NoTree" : Str) = some .globalImplicit := by rfl
theorem g_law_other_NoneClaims : (defScope s_law_other).names.lookup ("NoneClaims" : Str) = some .globalImplicit := by rfl
theorem g_law_other_TwoClaim : (defScope s_law_other).names.lookup ("TwoClaim" : Str) = some .globalImplicit := by rfl
theorem g_law_other_NoRule : (defScope s_law_other).names.lookup ("NoRule" : Str) = some .globalImplicit := by rfl
theorem g_law_other_NoLot : (defScope s_law_other).names.lookup ("NoLot" : Str) = some .globalImplicit := by rfl
theorem g_law_other_NoQuota : (defScope s_law_other).names.lookup ("NoQuota" : Str) = some .globalImplicit := by rfl
theorem g_law_other_NoRate : (defScope s_law_other).names.lookup ("NoRate" : Str) = some .globalImplicit := by rfl
theorem g_law_other_NoEntry : (defScope s_law_other).names.lookup ("NoEntry" : Str) = some .globalImplicit := by rfl
theorem g_law_other_NoDeed : (defScope s_law_other).names.lookup ("NoDeed" : Str) = some .globalImplicit := by rfl
theorem g_law_other_NoRow : (defScope s_law_other).names.lookup ("NoRow" : Str) = some .globalImplicit := by rfl
abbrev s_law_refused : Stmt := top 57
theorem sc_law_refused : FnScope ["_law_told", "_law_e"] ["_law_told"] (defScope s_law_refused) := ⟨rfl, rfl, rfl, by decide +kernel, rfl, by decide +kernel, by decide +kernel⟩
theorem v_law_refused_0 : Vis (defScope s_law_refused) "_law_told" := by first | exact Or.inl rfl | exact Or.inr (Or.inl rfl) | exact Or.inr (Or.inr rfl)
theorem l_law_refused_0 : Loc (defScope s_law_refused) "_law_told" := by first | exact Or.inl rfl | exact Or.inr rfl
theorem v_law_refused_1 : Vis (defScope s_law_refused) "_law_e" := by first | exact Or.inl rfl | exact Or.inr (Or.inl rfl) | exact Or.inr (Or.inr rfl)
theorem l_law_refused_1 : Loc (defScope s_law_refused) "_law_e" := by first | exact Or.inl rfl | exact Or.inr rfl
theorem g_law_refused_note_of : (defScope s_law_refused).names.lookup ("note_of" : Str) = some .globalImplicit := by rfl
theorem g_law_refused_NoNote : (defScope s_law_refused).names.lookup ("NoNote" : Str) = some .globalImplicit := by rfl
theorem g_law_refused_isinstance : (defScope s_law_refused).names.lookup ("isinstance" : Str) = some .globalImplicit := by rfl
theorem g_law_refused_TariffError : (defScope s_law_refused).names.lookup ("TariffError" : Str) = some .globalImplicit := by rfl
theorem g_law_refused_ValueError : (defScope s_law_refused).names.lookup ("ValueError" : Str) = some .globalImplicit := by rfl
theorem g_law_refused__law_other : (defScope s_law_refused).names.lookup ("_law_other" : Str) = some .globalImplicit := by rfl
abbrev s_law_refused_by_base : Stmt := top 58
theorem sc_law_refused_by_base : FnScope ["_law_told", "_law_e"] ["_law_told"] (defScope s_law_refused_by_base) := ⟨rfl, rfl, rfl, by decide +kernel, rfl, by decide +kernel, by decide +kernel⟩
theorem v_law_refused_by_base_0 : Vis (defScope s_law_refused_by_base) "_law_told" := by first | exact Or.inl rfl | exact Or.inr (Or.inl rfl) | exact Or.inr (Or.inr rfl)
theorem l_law_refused_by_base_0 : Loc (defScope s_law_refused_by_base) "_law_told" := by first | exact Or.inl rfl | exact Or.inr rfl
theorem v_law_refused_by_base_1 : Vis (defScope s_law_refused_by_base) "_law_e" := by first | exact Or.inl rfl | exact Or.inr (Or.inl rfl) | exact Or.inr (Or.inr rfl)
theorem l_law_refused_by_base_1 : Loc (defScope s_law_refused_by_base) "_law_e" := by first | exact Or.inl rfl | exact Or.inr rfl
theorem g_law_refused_by_base_note_of : (defScope s_law_refused_by_base).names.lookup ("note_of" : Str) = some .globalImplicit := by rfl
theorem g_law_refused_by_base_TariffError : (defScope s_law_refused_by_base).names.lookup ("TariffError" : Str) = some .globalImplicit := by rfl
theorem g_law_refused_by_base_isinstance : (defScope s_law_refused_by_base).names.lookup ("isinstance" : Str) = some .globalImplicit := by rfl
theorem g_law_refused_by_base_NoNote : (defScope s_law_refused_by_base).names.lookup ("NoNote" : Str) = some .globalImplicit := by rfl
abbrev s_law : Stmt := top 59
theorem sc_law : FnScope ["_law_script", "_law_words_here", "_law_kinds_here", "_law_k", "_law_cell_here", "_law_told", "_law_bad_here", "_law_spoilt_here"] ["_law_script"] (defScope s_law) := ⟨rfl, rfl, rfl, by decide +kernel, rfl, by decide +kernel, by decide +kernel⟩
theorem v_law_0 : Vis (defScope s_law) "_law_script" := by first | exact Or.inl rfl | exact Or.inr (Or.inl rfl) | exact Or.inr (Or.inr rfl)
theorem l_law_0 : Loc (defScope s_law) "_law_script" := by first | exact Or.inl rfl | exact Or.inr rfl
theorem v_law_1 : Vis (defScope s_law) "_law_words_here" := by first | exact Or.inl rfl | exact Or.inr (Or.inl rfl) | exact Or.inr (Or.inr rfl)
theorem l_law_1 : Loc (defScope s_law) "_law_words_here" := by first | exact Or.inl rfl | exact Or.inr rfl
theorem v_law_2 : Vis (defScope s_law) "_law_kinds_here" := by first | exact Or.inl rfl | exact Or.inr (Or.inl rfl) | exact Or.inr (Or.inr rfl)
theorem l_law_2 : Loc (defScope s_law) "_law_kinds_here" := by first | exact Or.inl rfl | exact Or.inr rfl
theorem v_law_3 : Vis (defScope s_law) "_law_k" := by first | exact Or.inl rfl | exact Or.inr (Or.inl rfl) | exact Or.inr (Or.inr rfl)
theorem l_law_3 : Loc (defScope s_law) "_law_k" := by first | exact Or.inl rfl | exact Or.inr rfl
theorem v_law_4 : Vis (defScope s_law) "_law_cell_here" := by first | exact Or.inl rfl | exact Or.inr (Or.inl rfl) | exact Or.inr (Or.inr rfl)
theorem l_law_4 : Loc (defScope s_law) "_law_cell_here" := by first | exact Or.inl rfl | exact Or.inr rfl
theorem v_law_5 : Vis (defScope s_law) "_law_told" := by first | exact Or.inl rfl | exact Or.inr (Or.inl rfl) | exact Or.inr (Or.inr rfl)
theorem l_law_5 : Loc (defScope s_law) "_law_told" := by first | exact Or.inl rfl | exact Or.inr rfl
theorem v_law_6 : Vis (defScope s_law) "_law_bad_here" := by first | exact Or.inl rfl | exact Or.inr (Or.inl rfl) | exact Or.inr (Or.inr rfl)
theorem l_law_6 : Loc (defScope s_law) "_law_bad_here" := by first | exact Or.inl rfl | exact Or.inr rfl
theorem v_law_7 : Vis (defScope s_law) "_law_spoilt_here" := by first | exact Or.inl rfl | exact Or.inr (Or.inl rfl) | exact Or.inr (Or.inr rfl)
theorem l_law_7 : Loc (defScope s_law) "_law_spoilt_here" := by first | exact Or.inl rfl | exact Or.inr rfl
theorem g_law__law_words : (defScope s_law).names.lookup ("_law_words" : Str) = some .globalImplicit := by rfl
theorem g_law__law_cell : (defScope s_law).names.lookup ("_law_cell" : Str) = some .globalImplicit := by rfl
theorem g_law__law_kinds : (defScope s_law).names.lookup ("_law_kinds" : Str) = some .globalImplicit := by rfl
theorem g_law_range : (defScope s_law).names.lookup ("range" : Str) = some .globalImplicit := by rfl
theorem g_law_max : (defScope s_law).names.lookup ("max" : Str) = some .globalImplicit := by rfl
theorem g_law_min : (defScope s_law).names.lookup ("min" : Str) = some .globalImplicit := by rfl
theorem g_law_len : (defScope s_law).names.lookup ("len" : Str) = some .globalImplicit := by rfl
theorem g_law__law_note : (defScope s_law).names.lookup ("_law_note" : Str) = some .globalImplicit := by rfl
theorem g_law__law_mix : (defScope s_law).names.lookup ("_law_mix" : Str) = some .globalImplicit := by rfl
theorem g_law__law_bad : (defScope s_law).names.lookup ("_law_bad" : Str) = some .globalImplicit := by rfl
theorem g_law__law_deeper : (defScope s_law).names.lookup ("_law_deeper" : Str) = some .globalImplicit := by rfl
theorem g_law__law_plain : (defScope s_law).names.lookup ("_law_plain" : Str) = some .globalImplicit := by rfl
theorem g_law__law_spoilt : (defScope s_law).names.lookup ("_law_spoilt" : Str) = some .globalImplicit := by rfl
theorem g_law_note_of : (defScope s_law).names.lookup ("note_of" : Str) = some .globalImplicit := by rfl
theorem g_law__law_refused : (defScope s_law).names.lookup ("_law_refused" : Str) = some .globalImplicit := by rfl
theorem g_law__law_refused_by_base : (defScope s_law).names.lookup ("_law_refused_by_base" : Str) = some .globalImplicit := by rfl

def spCell (K : PySem.W.Frag) : Sp := fun vs H Q _ => ∃ (a : Addr) (ns : List Int) (k : Int), vs = [.ref a, .int k] ∧ SqL K H a (ns.map V.int) ∧ ns.length ≤ 63 ∧ 0 ≤ k ∧ k ≤ 1000 ∧ Q (.int (Mth.cell ns k)) H
theorem spCell_of {K : PySem.W.Frag} {H : Hp} {a : Addr} {ns : List Int} {k : Int} {Q : VK} {E : XK} (h : SqL K H a (ns.map V.int)) (hl : ns.length ≤ 63) (h0 : 0 ≤ k) (h1 : k ≤ 1000) (q : Q (.int (Mth.cell ns k)) H) : spCell K [.ref a, .int k] H Q E := ⟨a, ns, k, rfl, h, hl, h0, h1, q⟩
section
variable {P : Program} {w : World} {K : PySem.W.Frag} {mg : Str → Option Value} {base : Heap} {f : Addr} {fd : FuncData}
theorem ok_law_cell (F : Fun K "_law_cell" "_law_cell" s_law_cell f fd) (M : Mg mg) : FnOk P w K mg base CX0 1 f fd ["_law_script", "_law_k"] (spCell K) := by
  refine F.ok sc_law_cell (fun vs H Q E h => ?_) (fun cdv A outer s H vs Q E hr h => ?_)
  · obtain ⟨a, ns, k, rfl, _⟩ := h
    rfl
  obtain ⟨a, ns, k, rfl, hS, hl, h0, h1, q⟩ := h
  refine ⟨_, (@pss_cons _ _ _ _ _ (@ps_if _ _ _ _ _ _ _ _ (@pt_cmpR _ _ _ _ _ _ _ _ (@op_lt _) (@pe_var _ 1 _ _ rfl v_law_cell_1 dn__law_k dc__law_k) (@pe_callB _ _ _ _ _ _ _ _ _ call_len_seq g_law_cell_len M.m_len b_len (@pa_cons _ _ _ _ _ (@pe_var _ 0 _ _ rfl v_law_cell_0 dn__law_script dc__law_script) (@pa_nil _) (star1 rfl)) nn_len dn_len (star1 rfl) nost0) (nomark _)) (@pss_one _ _ _ (@ps_ret _ _ _ _ (@pe_op _ _ _ _ _ _ _ _ (@op_mod _) (@pe_ix _ _ _ _ _ _ _ (@ix_list _) (@pe_var _ 0 _ _ rfl v_law_cell_0 dn__law_script dc__law_script) (@pe_var _ 1 _ _ rfl v_law_cell_1 dn__law_k dc__law_k) (fun _ _ => rfl)) (@pe_op _ _ _ _ _ _ _ _ (@op_pow _) (@pe_int _ _ _ _) (@pe_int _ _ _ _))))) (@pss_nil _)) (@pss_cons _ _ _ _ _ (@ps_set _ _ 2 _ _ _ _ sc_law_cell.nd rfl l_law_cell_2 (@pe_op _ _ _ _ _ _ _ _ (@op_add _) (@pe_op _ _ _ _ _ _ _ _ (@op_mulB _) (@pe_int _ _ _ _) (@pe_var _ 1 _ _ rfl v_law_cell_1 dn__law_k dc__law_k)) (@pe_int _ _ _ _)) (swap1 rfl) (.inl rfl)) (@pss_cons _ _ _ _ _ (@ps_if _ _ _ _ _ _ _ _ (@pt_cmpR _ _ _ _ _ _ _ _ (@op_gt _) (@pe_callB _ _ _ _ _ _ _ _ _ call_len_seq g_law_cell_len M.m_len b_len (@pa_cons _ _ _ _ _ (@pe_var _ 0 _ _ rfl v_law_cell_0 dn__law_script dc__law_script) (@pa_nil _) (star1 rfl)) nn_len dn_len (star1 rfl) nost0) (@pe_int _ _ _ _) (nomark _)) (@pss_one _ _ _ (@ps_set _ _ 2 _ _ _ _ sc_law_cell.nd rfl l_law_cell_2 (@pe_op _ _ _ _ _ _ _ _ (@op_add _) (@pe_op _ _ _ _ _ _ _ _ (@op_mulB _) (@pe_op _ _ _ _ _ _ _ _ (@op_mod _) (@pe_ix _ _ _ _ _ _ _ (@ix_list _) (@pe_var _ 0 _ _ rfl v_law_cell_0 dn__law_script dc__law_script) (@pe_op _ _ _ _ _ _ _ _ (@op_mod _) (@pe_op _ _ _ _ _ _ _ _ (@op_mulB _) (@pe_var _ 1 _ _ rfl v_law_cell_1 dn__law_k dc__law_k) (@pe_int _ _ _ _)) (@pe_callB _ _ _ _ _ _ _ _ _ call_len_seq g_law_cell_len M.m_len b_len (@pa_cons _ _ _ _ _ (@pe_var _ 0 _ _ rfl v_law_cell_0 dn__law_script dc__law_script) (@pa_nil _) (star1 rfl)) nn_len dn_len (star1 rfl) nost0)) (fun _ _ => rfl)) (@pe_op _ _ _ _ _ _ _ _ (@op_pow _) (@pe_int _ _ _ _) (@pe_int _ _ _ _))) (@pe_int _ _ _ _)) (@pe_op _ _ _ _ _ _ _ _ (@op_mulB _) (@pe_op _ _ _ _ _ _ _ _ (@op_mulB _) (@pe_var _ 1 _ _ rfl v_law_cell_1 dn__law_k dc__law_k) (@pe_var _ 1 _ _ rfl v_law_cell_1 dn__law_k dc__law_k)) (@pe_int _ _ _ _))) (swap1 rfl) (.inl rfl))) (@pss_nil _)) (@pss_one _ _ _ (@ps_ret _ _ _ _ (@pe_op _ _ _ _ _ _ _ _ (@op_mod _) (@pe_op _ _ _ _ _ _ _ _ (@op_mulB _) (@pe_op _ _ _ _ _ _ _ _ (@op_mod _) (@pe_var _ 2 _ _ rfl v_law_cell_2 dn__law_number dc__law_number) (@pe_int _ _ _ _)) (@pe_int _ _ _ _)) (@pe_int _ _ _ _))))))), ?_⟩
  unfold Mth.cell at q
  simp only [tTurn, rTurnT, tTryS, rCountT, rPop, rRep, tCont, iZipT, tChain3, tFld, sFld, tMake, tMake0, tMethD, tBM0, rUpper, tDict1T, tTryN, rSlS, rMulS, rCatS, iZipL, rInsert, rReverse, tDNewX, tTry, tRaise, iEnumL, iEnumT, iZip, iSeq, iOr, rIx, iStr, rLeS, rJoin, rSlTA, tComp_eq, tComp1, slots, Option.getD_some, Option.getD_none, tYes, tSeq, tAsg, gName, tOp, tUn, tC, tVar, tCB, tCons, tNil, tCall, rI, rI0, rU, tRet, tRetN, tIfS, tTest, tB, tAnd, tOr, tNot, tAndV, tOrV, tNotV, tIf, tChain, tMenu, tPar, tDrop, tTup, tLst, tNext, tSl, tPart, tNoPart, tNever, gTup, gCons, gNil, gSub, rSetL, tBM, rAppend, rEq, rNe, rIsi, rIxL, rIxT, rIxS, rSlL, isi_non_bl, isi_non_int, isi_non_str, isi_non_lst, isi_non_tup, isi_bl_bl, isi_bl_int, isi_bl_str, isi_bl_lst, isi_bl_tup, isi_int_bl, isi_int_int, isi_int_str, isi_int_lst, isi_int_tup, isi_str_bl, isi_str_int, isi_str_str, isi_str_lst, isi_str_tup, isi_lst_bl, isi_lst_int, isi_lst_str, isi_lst_lst, isi_lst_tup, isi_tup_bl, isi_tup_int, isi_tup_str, isi_tup_lst, isi_tup_tup, isi_dct_bl, isi_dct_int, isi_dct_str, isi_dct_lst, isi_dct_tup, Kd_non, Kd_bl, Kd_int, Kd_str, sc_non_non, sc_non_int, sc_int_non, sc_non_bl, sc_bl_non, sc_non_str, sc_str_non, sc_int_int, sc_bl_bl, sc_str_str, sc_int_str, sc_str_int, sc_bl_str, sc_str_bl, decide_true, decide_false, tFor_eq, iList, iTup, iRng1, iRng2, iRng3, rIndexT, tBM0, tBMT, tyK_int, tyK_bool, tyK_str, tyK_list, tyK_tuple, L2.start, cxK, Int.reduceToNat, List.map_cons, List.map_nil, List.length_cons, List.length_nil, Nat.reduceAdd, Nat.reduceSub, Nat.zero_add, List.replicate_succ, List.replicate_zero, List.cons_append, List.nil_append, List.append_nil, List.getElem?_cons_zero, List.getElem?_cons_succ, List.set_cons_zero, List.set_cons_succ, Option.some.injEq, V.int.injEq, V.bl.injEq, V.ref.injEq, V.str.injEq, V.ty.injEq, List.cons.injEq, exists_eq_left', exists_eq_left, exists_eq_right, exists_and_left, exists_and_right, and_true, true_and, and_assoc, exists_const, decide_eq_true_eq, Bool.not_eq_true', Bool.not_true, Bool.not_false, Bool.not_not, decide_eq_false_iff_not, ite_not, Bool.false_eq_true, if_true, if_false, reduceCtorEq, and_false, false_and, exists_false, or_false, false_or, ↓reduceIte, eq_self, reduceIte]
  refine ⟨_, .inl hS, ?_⟩
  rw [List.length_map]
  by_cases hk : k < (ns.length : Int)
  · rw [if_pos hk]
    rw [if_pos hk] at q
    refine ⟨_, hS, _, atI_map h0 hk, cpow, _, rfl, ten_pos _, q⟩
  · rw [if_neg hk]
    rw [if_neg hk] at q
    have kk : 0 ≤ k * k ∧ k * k ≤ 1000 * 1000 := ⟨Int.mul_nonneg h0 h0, Int.mul_le_mul h1 h1 h0 (by decide)⟩
    refine ⟨cmul (by decide) (by decide) (by omega) (by omega), _, .inl hS, ?_⟩
    rw [List.length_map]
    by_cases hp : 0 < (ns.length : Int)
    · rw [if_pos hp]
      rw [if_pos hp] at q
      have hm := Int.emod_nonneg (k * 7) (show (ns.length : Int) ≠ 0 by omega)
      have hm2 := Int.emod_lt_of_pos (k * 7) hp
      have e1 := Int.emod_nonneg (ns.getD (k * 7 % (ns.length : Int)).toNat 0) (show (10 ^ 60 : Int) ≠ 0 by decide)
      have e2 := Int.emod_lt_of_pos (ns.getD (k * 7 % (ns.length : Int)).toNat 0) (show (0 : Int) < 10 ^ 60 by decide)
      have f1 := Int.emod_nonneg (ns.getD (k * 7 % (ns.length : Int)).toNat 0 % 10 ^ 60 * 48271 + k * k * 69621) (show (2147483647 : Int) ≠ 0 by decide)
      have f2 := Int.emod_lt_of_pos (ns.getD (k * 7 % (ns.length : Int)).toNat 0 % 10 ^ 60 * 48271 + k * k * 69621) (show (0 : Int) < 2147483647 by decide)
      refine ⟨cmul (by omega) (by omega) (by decide) (by decide), _, .inl hS, by rw [List.length_map]; exact hp, _, hS, _, by rw [List.length_map]; exact atI_map hm hm2, cpow, _, rfl, ten_pos _, cmul (by omega) (by omega) (by decide) (by decide), cmul (by omega) (by omega) (by omega) (by omega), cmul (by omega) (by omega) (by decide) (by decide), by decide, cmul (by omega) (by omega) (by decide) (by decide), by decide, q⟩
    · rw [if_neg hp]
      rw [if_neg hp] at q
      have e1 := Int.emod_nonneg (7919 * k + 5) (show (2147483647 : Int) ≠ 0 by decide)
      have e2 := Int.emod_lt_of_pos (7919 * k + 5) (show (0 : Int) < 2147483647 by decide)
      exact ⟨by decide, cmul (by omega) (by omega) (by decide) (by decide), by decide, q⟩
end

theorem kd_same {K : PySem.W.Frag} {H H' : Hp} {v : V} {k : Kn} (e : Same H H') (h : Kd K H v k) : Kd K H' v k := by
  cases v with
  | ref a =>
    rcases h with ⟨z, xs, h⟩ | ⟨z, xs, h⟩ | ⟨z, h⟩
    · exact .inl ⟨z, xs, e.seq h⟩
    · exact .inr (.inl ⟨z, xs, Same.tup e h⟩)
    · exact .inr (.inr ⟨z, e _ _ h⟩)
  | _ => exact h

def nameB (cs : List Nat) : Bool := decide (1 ≤ cs.length ∧ cs.length ≤ 8) && cs.all isLow
abbrev asc (cs : List Nat) : Prop := cs.all (fun c => decide (c < 128)) = true
inductive NameV (K : PySem.W.Frag) (H : Hp) : V → Bool → Prop
  | no {v : V} {k : Kn} : Kd K H v k → k ≠ .str → NameV K H v false
  | txt {cs : List Nat} : asc cs → cs.length ≤ 1000 → NameV K H (.str (txt cs)) (nameB cs)
def spIsName (K : PySem.W.Frag) : Sp := fun vs H Q _ => ∃ v b, vs = [v] ∧ NameV K H v b ∧ ∀ H', Same H H' → Q (.bl b) H'
theorem isi_str_ne {k : Kn} (h : k ≠ .str) : isiB k .str = false := by
  cases k <;> first | rfl | exact absurd rfl h
theorem txt_len (cs : List Nat) : (txt cs).length = cs.length := List.size_toArray ..
section
variable {P : Program} {w : World} {K : PySem.W.Frag} {mg : Str → Option Value} {base : Heap} {f : Addr} {fd : FuncData}
theorem ok_is_name (F : Fun K "is_name" "is_name" s_is_name f fd) (M : Mg mg) : FnOk P w K mg base CX0 1 f fd ["thing"] (spIsName K) := by
  refine F.ok sc_is_name (fun vs H Q E h => ?_) (fun cdv A outer s H vs Q E hr h => ?_)
  · obtain ⟨v, b, rfl, _⟩ := h
    rfl
  obtain ⟨v, b, rfl, N, q⟩ := h
  refine ⟨_, (@pss_cons _ _ _ _ _ (@ps_if _ _ _ _ _ _ _ _ (@PW.pt _ _ _ (@pw_or _ _ _ _ _ _ _ (@pt_not _ _ _ _ (@pt_val _ _ _ (@pe_callB _ _ _ _ _ _ _ _ _ call_isi g_is_name_isinstance M.m_isinstance b_isinstance (@pa_cons _ _ _ _ _ (@pe_var _ 0 _ _ rfl v_is_name_0 dn_thing dc_thing) (@pa_cons _ _ _ _ _ (@pe_bltn _ _ (.ty "str") _ _ g_is_name_str M.m_str b_str rfl nn_str dn_str) (@pa_nil _) (star1 rfl)) (star1 rfl)) nn_isinstance dn_isinstance (star1 rfl) (nost1 rfl nost0)) (test1 rfl))) (@pw_or1 _ _ _ _ (@pt_not _ _ _ _ (@pt_chain _ _ _ _ _ _ _ _ _ _ _ _ op_le op_le (@pe_int _ _ _ _) (@pe_callB _ _ _ _ _ _ _ _ _ call_len_str g_is_name_len M.m_len b_len (@pa_cons _ _ _ _ _ (@pe_var _ 0 _ _ rfl v_is_name_0 dn_thing dc_thing) (@pa_nil _) (star1 rfl)) nn_len dn_len (star1 rfl) nost0) (@pe_int _ _ _ _) (by with_unfolding_all rfl)))))) (@pss_one _ _ _ (@ps_ret _ _ _ _ (@pe_bl _ _ _ _))) (@pss_nil _)) (@pss_one _ _ _ (@ps_ret _ _ _ _ (@pe_callB _ _ _ _ _ _ _ _ _ (call_all1 rfl) g_is_name_all M.m_all b_all (@pa_cons _ _ _ _ _ (@pe_comp _ _ _ _ _ _ _ _ _ _ _ _ _ _ _ rfl (CompOk.make (N' := ["letter"]) (ix := []) (nl := 1) (by rfl) fm0 (by rfl) (by decide +kernel) rfl (by decide +kernel) rfl True.intro) (@pi_str _ _ _ _ (@pe_var _ 0 _ _ rfl v_is_name_0 dn_thing dc_thing)) (fun _ _ _ _ _ => (@pg_name _ _ 0 _ (show List.Nodup (["letter"] : List Str) from by decide) rfl (Or.inl rfl) (by first | exact .inl rfl | exact .inr rfl | assumption))) (fun _ _ _ _ _ => (@pif_nil _)) (fun _ _ _ _ _ => (@pe_chain _ _ _ _ _ _ _ _ _ _ _ _ op_leS op_leS (@pe_str _ _ _ _) (@pv _ 0 _ _ (by rfl) (by first | exact Or.inl rfl | exact Or.inr (Or.inl rfl) | exact Or.inr (Or.inr rfl)) (by decide) (by decide)) (@pe_str _ _ _ _) (by with_unfolding_all rfl))) (by intro _; rfl)) (@pa_nil _) (star1 rfl)) nn_all dn_all (star1 rfl) nost0)))), ?_⟩
  cases N with
  | no kd hk =>
    simp only [tTurn, rTurnT, tTryS, rCountT, rPop, rRep, tCont, iZipT, tChain3, tFld, sFld, tMake, tMake0, tMethD, tBM0, rUpper, tDict1T, tTryN, rSlS, rMulS, rCatS, iZipL, rInsert, rReverse, tDNewX, tTry, tRaise, iEnumL, iEnumT, iZip, iSeq, iOr, rIx, iStr, rLeS, rJoin, rSlTA, tComp_eq, tComp1, slots, Option.getD_some, Option.getD_none, tYes, tSeq, tAsg, gName, tOp, tUn, tC, tVar, tCB, tCons, tNil, tCall, rI, rI0, rU, tRet, tRetN, tIfS, tTest, tB, tAnd, tOr, tNot, tAndV, tOrV, tNotV, tIf, tChain, tMenu, tPar, tDrop, tTup, tLst, tNext, tSl, tPart, tNoPart, tNever, gTup, gCons, gNil, gSub, rSetL, tBM, rAppend, rEq, rNe, rIsi, rIxL, rIxT, rIxS, rSlL, isi_non_bl, isi_non_int, isi_non_str, isi_non_lst, isi_non_tup, isi_bl_bl, isi_bl_int, isi_bl_str, isi_bl_lst, isi_bl_tup, isi_int_bl, isi_int_int, isi_int_str, isi_int_lst, isi_int_tup, isi_str_bl, isi_str_int, isi_str_str, isi_str_lst, isi_str_tup, isi_lst_bl, isi_lst_int, isi_lst_str, isi_lst_lst, isi_lst_tup, isi_tup_bl, isi_tup_int, isi_tup_str, isi_tup_lst, isi_tup_tup, isi_dct_bl, isi_dct_int, isi_dct_str, isi_dct_lst, isi_dct_tup, Kd_non, Kd_bl, Kd_int, Kd_str, sc_non_non, sc_non_int, sc_int_non, sc_non_bl, sc_bl_non, sc_non_str, sc_str_non, sc_int_int, sc_bl_bl, sc_str_str, sc_int_str, sc_str_int, sc_bl_str, sc_str_bl, decide_true, decide_false, tFor_eq, iList, iTup, iRng1, iRng2, iRng3, rIndexT, tBM0, tBMT, tyK_int, tyK_bool, tyK_str, tyK_list, tyK_tuple, L2.start, cxK, Int.reduceToNat, List.map_cons, List.map_nil, List.length_cons, List.length_nil, Nat.reduceAdd, Nat.reduceSub, Nat.zero_add, List.replicate_succ, List.replicate_zero, List.cons_append, List.nil_append, List.append_nil, List.getElem?_cons_zero, List.getElem?_cons_succ, List.set_cons_zero, List.set_cons_succ, Option.some.injEq, V.int.injEq, V.bl.injEq, V.ref.injEq, V.str.injEq, V.ty.injEq, List.cons.injEq, exists_eq_left', exists_eq_left, exists_eq_right, exists_and_left, exists_and_right, and_true, true_and, and_assoc, exists_const, decide_eq_true_eq, Bool.not_eq_true', Bool.not_true, Bool.not_false, Bool.not_not, decide_eq_false_iff_not, ite_not, Bool.false_eq_true, if_true, if_false, reduceCtorEq, and_false, false_and, exists_false, or_false, false_or, ↓reduceIte, eq_self, reduceIte]
    refine ⟨_, kd, ?_⟩
    rw [if_pos (isi_str_ne hk)]
    exact q _ (Same.refl _)
  | @txt cs ha hn =>
    simp only [tTurn, rTurnT, tTryS, rCountT, rPop, rRep, tCont, iZipT, tChain3, tFld, sFld, tMake, tMake0, tMethD, tBM0, rUpper, tDict1T, tTryN, rSlS, rMulS, rCatS, iZipL, rInsert, rReverse, tDNewX, tTry, tRaise, iEnumL, iEnumT, iZip, iSeq, iOr, rIx, iStr, rLeS, rJoin, rSlTA, tComp_eq, tComp1, slots, Option.getD_some, Option.getD_none, tYes, tSeq, tAsg, gName, tOp, tUn, tC, tVar, tCB, tCons, tNil, tCall, rI, rI0, rU, tRet, tRetN, tIfS, tTest, tB, tAnd, tOr, tNot, tAndV, tOrV, tNotV, tIf, tChain, tMenu, tPar, tDrop, tTup, tLst, tNext, tSl, tPart, tNoPart, tNever, gTup, gCons, gNil, gSub, rSetL, tBM, rAppend, rEq, rNe, rIsi, rIxL, rIxT, rIxS, rSlL, isi_non_bl, isi_non_int, isi_non_str, isi_non_lst, isi_non_tup, isi_bl_bl, isi_bl_int, isi_bl_str, isi_bl_lst, isi_bl_tup, isi_int_bl, isi_int_int, isi_int_str, isi_int_lst, isi_int_tup, isi_str_bl, isi_str_int, isi_str_str, isi_str_lst, isi_str_tup, isi_lst_bl, isi_lst_int, isi_lst_str, isi_lst_lst, isi_lst_tup, isi_tup_bl, isi_tup_int, isi_tup_str, isi_tup_lst, isi_tup_tup, isi_dct_bl, isi_dct_int, isi_dct_str, isi_dct_lst, isi_dct_tup, Kd_non, Kd_bl, Kd_int, Kd_str, sc_non_non, sc_non_int, sc_int_non, sc_non_bl, sc_bl_non, sc_non_str, sc_str_non, sc_int_int, sc_bl_bl, sc_str_str, sc_int_str, sc_str_int, sc_bl_str, sc_str_bl, decide_true, decide_false, tFor_eq, iList, iTup, iRng1, iRng2, iRng3, rIndexT, tBM0, tBMT, tyK_int, tyK_bool, tyK_str, tyK_list, tyK_tuple, L2.start, cxK, Int.reduceToNat, List.map_cons, List.map_nil, List.length_cons, List.length_nil, Nat.reduceAdd, Nat.reduceSub, Nat.zero_add, List.replicate_succ, List.replicate_zero, List.cons_append, List.nil_append, List.append_nil, List.getElem?_cons_zero, List.getElem?_cons_succ, List.set_cons_zero, List.set_cons_succ, Option.some.injEq, V.int.injEq, V.bl.injEq, V.ref.injEq, V.str.injEq, V.ty.injEq, List.cons.injEq, exists_eq_left', exists_eq_left, exists_eq_right, exists_and_left, exists_and_right, and_true, true_and, and_assoc, exists_const, decide_eq_true_eq, Bool.not_eq_true', Bool.not_true, Bool.not_false, Bool.not_not, decide_eq_false_iff_not, ite_not, Bool.false_eq_true, if_true, if_false, reduceCtorEq, and_false, false_and, exists_false, or_false, false_or, ↓reduceIte, eq_self, reduceIte]
    rw [txt_len]
    have sl : cs.length ≤ sizeLine := Nat.le_trans hn (by decide)
    refine ⟨sl, ?_⟩
    by_cases h1 : 1 ≤ (cs.length : Int)
    · rw [if_pos h1]
      by_cases h2 : (cs.length : Int) ≤ 8
      · rw [if_pos h2]
        refine ⟨_, rfl, ha, fun D hD => ?_⟩
        obtain ⟨Pc, hC⟩ : ∃ Pc : Nat → St → Hp → Prop, Pc = fun i τ H' => ∃ z, H' D = some (.lst (((cs.map isLow).take i).map V.bl)) ∧ Same H H' ∧ τ = [z] := ⟨_, rfl⟩
        refine compS_str cs Pc ?_ ?_ ?_
        · rw [hC]
          exact ⟨_, upd_same, same_new hD _, rfl⟩
        · intro i c τ H' R hc h next
          rw [hC] at h
          obtain ⟨z, d1, d2, rfl⟩ := h
          have li : i < cs.length := (List.getElem?_eq_some_iff.mp hc).1
          have key : ∃ ys, H' D = some (.lst ys) ∧ ys.length < sizeLine ∧ R [some (sgn c)] (upd H' D (.lst (ys ++ [.bl (isLow c)]))) := by
            refine ⟨_, d1, ?_, next _ _ ?_⟩
            · rw [List.length_map, List.length_take, List.length_map]
              exact Nat.lt_of_lt_of_le (m := 64) (by omega) (by decide)
            · rw [hC]
              refine ⟨_, ?_, fun b o hb => by rw [upd_ne (ne_of_none hb hD)]; exact d2 _ _ hb, rfl⟩
              rw [upd_same, List.take_add_one, List.getElem?_map, hc, List.map_append]
              rfl
          simp only [tTurn, rTurnT, tTryS, rCountT, rPop, rRep, tCont, iZipT, tChain3, tFld, sFld, tMake, tMake0, tMethD, tBM0, rUpper, tDict1T, tTryN, rSlS, rMulS, rCatS, iZipL, rInsert, rReverse, tDNewX, tTry, tRaise, iEnumL, iEnumT, iZip, iSeq, iOr, rIx, iStr, rLeS, rJoin, rSlTA, tComp_eq, tComp1, slots, Option.getD_some, Option.getD_none, tYes, tSeq, tAsg, gName, tOp, tUn, tC, tVar, tCB, tCons, tNil, tCall, rI, rI0, rU, tRet, tRetN, tIfS, tTest, tB, tAnd, tOr, tNot, tAndV, tOrV, tNotV, tIf, tChain, tMenu, tPar, tDrop, tTup, tLst, tNext, tSl, tPart, tNoPart, tNever, gTup, gCons, gNil, gSub, rSetL, tBM, rAppend, rEq, rNe, rIsi, rIxL, rIxT, rIxS, rSlL, isi_non_bl, isi_non_int, isi_non_str, isi_non_lst, isi_non_tup, isi_bl_bl, isi_bl_int, isi_bl_str, isi_bl_lst, isi_bl_tup, isi_int_bl, isi_int_int, isi_int_str, isi_int_lst, isi_int_tup, isi_str_bl, isi_str_int, isi_str_str, isi_str_lst, isi_str_tup, isi_lst_bl, isi_lst_int, isi_lst_str, isi_lst_lst, isi_lst_tup, isi_tup_bl, isi_tup_int, isi_tup_str, isi_tup_lst, isi_tup_tup, isi_dct_bl, isi_dct_int, isi_dct_str, isi_dct_lst, isi_dct_tup, Kd_non, Kd_bl, Kd_int, Kd_str, sc_non_non, sc_non_int, sc_int_non, sc_non_bl, sc_bl_non, sc_non_str, sc_str_non, sc_int_int, sc_bl_bl, sc_str_str, sc_int_str, sc_str_int, sc_bl_str, sc_str_bl, decide_true, decide_false, tFor_eq, iList, iTup, iRng1, iRng2, iRng3, rIndexT, tBM0, tBMT, tyK_int, tyK_bool, tyK_str, tyK_list, tyK_tuple, L2.start, cxK, Int.reduceToNat, List.map_cons, List.map_nil, List.length_cons, List.length_nil, Nat.reduceAdd, Nat.reduceSub, Nat.zero_add, List.replicate_succ, List.replicate_zero, List.cons_append, List.nil_append, List.append_nil, List.getElem?_cons_zero, List.getElem?_cons_succ, List.set_cons_zero, List.set_cons_succ, Option.some.injEq, V.int.injEq, V.bl.injEq, V.ref.injEq, V.str.injEq, V.ty.injEq, List.cons.injEq, exists_eq_left', exists_eq_left, exists_eq_right, exists_and_left, exists_and_right, and_true, true_and, and_assoc, exists_const, decide_eq_true_eq, Bool.not_eq_true', Bool.not_true, Bool.not_false, Bool.not_not, decide_eq_false_iff_not, ite_not, Bool.false_eq_true, if_true, if_false, reduceCtorEq, and_false, false_and, exists_false, or_false, false_or, ↓reduceIte, eq_self, reduceIte]
          refine ⟨97, rfl, _, rfl, ?_⟩
          unfold isLow at key
          by_cases hc1 : 97 ≤ c
          · rw [decide_eq_true hc1, Bool.true_and] at key
            rw [if_pos hc1]
            exact ⟨_, rfl, 122, rfl, key⟩
          · rw [decide_eq_false hc1, Bool.false_and] at key
            rw [if_neg hc1]
            exact key
        · intro τ H' h
          rw [hC] at h
          obtain ⟨z, d1, d2, rfl⟩ := h
          rw [List.take_of_length_le (by rw [List.length_map]; exact Nat.le_refl _)] at d1
          refine ⟨_, rfl, _, SqL.of d1, ?_⟩
          have e : nameB cs = (cs.map isLow).all id := by
            unfold nameB
            rw [decide_eq_true ⟨by omega, by omega⟩, Bool.true_and, List.all_map]
            rfl
          rw [← e]
          exact q _ d2
      · rw [if_neg h2]
        have e : nameB cs = false := by
          unfold nameB
          rw [decide_eq_false (by omega)]
          rfl
        rw [← e]
        exact q _ (Same.refl _)
    · rw [if_neg h1]
      have e : nameB cs = false := by
        unfold nameB
        rw [decide_eq_false (by omega)]
        rfl
      rw [← e]
      exact q _ (Same.refl _)
end

inductive KindV (K : PySem.W.Frag) (H : Hp) : V → Bool → Prop
  | no {v : V} {k : Kn} : Kd K H v k → k ≠ .tup → KindV K H v false
  | len {p : Addr} {xs : List V} : SqT K H p xs → xs.length ≠ 2 → KindV K H (.ref p) false
  | two {p : Addr} {x y : V} {b c : Bool} : SqT K H p [x, y] → NameV K H x b → NameV K H y c → KindV K H (.ref p) (b && c)
theorem NameV.same {K : PySem.W.Frag} {H H' : Hp} {v : V} {b : Bool} (h : NameV K H v b) (e : Same H H') : NameV K H' v b := by
  cases h with
  | no a c => exact .no (kd_same e a) c
  | txt a c => exact .txt a c
theorem KindV.same {K : PySem.W.Frag} {H H' : Hp} {v : V} {b : Bool} (h : KindV K H v b) (e : Same H H') : KindV K H' v b := by
  cases h with
  | no a c => exact .no (kd_same e a) c
  | len a c => exact .len (Same.tup e a) c
  | two a c d => exact .two (Same.tup e a) (c.same e) (d.same e)
def spIsKind (K : PySem.W.Frag) : Sp := fun vs H Q _ => ∃ v b, vs = [v] ∧ KindV K H v b ∧ ∀ H', Same H H' → Q (.bl b) H'
theorem isiG_tup_ne {k : Kn} (h : k ≠ .tup) : isiB k .tup = false := by
  cases k <;> first | rfl | exact absurd rfl h
section
variable {P : Program} {w : World} {K : PySem.W.Frag} {mg : Str → Option Value} {base : Heap} {f : Addr} {fd : FuncData}
theorem ok_is_kind (F : Fun K "is_kind" "is_kind" s_is_kind f fd) (M : Mg mg) (C_is_name : Cal P w K mg base CX0 "is_name" 1 ["thing"] (spIsName K)) : FnOk P w K mg base CX0 2 f fd ["thing"] (spIsKind K) := by
  refine F.ok sc_is_kind (fun vs H Q E h => ?_) (fun cdv A outer s H vs Q E hr h => ?_)
  · obtain ⟨v, b, rfl, _⟩ := h
    rfl
  obtain ⟨v, b, rfl, N, q⟩ := h
  refine ⟨_, (@pss_cons _ _ _ _ _ (@ps_if _ _ _ _ _ _ _ _ (@PW.pt _ _ _ (@pw_or _ _ _ _ _ _ _ (@pt_not _ _ _ _ (@pt_val _ _ _ (@pe_callB _ _ _ _ _ _ _ _ _ call_isi g_is_kind_isinstance M.m_isinstance b_isinstance (@pa_cons _ _ _ _ _ (@pe_var _ 0 _ _ rfl v_is_kind_0 dn_thing dc_thing) (@pa_cons _ _ _ _ _ (@pe_bltn _ _ (.ty "tuple") _ _ g_is_kind_tuple M.m_tuple b_tuple rfl nn_tuple dn_tuple) (@pa_nil _) (star1 rfl)) (star1 rfl)) nn_isinstance dn_isinstance (star1 rfl) (nost1 rfl nost0)) (test1 rfl))) (@pw_or1 _ _ _ _ (@pt_cmpR _ _ _ _ _ _ _ _ (@op_ne _) (@pe_callB _ _ _ _ _ _ _ _ _ call_len_seq g_is_kind_len M.m_len b_len (@pa_cons _ _ _ _ _ (@pe_var _ 0 _ _ rfl v_is_kind_0 dn_thing dc_thing) (@pa_nil _) (star1 rfl)) nn_len dn_len (star1 rfl) nost0) (@pe_int _ _ _ _) (nomark _))))) (@pss_one _ _ _ (@ps_ret _ _ _ _ (@pe_bl _ _ _ _))) (@pss_nil _)) (@pss_one _ _ _ (@ps_ret _ _ _ _ (@pe_and _ _ _ _ _ _ _ (@pe_callC _ _ _ _ _ _ _ _ _ _ _ C_is_name hr g_is_kind_is_name (@pa_cons _ _ _ _ _ (@pe_ix _ _ _ _ _ _ _ (@ix_tup _) (@pe_var _ 0 _ _ rfl v_is_kind_0 dn_thing dc_thing) (@pe_int _ _ _ _) (fun _ _ => rfl)) (@pa_nil _) (star1 rfl)) (by decide) dn_is_name (star1 rfl) nost0) (@pe_one _ _ _ _ _ (@pe_callC _ _ _ _ _ _ _ _ _ _ _ C_is_name hr g_is_kind_is_name (@pa_cons _ _ _ _ _ (@pe_ix _ _ _ _ _ _ _ (@ix_tup _) (@pe_var _ 0 _ _ rfl v_is_kind_0 dn_thing dc_thing) (@pe_int _ _ _ _) (fun _ _ => rfl)) (@pa_nil _) (star1 rfl)) (by decide) dn_is_name (star1 rfl) nost0)))))), ?_⟩
  simp only [tTurn, rTurnT, tTryS, rCountT, rPop, rRep, tCont, iZipT, tChain3, tFld, sFld, tMake, tMake0, tMethD, tBM0, rUpper, tDict1T, tTryN, rSlS, rMulS, rCatS, iZipL, rInsert, rReverse, tDNewX, tTry, tRaise, iEnumL, iEnumT, iZip, iSeq, iOr, rIx, iStr, rLeS, rJoin, rSlTA, tComp_eq, tComp1, slots, Option.getD_some, Option.getD_none, tYes, tSeq, tAsg, gName, tOp, tUn, tC, tVar, tCB, tCons, tNil, tCall, rI, rI0, rU, tRet, tRetN, tIfS, tTest, tB, tAnd, tOr, tNot, tAndV, tOrV, tNotV, tIf, tChain, tMenu, tPar, tDrop, tTup, tLst, tNext, tSl, tPart, tNoPart, tNever, gTup, gCons, gNil, gSub, rSetL, tBM, rAppend, rEq, rNe, rIsi, rIxL, rIxT, rIxS, rSlL, isi_non_bl, isi_non_int, isi_non_str, isi_non_lst, isi_non_tup, isi_bl_bl, isi_bl_int, isi_bl_str, isi_bl_lst, isi_bl_tup, isi_int_bl, isi_int_int, isi_int_str, isi_int_lst, isi_int_tup, isi_str_bl, isi_str_int, isi_str_str, isi_str_lst, isi_str_tup, isi_lst_bl, isi_lst_int, isi_lst_str, isi_lst_lst, isi_lst_tup, isi_tup_bl, isi_tup_int, isi_tup_str, isi_tup_lst, isi_tup_tup, isi_dct_bl, isi_dct_int, isi_dct_str, isi_dct_lst, isi_dct_tup, Kd_non, Kd_bl, Kd_int, Kd_str, sc_non_non, sc_non_int, sc_int_non, sc_non_bl, sc_bl_non, sc_non_str, sc_str_non, sc_int_int, sc_bl_bl, sc_str_str, sc_int_str, sc_str_int, sc_bl_str, sc_str_bl, decide_true, decide_false, tFor_eq, iList, iTup, iRng1, iRng2, iRng3, rIndexT, tBM0, tBMT, tyK_int, tyK_bool, tyK_str, tyK_list, tyK_tuple, L2.start, cxK, Int.reduceToNat, List.map_cons, List.map_nil, List.length_cons, List.length_nil, Nat.reduceAdd, Nat.reduceSub, Nat.zero_add, List.replicate_succ, List.replicate_zero, List.cons_append, List.nil_append, List.append_nil, List.getElem?_cons_zero, List.getElem?_cons_succ, List.set_cons_zero, List.set_cons_succ, Option.some.injEq, V.int.injEq, V.bl.injEq, V.ref.injEq, V.str.injEq, V.ty.injEq, List.cons.injEq, exists_eq_left', exists_eq_left, exists_eq_right, exists_and_left, exists_and_right, and_true, true_and, and_assoc, exists_const, decide_eq_true_eq, Bool.not_eq_true', Bool.not_true, Bool.not_false, Bool.not_not, decide_eq_false_iff_not, ite_not, Bool.false_eq_true, if_true, if_false, reduceCtorEq, and_false, false_and, exists_false, or_false, false_or, ↓reduceIte, eq_self, reduceIte]
  cases N with
  | no kd hk =>
    refine ⟨_, kd, ?_⟩
    rw [if_pos (isiG_tup_ne hk)]
    exact q _ (Same.refl _)
  | len T hl =>
    refine ⟨_, Kd.tup T, ?_⟩
    rw [if_neg (by decide)]
    refine ⟨_, rfl, _, .inr T, ?_⟩
    rw [if_neg (by omega)]
    exact q _ (Same.refl _)
  | @two p x y b c T n1 n2 =>
    refine ⟨_, Kd.tup T, ?_⟩
    rw [if_neg (by decide)]
    refine ⟨_, rfl, _, .inr T, ?_⟩
    rw [if_pos (show (([x, y].length : Nat) : Int) = 2 from rfl)]
    refine ⟨_, rfl, _, T, _, rfl, _, _, rfl, n1, fun H1 e1 => ⟨_, rfl, ?_⟩⟩
    cases b with
    | true =>
      rw [if_pos rfl]
      exact ⟨_, rfl, _, Same.tup e1 T, _, rfl, _, _, rfl, n2.same e1, fun H2 e2 => q _ (e1.trans e2)⟩
    | false =>
      rw [if_neg (by decide)]
      exact q _ e1
end

inductive TpD (H : Hp) : List V → List (List V) → Prop
  | nil : TpD H [] []
  | cons {p : Addr} {r : List V} {xs : List V} {rs : List (List V)} : H p = some (.tup r) → TpD H xs rs → TpD H (.ref p :: xs) (r :: rs)
theorem TpD.same {H H' : Hp} {xs : List V} {rs : List (List V)} (h : TpD H xs rs) (e : Same H H') : TpD H' xs rs := by
  induction h with
  | nil => exact .nil
  | cons a _ ih => exact .cons (e _ _ a) ih
theorem TpD.upd {H : Hp} {l : Addr} {ys zs : List V} {xs : List V} {rs : List (List V)} (h : TpD H xs rs) (hl : H l = some (.lst ys)) : TpD (upd H l (.lst zs)) xs rs := by
  induction h with
  | nil => exact .nil
  | @cons p r xs rs a _ ih =>
    refine .cons ?_ ih
    have n : p ≠ l := fun e => by rw [e, hl] at a; cases a
    rw [upd_ne n]
    exact a
theorem TpD.snoc {H : Hp} {xs : List V} {rs : List (List V)} {p : Addr} {r : List V} (h : TpD H xs rs) (e : H p = some (.tup r)) : TpD H (xs ++ [.ref p]) (rs ++ [r]) := by
  induction h with
  | nil => exact .cons e .nil
  | cons a _ ih => exact .cons a ih
theorem TpD.length {H : Hp} {xs : List V} {rs : List (List V)} (h : TpD H xs rs) : xs.length = rs.length := by
  induction h with
  | nil => rfl
  | cons _ _ ih => rw [List.length_cons, List.length_cons, ih]
theorem TpD.at {H : Hp} {xs : List V} {rs : List (List V)} (h : TpD H xs rs) : ∀ {i : Nat} {r : List V}, rs[i]? = some r → ∃ p, xs[i]? = some (.ref p) ∧ H p = some (.tup r) := by
  induction h with
  | nil => intro i x e; simp at e
  | cons a _ ih =>
    intro i x e
    cases i with
    | zero => cases e; exact ⟨_, rfl, a⟩
    | succ i => exact ih e
abbrev Kd2 : Type := List Nat × List Nat
def kRow (k : Kd2) : List V := [.str (txt k.1), .str (txt k.2)]

abbrev lettersS : Str := "abcdefghijklmnopqrstuvwxyz"
theorem letters_at : ∀ r : Nat, r < 26 → lettersS.cps.toList[r]? = some (97 + r) := by decide +kernel
theorem low_of {r : Nat} (h : r < 26) : isLow (97 + r) = true := by
  unfold isLow
  rw [decide_eq_true (by omega), decide_eq_true (by omega)]
  rfl
def mix3 (n k m : Int) : Int := (n % 2147483647 + 1) * (16807 + 48271 * k * k) % 2147483629 * 69621 % 2147483587 % m
theorem mix3_in (n k : Int) {m : Int} (h : 0 < m) : 0 ≤ mix3 n k m ∧ mix3 n k m < m := ⟨Int.emod_nonneg _ (by omega), Int.emod_lt_of_pos _ h⟩
def spMix3 : Sp := fun vs H Q _ => ∃ n k m : Int, vs = [.int n, .int k, .int m] ∧ 0 ≤ k ∧ k ≤ 200 ∧ 0 < m ∧ Q (.int (mix3 n k m)) H
def spWords (K : PySem.W.Frag) : Sp := fun vs H Q _ => ∃ c : Int, vs = [.int c, .int 7] ∧ 0 ≤ c ∧ ∀ (l : Addr) (H' : Hp) (ws : List (List Nat)), Same H H' → H l = none → H' l = some (.lst (ws.map fun w => V.str (txt w))) → ws.length = 7 → (∀ w ∈ ws, nameB w = true) → Q (.ref l) H'
def spKinds3 (K : PySem.W.Frag) : Sp := fun vs H Q _ => ∃ (c : Int) (wl : Addr) (ws : List (List Nat)), vs = [.int c, .ref wl] ∧ 0 ≤ c ∧ H wl = some (.lst (ws.map fun w => V.str (txt w))) ∧ ws.length = 7 ∧ (∀ w ∈ ws, nameB w = true) ∧
  ∀ (l : Addr) (xs : List V) (ks : List Kd2) (H' : Hp), Same H H' → H l = none → H' l = some (.lst xs) → TpD H' xs (ks.map kRow) → 1 ≤ ks.length → ks.length ≤ 4 → (∀ k ∈ ks, nameB k.1 = true ∧ nameB k.2 = true) → Q (.ref l) H'
section
variable {P : Program} {w : World} {K : PySem.W.Frag} {mg : Str → Option Value} {base : Heap} {f : Addr} {fd : FuncData}
theorem ok_law_mix (F : Fun K "_law_mix" "_law_mix" s_law_mix f fd) (M : Mg mg) : FnOk P w K mg base CX0 1 f fd ["_law_number", "_law_k", "_law_many"] spMix3 := by
  refine F.ok sc_law_mix (fun vs H Q E h => ?_) (fun cdv A outer s H vs Q E hr h => ?_)
  · obtain ⟨n, k, m, rfl, _⟩ := h
    rfl
  obtain ⟨n, k, m, rfl, k0, k1, m0, q⟩ := h
  refine ⟨_, (@pss_cons _ _ _ _ _ (@ps_set _ _ 0 _ _ _ _ sc_law_mix.nd rfl l_law_mix_0 (@pe_op _ _ _ _ _ _ _ _ (@op_mod _) (@pe_op _ _ _ _ _ _ _ _ (@op_mulB _) (@pe_op _ _ _ _ _ _ _ _ (@op_add _) (@pe_op _ _ _ _ _ _ _ _ (@op_mod _) (@pe_var _ 0 _ _ rfl v_law_mix_0 dn__law_number dc__law_number) (@pe_int _ _ _ _)) (@pe_int _ _ _ _)) (@pe_op _ _ _ _ _ _ _ _ (@op_add _) (@pe_int _ _ _ _) (@pe_op _ _ _ _ _ _ _ _ (@op_mulB _) (@pe_op _ _ _ _ _ _ _ _ (@op_mulB _) (@pe_int _ _ _ _) (@pe_var _ 1 _ _ rfl v_law_mix_1 dn__law_k dc__law_k)) (@pe_var _ 1 _ _ rfl v_law_mix_1 dn__law_k dc__law_k)))) (@pe_int _ _ _ _)) (swap1 rfl) (.inl rfl)) (@pss_one _ _ _ (@ps_ret _ _ _ _ (@pe_op _ _ _ _ _ _ _ _ (@op_mod _) (@pe_op _ _ _ _ _ _ _ _ (@op_mod _) (@pe_op _ _ _ _ _ _ _ _ (@op_mulB _) (@pe_var _ 0 _ _ rfl v_law_mix_0 dn__law_number dc__law_number) (@pe_int _ _ _ _)) (@pe_int _ _ _ _)) (@pe_var _ 2 _ _ rfl v_law_mix_2 dn__law_many dc__law_many))))), ?_⟩
  simp only [tTurn, rTurnT, tTryS, rCountT, rPop, rRep, tCont, iZipT, tChain3, tFld, sFld, tMake, tMake0, tMethD, tBM0, rUpper, tDict1T, tTryN, rSlS, rMulS, rCatS, iZipL, rInsert, rReverse, tDNewX, tTry, tRaise, iEnumL, iEnumT, iZip, iSeq, iOr, rIx, iStr, rLeS, rJoin, rSlTA, tComp_eq, tComp1, slots, Option.getD_some, Option.getD_none, tYes, tSeq, tAsg, gName, tOp, tUn, tC, tVar, tCB, tCons, tNil, tCall, rI, rI0, rU, tRet, tRetN, tIfS, tTest, tB, tAnd, tOr, tNot, tAndV, tOrV, tNotV, tIf, tChain, tMenu, tPar, tDrop, tTup, tLst, tNext, tSl, tPart, tNoPart, tNever, gTup, gCons, gNil, gSub, rSetL, tBM, rAppend, rEq, rNe, rIsi, rIxL, rIxT, rIxS, rSlL, isi_non_bl, isi_non_int, isi_non_str, isi_non_lst, isi_non_tup, isi_bl_bl, isi_bl_int, isi_bl_str, isi_bl_lst, isi_bl_tup, isi_int_bl, isi_int_int, isi_int_str, isi_int_lst, isi_int_tup, isi_str_bl, isi_str_int, isi_str_str, isi_str_lst, isi_str_tup, isi_lst_bl, isi_lst_int, isi_lst_str, isi_lst_lst, isi_lst_tup, isi_tup_bl, isi_tup_int, isi_tup_str, isi_tup_lst, isi_tup_tup, isi_dct_bl, isi_dct_int, isi_dct_str, isi_dct_lst, isi_dct_tup, Kd_non, Kd_bl, Kd_int, Kd_str, sc_non_non, sc_non_int, sc_int_non, sc_non_bl, sc_bl_non, sc_non_str, sc_str_non, sc_int_int, sc_bl_bl, sc_str_str, sc_int_str, sc_str_int, sc_bl_str, sc_str_bl, decide_true, decide_false, tFor_eq, iList, iTup, iRng1, iRng2, iRng3, rIndexT, tBM0, tBMT, tyK_int, tyK_bool, tyK_str, tyK_list, tyK_tuple, L2.start, cxK, Int.reduceToNat, List.map_cons, List.map_nil, List.length_cons, List.length_nil, Nat.reduceAdd, Nat.reduceSub, Nat.zero_add, List.replicate_succ, List.replicate_zero, List.cons_append, List.nil_append, List.append_nil, List.getElem?_cons_zero, List.getElem?_cons_succ, List.set_cons_zero, List.set_cons_succ, Option.some.injEq, V.int.injEq, V.bl.injEq, V.ref.injEq, V.str.injEq, V.ty.injEq, List.cons.injEq, exists_eq_left', exists_eq_left, exists_eq_right, exists_and_left, exists_and_right, and_true, true_and, and_assoc, exists_const, decide_eq_true_eq, Bool.not_eq_true', Bool.not_true, Bool.not_false, Bool.not_not, decide_eq_false_iff_not, ite_not, Bool.false_eq_true, if_true, if_false, reduceCtorEq, and_false, false_and, exists_false, or_false, false_or, ↓reduceIte, eq_self, reduceIte]
  have kk : 0 ≤ 48271 * k * k ∧ 48271 * k * k ≤ 48271 * 200 * 200 := ⟨Int.mul_nonneg (by omega) k0, Int.mul_le_mul (by omega) k1 k0 (by omega)⟩
  have e1 := Int.emod_nonneg n (show (2147483647 : Int) ≠ 0 by decide)
  have e2 := Int.emod_lt_of_pos n (show (0 : Int) < 2147483647 by decide)
  have f1 := Int.emod_nonneg ((n % 2147483647 + 1) * (16807 + 48271 * k * k)) (show (2147483629 : Int) ≠ 0 by decide)
  have f2 := Int.emod_lt_of_pos ((n % 2147483647 + 1) * (16807 + 48271 * k * k)) (show (0 : Int) < 2147483629 by decide)
  have big : (48271 * 200 * 200 + 2147483647 + 16807 : Int) ≤ 10 ^ 61 := by decide
  exact ⟨by decide, cmul (by decide) (by decide) (by omega) (by omega), cmul (by omega) (by omega) (by omega) (by omega), cmul (by omega) (by omega) (by omega) (by omega), by decide, cmul (by omega) (by omega) (by decide) (by decide), by decide, m0, q⟩
theorem ok_law_words (F : Fun K "_law_words" "_law_words" s_law_words f fd) (M : Mg mg) : FnOk P w K mg base CX0 1 f fd ["_law_cell_here", "_law_many"] (spWords K) := by
  refine F.ok sc_law_words (fun vs H Q E h => ?_) (fun cdv A outer s H vs Q E hr h => ?_)
  · obtain ⟨c, rfl, _⟩ := h
    rfl
  obtain ⟨c, rfl, c0, q⟩ := h
  refine ⟨_, (@pss_cons _ _ _ _ _ (@ps_set _ _ 2 _ _ _ _ sc_law_words.nd rfl l_law_words_2 (@pe_str _ _ _ _) (swap1 rfl) (.inl rfl)) (@pss_cons _ _ _ _ _ (@ps_set _ _ 3 _ _ _ _ sc_law_words.nd rfl l_law_words_3 (@pe_comp _ _ _ _ _ _ _ _ _ _ _ _ _ _ _ rfl (CompOk.make (N' := ["_law_cell_here", "_law_k"]) (ix := [0]) (nl := 1) (by rfl) (fm1 rfl fm0) (by rfl) (by decide +kernel) rfl (by decide +kernel) rfl (And.intro ⟨rfl, .inl rfl, .inl rfl⟩ True.intro)) (@pi_range1 _ _ _ _ _ _ g_law_words_range M.m_range (@pa_cons _ _ _ _ _ (@pe_int _ _ _ _) (@pa_nil _) (star1 rfl)) (star1' rfl)) (fun _ _ _ _ _ => (@pg_name _ _ 1 _ (show List.Nodup (["_law_cell_here", "_law_k"] : List Str) from by decide) rfl (Or.inl rfl) (by first | exact .inl rfl | exact .inr rfl | assumption))) (fun _ _ _ _ _ => (@pif_nil _)) (fun _ _ _ _ _ => (@pe_op _ _ _ _ _ _ _ _ (@op_mod _) (@pe_op _ _ _ _ _ _ _ _ (@op_add _) (@pe_op _ _ _ _ _ _ _ _ (@op_fdivB _) (@pe_op _ _ _ _ _ _ _ _ (@op_fdivB _) (@pv _ 0 _ _ (by rfl) (by first | exact Or.inl rfl | exact Or.inr (Or.inl rfl) | exact Or.inr (Or.inr rfl)) (by decide) (by decide)) (@pe_int _ _ _ _)) (@pe_op _ _ _ _ _ _ _ _ (@op_add _) (@pv _ 1 _ _ (by rfl) (by first | exact Or.inl rfl | exact Or.inr (Or.inl rfl) | exact Or.inr (Or.inr rfl)) (by decide) (by decide)) (@pe_int _ _ _ _))) (@pe_op _ _ _ _ _ _ _ _ (@op_mulB _) (@pv _ 1 _ _ (by rfl) (by first | exact Or.inl rfl | exact Or.inr (Or.inl rfl) | exact Or.inr (Or.inr rfl)) (by decide) (by decide)) (@pv _ 1 _ _ (by rfl) (by first | exact Or.inl rfl | exact Or.inr (Or.inl rfl) | exact Or.inr (Or.inr rfl)) (by decide) (by decide)))) (@pe_int _ _ _ _))) (by intro _; rfl)) (by rfl) (.inl rfl)) (@pss_cons _ _ _ _ _ (@ps_set _ _ 4 _ _ _ _ sc_law_words.nd rfl l_law_words_4 (@pe_op _ _ _ _ _ _ _ _ (@op_add _) (@pe_int _ _ _ _) (@pe_op _ _ _ _ _ _ _ _ (@op_mod _) (@pe_var _ 0 _ _ rfl v_law_words_0 dn__law_cell_here dc__law_cell_here) (@pe_int _ _ _ _))) (swap1 rfl) (.inl rfl)) (@pss_cons _ _ _ _ _ (@ps_set _ _ 5 _ _ _ _ sc_law_words.nd rfl l_law_words_5 (@pe_op _ _ _ _ _ _ _ _ (@op_mod _) (@pe_op _ _ _ _ _ _ _ _ (@op_fdivB _) (@pe_var _ 0 _ _ rfl v_law_words_0 dn__law_cell_here dc__law_cell_here) (@pe_int _ _ _ _)) (@pe_var _ 4 _ _ rfl v_law_words_4 dn__law_size dc__law_size)) (swap1 rfl) (.inl rfl)) (@pss_cons _ _ _ _ _ (@ps_set _ _ 6 _ _ _ _ sc_law_words.nd rfl l_law_words_6 (@pe_lst _ _ _ _ (@pa_nil _)) (swap1 rfl) (.inl rfl)) (@pss_cons _ _ _ _ _ (@ps_for _ _ _ _ _ _ _ _ PassesOwn.never rfl (@pi_range1 _ _ _ _ _ _ g_law_words_range M.m_range (@pa_cons _ _ _ _ _ (@pe_var _ 1 _ _ rfl v_law_words_1 dn__law_many dc__law_many) (@pa_nil _) (star1 rfl)) (star1' rfl)) (@pg_name _ _ 7 _ sc_law_words.nd rfl l_law_words_7 (.inl rfl)) (@pss_cons _ _ _ _ _ (@ps_set _ _ 8 _ _ _ _ sc_law_words.nd rfl l_law_words_8 (@pe_str _ _ _ _) (swap1 rfl) (.inl rfl)) (@pss_cons _ _ _ _ _ (@ps_for _ _ _ _ _ _ _ _ PassesOwn.never rfl (@pi_range1 _ _ _ _ _ _ g_law_words_range M.m_range (@pa_cons _ _ _ _ _ (@pe_var _ 4 _ _ rfl v_law_words_4 dn__law_size dc__law_size) (@pa_nil _) (star1 rfl)) (star1' rfl)) (@pg_name _ _ 9 _ sc_law_words.nd rfl l_law_words_9 (.inl rfl)) (@pss_one _ _ _ (@ps_set _ _ 8 _ _ _ _ sc_law_words.nd rfl l_law_words_8 (@pe_op _ _ _ _ _ _ _ _ op_catS (@pe_var _ 8 _ _ rfl v_law_words_8 dn__law_word dc__law_word) (@pe_ix _ _ _ _ _ _ _ ix_str (@pe_var _ 2 _ _ rfl v_law_words_2 dn__law_letters dc__law_letters) (@pe_op _ _ _ _ _ _ _ _ (@op_mod _) (@pe_op _ _ _ _ _ _ _ _ (@op_add _) (@pe_ix _ _ _ _ _ _ _ (@ix_list _) (@pe_var _ 3 _ _ rfl v_law_words_3 dn__law_base dc__law_base) (@pe_var _ 9 _ _ rfl v_law_words_9 dn__law_j dc__law_j) (fun _ _ => rfl)) (@pe_op _ _ _ _ _ _ _ _ (@op_mulB _) (@pe_var _ 7 _ _ rfl v_law_words_7 dn__law_k dc__law_k) (@pe_callTy _ _ _ _ _ _ _ _ _ call_int_bl g_law_words_int M.m_int b_int (@pa_cons _ _ _ _ _ (@pe_cmpR _ _ _ _ _ _ _ _ (@op_eq _) (@pe_var _ 9 _ _ rfl v_law_words_9 dn__law_j dc__law_j) (@pe_var _ 5 _ _ rfl v_law_words_5 dn__law_at dc__law_at) (nomark _)) (@pa_nil _) (star1 rfl)) nn_int dn_int (star1 rfl) nost0))) (@pe_int _ _ _ _)) (fun _ _ => rfl))) (swap1 rfl) (.inl rfl))) (by intro _; rfl)) (@pss_cons _ _ _ _ _ (@ps_if _ _ _ _ _ _ _ _ (@pt_cmpR _ _ _ _ _ _ _ _ (@op_eq _) (@pe_op _ _ _ _ _ _ _ _ (@op_mod _) (@pe_op _ _ _ _ _ _ _ _ (@op_fdivB _) (@pe_var _ 0 _ _ rfl v_law_words_0 dn__law_cell_here dc__law_cell_here) (@pe_int _ _ _ _)) (@pe_int _ _ _ _)) (@pe_int _ _ _ _) (nomark _)) (@pss_one _ _ _ (@ps_set _ _ 8 _ _ _ _ sc_law_words.nd rfl l_law_words_8 (@pe_bm _ _ _ _ _ _ _ _ _ _ _ _ PySem.F.plainAttrs_str PySem.F.slot_str_join PySem.F.type_str_join mt_join (@pe_str _ _ _ _) (@pa_cons _ _ _ _ _ (@pe_comp _ _ _ _ _ _ _ _ _ _ _ _ _ _ _ rfl (CompOk.make (N' := ["_law_letters", "_law_base", "_law_j"]) (ix := [2, 3]) (nl := 1) (by rfl) (fm1 rfl (fm1 rfl fm0)) (by rfl) (by decide +kernel) rfl (by decide +kernel) rfl (And.intro ⟨rfl, .inl rfl, .inl rfl⟩ (And.intro ⟨rfl, .inl rfl, .inl rfl⟩ True.intro))) (@pi_range1 _ _ _ _ _ _ g_law_words_range M.m_range (@pa_cons _ _ _ _ _ (@pe_op _ _ _ _ _ _ _ _ (@op_add _) (@pe_var _ 7 _ _ rfl v_law_words_7 dn__law_k dc__law_k) (@pe_int _ _ _ _)) (@pa_nil _) (star1 rfl)) (star1' rfl)) (fun _ _ _ _ _ => (@pg_name _ _ 2 _ (show List.Nodup (["_law_letters", "_law_base", "_law_j"] : List Str) from by decide) rfl (Or.inl rfl) (by first | exact .inl rfl | exact .inr rfl | assumption))) (fun _ _ _ _ _ => (@pif_nil _)) (fun _ _ _ _ _ => (@pe_ix _ _ _ _ _ _ _ ix_str (@pv _ 0 _ _ (by rfl) (by first | exact Or.inl rfl | exact Or.inr (Or.inl rfl) | exact Or.inr (Or.inr rfl)) (by decide) (by decide)) (@pe_ix _ _ _ _ _ _ _ (@ix_listK _ K rfl) (@pv _ 1 _ _ (by rfl) (by first | exact Or.inl rfl | exact Or.inr (Or.inl rfl) | exact Or.inr (Or.inr rfl)) (by decide) (by decide)) (@pv _ 2 _ _ (by rfl) (by first | exact Or.inl rfl | exact Or.inr (Or.inl rfl) | exact Or.inr (Or.inr rfl)) (by decide) (by decide)) (fun _ _ => rfl)) (fun _ _ => rfl))) (by intro _; rfl)) (@pa_nil _) (star1 rfl)) (by rfl) (by rfl) (by rfl) (by rfl) (by rfl)) (swap1 rfl) (.inl rfl))) (@pss_nil _)) (@pss_one _ _ _ (@ps_expr _ _ _ _ (@pe_bm _ _ _ _ _ _ _ _ _ _ _ _ PySem.F.plainAttrs_list PySem.F.slot_list_append PySem.F.type_list_append mt_append (@pe_var _ 6 _ _ rfl v_law_words_6 dn__law_words_here dc__law_words_here) (@pa_cons _ _ _ _ _ (@pe_var _ 8 _ _ rfl v_law_words_8 dn__law_word dc__law_word) (@pa_nil _) (star1 rfl)) (by rfl) (by rfl) (by rfl) (by rfl) (by rfl)) (swap1 rfl)))))) (by intro _; rfl)) (@pss_one _ _ _ (@ps_ret _ _ _ _ (@pe_var _ 6 _ _ rfl v_law_words_6 dn__law_words_here dc__law_words_here))))))))), ?_⟩
  simp only [tTurn, rTurnT, tTryS, rCountT, rPop, rRep, tCont, iZipT, tChain3, tFld, sFld, tMake, tMake0, tMethD, tBM0, rUpper, tDict1T, tTryN, rSlS, rMulS, rCatS, iZipL, rInsert, rReverse, tDNewX, tTry, tRaise, iEnumL, iEnumT, iZip, iSeq, iOr, rIx, iStr, rLeS, rJoin, rSlTA, tComp_eq, tComp1, slots, Option.getD_some, Option.getD_none, tYes, tSeq, tAsg, gName, tOp, tUn, tC, tVar, tCB, tCons, tNil, tCall, rI, rI0, rU, tRet, tRetN, tIfS, tTest, tB, tAnd, tOr, tNot, tAndV, tOrV, tNotV, tIf, tChain, tMenu, tPar, tDrop, tTup, tLst, tNext, tSl, tPart, tNoPart, tNever, gTup, gCons, gNil, gSub, rSetL, tBM, rAppend, rEq, rNe, rIsi, rIxL, rIxT, rIxS, rSlL, isi_non_bl, isi_non_int, isi_non_str, isi_non_lst, isi_non_tup, isi_bl_bl, isi_bl_int, isi_bl_str, isi_bl_lst, isi_bl_tup, isi_int_bl, isi_int_int, isi_int_str, isi_int_lst, isi_int_tup, isi_str_bl, isi_str_int, isi_str_str, isi_str_lst, isi_str_tup, isi_lst_bl, isi_lst_int, isi_lst_str, isi_lst_lst, isi_lst_tup, isi_tup_bl, isi_tup_int, isi_tup_str, isi_tup_lst, isi_tup_tup, isi_dct_bl, isi_dct_int, isi_dct_str, isi_dct_lst, isi_dct_tup, Kd_non, Kd_bl, Kd_int, Kd_str, sc_non_non, sc_non_int, sc_int_non, sc_non_bl, sc_bl_non, sc_non_str, sc_str_non, sc_int_int, sc_bl_bl, sc_str_str, sc_int_str, sc_str_int, sc_bl_str, sc_str_bl, decide_true, decide_false, tFor_eq, iList, iTup, iRng1, iRng2, iRng3, rIndexT, tBM0, tBMT, tyK_int, tyK_bool, tyK_str, tyK_list, tyK_tuple, L2.start, cxK, Int.reduceToNat, List.map_cons, List.map_nil, List.length_cons, List.length_nil, Nat.reduceAdd, Nat.reduceSub, Nat.zero_add, List.replicate_succ, List.replicate_zero, List.cons_append, List.nil_append, List.append_nil, List.getElem?_cons_zero, List.getElem?_cons_succ, List.set_cons_zero, List.set_cons_succ, Option.some.injEq, V.int.injEq, V.bl.injEq, V.ref.injEq, V.str.injEq, V.ty.injEq, List.cons.injEq, exists_eq_left', exists_eq_left, exists_eq_right, exists_and_left, exists_and_right, and_true, true_and, and_assoc, exists_const, decide_eq_true_eq, Bool.not_eq_true', Bool.not_true, Bool.not_false, Bool.not_not, decide_eq_false_iff_not, ite_not, Bool.false_eq_true, if_true, if_false, reduceCtorEq, and_false, false_and, exists_false, or_false, false_or, ↓reduceIte, eq_self, reduceIte]
  refine ⟨by decide, by decide, fun D hD => ?_⟩
  obtain ⟨Pc, hC⟩ : ∃ Pc : Nat → St → Hp → Prop, Pc = fun i τ H' => ∃ (z : Option V) (bs : List Int), H' D = some (.lst (bs.map V.int)) ∧ bs.length = i ∧ (∀ b ∈ bs, 0 ≤ b ∧ b < 26) ∧ Same H H' ∧ τ = [some (.int c), z] := ⟨_, rfl⟩
  refine compS_range Pc ?_ ?_ ?_
  · rw [hC]
    exact ⟨_, [], upd_same, rfl, (fun b hb => by cases hb), same_new hD _, rfl⟩
  · intro i τ H' R' hi h next
    rw [hC] at h
    obtain ⟨z, bs, d1, lb, b26, d2, rfl⟩ := h
    simp only [tTurn, rTurnT, tTryS, rCountT, rPop, rRep, tCont, iZipT, tChain3, tFld, sFld, tMake, tMake0, tMethD, tBM0, rUpper, tDict1T, tTryN, rSlS, rMulS, rCatS, iZipL, rInsert, rReverse, tDNewX, tTry, tRaise, iEnumL, iEnumT, iZip, iSeq, iOr, rIx, iStr, rLeS, rJoin, rSlTA, tComp_eq, tComp1, slots, Option.getD_some, Option.getD_none, tYes, tSeq, tAsg, gName, tOp, tUn, tC, tVar, tCB, tCons, tNil, tCall, rI, rI0, rU, tRet, tRetN, tIfS, tTest, tB, tAnd, tOr, tNot, tAndV, tOrV, tNotV, tIf, tChain, tMenu, tPar, tDrop, tTup, tLst, tNext, tSl, tPart, tNoPart, tNever, gTup, gCons, gNil, gSub, rSetL, tBM, rAppend, rEq, rNe, rIsi, rIxL, rIxT, rIxS, rSlL, isi_non_bl, isi_non_int, isi_non_str, isi_non_lst, isi_non_tup, isi_bl_bl, isi_bl_int, isi_bl_str, isi_bl_lst, isi_bl_tup, isi_int_bl, isi_int_int, isi_int_str, isi_int_lst, isi_int_tup, isi_str_bl, isi_str_int, isi_str_str, isi_str_lst, isi_str_tup, isi_lst_bl, isi_lst_int, isi_lst_str, isi_lst_lst, isi_lst_tup, isi_tup_bl, isi_tup_int, isi_tup_str, isi_tup_lst, isi_tup_tup, isi_dct_bl, isi_dct_int, isi_dct_str, isi_dct_lst, isi_dct_tup, Kd_non, Kd_bl, Kd_int, Kd_str, sc_non_non, sc_non_int, sc_int_non, sc_non_bl, sc_bl_non, sc_non_str, sc_str_non, sc_int_int, sc_bl_bl, sc_str_str, sc_int_str, sc_str_int, sc_bl_str, sc_str_bl, decide_true, decide_false, tFor_eq, iList, iTup, iRng1, iRng2, iRng3, rIndexT, tBM0, tBMT, tyK_int, tyK_bool, tyK_str, tyK_list, tyK_tuple, L2.start, cxK, Int.reduceToNat, List.map_cons, List.map_nil, List.length_cons, List.length_nil, Nat.reduceAdd, Nat.reduceSub, Nat.zero_add, List.replicate_succ, List.replicate_zero, List.cons_append, List.nil_append, List.append_nil, List.getElem?_cons_zero, List.getElem?_cons_succ, List.set_cons_zero, List.set_cons_succ, Option.some.injEq, V.int.injEq, V.bl.injEq, V.ref.injEq, V.str.injEq, V.ty.injEq, List.cons.injEq, exists_eq_left', exists_eq_left, exists_eq_right, exists_and_left, exists_and_right, and_true, true_and, and_assoc, exists_const, decide_eq_true_eq, Bool.not_eq_true', Bool.not_true, Bool.not_false, Bool.not_not, decide_eq_false_iff_not, ite_not, Bool.false_eq_true, if_true, if_false, reduceCtorEq, and_false, false_and, exists_false, or_false, false_or, ↓reduceIte, eq_self, reduceIte]
    have hi' : i < 8 := hi
    have e61 : (100 : Int) ≤ 10 ^ 61 := by decide
    refine ⟨cdiv (by decide) (by decide), cdiv (by omega) (by omega), cmul (by omega) (by omega) (by omega) (by omega), by decide, _, d1, by rw [List.length_map]; exact Nat.lt_of_lt_of_le (m := 64) (by omega) (by decide), next _ _ ?_⟩
    rw [hC]
    have r0 := Int.emod_nonneg (c / 8 / (0 + (i : Int) + 1) + (0 + (i : Int)) * (0 + (i : Int))) (show (26 : Int) ≠ 0 by decide)
    have r1 := Int.emod_lt_of_pos (c / 8 / (0 + (i : Int) + 1) + (0 + (i : Int)) * (0 + (i : Int))) (show (0 : Int) < 26 by decide)
    obtain ⟨bv, hbv⟩ : ∃ bv : Int, (c / 8 / (0 + (i : Int) + 1) + (0 + (i : Int)) * (0 + (i : Int))) % 26 = bv := ⟨_, rfl⟩
    rw [hbv] at r0 r1 ⊢
    refine ⟨_, bs ++ [bv], by rw [upd_same, List.map_append]; rfl, by rw [List.length_append, lb]; rfl, fun b hb => ?_, same_upd d2 hD _, rfl⟩
    rcases List.mem_append.mp hb with h | h
    · exact b26 b h
    · rw [List.mem_singleton.mp h]
      exact ⟨r0, r1⟩
  intro τ H1 h
  rw [hC] at h
  obtain ⟨z, bs, LB, lb, b26, S1, rfl⟩ := h
  clear hC Pc
  have lb8 : bs.length = 8 := lb
  obtain ⟨sz, hsz, sz1, sz8⟩ : ∃ sz : Nat, 1 + c % 8 = sz ∧ 1 ≤ sz ∧ sz ≤ 8 := ⟨(1 + c % 8).toNat, by omega, by omega, by omega⟩
  refine ⟨by decide, cdiv (by decide) (by decide), by omega, by decide, fun l hl => ⟨by decide, by decide, ?_⟩⟩
  rw [hsz]
  obtain ⟨at', hat⟩ : ∃ at' : Int, c / 8 % (sz : Int) = at' := ⟨_, rfl⟩
  rw [hat]
  obtain ⟨H2, g2, S2, LL⟩ : ∃ H2, H2 = upd H1 l (.lst []) ∧ Same H1 H2 ∧ H2 l = some (.lst []) := ⟨_, rfl, same_new hl _, upd_same⟩
  rw [← g2]
  clear g2
  have B : ∀ j : Nat, j < 8 → ∃ b : Nat, bs[j]? = some (b : Int) ∧ b < 26 := fun j hj => by
    have e := List.getElem?_eq_getElem (show j < bs.length by omega)
    have := b26 _ (List.getElem_mem (show j < bs.length by omega))
    exact ⟨(bs[j]'(by omega)).toNat, by rw [e]; congr 1; omega, by omega⟩
  obtain ⟨Pv, hP⟩ : ∃ Pv : Nat → St → Hp → Prop, Pv = fun k σ H' => ∃ (ws : List (List Nat)) (y7 y8 y9 : Option V), H' l = some (.lst (ws.map fun w => V.str (txt w))) ∧ ws.length = k ∧ (∀ w ∈ ws, nameB w = true) ∧ Same H1 H' ∧ σ = [some (V.int c), some (V.int 7), some (V.str lettersS), some (V.ref D), some (V.int sz), some (V.int at'), some (V.ref l), y7, y8, y9] := ⟨_, rfl⟩
  refine forW_range Pv ?_ ?_ ?_
  · rw [hP]
    exact ⟨[], _, _, _, LL, rfl, (fun w hw => by cases hw), S2, rfl⟩
  · intro k σ H' hk h
    rw [hP] at h
    obtain ⟨ws, y7, y8, y9, dl, lw, nw, e, rfl⟩ := h
    have hk' : k < 7 := hk
    simp only [tTurn, rTurnT, tTryS, rCountT, rPop, rRep, tCont, iZipT, tChain3, tFld, sFld, tMake, tMake0, tMethD, tBM0, rUpper, tDict1T, tTryN, rSlS, rMulS, rCatS, iZipL, rInsert, rReverse, tDNewX, tTry, tRaise, iEnumL, iEnumT, iZip, iSeq, iOr, rIx, iStr, rLeS, rJoin, rSlTA, tComp_eq, tComp1, slots, Option.getD_some, Option.getD_none, tYes, tSeq, tAsg, gName, tOp, tUn, tC, tVar, tCB, tCons, tNil, tCall, rI, rI0, rU, tRet, tRetN, tIfS, tTest, tB, tAnd, tOr, tNot, tAndV, tOrV, tNotV, tIf, tChain, tMenu, tPar, tDrop, tTup, tLst, tNext, tSl, tPart, tNoPart, tNever, gTup, gCons, gNil, gSub, rSetL, tBM, rAppend, rEq, rNe, rIsi, rIxL, rIxT, rIxS, rSlL, isi_non_bl, isi_non_int, isi_non_str, isi_non_lst, isi_non_tup, isi_bl_bl, isi_bl_int, isi_bl_str, isi_bl_lst, isi_bl_tup, isi_int_bl, isi_int_int, isi_int_str, isi_int_lst, isi_int_tup, isi_str_bl, isi_str_int, isi_str_str, isi_str_lst, isi_str_tup, isi_lst_bl, isi_lst_int, isi_lst_str, isi_lst_lst, isi_lst_tup, isi_tup_bl, isi_tup_int, isi_tup_str, isi_tup_lst, isi_tup_tup, isi_dct_bl, isi_dct_int, isi_dct_str, isi_dct_lst, isi_dct_tup, Kd_non, Kd_bl, Kd_int, Kd_str, sc_non_non, sc_non_int, sc_int_non, sc_non_bl, sc_bl_non, sc_non_str, sc_str_non, sc_int_int, sc_bl_bl, sc_str_str, sc_int_str, sc_str_int, sc_bl_str, sc_str_bl, decide_true, decide_false, tFor_eq, iList, iTup, iRng1, iRng2, iRng3, rIndexT, tBM0, tBMT, tyK_int, tyK_bool, tyK_str, tyK_list, tyK_tuple, L2.start, cxK, Int.reduceToNat, List.map_cons, List.map_nil, List.length_cons, List.length_nil, Nat.reduceAdd, Nat.reduceSub, Nat.zero_add, List.replicate_succ, List.replicate_zero, List.cons_append, List.nil_append, List.append_nil, List.getElem?_cons_zero, List.getElem?_cons_succ, List.set_cons_zero, List.set_cons_succ, Option.some.injEq, V.int.injEq, V.bl.injEq, V.ref.injEq, V.str.injEq, V.ty.injEq, List.cons.injEq, exists_eq_left', exists_eq_left, exists_eq_right, exists_and_left, exists_and_right, and_true, true_and, and_assoc, exists_const, decide_eq_true_eq, Bool.not_eq_true', Bool.not_true, Bool.not_false, Bool.not_not, decide_eq_false_iff_not, ite_not, Bool.false_eq_true, if_true, if_false, reduceCtorEq, and_false, false_and, exists_false, or_false, false_or, ↓reduceIte, eq_self, reduceIte]
    refine ⟨by omega, by omega, ?_⟩
    rw [Int.toNat_natCast]
    obtain ⟨Pw, hW⟩ : ∃ Pw : Nat → St → Hp → Prop, Pw = fun j σ H2 => ∃ (cs : List Nat) (y9 : Option V), cs.length = j ∧ cs.all isLow = true ∧ Same H' H2 ∧ σ = [some (V.int c), some (V.int 7), some (V.str lettersS), some (V.ref D), some (V.int sz), some (V.int at'), some (V.ref l), some (V.int (0 + k)), some (V.str (txt cs)), y9] := ⟨_, rfl⟩
    refine forW_range Pw ?_ ?_ ?_
    · rw [hW]
      exact ⟨[], _, rfl, rfl, Same.refl _, rfl⟩
    · intro j σ H2 hj h
      rw [hW] at h
      obtain ⟨cs, y9, lc, ac, e2, rfl⟩ := h
      obtain ⟨b, hb, b6⟩ := B j (by omega)
      simp only [tTurn, rTurnT, tTryS, rCountT, rPop, rRep, tCont, iZipT, tChain3, tFld, sFld, tMake, tMake0, tMethD, tBM0, rUpper, tDict1T, tTryN, rSlS, rMulS, rCatS, iZipL, rInsert, rReverse, tDNewX, tTry, tRaise, iEnumL, iEnumT, iZip, iSeq, iOr, rIx, iStr, rLeS, rJoin, rSlTA, tComp_eq, tComp1, slots, Option.getD_some, Option.getD_none, tYes, tSeq, tAsg, gName, tOp, tUn, tC, tVar, tCB, tCons, tNil, tCall, rI, rI0, rU, tRet, tRetN, tIfS, tTest, tB, tAnd, tOr, tNot, tAndV, tOrV, tNotV, tIf, tChain, tMenu, tPar, tDrop, tTup, tLst, tNext, tSl, tPart, tNoPart, tNever, gTup, gCons, gNil, gSub, rSetL, tBM, rAppend, rEq, rNe, rIsi, rIxL, rIxT, rIxS, rSlL, isi_non_bl, isi_non_int, isi_non_str, isi_non_lst, isi_non_tup, isi_bl_bl, isi_bl_int, isi_bl_str, isi_bl_lst, isi_bl_tup, isi_int_bl, isi_int_int, isi_int_str, isi_int_lst, isi_int_tup, isi_str_bl, isi_str_int, isi_str_str, isi_str_lst, isi_str_tup, isi_lst_bl, isi_lst_int, isi_lst_str, isi_lst_lst, isi_lst_tup, isi_tup_bl, isi_tup_int, isi_tup_str, isi_tup_lst, isi_tup_tup, isi_dct_bl, isi_dct_int, isi_dct_str, isi_dct_lst, isi_dct_tup, Kd_non, Kd_bl, Kd_int, Kd_str, sc_non_non, sc_non_int, sc_int_non, sc_non_bl, sc_bl_non, sc_non_str, sc_str_non, sc_int_int, sc_bl_bl, sc_str_str, sc_int_str, sc_str_int, sc_bl_str, sc_str_bl, decide_true, decide_false, tFor_eq, iList, iTup, iRng1, iRng2, iRng3, rIndexT, tBM0, tBMT, tyK_int, tyK_bool, tyK_str, tyK_list, tyK_tuple, L2.start, cxK, Int.reduceToNat, List.map_cons, List.map_nil, List.length_cons, List.length_nil, Nat.reduceAdd, Nat.reduceSub, Nat.zero_add, List.replicate_succ, List.replicate_zero, List.cons_append, List.nil_append, List.append_nil, List.getElem?_cons_zero, List.getElem?_cons_succ, List.set_cons_zero, List.set_cons_succ, Option.some.injEq, V.int.injEq, V.bl.injEq, V.ref.injEq, V.str.injEq, V.ty.injEq, List.cons.injEq, exists_eq_left', exists_eq_left, exists_eq_right, exists_and_left, exists_and_right, and_true, true_and, and_assoc, exists_const, decide_eq_true_eq, Bool.not_eq_true', Bool.not_true, Bool.not_false, Bool.not_not, decide_eq_false_iff_not, ite_not, Bool.false_eq_true, if_true, if_false, reduceCtorEq, and_false, false_and, exists_false, or_false, false_or, ↓reduceIte, eq_self, reduceIte]
      have LB2 := (e.trans e2) _ _ LB
      have aj : atI (bs.map V.int) (0 + (j : Int)) = some (.int (b : Int)) := by
        rw [Int.zero_add]
        exact atI_nat (by rw [List.getElem?_map, hb]; rfl)
      have e61 : (100 : Int) ≤ 10 ^ 61 := by decide
      have m0 := Int.emod_nonneg ((b : Int) + (0 + (k : Int)) * if 0 + (j : Int) = at' then 1 else 0) (show (26 : Int) ≠ 0 by decide)
      have m1 := Int.emod_lt_of_pos ((b : Int) + (0 + (k : Int)) * if 0 + (j : Int) = at' then 1 else 0) (show (0 : Int) < 26 by decide)
      obtain ⟨r, hr', r6⟩ : ∃ r : Nat, ((b : Int) + (0 + (k : Int)) * if 0 + (j : Int) = at' then 1 else 0) % 26 = r ∧ r < 26 := ⟨(((b : Int) + (0 + (k : Int)) * if 0 + (j : Int) = at' then 1 else 0) % 26).toNat, by omega, by omega⟩
      refine ⟨_, SqL.of LB2, _, aj, cmul (by omega) (by omega) (by split <;> omega) (by split <;> omega), _, rfl, by decide, by decide, 97 + r, (by rw [hr']; exact atI_nat (letters_at r r6)), _, rfl, [97 + r], rfl, by show _ + 1 ≤ 1000; omega, ?_⟩
      rw [hW]
      refine ⟨cs ++ [97 + r], _, by rw [List.length_append, lc]; rfl, ?_, e2, rfl⟩
      rw [List.all_append, ac, List.all_cons, low_of r6]
      rfl
    intro σ H2 h
    rw [hW] at h
    obtain ⟨cs, y9, lc, ac, e2, rfl⟩ := h
    clear hW Pw
    have nn : nameB cs = true := by
      unfold nameB
      rw [decide_eq_true (by omega), ac]
      rfl
    simp only [tTurn, rTurnT, tTryS, rCountT, rPop, rRep, tCont, iZipT, tChain3, tFld, sFld, tMake, tMake0, tMethD, tBM0, rUpper, tDict1T, tTryN, rSlS, rMulS, rCatS, iZipL, rInsert, rReverse, tDNewX, tTry, tRaise, iEnumL, iEnumT, iZip, iSeq, iOr, rIx, iStr, rLeS, rJoin, rSlTA, tComp_eq, tComp1, slots, Option.getD_some, Option.getD_none, tYes, tSeq, tAsg, gName, tOp, tUn, tC, tVar, tCB, tCons, tNil, tCall, rI, rI0, rU, tRet, tRetN, tIfS, tTest, tB, tAnd, tOr, tNot, tAndV, tOrV, tNotV, tIf, tChain, tMenu, tPar, tDrop, tTup, tLst, tNext, tSl, tPart, tNoPart, tNever, gTup, gCons, gNil, gSub, rSetL, tBM, rAppend, rEq, rNe, rIsi, rIxL, rIxT, rIxS, rSlL, isi_non_bl, isi_non_int, isi_non_str, isi_non_lst, isi_non_tup, isi_bl_bl, isi_bl_int, isi_bl_str, isi_bl_lst, isi_bl_tup, isi_int_bl, isi_int_int, isi_int_str, isi_int_lst, isi_int_tup, isi_str_bl, isi_str_int, isi_str_str, isi_str_lst, isi_str_tup, isi_lst_bl, isi_lst_int, isi_lst_str, isi_lst_lst, isi_lst_tup, isi_tup_bl, isi_tup_int, isi_tup_str, isi_tup_lst, isi_tup_tup, isi_dct_bl, isi_dct_int, isi_dct_str, isi_dct_lst, isi_dct_tup, Kd_non, Kd_bl, Kd_int, Kd_str, sc_non_non, sc_non_int, sc_int_non, sc_non_bl, sc_bl_non, sc_non_str, sc_str_non, sc_int_int, sc_bl_bl, sc_str_str, sc_int_str, sc_str_int, sc_bl_str, sc_str_bl, decide_true, decide_false, tFor_eq, iList, iTup, iRng1, iRng2, iRng3, rIndexT, tBM0, tBMT, tyK_int, tyK_bool, tyK_str, tyK_list, tyK_tuple, L2.start, cxK, Int.reduceToNat, List.map_cons, List.map_nil, List.length_cons, List.length_nil, Nat.reduceAdd, Nat.reduceSub, Nat.zero_add, List.replicate_succ, List.replicate_zero, List.cons_append, List.nil_append, List.append_nil, List.getElem?_cons_zero, List.getElem?_cons_succ, List.set_cons_zero, List.set_cons_succ, Option.some.injEq, V.int.injEq, V.bl.injEq, V.ref.injEq, V.str.injEq, V.ty.injEq, List.cons.injEq, exists_eq_left', exists_eq_left, exists_eq_right, exists_and_left, exists_and_right, and_true, true_and, and_assoc, exists_const, decide_eq_true_eq, Bool.not_eq_true', Bool.not_true, Bool.not_false, Bool.not_not, decide_eq_false_iff_not, ite_not, Bool.false_eq_true, if_true, if_false, reduceCtorEq, and_false, false_and, exists_false, or_false, false_or, ↓reduceIte, eq_self, reduceIte]
    refine ⟨cdiv (by decide) (by decide), by decide, ?_⟩
    have dl2 := e2 _ _ dl
    have lenw : (ws.map fun w => V.str (txt w)).length < sizeLine := by
      rw [List.length_map]
      exact Nat.lt_of_lt_of_le (m := 64) (by omega) (by decide)
    by_cases h64 : c / 64 % 4 = 1
    · rw [if_pos h64]
      refine ⟨rfl, by omega, by omega, fun D2 hD2 => ?_⟩
      have ek : (0 + (k : Int) + 1).toNat = k + 1 := by omega
      rw [ek]
      obtain ⟨Pd, hQ⟩ : ∃ Pd : Nat → St → Hp → Prop, Pd = fun j τ H3 => ∃ (z : Option V) (ds : List Nat), H3 D2 = some (.lst (ds.map sgn)) ∧ ds.length = j ∧ ds.all isLow = true ∧ Same H2 H3 ∧ τ = [some (.str lettersS), some (.ref D), z] := ⟨_, rfl⟩
      refine compS_range Pd ?_ ?_ ?_
      · rw [hQ]
        exact ⟨_, [], upd_same, rfl, rfl, same_new hD2 _, rfl⟩
      · intro j τ H3 R' hj h next
        rw [hQ] at h
        obtain ⟨z, ds, c1, ld, ad, c2, rfl⟩ := h
        obtain ⟨b, hb, b6⟩ := B j (by omega)
        have LB3 := (e.trans (e2.trans c2)) _ _ LB
        have aj : atI (bs.map V.int) (0 + (j : Int)) = some (.int (b : Int)) := by
          rw [Int.zero_add]
          exact atI_nat (by rw [List.getElem?_map, hb]; rfl)
        simp only [tTurn, rTurnT, tTryS, rCountT, rPop, rRep, tCont, iZipT, tChain3, tFld, sFld, tMake, tMake0, tMethD, tBM0, rUpper, tDict1T, tTryN, rSlS, rMulS, rCatS, iZipL, rInsert, rReverse, tDNewX, tTry, tRaise, iEnumL, iEnumT, iZip, iSeq, iOr, rIx, iStr, rLeS, rJoin, rSlTA, tComp_eq, tComp1, slots, Option.getD_some, Option.getD_none, tYes, tSeq, tAsg, gName, tOp, tUn, tC, tVar, tCB, tCons, tNil, tCall, rI, rI0, rU, tRet, tRetN, tIfS, tTest, tB, tAnd, tOr, tNot, tAndV, tOrV, tNotV, tIf, tChain, tMenu, tPar, tDrop, tTup, tLst, tNext, tSl, tPart, tNoPart, tNever, gTup, gCons, gNil, gSub, rSetL, tBM, rAppend, rEq, rNe, rIsi, rIxL, rIxT, rIxS, rSlL, isi_non_bl, isi_non_int, isi_non_str, isi_non_lst, isi_non_tup, isi_bl_bl, isi_bl_int, isi_bl_str, isi_bl_lst, isi_bl_tup, isi_int_bl, isi_int_int, isi_int_str, isi_int_lst, isi_int_tup, isi_str_bl, isi_str_int, isi_str_str, isi_str_lst, isi_str_tup, isi_lst_bl, isi_lst_int, isi_lst_str, isi_lst_lst, isi_lst_tup, isi_tup_bl, isi_tup_int, isi_tup_str, isi_tup_lst, isi_tup_tup, isi_dct_bl, isi_dct_int, isi_dct_str, isi_dct_lst, isi_dct_tup, Kd_non, Kd_bl, Kd_int, Kd_str, sc_non_non, sc_non_int, sc_int_non, sc_non_bl, sc_bl_non, sc_non_str, sc_str_non, sc_int_int, sc_bl_bl, sc_str_str, sc_int_str, sc_str_int, sc_bl_str, sc_str_bl, decide_true, decide_false, tFor_eq, iList, iTup, iRng1, iRng2, iRng3, rIndexT, tBM0, tBMT, tyK_int, tyK_bool, tyK_str, tyK_list, tyK_tuple, L2.start, cxK, Int.reduceToNat, List.map_cons, List.map_nil, List.length_cons, List.length_nil, Nat.reduceAdd, Nat.reduceSub, Nat.zero_add, List.replicate_succ, List.replicate_zero, List.cons_append, List.nil_append, List.append_nil, List.getElem?_cons_zero, List.getElem?_cons_succ, List.set_cons_zero, List.set_cons_succ, Option.some.injEq, V.int.injEq, V.bl.injEq, V.ref.injEq, V.str.injEq, V.ty.injEq, List.cons.injEq, exists_eq_left', exists_eq_left, exists_eq_right, exists_and_left, exists_and_right, and_true, true_and, and_assoc, exists_const, decide_eq_true_eq, Bool.not_eq_true', Bool.not_true, Bool.not_false, Bool.not_not, decide_eq_false_iff_not, ite_not, Bool.false_eq_true, if_true, if_false, reduceCtorEq, and_false, false_and, exists_false, or_false, false_or, ↓reduceIte, eq_self, reduceIte]
        refine ⟨_, SqL.of LB3, _, aj, _, rfl, by decide, 97 + b, atI_nat (letters_at b b6), _, c1, by rw [List.length_map]; exact Nat.lt_of_lt_of_le (m := 64) (by omega) (by decide), next _ _ ?_⟩
        rw [hQ]
        refine ⟨_, ds ++ [97 + b], ?_, by rw [List.length_append, ld]; rfl, ?_, same_upd c2 hD2 _, rfl⟩
        · rw [upd_same, List.map_append]
          rfl
        · rw [List.all_append, ad, List.all_cons, low_of b6]
          rfl
      intro τ H3 h
      rw [hQ] at h
      obtain ⟨z, ds, c1, ld, ad, c2, rfl⟩ := h
      have nd : nameB ds = true := by
        unfold nameB
        rw [decide_eq_true (by omega), ad]
        rfl
      refine ⟨_, rfl, ds, SqL.of c1, by omega, .inl ⟨rfl, _, SqL.of (c2 _ _ dl2)⟩, _, c2 _ _ dl2, lenw, ?_⟩
      rw [hP]
      refine ⟨ws ++ [ds], _, _, _, by rw [upd_same, List.map_append]; rfl, by rw [List.length_append, lw]; rfl, fun w hw => ?_, same_upd (e.trans (e2.trans c2)) hl _, rfl⟩
      rcases List.mem_append.mp hw with h | h
      · exact nw w h
      · rw [List.mem_singleton.mp h]
        exact nd
    · rw [if_neg h64]
      refine ⟨.inl ⟨rfl, _, SqL.of dl2⟩, _, dl2, lenw, ?_⟩
      rw [hP]
      refine ⟨ws ++ [cs], _, _, _, by rw [upd_same, List.map_append]; rfl, by rw [List.length_append, lw]; rfl, fun w hw => ?_, same_upd (e.trans e2) hl _, rfl⟩
      rcases List.mem_append.mp hw with h | h
      · exact nw w h
      · rw [List.mem_singleton.mp h]
        exact nn
  · intro σ H' h
    rw [hP] at h
    obtain ⟨ws, y7, y8, y9, dl, lw, nw, e, rfl⟩ := h
    simp only [tTurn, rTurnT, tTryS, rCountT, rPop, rRep, tCont, iZipT, tChain3, tFld, sFld, tMake, tMake0, tMethD, tBM0, rUpper, tDict1T, tTryN, rSlS, rMulS, rCatS, iZipL, rInsert, rReverse, tDNewX, tTry, tRaise, iEnumL, iEnumT, iZip, iSeq, iOr, rIx, iStr, rLeS, rJoin, rSlTA, tComp_eq, tComp1, slots, Option.getD_some, Option.getD_none, tYes, tSeq, tAsg, gName, tOp, tUn, tC, tVar, tCB, tCons, tNil, tCall, rI, rI0, rU, tRet, tRetN, tIfS, tTest, tB, tAnd, tOr, tNot, tAndV, tOrV, tNotV, tIf, tChain, tMenu, tPar, tDrop, tTup, tLst, tNext, tSl, tPart, tNoPart, tNever, gTup, gCons, gNil, gSub, rSetL, tBM, rAppend, rEq, rNe, rIsi, rIxL, rIxT, rIxS, rSlL, isi_non_bl, isi_non_int, isi_non_str, isi_non_lst, isi_non_tup, isi_bl_bl, isi_bl_int, isi_bl_str, isi_bl_lst, isi_bl_tup, isi_int_bl, isi_int_int, isi_int_str, isi_int_lst, isi_int_tup, isi_str_bl, isi_str_int, isi_str_str, isi_str_lst, isi_str_tup, isi_lst_bl, isi_lst_int, isi_lst_str, isi_lst_lst, isi_lst_tup, isi_tup_bl, isi_tup_int, isi_tup_str, isi_tup_lst, isi_tup_tup, isi_dct_bl, isi_dct_int, isi_dct_str, isi_dct_lst, isi_dct_tup, Kd_non, Kd_bl, Kd_int, Kd_str, sc_non_non, sc_non_int, sc_int_non, sc_non_bl, sc_bl_non, sc_non_str, sc_str_non, sc_int_int, sc_bl_bl, sc_str_str, sc_int_str, sc_str_int, sc_bl_str, sc_str_bl, decide_true, decide_false, tFor_eq, iList, iTup, iRng1, iRng2, iRng3, rIndexT, tBM0, tBMT, tyK_int, tyK_bool, tyK_str, tyK_list, tyK_tuple, L2.start, cxK, Int.reduceToNat, List.map_cons, List.map_nil, List.length_cons, List.length_nil, Nat.reduceAdd, Nat.reduceSub, Nat.zero_add, List.replicate_succ, List.replicate_zero, List.cons_append, List.nil_append, List.append_nil, List.getElem?_cons_zero, List.getElem?_cons_succ, List.set_cons_zero, List.set_cons_succ, Option.some.injEq, V.int.injEq, V.bl.injEq, V.ref.injEq, V.str.injEq, V.ty.injEq, List.cons.injEq, exists_eq_left', exists_eq_left, exists_eq_right, exists_and_left, exists_and_right, and_true, true_and, and_assoc, exists_const, decide_eq_true_eq, Bool.not_eq_true', Bool.not_true, Bool.not_false, Bool.not_not, decide_eq_false_iff_not, ite_not, Bool.false_eq_true, if_true, if_false, reduceCtorEq, and_false, false_and, exists_false, or_false, false_or, ↓reduceIte, eq_self, reduceIte]
    exact q _ _ ws (S1.trans e) (S1.free hl) dl lw nw
theorem ok_law_kinds (F : Fun K "_law_kinds" "_law_kinds" s_law_kinds f fd) (M : Mg mg) : FnOk P w K mg base CX0 1 f fd ["_law_cell_here", "_law_words_here"] (spKinds3 K) := by
  refine F.ok sc_law_kinds (fun vs H Q E h => ?_) (fun cdv A outer s H vs Q E hr h => ?_)
  · obtain ⟨c, wl, ws, rfl, _⟩ := h
    rfl
  obtain ⟨c, wl, ws, rfl, c0, LW, lw, nw, q⟩ := h
  refine ⟨_, (@pss_cons _ _ _ _ _ (@ps_set _ _ 2 _ _ _ _ sc_law_kinds.nd rfl l_law_kinds_2 (@pe_menu _ _ _ _ _ _ _ (@pa_cons _ _ _ _ _ (@pe_int _ _ _ _) (@pa_cons _ _ _ _ _ (@pe_int _ _ _ _) (@pa_cons _ _ _ _ _ (@pe_int _ _ _ _) (@pa_cons _ _ _ _ _ (@pe_int _ _ _ _) (@pa_cons _ _ _ _ _ (@pe_int _ _ _ _) (@pa_cons _ _ _ _ _ (@pe_int _ _ _ _) (@pa_cons _ _ _ _ _ (@pe_int _ _ _ _) (@pa_cons _ _ _ _ _ (@pe_int _ _ _ _) (@pa_cons _ _ _ _ _ (@pe_int _ _ _ _) (@pa_cons _ _ _ _ _ (@pe_int _ _ _ _) (@pa_cons _ _ _ _ _ (@pe_int _ _ _ _) (@pa_nil _) (star1 rfl)) (star1 rfl)) (star1 rfl)) (star1 rfl)) (star1 rfl)) (star1 rfl)) (star1 rfl)) (star1 rfl)) (star1 rfl)) (star1 rfl)) (star1 rfl)) (@pe_op _ _ _ _ _ _ _ _ (@op_mod _) (@pe_var _ 0 _ _ rfl v_law_kinds_0 dn__law_cell_here dc__law_cell_here) (@pe_int _ _ _ _)) (fun _ _ => rfl)) (swap1 rfl) (.inl rfl)) (@pss_cons _ _ _ _ _ (@ps_set _ _ 3 _ _ _ _ sc_law_kinds.nd rfl l_law_kinds_3 (@pe_menu _ _ _ _ _ _ _ (@pa_cons _ _ _ _ _ (@pe_int _ _ _ _) (@pa_cons _ _ _ _ _ (@pe_int _ _ _ _) (@pa_cons _ _ _ _ _ (@pe_int _ _ _ _) (@pa_cons _ _ _ _ _ (@pe_int _ _ _ _) (@pa_cons _ _ _ _ _ (@pe_int _ _ _ _) (@pa_cons _ _ _ _ _ (@pe_int _ _ _ _) (@pa_nil _) (star1 rfl)) (star1 rfl)) (star1 rfl)) (star1 rfl)) (star1 rfl)) (star1 rfl)) (@pe_op _ _ _ _ _ _ _ _ (@op_mod _) (@pe_op _ _ _ _ _ _ _ _ (@op_fdivB _) (@pe_var _ 0 _ _ rfl v_law_kinds_0 dn__law_cell_here dc__law_cell_here) (@pe_int _ _ _ _)) (@pe_int _ _ _ _)) (fun _ _ => rfl)) (swap1 rfl) (.inl rfl)) (@pss_cons _ _ _ _ _ (@ps_set _ _ 4 _ _ _ _ sc_law_kinds.nd rfl l_law_kinds_4 (@pe_menu _ _ _ _ _ _ _ (@pa_cons _ _ _ _ _ (@pe_int _ _ _ _) (@pa_cons _ _ _ _ _ (@pe_int _ _ _ _) (@pa_cons _ _ _ _ _ (@pe_int _ _ _ _) (@pa_nil _) (star1 rfl)) (star1 rfl)) (star1 rfl)) (@pe_op _ _ _ _ _ _ _ _ (@op_mod _) (@pe_op _ _ _ _ _ _ _ _ (@op_fdivB _) (@pe_var _ 0 _ _ rfl v_law_kinds_0 dn__law_cell_here dc__law_cell_here) (@pe_int _ _ _ _)) (@pe_int _ _ _ _)) (fun _ _ => rfl)) (swap1 rfl) (.inl rfl)) (@pss_cons _ _ _ _ _ (@ps_set _ _ 5 _ _ _ _ sc_law_kinds.nd rfl l_law_kinds_5 (@pe_lst _ _ _ _ (@pa_nil _)) (swap1 rfl) (.inl rfl)) (@pss_cons _ _ _ _ _ (@ps_for _ _ _ _ _ _ _ _ PassesOwn.never rfl (@pi_range1 _ _ _ _ _ _ g_law_kinds_range M.m_range (@pa_cons _ _ _ _ _ (@pe_var _ 2 _ _ rfl v_law_kinds_2 dn__law_many dc__law_many) (@pa_nil _) (star1 rfl)) (star1' rfl)) (@pg_name _ _ 6 _ sc_law_kinds.nd rfl l_law_kinds_6 (.inl rfl)) (@pss_cons _ _ _ _ _ (@ps_set _ _ 7 _ _ _ _ sc_law_kinds.nd rfl l_law_kinds_7 (@pe_op _ _ _ _ _ _ _ _ (@op_mod _) (@pe_op _ _ _ _ _ _ _ _ (@op_add _) (@pe_op _ _ _ _ _ _ _ _ (@op_fdivB _) (@pe_var _ 0 _ _ rfl v_law_kinds_0 dn__law_cell_here dc__law_cell_here) (@pe_int _ _ _ _)) (@pe_op _ _ _ _ _ _ _ _ (@op_mulB _) (@pe_var _ 6 _ _ rfl v_law_kinds_6 dn__law_k dc__law_k) (@pe_var _ 3 _ _ rfl v_law_kinds_3 dn__law_step dc__law_step))) (@pe_int _ _ _ _)) (swap1 rfl) (.inl rfl)) (@pss_one _ _ _ (@ps_expr _ _ _ _ (@pe_bm _ _ _ _ _ _ _ _ _ _ _ _ PySem.F.plainAttrs_list PySem.F.slot_list_append PySem.F.type_list_append mt_append (@pe_var _ 5 _ _ rfl v_law_kinds_5 dn__law_kinds_here dc__law_kinds_here) (@pa_cons _ _ _ _ _ (@pe_tup _ _ _ _ _ (@pa_cons _ _ _ _ _ (@pe_ix _ _ _ _ _ _ _ (@ix_list _) (@pe_var _ 1 _ _ rfl v_law_kinds_1 dn__law_words_here dc__law_words_here) (@pe_op _ _ _ _ _ _ _ _ (@op_mod _) (@pe_var _ 7 _ _ rfl v_law_kinds_7 dn__law_place dc__law_place) (@pe_int _ _ _ _)) (fun _ _ => rfl)) (@pa_cons _ _ _ _ _ (@pe_ix _ _ _ _ _ _ _ (@ix_list _) (@pe_var _ 1 _ _ rfl v_law_kinds_1 dn__law_words_here dc__law_words_here) (@pe_op _ _ _ _ _ _ _ _ (@op_add _) (@pe_var _ 4 _ _ rfl v_law_kinds_4 dn__law_shift dc__law_shift) (@pe_op _ _ _ _ _ _ _ _ (@op_fdivB _) (@pe_var _ 7 _ _ rfl v_law_kinds_7 dn__law_place dc__law_place) (@pe_int _ _ _ _))) (fun _ _ => rfl)) (@pa_nil _) (star1 rfl)) (star1 rfl))) (@pa_nil _) (star1 rfl)) (by rfl) (by rfl) (by rfl) (by rfl) (by rfl)) (swap1 rfl)))) (by intro _; rfl)) (@pss_one _ _ _ (@ps_ret _ _ _ _ (@pe_var _ 5 _ _ rfl v_law_kinds_5 dn__law_kinds_here dc__law_kinds_here)))))))), ?_⟩
  simp only [tTurn, rTurnT, tTryS, rCountT, rPop, rRep, tCont, iZipT, tChain3, tFld, sFld, tMake, tMake0, tMethD, tBM0, rUpper, tDict1T, tTryN, rSlS, rMulS, rCatS, iZipL, rInsert, rReverse, tDNewX, tTry, tRaise, iEnumL, iEnumT, iZip, iSeq, iOr, rIx, iStr, rLeS, rJoin, rSlTA, tComp_eq, tComp1, slots, Option.getD_some, Option.getD_none, tYes, tSeq, tAsg, gName, tOp, tUn, tC, tVar, tCB, tCons, tNil, tCall, rI, rI0, rU, tRet, tRetN, tIfS, tTest, tB, tAnd, tOr, tNot, tAndV, tOrV, tNotV, tIf, tChain, tMenu, tPar, tDrop, tTup, tLst, tNext, tSl, tPart, tNoPart, tNever, gTup, gCons, gNil, gSub, rSetL, tBM, rAppend, rEq, rNe, rIsi, rIxL, rIxT, rIxS, rSlL, isi_non_bl, isi_non_int, isi_non_str, isi_non_lst, isi_non_tup, isi_bl_bl, isi_bl_int, isi_bl_str, isi_bl_lst, isi_bl_tup, isi_int_bl, isi_int_int, isi_int_str, isi_int_lst, isi_int_tup, isi_str_bl, isi_str_int, isi_str_str, isi_str_lst, isi_str_tup, isi_lst_bl, isi_lst_int, isi_lst_str, isi_lst_lst, isi_lst_tup, isi_tup_bl, isi_tup_int, isi_tup_str, isi_tup_lst, isi_tup_tup, isi_dct_bl, isi_dct_int, isi_dct_str, isi_dct_lst, isi_dct_tup, Kd_non, Kd_bl, Kd_int, Kd_str, sc_non_non, sc_non_int, sc_int_non, sc_non_bl, sc_bl_non, sc_non_str, sc_str_non, sc_int_int, sc_bl_bl, sc_str_str, sc_int_str, sc_str_int, sc_bl_str, sc_str_bl, decide_true, decide_false, tFor_eq, iList, iTup, iRng1, iRng2, iRng3, rIndexT, tBM0, tBMT, tyK_int, tyK_bool, tyK_str, tyK_list, tyK_tuple, L2.start, cxK, Int.reduceToNat, List.map_cons, List.map_nil, List.length_cons, List.length_nil, Nat.reduceAdd, Nat.reduceSub, Nat.zero_add, List.replicate_succ, List.replicate_zero, List.cons_append, List.nil_append, List.append_nil, List.getElem?_cons_zero, List.getElem?_cons_succ, List.set_cons_zero, List.set_cons_succ, Option.some.injEq, V.int.injEq, V.bl.injEq, V.ref.injEq, V.str.injEq, V.ty.injEq, List.cons.injEq, exists_eq_left', exists_eq_left, exists_eq_right, exists_and_left, exists_and_right, and_true, true_and, and_assoc, exists_const, decide_eq_true_eq, Bool.not_eq_true', Bool.not_true, Bool.not_false, Bool.not_not, decide_eq_false_iff_not, ite_not, Bool.false_eq_true, if_true, if_false, reduceCtorEq, and_false, false_and, exists_false, or_false, false_or, ↓reduceIte, eq_self, reduceIte]
  obtain ⟨mv, hmv, m1, m4⟩ : ∃ mv : Nat, [V.int 2, V.int 3, V.int 1, V.int 2, V.int 3, V.int 2, V.int 3, V.int 2, V.int 3, V.int 4, V.int 3][(c % 11).toNat]? = some (.int (mv : Int)) ∧ 1 ≤ mv ∧ mv ≤ 4 := by
    have : c % 11 = 0 ∨ c % 11 = 1 ∨ c % 11 = 2 ∨ c % 11 = 3 ∨ c % 11 = 4 ∨ c % 11 = 5 ∨ c % 11 = 6 ∨ c % 11 = 7 ∨ c % 11 = 8 ∨ c % 11 = 9 ∨ c % 11 = 10 := by omega
    rcases this with e | e | e | e | e | e | e | e | e | e | e <;> rw [e]
    · exact ⟨2, rfl, by decide, by decide⟩
    · exact ⟨3, rfl, by decide, by decide⟩
    · exact ⟨1, rfl, by decide, by decide⟩
    · exact ⟨2, rfl, by decide, by decide⟩
    · exact ⟨3, rfl, by decide, by decide⟩
    · exact ⟨2, rfl, by decide, by decide⟩
    · exact ⟨3, rfl, by decide, by decide⟩
    · exact ⟨2, rfl, by decide, by decide⟩
    · exact ⟨3, rfl, by decide, by decide⟩
    · exact ⟨4, rfl, by decide, by decide⟩
    · exact ⟨3, rfl, by decide, by decide⟩
  obtain ⟨st, hst, s1, s8⟩ : ∃ st : Int, [V.int 1, V.int 2, V.int 4, V.int 5, V.int 7, V.int 8][(c / 11 % 6).toNat]? = some (.int st) ∧ 1 ≤ st ∧ st ≤ 8 := by
    have : c / 11 % 6 = 0 ∨ c / 11 % 6 = 1 ∨ c / 11 % 6 = 2 ∨ c / 11 % 6 = 3 ∨ c / 11 % 6 = 4 ∨ c / 11 % 6 = 5 := by omega
    rcases this with e | e | e | e | e | e <;> rw [e]
    · exact ⟨1, rfl, by decide, by decide⟩
    · exact ⟨2, rfl, by decide, by decide⟩
    · exact ⟨4, rfl, by decide, by decide⟩
    · exact ⟨5, rfl, by decide, by decide⟩
    · exact ⟨7, rfl, by decide, by decide⟩
    · exact ⟨8, rfl, by decide, by decide⟩
  obtain ⟨sf, hsf, f0, f3⟩ : ∃ sf : Int, [V.int 3, V.int 3, V.int 0][(c / 66 % 3).toNat]? = some (.int sf) ∧ 0 ≤ sf ∧ sf ≤ 3 := by
    have : c / 66 % 3 = 0 ∨ c / 66 % 3 = 1 ∨ c / 66 % 3 = 2 := by omega
    rcases this with e | e | e <;> rw [e]
    · exact ⟨3, rfl, by decide, by decide⟩
    · exact ⟨3, rfl, by decide, by decide⟩
    · exact ⟨0, rfl, by decide, by decide⟩
  refine ⟨by decide, by decide, by omega, _, hmv, by decide, cdiv (by decide) (by decide), by decide, by omega, _, hst, by decide, cdiv (by decide) (by decide), by decide, by omega, _, hsf, by decide, fun l hl => ⟨_, rfl, by omega, by omega, ?_⟩⟩
  rw [Int.toNat_natCast]
  have wat : ∀ j : Nat, j < 7 → ∃ u : List Nat, ws[j]? = some u ∧ nameB u = true := fun j hj => ⟨ws[j]'(by omega), List.getElem?_eq_getElem _, nw _ (List.getElem_mem _)⟩
  obtain ⟨Pv, hP⟩ : ∃ Pv : Nat → St → Hp → Prop, Pv = fun i σ H' => ∃ (xs : List V) (ks : List Kd2) (y6 y7 : Option V), H' l = some (.lst xs) ∧ TpD H' xs (ks.map kRow) ∧ ks.length = i ∧ (∀ k ∈ ks, nameB k.1 = true ∧ nameB k.2 = true) ∧ Same H H' ∧ σ = [some (V.int c), some (V.ref wl), some (V.int mv), some (V.int st), some (V.int sf), some (V.ref l), y6, y7] := ⟨_, rfl⟩
  refine forW_range Pv ?_ ?_ ?_
  · rw [hP]
    exact ⟨[], [], _, _, upd_same, .nil, rfl, (fun k hk => by cases hk), same_new hl _, rfl⟩
  · intro i σ H' hi h
    rw [hP] at h
    obtain ⟨xs, ks, y6, y7, dl, td, lks, nk, e, rfl⟩ := h
    simp only [tTurn, rTurnT, tTryS, rCountT, rPop, rRep, tCont, iZipT, tChain3, tFld, sFld, tMake, tMake0, tMethD, tBM0, rUpper, tDict1T, tTryN, rSlS, rMulS, rCatS, iZipL, rInsert, rReverse, tDNewX, tTry, tRaise, iEnumL, iEnumT, iZip, iSeq, iOr, rIx, iStr, rLeS, rJoin, rSlTA, tComp_eq, tComp1, slots, Option.getD_some, Option.getD_none, tYes, tSeq, tAsg, gName, tOp, tUn, tC, tVar, tCB, tCons, tNil, tCall, rI, rI0, rU, tRet, tRetN, tIfS, tTest, tB, tAnd, tOr, tNot, tAndV, tOrV, tNotV, tIf, tChain, tMenu, tPar, tDrop, tTup, tLst, tNext, tSl, tPart, tNoPart, tNever, gTup, gCons, gNil, gSub, rSetL, tBM, rAppend, rEq, rNe, rIsi, rIxL, rIxT, rIxS, rSlL, isi_non_bl, isi_non_int, isi_non_str, isi_non_lst, isi_non_tup, isi_bl_bl, isi_bl_int, isi_bl_str, isi_bl_lst, isi_bl_tup, isi_int_bl, isi_int_int, isi_int_str, isi_int_lst, isi_int_tup, isi_str_bl, isi_str_int, isi_str_str, isi_str_lst, isi_str_tup, isi_lst_bl, isi_lst_int, isi_lst_str, isi_lst_lst, isi_lst_tup, isi_tup_bl, isi_tup_int, isi_tup_str, isi_tup_lst, isi_tup_tup, isi_dct_bl, isi_dct_int, isi_dct_str, isi_dct_lst, isi_dct_tup, Kd_non, Kd_bl, Kd_int, Kd_str, sc_non_non, sc_non_int, sc_int_non, sc_non_bl, sc_bl_non, sc_non_str, sc_str_non, sc_int_int, sc_bl_bl, sc_str_str, sc_int_str, sc_str_int, sc_bl_str, sc_str_bl, decide_true, decide_false, tFor_eq, iList, iTup, iRng1, iRng2, iRng3, rIndexT, tBM0, tBMT, tyK_int, tyK_bool, tyK_str, tyK_list, tyK_tuple, L2.start, cxK, Int.reduceToNat, List.map_cons, List.map_nil, List.length_cons, List.length_nil, Nat.reduceAdd, Nat.reduceSub, Nat.zero_add, List.replicate_succ, List.replicate_zero, List.cons_append, List.nil_append, List.append_nil, List.getElem?_cons_zero, List.getElem?_cons_succ, List.set_cons_zero, List.set_cons_succ, Option.some.injEq, V.int.injEq, V.bl.injEq, V.ref.injEq, V.str.injEq, V.ty.injEq, List.cons.injEq, exists_eq_left', exists_eq_left, exists_eq_right, exists_and_left, exists_and_right, and_true, true_and, and_assoc, exists_const, decide_eq_true_eq, Bool.not_eq_true', Bool.not_true, Bool.not_false, Bool.not_not, decide_eq_false_iff_not, ite_not, Bool.false_eq_true, if_true, if_false, reduceCtorEq, and_false, false_and, exists_false, or_false, false_or, ↓reduceIte, eq_self, reduceIte]
    have p0 := Int.emod_nonneg (c / 198 + (0 + (i : Int)) * st) (show (9 : Int) ≠ 0 by decide)
    have p1 := Int.emod_lt_of_pos (c / 198 + (0 + (i : Int)) * st) (show (0 : Int) < 9 by decide)
    obtain ⟨pl, hpl⟩ : ∃ pl : Int, (c / 198 + (0 + (i : Int)) * st) % 9 = pl := ⟨_, rfl⟩
    have e61 : (100 : Int) ≤ 10 ^ 61 := by decide
    refine ⟨cdiv (by decide) (by decide), cmul (by omega) (by omega) (by omega) (by omega), by decide, ?_⟩
    rw [hpl] at p0 p1 ⊢
    obtain ⟨a1, h1⟩ : ∃ a1 : Nat, pl % 3 = a1 := ⟨(pl % 3).toNat, by omega⟩
    obtain ⟨a2, h2⟩ : ∃ a2 : Nat, sf + pl / 3 = a2 := ⟨(sf + pl / 3).toNat, by omega⟩
    obtain ⟨u1, hu1, n1⟩ := wat a1 (by omega)
    obtain ⟨u2, hu2, n2⟩ := wat a2 (by omega)
    have LW' := e _ _ LW
    have len := td.length
    rw [List.length_map] at len
    refine ⟨.inl ⟨rfl, _, SqL.of dl⟩, by decide, _, SqL.of LW', _, (by rw [h1]; exact atI_nat (by rw [List.getElem?_map, hu1]; rfl)), cdiv (by decide) (by decide), _, SqL.of LW', _, (by rw [h2]; exact atI_nat (by rw [List.getElem?_map, hu2]; rfl)), by decide, fun t ht => ?_⟩
    obtain ⟨H2, g2, S2, T2⟩ : ∃ H2, H2 = upd H' t (.tup (kRow (u1, u2))) ∧ Same H' H2 ∧ H2 t = some (.tup (kRow (u1, u2))) := ⟨_, rfl, same_new ht _, upd_same⟩
    have g2' : H2 = upd H' t (.tup [V.str (txt u1), V.str (txt u2)]) := g2
    rw [← g2']
    clear g2 g2'
    refine ⟨_, S2 _ _ dl, Nat.lt_of_lt_of_le (m := 64) (by omega) (by decide), ?_⟩
    rw [hP]
    refine ⟨_, ks ++ [(u1, u2)], _, _, upd_same, ?_, by rw [List.length_append, lks]; rfl, fun k hk => ?_, same_upd (e.trans S2) hl _, rfl⟩
    · rw [List.map_append]
      exact ((td.same S2).snoc T2).upd (S2 _ _ dl)
    · rcases List.mem_append.mp hk with h | h
      · exact nk k h
      · rw [List.mem_singleton.mp h]
        exact ⟨n1, n2⟩
  · intro σ H' h
    rw [hP] at h
    obtain ⟨xs, ks, y6, y7, dl, td, lks, nk, e, rfl⟩ := h
    simp only [tTurn, rTurnT, tTryS, rCountT, rPop, rRep, tCont, iZipT, tChain3, tFld, sFld, tMake, tMake0, tMethD, tBM0, rUpper, tDict1T, tTryN, rSlS, rMulS, rCatS, iZipL, rInsert, rReverse, tDNewX, tTry, tRaise, iEnumL, iEnumT, iZip, iSeq, iOr, rIx, iStr, rLeS, rJoin, rSlTA, tComp_eq, tComp1, slots, Option.getD_some, Option.getD_none, tYes, tSeq, tAsg, gName, tOp, tUn, tC, tVar, tCB, tCons, tNil, tCall, rI, rI0, rU, tRet, tRetN, tIfS, tTest, tB, tAnd, tOr, tNot, tAndV, tOrV, tNotV, tIf, tChain, tMenu, tPar, tDrop, tTup, tLst, tNext, tSl, tPart, tNoPart, tNever, gTup, gCons, gNil, gSub, rSetL, tBM, rAppend, rEq, rNe, rIsi, rIxL, rIxT, rIxS, rSlL, isi_non_bl, isi_non_int, isi_non_str, isi_non_lst, isi_non_tup, isi_bl_bl, isi_bl_int, isi_bl_str, isi_bl_lst, isi_bl_tup, isi_int_bl, isi_int_int, isi_int_str, isi_int_lst, isi_int_tup, isi_str_bl, isi_str_int, isi_str_str, isi_str_lst, isi_str_tup, isi_lst_bl, isi_lst_int, isi_lst_str, isi_lst_lst, isi_lst_tup, isi_tup_bl, isi_tup_int, isi_tup_str, isi_tup_lst, isi_tup_tup, isi_dct_bl, isi_dct_int, isi_dct_str, isi_dct_lst, isi_dct_tup, Kd_non, Kd_bl, Kd_int, Kd_str, sc_non_non, sc_non_int, sc_int_non, sc_non_bl, sc_bl_non, sc_non_str, sc_str_non, sc_int_int, sc_bl_bl, sc_str_str, sc_int_str, sc_str_int, sc_bl_str, sc_str_bl, decide_true, decide_false, tFor_eq, iList, iTup, iRng1, iRng2, iRng3, rIndexT, tBM0, tBMT, tyK_int, tyK_bool, tyK_str, tyK_list, tyK_tuple, L2.start, cxK, Int.reduceToNat, List.map_cons, List.map_nil, List.length_cons, List.length_nil, Nat.reduceAdd, Nat.reduceSub, Nat.zero_add, List.replicate_succ, List.replicate_zero, List.cons_append, List.nil_append, List.append_nil, List.getElem?_cons_zero, List.getElem?_cons_succ, List.set_cons_zero, List.set_cons_succ, Option.some.injEq, V.int.injEq, V.bl.injEq, V.ref.injEq, V.str.injEq, V.ty.injEq, List.cons.injEq, exists_eq_left', exists_eq_left, exists_eq_right, exists_and_left, exists_and_right, and_true, true_and, and_assoc, exists_const, decide_eq_true_eq, Bool.not_eq_true', Bool.not_true, Bool.not_false, Bool.not_not, decide_eq_false_iff_not, ite_not, Bool.false_eq_true, if_true, if_false, reduceCtorEq, and_false, false_and, exists_false, or_false, false_or, ↓reduceIte, eq_self, reduceIte]
    exact q _ _ _ _ e hl dl td (by omega) (by omega) nk
end

abbrev okKind (k : Kd2) : Prop := nameB k.1 = true ∧ nameB k.2 = true
theorem name_asc {cs : List Nat} (h : nameB cs = true) : asc cs ∧ cs.length ≤ 8 := by
  unfold nameB at h
  rw [Bool.and_eq_true, decide_eq_true_iff] at h
  refine ⟨List.all_eq_true.mpr fun c hc => decide_eq_true ?_, h.1.2⟩
  have := List.all_eq_true.mp h.2 c hc
  unfold isLow at this
  rw [Bool.and_eq_true, decide_eq_true_iff, decide_eq_true_iff] at this
  omega
theorem name_v {K : PySem.W.Frag} {H : Hp} {cs : List Nat} (h : nameB cs = true) : NameV K H (.str (txt cs)) true := by
  have a := name_asc h
  have := NameV.txt (K := K) (H := H) a.1 (show cs.length ≤ 1000 by omega)
  rwa [h] at this
def kD (k : Kd2) : PyData := .tuple [.str (txt k.1), .str (txt k.2)]
theorem rep_kind {K : PySem.W.Frag} {H : Hp} {p : Addr} {k : Kd2} (h : SqT K H p (kRow k)) : Rep K H (.ref p) (kD k) := .tup h (.cons (.str _) (.cons (.str _) .nil))
theorem flat_kind {k : Kd2} (h : okKind k) : flatD (kD k) := by
  have sk : ∀ {cs : List Nat}, nameB cs = true → PyData.canLay0 (.str (txt cs)) = true := fun {cs} hn => by
    have a := (name_asc hn).1
    show (txt cs).cps.all (· < 0x110000) = true
    rw [List.all_toArray, List.all_eq_true]
    intro c hc
    have := of_decide_eq_true (List.all_eq_true.mp a c hc)
    exact decide_eq_true (by omega)
  refine ⟨?_, by show max 0 (max 0 0) + 1 ≤ 40; decide⟩
  show (PyData.canLay0 (.str (txt k.1)) && (PyData.canLay0 (.str (txt k.2)) && true)) = true
  rw [sk h.1, sk h.2]
  rfl
theorem txt_inj {a b : List Nat} : (txt a == txt b) = decide (a = b) := by
  by_cases h : a = b
  · subst h
    rw [decide_eq_true rfl]
    exact beq_self_eq_true _
  · rw [decide_eq_false h]
    refine beq_false_of_ne fun e => h ?_
    have := congrArg (fun s : Str => s.cps.toList) e
    simpa using this
theorem eqv_kind (k k' : Kd2) : PyData.eqv (kD k) (kD k') = decide (k = k') := by
  obtain ⟨a, b⟩ := k
  obtain ⟨c, d⟩ := k'
  show ((txt a == txt c) && ((txt b == txt d) && true)) = _
  rw [txt_inj, txt_inj]
  by_cases h1 : a = c <;> by_cases h2 : b = d <;> simp [h1, h2]
theorem rEqD_kind {K : PySem.W.Frag} {H : Hp} {p q : Addr} {k k' : Kd2} {neg : Bool} {Q : VK} (h1 : SqT K H p (kRow k)) (h2 : SqT K H q (kRow k')) (o1 : okKind k) (o2 : okKind k') (hq : Q (.bl (if neg then !decide (k = k') else decide (k = k'))) H) : rEqD K neg (.ref p) (.ref q) H Q :=
  ⟨_, _, rep_kind h1, rep_kind h2, flat_kind o1, flat_kind o2, by rw [eqv_kind]; exact hq⟩

inductive KnA (K : PySem.W.Frag) (H : Hp) : List V → List Kd2 → Prop
  | nil : KnA K H [] []
  | cons {p : Addr} {k : Kd2} {xs : List V} {ks : List Kd2} : SqT K H p (kRow k) → KnA K H xs ks → KnA K H (.ref p :: xs) (k :: ks)
theorem KnA.same {K : PySem.W.Frag} {H H' : Hp} {xs : List V} {ks : List Kd2} (h : KnA K H xs ks) (e : Same H H') : KnA K H' xs ks := by
  induction h with
  | nil => exact .nil
  | cons a _ ih => exact .cons (Same.tup e a) ih
theorem KnA.length {K : PySem.W.Frag} {H : Hp} {xs : List V} {ks : List Kd2} (h : KnA K H xs ks) : xs.length = ks.length := by
  induction h with
  | nil => rfl
  | cons _ _ ih => rw [List.length_cons, List.length_cons, ih]
theorem KnA.at {K : PySem.W.Frag} {H : Hp} {xs : List V} {ks : List Kd2} (h : KnA K H xs ks) : ∀ {i : Nat} {x : V}, xs[i]? = some x → ∃ p k, x = .ref p ∧ ks[i]? = some k ∧ SqT K H p (kRow k) := by
  induction h with
  | nil => intro i x e; simp at e
  | cons a _ ih =>
    intro i x e
    cases i with
    | zero => cases e; exact ⟨_, _, rfl, rfl, a⟩
    | succ i => exact ih e
theorem KnA.rep {K : PySem.W.Frag} {H : Hp} {xs : List V} {ks : List Kd2} (h : KnA K H xs ks) : RepAll K H xs (ks.map kD) := by
  induction h with
  | nil => exact .nil
  | cons a _ ih => exact .cons (rep_kind a) ih
theorem TpD.kna {K : PySem.W.Frag} {H : Hp} : ∀ {ks : List Kd2} {xs : List V}, TpD H xs (ks.map kRow) → KnA K H xs ks
  | [], _, .nil => .nil
  | k :: ks, _, .cons a t => .cons (SqT.of a) (TpD.kna t)
theorem flat_kinds : ∀ {ks : List Kd2}, (∀ k ∈ ks, okKind k) → PyData.canLayAll0 (ks.map kD) = true ∧ PyData.depthAll (ks.map kD) ≤ 1
  | [], _ => ⟨rfl, by decide⟩
  | k :: ks, h => by
    obtain ⟨a, b⟩ := flat_kinds fun k' hk => h k' (List.mem_cons_of_mem _ hk)
    have f := flat_kind (h k (List.mem_cons_self ..))
    refine ⟨?_, ?_⟩
    · show (PyData.canLay0 (kD k) && PyData.canLayAll0 (ks.map kD)) = true
      rw [f.1, a]
      rfl
    · show max (max 0 (max 0 0) + 1) (PyData.depthAll (ks.map kD)) ≤ 1
      omega
theorem any_kind (k : Kd2) : ∀ ks : List Kd2, ((ks.map kD).any fun y => PyData.eqv y (kD k)) = decide (k ∈ ks)
  | [] => rfl
  | c :: ks => by
    rw [List.map_cons, List.any_cons, any_kind k ks, eqv_kind]
    by_cases h : c = k
    · subst h
      simp
    · rw [decide_eq_false h, Bool.false_or]
      by_cases h2 : k ∈ ks
      · rw [decide_eq_true h2, decide_eq_true (List.mem_cons_of_mem _ h2)]
      · rw [decide_eq_false h2, decide_eq_false (by simp only [List.mem_cons, not_or]; exact ⟨fun e => h e.symm, h2⟩)]
theorem rInD_kind {K : PySem.W.Frag} {H : Hp} {p l : Addr} {k : Kd2} {xs : List V} {ks : List Kd2} {neg : Bool} {Q : VK} (h1 : SqT K H p (kRow k)) (o1 : okKind k) (L : SqL K H l xs) (A : KnA K H xs ks) (ok : ∀ k ∈ ks, okKind k) (hq : Q (.bl (if neg then !decide (k ∈ ks) else decide (k ∈ ks))) H) : rInD K neg (.ref p) (.ref l) H Q := by
  obtain ⟨f1, f2⟩ := flat_kinds ok
  refine ⟨l, kD k, ks.map kD, rfl, rep_kind h1, .inl (.lst L A.rep), flat_kind o1, ⟨f1, ?_⟩, ?_⟩
  · show PyData.depthAll (ks.map kD) + 1 ≤ 40
    omega
  · rw [any_kind]
    exact hq

inductive Nt where
  | any
  | made (s : List Nat)
  | used (s : List Nat)
  | chief (s : List Nat)
  | over (a b : Kd2)
  | both (x y : Nt)
  | either (x y : Nt)
  | but (x y : Nt)
def Nt.dp : Nt → Nat
  | .both x y => max x.dp y.dp + 1
  | .either x y => max x.dp y.dp + 1
  | .but x y => max x.dp y.dp + 1
  | _ => 1
def Nt.ok : Nt → Prop
  | .any => True
  | .made s => nameB s = true
  | .used s => nameB s = true
  | .chief s => nameB s = true
  | .over a b => okKind a ∧ okKind b
  | .both x y => x.ok ∧ y.ok
  | .either x y => x.ok ∧ y.ok
  | .but x y => x.ok ∧ y.ok
def Nt.data : Nt → PyData
  | .any => .tuple [.str "any"]
  | .made s => .tuple [.str "made", .str (txt s)]
  | .used s => .tuple [.str "used", .str (txt s)]
  | .chief s => .tuple [.str "chief", .str (txt s)]
  | .over a b => .tuple [.str "over", kD a, kD b]
  | .both x y => .tuple [.str "both", x.data, y.data]
  | .either x y => .tuple [.str "either", x.data, y.data]
  | .but x y => .tuple [.str "but", x.data, y.data]
theorem Nt.dp_pos (n : Nt) : 1 ≤ n.dp := by
  cases n <;> (unfold Nt.dp; omega)
abbrev ToldAt (K : PySem.W.Frag) (H : Hp) (v : V) (n : Nt) : Prop := Rep K H v n.data
theorem knA_snoc {K : PySem.W.Frag} {H : Hp} {xs : List V} {ks : List Kd2} {p : Addr} {k : Kd2} (h : KnA K H xs ks) (T : SqT K H p (kRow k)) : KnA K H (xs ++ [.ref p]) (ks ++ [k]) := by
  induction h with
  | nil => exact .cons T .nil
  | cons a _ ih => exact .cons a ih
def spPlain (K : PySem.W.Frag) : Sp := fun vs H Q _ => ∃ (c : Int) (kl wl : Addr) (kx : List V) (ks : List Kd2) (ws : List (List Nat)), vs = [.int c, .ref kl, .ref wl] ∧ H kl = some (.lst kx) ∧ KnA K H kx ks ∧ 1 ≤ ks.length ∧ ks.length ≤ 4 ∧ (∀ k ∈ ks, okKind k) ∧ H wl = some (.lst (ws.map fun w => V.str (txt w))) ∧ ws.length = 7 ∧ (∀ w ∈ ws, nameB w = true) ∧
  ∀ (p : Addr) (H' : Hp) (n : Nt), Same H H' → ToldAt K H' (.ref p) n → n.ok → n.dp = 1 → Q (.ref p) H'
section
variable {P : Program} {w : World} {K : PySem.W.Frag} {mg : Str → Option Value} {base : Heap} {f : Addr} {fd : FuncData}
theorem ok_law_plain (F : Fun K "_law_plain" "_law_plain" s_law_plain f fd) (M : Mg mg) (C_law_mix : Cal P w K mg base CX0 "_law_mix" 1 ["_law_number", "_law_k", "_law_many"] spMix3) : FnOk P w K mg base CX0 2 f fd ["_law_number", "_law_kinds_here", "_law_words_here"] (spPlain K) := by
  refine F.ok sc_law_plain (fun vs H Q E h => ?_) (fun cdv A outer s H vs Q E hr h => ?_)
  · obtain ⟨c, kl, wl, kx, ks, ws, rfl, _⟩ := h
    rfl
  obtain ⟨c, kl, wl, kx, ks, ws, rfl, LK, KA, k1, k4, okk, LW, lw, nw, q⟩ := h
  have lk := KA.length
  refine ⟨_, (@pss_cons _ _ _ _ _ (@ps_set _ _ 3 _ _ _ _ sc_law_plain.nd rfl l_law_plain_3 (@pe_callC _ _ _ _ _ _ _ _ _ _ _ C_law_mix hr g_law_plain__law_mix (@pa_cons _ _ _ _ _ (@pe_var _ 0 _ _ rfl v_law_plain_0 dn__law_number dc__law_number) (@pa_cons _ _ _ _ _ (@pe_int _ _ _ _) (@pa_cons _ _ _ _ _ (@pe_int _ _ _ _) (@pa_nil _) (star1 rfl)) (star1 rfl)) (star1 rfl)) (by decide) dn__law_mix (star1 rfl) (nost1 rfl (nost1 rfl nost0))) (swap1 rfl) (.inl rfl)) (@pss_cons _ _ _ _ _ (@ps_set _ _ 4 _ _ _ _ sc_law_plain.nd rfl l_law_plain_4 (@pe_ix _ _ _ _ _ _ _ (@ix_list _) (@pe_var _ 2 _ _ rfl v_law_plain_2 dn__law_words_here dc__law_words_here) (@pe_callC _ _ _ _ _ _ _ _ _ _ _ C_law_mix hr g_law_plain__law_mix (@pa_cons _ _ _ _ _ (@pe_var _ 0 _ _ rfl v_law_plain_0 dn__law_number dc__law_number) (@pa_cons _ _ _ _ _ (@pe_int _ _ _ _) (@pa_cons _ _ _ _ _ (@pe_int _ _ _ _) (@pa_nil _) (star1 rfl)) (star1 rfl)) (star1 rfl)) (by decide) dn__law_mix (star1 rfl) (nost1 rfl (nost1 rfl nost0))) (fun _ _ => rfl)) (swap1 rfl) (.inl rfl)) (@pss_cons _ _ _ _ _ (@ps_set _ _ 5 _ _ _ _ sc_law_plain.nd rfl l_law_plain_5 (@pe_op _ _ _ _ _ _ _ _ (@op_cat _) (@pe_var _ 1 _ _ rfl v_law_plain_1 dn__law_kinds_here dc__law_kinds_here) (@pe_lst _ _ _ _ (@pa_cons _ _ _ _ _ (@pe_tup _ _ _ _ _ (@pa_cons _ _ _ _ _ (@pe_ix _ _ _ _ _ _ _ (@ix_list _) (@pe_var _ 2 _ _ rfl v_law_plain_2 dn__law_words_here dc__law_words_here) (@pe_int _ _ _ _) (fun _ _ => rfl)) (@pa_cons _ _ _ _ _ (@pe_ix _ _ _ _ _ _ _ (@ix_list _) (@pe_var _ 2 _ _ rfl v_law_plain_2 dn__law_words_here dc__law_words_here) (@pe_int _ _ _ _) (fun _ _ => rfl)) (@pa_nil _) (star1 rfl)) (star1 rfl))) (@pa_nil _) (star1 rfl)))) (swap1 rfl) (.inl rfl)) (@pss_cons _ _ _ _ _ (@ps_if _ _ _ _ _ _ _ _ (@pt_cmpR _ _ _ _ _ _ _ _ (@op_lt _) (@pe_var _ 3 _ _ rfl v_law_plain_3 dn__law_way dc__law_way) (@pe_int _ _ _ _) (nomark _)) (@pss_one _ _ _ (@ps_ret _ _ _ _ (@pe_menu _ _ _ _ _ _ _ (@pa_cons _ _ _ _ _ (@pe_tup _ _ _ _ _ (@pa_cons _ _ _ _ _ (@pe_str _ _ _ _) (@pa_nil _) (star1 rfl))) (@pa_cons _ _ _ _ _ (@pe_tup _ _ _ _ _ (@pa_cons _ _ _ _ _ (@pe_str _ _ _ _) (@pa_cons _ _ _ _ _ (@pe_var _ 4 _ _ rfl v_law_plain_4 dn__law_name dc__law_name) (@pa_nil _) (star1 rfl)) (star1 rfl))) (@pa_cons _ _ _ _ _ (@pe_tup _ _ _ _ _ (@pa_cons _ _ _ _ _ (@pe_str _ _ _ _) (@pa_cons _ _ _ _ _ (@pe_var _ 4 _ _ rfl v_law_plain_4 dn__law_name dc__law_name) (@pa_nil _) (star1 rfl)) (star1 rfl))) (@pa_cons _ _ _ _ _ (@pe_tup _ _ _ _ _ (@pa_cons _ _ _ _ _ (@pe_str _ _ _ _) (@pa_cons _ _ _ _ _ (@pe_var _ 4 _ _ rfl v_law_plain_4 dn__law_name dc__law_name) (@pa_nil _) (star1 rfl)) (star1 rfl))) (@pa_cons _ _ _ _ _ (@pe_tup _ _ _ _ _ (@pa_cons _ _ _ _ _ (@pe_str _ _ _ _) (@pa_cons _ _ _ _ _ (@pe_var _ 4 _ _ rfl v_law_plain_4 dn__law_name dc__law_name) (@pa_nil _) (star1 rfl)) (star1 rfl))) (@pa_cons _ _ _ _ _ (@pe_tup _ _ _ _ _ (@pa_cons _ _ _ _ _ (@pe_str _ _ _ _) (@pa_cons _ _ _ _ _ (@pe_var _ 4 _ _ rfl v_law_plain_4 dn__law_name dc__law_name) (@pa_nil _) (star1 rfl)) (star1 rfl))) (@pa_nil _) (star1 rfl)) (star1 rfl)) (star1 rfl)) (star1 rfl)) (star1 rfl)) (star1 rfl)) (@pe_var _ 3 _ _ rfl v_law_plain_3 dn__law_way dc__law_way) (fun _ _ => rfl)))) (@pss_nil _)) (@pss_cons _ _ _ _ _ (@ps_set _ _ 6 _ _ _ _ sc_law_plain.nd rfl l_law_plain_6 (@pe_ix _ _ _ _ _ _ _ (@ix_list _) (@pe_var _ 5 _ _ rfl v_law_plain_5 dn__law_some dc__law_some) (@pe_callC _ _ _ _ _ _ _ _ _ _ _ C_law_mix hr g_law_plain__law_mix (@pa_cons _ _ _ _ _ (@pe_var _ 0 _ _ rfl v_law_plain_0 dn__law_number dc__law_number) (@pa_cons _ _ _ _ _ (@pe_int _ _ _ _) (@pa_cons _ _ _ _ _ (@pe_callB _ _ _ _ _ _ _ _ _ call_len_seq g_law_plain_len M.m_len b_len (@pa_cons _ _ _ _ _ (@pe_var _ 5 _ _ rfl v_law_plain_5 dn__law_some dc__law_some) (@pa_nil _) (star1 rfl)) nn_len dn_len (star1 rfl) nost0) (@pa_nil _) (star1 rfl)) (star1 rfl)) (star1 rfl)) (by decide) dn__law_mix (star1 rfl) (nost1 rfl (nost1 rfl nost0))) (fun _ _ => rfl)) (swap1 rfl) (.inl rfl)) (@pss_one _ _ _ (@ps_ret _ _ _ _ (@pe_tup _ _ _ _ _ (@pa_cons _ _ _ _ _ (@pe_str _ _ _ _) (@pa_cons _ _ _ _ _ (@pe_var _ 6 _ _ rfl v_law_plain_6 dn__law_one dc__law_one) (@pa_cons _ _ _ _ _ (@pe_ix _ _ _ _ _ _ _ (@ix_list _) (@pe_var _ 5 _ _ rfl v_law_plain_5 dn__law_some dc__law_some) (@pe_callC _ _ _ _ _ _ _ _ _ _ _ C_law_mix hr g_law_plain__law_mix (@pa_cons _ _ _ _ _ (@pe_var _ 0 _ _ rfl v_law_plain_0 dn__law_number dc__law_number) (@pa_cons _ _ _ _ _ (@pe_int _ _ _ _) (@pa_cons _ _ _ _ _ (@pe_callB _ _ _ _ _ _ _ _ _ call_len_seq g_law_plain_len M.m_len b_len (@pa_cons _ _ _ _ _ (@pe_var _ 5 _ _ rfl v_law_plain_5 dn__law_some dc__law_some) (@pa_nil _) (star1 rfl)) nn_len dn_len (star1 rfl) nost0) (@pa_nil _) (star1 rfl)) (star1 rfl)) (star1 rfl)) (by decide) dn__law_mix (star1 rfl) (nost1 rfl (nost1 rfl nost0))) (fun _ _ => rfl)) (@pa_nil _) (star1 rfl)) (star1 rfl)) (star1 rfl)))))))))), ?_⟩
  simp only [tTurn, rTurnT, tTryS, rCountT, rPop, rRep, tCont, iZipT, tChain3, tFld, sFld, tMake, tMake0, tMethD, tBM0, rUpper, tDict1T, tTryN, rSlS, rMulS, rCatS, iZipL, rInsert, rReverse, tDNewX, tTry, tRaise, iEnumL, iEnumT, iZip, iSeq, iOr, rIx, iStr, rLeS, rJoin, rSlTA, tComp_eq, tComp1, slots, Option.getD_some, Option.getD_none, tYes, tSeq, tAsg, gName, tOp, tUn, tC, tVar, tCB, tCons, tNil, tCall, rI, rI0, rU, tRet, tRetN, tIfS, tTest, tB, tAnd, tOr, tNot, tAndV, tOrV, tNotV, tIf, tChain, tMenu, tPar, tDrop, tTup, tLst, tNext, tSl, tPart, tNoPart, tNever, gTup, gCons, gNil, gSub, rSetL, tBM, rAppend, rEq, rNe, rIsi, rIxL, rIxT, rIxS, rSlL, isi_non_bl, isi_non_int, isi_non_str, isi_non_lst, isi_non_tup, isi_bl_bl, isi_bl_int, isi_bl_str, isi_bl_lst, isi_bl_tup, isi_int_bl, isi_int_int, isi_int_str, isi_int_lst, isi_int_tup, isi_str_bl, isi_str_int, isi_str_str, isi_str_lst, isi_str_tup, isi_lst_bl, isi_lst_int, isi_lst_str, isi_lst_lst, isi_lst_tup, isi_tup_bl, isi_tup_int, isi_tup_str, isi_tup_lst, isi_tup_tup, isi_dct_bl, isi_dct_int, isi_dct_str, isi_dct_lst, isi_dct_tup, Kd_non, Kd_bl, Kd_int, Kd_str, sc_non_non, sc_non_int, sc_int_non, sc_non_bl, sc_bl_non, sc_non_str, sc_str_non, sc_int_int, sc_bl_bl, sc_str_str, sc_int_str, sc_str_int, sc_bl_str, sc_str_bl, decide_true, decide_false, tFor_eq, iList, iTup, iRng1, iRng2, iRng3, rIndexT, tBM0, tBMT, tyK_int, tyK_bool, tyK_str, tyK_list, tyK_tuple, L2.start, cxK, Int.reduceToNat, List.map_cons, List.map_nil, List.length_cons, List.length_nil, Nat.reduceAdd, Nat.reduceSub, Nat.zero_add, List.replicate_succ, List.replicate_zero, List.cons_append, List.nil_append, List.append_nil, List.getElem?_cons_zero, List.getElem?_cons_succ, List.set_cons_zero, List.set_cons_succ, Option.some.injEq, V.int.injEq, V.bl.injEq, V.ref.injEq, V.str.injEq, V.ty.injEq, List.cons.injEq, exists_eq_left', exists_eq_left, exists_eq_right, exists_and_left, exists_and_right, and_true, true_and, and_assoc, exists_const, decide_eq_true_eq, Bool.not_eq_true', Bool.not_true, Bool.not_false, Bool.not_not, decide_eq_false_iff_not, ite_not, Bool.false_eq_true, if_true, if_false, reduceCtorEq, and_false, false_and, exists_false, or_false, false_or, ↓reduceIte, eq_self, reduceIte]
  have i9 := mix3_in c 1 (show (0 : Int) < 9 by decide)
  have i7 := mix3_in c 2 (show (0 : Int) < 7 by decide)
  refine ⟨_, _, _, rfl, by decide, by decide, by decide, _, _, _, rfl, by decide, by decide, by decide, ?_⟩
  obtain ⟨wy, hwy⟩ : ∃ wy : Int, mix3 c 1 9 = wy := ⟨_, rfl⟩
  rw [hwy] at i9 ⊢
  obtain ⟨j, hj⟩ : ∃ j : Nat, mix3 c 2 7 = j := ⟨(mix3 c 2 7).toNat, by omega⟩
  rw [hj] at i7 ⊢
  have wat : ∀ j : Nat, j < 7 → ∃ u : List Nat, (ws.map fun w => V.str (txt w))[j]? = some (V.str (txt u)) ∧ nameB u = true := fun j hj => ⟨ws[j]'(by omega), by rw [List.getElem?_map, List.getElem?_eq_getElem (by omega)]; rfl, nw _ (List.getElem_mem _)⟩
  obtain ⟨nm, hnm, nn⟩ := wat j (by omega)
  obtain ⟨w6, h6, n6⟩ := wat 6 (by decide)
  obtain ⟨w0, h0, n0⟩ := wat 0 (by decide)
  refine ⟨_, _, rfl, SqL.of LW, _, atI_nat hnm, _, SqL.of LW, _, (show atI _ ((6 : Nat) : Int) = some _ from atI_nat h6), _, SqL.of LW, _, (show atI _ ((0 : Nat) : Int) = some _ from atI_nat h0), by decide, fun p hp => ?_⟩
  obtain ⟨H3, g3, S3, T3⟩ := fresh_tup (K := K) hp (kRow (w6, w0))
  have g3' : H3 = upd H p (.tup [V.str (txt w6), V.str (txt w0)]) := g3
  rw [← g3']
  clear g3 g3'
  refine ⟨by decide, fun p1 hp1 => ?_⟩
  obtain ⟨H4, g4, S4, L4⟩ : ∃ H4, H4 = upd H3 p1 (.lst [V.ref p]) ∧ Same H3 H4 ∧ H4 p1 = some (.lst [V.ref p]) := ⟨_, rfl, same_new hp1 _, upd_same⟩
  rw [← g4]
  clear g4
  refine ⟨kl, p1, kx, [V.ref p], rfl, rfl, S4 _ _ (S3 _ _ LK), L4, Nat.le_trans (m := 64) (by show kx.length + 1 ≤ 64; omega) (by decide), fun sl hsl => ?_⟩
  obtain ⟨H5, g5, S5, L5⟩ : ∃ H5, H5 = upd H4 sl (.lst (kx ++ [V.ref p])) ∧ Same H4 H5 ∧ H5 sl = some (.lst (kx ++ [V.ref p])) := ⟨_, rfl, same_new hsl _, upd_same⟩
  rw [← g5]
  clear g5
  have S05 := S3.trans (S4.trans S5)
  have KA5 : KnA K H5 (kx ++ [V.ref p]) (ks ++ [(w6, w0)]) := knA_snoc (KA.same S05) (Same.tup (S4.trans S5) T3)
  have ok5 : ∀ k ∈ ks ++ [(w6, w0)], okKind k := fun k hk => by
    rcases List.mem_append.mp hk with h | h
    · exact okk k h
    · rw [List.mem_singleton.mp h]
      exact ⟨n6, n0⟩
  refine ⟨_, rfl, ?_⟩
  by_cases h6' : wy < 6
  · rw [if_pos h6']
    refine ⟨by decide, fun t0 ht0 => ?_⟩
    obtain ⟨H6, g6, S6, T6⟩ := fresh_tup (K := K) ht0 [V.str (Str.ofString "any")]
    rw [← g6]
    clear g6
    refine ⟨by decide, fun t1 ht1 => ?_⟩
    obtain ⟨H7, g7, S7, T7⟩ := fresh_tup (K := K) ht1 [V.str (Str.ofString "made"), V.str (txt nm)]
    rw [← g7]
    clear g7
    refine ⟨by decide, fun t2 ht2 => ?_⟩
    obtain ⟨H8, g8, S8, T8⟩ := fresh_tup (K := K) ht2 [V.str (Str.ofString "used"), V.str (txt nm)]
    rw [← g8]
    clear g8
    refine ⟨by decide, fun t3 ht3 => ?_⟩
    obtain ⟨H9, g9, S9, T9⟩ := fresh_tup (K := K) ht3 [V.str (Str.ofString "chief"), V.str (txt nm)]
    rw [← g9]
    clear g9
    refine ⟨by decide, fun t4 ht4 => ?_⟩
    obtain ⟨H10, g10, S10, T10⟩ := fresh_tup (K := K) ht4 [V.str (Str.ofString "made"), V.str (txt nm)]
    rw [← g10]
    clear g10
    refine ⟨by decide, fun t5 ht5 => ?_⟩
    obtain ⟨H11, g11, S11, T11⟩ := fresh_tup (K := K) ht5 [V.str (Str.ofString "used"), V.str (txt nm)]
    rw [← g11]
    clear g11
    obtain ⟨i, hi, li⟩ : ∃ i : Nat, wy = i ∧ i < 6 := ⟨wy.toNat, by omega, by omega⟩
    have S511 : Same H5 H11 := S6.trans (S7.trans (S8.trans (S9.trans (S10.trans (S11)))))
    have all : ∀ v ∈ [V.ref t0, V.ref t1, V.ref t2, V.ref t3, V.ref t4, V.ref t5], ∃ (t : Addr) (n : Nt), v = .ref t ∧ ToldAt K H11 (.ref t) n ∧ n.ok ∧ n.dp = 1 := by
      simp only [List.forall_mem_cons]
      exact ⟨⟨_, .any, rfl, .tup (Same.tup (S7.trans (S8.trans (S9.trans (S10.trans (S11))))) T6) (.cons (.str _) .nil), trivial, rfl⟩,
        ⟨_, .made nm, rfl, .tup (Same.tup (S8.trans (S9.trans (S10.trans (S11)))) T7) (.cons (.str _) (.cons (.str _) .nil)), nn, rfl⟩,
        ⟨_, .used nm, rfl, .tup (Same.tup (S9.trans (S10.trans (S11))) T8) (.cons (.str _) (.cons (.str _) .nil)), nn, rfl⟩,
        ⟨_, .chief nm, rfl, .tup (Same.tup (S10.trans (S11)) T9) (.cons (.str _) (.cons (.str _) .nil)), nn, rfl⟩,
        ⟨_, .made nm, rfl, .tup (Same.tup (S11) T10) (.cons (.str _) (.cons (.str _) .nil)), nn, rfl⟩,
        ⟨_, .used nm, rfl, .tup (Same.tup (Same.refl _) T11) (.cons (.str _) (.cons (.str _) .nil)), nn, rfl⟩, fun _ h => by cases h⟩
    obtain ⟨v, hv⟩ : ∃ v, ([V.ref t0, V.ref t1, V.ref t2, V.ref t3, V.ref t4, V.ref t5] : List V)[i]? = some v := ⟨_, List.getElem?_eq_getElem (by show i < 6; omega)⟩
    obtain ⟨t, n, rfl, R, o, d⟩ := all v (List.mem_of_getElem? hv)
    exact ⟨by decide, _, rfl, by omega, _, (by rw [hi, Int.toNat_natCast]; exact hv), q _ _ n (S05.trans S511) R o d⟩
  · rw [if_neg h6']
    have ll : (kx ++ [V.ref p]).length = kx.length + 1 := by rw [List.length_append]; rfl
    have j3 := mix3_in c 3 (show (0 : Int) < ((kx ++ [V.ref p]).length : Int) by omega)
    have j4 := mix3_in c 4 (show (0 : Int) < ((kx ++ [V.ref p]).length : Int) by omega)
    obtain ⟨m3, hm3⟩ : ∃ m : Nat, mix3 c 3 ((kx ++ [V.ref p]).length : Int) = m := ⟨(mix3 c 3 ((kx ++ [V.ref p]).length : Int)).toNat, by omega⟩
    obtain ⟨m4, hm4⟩ : ∃ m : Nat, mix3 c 4 ((kx ++ [V.ref p]).length : Int) = m := ⟨(mix3 c 4 ((kx ++ [V.ref p]).length : Int)).toNat, by omega⟩
    obtain ⟨x3, hx3⟩ : ∃ x, (kx ++ [V.ref p])[m3]? = some x := ⟨_, List.getElem?_eq_getElem (by omega)⟩
    obtain ⟨x4, hx4⟩ : ∃ x, (kx ++ [V.ref p])[m4]? = some x := ⟨_, List.getElem?_eq_getElem (by omega)⟩
    obtain ⟨a3, c3, rfl, hc3, Tc3⟩ := KA5.at hx3
    obtain ⟨a4, c4, rfl, hc4, Tc4⟩ := KA5.at hx4
    refine ⟨_, rfl, _, .inl (SqL.of L5), _, _, _, rfl, by decide, by decide, by omega, _, rfl, _, _, rfl, SqL.of L5, _, (by rw [hm3]; exact atI_nat hx3), _, rfl, _, .inl (SqL.of L5), _, _, _, rfl, by decide, by decide, by omega, _, rfl, _, _, rfl, SqL.of L5, _, (by rw [hm4]; exact atI_nat hx4), by decide, fun t ht => ?_⟩
    exact q _ _ (.over c3 c4) (S05.trans (same_new ht _)) (.tup (SqT.of upd_same) (.cons (.str _) (.cons (rep_kind (Same.tup (same_new ht _) Tc3)) (.cons (rep_kind (Same.tup (same_new ht _) Tc4)) .nil)))) ⟨ok5 _ (List.mem_of_getElem? hc3), ok5 _ (List.mem_of_getElem? hc4)⟩ rfl
def spNoteG (K : PySem.W.Frag) (d : Nat) : Sp := fun vs H Q _ => ∃ (c : Int) (kl wl : Addr) (kx : List V) (ks : List Kd2) (ws : List (List Nat)), vs = [.int c, .int (d : Int), .ref kl, .ref wl] ∧ 1 ≤ d ∧ H kl = some (.lst kx) ∧ KnA K H kx ks ∧ 1 ≤ ks.length ∧ ks.length ≤ 4 ∧ (∀ k ∈ ks, okKind k) ∧ H wl = some (.lst (ws.map fun w => V.str (txt w))) ∧ ws.length = 7 ∧ (∀ w ∈ ws, nameB w = true) ∧
  ∀ (p : Addr) (H' : Hp) (n : Nt), Same H H' → ToldAt K H' (.ref p) n → n.ok → n.dp ≤ d → Q (.ref p) H'
theorem step_note {d : Nat} (F : Fun K "_law_note" "_law_note" s_law_note f fd) (M : Mg mg) (C_law_mix : Cal P w K mg base CX0 "_law_mix" 1 ["_law_number", "_law_k", "_law_many"] spMix3) (C_law_plain : Cal P w K mg base CX0 "_law_plain" 2 ["_law_number", "_law_kinds_here", "_law_words_here"] (spPlain K))
    (C_law_note : Cal P w K mg base CX0 "_law_note" (3 + d) ["_law_number", "_law_deep", "_law_kinds_here", "_law_words_here"] (spNoteG K d)) : FnOk P w K mg base CX0 (3 + d + 1) f fd ["_law_number", "_law_deep", "_law_kinds_here", "_law_words_here"] (spNoteG K (d + 1)) := by
  refine F.ok sc_law_note (fun vs H Q E h => ?_) (fun cdv A outer s H vs Q E hr h => ?_)
  · obtain ⟨c, kl, wl, kx, ks, ws, rfl, _⟩ := h
    rfl
  obtain ⟨c, kl, wl, kx, ks, ws, rfl, d1, LK, KA, k1, k4, okk, LW, lw, nw, q⟩ := h
  refine ⟨_, (@pss_cons _ _ _ _ _ (@ps_if _ _ _ _ _ _ _ _ (@PW.pt _ _ _ (@pw_or _ _ _ _ _ _ _ (@pt_cmpR _ _ _ _ _ _ _ _ (@op_lt _) (@pe_var _ 1 _ _ rfl v_law_note_1 dn__law_deep dc__law_deep) (@pe_int _ _ _ _) (nomark _)) (@pw_or1 _ _ _ _ (@pt_cmpR _ _ _ _ _ _ _ _ (@op_eq _) (@pe_callC _ _ _ _ _ _ _ _ _ _ _ C_law_mix hr g_law_note__law_mix (@pa_cons _ _ _ _ _ (@pe_var _ 0 _ _ rfl v_law_note_0 dn__law_number dc__law_number) (@pa_cons _ _ _ _ _ (@pe_int _ _ _ _) (@pa_cons _ _ _ _ _ (@pe_int _ _ _ _) (@pa_nil _) (star1 rfl)) (star1 rfl)) (star1 rfl)) (by omega) dn__law_mix (star1 rfl) (nost1 rfl (nost1 rfl nost0))) (@pe_int _ _ _ _) (nomark _))))) (@pss_one _ _ _ (@ps_ret _ _ _ _ (@pe_callC _ _ _ _ _ _ _ _ _ _ _ C_law_plain hr g_law_note__law_plain (@pa_cons _ _ _ _ _ (@pe_var _ 0 _ _ rfl v_law_note_0 dn__law_number dc__law_number) (@pa_cons _ _ _ _ _ (@pe_var _ 2 _ _ rfl v_law_note_2 dn__law_kinds_here dc__law_kinds_here) (@pa_cons _ _ _ _ _ (@pe_var _ 3 _ _ rfl v_law_note_3 dn__law_words_here dc__law_words_here) (@pa_nil _) (star1 rfl)) (star1 rfl)) (star1 rfl)) (by omega) dn__law_plain (star1 rfl) (nost1 rfl (nost1 rfl nost0))))) (@pss_nil _)) (@pss_cons _ _ _ _ _ (@ps_set _ _ 4 _ _ _ _ sc_law_note.nd rfl l_law_note_4 (@pe_callC _ _ _ _ _ _ _ _ _ _ _ C_law_note hr g_law_note__law_note (@pa_cons _ _ _ _ _ (@pe_callC _ _ _ _ _ _ _ _ _ _ _ C_law_mix hr g_law_note__law_mix (@pa_cons _ _ _ _ _ (@pe_var _ 0 _ _ rfl v_law_note_0 dn__law_number dc__law_number) (@pa_cons _ _ _ _ _ (@pe_int _ _ _ _) (@pa_cons _ _ _ _ _ (@pe_int _ _ _ _) (@pa_nil _) (star1 rfl)) (star1 rfl)) (star1 rfl)) (by omega) dn__law_mix (star1 rfl) (nost1 rfl (nost1 rfl nost0))) (@pa_cons _ _ _ _ _ (@pe_op _ _ _ _ _ _ _ _ (@op_sub _) (@pe_var _ 1 _ _ rfl v_law_note_1 dn__law_deep dc__law_deep) (@pe_int _ _ _ _)) (@pa_cons _ _ _ _ _ (@pe_var _ 2 _ _ rfl v_law_note_2 dn__law_kinds_here dc__law_kinds_here) (@pa_cons _ _ _ _ _ (@pe_var _ 3 _ _ rfl v_law_note_3 dn__law_words_here dc__law_words_here) (@pa_nil _) (star1 rfl)) (star1 rfl)) (star1 rfl)) (star1 rfl)) (by omega) dn__law_note (star1 rfl) (nost1 rfl (nost1 rfl (nost1 rfl nost0)))) (swap1 rfl) (.inl rfl)) (@pss_cons _ _ _ _ _ (@ps_set _ _ 5 _ _ _ _ sc_law_note.nd rfl l_law_note_5 (@pe_callC _ _ _ _ _ _ _ _ _ _ _ C_law_note hr g_law_note__law_note (@pa_cons _ _ _ _ _ (@pe_callC _ _ _ _ _ _ _ _ _ _ _ C_law_mix hr g_law_note__law_mix (@pa_cons _ _ _ _ _ (@pe_var _ 0 _ _ rfl v_law_note_0 dn__law_number dc__law_number) (@pa_cons _ _ _ _ _ (@pe_int _ _ _ _) (@pa_cons _ _ _ _ _ (@pe_int _ _ _ _) (@pa_nil _) (star1 rfl)) (star1 rfl)) (star1 rfl)) (by omega) dn__law_mix (star1 rfl) (nost1 rfl (nost1 rfl nost0))) (@pa_cons _ _ _ _ _ (@pe_op _ _ _ _ _ _ _ _ (@op_sub _) (@pe_var _ 1 _ _ rfl v_law_note_1 dn__law_deep dc__law_deep) (@pe_int _ _ _ _)) (@pa_cons _ _ _ _ _ (@pe_var _ 2 _ _ rfl v_law_note_2 dn__law_kinds_here dc__law_kinds_here) (@pa_cons _ _ _ _ _ (@pe_var _ 3 _ _ rfl v_law_note_3 dn__law_words_here dc__law_words_here) (@pa_nil _) (star1 rfl)) (star1 rfl)) (star1 rfl)) (star1 rfl)) (by omega) dn__law_note (star1 rfl) (nost1 rfl (nost1 rfl (nost1 rfl nost0)))) (swap1 rfl) (.inl rfl)) (@pss_one _ _ _ (@ps_ret _ _ _ _ (@pe_tup _ _ _ _ _ (@pa_cons _ _ _ _ _ (@pe_menu _ _ _ _ _ _ _ (@pa_cons _ _ _ _ _ (@pe_str _ _ _ _) (@pa_cons _ _ _ _ _ (@pe_str _ _ _ _) (@pa_cons _ _ _ _ _ (@pe_str _ _ _ _) (@pa_nil _) (star1 rfl)) (star1 rfl)) (star1 rfl)) (@pe_callC _ _ _ _ _ _ _ _ _ _ _ C_law_mix hr g_law_note__law_mix (@pa_cons _ _ _ _ _ (@pe_var _ 0 _ _ rfl v_law_note_0 dn__law_number dc__law_number) (@pa_cons _ _ _ _ _ (@pe_int _ _ _ _) (@pa_cons _ _ _ _ _ (@pe_int _ _ _ _) (@pa_nil _) (star1 rfl)) (star1 rfl)) (star1 rfl)) (by omega) dn__law_mix (star1 rfl) (nost1 rfl (nost1 rfl nost0))) (fun _ _ => rfl)) (@pa_cons _ _ _ _ _ (@pe_var _ 4 _ _ rfl v_law_note_4 dn__law_one dc__law_one) (@pa_cons _ _ _ _ _ (@pe_var _ 5 _ _ rfl v_law_note_5 dn__law_other_here dc__law_other_here) (@pa_nil _) (star1 rfl)) (star1 rfl)) (star1 rfl)))))))), ?_⟩
  simp only [tTurn, rTurnT, tTryS, rCountT, rPop, rRep, tCont, iZipT, tChain3, tFld, sFld, tMake, tMake0, tMethD, tBM0, rUpper, tDict1T, tTryN, rSlS, rMulS, rCatS, iZipL, rInsert, rReverse, tDNewX, tTry, tRaise, iEnumL, iEnumT, iZip, iSeq, iOr, rIx, iStr, rLeS, rJoin, rSlTA, tComp_eq, tComp1, slots, Option.getD_some, Option.getD_none, tYes, tSeq, tAsg, gName, tOp, tUn, tC, tVar, tCB, tCons, tNil, tCall, rI, rI0, rU, tRet, tRetN, tIfS, tTest, tB, tAnd, tOr, tNot, tAndV, tOrV, tNotV, tIf, tChain, tMenu, tPar, tDrop, tTup, tLst, tNext, tSl, tPart, tNoPart, tNever, gTup, gCons, gNil, gSub, rSetL, tBM, rAppend, rEq, rNe, rIsi, rIxL, rIxT, rIxS, rSlL, isi_non_bl, isi_non_int, isi_non_str, isi_non_lst, isi_non_tup, isi_bl_bl, isi_bl_int, isi_bl_str, isi_bl_lst, isi_bl_tup, isi_int_bl, isi_int_int, isi_int_str, isi_int_lst, isi_int_tup, isi_str_bl, isi_str_int, isi_str_str, isi_str_lst, isi_str_tup, isi_lst_bl, isi_lst_int, isi_lst_str, isi_lst_lst, isi_lst_tup, isi_tup_bl, isi_tup_int, isi_tup_str, isi_tup_lst, isi_tup_tup, isi_dct_bl, isi_dct_int, isi_dct_str, isi_dct_lst, isi_dct_tup, Kd_non, Kd_bl, Kd_int, Kd_str, sc_non_non, sc_non_int, sc_int_non, sc_non_bl, sc_bl_non, sc_non_str, sc_str_non, sc_int_int, sc_bl_bl, sc_str_str, sc_int_str, sc_str_int, sc_bl_str, sc_str_bl, decide_true, decide_false, tFor_eq, iList, iTup, iRng1, iRng2, iRng3, rIndexT, tBM0, tBMT, tyK_int, tyK_bool, tyK_str, tyK_list, tyK_tuple, L2.start, cxK, Int.reduceToNat, List.map_cons, List.map_nil, List.length_cons, List.length_nil, Nat.reduceAdd, Nat.reduceSub, Nat.zero_add, List.replicate_succ, List.replicate_zero, List.cons_append, List.nil_append, List.append_nil, List.getElem?_cons_zero, List.getElem?_cons_succ, List.set_cons_zero, List.set_cons_succ, Option.some.injEq, V.int.injEq, V.bl.injEq, V.ref.injEq, V.str.injEq, V.ty.injEq, List.cons.injEq, exists_eq_left', exists_eq_left, exists_eq_right, exists_and_left, exists_and_right, and_true, true_and, and_assoc, exists_const, decide_eq_true_eq, Bool.not_eq_true', Bool.not_true, Bool.not_false, Bool.not_not, decide_eq_false_iff_not, ite_not, Bool.false_eq_true, if_true, if_false, reduceCtorEq, and_false, false_and, exists_false, or_false, false_or, ↓reduceIte, eq_self, reduceIte]
  have plain : spPlain K [V.int c, V.ref kl, V.ref wl] H Q E0 := ⟨c, kl, wl, kx, ks, ws, rfl, LK, KA, k1, k4, okk, LW, lw, nw, fun p H' n e R o dd => q p H' n e R o (by omega)⟩
  by_cases h2 : ((d + 1 : Nat) : Int) < 2
  · rw [if_pos h2]
    exact plain
  · rw [if_neg h2]
    refine ⟨_, _, _, rfl, by decide, by decide, by decide, rfl, ?_⟩
    by_cases hm : V.int (mix3 c 5 5) = V.int 0
    · rw [if_pos hm]
      exact plain
    · rw [if_neg hm]
      have ed : ((d + 1 : Nat) : Int) - 1 = (d : Int) := by omega
      rw [ed]
      refine ⟨_, _, _, rfl, by decide, by decide, by decide, _, kl, wl, kx, ks, ws, rfl, by omega, LK, KA, k1, k4, okk, LW, lw, nw, fun p1 H1 x S1 R1 o1 dp1 => ?_⟩
      refine ⟨_, _, _, rfl, by decide, by decide, by decide, _, kl, wl, kx, ks, ws, rfl, by omega, S1 _ _ LK, KA.same S1, k1, k4, okk, S1 _ _ LW, lw, nw, fun p2 H2 y S2 R2 o2 dp2 => ?_⟩
      have i3 := mix3_in c 6 (show (0 : Int) < 3 by decide)
      obtain ⟨j, hj⟩ : ∃ j : Int, mix3 c 6 3 = j := ⟨_, rfl⟩
      refine ⟨by decide, _, _, _, rfl, by decide, by decide, by decide, _, rfl, i3.1, ?_⟩
      rw [hj] at i3 ⊢
      have R1' := R1.same S2
      have : j = 0 ∨ j = 1 ∨ j = 2 := by omega
      rcases this with e | e | e <;> subst e
      · refine ⟨_, rfl, by decide, fun t ht => q _ _ (.both x y) (S1.trans (S2.trans (same_new ht _))) (.tup (SqT.of upd_same) (.cons (.str _) (.cons (R1'.same (same_new ht _)) (.cons (R2.same (same_new ht _)) .nil)))) ⟨o1, o2⟩ ?_⟩
        show max x.dp y.dp + 1 ≤ d + 1
        omega
      · refine ⟨_, rfl, by decide, fun t ht => q _ _ (.either x y) (S1.trans (S2.trans (same_new ht _))) (.tup (SqT.of upd_same) (.cons (.str _) (.cons (R1'.same (same_new ht _)) (.cons (R2.same (same_new ht _)) .nil)))) ⟨o1, o2⟩ ?_⟩
        show max x.dp y.dp + 1 ≤ d + 1
        omega
      · refine ⟨_, rfl, by decide, fun t ht => q _ _ (.but x y) (S1.trans (S2.trans (same_new ht _))) (.tup (SqT.of upd_same) (.cons (.str _) (.cons (R1'.same (same_new ht _)) (.cons (R2.same (same_new ht _)) .nil)))) ⟨o1, o2⟩ ?_⟩
        show max x.dp y.dp + 1 ≤ d + 1
        omega
theorem ok_law_note (F : Fun K "_law_note" "_law_note" s_law_note f fd) (M : Mg mg) (C_law_mix : Cal P w K mg base CX0 "_law_mix" 1 ["_law_number", "_law_k", "_law_many"] spMix3) (C_law_plain : Cal P w K mg base CX0 "_law_plain" 2 ["_law_number", "_law_kinds_here", "_law_words_here"] (spPlain K))
    (b : Binds K fd ["_law_number", "_law_deep", "_law_kinds_here", "_law_words_here"] []) (kp : PySem.W.keepIn K (.ref f) = true) (m : mg "_law_note" = some (.ref f)) : ∀ d : Nat, FnOk P w K mg base CX0 (3 + d) f fd ["_law_number", "_law_deep", "_law_kinds_here", "_law_words_here"] (spNoteG K d)
  | 0 => by
    refine F.ok sc_law_note (fun vs H Q E h => ?_) (fun cdv A outer s H vs Q E hr h => ?_)
    · obtain ⟨c, kl, wl, kx, ks, ws, rfl, _⟩ := h
      rfl
    obtain ⟨c, kl, wl, kx, ks, ws, rfl, d1, _⟩ := h
    exact absurd d1 (by decide)
  | d + 1 => step_note F M C_law_mix C_law_plain ⟨⟨f, fd, ok_law_note F M C_law_mix C_law_plain b kp m d, b, kp, m⟩⟩
end

structure NC where
  any : Addr
  made : Addr
  used : Addr
  chief : Addr
  over : Addr
  both : Addr
  either : Addr
  but : Addr
def ObjN (K : PySem.W.Frag) (cs : NC) (H : Hp) (a : Addr) : Nt → Prop
  | .any => ∃ dx, H a = some (.ins cs.any dx [])
  | .made s => ∃ dx, H a = some (.ins cs.made dx [("stuff", .str (txt s))])
  | .used s => ∃ dx, H a = some (.ins cs.used dx [("use", .str (txt s))])
  | .chief s => ∃ dx, H a = some (.ins cs.chief dx [("stuff", .str (txt s))])
  | .over k1 k2 => ∃ dx p1 p2, H a = some (.ins cs.over dx [("one", .ref p1), ("other", .ref p2)]) ∧ SqT K H p1 (kRow k1) ∧ SqT K H p2 (kRow k2)
  | .both x y => ∃ dx a1 a2, H a = some (.ins cs.both dx [("one", .ref a1), ("other", .ref a2)]) ∧ ObjN K cs H a1 x ∧ ObjN K cs H a2 y
  | .either x y => ∃ dx a1 a2, H a = some (.ins cs.either dx [("one", .ref a1), ("other", .ref a2)]) ∧ ObjN K cs H a1 x ∧ ObjN K cs H a2 y
  | .but x y => ∃ dx a1 a2, H a = some (.ins cs.but dx [("one", .ref a1), ("other", .ref a2)]) ∧ ObjN K cs H a1 x ∧ ObjN K cs H a2 y
theorem ObjN.same {K : PySem.W.Frag} {cs : NC} {H H' : Hp} (e : Same H H') : ∀ {n : Nt} {a : Addr}, ObjN K cs H a n → ObjN K cs H' a n
  | .any, _, ⟨dx, h⟩ => ⟨dx, e _ _ h⟩
  | .made _, _, ⟨dx, h⟩ => ⟨dx, e _ _ h⟩
  | .used _, _, ⟨dx, h⟩ => ⟨dx, e _ _ h⟩
  | .chief _, _, ⟨dx, h⟩ => ⟨dx, e _ _ h⟩
  | .over _ _, _, ⟨dx, p1, p2, h, t1, t2⟩ => ⟨dx, p1, p2, e _ _ h, Same.tup e t1, Same.tup e t2⟩
  | .both _ _, _, ⟨dx, p1, p2, h, t1, t2⟩ => ⟨dx, p1, p2, e _ _ h, ObjN.same e t1, ObjN.same e t2⟩
  | .either _ _, _, ⟨dx, p1, p2, h, t1, t2⟩ => ⟨dx, p1, p2, e _ _ h, ObjN.same e t1, ObjN.same e t2⟩
  | .but _ _, _, ⟨dx, p1, p2, h, t1, t2⟩ => ⟨dx, p1, p2, e _ _ h, ObjN.same e t1, ObjN.same e t2⟩
def spInitA (K : PySem.W.Frag) (C : Addr) (fld : Str) : Sp := fun vs H Q _ => ∃ x dx v, vs = [.ref x, v] ∧ H x = some (.ins C dx []) ∧ Q .non (upd H x (.ins C dx [(fld, v)]))
def spInit2 (K : PySem.W.Frag) : Sp := fun vs H Q _ => ∃ x C dx v1 v2, vs = [.ref x, v1, v2] ∧ H x = some (.ins C dx []) ∧ Cls K C ∧ NoAttr K C "one" ∧ NoAttr K C "other" ∧ ∀ H', H' x = some (.ins C dx [("one", v1), ("other", v2)]) → (∀ b, b ≠ x → H' b = H b) → Q .non H'
theorem make2 {H H' : Hp} {C x dx : Addr} (hx : H x = none) (hd : H dx = none) (e : ∀ b, b ≠ x → H' b = upd (upd H dx (.own x)) x (.ins C dx []) b) : Same H H' := fun b u q => by
  rw [e b (ne_of_none q hx), upd_ne (ne_of_none q hx), upd_ne (ne_of_none q hd)]
  exact q
theorem make1' {H : Hp} {C x dx : Addr} {fld : Str} {v : V} (hx : H x = none) (hd : H dx = none) : Same H (upd (upd (upd H dx (.own x)) x (.ins C dx [])) x (.ins C dx [(fld, v)])) :=
  fun b u q => by rw [upd_ne (ne_of_none q hx), upd_ne (ne_of_none q hx), upd_ne (ne_of_none q hd)]; exact q
section
variable {P : Program} {w : World} {K : PySem.W.Frag} {mg : Str → Option Value} {base : Heap} {f : Addr} {fd : FuncData} {cs : NC}
theorem ok_Made_init (F : Fun K "__init__" "Made.__init__" s_Made_init f fd) (M : Mg mg) (cl : Cls K cs.made) (na : NoAttr K cs.made "stuff") : FnOk P w K mg base CX0 1 f fd ["self", "stuff"] (spInitA K cs.made "stuff") := by
  refine F.ok sc_Made_init (fun vs H Q E h => ?_) (fun cdv A outer s H vs Q E hr h => ?_)
  · obtain ⟨x, dx, v, rfl, _⟩ := h
    rfl
  obtain ⟨x, dx, v, rfl, hx, q⟩ := h
  refine ⟨_, (@pss_one _ _ _ (@ps_fld _ _ _ _ _ _ _ _ (@pe_var _ 0 _ _ rfl v_Made_init_0 dn_self dc_self) (@pe_var _ 1 _ _ rfl v_Made_init_1 dn_stuff dc_stuff) (swap1 rfl))), ?_⟩
  simp only [tTurn, rTurnT, tTryS, rCountT, rPop, rRep, tCont, iZipT, tChain3, tFld, sFld, tMake, tMake0, tMethD, tBM0, rUpper, tDict1T, tTryN, rSlS, rMulS, rCatS, iZipL, rInsert, rReverse, tDNewX, tTry, tRaise, iEnumL, iEnumT, iZip, iSeq, iOr, rIx, iStr, rLeS, rJoin, rSlTA, tComp_eq, tComp1, slots, Option.getD_some, Option.getD_none, tYes, tSeq, tAsg, gName, tOp, tUn, tC, tVar, tCB, tCons, tNil, tCall, rI, rI0, rU, tRet, tRetN, tIfS, tTest, tB, tAnd, tOr, tNot, tAndV, tOrV, tNotV, tIf, tChain, tMenu, tPar, tDrop, tTup, tLst, tNext, tSl, tPart, tNoPart, tNever, gTup, gCons, gNil, gSub, rSetL, tBM, rAppend, rEq, rNe, rIsi, rIxL, rIxT, rIxS, rSlL, isi_non_bl, isi_non_int, isi_non_str, isi_non_lst, isi_non_tup, isi_bl_bl, isi_bl_int, isi_bl_str, isi_bl_lst, isi_bl_tup, isi_int_bl, isi_int_int, isi_int_str, isi_int_lst, isi_int_tup, isi_str_bl, isi_str_int, isi_str_str, isi_str_lst, isi_str_tup, isi_lst_bl, isi_lst_int, isi_lst_str, isi_lst_lst, isi_lst_tup, isi_tup_bl, isi_tup_int, isi_tup_str, isi_tup_lst, isi_tup_tup, isi_dct_bl, isi_dct_int, isi_dct_str, isi_dct_lst, isi_dct_tup, Kd_non, Kd_bl, Kd_int, Kd_str, sc_non_non, sc_non_int, sc_int_non, sc_non_bl, sc_bl_non, sc_non_str, sc_str_non, sc_int_int, sc_bl_bl, sc_str_str, sc_int_str, sc_str_int, sc_bl_str, sc_str_bl, decide_true, decide_false, tFor_eq, iList, iTup, iRng1, iRng2, iRng3, rIndexT, tBM0, tBMT, tyK_int, tyK_bool, tyK_str, tyK_list, tyK_tuple, L2.start, cxK, Int.reduceToNat, List.map_cons, List.map_nil, List.length_cons, List.length_nil, Nat.reduceAdd, Nat.reduceSub, Nat.zero_add, List.replicate_succ, List.replicate_zero, List.cons_append, List.nil_append, List.append_nil, List.getElem?_cons_zero, List.getElem?_cons_succ, List.set_cons_zero, List.set_cons_succ, Option.some.injEq, V.int.injEq, V.bl.injEq, V.ref.injEq, V.str.injEq, V.ty.injEq, List.cons.injEq, exists_eq_left', exists_eq_left, exists_eq_right, exists_and_left, exists_and_right, and_true, true_and, and_assoc, exists_const, decide_eq_true_eq, Bool.not_eq_true', Bool.not_true, Bool.not_false, Bool.not_not, decide_eq_false_iff_not, ite_not, Bool.false_eq_true, if_true, if_false, reduceCtorEq, and_false, false_and, exists_false, or_false, false_or, ↓reduceIte, eq_self, reduceIte]
  exact ⟨_, _, _, hx, cl, na, by decide, q⟩
theorem ok_Used_init (F : Fun K "__init__" "Used.__init__" s_Used_init f fd) (M : Mg mg) (cl : Cls K cs.used) (na : NoAttr K cs.used "use") : FnOk P w K mg base CX0 1 f fd ["self", "use"] (spInitA K cs.used "use") := by
  refine F.ok sc_Used_init (fun vs H Q E h => ?_) (fun cdv A outer s H vs Q E hr h => ?_)
  · obtain ⟨x, dx, v, rfl, _⟩ := h
    rfl
  obtain ⟨x, dx, v, rfl, hx, q⟩ := h
  refine ⟨_, (@pss_one _ _ _ (@ps_fld _ _ _ _ _ _ _ _ (@pe_var _ 0 _ _ rfl v_Used_init_0 dn_self dc_self) (@pe_var _ 1 _ _ rfl v_Used_init_1 dn_use dc_use) (swap1 rfl))), ?_⟩
  simp only [tTurn, rTurnT, tTryS, rCountT, rPop, rRep, tCont, iZipT, tChain3, tFld, sFld, tMake, tMake0, tMethD, tBM0, rUpper, tDict1T, tTryN, rSlS, rMulS, rCatS, iZipL, rInsert, rReverse, tDNewX, tTry, tRaise, iEnumL, iEnumT, iZip, iSeq, iOr, rIx, iStr, rLeS, rJoin, rSlTA, tComp_eq, tComp1, slots, Option.getD_some, Option.getD_none, tYes, tSeq, tAsg, gName, tOp, tUn, tC, tVar, tCB, tCons, tNil, tCall, rI, rI0, rU, tRet, tRetN, tIfS, tTest, tB, tAnd, tOr, tNot, tAndV, tOrV, tNotV, tIf, tChain, tMenu, tPar, tDrop, tTup, tLst, tNext, tSl, tPart, tNoPart, tNever, gTup, gCons, gNil, gSub, rSetL, tBM, rAppend, rEq, rNe, rIsi, rIxL, rIxT, rIxS, rSlL, isi_non_bl, isi_non_int, isi_non_str, isi_non_lst, isi_non_tup, isi_bl_bl, isi_bl_int, isi_bl_str, isi_bl_lst, isi_bl_tup, isi_int_bl, isi_int_int, isi_int_str, isi_int_lst, isi_int_tup, isi_str_bl, isi_str_int, isi_str_str, isi_str_lst, isi_str_tup, isi_lst_bl, isi_lst_int, isi_lst_str, isi_lst_lst, isi_lst_tup, isi_tup_bl, isi_tup_int, isi_tup_str, isi_tup_lst, isi_tup_tup, isi_dct_bl, isi_dct_int, isi_dct_str, isi_dct_lst, isi_dct_tup, Kd_non, Kd_bl, Kd_int, Kd_str, sc_non_non, sc_non_int, sc_int_non, sc_non_bl, sc_bl_non, sc_non_str, sc_str_non, sc_int_int, sc_bl_bl, sc_str_str, sc_int_str, sc_str_int, sc_bl_str, sc_str_bl, decide_true, decide_false, tFor_eq, iList, iTup, iRng1, iRng2, iRng3, rIndexT, tBM0, tBMT, tyK_int, tyK_bool, tyK_str, tyK_list, tyK_tuple, L2.start, cxK, Int.reduceToNat, List.map_cons, List.map_nil, List.length_cons, List.length_nil, Nat.reduceAdd, Nat.reduceSub, Nat.zero_add, List.replicate_succ, List.replicate_zero, List.cons_append, List.nil_append, List.append_nil, List.getElem?_cons_zero, List.getElem?_cons_succ, List.set_cons_zero, List.set_cons_succ, Option.some.injEq, V.int.injEq, V.bl.injEq, V.ref.injEq, V.str.injEq, V.ty.injEq, List.cons.injEq, exists_eq_left', exists_eq_left, exists_eq_right, exists_and_left, exists_and_right, and_true, true_and, and_assoc, exists_const, decide_eq_true_eq, Bool.not_eq_true', Bool.not_true, Bool.not_false, Bool.not_not, decide_eq_false_iff_not, ite_not, Bool.false_eq_true, if_true, if_false, reduceCtorEq, and_false, false_and, exists_false, or_false, false_or, ↓reduceIte, eq_self, reduceIte]
  exact ⟨_, _, _, hx, cl, na, by decide, q⟩
theorem ok_Chief_init (F : Fun K "__init__" "Chief.__init__" s_Chief_init f fd) (M : Mg mg) (cl : Cls K cs.chief) (na : NoAttr K cs.chief "stuff") : FnOk P w K mg base CX0 1 f fd ["self", "stuff"] (spInitA K cs.chief "stuff") := by
  refine F.ok sc_Chief_init (fun vs H Q E h => ?_) (fun cdv A outer s H vs Q E hr h => ?_)
  · obtain ⟨x, dx, v, rfl, _⟩ := h
    rfl
  obtain ⟨x, dx, v, rfl, hx, q⟩ := h
  refine ⟨_, (@pss_one _ _ _ (@ps_fld _ _ _ _ _ _ _ _ (@pe_var _ 0 _ _ rfl v_Chief_init_0 dn_self dc_self) (@pe_var _ 1 _ _ rfl v_Chief_init_1 dn_stuff dc_stuff) (swap1 rfl))), ?_⟩
  simp only [tTurn, rTurnT, tTryS, rCountT, rPop, rRep, tCont, iZipT, tChain3, tFld, sFld, tMake, tMake0, tMethD, tBM0, rUpper, tDict1T, tTryN, rSlS, rMulS, rCatS, iZipL, rInsert, rReverse, tDNewX, tTry, tRaise, iEnumL, iEnumT, iZip, iSeq, iOr, rIx, iStr, rLeS, rJoin, rSlTA, tComp_eq, tComp1, slots, Option.getD_some, Option.getD_none, tYes, tSeq, tAsg, gName, tOp, tUn, tC, tVar, tCB, tCons, tNil, tCall, rI, rI0, rU, tRet, tRetN, tIfS, tTest, tB, tAnd, tOr, tNot, tAndV, tOrV, tNotV, tIf, tChain, tMenu, tPar, tDrop, tTup, tLst, tNext, tSl, tPart, tNoPart, tNever, gTup, gCons, gNil, gSub, rSetL, tBM, rAppend, rEq, rNe, rIsi, rIxL, rIxT, rIxS, rSlL, isi_non_bl, isi_non_int, isi_non_str, isi_non_lst, isi_non_tup, isi_bl_bl, isi_bl_int, isi_bl_str, isi_bl_lst, isi_bl_tup, isi_int_bl, isi_int_int, isi_int_str, isi_int_lst, isi_int_tup, isi_str_bl, isi_str_int, isi_str_str, isi_str_lst, isi_str_tup, isi_lst_bl, isi_lst_int, isi_lst_str, isi_lst_lst, isi_lst_tup, isi_tup_bl, isi_tup_int, isi_tup_str, isi_tup_lst, isi_tup_tup, isi_dct_bl, isi_dct_int, isi_dct_str, isi_dct_lst, isi_dct_tup, Kd_non, Kd_bl, Kd_int, Kd_str, sc_non_non, sc_non_int, sc_int_non, sc_non_bl, sc_bl_non, sc_non_str, sc_str_non, sc_int_int, sc_bl_bl, sc_str_str, sc_int_str, sc_str_int, sc_bl_str, sc_str_bl, decide_true, decide_false, tFor_eq, iList, iTup, iRng1, iRng2, iRng3, rIndexT, tBM0, tBMT, tyK_int, tyK_bool, tyK_str, tyK_list, tyK_tuple, L2.start, cxK, Int.reduceToNat, List.map_cons, List.map_nil, List.length_cons, List.length_nil, Nat.reduceAdd, Nat.reduceSub, Nat.zero_add, List.replicate_succ, List.replicate_zero, List.cons_append, List.nil_append, List.append_nil, List.getElem?_cons_zero, List.getElem?_cons_succ, List.set_cons_zero, List.set_cons_succ, Option.some.injEq, V.int.injEq, V.bl.injEq, V.ref.injEq, V.str.injEq, V.ty.injEq, List.cons.injEq, exists_eq_left', exists_eq_left, exists_eq_right, exists_and_left, exists_and_right, and_true, true_and, and_assoc, exists_const, decide_eq_true_eq, Bool.not_eq_true', Bool.not_true, Bool.not_false, Bool.not_not, decide_eq_false_iff_not, ite_not, Bool.false_eq_true, if_true, if_false, reduceCtorEq, and_false, false_and, exists_false, or_false, false_or, ↓reduceIte, eq_self, reduceIte]
  exact ⟨_, _, _, hx, cl, na, by decide, q⟩
theorem ok_Over_init (F : Fun K "__init__" "Over.__init__" s_Over_init f fd) (M : Mg mg) : FnOk P w K mg base CX0 1 f fd ["self", "one", "other"] (spInit2 K) := by
  refine F.ok sc_Over_init (fun vs H Q E h => ?_) (fun cdv A outer s H vs Q E hr h => ?_)
  · obtain ⟨x, C, dx, v1, v2, rfl, _⟩ := h
    rfl
  obtain ⟨x, C, dx, v1, v2, rfl, hx, cl, n1, n2, q⟩ := h
  refine ⟨_, (@pss_cons _ _ _ _ _ (@ps_fld _ _ _ _ _ _ _ _ (@pe_var _ 0 _ _ rfl v_Over_init_0 dn_self dc_self) (@pe_var _ 1 _ _ rfl v_Over_init_1 dn_one dc_one) (swap1 rfl)) (@pss_one _ _ _ (@ps_fld _ _ _ _ _ _ _ _ (@pe_var _ 0 _ _ rfl v_Over_init_0 dn_self dc_self) (@pe_var _ 2 _ _ rfl v_Over_init_2 dn_other dc_other) (swap1 rfl)))), ?_⟩
  simp only [tTurn, rTurnT, tTryS, rCountT, rPop, rRep, tCont, iZipT, tChain3, tFld, sFld, tMake, tMake0, tMethD, tBM0, rUpper, tDict1T, tTryN, rSlS, rMulS, rCatS, iZipL, rInsert, rReverse, tDNewX, tTry, tRaise, iEnumL, iEnumT, iZip, iSeq, iOr, rIx, iStr, rLeS, rJoin, rSlTA, tComp_eq, tComp1, slots, Option.getD_some, Option.getD_none, tYes, tSeq, tAsg, gName, tOp, tUn, tC, tVar, tCB, tCons, tNil, tCall, rI, rI0, rU, tRet, tRetN, tIfS, tTest, tB, tAnd, tOr, tNot, tAndV, tOrV, tNotV, tIf, tChain, tMenu, tPar, tDrop, tTup, tLst, tNext, tSl, tPart, tNoPart, tNever, gTup, gCons, gNil, gSub, rSetL, tBM, rAppend, rEq, rNe, rIsi, rIxL, rIxT, rIxS, rSlL, isi_non_bl, isi_non_int, isi_non_str, isi_non_lst, isi_non_tup, isi_bl_bl, isi_bl_int, isi_bl_str, isi_bl_lst, isi_bl_tup, isi_int_bl, isi_int_int, isi_int_str, isi_int_lst, isi_int_tup, isi_str_bl, isi_str_int, isi_str_str, isi_str_lst, isi_str_tup, isi_lst_bl, isi_lst_int, isi_lst_str, isi_lst_lst, isi_lst_tup, isi_tup_bl, isi_tup_int, isi_tup_str, isi_tup_lst, isi_tup_tup, isi_dct_bl, isi_dct_int, isi_dct_str, isi_dct_lst, isi_dct_tup, Kd_non, Kd_bl, Kd_int, Kd_str, sc_non_non, sc_non_int, sc_int_non, sc_non_bl, sc_bl_non, sc_non_str, sc_str_non, sc_int_int, sc_bl_bl, sc_str_str, sc_int_str, sc_str_int, sc_bl_str, sc_str_bl, decide_true, decide_false, tFor_eq, iList, iTup, iRng1, iRng2, iRng3, rIndexT, tBM0, tBMT, tyK_int, tyK_bool, tyK_str, tyK_list, tyK_tuple, L2.start, cxK, Int.reduceToNat, List.map_cons, List.map_nil, List.length_cons, List.length_nil, Nat.reduceAdd, Nat.reduceSub, Nat.zero_add, List.replicate_succ, List.replicate_zero, List.cons_append, List.nil_append, List.append_nil, List.getElem?_cons_zero, List.getElem?_cons_succ, List.set_cons_zero, List.set_cons_succ, Option.some.injEq, V.int.injEq, V.bl.injEq, V.ref.injEq, V.str.injEq, V.ty.injEq, List.cons.injEq, exists_eq_left', exists_eq_left, exists_eq_right, exists_and_left, exists_and_right, and_true, true_and, and_assoc, exists_const, decide_eq_true_eq, Bool.not_eq_true', Bool.not_true, Bool.not_false, Bool.not_not, decide_eq_false_iff_not, ite_not, Bool.false_eq_true, if_true, if_false, reduceCtorEq, and_false, false_and, exists_false, or_false, false_or, ↓reduceIte, eq_self, reduceIte]
  exact ⟨_, _, _, hx, cl, n1, by decide, _, _, _, upd_same, cl, n2, (show 1 < 1000 by decide), q _ upd_same fun b hb => by rw [upd_ne hb, upd_ne hb]⟩
theorem ok_OfTwo_init (F : Fun K "__init__" "OfTwo.__init__" s_OfTwo_init f fd) (M : Mg mg) : FnOk P w K mg base CX0 1 f fd ["self", "one", "other"] (spInit2 K) := by
  refine F.ok sc_OfTwo_init (fun vs H Q E h => ?_) (fun cdv A outer s H vs Q E hr h => ?_)
  · obtain ⟨x, C, dx, v1, v2, rfl, _⟩ := h
    rfl
  obtain ⟨x, C, dx, v1, v2, rfl, hx, cl, n1, n2, q⟩ := h
  refine ⟨_, (@pss_cons _ _ _ _ _ (@ps_fld _ _ _ _ _ _ _ _ (@pe_var _ 0 _ _ rfl v_OfTwo_init_0 dn_self dc_self) (@pe_var _ 1 _ _ rfl v_OfTwo_init_1 dn_one dc_one) (swap1 rfl)) (@pss_one _ _ _ (@ps_fld _ _ _ _ _ _ _ _ (@pe_var _ 0 _ _ rfl v_OfTwo_init_0 dn_self dc_self) (@pe_var _ 2 _ _ rfl v_OfTwo_init_2 dn_other dc_other) (swap1 rfl)))), ?_⟩
  simp only [tTurn, rTurnT, tTryS, rCountT, rPop, rRep, tCont, iZipT, tChain3, tFld, sFld, tMake, tMake0, tMethD, tBM0, rUpper, tDict1T, tTryN, rSlS, rMulS, rCatS, iZipL, rInsert, rReverse, tDNewX, tTry, tRaise, iEnumL, iEnumT, iZip, iSeq, iOr, rIx, iStr, rLeS, rJoin, rSlTA, tComp_eq, tComp1, slots, Option.getD_some, Option.getD_none, tYes, tSeq, tAsg, gName, tOp, tUn, tC, tVar, tCB, tCons, tNil, tCall, rI, rI0, rU, tRet, tRetN, tIfS, tTest, tB, tAnd, tOr, tNot, tAndV, tOrV, tNotV, tIf, tChain, tMenu, tPar, tDrop, tTup, tLst, tNext, tSl, tPart, tNoPart, tNever, gTup, gCons, gNil, gSub, rSetL, tBM, rAppend, rEq, rNe, rIsi, rIxL, rIxT, rIxS, rSlL, isi_non_bl, isi_non_int, isi_non_str, isi_non_lst, isi_non_tup, isi_bl_bl, isi_bl_int, isi_bl_str, isi_bl_lst, isi_bl_tup, isi_int_bl, isi_int_int, isi_int_str, isi_int_lst, isi_int_tup, isi_str_bl, isi_str_int, isi_str_str, isi_str_lst, isi_str_tup, isi_lst_bl, isi_lst_int, isi_lst_str, isi_lst_lst, isi_lst_tup, isi_tup_bl, isi_tup_int, isi_tup_str, isi_tup_lst, isi_tup_tup, isi_dct_bl, isi_dct_int, isi_dct_str, isi_dct_lst, isi_dct_tup, Kd_non, Kd_bl, Kd_int, Kd_str, sc_non_non, sc_non_int, sc_int_non, sc_non_bl, sc_bl_non, sc_non_str, sc_str_non, sc_int_int, sc_bl_bl, sc_str_str, sc_int_str, sc_str_int, sc_bl_str, sc_str_bl, decide_true, decide_false, tFor_eq, iList, iTup, iRng1, iRng2, iRng3, rIndexT, tBM0, tBMT, tyK_int, tyK_bool, tyK_str, tyK_list, tyK_tuple, L2.start, cxK, Int.reduceToNat, List.map_cons, List.map_nil, List.length_cons, List.length_nil, Nat.reduceAdd, Nat.reduceSub, Nat.zero_add, List.replicate_succ, List.replicate_zero, List.cons_append, List.nil_append, List.append_nil, List.getElem?_cons_zero, List.getElem?_cons_succ, List.set_cons_zero, List.set_cons_succ, Option.some.injEq, V.int.injEq, V.bl.injEq, V.ref.injEq, V.str.injEq, V.ty.injEq, List.cons.injEq, exists_eq_left', exists_eq_left, exists_eq_right, exists_and_left, exists_and_right, and_true, true_and, and_assoc, exists_const, decide_eq_true_eq, Bool.not_eq_true', Bool.not_true, Bool.not_false, Bool.not_not, decide_eq_false_iff_not, ite_not, Bool.false_eq_true, if_true, if_false, reduceCtorEq, and_false, false_and, exists_false, or_false, false_or, ↓reduceIte, eq_self, reduceIte]
  exact ⟨_, _, _, hx, cl, n1, by decide, _, _, _, upd_same, cl, n2, (show 1 < 1000 by decide), q _ upd_same fun b hb => by rw [upd_ne hb, upd_ne hb]⟩
end

theorem rep_tup {K : PySem.W.Frag} {H : Hp} {p : Addr} {ds : List PyData} (R : Rep K H (.ref p) (.tuple ds)) : ∃ xs, SqT K H p xs ∧ RepAll K H xs ds := by
  cases R with
  | tup T A => exact ⟨_, T, A⟩
theorem rep_cons {K : PySem.W.Frag} {H : Hp} {xs : List V} {d : PyData} {ds : List PyData} (R : RepAll K H xs (d :: ds)) : ∃ x ys, xs = x :: ys ∧ Rep K H x d ∧ RepAll K H ys ds := by
  cases R with
  | cons a b => exact ⟨_, _, rfl, a, b⟩
theorem rep_nil {K : PySem.W.Frag} {H : Hp} {xs : List V} (R : RepAll K H xs []) : xs = [] := by
  cases R
  rfl
theorem rep_str {K : PySem.W.Frag} {H : Hp} {x : V} {z : Str} (R : Rep K H x (.str z)) : x = .str z := by
  cases R
  rfl
theorem rep_one {K : PySem.W.Frag} {H : Hp} {p : Addr} {d : PyData} (R : Rep K H (.ref p) (.tuple [d])) : ∃ x, SqT K H p [x] ∧ Rep K H x d := by
  obtain ⟨xs, T, A⟩ := rep_tup R
  obtain ⟨x, ys, rfl, a, b⟩ := rep_cons A
  rw [rep_nil b] at T
  exact ⟨x, T, a⟩
theorem rep_two {K : PySem.W.Frag} {H : Hp} {p : Addr} {d e : PyData} (R : Rep K H (.ref p) (.tuple [d, e])) : ∃ x y, SqT K H p [x, y] ∧ Rep K H x d ∧ Rep K H y e := by
  obtain ⟨xs, T, A⟩ := rep_tup R
  obtain ⟨x, ys, rfl, a, b⟩ := rep_cons A
  obtain ⟨y, zs, rfl, c, d⟩ := rep_cons b
  rw [rep_nil d] at T
  exact ⟨x, y, T, a, c⟩
theorem rep_three {K : PySem.W.Frag} {H : Hp} {p : Addr} {d e g : PyData} (R : Rep K H (.ref p) (.tuple [d, e, g])) : ∃ x y z, SqT K H p [x, y, z] ∧ Rep K H x d ∧ Rep K H y e ∧ Rep K H z g := by
  obtain ⟨xs, T, A⟩ := rep_tup R
  obtain ⟨x, ys, rfl, a, b⟩ := rep_cons A
  obtain ⟨y, zs, rfl, c, d⟩ := rep_cons b
  obtain ⟨z, us, rfl, e, f⟩ := rep_cons d
  rw [rep_nil f] at T
  exact ⟨x, y, z, T, a, c, e⟩
inductive BadN (K : PySem.W.Frag) (H : Hp) : Str → List V → Prop
  | w0 {z : Str} : z ≠ "any" → BadN K H z []
  | n1 {z : Str} {v : V} : NameV K H v false → BadN K H z [v]
  | m1 {z : Str} {s : List Nat} : z ≠ "made" → z ≠ "used" → z ≠ "chief" → nameB s = true → BadN K H z [.str (txt s)]
  | w2 {z : Str} {v u : V} : z ≠ "over" → BadN K H z [v, u]
  | k1 {v u : V} : KindV K H v false → BadN K H "over" [v, u]
  | k2 {v u : V} : KindV K H v true → KindV K H u false → BadN K H "over" [v, u]
theorem BadN.same {K : PySem.W.Frag} {H H' : Hp} {z : Str} {rest : List V} (h : BadN K H z rest) (e : Same H H') : BadN K H' z rest := by
  cases h with
  | w0 a => exact .w0 a
  | n1 a => exact .n1 (a.same e)
  | m1 a b c d => exact .m1 a b c d
  | w2 a => exact .w2 a
  | k1 a => exact .k1 (a.same e)
  | k2 a b => exact .k2 (a.same e) (b.same e)
def joinW (z : Str) : Prop := z = "both" ∨ z = "either" ∨ z = "but"
inductive NBad (K : PySem.W.Frag) (H : Hp) : Nat → V → Prop
  | zero (v : V) : NBad K H 0 v
  | no {d : Nat} {v : V} {k : Kn} : Kd K H v k → k ≠ .tup → NBad K H (d + 1) v
  | nil {d : Nat} {p : Addr} : SqT K H p [] → NBad K H (d + 1) (.ref p)
  | head {d : Nat} {p : Addr} {x : V} {k : Kn} {xs : List V} : SqT K H p (x :: xs) → Kd K H x k → k ≠ .str → NBad K H (d + 1) (.ref p)
  | one {d : Nat} {p : Addr} {z : Str} {rest : List V} : SqT K H p (.str z :: rest) → (rest.length ≠ 2 ∨ z = "over" ∨ z = "made" ∨ z = "neither") → BadN K H z rest → NBad K H (d + 1) (.ref p)
  | fst {d : Nat} {p : Addr} {z : Str} {v1 v2 : V} : joinW z → SqT K H p [.str z, v1, v2] → NBad K H d v1 → NBad K H (d + 1) (.ref p)
  | snd {d : Nat} {p : Addr} {z : Str} {v1 v2 : V} {n : Nt} : joinW z → SqT K H p [.str z, v1, v2] → ToldAt K H v1 n → n.ok → n.dp ≤ d → NBad K H d v2 → NBad K H (d + 1) (.ref p)
theorem NBad.same {K : PySem.W.Frag} {H H' : Hp} (e : Same H H') {d : Nat} {v : V} (h : NBad K H d v) : NBad K H' d v := by
  induction h with
  | zero v => exact .zero v
  | no k n => exact .no (kd_same e k) n
  | nil t => exact .nil (Same.tup e t)
  | head t k n => exact .head (Same.tup e t) (kd_same e k) n
  | one t n b => exact .one (Same.tup e t) n (b.same e)
  | fst z t _ ih => exact .fst z (Same.tup e t) ih
  | snd z t r o dp _ ih => exact .snd z (Same.tup e t) (r.same e) o dp ih
def spNo : Sp := fun _ _ _ _ => False
theorem fn_no {P : Program} {w : World} {K : PySem.W.Frag} {mg : Str → Option Value} {base : Heap} {CX : CXT} {k : Nat} {f : Addr} {fd : FuncData} {ps : List Str} : FnOk P w K mg base CX k f fd ps spNo := ⟨fun _ _ _ _ h => h.elim, fun _ _ _ _ _ _ _ _ _ _ _ _ _ h => h.elim⟩
theorem kind_inv {K : PySem.W.Frag} {H : Hp} {v : V} {k : Kd2} (R : Rep K H v (kD k)) : ∃ p, v = .ref p ∧ SqT K H p (kRow k) := by
  unfold kD at R
  cases R with
  | tup T A =>
    obtain ⟨x, ys, rfl, a, b⟩ := rep_cons A
    obtain ⟨y, zs, rfl, c, d⟩ := rep_cons b
    rw [rep_nil d, rep_str a, rep_str c] at T
    exact ⟨_, rfl, T⟩
theorem told_ref {K : PySem.W.Frag} {H : Hp} {v : V} {n : Nt} (R : ToldAt K H v n) : ∃ a, v = .ref a := by
  unfold ToldAt at R
  cases n <;> (unfold Nt.data at R; cases R; exact ⟨_, rfl⟩)
inductive RowN (K : PySem.W.Frag) (H : Hp) : Addr → Nt → Prop
  | any {p : Addr} : SqT K H p [.str "any"] → RowN K H p .any
  | made {p : Addr} {s : List Nat} : SqT K H p [.str "made", .str (txt s)] → RowN K H p (.made s)
  | used {p : Addr} {s : List Nat} : SqT K H p [.str "used", .str (txt s)] → RowN K H p (.used s)
  | chief {p : Addr} {s : List Nat} : SqT K H p [.str "chief", .str (txt s)] → RowN K H p (.chief s)
  | over {p p1 p2 : Addr} {a b : Kd2} : SqT K H p [.str "over", .ref p1, .ref p2] → SqT K H p1 (kRow a) → SqT K H p2 (kRow b) → RowN K H p (.over a b)
  | both {p a1 a2 : Addr} {x y : Nt} : SqT K H p [.str "both", .ref a1, .ref a2] → ToldAt K H (.ref a1) x → ToldAt K H (.ref a2) y → RowN K H p (.both x y)
  | either {p a1 a2 : Addr} {x y : Nt} : SqT K H p [.str "either", .ref a1, .ref a2] → ToldAt K H (.ref a1) x → ToldAt K H (.ref a2) y → RowN K H p (.either x y)
  | but {p a1 a2 : Addr} {x y : Nt} : SqT K H p [.str "but", .ref a1, .ref a2] → ToldAt K H (.ref a1) x → ToldAt K H (.ref a2) y → RowN K H p (.but x y)
theorem tol_row {K : PySem.W.Frag} {H : Hp} {p : Addr} {n : Nt} (R : ToldAt K H (.ref p) n) : RowN K H p n := by
  unfold ToldAt at R
  cases n with
  | any =>
    obtain ⟨x, T, a⟩ := rep_one R
    rw [rep_str a] at T
    exact .any T
  | made s =>
    obtain ⟨x, y, T, a, b⟩ := rep_two R
    rw [rep_str a, rep_str b] at T
    exact .made T
  | used s =>
    obtain ⟨x, y, T, a, b⟩ := rep_two R
    rw [rep_str a, rep_str b] at T
    exact .used T
  | chief s =>
    obtain ⟨x, y, T, a, b⟩ := rep_two R
    rw [rep_str a, rep_str b] at T
    exact .chief T
  | over k1 k2 =>
    obtain ⟨x, y, z, T, a, b, c⟩ := rep_three R
    rw [rep_str a] at T
    obtain ⟨p1, rfl, T1⟩ := kind_inv b
    obtain ⟨p2, rfl, T2⟩ := kind_inv c
    exact .over T T1 T2
  | both u v =>
    obtain ⟨x, y, z, T, a, b, c⟩ := rep_three R
    rw [rep_str a] at T
    obtain ⟨a1, rfl⟩ := told_ref b
    obtain ⟨a2, rfl⟩ := told_ref c
    exact .both T b c
  | either u v =>
    obtain ⟨x, y, z, T, a, b, c⟩ := rep_three R
    rw [rep_str a] at T
    obtain ⟨a1, rfl⟩ := told_ref b
    obtain ⟨a2, rfl⟩ := told_ref c
    exact .either T b c
  | but u v =>
    obtain ⟨x, y, z, T, a, b, c⟩ := rep_three R
    rw [rep_str a] at T
    obtain ⟨a1, rfl⟩ := told_ref b
    obtain ⟨a2, rfl⟩ := told_ref c
    exact .but T b c
structure TwoC (K : PySem.W.Frag) (C : Addr) : Prop where
  cl : Cls K C
  n1 : NoAttr K C "one"
  n2 : NoAttr K C "other"
def spOfName (K : PySem.W.Frag) (cs : NC) (cN : Addr) : Sp := fun vs H Q E => ∃ (wd : Str) (s : List Nat), vs = [.str wd, .str (txt s)] ∧ (∀ n, ((wd = "made" ∧ n = .made s) ∨ (wd = "used" ∧ n = .used s) ∨ (wd = "chief" ∧ n = .chief s)) → ∀ a H', Same H H' → ObjN K cs H' a n → Q (.ref a) H') ∧ (wd ≠ "made" → wd ≠ "used" → wd ≠ "chief" → E (.ref cN) none H)
def spOfNotes (K : PySem.W.Frag) (cs : NC) : Sp := fun vs H Q _ => ∃ (wd : Str) (a1 a2 : Addr) (x y n : Nt), vs = [.str wd, .ref a1, .ref a2] ∧ ((wd = "both" ∧ n = .both x y) ∨ (wd = "either" ∧ n = .either x y) ∨ (wd = "but" ∧ n = .but x y)) ∧ ObjN K cs H a1 x ∧ ObjN K cs H a2 y ∧ ∀ a H', Same H H' → ObjN K cs H' a n → Q (.ref a) H'
def spOfOne (K : PySem.W.Frag) (cs : NC) (cN : Addr) : Sp := fun vs H Q E => (∃ (p : Addr) (n : Nt), vs = [.ref p] ∧ ToldAt K H (.ref p) n ∧ n.ok ∧ n.dp = 1 ∧ ∀ a H', Same H H' → ObjN K cs H' a n → Q (.ref a) H') ∨
  ∃ (p : Addr) (z : Str) (rest : List V), vs = [.ref p] ∧ SqT K H p (.str z :: rest) ∧ BadN K H z rest ∧ ∀ H', Same H H' → E (.ref cN) none H'
def spWithin (K : PySem.W.Frag) (cs : NC) (cN : Addr) (d : Nat) : Sp := fun vs H Q E => (∃ (p : Addr) (n : Nt), vs = [.int (d : Int), .ref p] ∧ ToldAt K H (.ref p) n ∧ n.ok ∧ n.dp ≤ d ∧ ∀ a H', Same H H' → ObjN K cs H' a n → Q (.ref a) H') ∨
  ∃ v, vs = [.int (d : Int), v] ∧ NBad K H d v ∧ ∀ H', Same H H' → E (.ref cN) none H'
def spNoteOf (K : PySem.W.Frag) (cs : NC) (cN : Addr) : Sp := fun vs H Q E => (∃ (p : Addr) (n : Nt), vs = [.ref p] ∧ ToldAt K H (.ref p) n ∧ n.ok ∧ n.dp ≤ 5 ∧ ∀ a H', Same H H' → ObjN K cs H' a n → Q (.ref a) H') ∨
  ∃ v, vs = [v] ∧ NBad K H 5 v ∧ ∀ H', Same H H' → E (.ref cN) none H'
section
variable {P : Program} {w : World} {K : PySem.W.Frag} {mg : Str → Option Value} {base : Heap} {f : Addr} {fd : FuncData} {cs : NC} {cN : Addr}
theorem ok_note_of_name (F : Fun K "note_of_name" "note_of_name" s_note_of_name f fd) (M : Mg mg) (Z_Made : MkC P w K mg base "Made" cs.made 1 ["self", "stuff"] (spInitA K cs.made "stuff")) (Z_Used : MkC P w K mg base "Used" cs.used 1 ["self", "use"] (spInitA K cs.used "use")) (Z_Chief : MkC P w K mg base "Chief" cs.chief 1 ["self", "stuff"] (spInitA K cs.chief "stuff")) (R_NoNote : XRaise K mg "NoNote" cN) : FnOk P w K mg base (CXE P w) 3 f fd ["word", "name"] (spOfName K cs cN) := by
  refine F.okX sc_note_of_name (fun vs H Q E h => ?_) (fun cdv A outer s H vs Q E hr h => ?_)
  · obtain ⟨wd, s, rfl, _⟩ := h
    rfl
  obtain ⟨wd, s, rfl, q, e⟩ := h
  refine ⟨_, (@pss_cons _ _ _ _ _ (@ps_if _ _ _ _ _ _ _ _ (@pt_cmpR _ _ _ _ _ _ _ _ (@op_eq _) (@pe_var _ 0 _ _ rfl v_note_of_name_0 dn_word dc_word) (@pe_str _ _ _ _) (nomark _)) (@pss_one _ _ _ (@ps_ret _ _ _ _ (@pe_makeC _ _ _ _ _ _ _ _ _ _ _ _ Z_Made hr g_note_of_name_Made (@pa_cons _ _ _ _ _ (@pe_var _ 1 _ _ rfl v_note_of_name_1 dn_name dc_name) (@pa_nil _) (star1 rfl)) (by decide) dn_Made (star1 rfl) nost0))) (@pss_nil _)) (@pss_cons _ _ _ _ _ (@ps_if _ _ _ _ _ _ _ _ (@pt_cmpR _ _ _ _ _ _ _ _ (@op_eq _) (@pe_var _ 0 _ _ rfl v_note_of_name_0 dn_word dc_word) (@pe_str _ _ _ _) (nomark _)) (@pss_one _ _ _ (@ps_ret _ _ _ _ (@pe_makeC _ _ _ _ _ _ _ _ _ _ _ _ Z_Used hr g_note_of_name_Used (@pa_cons _ _ _ _ _ (@pe_var _ 1 _ _ rfl v_note_of_name_1 dn_name dc_name) (@pa_nil _) (star1 rfl)) (by decide) dn_Used (star1 rfl) nost0))) (@pss_nil _)) (@pss_cons _ _ _ _ _ (@ps_if _ _ _ _ _ _ _ _ (@pt_cmpR _ _ _ _ _ _ _ _ (@op_eq _) (@pe_var _ 0 _ _ rfl v_note_of_name_0 dn_word dc_word) (@pe_str _ _ _ _) (nomark _)) (@pss_one _ _ _ (@ps_ret _ _ _ _ (@pe_makeC _ _ _ _ _ _ _ _ _ _ _ _ Z_Chief hr g_note_of_name_Chief (@pa_cons _ _ _ _ _ (@pe_var _ 1 _ _ rfl v_note_of_name_1 dn_name dc_name) (@pa_nil _) (star1 rfl)) (by decide) dn_Chief (star1 rfl) nost0))) (@pss_nil _)) (@pss_one _ _ _ (@ps_raise _ _ _ _ _ _ _ _ _ _ _ throws_cx hr g_note_of_name_NoNote R_NoNote (@pa_cons _ _ _ _ _ (@pe_str _ _ _ _) (@pa_nil _) (star1 rfl)) (star1 rfl) (by rfl) dn_NoNote))))), ?_⟩
  simp only [tTurn, rTurnT, tTryS, rCountT, rPop, rRep, tCont, iZipT, tChain3, tFld, sFld, tMake, tMake0, tMethD, tBM0, rUpper, tDict1T, tTryN, rSlS, rMulS, rCatS, iZipL, rInsert, rReverse, tDNewX, tTry, tRaise, iEnumL, iEnumT, iZip, iSeq, iOr, rIx, iStr, rLeS, rJoin, rSlTA, tComp_eq, tComp1, slots, Option.getD_some, Option.getD_none, tYes, tSeq, tAsg, gName, tOp, tUn, tC, tVar, tCB, tCons, tNil, tCall, rI, rI0, rU, tRet, tRetN, tIfS, tTest, tB, tAnd, tOr, tNot, tAndV, tOrV, tNotV, tIf, tChain, tMenu, tPar, tDrop, tTup, tLst, tNext, tSl, tPart, tNoPart, tNever, gTup, gCons, gNil, gSub, rSetL, tBM, rAppend, rEq, rNe, rIsi, rIxL, rIxT, rIxS, rSlL, isi_non_bl, isi_non_int, isi_non_str, isi_non_lst, isi_non_tup, isi_bl_bl, isi_bl_int, isi_bl_str, isi_bl_lst, isi_bl_tup, isi_int_bl, isi_int_int, isi_int_str, isi_int_lst, isi_int_tup, isi_str_bl, isi_str_int, isi_str_str, isi_str_lst, isi_str_tup, isi_lst_bl, isi_lst_int, isi_lst_str, isi_lst_lst, isi_lst_tup, isi_tup_bl, isi_tup_int, isi_tup_str, isi_tup_lst, isi_tup_tup, isi_dct_bl, isi_dct_int, isi_dct_str, isi_dct_lst, isi_dct_tup, Kd_non, Kd_bl, Kd_int, Kd_str, sc_non_non, sc_non_int, sc_int_non, sc_non_bl, sc_bl_non, sc_non_str, sc_str_non, sc_int_int, sc_bl_bl, sc_str_str, sc_int_str, sc_str_int, sc_bl_str, sc_str_bl, decide_true, decide_false, tFor_eq, iList, iTup, iRng1, iRng2, iRng3, rIndexT, tBM0, tBMT, tyK_int, tyK_bool, tyK_str, tyK_list, tyK_tuple, L2.start, cxK, Int.reduceToNat, List.map_cons, List.map_nil, List.length_cons, List.length_nil, Nat.reduceAdd, Nat.reduceSub, Nat.zero_add, List.replicate_succ, List.replicate_zero, List.cons_append, List.nil_append, List.append_nil, List.getElem?_cons_zero, List.getElem?_cons_succ, List.set_cons_zero, List.set_cons_succ, Option.some.injEq, V.int.injEq, V.bl.injEq, V.ref.injEq, V.str.injEq, V.ty.injEq, List.cons.injEq, exists_eq_left', exists_eq_left, exists_eq_right, exists_and_left, exists_and_right, and_true, true_and, and_assoc, exists_const, decide_eq_true_eq, Bool.not_eq_true', Bool.not_true, Bool.not_false, Bool.not_not, decide_eq_false_iff_not, ite_not, Bool.false_eq_true, if_true, if_false, reduceCtorEq, and_false, false_and, exists_false, or_false, false_or, ↓reduceIte, eq_self, reduceIte]
  by_cases h1 : wd = "made"
  · rw [if_pos h1]
    exact fun x dx hx hd ne => ⟨x, dx, _, rfl, upd_same, rfl, q _ (.inl ⟨h1, rfl⟩) _ _ (make1' hx hd) ⟨dx, upd_same⟩⟩
  rw [if_neg h1]
  by_cases h2 : wd = "used"
  · rw [if_pos h2]
    exact fun x dx hx hd ne => ⟨x, dx, _, rfl, upd_same, rfl, q _ (.inr (.inl ⟨h2, rfl⟩)) _ _ (make1' hx hd) ⟨dx, upd_same⟩⟩
  rw [if_neg h2]
  by_cases h3 : wd = "chief"
  · rw [if_pos h3]
    exact fun x dx hx hd ne => ⟨x, dx, _, rfl, upd_same, rfl, q _ (.inr (.inr ⟨h3, rfl⟩)) _ _ (make1' hx hd) ⟨dx, upd_same⟩⟩
  rw [if_neg h3]
  exact ⟨by decide, e h1 h2 h3⟩
theorem ok_note_of_notes (F : Fun K "note_of_notes" "note_of_notes" s_note_of_notes f fd) (M : Mg mg) (Z_Both : MkC P w K mg base "Both" cs.both 1 ["self", "one", "other"] (spInit2 K)) (Z_Either : MkC P w K mg base "Either" cs.either 1 ["self", "one", "other"] (spInit2 K)) (Z_But : MkC P w K mg base "But" cs.but 1 ["self", "one", "other"] (spInit2 K))
    (t1 : TwoC K cs.both) (t2 : TwoC K cs.either) (t3 : TwoC K cs.but) : FnOk P w K mg base CX0 3 f fd ["word", "one", "other"] (spOfNotes K cs) := by
  refine F.ok sc_note_of_notes (fun vs H Q E h => ?_) (fun cdv A outer s H vs Q E hr h => ?_)
  · obtain ⟨wd, a1, a2, x, y, n, rfl, _⟩ := h
    rfl
  obtain ⟨wd, a1, a2, x, y, n, rfl, hw, O1, O2, q⟩ := h
  refine ⟨_, (@pss_cons _ _ _ _ _ (@ps_if _ _ _ _ _ _ _ _ (@pt_cmpR _ _ _ _ _ _ _ _ (@op_eq _) (@pe_var _ 0 _ _ rfl v_note_of_notes_0 dn_word dc_word) (@pe_str _ _ _ _) (nomark _)) (@pss_one _ _ _ (@ps_ret _ _ _ _ (@pe_makeC _ _ _ _ _ _ _ _ _ _ _ _ Z_Both hr g_note_of_notes_Both (@pa_cons _ _ _ _ _ (@pe_var _ 1 _ _ rfl v_note_of_notes_1 dn_one dc_one) (@pa_cons _ _ _ _ _ (@pe_var _ 2 _ _ rfl v_note_of_notes_2 dn_other dc_other) (@pa_nil _) (star1 rfl)) (star1 rfl)) (by decide) dn_Both (star1 rfl) (nost1 rfl nost0)))) (@pss_nil _)) (@pss_cons _ _ _ _ _ (@ps_if _ _ _ _ _ _ _ _ (@pt_cmpR _ _ _ _ _ _ _ _ (@op_eq _) (@pe_var _ 0 _ _ rfl v_note_of_notes_0 dn_word dc_word) (@pe_str _ _ _ _) (nomark _)) (@pss_one _ _ _ (@ps_ret _ _ _ _ (@pe_makeC _ _ _ _ _ _ _ _ _ _ _ _ Z_Either hr g_note_of_notes_Either (@pa_cons _ _ _ _ _ (@pe_var _ 1 _ _ rfl v_note_of_notes_1 dn_one dc_one) (@pa_cons _ _ _ _ _ (@pe_var _ 2 _ _ rfl v_note_of_notes_2 dn_other dc_other) (@pa_nil _) (star1 rfl)) (star1 rfl)) (by decide) dn_Either (star1 rfl) (nost1 rfl nost0)))) (@pss_nil _)) (@pss_one _ _ _ (@ps_ret _ _ _ _ (@pe_makeC _ _ _ _ _ _ _ _ _ _ _ _ Z_But hr g_note_of_notes_But (@pa_cons _ _ _ _ _ (@pe_var _ 1 _ _ rfl v_note_of_notes_1 dn_one dc_one) (@pa_cons _ _ _ _ _ (@pe_var _ 2 _ _ rfl v_note_of_notes_2 dn_other dc_other) (@pa_nil _) (star1 rfl)) (star1 rfl)) (by decide) dn_But (star1 rfl) (nost1 rfl nost0)))))), ?_⟩
  simp only [tTurn, rTurnT, tTryS, rCountT, rPop, rRep, tCont, iZipT, tChain3, tFld, sFld, tMake, tMake0, tMethD, tBM0, rUpper, tDict1T, tTryN, rSlS, rMulS, rCatS, iZipL, rInsert, rReverse, tDNewX, tTry, tRaise, iEnumL, iEnumT, iZip, iSeq, iOr, rIx, iStr, rLeS, rJoin, rSlTA, tComp_eq, tComp1, slots, Option.getD_some, Option.getD_none, tYes, tSeq, tAsg, gName, tOp, tUn, tC, tVar, tCB, tCons, tNil, tCall, rI, rI0, rU, tRet, tRetN, tIfS, tTest, tB, tAnd, tOr, tNot, tAndV, tOrV, tNotV, tIf, tChain, tMenu, tPar, tDrop, tTup, tLst, tNext, tSl, tPart, tNoPart, tNever, gTup, gCons, gNil, gSub, rSetL, tBM, rAppend, rEq, rNe, rIsi, rIxL, rIxT, rIxS, rSlL, isi_non_bl, isi_non_int, isi_non_str, isi_non_lst, isi_non_tup, isi_bl_bl, isi_bl_int, isi_bl_str, isi_bl_lst, isi_bl_tup, isi_int_bl, isi_int_int, isi_int_str, isi_int_lst, isi_int_tup, isi_str_bl, isi_str_int, isi_str_str, isi_str_lst, isi_str_tup, isi_lst_bl, isi_lst_int, isi_lst_str, isi_lst_lst, isi_lst_tup, isi_tup_bl, isi_tup_int, isi_tup_str, isi_tup_lst, isi_tup_tup, isi_dct_bl, isi_dct_int, isi_dct_str, isi_dct_lst, isi_dct_tup, Kd_non, Kd_bl, Kd_int, Kd_str, sc_non_non, sc_non_int, sc_int_non, sc_non_bl, sc_bl_non, sc_non_str, sc_str_non, sc_int_int, sc_bl_bl, sc_str_str, sc_int_str, sc_str_int, sc_bl_str, sc_str_bl, decide_true, decide_false, tFor_eq, iList, iTup, iRng1, iRng2, iRng3, rIndexT, tBM0, tBMT, tyK_int, tyK_bool, tyK_str, tyK_list, tyK_tuple, L2.start, cxK, Int.reduceToNat, List.map_cons, List.map_nil, List.length_cons, List.length_nil, Nat.reduceAdd, Nat.reduceSub, Nat.zero_add, List.replicate_succ, List.replicate_zero, List.cons_append, List.nil_append, List.append_nil, List.getElem?_cons_zero, List.getElem?_cons_succ, List.set_cons_zero, List.set_cons_succ, Option.some.injEq, V.int.injEq, V.bl.injEq, V.ref.injEq, V.str.injEq, V.ty.injEq, List.cons.injEq, exists_eq_left', exists_eq_left, exists_eq_right, exists_and_left, exists_and_right, and_true, true_and, and_assoc, exists_const, decide_eq_true_eq, Bool.not_eq_true', Bool.not_true, Bool.not_false, Bool.not_not, decide_eq_false_iff_not, ite_not, Bool.false_eq_true, if_true, if_false, reduceCtorEq, and_false, false_and, exists_false, or_false, false_or, ↓reduceIte, eq_self, reduceIte]
  rcases hw with ⟨rfl, rfl⟩ | ⟨rfl, rfl⟩ | ⟨rfl, rfl⟩
  · rw [if_pos rfl]
    exact fun x dx hx hd ne => ⟨x, _, dx, _, _, rfl, upd_same, t1.cl, t1.n1, t1.n2, fun H' h1 h2 => ⟨rfl, q _ _ (make2 hx hd h2) ⟨dx, _, _, h1, ObjN.same (make2 hx hd h2) O1, ObjN.same (make2 hx hd h2) O2⟩⟩⟩
  · rw [if_neg (by decide), if_pos rfl]
    exact fun x dx hx hd ne => ⟨x, _, dx, _, _, rfl, upd_same, t2.cl, t2.n1, t2.n2, fun H' h1 h2 => ⟨rfl, q _ _ (make2 hx hd h2) ⟨dx, _, _, h1, ObjN.same (make2 hx hd h2) O1, ObjN.same (make2 hx hd h2) O2⟩⟩⟩
  · rw [if_neg (by decide), if_neg (by decide)]
    exact fun x dx hx hd ne => ⟨x, _, dx, _, _, rfl, upd_same, t3.cl, t3.n1, t3.n2, fun H' h1 h2 => ⟨rfl, q _ _ (make2 hx hd h2) ⟨dx, _, _, h1, ObjN.same (make2 hx hd h2) O1, ObjN.same (make2 hx hd h2) O2⟩⟩⟩
theorem ok_note_of_one (F : Fun K "note_of_one" "note_of_one" s_note_of_one f fd) (M : Mg mg) (C_is_name : Cal P w K mg base CX0 "is_name" 1 ["thing"] (spIsName K)) (C_is_kind : Cal P w K mg base CX0 "is_kind" 2 ["thing"] (spIsKind K)) (C_note_of_name : Cal P w K mg base (CXE P w) "note_of_name" 3 ["word", "name"] (spOfName K cs cN))
    (Z_Anything : Mk0 K cs.any) (A_Anything : mg "Anything" = some (.ref cs.any)) (Z_Over : MkC P w K mg base "Over" cs.over 1 ["self", "one", "other"] (spInit2 K)) (t4 : TwoC K cs.over) (R_NoNote : XRaise K mg "NoNote" cN) : FnOk P w K mg base (CXE P w) 4 f fd ["told"] (spOfOne K cs cN) := by
  refine F.okX sc_note_of_one (fun vs H Q E h => ?_) (fun cdv A outer s H vs Q E hr h => ?_)
  · rcases h with ⟨p, n, rfl, _⟩ | ⟨p, z, rest, rfl, _⟩ <;> rfl
  refine ⟨_, (@pss_cons _ _ _ _ _ (@ps_if _ _ _ _ _ _ _ _ (@PW.pt _ _ _ (@pw_and _ _ _ _ _ _ _ (@pt_cmpR _ _ _ _ _ _ _ _ (@op_eq _) (@pe_callB _ _ _ _ _ _ _ _ _ call_len_seq g_note_of_one_len M.m_len b_len (@pa_cons _ _ _ _ _ (@pe_var _ 0 _ _ rfl v_note_of_one_0 dn_told dc_told) (@pa_nil _) (star1 rfl)) nn_len dn_len (star1 rfl) nost0) (@pe_int _ _ _ _) (nomark _)) (@pw_and1 _ _ _ _ (@pt_cmpR _ _ _ _ _ _ _ _ (@op_eq _) (@pe_ix _ _ _ _ _ _ _ (@ix_tup _) (@pe_var _ 0 _ _ rfl v_note_of_one_0 dn_told dc_told) (@pe_int _ _ _ _) (fun _ _ => rfl)) (@pe_str _ _ _ _) (nomark _))))) (@pss_one _ _ _ (@ps_ret _ _ _ _ (@pe_makeN _ _ _ _ _ Z_Anything g_note_of_one_Anything A_Anything dn_Anything))) (@pss_nil _)) (@pss_cons _ _ _ _ _ (@ps_if _ _ _ _ _ _ _ _ (@PW.pt _ _ _ (@pw_and _ _ _ _ _ _ _ (@pt_cmpR _ _ _ _ _ _ _ _ (@op_eq _) (@pe_callB _ _ _ _ _ _ _ _ _ call_len_seq g_note_of_one_len M.m_len b_len (@pa_cons _ _ _ _ _ (@pe_var _ 0 _ _ rfl v_note_of_one_0 dn_told dc_told) (@pa_nil _) (star1 rfl)) nn_len dn_len (star1 rfl) nost0) (@pe_int _ _ _ _) (nomark _)) (@pw_and1 _ _ _ _ (@pt_val _ _ _ (@pe_callC _ _ _ _ _ _ _ _ _ _ _ C_is_name hr g_note_of_one_is_name (@pa_cons _ _ _ _ _ (@pe_ix _ _ _ _ _ _ _ (@ix_tup _) (@pe_var _ 0 _ _ rfl v_note_of_one_0 dn_told dc_told) (@pe_int _ _ _ _) (fun _ _ => rfl)) (@pa_nil _) (star1 rfl)) (by decide) dn_is_name (star1 rfl) nost0) (test1 rfl))))) (@pss_one _ _ _ (@ps_ret _ _ _ _ (@pe_callX _ _ _ _ _ _ _ _ _ _ _ _ _ C_note_of_name hr g_note_of_one_note_of_name pass_cx (@pa_cons _ _ _ _ _ (@pe_ix _ _ _ _ _ _ _ (@ix_tup _) (@pe_var _ 0 _ _ rfl v_note_of_one_0 dn_told dc_told) (@pe_int _ _ _ _) (fun _ _ => rfl)) (@pa_cons _ _ _ _ _ (@pe_ix _ _ _ _ _ _ _ (@ix_tup _) (@pe_var _ 0 _ _ rfl v_note_of_one_0 dn_told dc_told) (@pe_int _ _ _ _) (fun _ _ => rfl)) (@pa_nil _) (star1 rfl)) (star1 rfl)) (by decide) dn_note_of_name (star1 rfl) (nost1 rfl nost0)))) (@pss_nil _)) (@pss_cons _ _ _ _ _ (@ps_if _ _ _ _ _ _ _ _ (@PW.pt _ _ _ (@pw_and _ _ _ _ _ _ _ (@pt_cmpR _ _ _ _ _ _ _ _ (@op_eq _) (@pe_callB _ _ _ _ _ _ _ _ _ call_len_seq g_note_of_one_len M.m_len b_len (@pa_cons _ _ _ _ _ (@pe_var _ 0 _ _ rfl v_note_of_one_0 dn_told dc_told) (@pa_nil _) (star1 rfl)) nn_len dn_len (star1 rfl) nost0) (@pe_int _ _ _ _) (nomark _)) (@pw_and _ _ _ _ _ _ _ (@pt_cmpR _ _ _ _ _ _ _ _ (@op_eq _) (@pe_ix _ _ _ _ _ _ _ (@ix_tup _) (@pe_var _ 0 _ _ rfl v_note_of_one_0 dn_told dc_told) (@pe_int _ _ _ _) (fun _ _ => rfl)) (@pe_str _ _ _ _) (nomark _)) (@pw_and _ _ _ _ _ _ _ (@pt_val _ _ _ (@pe_callC _ _ _ _ _ _ _ _ _ _ _ C_is_kind hr g_note_of_one_is_kind (@pa_cons _ _ _ _ _ (@pe_ix _ _ _ _ _ _ _ (@ix_tup _) (@pe_var _ 0 _ _ rfl v_note_of_one_0 dn_told dc_told) (@pe_int _ _ _ _) (fun _ _ => rfl)) (@pa_nil _) (star1 rfl)) (by decide) dn_is_kind (star1 rfl) nost0) (test1 rfl)) (@pw_and1 _ _ _ _ (@pt_val _ _ _ (@pe_callC _ _ _ _ _ _ _ _ _ _ _ C_is_kind hr g_note_of_one_is_kind (@pa_cons _ _ _ _ _ (@pe_ix _ _ _ _ _ _ _ (@ix_tup _) (@pe_var _ 0 _ _ rfl v_note_of_one_0 dn_told dc_told) (@pe_int _ _ _ _) (fun _ _ => rfl)) (@pa_nil _) (star1 rfl)) (by decide) dn_is_kind (star1 rfl) nost0) (test1 rfl))))))) (@pss_one _ _ _ (@ps_ret _ _ _ _ (@pe_makeC _ _ _ _ _ _ _ _ _ _ _ _ Z_Over hr g_note_of_one_Over (@pa_cons _ _ _ _ _ (@pe_ix _ _ _ _ _ _ _ (@ix_tup _) (@pe_var _ 0 _ _ rfl v_note_of_one_0 dn_told dc_told) (@pe_int _ _ _ _) (fun _ _ => rfl)) (@pa_cons _ _ _ _ _ (@pe_ix _ _ _ _ _ _ _ (@ix_tup _) (@pe_var _ 0 _ _ rfl v_note_of_one_0 dn_told dc_told) (@pe_int _ _ _ _) (fun _ _ => rfl)) (@pa_nil _) (star1 rfl)) (star1 rfl)) (by decide) dn_Over (star1 rfl) (nost1 rfl nost0)))) (@pss_nil _)) (@pss_one _ _ _ (@ps_raise _ _ _ _ _ _ _ _ _ _ _ throws_cx hr g_note_of_one_NoNote R_NoNote (@pa_cons _ _ _ _ _ (@pe_str _ _ _ _) (@pa_nil _) (star1 rfl)) (star1 rfl) (by rfl) dn_NoNote))))), ?_⟩
  rcases h with ⟨p, n, rfl, R, ok, dp, q⟩ | ⟨p, z, rest, rfl, T, B, e⟩
  · simp only [tTurn, rTurnT, tTryS, rCountT, rPop, rRep, tCont, iZipT, tChain3, tFld, sFld, tMake, tMake0, tMethD, tBM0, rUpper, tDict1T, tTryN, rSlS, rMulS, rCatS, iZipL, rInsert, rReverse, tDNewX, tTry, tRaise, iEnumL, iEnumT, iZip, iSeq, iOr, rIx, iStr, rLeS, rJoin, rSlTA, tComp_eq, tComp1, slots, Option.getD_some, Option.getD_none, tYes, tSeq, tAsg, gName, tOp, tUn, tC, tVar, tCB, tCons, tNil, tCall, rI, rI0, rU, tRet, tRetN, tIfS, tTest, tB, tAnd, tOr, tNot, tAndV, tOrV, tNotV, tIf, tChain, tMenu, tPar, tDrop, tTup, tLst, tNext, tSl, tPart, tNoPart, tNever, gTup, gCons, gNil, gSub, rSetL, tBM, rAppend, rEq, rNe, rIsi, rIxL, rIxT, rIxS, rSlL, isi_non_bl, isi_non_int, isi_non_str, isi_non_lst, isi_non_tup, isi_bl_bl, isi_bl_int, isi_bl_str, isi_bl_lst, isi_bl_tup, isi_int_bl, isi_int_int, isi_int_str, isi_int_lst, isi_int_tup, isi_str_bl, isi_str_int, isi_str_str, isi_str_lst, isi_str_tup, isi_lst_bl, isi_lst_int, isi_lst_str, isi_lst_lst, isi_lst_tup, isi_tup_bl, isi_tup_int, isi_tup_str, isi_tup_lst, isi_tup_tup, isi_dct_bl, isi_dct_int, isi_dct_str, isi_dct_lst, isi_dct_tup, Kd_non, Kd_bl, Kd_int, Kd_str, sc_non_non, sc_non_int, sc_int_non, sc_non_bl, sc_bl_non, sc_non_str, sc_str_non, sc_int_int, sc_bl_bl, sc_str_str, sc_int_str, sc_str_int, sc_bl_str, sc_str_bl, decide_true, decide_false, tFor_eq, iList, iTup, iRng1, iRng2, iRng3, rIndexT, tBM0, tBMT, tyK_int, tyK_bool, tyK_str, tyK_list, tyK_tuple, L2.start, cxK, Int.reduceToNat, List.map_cons, List.map_nil, List.length_cons, List.length_nil, Nat.reduceAdd, Nat.reduceSub, Nat.zero_add, List.replicate_succ, List.replicate_zero, List.cons_append, List.nil_append, List.append_nil, List.getElem?_cons_zero, List.getElem?_cons_succ, List.set_cons_zero, List.set_cons_succ, Option.some.injEq, V.int.injEq, V.bl.injEq, V.ref.injEq, V.str.injEq, V.ty.injEq, List.cons.injEq, exists_eq_left', exists_eq_left, exists_eq_right, exists_and_left, exists_and_right, and_true, true_and, and_assoc, exists_const, decide_eq_true_eq, Bool.not_eq_true', Bool.not_true, Bool.not_false, Bool.not_not, decide_eq_false_iff_not, ite_not, Bool.false_eq_true, if_true, if_false, reduceCtorEq, and_false, false_and, exists_false, or_false, false_or, ↓reduceIte, eq_self, reduceIte]
    cases tol_row R with
    | any T =>
      refine ⟨_, .inr T, ?_⟩
      rw [if_pos (by rfl)]
      refine ⟨_, T, _, rfl, rfl, ?_⟩
      rw [if_pos rfl]
      intro x dx hx hd ne
      refine q _ _ (fun b u z => ?_) ⟨dx, upd_same⟩
      rw [upd_ne (ne_of_none z hx), upd_ne (ne_of_none z hd)]
      exact z
    | @made s T =>
      refine ⟨_, .inr T, ?_⟩
      rw [if_neg (by simp)]
      refine ⟨_, .inr T, ?_⟩
      rw [if_pos (by simp)]
      refine ⟨_, T, _, rfl, _, true, rfl, name_v ok, fun H1 S1 => ⟨_, rfl, ?_⟩⟩
      rw [if_pos rfl]
      exact ⟨_, Same.tup S1 T, _, rfl, _, Same.tup S1 T, _, rfl, _, _, rfl, fun n hn a H' e O => q a H' (S1.trans e) (by rcases hn with ⟨h, rfl⟩ | ⟨h, rfl⟩ | ⟨h, rfl⟩ <;> first | exact O | exact absurd h (by decide)), fun h1 h2 h3 => absurd rfl h1⟩
    | @used s T =>
      refine ⟨_, .inr T, ?_⟩
      rw [if_neg (by simp)]
      refine ⟨_, .inr T, ?_⟩
      rw [if_pos (by simp)]
      refine ⟨_, T, _, rfl, _, true, rfl, name_v ok, fun H1 S1 => ⟨_, rfl, ?_⟩⟩
      rw [if_pos rfl]
      exact ⟨_, Same.tup S1 T, _, rfl, _, Same.tup S1 T, _, rfl, _, _, rfl, fun n hn a H' e O => q a H' (S1.trans e) (by rcases hn with ⟨h, rfl⟩ | ⟨h, rfl⟩ | ⟨h, rfl⟩ <;> first | exact O | exact absurd h (by decide)), fun h1 h2 h3 => absurd rfl h2⟩
    | @chief s T =>
      refine ⟨_, .inr T, ?_⟩
      rw [if_neg (by simp)]
      refine ⟨_, .inr T, ?_⟩
      rw [if_pos (by simp)]
      refine ⟨_, T, _, rfl, _, true, rfl, name_v ok, fun H1 S1 => ⟨_, rfl, ?_⟩⟩
      rw [if_pos rfl]
      exact ⟨_, Same.tup S1 T, _, rfl, _, Same.tup S1 T, _, rfl, _, _, rfl, fun n hn a H' e O => q a H' (S1.trans e) (by rcases hn with ⟨h, rfl⟩ | ⟨h, rfl⟩ | ⟨h, rfl⟩ <;> first | exact O | exact absurd h (by decide)), fun h1 h2 h3 => absurd rfl h3⟩
    | @over p1 p2 ka kb T T1 T2 =>
      obtain ⟨ok1, ok2⟩ := ok
      refine ⟨_, .inr T, ?_⟩
      rw [if_neg (by simp)]
      refine ⟨_, .inr T, ?_⟩
      rw [if_neg (by simp)]
      refine ⟨_, .inr T, ?_⟩
      rw [if_pos (by simp)]
      refine ⟨_, T, _, rfl, rfl, ?_⟩
      rw [if_pos rfl]
      refine ⟨_, T, _, rfl, _, true, rfl, KindV.two T1 (name_v ok1.1) (name_v ok1.2), fun H1 S1 => ⟨_, rfl, ?_⟩⟩
      rw [if_pos rfl]
      refine ⟨_, Same.tup S1 T, _, rfl, _, true, rfl, KindV.two (Same.tup S1 T2) (name_v ok2.1) (name_v ok2.2), fun H2 S2 => ⟨_, rfl, ?_⟩⟩
      rw [if_pos rfl]
      have S12 := S1.trans S2
      refine ⟨_, Same.tup S12 T, _, rfl, _, Same.tup S12 T, _, rfl, fun x dx hx hd ne => ⟨x, _, dx, _, _, rfl, upd_same, t4.cl, t4.n1, t4.n2, fun H' h1 h2 => ⟨rfl, q _ _ (S12.trans (make2 hx hd h2)) ⟨dx, _, _, h1, Same.tup (S12.trans (make2 hx hd h2)) T1, Same.tup (S12.trans (make2 hx hd h2)) T2⟩⟩⟩⟩
    | @both _ _ x y _ _ _ => exact absurd dp (by have := Nt.dp_pos x; show ¬(max x.dp y.dp + 1 = 1); omega)
    | @either _ _ x y _ _ _ => exact absurd dp (by have := Nt.dp_pos x; show ¬(max x.dp y.dp + 1 = 1); omega)
    | @but _ _ x y _ _ _ => exact absurd dp (by have := Nt.dp_pos x; show ¬(max x.dp y.dp + 1 = 1); omega)
  · cases B with
    | w0 hz =>
      simp only [tTurn, rTurnT, tTryS, rCountT, rPop, rRep, tCont, iZipT, tChain3, tFld, sFld, tMake, tMake0, tMethD, tBM0, rUpper, tDict1T, tTryN, rSlS, rMulS, rCatS, iZipL, rInsert, rReverse, tDNewX, tTry, tRaise, iEnumL, iEnumT, iZip, iSeq, iOr, rIx, iStr, rLeS, rJoin, rSlTA, tComp_eq, tComp1, slots, Option.getD_some, Option.getD_none, tYes, tSeq, tAsg, gName, tOp, tUn, tC, tVar, tCB, tCons, tNil, tCall, rI, rI0, rU, tRet, tRetN, tIfS, tTest, tB, tAnd, tOr, tNot, tAndV, tOrV, tNotV, tIf, tChain, tMenu, tPar, tDrop, tTup, tLst, tNext, tSl, tPart, tNoPart, tNever, gTup, gCons, gNil, gSub, rSetL, tBM, rAppend, rEq, rNe, rIsi, rIxL, rIxT, rIxS, rSlL, isi_non_bl, isi_non_int, isi_non_str, isi_non_lst, isi_non_tup, isi_bl_bl, isi_bl_int, isi_bl_str, isi_bl_lst, isi_bl_tup, isi_int_bl, isi_int_int, isi_int_str, isi_int_lst, isi_int_tup, isi_str_bl, isi_str_int, isi_str_str, isi_str_lst, isi_str_tup, isi_lst_bl, isi_lst_int, isi_lst_str, isi_lst_lst, isi_lst_tup, isi_tup_bl, isi_tup_int, isi_tup_str, isi_tup_lst, isi_tup_tup, isi_dct_bl, isi_dct_int, isi_dct_str, isi_dct_lst, isi_dct_tup, Kd_non, Kd_bl, Kd_int, Kd_str, sc_non_non, sc_non_int, sc_int_non, sc_non_bl, sc_bl_non, sc_non_str, sc_str_non, sc_int_int, sc_bl_bl, sc_str_str, sc_int_str, sc_str_int, sc_bl_str, sc_str_bl, decide_true, decide_false, tFor_eq, iList, iTup, iRng1, iRng2, iRng3, rIndexT, tBM0, tBMT, tyK_int, tyK_bool, tyK_str, tyK_list, tyK_tuple, L2.start, cxK, Int.reduceToNat, List.map_cons, List.map_nil, List.length_cons, List.length_nil, Nat.reduceAdd, Nat.reduceSub, Nat.zero_add, List.replicate_succ, List.replicate_zero, List.cons_append, List.nil_append, List.append_nil, List.getElem?_cons_zero, List.getElem?_cons_succ, List.set_cons_zero, List.set_cons_succ, Option.some.injEq, V.int.injEq, V.bl.injEq, V.ref.injEq, V.str.injEq, V.ty.injEq, List.cons.injEq, exists_eq_left', exists_eq_left, exists_eq_right, exists_and_left, exists_and_right, and_true, true_and, and_assoc, exists_const, decide_eq_true_eq, Bool.not_eq_true', Bool.not_true, Bool.not_false, Bool.not_not, decide_eq_false_iff_not, ite_not, Bool.false_eq_true, if_true, if_false, reduceCtorEq, and_false, false_and, exists_false, or_false, false_or, ↓reduceIte, eq_self, reduceIte]
      refine ⟨_, .inr T, ?_⟩
      rw [if_pos (by rfl)]
      refine ⟨_, T, _, rfl, rfl, ?_⟩
      rw [if_neg (fun h => hz (V.str.inj h))]
      refine ⟨_, .inr T, ?_⟩
      rw [if_neg (by simp)]
      refine ⟨_, .inr T, ?_⟩
      rw [if_neg (by simp)]
      exact ⟨by decide, e _ (Same.refl _)⟩
    | @n1 _ v hv =>
      simp only [tTurn, rTurnT, tTryS, rCountT, rPop, rRep, tCont, iZipT, tChain3, tFld, sFld, tMake, tMake0, tMethD, tBM0, rUpper, tDict1T, tTryN, rSlS, rMulS, rCatS, iZipL, rInsert, rReverse, tDNewX, tTry, tRaise, iEnumL, iEnumT, iZip, iSeq, iOr, rIx, iStr, rLeS, rJoin, rSlTA, tComp_eq, tComp1, slots, Option.getD_some, Option.getD_none, tYes, tSeq, tAsg, gName, tOp, tUn, tC, tVar, tCB, tCons, tNil, tCall, rI, rI0, rU, tRet, tRetN, tIfS, tTest, tB, tAnd, tOr, tNot, tAndV, tOrV, tNotV, tIf, tChain, tMenu, tPar, tDrop, tTup, tLst, tNext, tSl, tPart, tNoPart, tNever, gTup, gCons, gNil, gSub, rSetL, tBM, rAppend, rEq, rNe, rIsi, rIxL, rIxT, rIxS, rSlL, isi_non_bl, isi_non_int, isi_non_str, isi_non_lst, isi_non_tup, isi_bl_bl, isi_bl_int, isi_bl_str, isi_bl_lst, isi_bl_tup, isi_int_bl, isi_int_int, isi_int_str, isi_int_lst, isi_int_tup, isi_str_bl, isi_str_int, isi_str_str, isi_str_lst, isi_str_tup, isi_lst_bl, isi_lst_int, isi_lst_str, isi_lst_lst, isi_lst_tup, isi_tup_bl, isi_tup_int, isi_tup_str, isi_tup_lst, isi_tup_tup, isi_dct_bl, isi_dct_int, isi_dct_str, isi_dct_lst, isi_dct_tup, Kd_non, Kd_bl, Kd_int, Kd_str, sc_non_non, sc_non_int, sc_int_non, sc_non_bl, sc_bl_non, sc_non_str, sc_str_non, sc_int_int, sc_bl_bl, sc_str_str, sc_int_str, sc_str_int, sc_bl_str, sc_str_bl, decide_true, decide_false, tFor_eq, iList, iTup, iRng1, iRng2, iRng3, rIndexT, tBM0, tBMT, tyK_int, tyK_bool, tyK_str, tyK_list, tyK_tuple, L2.start, cxK, Int.reduceToNat, List.map_cons, List.map_nil, List.length_cons, List.length_nil, Nat.reduceAdd, Nat.reduceSub, Nat.zero_add, List.replicate_succ, List.replicate_zero, List.cons_append, List.nil_append, List.append_nil, List.getElem?_cons_zero, List.getElem?_cons_succ, List.set_cons_zero, List.set_cons_succ, Option.some.injEq, V.int.injEq, V.bl.injEq, V.ref.injEq, V.str.injEq, V.ty.injEq, List.cons.injEq, exists_eq_left', exists_eq_left, exists_eq_right, exists_and_left, exists_and_right, and_true, true_and, and_assoc, exists_const, decide_eq_true_eq, Bool.not_eq_true', Bool.not_true, Bool.not_false, Bool.not_not, decide_eq_false_iff_not, ite_not, Bool.false_eq_true, if_true, if_false, reduceCtorEq, and_false, false_and, exists_false, or_false, false_or, ↓reduceIte, eq_self, reduceIte]
      refine ⟨_, .inr T, ?_⟩
      rw [if_neg (by simp)]
      refine ⟨_, .inr T, ?_⟩
      rw [if_pos (by simp)]
      refine ⟨_, T, _, rfl, _, false, rfl, hv, fun H1 S1 => ⟨_, rfl, ?_⟩⟩
      rw [if_neg (by decide)]
      refine ⟨_, .inr (Same.tup S1 T), ?_⟩
      rw [if_neg (by simp)]
      exact ⟨by decide, e _ S1⟩
    | @m1 _ s hz1 hz2 hz3 hs =>
      simp only [tTurn, rTurnT, tTryS, rCountT, rPop, rRep, tCont, iZipT, tChain3, tFld, sFld, tMake, tMake0, tMethD, tBM0, rUpper, tDict1T, tTryN, rSlS, rMulS, rCatS, iZipL, rInsert, rReverse, tDNewX, tTry, tRaise, iEnumL, iEnumT, iZip, iSeq, iOr, rIx, iStr, rLeS, rJoin, rSlTA, tComp_eq, tComp1, slots, Option.getD_some, Option.getD_none, tYes, tSeq, tAsg, gName, tOp, tUn, tC, tVar, tCB, tCons, tNil, tCall, rI, rI0, rU, tRet, tRetN, tIfS, tTest, tB, tAnd, tOr, tNot, tAndV, tOrV, tNotV, tIf, tChain, tMenu, tPar, tDrop, tTup, tLst, tNext, tSl, tPart, tNoPart, tNever, gTup, gCons, gNil, gSub, rSetL, tBM, rAppend, rEq, rNe, rIsi, rIxL, rIxT, rIxS, rSlL, isi_non_bl, isi_non_int, isi_non_str, isi_non_lst, isi_non_tup, isi_bl_bl, isi_bl_int, isi_bl_str, isi_bl_lst, isi_bl_tup, isi_int_bl, isi_int_int, isi_int_str, isi_int_lst, isi_int_tup, isi_str_bl, isi_str_int, isi_str_str, isi_str_lst, isi_str_tup, isi_lst_bl, isi_lst_int, isi_lst_str, isi_lst_lst, isi_lst_tup, isi_tup_bl, isi_tup_int, isi_tup_str, isi_tup_lst, isi_tup_tup, isi_dct_bl, isi_dct_int, isi_dct_str, isi_dct_lst, isi_dct_tup, Kd_non, Kd_bl, Kd_int, Kd_str, sc_non_non, sc_non_int, sc_int_non, sc_non_bl, sc_bl_non, sc_non_str, sc_str_non, sc_int_int, sc_bl_bl, sc_str_str, sc_int_str, sc_str_int, sc_bl_str, sc_str_bl, decide_true, decide_false, tFor_eq, iList, iTup, iRng1, iRng2, iRng3, rIndexT, tBM0, tBMT, tyK_int, tyK_bool, tyK_str, tyK_list, tyK_tuple, L2.start, cxK, Int.reduceToNat, List.map_cons, List.map_nil, List.length_cons, List.length_nil, Nat.reduceAdd, Nat.reduceSub, Nat.zero_add, List.replicate_succ, List.replicate_zero, List.cons_append, List.nil_append, List.append_nil, List.getElem?_cons_zero, List.getElem?_cons_succ, List.set_cons_zero, List.set_cons_succ, Option.some.injEq, V.int.injEq, V.bl.injEq, V.ref.injEq, V.str.injEq, V.ty.injEq, List.cons.injEq, exists_eq_left', exists_eq_left, exists_eq_right, exists_and_left, exists_and_right, and_true, true_and, and_assoc, exists_const, decide_eq_true_eq, Bool.not_eq_true', Bool.not_true, Bool.not_false, Bool.not_not, decide_eq_false_iff_not, ite_not, Bool.false_eq_true, if_true, if_false, reduceCtorEq, and_false, false_and, exists_false, or_false, false_or, ↓reduceIte, eq_self, reduceIte]
      refine ⟨_, .inr T, ?_⟩
      rw [if_neg (by simp)]
      refine ⟨_, .inr T, ?_⟩
      rw [if_pos (by simp)]
      refine ⟨_, T, _, rfl, _, true, rfl, name_v hs, fun H1 S1 => ⟨_, rfl, ?_⟩⟩
      rw [if_pos rfl]
      exact ⟨_, Same.tup S1 T, _, rfl, _, Same.tup S1 T, _, rfl, _, _, rfl, fun n hn => by rcases hn with ⟨h, rfl⟩ | ⟨h, rfl⟩ | ⟨h, rfl⟩ <;> first | exact absurd h hz1 | exact absurd h hz2 | exact absurd h hz3, fun _ _ _ => e _ S1⟩
    | @w2 _ v u hz =>
      simp only [tTurn, rTurnT, tTryS, rCountT, rPop, rRep, tCont, iZipT, tChain3, tFld, sFld, tMake, tMake0, tMethD, tBM0, rUpper, tDict1T, tTryN, rSlS, rMulS, rCatS, iZipL, rInsert, rReverse, tDNewX, tTry, tRaise, iEnumL, iEnumT, iZip, iSeq, iOr, rIx, iStr, rLeS, rJoin, rSlTA, tComp_eq, tComp1, slots, Option.getD_some, Option.getD_none, tYes, tSeq, tAsg, gName, tOp, tUn, tC, tVar, tCB, tCons, tNil, tCall, rI, rI0, rU, tRet, tRetN, tIfS, tTest, tB, tAnd, tOr, tNot, tAndV, tOrV, tNotV, tIf, tChain, tMenu, tPar, tDrop, tTup, tLst, tNext, tSl, tPart, tNoPart, tNever, gTup, gCons, gNil, gSub, rSetL, tBM, rAppend, rEq, rNe, rIsi, rIxL, rIxT, rIxS, rSlL, isi_non_bl, isi_non_int, isi_non_str, isi_non_lst, isi_non_tup, isi_bl_bl, isi_bl_int, isi_bl_str, isi_bl_lst, isi_bl_tup, isi_int_bl, isi_int_int, isi_int_str, isi_int_lst, isi_int_tup, isi_str_bl, isi_str_int, isi_str_str, isi_str_lst, isi_str_tup, isi_lst_bl, isi_lst_int, isi_lst_str, isi_lst_lst, isi_lst_tup, isi_tup_bl, isi_tup_int, isi_tup_str, isi_tup_lst, isi_tup_tup, isi_dct_bl, isi_dct_int, isi_dct_str, isi_dct_lst, isi_dct_tup, Kd_non, Kd_bl, Kd_int, Kd_str, sc_non_non, sc_non_int, sc_int_non, sc_non_bl, sc_bl_non, sc_non_str, sc_str_non, sc_int_int, sc_bl_bl, sc_str_str, sc_int_str, sc_str_int, sc_bl_str, sc_str_bl, decide_true, decide_false, tFor_eq, iList, iTup, iRng1, iRng2, iRng3, rIndexT, tBM0, tBMT, tyK_int, tyK_bool, tyK_str, tyK_list, tyK_tuple, L2.start, cxK, Int.reduceToNat, List.map_cons, List.map_nil, List.length_cons, List.length_nil, Nat.reduceAdd, Nat.reduceSub, Nat.zero_add, List.replicate_succ, List.replicate_zero, List.cons_append, List.nil_append, List.append_nil, List.getElem?_cons_zero, List.getElem?_cons_succ, List.set_cons_zero, List.set_cons_succ, Option.some.injEq, V.int.injEq, V.bl.injEq, V.ref.injEq, V.str.injEq, V.ty.injEq, List.cons.injEq, exists_eq_left', exists_eq_left, exists_eq_right, exists_and_left, exists_and_right, and_true, true_and, and_assoc, exists_const, decide_eq_true_eq, Bool.not_eq_true', Bool.not_true, Bool.not_false, Bool.not_not, decide_eq_false_iff_not, ite_not, Bool.false_eq_true, if_true, if_false, reduceCtorEq, and_false, false_and, exists_false, or_false, false_or, ↓reduceIte, eq_self, reduceIte]
      refine ⟨_, .inr T, ?_⟩
      rw [if_neg (by simp)]
      refine ⟨_, .inr T, ?_⟩
      rw [if_neg (by simp)]
      refine ⟨_, .inr T, ?_⟩
      rw [if_pos (by simp)]
      refine ⟨_, T, _, rfl, rfl, ?_⟩
      rw [if_neg (fun h => hz (V.str.inj h))]
      exact ⟨by decide, e _ (Same.refl _)⟩
    | @k1 v u hv =>
      simp only [tTurn, rTurnT, tTryS, rCountT, rPop, rRep, tCont, iZipT, tChain3, tFld, sFld, tMake, tMake0, tMethD, tBM0, rUpper, tDict1T, tTryN, rSlS, rMulS, rCatS, iZipL, rInsert, rReverse, tDNewX, tTry, tRaise, iEnumL, iEnumT, iZip, iSeq, iOr, rIx, iStr, rLeS, rJoin, rSlTA, tComp_eq, tComp1, slots, Option.getD_some, Option.getD_none, tYes, tSeq, tAsg, gName, tOp, tUn, tC, tVar, tCB, tCons, tNil, tCall, rI, rI0, rU, tRet, tRetN, tIfS, tTest, tB, tAnd, tOr, tNot, tAndV, tOrV, tNotV, tIf, tChain, tMenu, tPar, tDrop, tTup, tLst, tNext, tSl, tPart, tNoPart, tNever, gTup, gCons, gNil, gSub, rSetL, tBM, rAppend, rEq, rNe, rIsi, rIxL, rIxT, rIxS, rSlL, isi_non_bl, isi_non_int, isi_non_str, isi_non_lst, isi_non_tup, isi_bl_bl, isi_bl_int, isi_bl_str, isi_bl_lst, isi_bl_tup, isi_int_bl, isi_int_int, isi_int_str, isi_int_lst, isi_int_tup, isi_str_bl, isi_str_int, isi_str_str, isi_str_lst, isi_str_tup, isi_lst_bl, isi_lst_int, isi_lst_str, isi_lst_lst, isi_lst_tup, isi_tup_bl, isi_tup_int, isi_tup_str, isi_tup_lst, isi_tup_tup, isi_dct_bl, isi_dct_int, isi_dct_str, isi_dct_lst, isi_dct_tup, Kd_non, Kd_bl, Kd_int, Kd_str, sc_non_non, sc_non_int, sc_int_non, sc_non_bl, sc_bl_non, sc_non_str, sc_str_non, sc_int_int, sc_bl_bl, sc_str_str, sc_int_str, sc_str_int, sc_bl_str, sc_str_bl, decide_true, decide_false, tFor_eq, iList, iTup, iRng1, iRng2, iRng3, rIndexT, tBM0, tBMT, tyK_int, tyK_bool, tyK_str, tyK_list, tyK_tuple, L2.start, cxK, Int.reduceToNat, List.map_cons, List.map_nil, List.length_cons, List.length_nil, Nat.reduceAdd, Nat.reduceSub, Nat.zero_add, List.replicate_succ, List.replicate_zero, List.cons_append, List.nil_append, List.append_nil, List.getElem?_cons_zero, List.getElem?_cons_succ, List.set_cons_zero, List.set_cons_succ, Option.some.injEq, V.int.injEq, V.bl.injEq, V.ref.injEq, V.str.injEq, V.ty.injEq, List.cons.injEq, exists_eq_left', exists_eq_left, exists_eq_right, exists_and_left, exists_and_right, and_true, true_and, and_assoc, exists_const, decide_eq_true_eq, Bool.not_eq_true', Bool.not_true, Bool.not_false, Bool.not_not, decide_eq_false_iff_not, ite_not, Bool.false_eq_true, if_true, if_false, reduceCtorEq, and_false, false_and, exists_false, or_false, false_or, ↓reduceIte, eq_self, reduceIte]
      refine ⟨_, .inr T, ?_⟩
      rw [if_neg (by simp)]
      refine ⟨_, .inr T, ?_⟩
      rw [if_neg (by simp)]
      refine ⟨_, .inr T, ?_⟩
      rw [if_pos (by simp)]
      refine ⟨_, T, _, rfl, rfl, ?_⟩
      rw [if_pos rfl]
      refine ⟨_, T, _, rfl, _, false, rfl, hv, fun H1 S1 => ⟨_, rfl, ?_⟩⟩
      rw [if_neg (by decide)]
      exact ⟨by decide, e _ S1⟩
    | @k2 v u hv hu =>
      simp only [tTurn, rTurnT, tTryS, rCountT, rPop, rRep, tCont, iZipT, tChain3, tFld, sFld, tMake, tMake0, tMethD, tBM0, rUpper, tDict1T, tTryN, rSlS, rMulS, rCatS, iZipL, rInsert, rReverse, tDNewX, tTry, tRaise, iEnumL, iEnumT, iZip, iSeq, iOr, rIx, iStr, rLeS, rJoin, rSlTA, tComp_eq, tComp1, slots, Option.getD_some, Option.getD_none, tYes, tSeq, tAsg, gName, tOp, tUn, tC, tVar, tCB, tCons, tNil, tCall, rI, rI0, rU, tRet, tRetN, tIfS, tTest, tB, tAnd, tOr, tNot, tAndV, tOrV, tNotV, tIf, tChain, tMenu, tPar, tDrop, tTup, tLst, tNext, tSl, tPart, tNoPart, tNever, gTup, gCons, gNil, gSub, rSetL, tBM, rAppend, rEq, rNe, rIsi, rIxL, rIxT, rIxS, rSlL, isi_non_bl, isi_non_int, isi_non_str, isi_non_lst, isi_non_tup, isi_bl_bl, isi_bl_int, isi_bl_str, isi_bl_lst, isi_bl_tup, isi_int_bl, isi_int_int, isi_int_str, isi_int_lst, isi_int_tup, isi_str_bl, isi_str_int, isi_str_str, isi_str_lst, isi_str_tup, isi_lst_bl, isi_lst_int, isi_lst_str, isi_lst_lst, isi_lst_tup, isi_tup_bl, isi_tup_int, isi_tup_str, isi_tup_lst, isi_tup_tup, isi_dct_bl, isi_dct_int, isi_dct_str, isi_dct_lst, isi_dct_tup, Kd_non, Kd_bl, Kd_int, Kd_str, sc_non_non, sc_non_int, sc_int_non, sc_non_bl, sc_bl_non, sc_non_str, sc_str_non, sc_int_int, sc_bl_bl, sc_str_str, sc_int_str, sc_str_int, sc_bl_str, sc_str_bl, decide_true, decide_false, tFor_eq, iList, iTup, iRng1, iRng2, iRng3, rIndexT, tBM0, tBMT, tyK_int, tyK_bool, tyK_str, tyK_list, tyK_tuple, L2.start, cxK, Int.reduceToNat, List.map_cons, List.map_nil, List.length_cons, List.length_nil, Nat.reduceAdd, Nat.reduceSub, Nat.zero_add, List.replicate_succ, List.replicate_zero, List.cons_append, List.nil_append, List.append_nil, List.getElem?_cons_zero, List.getElem?_cons_succ, List.set_cons_zero, List.set_cons_succ, Option.some.injEq, V.int.injEq, V.bl.injEq, V.ref.injEq, V.str.injEq, V.ty.injEq, List.cons.injEq, exists_eq_left', exists_eq_left, exists_eq_right, exists_and_left, exists_and_right, and_true, true_and, and_assoc, exists_const, decide_eq_true_eq, Bool.not_eq_true', Bool.not_true, Bool.not_false, Bool.not_not, decide_eq_false_iff_not, ite_not, Bool.false_eq_true, if_true, if_false, reduceCtorEq, and_false, false_and, exists_false, or_false, false_or, ↓reduceIte, eq_self, reduceIte]
      refine ⟨_, .inr T, ?_⟩
      rw [if_neg (by simp)]
      refine ⟨_, .inr T, ?_⟩
      rw [if_neg (by simp)]
      refine ⟨_, .inr T, ?_⟩
      rw [if_pos (by simp)]
      refine ⟨_, T, _, rfl, rfl, ?_⟩
      rw [if_pos rfl]
      refine ⟨_, T, _, rfl, _, true, rfl, hv, fun H1 S1 => ⟨_, rfl, ?_⟩⟩
      rw [if_pos rfl]
      refine ⟨_, Same.tup S1 T, _, rfl, _, false, rfl, hu.same S1, fun H2 S2 => ⟨_, rfl, ?_⟩⟩
      rw [if_neg (by decide)]
      exact ⟨by decide, e _ (S1.trans S2)⟩
theorem step_within {d : Nat} (F : Fun K "note_within" "note_within" s_note_within f fd) (M : Mg mg) (C_note_of_one : Cal P w K mg base (CXE P w) "note_of_one" 4 ["told"] (spOfOne K cs cN)) (C_note_of_notes : Cal P w K mg base CX0 "note_of_notes" 3 ["word", "one", "other"] (spOfNotes K cs)) (R_NoNote : XRaise K mg "NoNote" cN)
    (C_note_within : Cal P w K mg base (CXE P w) "note_within" (5 + d) ["left", "told"] (spWithin K cs cN d)) : FnOk P w K mg base (CXE P w) (5 + d + 1) f fd ["left", "told"] (spWithin K cs cN (d + 1)) := by
  refine F.okX sc_note_within (fun vs H Q E h => ?_) (fun cdv A outer s H vs Q E hr h => ?_)
  · rcases h with ⟨p, n, rfl, _⟩ | ⟨v, rfl, _⟩ <;> rfl
  refine ⟨_, (@pss_cons _ _ _ _ _ (@ps_if _ _ _ _ _ _ _ _ (@pt_cmpR _ _ _ _ _ _ _ _ (@op_eq _) (@pe_var _ 0 _ _ rfl v_note_within_0 dn_left dc_left) (@pe_int _ _ _ _) (nomark _)) (@pss_one _ _ _ (@ps_raise _ _ _ _ _ _ _ _ _ _ _ throws_cx hr g_note_within_NoNote R_NoNote (@pa_cons _ _ _ _ _ (@pe_str _ _ _ _) (@pa_nil _) (star1 rfl)) (star1 rfl) (by rfl) dn_NoNote)) (@pss_nil _)) (@pss_cons _ _ _ _ _ (@ps_if _ _ _ _ _ _ _ _ (@PW.pt _ _ _ (@pw_or _ _ _ _ _ _ _ (@pt_not _ _ _ _ (@pt_val _ _ _ (@pe_callB _ _ _ _ _ _ _ _ _ call_isi g_note_within_isinstance M.m_isinstance b_isinstance (@pa_cons _ _ _ _ _ (@pe_var _ 1 _ _ rfl v_note_within_1 dn_told dc_told) (@pa_cons _ _ _ _ _ (@pe_bltn _ _ (.ty "tuple") _ _ g_note_within_tuple M.m_tuple b_tuple rfl nn_tuple dn_tuple) (@pa_nil _) (star1 rfl)) (star1 rfl)) nn_isinstance dn_isinstance (star1 rfl) (nost1 rfl nost0)) (test1 rfl))) (@pw_or _ _ _ _ _ _ _ (@pt_cmpR _ _ _ _ _ _ _ _ (@op_eq _) (@pe_callB _ _ _ _ _ _ _ _ _ call_len_seq g_note_within_len M.m_len b_len (@pa_cons _ _ _ _ _ (@pe_var _ 1 _ _ rfl v_note_within_1 dn_told dc_told) (@pa_nil _) (star1 rfl)) nn_len dn_len (star1 rfl) nost0) (@pe_int _ _ _ _) (nomark _)) (@pw_or1 _ _ _ _ (@pt_not _ _ _ _ (@pt_val _ _ _ (@pe_callB _ _ _ _ _ _ _ _ _ call_isi g_note_within_isinstance M.m_isinstance b_isinstance (@pa_cons _ _ _ _ _ (@pe_ix _ _ _ _ _ _ _ (@ix_tup _) (@pe_var _ 1 _ _ rfl v_note_within_1 dn_told dc_told) (@pe_int _ _ _ _) (fun _ _ => rfl)) (@pa_cons _ _ _ _ _ (@pe_bltn _ _ (.ty "str") _ _ g_note_within_str M.m_str b_str rfl nn_str dn_str) (@pa_nil _) (star1 rfl)) (star1 rfl)) nn_isinstance dn_isinstance (star1 rfl) (nost1 rfl nost0)) (test1 rfl))))))) (@pss_one _ _ _ (@ps_raise _ _ _ _ _ _ _ _ _ _ _ throws_cx hr g_note_within_NoNote R_NoNote (@pa_cons _ _ _ _ _ (@pe_str _ _ _ _) (@pa_nil _) (star1 rfl)) (star1 rfl) (by rfl) dn_NoNote)) (@pss_nil _)) (@pss_cons _ _ _ _ _ (@ps_if _ _ _ _ _ _ _ _ (@PW.pt _ _ _ (@pw_and _ _ _ _ _ _ _ (@pt_cmpR _ _ _ _ _ _ _ _ (@op_eq _) (@pe_callB _ _ _ _ _ _ _ _ _ call_len_seq g_note_within_len M.m_len b_len (@pa_cons _ _ _ _ _ (@pe_var _ 1 _ _ rfl v_note_within_1 dn_told dc_told) (@pa_nil _) (star1 rfl)) nn_len dn_len (star1 rfl) nost0) (@pe_int _ _ _ _) (nomark _)) (@pw_and1 _ _ _ _ (@pt_cmpR _ _ _ _ _ _ _ _ op_in_seq (@pe_ix _ _ _ _ _ _ _ (@ix_tup _) (@pe_var _ 1 _ _ rfl v_note_within_1 dn_told dc_told) (@pe_int _ _ _ _) (fun _ _ => rfl)) (@pe_tup _ _ _ _ _ (@pa_cons _ _ _ _ _ (@pe_str _ _ _ _) (@pa_cons _ _ _ _ _ (@pe_str _ _ _ _) (@pa_cons _ _ _ _ _ (@pe_str _ _ _ _) (@pa_nil _) (star1 rfl)) (star1 rfl)) (star1 rfl))) (by with_unfolding_all rfl))))) (@pss_cons _ _ _ _ _ (@ps_set _ _ 2 _ _ _ _ sc_note_within.nd rfl l_note_within_2 (@pe_callX _ _ _ _ _ _ _ _ _ _ _ _ _ C_note_within hr g_note_within_note_within pass_cx (@pa_cons _ _ _ _ _ (@pe_op _ _ _ _ _ _ _ _ (@op_sub _) (@pe_var _ 0 _ _ rfl v_note_within_0 dn_left dc_left) (@pe_int _ _ _ _)) (@pa_cons _ _ _ _ _ (@pe_ix _ _ _ _ _ _ _ (@ix_tup _) (@pe_var _ 1 _ _ rfl v_note_within_1 dn_told dc_told) (@pe_int _ _ _ _) (fun _ _ => rfl)) (@pa_nil _) (star1 rfl)) (star1 rfl)) (by omega) dn_note_within (star1 rfl) (nost1 rfl nost0)) (swap1 rfl) (.inl rfl)) (@pss_cons _ _ _ _ _ (@ps_set _ _ 3 _ _ _ _ sc_note_within.nd rfl l_note_within_3 (@pe_callX _ _ _ _ _ _ _ _ _ _ _ _ _ C_note_within hr g_note_within_note_within pass_cx (@pa_cons _ _ _ _ _ (@pe_op _ _ _ _ _ _ _ _ (@op_sub _) (@pe_var _ 0 _ _ rfl v_note_within_0 dn_left dc_left) (@pe_int _ _ _ _)) (@pa_cons _ _ _ _ _ (@pe_ix _ _ _ _ _ _ _ (@ix_tup _) (@pe_var _ 1 _ _ rfl v_note_within_1 dn_told dc_told) (@pe_int _ _ _ _) (fun _ _ => rfl)) (@pa_nil _) (star1 rfl)) (star1 rfl)) (by omega) dn_note_within (star1 rfl) (nost1 rfl nost0)) (swap1 rfl) (.inl rfl)) (@pss_one _ _ _ (@ps_ret _ _ _ _ (@pe_callC _ _ _ _ _ _ _ _ _ _ _ C_note_of_notes hr g_note_within_note_of_notes (@pa_cons _ _ _ _ _ (@pe_ix _ _ _ _ _ _ _ (@ix_tup _) (@pe_var _ 1 _ _ rfl v_note_within_1 dn_told dc_told) (@pe_int _ _ _ _) (fun _ _ => rfl)) (@pa_cons _ _ _ _ _ (@pe_var _ 2 _ _ rfl v_note_within_2 dn_one dc_one) (@pa_cons _ _ _ _ _ (@pe_var _ 3 _ _ rfl v_note_within_3 dn_other dc_other) (@pa_nil _) (star1 rfl)) (star1 rfl)) (star1 rfl)) (by omega) dn_note_of_notes (star1 rfl) (nost1 rfl (nost1 rfl nost0))))))) (@pss_nil _)) (@pss_one _ _ _ (@ps_ret _ _ _ _ (@pe_callX _ _ _ _ _ _ _ _ _ _ _ _ _ C_note_of_one hr g_note_within_note_of_one pass_cx (@pa_cons _ _ _ _ _ (@pe_var _ 1 _ _ rfl v_note_within_1 dn_told dc_told) (@pa_nil _) (star1 rfl)) (by omega) dn_note_of_one (star1 rfl) nost0)))))), ?_⟩
  rcases h with ⟨p, n, rfl, R, ok, dp, q⟩ | ⟨v, rfl, B, e⟩
  · have one : n.dp = 1 → ∀ H', Same H H' → spOfOne K cs cN [V.ref p] H' Q E := fun h H' e => .inl ⟨p, n, rfl, R.same e, ok, h, fun a H2 e2 => q a H2 (e.trans e2)⟩
    simp only [tTurn, rTurnT, tTryS, rCountT, rPop, rRep, tCont, iZipT, tChain3, tFld, sFld, tMake, tMake0, tMethD, tBM0, rUpper, tDict1T, tTryN, rSlS, rMulS, rCatS, iZipL, rInsert, rReverse, tDNewX, tTry, tRaise, iEnumL, iEnumT, iZip, iSeq, iOr, rIx, iStr, rLeS, rJoin, rSlTA, tComp_eq, tComp1, slots, Option.getD_some, Option.getD_none, tYes, tSeq, tAsg, gName, tOp, tUn, tC, tVar, tCB, tCons, tNil, tCall, rI, rI0, rU, tRet, tRetN, tIfS, tTest, tB, tAnd, tOr, tNot, tAndV, tOrV, tNotV, tIf, tChain, tMenu, tPar, tDrop, tTup, tLst, tNext, tSl, tPart, tNoPart, tNever, gTup, gCons, gNil, gSub, rSetL, tBM, rAppend, rEq, rNe, rIsi, rIxL, rIxT, rIxS, rSlL, isi_non_bl, isi_non_int, isi_non_str, isi_non_lst, isi_non_tup, isi_bl_bl, isi_bl_int, isi_bl_str, isi_bl_lst, isi_bl_tup, isi_int_bl, isi_int_int, isi_int_str, isi_int_lst, isi_int_tup, isi_str_bl, isi_str_int, isi_str_str, isi_str_lst, isi_str_tup, isi_lst_bl, isi_lst_int, isi_lst_str, isi_lst_lst, isi_lst_tup, isi_tup_bl, isi_tup_int, isi_tup_str, isi_tup_lst, isi_tup_tup, isi_dct_bl, isi_dct_int, isi_dct_str, isi_dct_lst, isi_dct_tup, Kd_non, Kd_bl, Kd_int, Kd_str, sc_non_non, sc_non_int, sc_int_non, sc_non_bl, sc_bl_non, sc_non_str, sc_str_non, sc_int_int, sc_bl_bl, sc_str_str, sc_int_str, sc_str_int, sc_bl_str, sc_str_bl, decide_true, decide_false, tFor_eq, iList, iTup, iRng1, iRng2, iRng3, rIndexT, tBM0, tBMT, tyK_int, tyK_bool, tyK_str, tyK_list, tyK_tuple, L2.start, cxK, Int.reduceToNat, List.map_cons, List.map_nil, List.length_cons, List.length_nil, Nat.reduceAdd, Nat.reduceSub, Nat.zero_add, List.replicate_succ, List.replicate_zero, List.cons_append, List.nil_append, List.append_nil, List.getElem?_cons_zero, List.getElem?_cons_succ, List.set_cons_zero, List.set_cons_succ, Option.some.injEq, V.int.injEq, V.bl.injEq, V.ref.injEq, V.str.injEq, V.ty.injEq, List.cons.injEq, exists_eq_left', exists_eq_left, exists_eq_right, exists_and_left, exists_and_right, and_true, true_and, and_assoc, exists_const, decide_eq_true_eq, Bool.not_eq_true', Bool.not_true, Bool.not_false, Bool.not_not, decide_eq_false_iff_not, ite_not, Bool.false_eq_true, if_true, if_false, reduceCtorEq, and_false, false_and, exists_false, or_false, false_or, ↓reduceIte, eq_self, reduceIte]
    rw [if_neg (by omega)]
    cases tol_row R with
    | any T =>
      refine ⟨_, Kd.tup T, ?_⟩
      rw [if_neg (by decide)]
      refine ⟨_, .inr T, ?_⟩
      rw [if_neg (by simp)]
      refine ⟨_, T, _, rfl, _, (show Kd K H (.str _) .str from rfl), ?_⟩
      rw [if_neg (by decide)]
      refine ⟨_, .inr T, ?_⟩
      rw [if_neg (by simp)]
      exact one rfl _ (Same.refl _)
    | made T =>
      refine ⟨_, Kd.tup T, ?_⟩
      rw [if_neg (by decide)]
      refine ⟨_, .inr T, ?_⟩
      rw [if_neg (by simp)]
      refine ⟨_, T, _, rfl, _, (show Kd K H (.str _) .str from rfl), ?_⟩
      rw [if_neg (by decide)]
      refine ⟨_, .inr T, ?_⟩
      rw [if_neg (by simp)]
      exact one rfl _ (Same.refl _)
    | used T =>
      refine ⟨_, Kd.tup T, ?_⟩
      rw [if_neg (by decide)]
      refine ⟨_, .inr T, ?_⟩
      rw [if_neg (by simp)]
      refine ⟨_, T, _, rfl, _, (show Kd K H (.str _) .str from rfl), ?_⟩
      rw [if_neg (by decide)]
      refine ⟨_, .inr T, ?_⟩
      rw [if_neg (by simp)]
      exact one rfl _ (Same.refl _)
    | chief T =>
      refine ⟨_, Kd.tup T, ?_⟩
      rw [if_neg (by decide)]
      refine ⟨_, .inr T, ?_⟩
      rw [if_neg (by simp)]
      refine ⟨_, T, _, rfl, _, (show Kd K H (.str _) .str from rfl), ?_⟩
      rw [if_neg (by decide)]
      refine ⟨_, .inr T, ?_⟩
      rw [if_neg (by simp)]
      exact one rfl _ (Same.refl _)
    | over T T1 T2 =>
      refine ⟨_, Kd.tup T, ?_⟩
      rw [if_neg (by decide)]
      refine ⟨_, .inr T, ?_⟩
      rw [if_neg (by simp)]
      refine ⟨_, T, _, rfl, _, (show Kd K H (.str _) .str from rfl), ?_⟩
      rw [if_neg (by decide)]
      refine ⟨_, .inr T, ?_⟩
      rw [if_pos (by simp)]
      refine ⟨_, T, _, rfl, by decide, fun p1 hp1 => ?_⟩
      obtain ⟨H1, g1, S1, T1⟩ := fresh_tup (K := K) hp1 [V.str (Str.ofString "both"), V.str (Str.ofString "either"), V.str (Str.ofString "but")]
      rw [← g1]
      clear g1
      refine ⟨p1, _, rfl, .inr T1, rfl, rfl, _, rfl, ?_⟩
      rw [if_neg (by decide)]
      exact one rfl _ S1
    | @both a1 a2 x y T R1 R2 =>
      have dd : max x.dp y.dp + 1 ≤ d + 1 := dp
      obtain ⟨ok1, ok2⟩ := ok
      refine ⟨_, Kd.tup T, ?_⟩
      rw [if_neg (by decide)]
      refine ⟨_, .inr T, ?_⟩
      rw [if_neg (by simp)]
      refine ⟨_, T, _, rfl, _, (show Kd K H (.str _) .str from rfl), ?_⟩
      rw [if_neg (by decide)]
      refine ⟨_, .inr T, ?_⟩
      rw [if_pos (by simp)]
      refine ⟨_, T, _, rfl, by decide, fun p1 hp1 => ?_⟩
      obtain ⟨H1, g1, S1, T1⟩ := fresh_tup (K := K) hp1 [V.str (Str.ofString "both"), V.str (Str.ofString "either"), V.str (Str.ofString "but")]
      rw [← g1]
      clear g1
      refine ⟨p1, _, rfl, .inr T1, rfl, rfl, _, rfl, ?_⟩
      rw [if_pos (by decide)]
      have ed : ((d + 1 : Nat) : Int) - 1 = (d : Int) := by omega
      rw [ed]
      refine ⟨_, Same.tup S1 T, _, rfl, .inl ⟨a1, x, rfl, R1.same S1, ok1, by omega, fun o1 H2 S2 O1 => ?_⟩⟩
      have S12 := S1.trans S2
      refine ⟨_, Same.tup S12 T, _, rfl, .inl ⟨a2, y, rfl, R2.same S12, ok2, by omega, fun o2 H3 S3 O2 => ?_⟩⟩
      have S13 := S12.trans S3
      exact ⟨_, Same.tup S13 T, _, rfl, _, o1, o2, x, y, _, rfl, (.inl ⟨rfl, rfl⟩), ObjN.same S3 O1, O2, fun a H' e => q a H' (S13.trans e)⟩
    | @either a1 a2 x y T R1 R2 =>
      have dd : max x.dp y.dp + 1 ≤ d + 1 := dp
      obtain ⟨ok1, ok2⟩ := ok
      refine ⟨_, Kd.tup T, ?_⟩
      rw [if_neg (by decide)]
      refine ⟨_, .inr T, ?_⟩
      rw [if_neg (by simp)]
      refine ⟨_, T, _, rfl, _, (show Kd K H (.str _) .str from rfl), ?_⟩
      rw [if_neg (by decide)]
      refine ⟨_, .inr T, ?_⟩
      rw [if_pos (by simp)]
      refine ⟨_, T, _, rfl, by decide, fun p1 hp1 => ?_⟩
      obtain ⟨H1, g1, S1, T1⟩ := fresh_tup (K := K) hp1 [V.str (Str.ofString "both"), V.str (Str.ofString "either"), V.str (Str.ofString "but")]
      rw [← g1]
      clear g1
      refine ⟨p1, _, rfl, .inr T1, rfl, rfl, _, rfl, ?_⟩
      rw [if_pos (by decide)]
      have ed : ((d + 1 : Nat) : Int) - 1 = (d : Int) := by omega
      rw [ed]
      refine ⟨_, Same.tup S1 T, _, rfl, .inl ⟨a1, x, rfl, R1.same S1, ok1, by omega, fun o1 H2 S2 O1 => ?_⟩⟩
      have S12 := S1.trans S2
      refine ⟨_, Same.tup S12 T, _, rfl, .inl ⟨a2, y, rfl, R2.same S12, ok2, by omega, fun o2 H3 S3 O2 => ?_⟩⟩
      have S13 := S12.trans S3
      exact ⟨_, Same.tup S13 T, _, rfl, _, o1, o2, x, y, _, rfl, (.inr (.inl ⟨rfl, rfl⟩)), ObjN.same S3 O1, O2, fun a H' e => q a H' (S13.trans e)⟩
    | @but a1 a2 x y T R1 R2 =>
      have dd : max x.dp y.dp + 1 ≤ d + 1 := dp
      obtain ⟨ok1, ok2⟩ := ok
      refine ⟨_, Kd.tup T, ?_⟩
      rw [if_neg (by decide)]
      refine ⟨_, .inr T, ?_⟩
      rw [if_neg (by simp)]
      refine ⟨_, T, _, rfl, _, (show Kd K H (.str _) .str from rfl), ?_⟩
      rw [if_neg (by decide)]
      refine ⟨_, .inr T, ?_⟩
      rw [if_pos (by simp)]
      refine ⟨_, T, _, rfl, by decide, fun p1 hp1 => ?_⟩
      obtain ⟨H1, g1, S1, T1⟩ := fresh_tup (K := K) hp1 [V.str (Str.ofString "both"), V.str (Str.ofString "either"), V.str (Str.ofString "but")]
      rw [← g1]
      clear g1
      refine ⟨p1, _, rfl, .inr T1, rfl, rfl, _, rfl, ?_⟩
      rw [if_pos (by decide)]
      have ed : ((d + 1 : Nat) : Int) - 1 = (d : Int) := by omega
      rw [ed]
      refine ⟨_, Same.tup S1 T, _, rfl, .inl ⟨a1, x, rfl, R1.same S1, ok1, by omega, fun o1 H2 S2 O1 => ?_⟩⟩
      have S12 := S1.trans S2
      refine ⟨_, Same.tup S12 T, _, rfl, .inl ⟨a2, y, rfl, R2.same S12, ok2, by omega, fun o2 H3 S3 O2 => ?_⟩⟩
      have S13 := S12.trans S3
      exact ⟨_, Same.tup S13 T, _, rfl, _, o1, o2, x, y, _, rfl, (.inr (.inr ⟨rfl, rfl⟩)), ObjN.same S3 O1, O2, fun a H' e => q a H' (S13.trans e)⟩
  · have ed : ((d + 1 : Nat) : Int) - 1 = (d : Int) := by omega
    cases B with
    | no hk ne =>
      simp only [tTurn, rTurnT, tTryS, rCountT, rPop, rRep, tCont, iZipT, tChain3, tFld, sFld, tMake, tMake0, tMethD, tBM0, rUpper, tDict1T, tTryN, rSlS, rMulS, rCatS, iZipL, rInsert, rReverse, tDNewX, tTry, tRaise, iEnumL, iEnumT, iZip, iSeq, iOr, rIx, iStr, rLeS, rJoin, rSlTA, tComp_eq, tComp1, slots, Option.getD_some, Option.getD_none, tYes, tSeq, tAsg, gName, tOp, tUn, tC, tVar, tCB, tCons, tNil, tCall, rI, rI0, rU, tRet, tRetN, tIfS, tTest, tB, tAnd, tOr, tNot, tAndV, tOrV, tNotV, tIf, tChain, tMenu, tPar, tDrop, tTup, tLst, tNext, tSl, tPart, tNoPart, tNever, gTup, gCons, gNil, gSub, rSetL, tBM, rAppend, rEq, rNe, rIsi, rIxL, rIxT, rIxS, rSlL, isi_non_bl, isi_non_int, isi_non_str, isi_non_lst, isi_non_tup, isi_bl_bl, isi_bl_int, isi_bl_str, isi_bl_lst, isi_bl_tup, isi_int_bl, isi_int_int, isi_int_str, isi_int_lst, isi_int_tup, isi_str_bl, isi_str_int, isi_str_str, isi_str_lst, isi_str_tup, isi_lst_bl, isi_lst_int, isi_lst_str, isi_lst_lst, isi_lst_tup, isi_tup_bl, isi_tup_int, isi_tup_str, isi_tup_lst, isi_tup_tup, isi_dct_bl, isi_dct_int, isi_dct_str, isi_dct_lst, isi_dct_tup, Kd_non, Kd_bl, Kd_int, Kd_str, sc_non_non, sc_non_int, sc_int_non, sc_non_bl, sc_bl_non, sc_non_str, sc_str_non, sc_int_int, sc_bl_bl, sc_str_str, sc_int_str, sc_str_int, sc_bl_str, sc_str_bl, decide_true, decide_false, tFor_eq, iList, iTup, iRng1, iRng2, iRng3, rIndexT, tBM0, tBMT, tyK_int, tyK_bool, tyK_str, tyK_list, tyK_tuple, L2.start, cxK, Int.reduceToNat, List.map_cons, List.map_nil, List.length_cons, List.length_nil, Nat.reduceAdd, Nat.reduceSub, Nat.zero_add, List.replicate_succ, List.replicate_zero, List.cons_append, List.nil_append, List.append_nil, List.getElem?_cons_zero, List.getElem?_cons_succ, List.set_cons_zero, List.set_cons_succ, Option.some.injEq, V.int.injEq, V.bl.injEq, V.ref.injEq, V.str.injEq, V.ty.injEq, List.cons.injEq, exists_eq_left', exists_eq_left, exists_eq_right, exists_and_left, exists_and_right, and_true, true_and, and_assoc, exists_const, decide_eq_true_eq, Bool.not_eq_true', Bool.not_true, Bool.not_false, Bool.not_not, decide_eq_false_iff_not, ite_not, Bool.false_eq_true, if_true, if_false, reduceCtorEq, and_false, false_and, exists_false, or_false, false_or, ↓reduceIte, eq_self, reduceIte]
      rw [if_neg (by omega)]
      refine ⟨_, hk, ?_⟩
      rw [if_pos (isiG_tup_ne ne)]
      exact ⟨by decide, e _ (Same.refl _)⟩
    | nil T =>
      simp only [tTurn, rTurnT, tTryS, rCountT, rPop, rRep, tCont, iZipT, tChain3, tFld, sFld, tMake, tMake0, tMethD, tBM0, rUpper, tDict1T, tTryN, rSlS, rMulS, rCatS, iZipL, rInsert, rReverse, tDNewX, tTry, tRaise, iEnumL, iEnumT, iZip, iSeq, iOr, rIx, iStr, rLeS, rJoin, rSlTA, tComp_eq, tComp1, slots, Option.getD_some, Option.getD_none, tYes, tSeq, tAsg, gName, tOp, tUn, tC, tVar, tCB, tCons, tNil, tCall, rI, rI0, rU, tRet, tRetN, tIfS, tTest, tB, tAnd, tOr, tNot, tAndV, tOrV, tNotV, tIf, tChain, tMenu, tPar, tDrop, tTup, tLst, tNext, tSl, tPart, tNoPart, tNever, gTup, gCons, gNil, gSub, rSetL, tBM, rAppend, rEq, rNe, rIsi, rIxL, rIxT, rIxS, rSlL, isi_non_bl, isi_non_int, isi_non_str, isi_non_lst, isi_non_tup, isi_bl_bl, isi_bl_int, isi_bl_str, isi_bl_lst, isi_bl_tup, isi_int_bl, isi_int_int, isi_int_str, isi_int_lst, isi_int_tup, isi_str_bl, isi_str_int, isi_str_str, isi_str_lst, isi_str_tup, isi_lst_bl, isi_lst_int, isi_lst_str, isi_lst_lst, isi_lst_tup, isi_tup_bl, isi_tup_int, isi_tup_str, isi_tup_lst, isi_tup_tup, isi_dct_bl, isi_dct_int, isi_dct_str, isi_dct_lst, isi_dct_tup, Kd_non, Kd_bl, Kd_int, Kd_str, sc_non_non, sc_non_int, sc_int_non, sc_non_bl, sc_bl_non, sc_non_str, sc_str_non, sc_int_int, sc_bl_bl, sc_str_str, sc_int_str, sc_str_int, sc_bl_str, sc_str_bl, decide_true, decide_false, tFor_eq, iList, iTup, iRng1, iRng2, iRng3, rIndexT, tBM0, tBMT, tyK_int, tyK_bool, tyK_str, tyK_list, tyK_tuple, L2.start, cxK, Int.reduceToNat, List.map_cons, List.map_nil, List.length_cons, List.length_nil, Nat.reduceAdd, Nat.reduceSub, Nat.zero_add, List.replicate_succ, List.replicate_zero, List.cons_append, List.nil_append, List.append_nil, List.getElem?_cons_zero, List.getElem?_cons_succ, List.set_cons_zero, List.set_cons_succ, Option.some.injEq, V.int.injEq, V.bl.injEq, V.ref.injEq, V.str.injEq, V.ty.injEq, List.cons.injEq, exists_eq_left', exists_eq_left, exists_eq_right, exists_and_left, exists_and_right, and_true, true_and, and_assoc, exists_const, decide_eq_true_eq, Bool.not_eq_true', Bool.not_true, Bool.not_false, Bool.not_not, decide_eq_false_iff_not, ite_not, Bool.false_eq_true, if_true, if_false, reduceCtorEq, and_false, false_and, exists_false, or_false, false_or, ↓reduceIte, eq_self, reduceIte]
      rw [if_neg (by omega)]
      refine ⟨_, Kd.tup T, ?_⟩
      rw [if_neg (by decide)]
      refine ⟨_, .inr T, ?_⟩
      rw [if_pos (by rfl)]
      exact ⟨by decide, e _ (Same.refl _)⟩
    | @head _ p x k xs T hk ne =>
      simp only [tTurn, rTurnT, tTryS, rCountT, rPop, rRep, tCont, iZipT, tChain3, tFld, sFld, tMake, tMake0, tMethD, tBM0, rUpper, tDict1T, tTryN, rSlS, rMulS, rCatS, iZipL, rInsert, rReverse, tDNewX, tTry, tRaise, iEnumL, iEnumT, iZip, iSeq, iOr, rIx, iStr, rLeS, rJoin, rSlTA, tComp_eq, tComp1, slots, Option.getD_some, Option.getD_none, tYes, tSeq, tAsg, gName, tOp, tUn, tC, tVar, tCB, tCons, tNil, tCall, rI, rI0, rU, tRet, tRetN, tIfS, tTest, tB, tAnd, tOr, tNot, tAndV, tOrV, tNotV, tIf, tChain, tMenu, tPar, tDrop, tTup, tLst, tNext, tSl, tPart, tNoPart, tNever, gTup, gCons, gNil, gSub, rSetL, tBM, rAppend, rEq, rNe, rIsi, rIxL, rIxT, rIxS, rSlL, isi_non_bl, isi_non_int, isi_non_str, isi_non_lst, isi_non_tup, isi_bl_bl, isi_bl_int, isi_bl_str, isi_bl_lst, isi_bl_tup, isi_int_bl, isi_int_int, isi_int_str, isi_int_lst, isi_int_tup, isi_str_bl, isi_str_int, isi_str_str, isi_str_lst, isi_str_tup, isi_lst_bl, isi_lst_int, isi_lst_str, isi_lst_lst, isi_lst_tup, isi_tup_bl, isi_tup_int, isi_tup_str, isi_tup_lst, isi_tup_tup, isi_dct_bl, isi_dct_int, isi_dct_str, isi_dct_lst, isi_dct_tup, Kd_non, Kd_bl, Kd_int, Kd_str, sc_non_non, sc_non_int, sc_int_non, sc_non_bl, sc_bl_non, sc_non_str, sc_str_non, sc_int_int, sc_bl_bl, sc_str_str, sc_int_str, sc_str_int, sc_bl_str, sc_str_bl, decide_true, decide_false, tFor_eq, iList, iTup, iRng1, iRng2, iRng3, rIndexT, tBM0, tBMT, tyK_int, tyK_bool, tyK_str, tyK_list, tyK_tuple, L2.start, cxK, Int.reduceToNat, List.map_cons, List.map_nil, List.length_cons, List.length_nil, Nat.reduceAdd, Nat.reduceSub, Nat.zero_add, List.replicate_succ, List.replicate_zero, List.cons_append, List.nil_append, List.append_nil, List.getElem?_cons_zero, List.getElem?_cons_succ, List.set_cons_zero, List.set_cons_succ, Option.some.injEq, V.int.injEq, V.bl.injEq, V.ref.injEq, V.str.injEq, V.ty.injEq, List.cons.injEq, exists_eq_left', exists_eq_left, exists_eq_right, exists_and_left, exists_and_right, and_true, true_and, and_assoc, exists_const, decide_eq_true_eq, Bool.not_eq_true', Bool.not_true, Bool.not_false, Bool.not_not, decide_eq_false_iff_not, ite_not, Bool.false_eq_true, if_true, if_false, reduceCtorEq, and_false, false_and, exists_false, or_false, false_or, ↓reduceIte, eq_self, reduceIte]
      rw [if_neg (by omega)]
      refine ⟨_, Kd.tup T, ?_⟩
      rw [if_neg (by decide)]
      refine ⟨_, .inr T, ?_⟩
      rw [if_neg (by rw [List.length_cons]; omega)]
      refine ⟨_, T, _, (show atI (x :: xs) ((0 : Nat) : Int) = some _ from atI_nat rfl), _, hk, ?_⟩
      rw [if_pos (isi_str_ne ne)]
      exact ⟨by decide, e _ (Same.refl _)⟩
    | @one _ p z rest T nz B =>
      have last : ∀ H', Same H H' → spOfOne K cs cN [V.ref p] H' Q E := fun H' S => .inr ⟨p, z, rest, rfl, Same.tup S T, B.same S, fun H2 S2 => e _ (S.trans S2)⟩
      simp only [tTurn, rTurnT, tTryS, rCountT, rPop, rRep, tCont, iZipT, tChain3, tFld, sFld, tMake, tMake0, tMethD, tBM0, rUpper, tDict1T, tTryN, rSlS, rMulS, rCatS, iZipL, rInsert, rReverse, tDNewX, tTry, tRaise, iEnumL, iEnumT, iZip, iSeq, iOr, rIx, iStr, rLeS, rJoin, rSlTA, tComp_eq, tComp1, slots, Option.getD_some, Option.getD_none, tYes, tSeq, tAsg, gName, tOp, tUn, tC, tVar, tCB, tCons, tNil, tCall, rI, rI0, rU, tRet, tRetN, tIfS, tTest, tB, tAnd, tOr, tNot, tAndV, tOrV, tNotV, tIf, tChain, tMenu, tPar, tDrop, tTup, tLst, tNext, tSl, tPart, tNoPart, tNever, gTup, gCons, gNil, gSub, rSetL, tBM, rAppend, rEq, rNe, rIsi, rIxL, rIxT, rIxS, rSlL, isi_non_bl, isi_non_int, isi_non_str, isi_non_lst, isi_non_tup, isi_bl_bl, isi_bl_int, isi_bl_str, isi_bl_lst, isi_bl_tup, isi_int_bl, isi_int_int, isi_int_str, isi_int_lst, isi_int_tup, isi_str_bl, isi_str_int, isi_str_str, isi_str_lst, isi_str_tup, isi_lst_bl, isi_lst_int, isi_lst_str, isi_lst_lst, isi_lst_tup, isi_tup_bl, isi_tup_int, isi_tup_str, isi_tup_lst, isi_tup_tup, isi_dct_bl, isi_dct_int, isi_dct_str, isi_dct_lst, isi_dct_tup, Kd_non, Kd_bl, Kd_int, Kd_str, sc_non_non, sc_non_int, sc_int_non, sc_non_bl, sc_bl_non, sc_non_str, sc_str_non, sc_int_int, sc_bl_bl, sc_str_str, sc_int_str, sc_str_int, sc_bl_str, sc_str_bl, decide_true, decide_false, tFor_eq, iList, iTup, iRng1, iRng2, iRng3, rIndexT, tBM0, tBMT, tyK_int, tyK_bool, tyK_str, tyK_list, tyK_tuple, L2.start, cxK, Int.reduceToNat, List.map_cons, List.map_nil, List.length_cons, List.length_nil, Nat.reduceAdd, Nat.reduceSub, Nat.zero_add, List.replicate_succ, List.replicate_zero, List.cons_append, List.nil_append, List.append_nil, List.getElem?_cons_zero, List.getElem?_cons_succ, List.set_cons_zero, List.set_cons_succ, Option.some.injEq, V.int.injEq, V.bl.injEq, V.ref.injEq, V.str.injEq, V.ty.injEq, List.cons.injEq, exists_eq_left', exists_eq_left, exists_eq_right, exists_and_left, exists_and_right, and_true, true_and, and_assoc, exists_const, decide_eq_true_eq, Bool.not_eq_true', Bool.not_true, Bool.not_false, Bool.not_not, decide_eq_false_iff_not, ite_not, Bool.false_eq_true, if_true, if_false, reduceCtorEq, and_false, false_and, exists_false, or_false, false_or, ↓reduceIte, eq_self, reduceIte]
      rw [if_neg (by omega)]
      refine ⟨_, Kd.tup T, ?_⟩
      rw [if_neg (by decide)]
      refine ⟨_, .inr T, ?_⟩
      rw [if_neg (by rw [List.length_cons]; omega)]
      refine ⟨_, T, _, (show atI (V.str z :: rest) ((0 : Nat) : Int) = some _ from atI_nat rfl), _, (show Kd K H (.str z) .str from rfl), ?_⟩
      rw [if_neg (by decide)]
      refine ⟨_, .inr T, ?_⟩
      by_cases l2 : rest.length = 2
      · rw [if_pos (by rw [List.length_cons]; omega)]
        obtain ⟨u1, u2, rfl⟩ : ∃ u1 u2, rest = [u1, u2] := match rest, l2 with | [u1, u2], _ => ⟨u1, u2, rfl⟩
        rcases nz with h | rfl | rfl | rfl
        · exact absurd l2 h
        · skip
          refine ⟨_, T, _, rfl, by decide, fun p1 hp1 => ?_⟩
          obtain ⟨H1, g1, S1, T1⟩ := fresh_tup (K := K) hp1 [V.str (Str.ofString "both"), V.str (Str.ofString "either"), V.str (Str.ofString "but")]
          rw [← g1]
          clear g1
          refine ⟨p1, _, rfl, .inr T1, rfl, rfl, _, rfl, ?_⟩
          rw [if_neg (by decide)]
          exact last _ S1
        · skip
          refine ⟨_, T, _, rfl, by decide, fun p1 hp1 => ?_⟩
          obtain ⟨H1, g1, S1, T1⟩ := fresh_tup (K := K) hp1 [V.str (Str.ofString "both"), V.str (Str.ofString "either"), V.str (Str.ofString "but")]
          rw [← g1]
          clear g1
          refine ⟨p1, _, rfl, .inr T1, rfl, rfl, _, rfl, ?_⟩
          rw [if_neg (by decide)]
          exact last _ S1
        · skip
          refine ⟨_, T, _, rfl, by decide, fun p1 hp1 => ?_⟩
          obtain ⟨H1, g1, S1, T1⟩ := fresh_tup (K := K) hp1 [V.str (Str.ofString "both"), V.str (Str.ofString "either"), V.str (Str.ofString "but")]
          rw [← g1]
          clear g1
          refine ⟨p1, _, rfl, .inr T1, rfl, rfl, _, rfl, ?_⟩
          rw [if_neg (by decide)]
          exact last _ S1
      · rw [if_neg (by rw [List.length_cons]; omega)]
        exact last _ (Same.refl _)
    | @fst _ p z v1 v2 hz T B =>
      simp only [tTurn, rTurnT, tTryS, rCountT, rPop, rRep, tCont, iZipT, tChain3, tFld, sFld, tMake, tMake0, tMethD, tBM0, rUpper, tDict1T, tTryN, rSlS, rMulS, rCatS, iZipL, rInsert, rReverse, tDNewX, tTry, tRaise, iEnumL, iEnumT, iZip, iSeq, iOr, rIx, iStr, rLeS, rJoin, rSlTA, tComp_eq, tComp1, slots, Option.getD_some, Option.getD_none, tYes, tSeq, tAsg, gName, tOp, tUn, tC, tVar, tCB, tCons, tNil, tCall, rI, rI0, rU, tRet, tRetN, tIfS, tTest, tB, tAnd, tOr, tNot, tAndV, tOrV, tNotV, tIf, tChain, tMenu, tPar, tDrop, tTup, tLst, tNext, tSl, tPart, tNoPart, tNever, gTup, gCons, gNil, gSub, rSetL, tBM, rAppend, rEq, rNe, rIsi, rIxL, rIxT, rIxS, rSlL, isi_non_bl, isi_non_int, isi_non_str, isi_non_lst, isi_non_tup, isi_bl_bl, isi_bl_int, isi_bl_str, isi_bl_lst, isi_bl_tup, isi_int_bl, isi_int_int, isi_int_str, isi_int_lst, isi_int_tup, isi_str_bl, isi_str_int, isi_str_str, isi_str_lst, isi_str_tup, isi_lst_bl, isi_lst_int, isi_lst_str, isi_lst_lst, isi_lst_tup, isi_tup_bl, isi_tup_int, isi_tup_str, isi_tup_lst, isi_tup_tup, isi_dct_bl, isi_dct_int, isi_dct_str, isi_dct_lst, isi_dct_tup, Kd_non, Kd_bl, Kd_int, Kd_str, sc_non_non, sc_non_int, sc_int_non, sc_non_bl, sc_bl_non, sc_non_str, sc_str_non, sc_int_int, sc_bl_bl, sc_str_str, sc_int_str, sc_str_int, sc_bl_str, sc_str_bl, decide_true, decide_false, tFor_eq, iList, iTup, iRng1, iRng2, iRng3, rIndexT, tBM0, tBMT, tyK_int, tyK_bool, tyK_str, tyK_list, tyK_tuple, L2.start, cxK, Int.reduceToNat, List.map_cons, List.map_nil, List.length_cons, List.length_nil, Nat.reduceAdd, Nat.reduceSub, Nat.zero_add, List.replicate_succ, List.replicate_zero, List.cons_append, List.nil_append, List.append_nil, List.getElem?_cons_zero, List.getElem?_cons_succ, List.set_cons_zero, List.set_cons_succ, Option.some.injEq, V.int.injEq, V.bl.injEq, V.ref.injEq, V.str.injEq, V.ty.injEq, List.cons.injEq, exists_eq_left', exists_eq_left, exists_eq_right, exists_and_left, exists_and_right, and_true, true_and, and_assoc, exists_const, decide_eq_true_eq, Bool.not_eq_true', Bool.not_true, Bool.not_false, Bool.not_not, decide_eq_false_iff_not, ite_not, Bool.false_eq_true, if_true, if_false, reduceCtorEq, and_false, false_and, exists_false, or_false, false_or, ↓reduceIte, eq_self, reduceIte]
      rw [if_neg (by omega)]
      refine ⟨_, Kd.tup T, ?_⟩
      rw [if_neg (by decide)]
      refine ⟨_, .inr T, ?_⟩
      rw [if_neg (by simp)]
      refine ⟨_, T, _, rfl, _, (show Kd K H (.str _) .str from rfl), ?_⟩
      rw [if_neg (by decide)]
      refine ⟨_, .inr T, ?_⟩
      rw [if_pos (by simp)]
      refine ⟨_, T, _, rfl, by decide, fun p1 hp1 => ?_⟩
      obtain ⟨H1, g1, S1, T1⟩ := fresh_tup (K := K) hp1 [V.str (Str.ofString "both"), V.str (Str.ofString "either"), V.str (Str.ofString "but")]
      rw [← g1]
      clear g1
      refine ⟨p1, _, rfl, .inr T1, rfl, rfl, _, rfl, ?_⟩
      rw [if_pos (by rcases hz with rfl | rfl | rfl <;> decide), ed]
      exact ⟨_, Same.tup S1 T, _, rfl, .inr ⟨v1, rfl, B.same S1, fun H2 S2 => e _ (S1.trans S2)⟩⟩
    | @snd _ p z v1 v2 r hz T R1 ok1 dp1 B =>
      obtain ⟨a1, rfl⟩ := told_ref R1
      simp only [tTurn, rTurnT, tTryS, rCountT, rPop, rRep, tCont, iZipT, tChain3, tFld, sFld, tMake, tMake0, tMethD, tBM0, rUpper, tDict1T, tTryN, rSlS, rMulS, rCatS, iZipL, rInsert, rReverse, tDNewX, tTry, tRaise, iEnumL, iEnumT, iZip, iSeq, iOr, rIx, iStr, rLeS, rJoin, rSlTA, tComp_eq, tComp1, slots, Option.getD_some, Option.getD_none, tYes, tSeq, tAsg, gName, tOp, tUn, tC, tVar, tCB, tCons, tNil, tCall, rI, rI0, rU, tRet, tRetN, tIfS, tTest, tB, tAnd, tOr, tNot, tAndV, tOrV, tNotV, tIf, tChain, tMenu, tPar, tDrop, tTup, tLst, tNext, tSl, tPart, tNoPart, tNever, gTup, gCons, gNil, gSub, rSetL, tBM, rAppend, rEq, rNe, rIsi, rIxL, rIxT, rIxS, rSlL, isi_non_bl, isi_non_int, isi_non_str, isi_non_lst, isi_non_tup, isi_bl_bl, isi_bl_int, isi_bl_str, isi_bl_lst, isi_bl_tup, isi_int_bl, isi_int_int, isi_int_str, isi_int_lst, isi_int_tup, isi_str_bl, isi_str_int, isi_str_str, isi_str_lst, isi_str_tup, isi_lst_bl, isi_lst_int, isi_lst_str, isi_lst_lst, isi_lst_tup, isi_tup_bl, isi_tup_int, isi_tup_str, isi_tup_lst, isi_tup_tup, isi_dct_bl, isi_dct_int, isi_dct_str, isi_dct_lst, isi_dct_tup, Kd_non, Kd_bl, Kd_int, Kd_str, sc_non_non, sc_non_int, sc_int_non, sc_non_bl, sc_bl_non, sc_non_str, sc_str_non, sc_int_int, sc_bl_bl, sc_str_str, sc_int_str, sc_str_int, sc_bl_str, sc_str_bl, decide_true, decide_false, tFor_eq, iList, iTup, iRng1, iRng2, iRng3, rIndexT, tBM0, tBMT, tyK_int, tyK_bool, tyK_str, tyK_list, tyK_tuple, L2.start, cxK, Int.reduceToNat, List.map_cons, List.map_nil, List.length_cons, List.length_nil, Nat.reduceAdd, Nat.reduceSub, Nat.zero_add, List.replicate_succ, List.replicate_zero, List.cons_append, List.nil_append, List.append_nil, List.getElem?_cons_zero, List.getElem?_cons_succ, List.set_cons_zero, List.set_cons_succ, Option.some.injEq, V.int.injEq, V.bl.injEq, V.ref.injEq, V.str.injEq, V.ty.injEq, List.cons.injEq, exists_eq_left', exists_eq_left, exists_eq_right, exists_and_left, exists_and_right, and_true, true_and, and_assoc, exists_const, decide_eq_true_eq, Bool.not_eq_true', Bool.not_true, Bool.not_false, Bool.not_not, decide_eq_false_iff_not, ite_not, Bool.false_eq_true, if_true, if_false, reduceCtorEq, and_false, false_and, exists_false, or_false, false_or, ↓reduceIte, eq_self, reduceIte]
      rw [if_neg (by omega)]
      refine ⟨_, Kd.tup T, ?_⟩
      rw [if_neg (by decide)]
      refine ⟨_, .inr T, ?_⟩
      rw [if_neg (by simp)]
      refine ⟨_, T, _, rfl, _, (show Kd K H (.str _) .str from rfl), ?_⟩
      rw [if_neg (by decide)]
      refine ⟨_, .inr T, ?_⟩
      rw [if_pos (by simp)]
      refine ⟨_, T, _, rfl, by decide, fun p1 hp1 => ?_⟩
      obtain ⟨H1, g1, S1, T1⟩ := fresh_tup (K := K) hp1 [V.str (Str.ofString "both"), V.str (Str.ofString "either"), V.str (Str.ofString "but")]
      rw [← g1]
      clear g1
      refine ⟨p1, _, rfl, .inr T1, rfl, rfl, _, rfl, ?_⟩
      rw [if_pos (by rcases hz with rfl | rfl | rfl <;> decide), ed]
      refine ⟨_, Same.tup S1 T, _, rfl, .inl ⟨a1, r, rfl, R1.same S1, ok1, dp1, fun o1 H2 S2 O1 => ?_⟩⟩
      have S12 := S1.trans S2
      exact ⟨_, Same.tup S12 T, _, rfl, .inr ⟨v2, rfl, B.same S12, fun H3 S3 => e _ (S12.trans S3)⟩⟩
theorem zero_within (F : Fun K "note_within" "note_within" s_note_within f fd) (M : Mg mg) (C_note_of_one : Cal P w K mg base (CXE P w) "note_of_one" 4 ["told"] (spOfOne K cs cN)) (C_note_of_notes : Cal P w K mg base CX0 "note_of_notes" 3 ["word", "one", "other"] (spOfNotes K cs)) (R_NoNote : XRaise K mg "NoNote" cN)
    (C_note_within : Cal P w K mg base (CXE P w) "note_within" 4 ["left", "told"] spNo) : FnOk P w K mg base (CXE P w) (4 + 1) f fd ["left", "told"] (spWithin K cs cN 0) := by
  refine F.okX sc_note_within (fun vs H Q E h => ?_) (fun cdv A outer s H vs Q E hr h => ?_)
  · rcases h with ⟨p, n, rfl, _⟩ | ⟨v, rfl, _⟩ <;> rfl
  refine ⟨_, (@pss_cons _ _ _ _ _ (@ps_if _ _ _ _ _ _ _ _ (@pt_cmpR _ _ _ _ _ _ _ _ (@op_eq _) (@pe_var _ 0 _ _ rfl v_note_within_0 dn_left dc_left) (@pe_int _ _ _ _) (nomark _)) (@pss_one _ _ _ (@ps_raise _ _ _ _ _ _ _ _ _ _ _ throws_cx hr g_note_within_NoNote R_NoNote (@pa_cons _ _ _ _ _ (@pe_str _ _ _ _) (@pa_nil _) (star1 rfl)) (star1 rfl) (by rfl) dn_NoNote)) (@pss_nil _)) (@pss_cons _ _ _ _ _ (@ps_if _ _ _ _ _ _ _ _ (@PW.pt _ _ _ (@pw_or _ _ _ _ _ _ _ (@pt_not _ _ _ _ (@pt_val _ _ _ (@pe_callB _ _ _ _ _ _ _ _ _ call_isi g_note_within_isinstance M.m_isinstance b_isinstance (@pa_cons _ _ _ _ _ (@pe_var _ 1 _ _ rfl v_note_within_1 dn_told dc_told) (@pa_cons _ _ _ _ _ (@pe_bltn _ _ (.ty "tuple") _ _ g_note_within_tuple M.m_tuple b_tuple rfl nn_tuple dn_tuple) (@pa_nil _) (star1 rfl)) (star1 rfl)) nn_isinstance dn_isinstance (star1 rfl) (nost1 rfl nost0)) (test1 rfl))) (@pw_or _ _ _ _ _ _ _ (@pt_cmpR _ _ _ _ _ _ _ _ (@op_eq _) (@pe_callB _ _ _ _ _ _ _ _ _ call_len_seq g_note_within_len M.m_len b_len (@pa_cons _ _ _ _ _ (@pe_var _ 1 _ _ rfl v_note_within_1 dn_told dc_told) (@pa_nil _) (star1 rfl)) nn_len dn_len (star1 rfl) nost0) (@pe_int _ _ _ _) (nomark _)) (@pw_or1 _ _ _ _ (@pt_not _ _ _ _ (@pt_val _ _ _ (@pe_callB _ _ _ _ _ _ _ _ _ call_isi g_note_within_isinstance M.m_isinstance b_isinstance (@pa_cons _ _ _ _ _ (@pe_ix _ _ _ _ _ _ _ (@ix_tup _) (@pe_var _ 1 _ _ rfl v_note_within_1 dn_told dc_told) (@pe_int _ _ _ _) (fun _ _ => rfl)) (@pa_cons _ _ _ _ _ (@pe_bltn _ _ (.ty "str") _ _ g_note_within_str M.m_str b_str rfl nn_str dn_str) (@pa_nil _) (star1 rfl)) (star1 rfl)) nn_isinstance dn_isinstance (star1 rfl) (nost1 rfl nost0)) (test1 rfl))))))) (@pss_one _ _ _ (@ps_raise _ _ _ _ _ _ _ _ _ _ _ throws_cx hr g_note_within_NoNote R_NoNote (@pa_cons _ _ _ _ _ (@pe_str _ _ _ _) (@pa_nil _) (star1 rfl)) (star1 rfl) (by rfl) dn_NoNote)) (@pss_nil _)) (@pss_cons _ _ _ _ _ (@ps_if _ _ _ _ _ _ _ _ (@PW.pt _ _ _ (@pw_and _ _ _ _ _ _ _ (@pt_cmpR _ _ _ _ _ _ _ _ (@op_eq _) (@pe_callB _ _ _ _ _ _ _ _ _ call_len_seq g_note_within_len M.m_len b_len (@pa_cons _ _ _ _ _ (@pe_var _ 1 _ _ rfl v_note_within_1 dn_told dc_told) (@pa_nil _) (star1 rfl)) nn_len dn_len (star1 rfl) nost0) (@pe_int _ _ _ _) (nomark _)) (@pw_and1 _ _ _ _ (@pt_cmpR _ _ _ _ _ _ _ _ op_in_seq (@pe_ix _ _ _ _ _ _ _ (@ix_tup _) (@pe_var _ 1 _ _ rfl v_note_within_1 dn_told dc_told) (@pe_int _ _ _ _) (fun _ _ => rfl)) (@pe_tup _ _ _ _ _ (@pa_cons _ _ _ _ _ (@pe_str _ _ _ _) (@pa_cons _ _ _ _ _ (@pe_str _ _ _ _) (@pa_cons _ _ _ _ _ (@pe_str _ _ _ _) (@pa_nil _) (star1 rfl)) (star1 rfl)) (star1 rfl))) (by with_unfolding_all rfl))))) (@pss_cons _ _ _ _ _ (@ps_set _ _ 2 _ _ _ _ sc_note_within.nd rfl l_note_within_2 (@pe_callX _ _ _ _ _ _ _ _ _ _ _ _ _ C_note_within hr g_note_within_note_within pass_cx (@pa_cons _ _ _ _ _ (@pe_op _ _ _ _ _ _ _ _ (@op_sub _) (@pe_var _ 0 _ _ rfl v_note_within_0 dn_left dc_left) (@pe_int _ _ _ _)) (@pa_cons _ _ _ _ _ (@pe_ix _ _ _ _ _ _ _ (@ix_tup _) (@pe_var _ 1 _ _ rfl v_note_within_1 dn_told dc_told) (@pe_int _ _ _ _) (fun _ _ => rfl)) (@pa_nil _) (star1 rfl)) (star1 rfl)) (by omega) dn_note_within (star1 rfl) (nost1 rfl nost0)) (swap1 rfl) (.inl rfl)) (@pss_cons _ _ _ _ _ (@ps_set _ _ 3 _ _ _ _ sc_note_within.nd rfl l_note_within_3 (@pe_callX _ _ _ _ _ _ _ _ _ _ _ _ _ C_note_within hr g_note_within_note_within pass_cx (@pa_cons _ _ _ _ _ (@pe_op _ _ _ _ _ _ _ _ (@op_sub _) (@pe_var _ 0 _ _ rfl v_note_within_0 dn_left dc_left) (@pe_int _ _ _ _)) (@pa_cons _ _ _ _ _ (@pe_ix _ _ _ _ _ _ _ (@ix_tup _) (@pe_var _ 1 _ _ rfl v_note_within_1 dn_told dc_told) (@pe_int _ _ _ _) (fun _ _ => rfl)) (@pa_nil _) (star1 rfl)) (star1 rfl)) (by omega) dn_note_within (star1 rfl) (nost1 rfl nost0)) (swap1 rfl) (.inl rfl)) (@pss_one _ _ _ (@ps_ret _ _ _ _ (@pe_callC _ _ _ _ _ _ _ _ _ _ _ C_note_of_notes hr g_note_within_note_of_notes (@pa_cons _ _ _ _ _ (@pe_ix _ _ _ _ _ _ _ (@ix_tup _) (@pe_var _ 1 _ _ rfl v_note_within_1 dn_told dc_told) (@pe_int _ _ _ _) (fun _ _ => rfl)) (@pa_cons _ _ _ _ _ (@pe_var _ 2 _ _ rfl v_note_within_2 dn_one dc_one) (@pa_cons _ _ _ _ _ (@pe_var _ 3 _ _ rfl v_note_within_3 dn_other dc_other) (@pa_nil _) (star1 rfl)) (star1 rfl)) (star1 rfl)) (by omega) dn_note_of_notes (star1 rfl) (nost1 rfl (nost1 rfl nost0))))))) (@pss_nil _)) (@pss_one _ _ _ (@ps_ret _ _ _ _ (@pe_callX _ _ _ _ _ _ _ _ _ _ _ _ _ C_note_of_one hr g_note_within_note_of_one pass_cx (@pa_cons _ _ _ _ _ (@pe_var _ 1 _ _ rfl v_note_within_1 dn_told dc_told) (@pa_nil _) (star1 rfl)) (by omega) dn_note_of_one (star1 rfl) nost0)))))), ?_⟩
  rcases h with ⟨p, n, rfl, R, ok, dp, q⟩ | ⟨v, rfl, B, e⟩
  · have := Nt.dp_pos n
    omega
  · simp only [tTurn, rTurnT, tTryS, rCountT, rPop, rRep, tCont, iZipT, tChain3, tFld, sFld, tMake, tMake0, tMethD, tBM0, rUpper, tDict1T, tTryN, rSlS, rMulS, rCatS, iZipL, rInsert, rReverse, tDNewX, tTry, tRaise, iEnumL, iEnumT, iZip, iSeq, iOr, rIx, iStr, rLeS, rJoin, rSlTA, tComp_eq, tComp1, slots, Option.getD_some, Option.getD_none, tYes, tSeq, tAsg, gName, tOp, tUn, tC, tVar, tCB, tCons, tNil, tCall, rI, rI0, rU, tRet, tRetN, tIfS, tTest, tB, tAnd, tOr, tNot, tAndV, tOrV, tNotV, tIf, tChain, tMenu, tPar, tDrop, tTup, tLst, tNext, tSl, tPart, tNoPart, tNever, gTup, gCons, gNil, gSub, rSetL, tBM, rAppend, rEq, rNe, rIsi, rIxL, rIxT, rIxS, rSlL, isi_non_bl, isi_non_int, isi_non_str, isi_non_lst, isi_non_tup, isi_bl_bl, isi_bl_int, isi_bl_str, isi_bl_lst, isi_bl_tup, isi_int_bl, isi_int_int, isi_int_str, isi_int_lst, isi_int_tup, isi_str_bl, isi_str_int, isi_str_str, isi_str_lst, isi_str_tup, isi_lst_bl, isi_lst_int, isi_lst_str, isi_lst_lst, isi_lst_tup, isi_tup_bl, isi_tup_int, isi_tup_str, isi_tup_lst, isi_tup_tup, isi_dct_bl, isi_dct_int, isi_dct_str, isi_dct_lst, isi_dct_tup, Kd_non, Kd_bl, Kd_int, Kd_str, sc_non_non, sc_non_int, sc_int_non, sc_non_bl, sc_bl_non, sc_non_str, sc_str_non, sc_int_int, sc_bl_bl, sc_str_str, sc_int_str, sc_str_int, sc_bl_str, sc_str_bl, decide_true, decide_false, tFor_eq, iList, iTup, iRng1, iRng2, iRng3, rIndexT, tBM0, tBMT, tyK_int, tyK_bool, tyK_str, tyK_list, tyK_tuple, L2.start, cxK, Int.reduceToNat, List.map_cons, List.map_nil, List.length_cons, List.length_nil, Nat.reduceAdd, Nat.reduceSub, Nat.zero_add, List.replicate_succ, List.replicate_zero, List.cons_append, List.nil_append, List.append_nil, List.getElem?_cons_zero, List.getElem?_cons_succ, List.set_cons_zero, List.set_cons_succ, Option.some.injEq, V.int.injEq, V.bl.injEq, V.ref.injEq, V.str.injEq, V.ty.injEq, List.cons.injEq, exists_eq_left', exists_eq_left, exists_eq_right, exists_and_left, exists_and_right, and_true, true_and, and_assoc, exists_const, decide_eq_true_eq, Bool.not_eq_true', Bool.not_true, Bool.not_false, Bool.not_not, decide_eq_false_iff_not, ite_not, Bool.false_eq_true, if_true, if_false, reduceCtorEq, and_false, false_and, exists_false, or_false, false_or, ↓reduceIte, eq_self, reduceIte]
    rw [if_pos (by rfl)]
    exact ⟨by decide, e _ (Same.refl _)⟩
theorem ok_note_within (F : Fun K "note_within" "note_within" s_note_within f fd) (M : Mg mg) (C_note_of_one : Cal P w K mg base (CXE P w) "note_of_one" 4 ["told"] (spOfOne K cs cN)) (C_note_of_notes : Cal P w K mg base CX0 "note_of_notes" 3 ["word", "one", "other"] (spOfNotes K cs)) (R_NoNote : XRaise K mg "NoNote" cN) (b : Binds K fd ["left", "told"] []) (kp : PySem.W.keepIn K (.ref f) = true) (m : mg "note_within" = some (.ref f)) : ∀ d : Nat, FnOk P w K mg base (CXE P w) (5 + d) f fd ["left", "told"] (spWithin K cs cN d)
  | 0 => zero_within F M C_note_of_one C_note_of_notes R_NoNote ⟨⟨f, fd, fn_no, b, kp, m⟩⟩
  | d + 1 => step_within F M C_note_of_one C_note_of_notes R_NoNote ⟨⟨f, fd, ok_note_within F M C_note_of_one C_note_of_notes R_NoNote b kp m d, b, kp, m⟩⟩
theorem ok_note_of (F : Fun K "note_of" "note_of" s_note_of f fd) (M : Mg mg) (C_note_within : Cal P w K mg base (CXE P w) "note_within" 10 ["left", "told"] (spWithin K cs cN 5)) : FnOk P w K mg base (CXE P w) 11 f fd ["told"] (spNoteOf K cs cN) := by
  refine F.okX sc_note_of (fun vs H Q E h => ?_) (fun cdv A outer s H vs Q E hr h => ?_)
  · rcases h with ⟨p, n, rfl, _⟩ | ⟨v, rfl, _⟩ <;> rfl
  refine ⟨_, (@pss_one _ _ _ (@ps_ret _ _ _ _ (@pe_callX _ _ _ _ _ _ _ _ _ _ _ _ _ C_note_within hr g_note_of_note_within pass_cx (@pa_cons _ _ _ _ _ (@pe_int _ _ _ _) (@pa_cons _ _ _ _ _ (@pe_var _ 0 _ _ rfl v_note_of_0 dn_told dc_told) (@pa_nil _) (star1 rfl)) (star1 rfl)) (by decide) dn_note_within (star1 rfl) (nost1 rfl nost0)))), ?_⟩
  rcases h with ⟨p, n, rfl, R, ok, dp, q⟩ | ⟨v, rfl, B, e⟩
  · simp only [tTurn, rTurnT, tTryS, rCountT, rPop, rRep, tCont, iZipT, tChain3, tFld, sFld, tMake, tMake0, tMethD, tBM0, rUpper, tDict1T, tTryN, rSlS, rMulS, rCatS, iZipL, rInsert, rReverse, tDNewX, tTry, tRaise, iEnumL, iEnumT, iZip, iSeq, iOr, rIx, iStr, rLeS, rJoin, rSlTA, tComp_eq, tComp1, slots, Option.getD_some, Option.getD_none, tYes, tSeq, tAsg, gName, tOp, tUn, tC, tVar, tCB, tCons, tNil, tCall, rI, rI0, rU, tRet, tRetN, tIfS, tTest, tB, tAnd, tOr, tNot, tAndV, tOrV, tNotV, tIf, tChain, tMenu, tPar, tDrop, tTup, tLst, tNext, tSl, tPart, tNoPart, tNever, gTup, gCons, gNil, gSub, rSetL, tBM, rAppend, rEq, rNe, rIsi, rIxL, rIxT, rIxS, rSlL, isi_non_bl, isi_non_int, isi_non_str, isi_non_lst, isi_non_tup, isi_bl_bl, isi_bl_int, isi_bl_str, isi_bl_lst, isi_bl_tup, isi_int_bl, isi_int_int, isi_int_str, isi_int_lst, isi_int_tup, isi_str_bl, isi_str_int, isi_str_str, isi_str_lst, isi_str_tup, isi_lst_bl, isi_lst_int, isi_lst_str, isi_lst_lst, isi_lst_tup, isi_tup_bl, isi_tup_int, isi_tup_str, isi_tup_lst, isi_tup_tup, isi_dct_bl, isi_dct_int, isi_dct_str, isi_dct_lst, isi_dct_tup, Kd_non, Kd_bl, Kd_int, Kd_str, sc_non_non, sc_non_int, sc_int_non, sc_non_bl, sc_bl_non, sc_non_str, sc_str_non, sc_int_int, sc_bl_bl, sc_str_str, sc_int_str, sc_str_int, sc_bl_str, sc_str_bl, decide_true, decide_false, tFor_eq, iList, iTup, iRng1, iRng2, iRng3, rIndexT, tBM0, tBMT, tyK_int, tyK_bool, tyK_str, tyK_list, tyK_tuple, L2.start, cxK, Int.reduceToNat, List.map_cons, List.map_nil, List.length_cons, List.length_nil, Nat.reduceAdd, Nat.reduceSub, Nat.zero_add, List.replicate_succ, List.replicate_zero, List.cons_append, List.nil_append, List.append_nil, List.getElem?_cons_zero, List.getElem?_cons_succ, List.set_cons_zero, List.set_cons_succ, Option.some.injEq, V.int.injEq, V.bl.injEq, V.ref.injEq, V.str.injEq, V.ty.injEq, List.cons.injEq, exists_eq_left', exists_eq_left, exists_eq_right, exists_and_left, exists_and_right, and_true, true_and, and_assoc, exists_const, decide_eq_true_eq, Bool.not_eq_true', Bool.not_true, Bool.not_false, Bool.not_not, decide_eq_false_iff_not, ite_not, Bool.false_eq_true, if_true, if_false, reduceCtorEq, and_false, false_and, exists_false, or_false, false_or, ↓reduceIte, eq_self, reduceIte]
    exact .inl ⟨p, n, rfl, R, ok, dp, q⟩
  · simp only [tTurn, rTurnT, tTryS, rCountT, rPop, rRep, tCont, iZipT, tChain3, tFld, sFld, tMake, tMake0, tMethD, tBM0, rUpper, tDict1T, tTryN, rSlS, rMulS, rCatS, iZipL, rInsert, rReverse, tDNewX, tTry, tRaise, iEnumL, iEnumT, iZip, iSeq, iOr, rIx, iStr, rLeS, rJoin, rSlTA, tComp_eq, tComp1, slots, Option.getD_some, Option.getD_none, tYes, tSeq, tAsg, gName, tOp, tUn, tC, tVar, tCB, tCons, tNil, tCall, rI, rI0, rU, tRet, tRetN, tIfS, tTest, tB, tAnd, tOr, tNot, tAndV, tOrV, tNotV, tIf, tChain, tMenu, tPar, tDrop, tTup, tLst, tNext, tSl, tPart, tNoPart, tNever, gTup, gCons, gNil, gSub, rSetL, tBM, rAppend, rEq, rNe, rIsi, rIxL, rIxT, rIxS, rSlL, isi_non_bl, isi_non_int, isi_non_str, isi_non_lst, isi_non_tup, isi_bl_bl, isi_bl_int, isi_bl_str, isi_bl_lst, isi_bl_tup, isi_int_bl, isi_int_int, isi_int_str, isi_int_lst, isi_int_tup, isi_str_bl, isi_str_int, isi_str_str, isi_str_lst, isi_str_tup, isi_lst_bl, isi_lst_int, isi_lst_str, isi_lst_lst, isi_lst_tup, isi_tup_bl, isi_tup_int, isi_tup_str, isi_tup_lst, isi_tup_tup, isi_dct_bl, isi_dct_int, isi_dct_str, isi_dct_lst, isi_dct_tup, Kd_non, Kd_bl, Kd_int, Kd_str, sc_non_non, sc_non_int, sc_int_non, sc_non_bl, sc_bl_non, sc_non_str, sc_str_non, sc_int_int, sc_bl_bl, sc_str_str, sc_int_str, sc_str_int, sc_bl_str, sc_str_bl, decide_true, decide_false, tFor_eq, iList, iTup, iRng1, iRng2, iRng3, rIndexT, tBM0, tBMT, tyK_int, tyK_bool, tyK_str, tyK_list, tyK_tuple, L2.start, cxK, Int.reduceToNat, List.map_cons, List.map_nil, List.length_cons, List.length_nil, Nat.reduceAdd, Nat.reduceSub, Nat.zero_add, List.replicate_succ, List.replicate_zero, List.cons_append, List.nil_append, List.append_nil, List.getElem?_cons_zero, List.getElem?_cons_succ, List.set_cons_zero, List.set_cons_succ, Option.some.injEq, V.int.injEq, V.bl.injEq, V.ref.injEq, V.str.injEq, V.ty.injEq, List.cons.injEq, exists_eq_left', exists_eq_left, exists_eq_right, exists_and_left, exists_and_right, and_true, true_and, and_assoc, exists_const, decide_eq_true_eq, Bool.not_eq_true', Bool.not_true, Bool.not_false, Bool.not_not, decide_eq_false_iff_not, ite_not, Bool.false_eq_true, if_true, if_false, reduceCtorEq, and_false, false_and, exists_false, or_false, false_or, ↓reduceIte, eq_self, reduceIte]
    exact .inr ⟨v, rfl, B, e⟩
end

def ntKd : Nt → Nat
  | .any => 0
  | .made _ => 1
  | .used _ => 2
  | .chief _ => 3
  | .over _ _ => 4
  | .both _ _ => 5
  | .either _ _ => 6
  | .but _ _ => 7
def ncCls (cs : NC) : Nat → Addr
  | 0 => cs.any
  | 1 => cs.made
  | 2 => cs.used
  | 3 => cs.chief
  | 4 => cs.over
  | 5 => cs.both
  | 6 => cs.either
  | _ => cs.but
def spToldN (K : PySem.W.Frag) (cs : NC) (d j : Nat) : Sp := fun vs H Q _ => ∃ (a : Addr) (n : Nt), vs = [.ref a] ∧ ntKd n = j ∧ ObjN K cs H a n ∧ n.dp ≤ d ∧ ∀ p H', Same H H' → ToldAt K H' (.ref p) n → Q (.ref p) H'
def DToldN (K : PySem.W.Frag) (cs : NC) (d : Nat) (C : Addr) (sp : Sp) : Prop := ∃ j, j < 8 ∧ C = ncCls cs j ∧ sp = spToldN K cs d j
theorem told_byN {K : PySem.W.Frag} {cs : NC} {H : Hp} {a : Addr} {n : Nt} {d : Nat} {Q : VK} (O : ObjN K cs H a n) (dp : n.dp ≤ d) (q : ∀ p H', Same H H' → ToldAt K H' (.ref p) n → Q (.ref p) H') : ∃ C dx fs, H a = some (.ins C dx fs) ∧ fs.lookup ("told" : Str) = none ∧ ∃ sp, DToldN K cs d C sp ∧ sp [.ref a] H Q E0 := by
  have fin : spToldN K cs d (ntKd n) [.ref a] H Q E0 := ⟨a, n, rfl, rfl, O, dp, q⟩
  cases n with
  | any => obtain ⟨dx, h⟩ := O; exact ⟨_, _, _, h, rfl, _, ⟨0, by decide, rfl, rfl⟩, fin⟩
  | made s => obtain ⟨dx, h⟩ := O; exact ⟨_, _, _, h, rfl, _, ⟨1, by decide, rfl, rfl⟩, fin⟩
  | used s => obtain ⟨dx, h⟩ := O; exact ⟨_, _, _, h, rfl, _, ⟨2, by decide, rfl, rfl⟩, fin⟩
  | chief s => obtain ⟨dx, h⟩ := O; exact ⟨_, _, _, h, rfl, _, ⟨3, by decide, rfl, rfl⟩, fin⟩
  | over k1 k2 => obtain ⟨dx, _, _, h, _⟩ := O; exact ⟨_, _, _, h, rfl, _, ⟨4, by decide, rfl, rfl⟩, fin⟩
  | both x y => obtain ⟨dx, _, _, h, _⟩ := O; exact ⟨_, _, _, h, rfl, _, ⟨5, by decide, rfl, rfl⟩, fin⟩
  | either x y => obtain ⟨dx, _, _, h, _⟩ := O; exact ⟨_, _, _, h, rfl, _, ⟨6, by decide, rfl, rfl⟩, fin⟩
  | but x y => obtain ⟨dx, _, _, h, _⟩ := O; exact ⟨_, _, _, h, rfl, _, ⟨7, by decide, rfl, rfl⟩, fin⟩
section
variable {P : Program} {w : World} {K : PySem.W.Frag} {mg : Str → Option Value} {base : Heap} {f : Addr} {fd : FuncData} {cs : NC}
theorem ok_Anything_told {k d : Nat} (F : Fun K "told" "Anything.told" s_Anything_told f fd) (M : Mg mg) : FnOk P w K mg base CX0 (k + 1) f fd ["self"] (spToldN K cs d 0) := by
  refine F.ok sc_Anything_told (fun vs H Q E h => ?_) (fun cdv A outer s H vs Q E hr h => ?_)
  · obtain ⟨a, n, rfl, _⟩ := h
    rfl
  obtain ⟨a, n, rfl, hk, O, dp, q⟩ := h
  refine ⟨_, (@pss_one _ _ _ (@ps_ret _ _ _ _ (@pe_tup _ _ _ _ _ (@pa_cons _ _ _ _ _ (@pe_str _ _ _ _) (@pa_nil _) (star1 rfl))))), ?_⟩
  simp only [tTurn, rTurnT, tTryS, rCountT, rPop, rRep, tCont, iZipT, tChain3, tFld, sFld, tMake, tMake0, tMethD, tBM0, rUpper, tDict1T, tTryN, rSlS, rMulS, rCatS, iZipL, rInsert, rReverse, tDNewX, tTry, tRaise, iEnumL, iEnumT, iZip, iSeq, iOr, rIx, iStr, rLeS, rJoin, rSlTA, tComp_eq, tComp1, slots, Option.getD_some, Option.getD_none, tYes, tSeq, tAsg, gName, tOp, tUn, tC, tVar, tCB, tCons, tNil, tCall, rI, rI0, rU, tRet, tRetN, tIfS, tTest, tB, tAnd, tOr, tNot, tAndV, tOrV, tNotV, tIf, tChain, tMenu, tPar, tDrop, tTup, tLst, tNext, tSl, tPart, tNoPart, tNever, gTup, gCons, gNil, gSub, rSetL, tBM, rAppend, rEq, rNe, rIsi, rIxL, rIxT, rIxS, rSlL, isi_non_bl, isi_non_int, isi_non_str, isi_non_lst, isi_non_tup, isi_bl_bl, isi_bl_int, isi_bl_str, isi_bl_lst, isi_bl_tup, isi_int_bl, isi_int_int, isi_int_str, isi_int_lst, isi_int_tup, isi_str_bl, isi_str_int, isi_str_str, isi_str_lst, isi_str_tup, isi_lst_bl, isi_lst_int, isi_lst_str, isi_lst_lst, isi_lst_tup, isi_tup_bl, isi_tup_int, isi_tup_str, isi_tup_lst, isi_tup_tup, isi_dct_bl, isi_dct_int, isi_dct_str, isi_dct_lst, isi_dct_tup, Kd_non, Kd_bl, Kd_int, Kd_str, sc_non_non, sc_non_int, sc_int_non, sc_non_bl, sc_bl_non, sc_non_str, sc_str_non, sc_int_int, sc_bl_bl, sc_str_str, sc_int_str, sc_str_int, sc_bl_str, sc_str_bl, decide_true, decide_false, tFor_eq, iList, iTup, iRng1, iRng2, iRng3, rIndexT, tBM0, tBMT, tyK_int, tyK_bool, tyK_str, tyK_list, tyK_tuple, L2.start, cxK, Int.reduceToNat, List.map_cons, List.map_nil, List.length_cons, List.length_nil, Nat.reduceAdd, Nat.reduceSub, Nat.zero_add, List.replicate_succ, List.replicate_zero, List.cons_append, List.nil_append, List.append_nil, List.getElem?_cons_zero, List.getElem?_cons_succ, List.set_cons_zero, List.set_cons_succ, Option.some.injEq, V.int.injEq, V.bl.injEq, V.ref.injEq, V.str.injEq, V.ty.injEq, List.cons.injEq, exists_eq_left', exists_eq_left, exists_eq_right, exists_and_left, exists_and_right, and_true, true_and, and_assoc, exists_const, decide_eq_true_eq, Bool.not_eq_true', Bool.not_true, Bool.not_false, Bool.not_not, decide_eq_false_iff_not, ite_not, Bool.false_eq_true, if_true, if_false, reduceCtorEq, and_false, false_and, exists_false, or_false, false_or, ↓reduceIte, eq_self, reduceIte]
  cases n with
  | any =>
    exact ⟨by decide, fun p hp => q _ _ (same_new hp _) (.tup (SqT.of upd_same) (.cons (.str _) .nil))⟩
  | made s => exact absurd hk (by show ¬(1 = 0); decide)
  | used s => exact absurd hk (by show ¬(2 = 0); decide)
  | chief s => exact absurd hk (by show ¬(3 = 0); decide)
  | over k1 k2 => exact absurd hk (by show ¬(4 = 0); decide)
  | both x y => exact absurd hk (by show ¬(5 = 0); decide)
  | either x y => exact absurd hk (by show ¬(6 = 0); decide)
  | but x y => exact absurd hk (by show ¬(7 = 0); decide)
theorem ok_Made_told {k d : Nat} (F : Fun K "told" "Made.told" s_Made_told f fd) (M : Mg mg) (cl : Cls K cs.made) (na : NoAttr K cs.made "stuff") : FnOk P w K mg base CX0 (k + 1) f fd ["self"] (spToldN K cs d 1) := by
  refine F.ok sc_Made_told (fun vs H Q E h => ?_) (fun cdv A outer s H vs Q E hr h => ?_)
  · obtain ⟨a, n, rfl, _⟩ := h
    rfl
  obtain ⟨a, n, rfl, hk, O, dp, q⟩ := h
  refine ⟨_, (@pss_one _ _ _ (@ps_ret _ _ _ _ (@pe_tup _ _ _ _ _ (@pa_cons _ _ _ _ _ (@pe_str _ _ _ _) (@pa_cons _ _ _ _ _ (@pe_fld _ _ _ _ _ (@pe_var _ 0 _ _ rfl v_Made_told_0 dn_self dc_self) (by rfl)) (@pa_nil _) (star1 rfl)) (star1 rfl))))), ?_⟩
  simp only [tTurn, rTurnT, tTryS, rCountT, rPop, rRep, tCont, iZipT, tChain3, tFld, sFld, tMake, tMake0, tMethD, tBM0, rUpper, tDict1T, tTryN, rSlS, rMulS, rCatS, iZipL, rInsert, rReverse, tDNewX, tTry, tRaise, iEnumL, iEnumT, iZip, iSeq, iOr, rIx, iStr, rLeS, rJoin, rSlTA, tComp_eq, tComp1, slots, Option.getD_some, Option.getD_none, tYes, tSeq, tAsg, gName, tOp, tUn, tC, tVar, tCB, tCons, tNil, tCall, rI, rI0, rU, tRet, tRetN, tIfS, tTest, tB, tAnd, tOr, tNot, tAndV, tOrV, tNotV, tIf, tChain, tMenu, tPar, tDrop, tTup, tLst, tNext, tSl, tPart, tNoPart, tNever, gTup, gCons, gNil, gSub, rSetL, tBM, rAppend, rEq, rNe, rIsi, rIxL, rIxT, rIxS, rSlL, isi_non_bl, isi_non_int, isi_non_str, isi_non_lst, isi_non_tup, isi_bl_bl, isi_bl_int, isi_bl_str, isi_bl_lst, isi_bl_tup, isi_int_bl, isi_int_int, isi_int_str, isi_int_lst, isi_int_tup, isi_str_bl, isi_str_int, isi_str_str, isi_str_lst, isi_str_tup, isi_lst_bl, isi_lst_int, isi_lst_str, isi_lst_lst, isi_lst_tup, isi_tup_bl, isi_tup_int, isi_tup_str, isi_tup_lst, isi_tup_tup, isi_dct_bl, isi_dct_int, isi_dct_str, isi_dct_lst, isi_dct_tup, Kd_non, Kd_bl, Kd_int, Kd_str, sc_non_non, sc_non_int, sc_int_non, sc_non_bl, sc_bl_non, sc_non_str, sc_str_non, sc_int_int, sc_bl_bl, sc_str_str, sc_int_str, sc_str_int, sc_bl_str, sc_str_bl, decide_true, decide_false, tFor_eq, iList, iTup, iRng1, iRng2, iRng3, rIndexT, tBM0, tBMT, tyK_int, tyK_bool, tyK_str, tyK_list, tyK_tuple, L2.start, cxK, Int.reduceToNat, List.map_cons, List.map_nil, List.length_cons, List.length_nil, Nat.reduceAdd, Nat.reduceSub, Nat.zero_add, List.replicate_succ, List.replicate_zero, List.cons_append, List.nil_append, List.append_nil, List.getElem?_cons_zero, List.getElem?_cons_succ, List.set_cons_zero, List.set_cons_succ, Option.some.injEq, V.int.injEq, V.bl.injEq, V.ref.injEq, V.str.injEq, V.ty.injEq, List.cons.injEq, exists_eq_left', exists_eq_left, exists_eq_right, exists_and_left, exists_and_right, and_true, true_and, and_assoc, exists_const, decide_eq_true_eq, Bool.not_eq_true', Bool.not_true, Bool.not_false, Bool.not_not, decide_eq_false_iff_not, ite_not, Bool.false_eq_true, if_true, if_false, reduceCtorEq, and_false, false_and, exists_false, or_false, false_or, ↓reduceIte, eq_self, reduceIte]
  cases n with
  | any => exact absurd hk (by show ¬(0 = 1); decide)
  | made s =>
    obtain ⟨dx, h⟩ := O
    exact ⟨_, _, _, h, cl, na, _, rfl, by decide, fun p hp => q _ _ (same_new hp _) (.tup (SqT.of upd_same) (.cons (.str _) (.cons (.str _) .nil)))⟩
  | used s => exact absurd hk (by show ¬(2 = 1); decide)
  | chief s => exact absurd hk (by show ¬(3 = 1); decide)
  | over k1 k2 => exact absurd hk (by show ¬(4 = 1); decide)
  | both x y => exact absurd hk (by show ¬(5 = 1); decide)
  | either x y => exact absurd hk (by show ¬(6 = 1); decide)
  | but x y => exact absurd hk (by show ¬(7 = 1); decide)
theorem ok_Used_told {k d : Nat} (F : Fun K "told" "Used.told" s_Used_told f fd) (M : Mg mg) (cl : Cls K cs.used) (na : NoAttr K cs.used "use") : FnOk P w K mg base CX0 (k + 1) f fd ["self"] (spToldN K cs d 2) := by
  refine F.ok sc_Used_told (fun vs H Q E h => ?_) (fun cdv A outer s H vs Q E hr h => ?_)
  · obtain ⟨a, n, rfl, _⟩ := h
    rfl
  obtain ⟨a, n, rfl, hk, O, dp, q⟩ := h
  refine ⟨_, (@pss_one _ _ _ (@ps_ret _ _ _ _ (@pe_tup _ _ _ _ _ (@pa_cons _ _ _ _ _ (@pe_str _ _ _ _) (@pa_cons _ _ _ _ _ (@pe_fld _ _ _ _ _ (@pe_var _ 0 _ _ rfl v_Used_told_0 dn_self dc_self) (by rfl)) (@pa_nil _) (star1 rfl)) (star1 rfl))))), ?_⟩
  simp only [tTurn, rTurnT, tTryS, rCountT, rPop, rRep, tCont, iZipT, tChain3, tFld, sFld, tMake, tMake0, tMethD, tBM0, rUpper, tDict1T, tTryN, rSlS, rMulS, rCatS, iZipL, rInsert, rReverse, tDNewX, tTry, tRaise, iEnumL, iEnumT, iZip, iSeq, iOr, rIx, iStr, rLeS, rJoin, rSlTA, tComp_eq, tComp1, slots, Option.getD_some, Option.getD_none, tYes, tSeq, tAsg, gName, tOp, tUn, tC, tVar, tCB, tCons, tNil, tCall, rI, rI0, rU, tRet, tRetN, tIfS, tTest, tB, tAnd, tOr, tNot, tAndV, tOrV, tNotV, tIf, tChain, tMenu, tPar, tDrop, tTup, tLst, tNext, tSl, tPart, tNoPart, tNever, gTup, gCons, gNil, gSub, rSetL, tBM, rAppend, rEq, rNe, rIsi, rIxL, rIxT, rIxS, rSlL, isi_non_bl, isi_non_int, isi_non_str, isi_non_lst, isi_non_tup, isi_bl_bl, isi_bl_int, isi_bl_str, isi_bl_lst, isi_bl_tup, isi_int_bl, isi_int_int, isi_int_str, isi_int_lst, isi_int_tup, isi_str_bl, isi_str_int, isi_str_str, isi_str_lst, isi_str_tup, isi_lst_bl, isi_lst_int, isi_lst_str, isi_lst_lst, isi_lst_tup, isi_tup_bl, isi_tup_int, isi_tup_str, isi_tup_lst, isi_tup_tup, isi_dct_bl, isi_dct_int, isi_dct_str, isi_dct_lst, isi_dct_tup, Kd_non, Kd_bl, Kd_int, Kd_str, sc_non_non, sc_non_int, sc_int_non, sc_non_bl, sc_bl_non, sc_non_str, sc_str_non, sc_int_int, sc_bl_bl, sc_str_str, sc_int_str, sc_str_int, sc_bl_str, sc_str_bl, decide_true, decide_false, tFor_eq, iList, iTup, iRng1, iRng2, iRng3, rIndexT, tBM0, tBMT, tyK_int, tyK_bool, tyK_str, tyK_list, tyK_tuple, L2.start, cxK, Int.reduceToNat, List.map_cons, List.map_nil, List.length_cons, List.length_nil, Nat.reduceAdd, Nat.reduceSub, Nat.zero_add, List.replicate_succ, List.replicate_zero, List.cons_append, List.nil_append, List.append_nil, List.getElem?_cons_zero, List.getElem?_cons_succ, List.set_cons_zero, List.set_cons_succ, Option.some.injEq, V.int.injEq, V.bl.injEq, V.ref.injEq, V.str.injEq, V.ty.injEq, List.cons.injEq, exists_eq_left', exists_eq_left, exists_eq_right, exists_and_left, exists_and_right, and_true, true_and, and_assoc, exists_const, decide_eq_true_eq, Bool.not_eq_true', Bool.not_true, Bool.not_false, Bool.not_not, decide_eq_false_iff_not, ite_not, Bool.false_eq_true, if_true, if_false, reduceCtorEq, and_false, false_and, exists_false, or_false, false_or, ↓reduceIte, eq_self, reduceIte]
  cases n with
  | any => exact absurd hk (by show ¬(0 = 2); decide)
  | made s => exact absurd hk (by show ¬(1 = 2); decide)
  | used s =>
    obtain ⟨dx, h⟩ := O
    exact ⟨_, _, _, h, cl, na, _, rfl, by decide, fun p hp => q _ _ (same_new hp _) (.tup (SqT.of upd_same) (.cons (.str _) (.cons (.str _) .nil)))⟩
  | chief s => exact absurd hk (by show ¬(3 = 2); decide)
  | over k1 k2 => exact absurd hk (by show ¬(4 = 2); decide)
  | both x y => exact absurd hk (by show ¬(5 = 2); decide)
  | either x y => exact absurd hk (by show ¬(6 = 2); decide)
  | but x y => exact absurd hk (by show ¬(7 = 2); decide)
theorem ok_Chief_told {k d : Nat} (F : Fun K "told" "Chief.told" s_Chief_told f fd) (M : Mg mg) (cl : Cls K cs.chief) (na : NoAttr K cs.chief "stuff") : FnOk P w K mg base CX0 (k + 1) f fd ["self"] (spToldN K cs d 3) := by
  refine F.ok sc_Chief_told (fun vs H Q E h => ?_) (fun cdv A outer s H vs Q E hr h => ?_)
  · obtain ⟨a, n, rfl, _⟩ := h
    rfl
  obtain ⟨a, n, rfl, hk, O, dp, q⟩ := h
  refine ⟨_, (@pss_one _ _ _ (@ps_ret _ _ _ _ (@pe_tup _ _ _ _ _ (@pa_cons _ _ _ _ _ (@pe_str _ _ _ _) (@pa_cons _ _ _ _ _ (@pe_fld _ _ _ _ _ (@pe_var _ 0 _ _ rfl v_Chief_told_0 dn_self dc_self) (by rfl)) (@pa_nil _) (star1 rfl)) (star1 rfl))))), ?_⟩
  simp only [tTurn, rTurnT, tTryS, rCountT, rPop, rRep, tCont, iZipT, tChain3, tFld, sFld, tMake, tMake0, tMethD, tBM0, rUpper, tDict1T, tTryN, rSlS, rMulS, rCatS, iZipL, rInsert, rReverse, tDNewX, tTry, tRaise, iEnumL, iEnumT, iZip, iSeq, iOr, rIx, iStr, rLeS, rJoin, rSlTA, tComp_eq, tComp1, slots, Option.getD_some, Option.getD_none, tYes, tSeq, tAsg, gName, tOp, tUn, tC, tVar, tCB, tCons, tNil, tCall, rI, rI0, rU, tRet, tRetN, tIfS, tTest, tB, tAnd, tOr, tNot, tAndV, tOrV, tNotV, tIf, tChain, tMenu, tPar, tDrop, tTup, tLst, tNext, tSl, tPart, tNoPart, tNever, gTup, gCons, gNil, gSub, rSetL, tBM, rAppend, rEq, rNe, rIsi, rIxL, rIxT, rIxS, rSlL, isi_non_bl, isi_non_int, isi_non_str, isi_non_lst, isi_non_tup, isi_bl_bl, isi_bl_int, isi_bl_str, isi_bl_lst, isi_bl_tup, isi_int_bl, isi_int_int, isi_int_str, isi_int_lst, isi_int_tup, isi_str_bl, isi_str_int, isi_str_str, isi_str_lst, isi_str_tup, isi_lst_bl, isi_lst_int, isi_lst_str, isi_lst_lst, isi_lst_tup, isi_tup_bl, isi_tup_int, isi_tup_str, isi_tup_lst, isi_tup_tup, isi_dct_bl, isi_dct_int, isi_dct_str, isi_dct_lst, isi_dct_tup, Kd_non, Kd_bl, Kd_int, Kd_str, sc_non_non, sc_non_int, sc_int_non, sc_non_bl, sc_bl_non, sc_non_str, sc_str_non, sc_int_int, sc_bl_bl, sc_str_str, sc_int_str, sc_str_int, sc_bl_str, sc_str_bl, decide_true, decide_false, tFor_eq, iList, iTup, iRng1, iRng2, iRng3, rIndexT, tBM0, tBMT, tyK_int, tyK_bool, tyK_str, tyK_list, tyK_tuple, L2.start, cxK, Int.reduceToNat, List.map_cons, List.map_nil, List.length_cons, List.length_nil, Nat.reduceAdd, Nat.reduceSub, Nat.zero_add, List.replicate_succ, List.replicate_zero, List.cons_append, List.nil_append, List.append_nil, List.getElem?_cons_zero, List.getElem?_cons_succ, List.set_cons_zero, List.set_cons_succ, Option.some.injEq, V.int.injEq, V.bl.injEq, V.ref.injEq, V.str.injEq, V.ty.injEq, List.cons.injEq, exists_eq_left', exists_eq_left, exists_eq_right, exists_and_left, exists_and_right, and_true, true_and, and_assoc, exists_const, decide_eq_true_eq, Bool.not_eq_true', Bool.not_true, Bool.not_false, Bool.not_not, decide_eq_false_iff_not, ite_not, Bool.false_eq_true, if_true, if_false, reduceCtorEq, and_false, false_and, exists_false, or_false, false_or, ↓reduceIte, eq_self, reduceIte]
  cases n with
  | any => exact absurd hk (by show ¬(0 = 3); decide)
  | made s => exact absurd hk (by show ¬(1 = 3); decide)
  | used s => exact absurd hk (by show ¬(2 = 3); decide)
  | chief s =>
    obtain ⟨dx, h⟩ := O
    exact ⟨_, _, _, h, cl, na, _, rfl, by decide, fun p hp => q _ _ (same_new hp _) (.tup (SqT.of upd_same) (.cons (.str _) (.cons (.str _) .nil)))⟩
  | over k1 k2 => exact absurd hk (by show ¬(4 = 3); decide)
  | both x y => exact absurd hk (by show ¬(5 = 3); decide)
  | either x y => exact absurd hk (by show ¬(6 = 3); decide)
  | but x y => exact absurd hk (by show ¬(7 = 3); decide)
theorem ok_Over_told {k d : Nat} (F : Fun K "told" "Over.told" s_Over_told f fd) (M : Mg mg) (t4 : TwoC K cs.over) : FnOk P w K mg base CX0 (k + 1) f fd ["self"] (spToldN K cs d 4) := by
  refine F.ok sc_Over_told (fun vs H Q E h => ?_) (fun cdv A outer s H vs Q E hr h => ?_)
  · obtain ⟨a, n, rfl, _⟩ := h
    rfl
  obtain ⟨a, n, rfl, hk, O, dp, q⟩ := h
  refine ⟨_, (@pss_one _ _ _ (@ps_ret _ _ _ _ (@pe_tup _ _ _ _ _ (@pa_cons _ _ _ _ _ (@pe_str _ _ _ _) (@pa_cons _ _ _ _ _ (@pe_fld _ _ _ _ _ (@pe_var _ 0 _ _ rfl v_Over_told_0 dn_self dc_self) (by rfl)) (@pa_cons _ _ _ _ _ (@pe_fld _ _ _ _ _ (@pe_var _ 0 _ _ rfl v_Over_told_0 dn_self dc_self) (by rfl)) (@pa_nil _) (star1 rfl)) (star1 rfl)) (star1 rfl))))), ?_⟩
  simp only [tTurn, rTurnT, tTryS, rCountT, rPop, rRep, tCont, iZipT, tChain3, tFld, sFld, tMake, tMake0, tMethD, tBM0, rUpper, tDict1T, tTryN, rSlS, rMulS, rCatS, iZipL, rInsert, rReverse, tDNewX, tTry, tRaise, iEnumL, iEnumT, iZip, iSeq, iOr, rIx, iStr, rLeS, rJoin, rSlTA, tComp_eq, tComp1, slots, Option.getD_some, Option.getD_none, tYes, tSeq, tAsg, gName, tOp, tUn, tC, tVar, tCB, tCons, tNil, tCall, rI, rI0, rU, tRet, tRetN, tIfS, tTest, tB, tAnd, tOr, tNot, tAndV, tOrV, tNotV, tIf, tChain, tMenu, tPar, tDrop, tTup, tLst, tNext, tSl, tPart, tNoPart, tNever, gTup, gCons, gNil, gSub, rSetL, tBM, rAppend, rEq, rNe, rIsi, rIxL, rIxT, rIxS, rSlL, isi_non_bl, isi_non_int, isi_non_str, isi_non_lst, isi_non_tup, isi_bl_bl, isi_bl_int, isi_bl_str, isi_bl_lst, isi_bl_tup, isi_int_bl, isi_int_int, isi_int_str, isi_int_lst, isi_int_tup, isi_str_bl, isi_str_int, isi_str_str, isi_str_lst, isi_str_tup, isi_lst_bl, isi_lst_int, isi_lst_str, isi_lst_lst, isi_lst_tup, isi_tup_bl, isi_tup_int, isi_tup_str, isi_tup_lst, isi_tup_tup, isi_dct_bl, isi_dct_int, isi_dct_str, isi_dct_lst, isi_dct_tup, Kd_non, Kd_bl, Kd_int, Kd_str, sc_non_non, sc_non_int, sc_int_non, sc_non_bl, sc_bl_non, sc_non_str, sc_str_non, sc_int_int, sc_bl_bl, sc_str_str, sc_int_str, sc_str_int, sc_bl_str, sc_str_bl, decide_true, decide_false, tFor_eq, iList, iTup, iRng1, iRng2, iRng3, rIndexT, tBM0, tBMT, tyK_int, tyK_bool, tyK_str, tyK_list, tyK_tuple, L2.start, cxK, Int.reduceToNat, List.map_cons, List.map_nil, List.length_cons, List.length_nil, Nat.reduceAdd, Nat.reduceSub, Nat.zero_add, List.replicate_succ, List.replicate_zero, List.cons_append, List.nil_append, List.append_nil, List.getElem?_cons_zero, List.getElem?_cons_succ, List.set_cons_zero, List.set_cons_succ, Option.some.injEq, V.int.injEq, V.bl.injEq, V.ref.injEq, V.str.injEq, V.ty.injEq, List.cons.injEq, exists_eq_left', exists_eq_left, exists_eq_right, exists_and_left, exists_and_right, and_true, true_and, and_assoc, exists_const, decide_eq_true_eq, Bool.not_eq_true', Bool.not_true, Bool.not_false, Bool.not_not, decide_eq_false_iff_not, ite_not, Bool.false_eq_true, if_true, if_false, reduceCtorEq, and_false, false_and, exists_false, or_false, false_or, ↓reduceIte, eq_self, reduceIte]
  cases n with
  | any => exact absurd hk (by show ¬(0 = 4); decide)
  | made s => exact absurd hk (by show ¬(1 = 4); decide)
  | used s => exact absurd hk (by show ¬(2 = 4); decide)
  | chief s => exact absurd hk (by show ¬(3 = 4); decide)
  | over k1 k2 =>
    obtain ⟨dx, p1, p2, h, T1, T2⟩ := O
    exact ⟨_, _, _, h, t4.cl, t4.n1, _, rfl, _, _, _, h, t4.cl, t4.n2, _, rfl, by decide, fun p hp => q _ _ (same_new hp _) (.tup (SqT.of upd_same) (.cons (.str _) (.cons (rep_kind (Same.tup (same_new hp _) T1)) (.cons (rep_kind (Same.tup (same_new hp _) T2)) .nil))))⟩
  | both x y => exact absurd hk (by show ¬(5 = 4); decide)
  | either x y => exact absurd hk (by show ¬(6 = 4); decide)
  | but x y => exact absurd hk (by show ¬(7 = 4); decide)
theorem ok_Both_told {d : Nat} (F : Fun K "told" "Both.told" s_Both_told f fd) (M : Mg mg) (tt : TwoC K cs.both) (D_told : ∀ C sp, DToldN K cs d C sp → Disp P w K mg base "told" (1 + d) ["self"] C sp) : FnOk P w K mg base CX0 (1 + d + 1) f fd ["self"] (spToldN K cs (d + 1) 5) := by
  refine F.ok sc_Both_told (fun vs H Q E h => ?_) (fun cdv A outer s H vs Q E hr h => ?_)
  · obtain ⟨a, n, rfl, _⟩ := h
    rfl
  obtain ⟨a, n, rfl, hk, O, dp, q⟩ := h
  refine ⟨_, (@pss_one _ _ _ (@ps_ret _ _ _ _ (@pe_tup _ _ _ _ _ (@pa_cons _ _ _ _ _ (@pe_str _ _ _ _) (@pa_cons _ _ _ _ _ (@pe_methD0 _ _ _ _ _ _ _ _ _ _ _ (@pe_fld _ _ _ _ _ (@pe_var _ 0 _ _ rfl v_Both_told_0 dn_self dc_self) (by rfl)) D_told hr (by omega) (by rfl)) (@pa_cons _ _ _ _ _ (@pe_methD0 _ _ _ _ _ _ _ _ _ _ _ (@pe_fld _ _ _ _ _ (@pe_var _ 0 _ _ rfl v_Both_told_0 dn_self dc_self) (by rfl)) D_told hr (by omega) (by rfl)) (@pa_nil _) (star1 rfl)) (star1 rfl)) (star1 rfl))))), ?_⟩
  simp only [tTurn, rTurnT, tTryS, rCountT, rPop, rRep, tCont, iZipT, tChain3, tFld, sFld, tMake, tMake0, tMethD, tBM0, rUpper, tDict1T, tTryN, rSlS, rMulS, rCatS, iZipL, rInsert, rReverse, tDNewX, tTry, tRaise, iEnumL, iEnumT, iZip, iSeq, iOr, rIx, iStr, rLeS, rJoin, rSlTA, tComp_eq, tComp1, slots, Option.getD_some, Option.getD_none, tYes, tSeq, tAsg, gName, tOp, tUn, tC, tVar, tCB, tCons, tNil, tCall, rI, rI0, rU, tRet, tRetN, tIfS, tTest, tB, tAnd, tOr, tNot, tAndV, tOrV, tNotV, tIf, tChain, tMenu, tPar, tDrop, tTup, tLst, tNext, tSl, tPart, tNoPart, tNever, gTup, gCons, gNil, gSub, rSetL, tBM, rAppend, rEq, rNe, rIsi, rIxL, rIxT, rIxS, rSlL, isi_non_bl, isi_non_int, isi_non_str, isi_non_lst, isi_non_tup, isi_bl_bl, isi_bl_int, isi_bl_str, isi_bl_lst, isi_bl_tup, isi_int_bl, isi_int_int, isi_int_str, isi_int_lst, isi_int_tup, isi_str_bl, isi_str_int, isi_str_str, isi_str_lst, isi_str_tup, isi_lst_bl, isi_lst_int, isi_lst_str, isi_lst_lst, isi_lst_tup, isi_tup_bl, isi_tup_int, isi_tup_str, isi_tup_lst, isi_tup_tup, isi_dct_bl, isi_dct_int, isi_dct_str, isi_dct_lst, isi_dct_tup, Kd_non, Kd_bl, Kd_int, Kd_str, sc_non_non, sc_non_int, sc_int_non, sc_non_bl, sc_bl_non, sc_non_str, sc_str_non, sc_int_int, sc_bl_bl, sc_str_str, sc_int_str, sc_str_int, sc_bl_str, sc_str_bl, decide_true, decide_false, tFor_eq, iList, iTup, iRng1, iRng2, iRng3, rIndexT, tBM0, tBMT, tyK_int, tyK_bool, tyK_str, tyK_list, tyK_tuple, L2.start, cxK, Int.reduceToNat, List.map_cons, List.map_nil, List.length_cons, List.length_nil, Nat.reduceAdd, Nat.reduceSub, Nat.zero_add, List.replicate_succ, List.replicate_zero, List.cons_append, List.nil_append, List.append_nil, List.getElem?_cons_zero, List.getElem?_cons_succ, List.set_cons_zero, List.set_cons_succ, Option.some.injEq, V.int.injEq, V.bl.injEq, V.ref.injEq, V.str.injEq, V.ty.injEq, List.cons.injEq, exists_eq_left', exists_eq_left, exists_eq_right, exists_and_left, exists_and_right, and_true, true_and, and_assoc, exists_const, decide_eq_true_eq, Bool.not_eq_true', Bool.not_true, Bool.not_false, Bool.not_not, decide_eq_false_iff_not, ite_not, Bool.false_eq_true, if_true, if_false, reduceCtorEq, and_false, false_and, exists_false, or_false, false_or, ↓reduceIte, eq_self, reduceIte]
  cases n with
  | any => exact absurd hk (by show ¬(0 = 5); decide)
  | made s => exact absurd hk (by show ¬(1 = 5); decide)
  | used s => exact absurd hk (by show ¬(2 = 5); decide)
  | chief s => exact absurd hk (by show ¬(3 = 5); decide)
  | over k1 k2 => exact absurd hk (by show ¬(4 = 5); decide)
  | both x y =>
    obtain ⟨dx, a1, a2, h, O1, O2⟩ := O
    have dd : max x.dp y.dp + 1 ≤ d + 1 := dp
    refine ⟨_, _, _, h, tt.cl, tt.n1, _, rfl, _, rfl, ?_⟩
    refine told_byN O1 (show x.dp ≤ d by omega) fun p1 H1 S1 R1 => ?_
    refine ⟨_, _, _, S1 _ _ h, tt.cl, tt.n2, _, rfl, _, rfl, ?_⟩
    refine told_byN (ObjN.same S1 O2) (show y.dp ≤ d by omega) fun p2 H2 S2 R2 => ?_
    exact ⟨by decide, fun p hp => q _ _ (S1.trans (S2.trans (same_new hp _))) (.tup (SqT.of upd_same) (.cons (.str _) (.cons ((R1.same S2).same (same_new hp _)) (.cons (R2.same (same_new hp _)) .nil))))⟩
  | either x y => exact absurd hk (by show ¬(6 = 5); decide)
  | but x y => exact absurd hk (by show ¬(7 = 5); decide)
theorem no_Both_told {k j : Nat} (F : Fun K "told" "Both.told" s_Both_told f fd) : FnOk P w K mg base CX0 (k + 1) f fd ["self"] (spToldN K cs 0 j) := by
  refine F.ok sc_Both_told (fun vs H Q E h => ?_) (fun cdv A outer s H vs Q E hr h => ?_)
  · obtain ⟨a, n, rfl, _⟩ := h
    rfl
  obtain ⟨a, n, rfl, hk, O, dp, q⟩ := h
  have := Nt.dp_pos n
  omega
theorem ok_Either_told {d : Nat} (F : Fun K "told" "Either.told" s_Either_told f fd) (M : Mg mg) (tt : TwoC K cs.either) (D_told : ∀ C sp, DToldN K cs d C sp → Disp P w K mg base "told" (1 + d) ["self"] C sp) : FnOk P w K mg base CX0 (1 + d + 1) f fd ["self"] (spToldN K cs (d + 1) 6) := by
  refine F.ok sc_Either_told (fun vs H Q E h => ?_) (fun cdv A outer s H vs Q E hr h => ?_)
  · obtain ⟨a, n, rfl, _⟩ := h
    rfl
  obtain ⟨a, n, rfl, hk, O, dp, q⟩ := h
  refine ⟨_, (@pss_one _ _ _ (@ps_ret _ _ _ _ (@pe_tup _ _ _ _ _ (@pa_cons _ _ _ _ _ (@pe_str _ _ _ _) (@pa_cons _ _ _ _ _ (@pe_methD0 _ _ _ _ _ _ _ _ _ _ _ (@pe_fld _ _ _ _ _ (@pe_var _ 0 _ _ rfl v_Either_told_0 dn_self dc_self) (by rfl)) D_told hr (by omega) (by rfl)) (@pa_cons _ _ _ _ _ (@pe_methD0 _ _ _ _ _ _ _ _ _ _ _ (@pe_fld _ _ _ _ _ (@pe_var _ 0 _ _ rfl v_Either_told_0 dn_self dc_self) (by rfl)) D_told hr (by omega) (by rfl)) (@pa_nil _) (star1 rfl)) (star1 rfl)) (star1 rfl))))), ?_⟩
  simp only [tTurn, rTurnT, tTryS, rCountT, rPop, rRep, tCont, iZipT, tChain3, tFld, sFld, tMake, tMake0, tMethD, tBM0, rUpper, tDict1T, tTryN, rSlS, rMulS, rCatS, iZipL, rInsert, rReverse, tDNewX, tTry, tRaise, iEnumL, iEnumT, iZip, iSeq, iOr, rIx, iStr, rLeS, rJoin, rSlTA, tComp_eq, tComp1, slots, Option.getD_some, Option.getD_none, tYes, tSeq, tAsg, gName, tOp, tUn, tC, tVar, tCB, tCons, tNil, tCall, rI, rI0, rU, tRet, tRetN, tIfS, tTest, tB, tAnd, tOr, tNot, tAndV, tOrV, tNotV, tIf, tChain, tMenu, tPar, tDrop, tTup, tLst, tNext, tSl, tPart, tNoPart, tNever, gTup, gCons, gNil, gSub, rSetL, tBM, rAppend, rEq, rNe, rIsi, rIxL, rIxT, rIxS, rSlL, isi_non_bl, isi_non_int, isi_non_str, isi_non_lst, isi_non_tup, isi_bl_bl, isi_bl_int, isi_bl_str, isi_bl_lst, isi_bl_tup, isi_int_bl, isi_int_int, isi_int_str, isi_int_lst, isi_int_tup, isi_str_bl, isi_str_int, isi_str_str, isi_str_lst, isi_str_tup, isi_lst_bl, isi_lst_int, isi_lst_str, isi_lst_lst, isi_lst_tup, isi_tup_bl, isi_tup_int, isi_tup_str, isi_tup_lst, isi_tup_tup, isi_dct_bl, isi_dct_int, isi_dct_str, isi_dct_lst, isi_dct_tup, Kd_non, Kd_bl, Kd_int, Kd_str, sc_non_non, sc_non_int, sc_int_non, sc_non_bl, sc_bl_non, sc_non_str, sc_str_non, sc_int_int, sc_bl_bl, sc_str_str, sc_int_str, sc_str_int, sc_bl_str, sc_str_bl, decide_true, decide_false, tFor_eq, iList, iTup, iRng1, iRng2, iRng3, rIndexT, tBM0, tBMT, tyK_int, tyK_bool, tyK_str, tyK_list, tyK_tuple, L2.start, cxK, Int.reduceToNat, List.map_cons, List.map_nil, List.length_cons, List.length_nil, Nat.reduceAdd, Nat.reduceSub, Nat.zero_add, List.replicate_succ, List.replicate_zero, List.cons_append, List.nil_append, List.append_nil, List.getElem?_cons_zero, List.getElem?_cons_succ, List.set_cons_zero, List.set_cons_succ, Option.some.injEq, V.int.injEq, V.bl.injEq, V.ref.injEq, V.str.injEq, V.ty.injEq, List.cons.injEq, exists_eq_left', exists_eq_left, exists_eq_right, exists_and_left, exists_and_right, and_true, true_and, and_assoc, exists_const, decide_eq_true_eq, Bool.not_eq_true', Bool.not_true, Bool.not_false, Bool.not_not, decide_eq_false_iff_not, ite_not, Bool.false_eq_true, if_true, if_false, reduceCtorEq, and_false, false_and, exists_false, or_false, false_or, ↓reduceIte, eq_self, reduceIte]
  cases n with
  | any => exact absurd hk (by show ¬(0 = 6); decide)
  | made s => exact absurd hk (by show ¬(1 = 6); decide)
  | used s => exact absurd hk (by show ¬(2 = 6); decide)
  | chief s => exact absurd hk (by show ¬(3 = 6); decide)
  | over k1 k2 => exact absurd hk (by show ¬(4 = 6); decide)
  | both x y => exact absurd hk (by show ¬(5 = 6); decide)
  | either x y =>
    obtain ⟨dx, a1, a2, h, O1, O2⟩ := O
    have dd : max x.dp y.dp + 1 ≤ d + 1 := dp
    refine ⟨_, _, _, h, tt.cl, tt.n1, _, rfl, _, rfl, ?_⟩
    refine told_byN O1 (show x.dp ≤ d by omega) fun p1 H1 S1 R1 => ?_
    refine ⟨_, _, _, S1 _ _ h, tt.cl, tt.n2, _, rfl, _, rfl, ?_⟩
    refine told_byN (ObjN.same S1 O2) (show y.dp ≤ d by omega) fun p2 H2 S2 R2 => ?_
    exact ⟨by decide, fun p hp => q _ _ (S1.trans (S2.trans (same_new hp _))) (.tup (SqT.of upd_same) (.cons (.str _) (.cons ((R1.same S2).same (same_new hp _)) (.cons (R2.same (same_new hp _)) .nil))))⟩
  | but x y => exact absurd hk (by show ¬(7 = 6); decide)
theorem no_Either_told {k j : Nat} (F : Fun K "told" "Either.told" s_Either_told f fd) : FnOk P w K mg base CX0 (k + 1) f fd ["self"] (spToldN K cs 0 j) := by
  refine F.ok sc_Either_told (fun vs H Q E h => ?_) (fun cdv A outer s H vs Q E hr h => ?_)
  · obtain ⟨a, n, rfl, _⟩ := h
    rfl
  obtain ⟨a, n, rfl, hk, O, dp, q⟩ := h
  have := Nt.dp_pos n
  omega
theorem ok_But_told {d : Nat} (F : Fun K "told" "But.told" s_But_told f fd) (M : Mg mg) (tt : TwoC K cs.but) (D_told : ∀ C sp, DToldN K cs d C sp → Disp P w K mg base "told" (1 + d) ["self"] C sp) : FnOk P w K mg base CX0 (1 + d + 1) f fd ["self"] (spToldN K cs (d + 1) 7) := by
  refine F.ok sc_But_told (fun vs H Q E h => ?_) (fun cdv A outer s H vs Q E hr h => ?_)
  · obtain ⟨a, n, rfl, _⟩ := h
    rfl
  obtain ⟨a, n, rfl, hk, O, dp, q⟩ := h
  refine ⟨_, (@pss_one _ _ _ (@ps_ret _ _ _ _ (@pe_tup _ _ _ _ _ (@pa_cons _ _ _ _ _ (@pe_str _ _ _ _) (@pa_cons _ _ _ _ _ (@pe_methD0 _ _ _ _ _ _ _ _ _ _ _ (@pe_fld _ _ _ _ _ (@pe_var _ 0 _ _ rfl v_But_told_0 dn_self dc_self) (by rfl)) D_told hr (by omega) (by rfl)) (@pa_cons _ _ _ _ _ (@pe_methD0 _ _ _ _ _ _ _ _ _ _ _ (@pe_fld _ _ _ _ _ (@pe_var _ 0 _ _ rfl v_But_told_0 dn_self dc_self) (by rfl)) D_told hr (by omega) (by rfl)) (@pa_nil _) (star1 rfl)) (star1 rfl)) (star1 rfl))))), ?_⟩
  simp only [tTurn, rTurnT, tTryS, rCountT, rPop, rRep, tCont, iZipT, tChain3, tFld, sFld, tMake, tMake0, tMethD, tBM0, rUpper, tDict1T, tTryN, rSlS, rMulS, rCatS, iZipL, rInsert, rReverse, tDNewX, tTry, tRaise, iEnumL, iEnumT, iZip, iSeq, iOr, rIx, iStr, rLeS, rJoin, rSlTA, tComp_eq, tComp1, slots, Option.getD_some, Option.getD_none, tYes, tSeq, tAsg, gName, tOp, tUn, tC, tVar, tCB, tCons, tNil, tCall, rI, rI0, rU, tRet, tRetN, tIfS, tTest, tB, tAnd, tOr, tNot, tAndV, tOrV, tNotV, tIf, tChain, tMenu, tPar, tDrop, tTup, tLst, tNext, tSl, tPart, tNoPart, tNever, gTup, gCons, gNil, gSub, rSetL, tBM, rAppend, rEq, rNe, rIsi, rIxL, rIxT, rIxS, rSlL, isi_non_bl, isi_non_int, isi_non_str, isi_non_lst, isi_non_tup, isi_bl_bl, isi_bl_int, isi_bl_str, isi_bl_lst, isi_bl_tup, isi_int_bl, isi_int_int, isi_int_str, isi_int_lst, isi_int_tup, isi_str_bl, isi_str_int, isi_str_str, isi_str_lst, isi_str_tup, isi_lst_bl, isi_lst_int, isi_lst_str, isi_lst_lst, isi_lst_tup, isi_tup_bl, isi_tup_int, isi_tup_str, isi_tup_lst, isi_tup_tup, isi_dct_bl, isi_dct_int, isi_dct_str, isi_dct_lst, isi_dct_tup, Kd_non, Kd_bl, Kd_int, Kd_str, sc_non_non, sc_non_int, sc_int_non, sc_non_bl, sc_bl_non, sc_non_str, sc_str_non, sc_int_int, sc_bl_bl, sc_str_str, sc_int_str, sc_str_int, sc_bl_str, sc_str_bl, decide_true, decide_false, tFor_eq, iList, iTup, iRng1, iRng2, iRng3, rIndexT, tBM0, tBMT, tyK_int, tyK_bool, tyK_str, tyK_list, tyK_tuple, L2.start, cxK, Int.reduceToNat, List.map_cons, List.map_nil, List.length_cons, List.length_nil, Nat.reduceAdd, Nat.reduceSub, Nat.zero_add, List.replicate_succ, List.replicate_zero, List.cons_append, List.nil_append, List.append_nil, List.getElem?_cons_zero, List.getElem?_cons_succ, List.set_cons_zero, List.set_cons_succ, Option.some.injEq, V.int.injEq, V.bl.injEq, V.ref.injEq, V.str.injEq, V.ty.injEq, List.cons.injEq, exists_eq_left', exists_eq_left, exists_eq_right, exists_and_left, exists_and_right, and_true, true_and, and_assoc, exists_const, decide_eq_true_eq, Bool.not_eq_true', Bool.not_true, Bool.not_false, Bool.not_not, decide_eq_false_iff_not, ite_not, Bool.false_eq_true, if_true, if_false, reduceCtorEq, and_false, false_and, exists_false, or_false, false_or, ↓reduceIte, eq_self, reduceIte]
  cases n with
  | any => exact absurd hk (by show ¬(0 = 7); decide)
  | made s => exact absurd hk (by show ¬(1 = 7); decide)
  | used s => exact absurd hk (by show ¬(2 = 7); decide)
  | chief s => exact absurd hk (by show ¬(3 = 7); decide)
  | over k1 k2 => exact absurd hk (by show ¬(4 = 7); decide)
  | both x y => exact absurd hk (by show ¬(5 = 7); decide)
  | either x y => exact absurd hk (by show ¬(6 = 7); decide)
  | but x y =>
    obtain ⟨dx, a1, a2, h, O1, O2⟩ := O
    have dd : max x.dp y.dp + 1 ≤ d + 1 := dp
    refine ⟨_, _, _, h, tt.cl, tt.n1, _, rfl, _, rfl, ?_⟩
    refine told_byN O1 (show x.dp ≤ d by omega) fun p1 H1 S1 R1 => ?_
    refine ⟨_, _, _, S1 _ _ h, tt.cl, tt.n2, _, rfl, _, rfl, ?_⟩
    refine told_byN (ObjN.same S1 O2) (show y.dp ≤ d by omega) fun p2 H2 S2 R2 => ?_
    exact ⟨by decide, fun p hp => q _ _ (S1.trans (S2.trans (same_new hp _))) (.tup (SqT.of upd_same) (.cons (.str _) (.cons ((R1.same S2).same (same_new hp _)) (.cons (R2.same (same_new hp _)) .nil))))⟩
theorem no_But_told {k j : Nat} (F : Fun K "told" "But.told" s_But_told f fd) : FnOk P w K mg base CX0 (k + 1) f fd ["self"] (spToldN K cs 0 j) := by
  refine F.ok sc_But_told (fun vs H Q E h => ?_) (fun cdv A outer s H vs Q E hr h => ?_)
  · obtain ⟨a, n, rfl, _⟩ := h
    rfl
  obtain ⟨a, n, rfl, hk, O, dp, q⟩ := h
  have := Nt.dp_pos n
  omega
abbrev TellP (P : Program) (w : World) (K : PySem.W.Frag) (mg : Str → Option Value) (base : Heap) (cs : NC) (j : Nat) : Prop := ∀ k d, ∃ f fd, Meth K (ncCls cs j) "told" f ∧ FnOk P w K mg base CX0 (k + 1) f fd ["self"] (spToldN K cs d j) ∧ Binds K fd ["self"] []
abbrev TellJ (P : Program) (w : World) (K : PySem.W.Frag) (mg : Str → Option Value) (base : Heap) (cs : NC) (j : Nat) : Prop := (∀ k, ∃ f fd, Meth K (ncCls cs j) "told" f ∧ FnOk P w K mg base CX0 (k + 1) f fd ["self"] (spToldN K cs 0 j) ∧ Binds K fd ["self"] []) ∧
  ∀ d, (∀ C sp, DToldN K cs d C sp → Disp P w K mg base "told" (1 + d) ["self"] C sp) → ∃ f fd, Meth K (ncCls cs j) "told" f ∧ FnOk P w K mg base CX0 (1 + d + 1) f fd ["self"] (spToldN K cs (d + 1) j) ∧ Binds K fd ["self"] []
theorem all_told (cl : ∀ j, j < 8 → Cls K (ncCls cs j)) (h0 : TellP P w K mg base cs 0) (h1 : TellP P w K mg base cs 1) (h2 : TellP P w K mg base cs 2) (h3 : TellP P w K mg base cs 3) (h4 : TellP P w K mg base cs 4) (h5 : TellJ P w K mg base cs 5) (h6 : TellJ P w K mg base cs 6) (h7 : TellJ P w K mg base cs 7) :
    ∀ d C sp, DToldN K cs d C sp → Disp P w K mg base "told" (1 + d) ["self"] C sp := by
  intro d
  induction d with
  | zero =>
    rintro C sp ⟨j, hj, rfl, rfl⟩
    refine ⟨cl j hj, ?_⟩
    have : j = 0 ∨ j = 1 ∨ j = 2 ∨ j = 3 ∨ j = 4 ∨ j = 5 ∨ j = 6 ∨ j = 7 := by omega
    rcases this with e | e | e | e | e | e | e | e <;> subst e
    · exact h0 0 0
    · exact h1 0 0
    · exact h2 0 0
    · exact h3 0 0
    · exact h4 0 0
    · exact h5.1 0
    · exact h6.1 0
    · exact h7.1 0
  | succ d ih =>
    rintro C sp ⟨j, hj, rfl, rfl⟩
    refine ⟨cl j hj, ?_⟩
    have : j = 0 ∨ j = 1 ∨ j = 2 ∨ j = 3 ∨ j = 4 ∨ j = 5 ∨ j = 6 ∨ j = 7 := by omega
    rcases this with e | e | e | e | e | e | e | e <;> subst e
    · exact h0 (1 + d) (d + 1)
    · exact h1 (1 + d) (d + 1)
    · exact h2 (1 + d) (d + 1)
    · exact h3 (1 + d) (d + 1)
    · exact h4 (1 + d) (d + 1)
    · exact h5.2 d ih
    · exact h6.2 d ih
    · exact h7.2 d ih
end

theorem rEqD_self {K : PySem.W.Frag} {H : Hp} {x y : V} {d : PyData} {neg : Bool} {Q : VK} (h1 : Rep K H x d) (h2 : Rep K H y d) (fd : flatD d) (hq : Q (.bl (!neg)) H) : rEqD K neg x y H Q :=
  ⟨d, d, h1, h2, fd, fd, by
    rw [SeqAt.eqv_refl d fd.1]
    cases neg with
    | true => exact hq
    | false => exact hq⟩

theorem canS {cs : List Nat} (a : asc cs) : PyData.canLay0 (.str (txt cs)) = true := by
  show (txt cs).cps.all (· < 0x110000) = true
  rw [List.all_toArray, List.all_eq_true]
  intro c hc
  have := of_decide_eq_true (List.all_eq_true.mp a c hc)
  exact decide_eq_true (by omega)
theorem two_flat {z : Str} {s : List Nat} (e : PyData.canLay0 (.str z) = true) (h : nameB s = true) : PyData.canLay0 (.tuple [.str z, .str (txt s)]) = true := by
  show (PyData.canLay0 (.str z) && (PyData.canLay0 (.str (txt s)) && true)) = true
  rw [e, canS (name_asc h).1]
  rfl
theorem kd_flat {k : Kd2} (h : okKind k) : PyData.canLay0 (kD k) = true := by
  show (PyData.canLay0 (.str (txt k.1)) && (PyData.canLay0 (.str (txt k.2)) && true)) = true
  rw [canS (name_asc h.1).1, canS (name_asc h.2).1]
  rfl
theorem three_flat {z : Str} {x y : PyData} (e : PyData.canLay0 (.str z) = true) (a : PyData.canLay0 x = true) (b : PyData.canLay0 y = true) : PyData.canLay0 (.tuple [.str z, x, y]) = true := by
  show (PyData.canLay0 (.str z) && (PyData.canLay0 x && (PyData.canLay0 y && true))) = true
  rw [e, a, b]
  rfl
theorem nt_flat : ∀ n : Nt, n.ok → PyData.canLay0 n.data = true ∧ PyData.depth n.data ≤ n.dp + 1
  | .any, _ => ⟨by decide +kernel, by show max 0 0 + 1 ≤ 1 + 1; decide⟩
  | .made s, h => ⟨two_flat (by decide +kernel) h, by show max 0 (max 0 0) + 1 ≤ 1 + 1; decide⟩
  | .used s, h => ⟨two_flat (by decide +kernel) h, by show max 0 (max 0 0) + 1 ≤ 1 + 1; decide⟩
  | .chief s, h => ⟨two_flat (by decide +kernel) h, by show max 0 (max 0 0) + 1 ≤ 1 + 1; decide⟩
  | .over a b, h => ⟨three_flat (by decide +kernel) (kd_flat h.1) (kd_flat h.2), by show max 0 (max (max 0 (max 0 0) + 1) (max (max 0 (max 0 0) + 1) 0)) + 1 ≤ 1 + 1; decide⟩
  | .both x y, h => by
    obtain ⟨a1, b1⟩ := nt_flat x h.1
    obtain ⟨a2, b2⟩ := nt_flat y h.2
    exact ⟨three_flat (by decide +kernel) a1 a2, by show max 0 (max (PyData.depth x.data) (max (PyData.depth y.data) 0)) + 1 ≤ max x.dp y.dp + 1 + 1; omega⟩
  | .either x y, h => by
    obtain ⟨a1, b1⟩ := nt_flat x h.1
    obtain ⟨a2, b2⟩ := nt_flat y h.2
    exact ⟨three_flat (by decide +kernel) a1 a2, by show max 0 (max (PyData.depth x.data) (max (PyData.depth y.data) 0)) + 1 ≤ max x.dp y.dp + 1 + 1; omega⟩
  | .but x y, h => by
    obtain ⟨a1, b1⟩ := nt_flat x h.1
    obtain ⟨a2, b2⟩ := nt_flat y h.2
    exact ⟨three_flat (by decide +kernel) a1 a2, by show max 0 (max (PyData.depth x.data) (max (PyData.depth y.data) 0)) + 1 ≤ max x.dp y.dp + 1 + 1; omega⟩
theorem flat_note {n : Nt} (ok : n.ok) (h : n.dp ≤ 30) : flatD n.data := ⟨(nt_flat n ok).1, by have := (nt_flat n ok).2; omega⟩
def spBadName (K : PySem.W.Frag) : Sp := fun vs H Q _ => ∃ (c : Int) (s : List Nat), vs = [.int c, .str (txt s)] ∧ nameB s = true ∧ ∀ v H', Same H H' → NameV K H' v false → Q v H'
def spBadT (K : PySem.W.Frag) : Sp := fun vs H Q _ => ∃ (c : Int) (kl wl : Addr) (kx : List V) (ks : List Kd2) (ws : List (List Nat)), vs = [.int c, .ref kl, .ref wl] ∧ H kl = some (.lst kx) ∧ KnA K H kx ks ∧ 1 ≤ ks.length ∧ ks.length ≤ 4 ∧ (∀ k ∈ ks, okKind k) ∧ H wl = some (.lst (ws.map fun w => V.str (txt w))) ∧ ws.length = 7 ∧ (∀ w ∈ ws, nameB w = true) ∧
  ∀ v H', Same H H' → (∀ d, NBad K H' (d + 1) v) → Q v H'
def spDeeper (K : PySem.W.Frag) : Sp := fun vs H Q _ => ∃ (p : Addr) (c : Int) (m : Nat) (n : Nt), vs = [.ref p, .int (m : Int), .int c] ∧ ToldAt K H (.ref p) n ∧ n.ok ∧ n.dp = 1 ∧ m ≤ 60 ∧ ∀ v H', Same H H' → (∀ d, d ≤ m → NBad K H' d v) → Q v H'
def spSpoilt (K : PySem.W.Frag) (d : Nat) : Sp := fun vs H Q _ => ∃ (p : Addr) (c : Int) (b : V) (n : Nt), vs = [.ref p, .int c, b] ∧ ToldAt K H (.ref p) n ∧ n.ok ∧ n.dp ≤ d ∧ (∀ e, 1 ≤ e → e ≤ 5 → NBad K H e b) ∧ ∀ v H', Same H H' → (∀ e, d ≤ e → e ≤ 5 → NBad K H' e v) → Q v H'
def spOther (D : Addr) : Sp := fun vs H Q _ => ∃ a, vs = [.ref a] ∧ H a = some (excO a D) ∧ ∀ H', Same H H' → Q (.bl false) H'
def spRefused (K : PySem.W.Frag) : Sp := fun vs H Q _ => ∃ v, vs = [v] ∧ NBad K H 5 v ∧ ∀ H', Same H H' → Q (.bl true) H'
theorem cutN_to (cs : List Nat) (n : Nat) : cutN cs none (some (n : Int)) = cs.take n := by
  unfold cutN
  rw [HT.sIx_none, HT.sIx_nat]
  rw [List.drop_zero, Nat.sub_zero]
  rcases Nat.le_total n cs.length with h | h
  · rw [Nat.min_eq_left h]
  · rw [Nat.min_eq_right h, List.take_of_length_le h, List.take_of_length_le (Nat.le_refl _)]
theorem bad_sign {cs : List Nat} (h : cs.any (fun c => !isLow c) = true) : nameB cs = false := by
  unfold nameB
  rw [Bool.and_eq_false_iff]
  right
  obtain ⟨c, hc, hl⟩ := List.any_eq_true.mp h
  refine Bool.eq_false_iff.mpr fun z => ?_
  rw [List.all_eq_true.mp z c hc] at hl
  cases hl
theorem kindV_of {K : PySem.W.Frag} {H : Hp} {v : V} {b c : Bool} (h : KindV K H v b) (e : b = c) : KindV K H v c := e ▸ h
theorem nv_false {K : PySem.W.Frag} {H : Hp} {cs : List Nat} (a : asc cs) (l : cs.length ≤ 1000) (h : nameB cs = false) : NameV K H (.str (txt cs)) false := by
  have := NameV.txt (K := K) (H := H) a l
  rwa [h] at this
section
variable {P : Program} {w : World} {K : PySem.W.Frag} {mg : Str → Option Value} {base : Heap} {f : Addr} {fd : FuncData} {cs : NC} {cN : Addr}
theorem ok_law_bad_name (F : Fun K "_law_bad_name" "_law_bad_name" s_law_bad_name f fd) (M : Mg mg) : FnOk P w K mg base CX0 1 f fd ["_law_cell_here", "_law_name"] (spBadName K) := by
  refine F.ok sc_law_bad_name (fun vs H Q E h => ?_) (fun cdv A outer s H vs Q E hr h => ?_)
  · obtain ⟨c, s, rfl, _⟩ := h
    rfl
  obtain ⟨c, s, rfl, nn, q⟩ := h
  have na := name_asc nn
  have low : ∀ x ∈ s, 97 ≤ x ∧ x ≤ 122 := fun x hx => by
    unfold nameB at nn
    rw [Bool.and_eq_true] at nn
    have := List.all_eq_true.mp nn.2 x hx
    unfold isLow at this
    rw [Bool.and_eq_true, decide_eq_true_iff, decide_eq_true_iff] at this
    exact this
  refine ⟨_, (@pss_cons _ _ _ _ _ (@ps_set _ _ 2 _ _ _ _ sc_law_bad_name.nd rfl l_law_bad_name_2 (@pe_lst _ _ _ _ (@pa_cons _ _ _ _ _ (@pe_bm0 _ _ _ _ _ _ _ _ _ PySem.F.plainAttrs_str PySem.F.slot_str_upper PySem.F.type_str_upper mt_upper (@pe_var _ 1 _ _ rfl v_law_bad_name_1 dn__law_name dc__law_name) (by rfl) (by rfl)) (@pa_cons _ _ _ _ _ (@pe_str _ _ _ _) (@pa_cons _ _ _ _ _ (@pe_str _ _ _ _) (@pa_cons _ _ _ _ _ (@pe_op _ _ _ _ _ _ _ _ op_catS (@pe_str _ _ _ _) (@pe_slice _ _ _ _ _ _ _ _ _ _ sl_str (@pe_var _ 1 _ _ rfl v_law_bad_name_1 dn__law_name dc__law_name) (@po_none _) (@po_some _ _ _ (@pe_int _ _ _ _)))) (@pa_cons _ _ _ _ _ (@pe_op _ _ _ _ _ _ _ _ op_catS (@pe_slice _ _ _ _ _ _ _ _ _ _ sl_str (@pe_var _ 1 _ _ rfl v_law_bad_name_1 dn__law_name dc__law_name) (@po_none _) (@po_some _ _ _ (@pe_int _ _ _ _))) (@pe_str _ _ _ _)) (@pa_cons _ _ _ _ _ (@pe_str _ _ _ _) (@pa_cons _ _ _ _ _ (@pe_op _ _ _ _ _ _ _ _ op_catS (@pe_op _ _ _ _ _ _ _ _ op_catS (@pe_slice _ _ _ _ _ _ _ _ _ _ sl_str (@pe_var _ 1 _ _ rfl v_law_bad_name_1 dn__law_name dc__law_name) (@po_none _) (@po_some _ _ _ (@pe_int _ _ _ _))) (@pe_str _ _ _ _)) (@pe_slice _ _ _ _ _ _ _ _ _ _ sl_str (@pe_var _ 1 _ _ rfl v_law_bad_name_1 dn__law_name dc__law_name) (@po_none _) (@po_some _ _ _ (@pe_int _ _ _ _)))) (@pa_cons _ _ _ _ _ (@pe_non _ _ _) (@pa_cons _ _ _ _ _ (@pe_int _ _ _ _) (@pa_nil _) (star1 rfl)) (star1 rfl)) (star1 rfl)) (star1 rfl)) (star1 rfl)) (star1 rfl)) (star1 rfl)) (star1 rfl)) (star1 rfl))) (swap1 rfl) (.inl rfl)) (@pss_one _ _ _ (@ps_ret _ _ _ _ (@pe_ix _ _ _ _ _ _ _ (@ix_list _) (@pe_var _ 2 _ _ rfl v_law_bad_name_2 dn__law_some dc__law_some) (@pe_op _ _ _ _ _ _ _ _ (@op_mod _) (@pe_var _ 0 _ _ rfl v_law_bad_name_0 dn__law_cell_here dc__law_cell_here) (@pe_int _ _ _ _)) (fun _ _ => rfl))))), ?_⟩
  simp only [tTurn, rTurnT, tTryS, rCountT, rPop, rRep, tCont, iZipT, tChain3, tFld, sFld, tMake, tMake0, tMethD, tBM0, rUpper, tDict1T, tTryN, rSlS, rMulS, rCatS, iZipL, rInsert, rReverse, tDNewX, tTry, tRaise, iEnumL, iEnumT, iZip, iSeq, iOr, rIx, iStr, rLeS, rJoin, rSlTA, tComp_eq, tComp1, slots, Option.getD_some, Option.getD_none, tYes, tSeq, tAsg, gName, tOp, tUn, tC, tVar, tCB, tCons, tNil, tCall, rI, rI0, rU, tRet, tRetN, tIfS, tTest, tB, tAnd, tOr, tNot, tAndV, tOrV, tNotV, tIf, tChain, tMenu, tPar, tDrop, tTup, tLst, tNext, tSl, tPart, tNoPart, tNever, gTup, gCons, gNil, gSub, rSetL, tBM, rAppend, rEq, rNe, rIsi, rIxL, rIxT, rIxS, rSlL, isi_non_bl, isi_non_int, isi_non_str, isi_non_lst, isi_non_tup, isi_bl_bl, isi_bl_int, isi_bl_str, isi_bl_lst, isi_bl_tup, isi_int_bl, isi_int_int, isi_int_str, isi_int_lst, isi_int_tup, isi_str_bl, isi_str_int, isi_str_str, isi_str_lst, isi_str_tup, isi_lst_bl, isi_lst_int, isi_lst_str, isi_lst_lst, isi_lst_tup, isi_tup_bl, isi_tup_int, isi_tup_str, isi_tup_lst, isi_tup_tup, isi_dct_bl, isi_dct_int, isi_dct_str, isi_dct_lst, isi_dct_tup, Kd_non, Kd_bl, Kd_int, Kd_str, sc_non_non, sc_non_int, sc_int_non, sc_non_bl, sc_bl_non, sc_non_str, sc_str_non, sc_int_int, sc_bl_bl, sc_str_str, sc_int_str, sc_str_int, sc_bl_str, sc_str_bl, decide_true, decide_false, tFor_eq, iList, iTup, iRng1, iRng2, iRng3, rIndexT, tBM0, tBMT, tyK_int, tyK_bool, tyK_str, tyK_list, tyK_tuple, L2.start, cxK, Int.reduceToNat, List.map_cons, List.map_nil, List.length_cons, List.length_nil, Nat.reduceAdd, Nat.reduceSub, Nat.zero_add, List.replicate_succ, List.replicate_zero, List.cons_append, List.nil_append, List.append_nil, List.getElem?_cons_zero, List.getElem?_cons_succ, List.set_cons_zero, List.set_cons_succ, Option.some.injEq, V.int.injEq, V.bl.injEq, V.ref.injEq, V.str.injEq, V.ty.injEq, List.cons.injEq, exists_eq_left', exists_eq_left, exists_eq_right, exists_and_left, exists_and_right, and_true, true_and, and_assoc, exists_const, decide_eq_true_eq, Bool.not_eq_true', Bool.not_true, Bool.not_false, Bool.not_not, decide_eq_false_iff_not, ite_not, Bool.false_eq_true, if_true, if_false, reduceCtorEq, and_false, false_and, exists_false, or_false, false_or, ↓reduceIte, eq_self, reduceIte]
  have l8 : s.length ≤ 1000 := by omega
  have e6 : cutN s none (some 6) = s.take 6 := cutN_to s 6
  have e3 : cutN s none (some 3) = s.take 3 := cutN_to s 3
  have ta : ∀ n, asc (s.take n) := fun n => List.all_eq_true.mpr fun c hc => List.all_eq_true.mp na.1 c (List.mem_of_mem_take hc)
  have t6 : (s.take 6).length ≤ 6 := by rw [List.length_take]; omega
  have t3 : (s.take 3).length ≤ 3 := by rw [List.length_take]; omega
  refine ⟨rfl, s, rfl, low, l8, s, rfl, l8, [55], rfl, _, rfl, by rw [e6]; show 1 + _ ≤ 1000; omega, s, rfl, l8, _, rfl, [55], rfl, by rw [e6]; show _ + 1 ≤ 1000; omega, s, rfl, l8, _, rfl, [32], rfl, by rw [e3]; show _ + 1 ≤ 1000; omega, s, rfl, l8, _, rfl, _, rfl, by rw [e3, List.length_append]; show _ + 1 + _ ≤ 1000; omega, ?_⟩
  rw [e6, e3]
  refine ⟨by decide, fun l hl => ?_⟩
  obtain ⟨i, hi, li⟩ : ∃ i : Nat, c % 9 = (i : Int) ∧ i < 9 := ⟨(c % 9).toNat, by omega, by omega⟩
  have all : ∀ H', ∀ v ∈ [V.str (txt (List.map (fun x => x - 32) s)), V.str (Str.ofString "abcdefghi"), V.str (Str.ofString ""), V.str (txt ([55] ++ List.take 6 s)), V.str (txt (List.take 6 s ++ [55])), V.str (Str.ofString " "), V.str (txt (List.take 3 s ++ [32] ++ List.take 3 s)), V.non, V.int 7], NameV K H' v false := by
    intro H'
    simp only [List.forall_mem_cons]
    have z9 : Str.ofString "abcdefghi" = txt [97, 98, 99, 100, 101, 102, 103, 104, 105] := by decide
    have z0 : Str.ofString "" = txt [] := by decide
    have z1 : Str.ofString " " = txt [32] := by decide
    rw [z9, z0, z1]
    have up : asc (List.map (fun x => x - 32) s) := List.all_eq_true.mpr fun c hc => by
      obtain ⟨c', hc', rfl⟩ := List.mem_map.mp hc
      have := low c' hc'
      exact decide_eq_true (by omega)
    have upb : nameB (List.map (fun x => x - 32) s) = false := by
      obtain ⟨c, hc⟩ : ∃ c, c ∈ s := by
        have := nn
        unfold nameB at this
        rw [Bool.and_eq_true, decide_eq_true_iff] at this
        exact ⟨s[0]'(by omega), List.getElem_mem _⟩
      refine bad_sign (List.any_eq_true.mpr ⟨c - 32, List.mem_map.mpr ⟨c, hc, rfl⟩, ?_⟩)
      have := low c hc
      unfold isLow
      rw [decide_eq_false (by omega), Bool.false_and]
      rfl
    have m55 : isLow 55 = false := by decide
    have m32 : isLow 32 = false := by decide
    have a55 : asc [55] := by decide
    have a32 : asc [32] := by decide
    have app : ∀ {as bs : List Nat}, asc as → asc bs → asc (as ++ bs) := fun {as bs} h g => by
      show (as ++ bs).all _ = true
      rw [List.all_append, h, g]
      rfl
    exact ⟨nv_false up (by rw [List.length_map]; omega) upb, nv_false (by decide) (by decide) (by decide), nv_false (by decide) (by decide) (by decide),
      nv_false (app a55 (ta 6)) (by rw [List.length_append]; show 1 + _ ≤ 1000; omega) (bad_sign (List.any_eq_true.mpr ⟨55, List.mem_append_left _ (List.mem_singleton.mpr rfl), by rw [m55]; rfl⟩)),
      nv_false (app (ta 6) a55) (by rw [List.length_append]; show _ + 1 ≤ 1000; omega) (bad_sign (List.any_eq_true.mpr ⟨55, List.mem_append_right _ (List.mem_singleton.mpr rfl), by rw [m55]; rfl⟩)),
      nv_false a32 (by decide) (by decide),
      nv_false (app (app (ta 3) a32) (ta 3)) (by rw [List.length_append, List.length_append]; show _ + 1 + _ ≤ 1000; omega) (bad_sign (List.any_eq_true.mpr ⟨32, List.mem_append_left _ (List.mem_append_right _ (List.mem_singleton.mpr rfl)), by rw [m32]; rfl⟩)),
      .no (k := .non) rfl (by decide), .no (k := .int) rfl (by decide), fun _ h => by cases h⟩
  obtain ⟨v, hv⟩ : ∃ v, ([V.str (txt (List.map (fun x => x - 32) s)), V.str (Str.ofString "abcdefghi"), V.str (Str.ofString ""), V.str (txt ([55] ++ List.take 6 s)), V.str (txt (List.take 6 s ++ [55])), V.str (Str.ofString " "), V.str (txt (List.take 3 s ++ [32] ++ List.take 3 s)), V.non, V.int 7] : List V)[i]? = some v := ⟨_, List.getElem?_eq_getElem (by show i < 9; omega)⟩
  exact ⟨by decide, _, SqL.of upd_same, _, (by rw [hi]; exact atI_nat hv), q _ _ (same_new hl _) (all _ v (List.mem_of_getElem? hv))⟩
theorem ok_law_bad (F : Fun K "_law_bad" "_law_bad" s_law_bad f fd) (M : Mg mg) (C_law_mix : Cal P w K mg base CX0 "_law_mix" 1 ["_law_number", "_law_k", "_law_many"] spMix3) (C_law_bad_name : Cal P w K mg base CX0 "_law_bad_name" 1 ["_law_cell_here", "_law_name"] (spBadName K)) : FnOk P w K mg base CX0 2 f fd ["_law_cell_here", "_law_kinds_here", "_law_words_here"] (spBadT K) := by
  refine F.ok sc_law_bad (fun vs H Q E h => ?_) (fun cdv A outer s H vs Q E hr h => ?_)
  · obtain ⟨c, kl, wl, kx, ks, ws, rfl, _⟩ := h
    rfl
  obtain ⟨c, kl, wl, kx, ks, ws, rfl, LK, KA, k1, k4, okk, LW, lw, nw, q⟩ := h
  have lk := KA.length
  refine ⟨_, (@pss_cons _ _ _ _ _ (@ps_set _ _ 3 _ _ _ _ sc_law_bad.nd rfl l_law_bad_3 (@pe_callC _ _ _ _ _ _ _ _ _ _ _ C_law_mix hr g_law_bad__law_mix (@pa_cons _ _ _ _ _ (@pe_var _ 0 _ _ rfl v_law_bad_0 dn__law_cell_here dc__law_cell_here) (@pa_cons _ _ _ _ _ (@pe_int _ _ _ _) (@pa_cons _ _ _ _ _ (@pe_int _ _ _ _) (@pa_nil _) (star1 rfl)) (star1 rfl)) (star1 rfl)) (by decide) dn__law_mix (star1 rfl) (nost1 rfl (nost1 rfl nost0))) (swap1 rfl) (.inl rfl)) (@pss_cons _ _ _ _ _ (@ps_set _ _ 4 _ _ _ _ sc_law_bad.nd rfl l_law_bad_4 (@pe_ix _ _ _ _ _ _ _ (@ix_list _) (@pe_var _ 2 _ _ rfl v_law_bad_2 dn__law_words_here dc__law_words_here) (@pe_callC _ _ _ _ _ _ _ _ _ _ _ C_law_mix hr g_law_bad__law_mix (@pa_cons _ _ _ _ _ (@pe_var _ 0 _ _ rfl v_law_bad_0 dn__law_cell_here dc__law_cell_here) (@pa_cons _ _ _ _ _ (@pe_int _ _ _ _) (@pa_cons _ _ _ _ _ (@pe_int _ _ _ _) (@pa_nil _) (star1 rfl)) (star1 rfl)) (star1 rfl)) (by decide) dn__law_mix (star1 rfl) (nost1 rfl (nost1 rfl nost0))) (fun _ _ => rfl)) (swap1 rfl) (.inl rfl)) (@pss_cons _ _ _ _ _ (@ps_set _ _ 5 _ _ _ _ sc_law_bad.nd rfl l_law_bad_5 (@pe_callC _ _ _ _ _ _ _ _ _ _ _ C_law_bad_name hr g_law_bad__law_bad_name (@pa_cons _ _ _ _ _ (@pe_op _ _ _ _ _ _ _ _ (@op_fdivB _) (@pe_var _ 0 _ _ rfl v_law_bad_0 dn__law_cell_here dc__law_cell_here) (@pe_int _ _ _ _)) (@pa_cons _ _ _ _ _ (@pe_var _ 4 _ _ rfl v_law_bad_4 dn__law_name dc__law_name) (@pa_nil _) (star1 rfl)) (star1 rfl)) (by decide) dn__law_bad_name (star1 rfl) (nost1 rfl nost0)) (swap1 rfl) (.inl rfl)) (@pss_cons _ _ _ _ _ (@ps_if _ _ _ _ _ _ _ _ (@pt_cmpR _ _ _ _ _ _ _ _ (@op_lt _) (@pe_var _ 3 _ _ rfl v_law_bad_3 dn__law_way dc__law_way) (@pe_int _ _ _ _) (nomark _)) (@pss_one _ _ _ (@ps_ret _ _ _ _ (@pe_menu _ _ _ _ _ _ _ (@pa_cons _ _ _ _ _ (@pe_lst _ _ _ _ (@pa_cons _ _ _ _ _ (@pe_str _ _ _ _) (@pa_nil _) (star1 rfl))) (@pa_cons _ _ _ _ _ (@pe_non _ _ _) (@pa_cons _ _ _ _ _ (@pe_tup _ _ _ _ _ (@pa_nil _)) (@pa_cons _ _ _ _ _ (@pe_str _ _ _ _) (@pa_cons _ _ _ _ _ (@pe_tup _ _ _ _ _ (@pa_cons _ _ _ _ _ (@pe_str _ _ _ _) (@pa_cons _ _ _ _ _ (@pe_tup _ _ _ _ _ (@pa_cons _ _ _ _ _ (@pe_str _ _ _ _) (@pa_nil _) (star1 rfl))) (@pa_cons _ _ _ _ _ (@pe_tup _ _ _ _ _ (@pa_cons _ _ _ _ _ (@pe_str _ _ _ _) (@pa_nil _) (star1 rfl))) (@pa_nil _) (star1 rfl)) (star1 rfl)) (star1 rfl))) (@pa_cons _ _ _ _ _ (@pe_tup _ _ _ _ _ (@pa_cons _ _ _ _ _ (@pe_str _ _ _ _) (@pa_nil _) (star1 rfl))) (@pa_nil _) (star1 rfl)) (star1 rfl)) (star1 rfl)) (star1 rfl)) (star1 rfl)) (star1 rfl)) (@pe_var _ 3 _ _ rfl v_law_bad_3 dn__law_way dc__law_way) (fun _ _ => rfl)))) (@pss_nil _)) (@pss_cons _ _ _ _ _ (@ps_if _ _ _ _ _ _ _ _ (@pt_cmpR _ _ _ _ _ _ _ _ (@op_lt _) (@pe_var _ 3 _ _ rfl v_law_bad_3 dn__law_way dc__law_way) (@pe_int _ _ _ _) (nomark _)) (@pss_one _ _ _ (@ps_ret _ _ _ _ (@pe_menu _ _ _ _ _ _ _ (@pa_cons _ _ _ _ _ (@pe_tup _ _ _ _ _ (@pa_cons _ _ _ _ _ (@pe_str _ _ _ _) (@pa_cons _ _ _ _ _ (@pe_var _ 4 _ _ rfl v_law_bad_4 dn__law_name dc__law_name) (@pa_nil _) (star1 rfl)) (star1 rfl))) (@pa_cons _ _ _ _ _ (@pe_tup _ _ _ _ _ (@pa_cons _ _ _ _ _ (@pe_str _ _ _ _) (@pa_cons _ _ _ _ _ (@pe_var _ 5 _ _ rfl v_law_bad_5 dn__law_wrong dc__law_wrong) (@pa_nil _) (star1 rfl)) (star1 rfl))) (@pa_cons _ _ _ _ _ (@pe_tup _ _ _ _ _ (@pa_cons _ _ _ _ _ (@pe_str _ _ _ _) (@pa_cons _ _ _ _ _ (@pe_var _ 5 _ _ rfl v_law_bad_5 dn__law_wrong dc__law_wrong) (@pa_nil _) (star1 rfl)) (star1 rfl))) (@pa_cons _ _ _ _ _ (@pe_tup _ _ _ _ _ (@pa_cons _ _ _ _ _ (@pe_str _ _ _ _) (@pa_cons _ _ _ _ _ (@pe_var _ 5 _ _ rfl v_law_bad_5 dn__law_wrong dc__law_wrong) (@pa_nil _) (star1 rfl)) (star1 rfl))) (@pa_cons _ _ _ _ _ (@pe_tup _ _ _ _ _ (@pa_cons _ _ _ _ _ (@pe_str _ _ _ _) (@pa_cons _ _ _ _ _ (@pe_var _ 4 _ _ rfl v_law_bad_4 dn__law_name dc__law_name) (@pa_cons _ _ _ _ _ (@pe_var _ 4 _ _ rfl v_law_bad_4 dn__law_name dc__law_name) (@pa_nil _) (star1 rfl)) (star1 rfl)) (star1 rfl))) (@pa_nil _) (star1 rfl)) (star1 rfl)) (star1 rfl)) (star1 rfl)) (star1 rfl)) (@pe_op _ _ _ _ _ _ _ _ (@op_sub _) (@pe_var _ 3 _ _ rfl v_law_bad_3 dn__law_way dc__law_way) (@pe_int _ _ _ _)) (fun _ _ => rfl)))) (@pss_nil _)) (@pss_cons _ _ _ _ _ (@ps_if _ _ _ _ _ _ _ _ (@pt_cmpR _ _ _ _ _ _ _ _ (@op_eq _) (@pe_var _ 3 _ _ rfl v_law_bad_3 dn__law_way dc__law_way) (@pe_int _ _ _ _) (nomark _)) (@pss_one _ _ _ (@ps_ret _ _ _ _ (@pe_tup _ _ _ _ _ (@pa_cons _ _ _ _ _ (@pe_str _ _ _ _) (@pa_cons _ _ _ _ _ (@pe_tup _ _ _ _ _ (@pa_cons _ _ _ _ _ (@pe_str _ _ _ _) (@pa_nil _) (star1 rfl))) (@pa_nil _) (star1 rfl)) (star1 rfl))))) (@pss_nil _)) (@pss_cons _ _ _ _ _ (@ps_set _ _ 6 _ _ _ _ sc_law_bad.nd rfl l_law_bad_6 (@pe_ix _ _ _ _ _ _ _ (@ix_list _) (@pe_var _ 1 _ _ rfl v_law_bad_1 dn__law_kinds_here dc__law_kinds_here) (@pe_int _ _ _ _) (fun _ _ => rfl)) (swap1 rfl) (.inl rfl)) (@pss_cons _ _ _ _ _ (@ps_if _ _ _ _ _ _ _ _ (@pt_cmpR _ _ _ _ _ _ _ _ (@op_lt _) (@pe_var _ 3 _ _ rfl v_law_bad_3 dn__law_way dc__law_way) (@pe_int _ _ _ _) (nomark _)) (@pss_one _ _ _ (@ps_ret _ _ _ _ (@pe_menu _ _ _ _ _ _ _ (@pa_cons _ _ _ _ _ (@pe_tup _ _ _ _ _ (@pa_cons _ _ _ _ _ (@pe_str _ _ _ _) (@pa_cons _ _ _ _ _ (@pe_var _ 6 _ _ rfl v_law_bad_6 dn__law_kind dc__law_kind) (@pa_cons _ _ _ _ _ (@pe_var _ 4 _ _ rfl v_law_bad_4 dn__law_name dc__law_name) (@pa_nil _) (star1 rfl)) (star1 rfl)) (star1 rfl))) (@pa_cons _ _ _ _ _ (@pe_tup _ _ _ _ _ (@pa_cons _ _ _ _ _ (@pe_str _ _ _ _) (@pa_cons _ _ _ _ _ (@pe_var _ 6 _ _ rfl v_law_bad_6 dn__law_kind dc__law_kind) (@pa_nil _) (star1 rfl)) (star1 rfl))) (@pa_nil _) (star1 rfl)) (star1 rfl)) (@pe_op _ _ _ _ _ _ _ _ (@op_sub _) (@pe_var _ 3 _ _ rfl v_law_bad_3 dn__law_way dc__law_way) (@pe_int _ _ _ _)) (fun _ _ => rfl)))) (@pss_nil _)) (@pss_cons _ _ _ _ _ (@ps_if _ _ _ _ _ _ _ _ (@pt_cmpR _ _ _ _ _ _ _ _ (@op_lt _) (@pe_var _ 3 _ _ rfl v_law_bad_3 dn__law_way dc__law_way) (@pe_int _ _ _ _) (nomark _)) (@pss_one _ _ _ (@ps_ret _ _ _ _ (@pe_menu _ _ _ _ _ _ _ (@pa_cons _ _ _ _ _ (@pe_tup _ _ _ _ _ (@pa_cons _ _ _ _ _ (@pe_str _ _ _ _) (@pa_cons _ _ _ _ _ (@pe_tup _ _ _ _ _ (@pa_cons _ _ _ _ _ (@pe_var _ 4 _ _ rfl v_law_bad_4 dn__law_name dc__law_name) (@pa_cons _ _ _ _ _ (@pe_var _ 5 _ _ rfl v_law_bad_5 dn__law_wrong dc__law_wrong) (@pa_nil _) (star1 rfl)) (star1 rfl))) (@pa_cons _ _ _ _ _ (@pe_var _ 6 _ _ rfl v_law_bad_6 dn__law_kind dc__law_kind) (@pa_nil _) (star1 rfl)) (star1 rfl)) (star1 rfl))) (@pa_cons _ _ _ _ _ (@pe_tup _ _ _ _ _ (@pa_cons _ _ _ _ _ (@pe_str _ _ _ _) (@pa_cons _ _ _ _ _ (@pe_var _ 6 _ _ rfl v_law_bad_6 dn__law_kind dc__law_kind) (@pa_cons _ _ _ _ _ (@pe_op _ _ _ _ _ _ _ _ op_catTQ (@pe_var _ 6 _ _ rfl v_law_bad_6 dn__law_kind dc__law_kind) (@pe_tup _ _ _ _ _ (@pa_cons _ _ _ _ _ (@pe_var _ 4 _ _ rfl v_law_bad_4 dn__law_name dc__law_name) (@pa_nil _) (star1 rfl)))) (@pa_nil _) (star1 rfl)) (star1 rfl)) (star1 rfl))) (@pa_nil _) (star1 rfl)) (star1 rfl)) (@pe_op _ _ _ _ _ _ _ _ (@op_sub _) (@pe_var _ 3 _ _ rfl v_law_bad_3 dn__law_way dc__law_way) (@pe_int _ _ _ _)) (fun _ _ => rfl)))) (@pss_nil _)) (@pss_cons _ _ _ _ _ (@ps_if _ _ _ _ _ _ _ _ (@pt_cmpR _ _ _ _ _ _ _ _ (@op_lt _) (@pe_var _ 3 _ _ rfl v_law_bad_3 dn__law_way dc__law_way) (@pe_int _ _ _ _) (nomark _)) (@pss_one _ _ _ (@ps_ret _ _ _ _ (@pe_menu _ _ _ _ _ _ _ (@pa_cons _ _ _ _ _ (@pe_tup _ _ _ _ _ (@pa_cons _ _ _ _ _ (@pe_str _ _ _ _) (@pa_cons _ _ _ _ _ (@pe_callTy _ _ _ _ _ _ _ _ _ call_list_of g_law_bad_list M.m_list b_list (@pa_cons _ _ _ _ _ (@pe_var _ 6 _ _ rfl v_law_bad_6 dn__law_kind dc__law_kind) (@pa_nil _) (star1 rfl)) nn_list dn_list (star1 rfl) nost0) (@pa_cons _ _ _ _ _ (@pe_var _ 6 _ _ rfl v_law_bad_6 dn__law_kind dc__law_kind) (@pa_nil _) (star1 rfl)) (star1 rfl)) (star1 rfl))) (@pa_cons _ _ _ _ _ (@pe_tup _ _ _ _ _ (@pa_cons _ _ _ _ _ (@pe_str _ _ _ _) (@pa_cons _ _ _ _ _ (@pe_var _ 6 _ _ rfl v_law_bad_6 dn__law_kind dc__law_kind) (@pa_cons _ _ _ _ _ (@pe_callTy _ _ _ _ _ _ _ _ _ call_list_of g_law_bad_list M.m_list b_list (@pa_cons _ _ _ _ _ (@pe_var _ 6 _ _ rfl v_law_bad_6 dn__law_kind dc__law_kind) (@pa_nil _) (star1 rfl)) nn_list dn_list (star1 rfl) nost0) (@pa_nil _) (star1 rfl)) (star1 rfl)) (star1 rfl))) (@pa_nil _) (star1 rfl)) (star1 rfl)) (@pe_op _ _ _ _ _ _ _ _ (@op_sub _) (@pe_var _ 3 _ _ rfl v_law_bad_3 dn__law_way dc__law_way) (@pe_int _ _ _ _)) (fun _ _ => rfl)))) (@pss_nil _)) (@pss_one _ _ _ (@ps_ret _ _ _ _ (@pe_menu _ _ _ _ _ _ _ (@pa_cons _ _ _ _ _ (@pe_tup _ _ _ _ _ (@pa_cons _ _ _ _ _ (@pe_lst _ _ _ _ (@pa_cons _ _ _ _ _ (@pe_str _ _ _ _) (@pa_nil _) (star1 rfl))) (@pa_nil _) (star1 rfl))) (@pa_cons _ _ _ _ _ (@pe_tup _ _ _ _ _ (@pa_cons _ _ _ _ _ (@pe_non _ _ _) (@pa_cons _ _ _ _ _ (@pe_var _ 4 _ _ rfl v_law_bad_4 dn__law_name dc__law_name) (@pa_nil _) (star1 rfl)) (star1 rfl))) (@pa_cons _ _ _ _ _ (@pe_tup _ _ _ _ _ (@pa_cons _ _ _ _ _ (@pe_dnewX _ _) (@pa_cons _ _ _ _ _ (@pe_var _ 4 _ _ rfl v_law_bad_4 dn__law_name dc__law_name) (@pa_nil _) (star1 rfl)) (star1 rfl))) (@pa_nil _) (star1 rfl)) (star1 rfl)) (star1 rfl)) (@pe_op _ _ _ _ _ _ _ _ (@op_sub _) (@pe_var _ 3 _ _ rfl v_law_bad_3 dn__law_way dc__law_way) (@pe_int _ _ _ _)) (fun _ _ => rfl)))))))))))))), ?_⟩
  simp only [tTurn, rTurnT, tTryS, rCountT, rPop, rRep, tCont, iZipT, tChain3, tFld, sFld, tMake, tMake0, tMethD, tBM0, rUpper, tDict1T, tTryN, rSlS, rMulS, rCatS, iZipL, rInsert, rReverse, tDNewX, tTry, tRaise, iEnumL, iEnumT, iZip, iSeq, iOr, rIx, iStr, rLeS, rJoin, rSlTA, tComp_eq, tComp1, slots, Option.getD_some, Option.getD_none, tYes, tSeq, tAsg, gName, tOp, tUn, tC, tVar, tCB, tCons, tNil, tCall, rI, rI0, rU, tRet, tRetN, tIfS, tTest, tB, tAnd, tOr, tNot, tAndV, tOrV, tNotV, tIf, tChain, tMenu, tPar, tDrop, tTup, tLst, tNext, tSl, tPart, tNoPart, tNever, gTup, gCons, gNil, gSub, rSetL, tBM, rAppend, rEq, rNe, rIsi, rIxL, rIxT, rIxS, rSlL, isi_non_bl, isi_non_int, isi_non_str, isi_non_lst, isi_non_tup, isi_bl_bl, isi_bl_int, isi_bl_str, isi_bl_lst, isi_bl_tup, isi_int_bl, isi_int_int, isi_int_str, isi_int_lst, isi_int_tup, isi_str_bl, isi_str_int, isi_str_str, isi_str_lst, isi_str_tup, isi_lst_bl, isi_lst_int, isi_lst_str, isi_lst_lst, isi_lst_tup, isi_tup_bl, isi_tup_int, isi_tup_str, isi_tup_lst, isi_tup_tup, isi_dct_bl, isi_dct_int, isi_dct_str, isi_dct_lst, isi_dct_tup, Kd_non, Kd_bl, Kd_int, Kd_str, sc_non_non, sc_non_int, sc_int_non, sc_non_bl, sc_bl_non, sc_non_str, sc_str_non, sc_int_int, sc_bl_bl, sc_str_str, sc_int_str, sc_str_int, sc_bl_str, sc_str_bl, decide_true, decide_false, tFor_eq, iList, iTup, iRng1, iRng2, iRng3, rIndexT, tBM0, tBMT, tyK_int, tyK_bool, tyK_str, tyK_list, tyK_tuple, L2.start, cxK, Int.reduceToNat, List.map_cons, List.map_nil, List.length_cons, List.length_nil, Nat.reduceAdd, Nat.reduceSub, Nat.zero_add, List.replicate_succ, List.replicate_zero, List.cons_append, List.nil_append, List.append_nil, List.getElem?_cons_zero, List.getElem?_cons_succ, List.set_cons_zero, List.set_cons_succ, Option.some.injEq, V.int.injEq, V.bl.injEq, V.ref.injEq, V.str.injEq, V.ty.injEq, List.cons.injEq, exists_eq_left', exists_eq_left, exists_eq_right, exists_and_left, exists_and_right, and_true, true_and, and_assoc, exists_const, decide_eq_true_eq, Bool.not_eq_true', Bool.not_true, Bool.not_false, Bool.not_not, decide_eq_false_iff_not, ite_not, Bool.false_eq_true, if_true, if_false, reduceCtorEq, and_false, false_and, exists_false, or_false, false_or, ↓reduceIte, eq_self, reduceIte]
  have i21 := mix3_in c 11 (show (0 : Int) < 21 by decide)
  have i7 := mix3_in c 12 (show (0 : Int) < 7 by decide)
  refine ⟨_, _, _, rfl, by decide, by decide, by decide, _, _, _, rfl, by decide, by decide, by decide, ?_⟩
  obtain ⟨wy, hwy⟩ : ∃ wy : Int, mix3 c 11 21 = wy := ⟨_, rfl⟩
  rw [hwy] at i21 ⊢
  obtain ⟨j, hj⟩ : ∃ j : Nat, mix3 c 12 7 = j := ⟨(mix3 c 12 7).toNat, by omega⟩
  rw [hj] at i7 ⊢
  obtain ⟨nm, hnm, nn⟩ : ∃ u : List Nat, (ws.map fun w => V.str (txt w))[j]? = some (V.str (txt u)) ∧ nameB u = true := ⟨ws[j]'(by omega), by rw [List.getElem?_map, List.getElem?_eq_getElem (by omega)]; rfl, nw _ (List.getElem_mem _)⟩
  refine ⟨_, _, rfl, SqL.of LW, _, atI_nat hnm, ?_⟩
  refine ⟨cdiv (by decide) (by decide), _, nm, rfl, nn, fun wr H0 S0 Nw => ?_⟩
  have LK0 := S0 _ _ LK
  have KA0 := KA.same S0
  refine ⟨_, rfl, ?_⟩
  by_cases h6 : wy < 6
  · rw [if_pos h6]
    refine ⟨by decide, fun x0 hx0 => ?_⟩
    obtain ⟨J0, g, U0, X0⟩ := fresh_lst (K := K) hx0 [V.str (Str.ofString "any")]
    rw [← g]
    clear g
    refine ⟨by decide, fun x1 hx1 => ?_⟩
    obtain ⟨J1, g, U1, X1⟩ := fresh_tup (K := K) hx1 []
    rw [← g]
    clear g
    refine ⟨by decide, fun x2 hx2 => ?_⟩
    obtain ⟨J2, g, U2, X2⟩ := fresh_tup (K := K) hx2 [V.str (Str.ofString "any")]
    rw [← g]
    clear g
    refine ⟨by decide, fun x3 hx3 => ?_⟩
    obtain ⟨J3, g, U3, X3⟩ := fresh_tup (K := K) hx3 [V.str (Str.ofString "any")]
    rw [← g]
    clear g
    refine ⟨by decide, fun x4 hx4 => ?_⟩
    obtain ⟨J4, g, U4, X4⟩ := fresh_tup (K := K) hx4 [V.str (Str.ofString "neither"), V.ref x2, V.ref x3]
    rw [← g]
    clear g
    refine ⟨by decide, fun x5 hx5 => ?_⟩
    obtain ⟨J5, g, U5, X5⟩ := fresh_tup (K := K) hx5 [V.str (Str.ofString "made")]
    rw [← g]
    clear g
    obtain ⟨i, hi, li⟩ : ∃ i : Nat, wy = (i : Int) ∧ i < 6 := ⟨wy.toNat, by omega, by omega⟩
    have all : ∀ v ∈ [V.ref x0, V.non, V.ref x1, V.str (Str.ofString "any"), V.ref x4, V.ref x5], ∀ d, NBad K J5 (d + 1) v := by
      simp only [List.forall_mem_cons]
      exact ⟨fun d => .no (Kd.lst ((U1.trans (U2.trans (U3.trans (U4.trans U5)))).seq X0)) (by decide), fun d => .no (k := .non) rfl (by decide), fun d => .nil (Same.tup (U2.trans (U3.trans (U4.trans U5))) X1), fun d => .no (k := .str) rfl (by decide),
        fun d => .one (Same.tup U5 X4) (.inr (.inr (.inr rfl))) (.w2 (by decide)), fun d => .one (rest := []) X5 (.inl (by decide)) (.w0 (by decide)), fun _ h => by cases h⟩
    obtain ⟨v, hv⟩ : ∃ v, ([V.ref x0, V.non, V.ref x1, V.str (Str.ofString "any"), V.ref x4, V.ref x5] : List V)[i]? = some v := ⟨_, List.getElem?_eq_getElem (by show i < 6; omega)⟩
    exact ⟨by decide, _, rfl, by omega, _, (by rw [hi, Int.toNat_natCast]; exact hv), q _ _ (S0.trans (U0.trans (U1.trans (U2.trans (U3.trans (U4.trans U5)))))) (all v (List.mem_of_getElem? hv))⟩
  rw [if_neg h6]
  refine ⟨_, rfl, ?_⟩
  by_cases h11 : wy < 11
  · rw [if_pos h11]
    refine ⟨by decide, fun x0 hx0 => ?_⟩
    obtain ⟨J0, g, U0, X0⟩ := fresh_tup (K := K) hx0 [V.str (Str.ofString "any"), V.str (txt nm)]
    rw [← g]
    clear g
    refine ⟨by decide, fun x1 hx1 => ?_⟩
    obtain ⟨J1, g, U1, X1⟩ := fresh_tup (K := K) hx1 [V.str (Str.ofString "made"), wr]
    rw [← g]
    clear g
    refine ⟨by decide, fun x2 hx2 => ?_⟩
    obtain ⟨J2, g, U2, X2⟩ := fresh_tup (K := K) hx2 [V.str (Str.ofString "used"), wr]
    rw [← g]
    clear g
    refine ⟨by decide, fun x3 hx3 => ?_⟩
    obtain ⟨J3, g, U3, X3⟩ := fresh_tup (K := K) hx3 [V.str (Str.ofString "chief"), wr]
    rw [← g]
    clear g
    refine ⟨by decide, fun x4 hx4 => ?_⟩
    obtain ⟨J4, g, U4, X4⟩ := fresh_tup (K := K) hx4 [V.str (Str.ofString "made"), V.str (txt nm), V.str (txt nm)]
    rw [← g]
    clear g
    obtain ⟨i, hi, li⟩ : ∃ i : Nat, wy - 6 = (i : Int) ∧ i < 5 := ⟨(wy - 6).toNat, by omega, by omega⟩
    have U04 := U0.trans (U1.trans (U2.trans (U3.trans U4)))
    have wb := Nw.same U04
    have all : ∀ v ∈ [V.ref x0, V.ref x1, V.ref x2, V.ref x3, V.ref x4], ∀ d, NBad K J4 (d + 1) v := by
      simp only [List.forall_mem_cons]
      exact ⟨fun d => .one (Same.tup (U1.trans (U2.trans (U3.trans U4))) X0) (.inl (by simp)) (.m1 (by decide) (by decide) (by decide) nn), fun d => .one (Same.tup (U2.trans (U3.trans U4)) X1) (.inl (by simp)) (.n1 wb), fun d => .one (Same.tup (U3.trans U4) X2) (.inl (by simp)) (.n1 wb),
        fun d => .one (Same.tup U4 X3) (.inl (by simp)) (.n1 wb), fun d => .one X4 (.inr (.inr (.inl rfl))) (.w2 (by decide)), fun _ h => by cases h⟩
    obtain ⟨v, hv⟩ : ∃ v, ([V.ref x0, V.ref x1, V.ref x2, V.ref x3, V.ref x4] : List V)[i]? = some v := ⟨_, List.getElem?_eq_getElem (by show i < 5; omega)⟩
    exact ⟨by decide, _, rfl, by omega, _, (by rw [hi, Int.toNat_natCast]; exact hv), q _ _ (S0.trans U04) (all v (List.mem_of_getElem? hv))⟩
  rw [if_neg h11]
  refine ⟨rfl, ?_⟩
  by_cases e11 : V.int wy = V.int 11
  · rw [if_pos e11]
    refine ⟨by decide, fun x0 hx0 => ?_⟩
    obtain ⟨J0, g, U0, X0⟩ := fresh_tup (K := K) hx0 [V.str (Str.ofString "any")]
    rw [← g]
    clear g
    refine ⟨by decide, fun x1 hx1 => ?_⟩
    obtain ⟨J1, g, U1, X1⟩ := fresh_tup (K := K) hx1 [V.str (Str.ofString "both"), V.ref x0]
    rw [← g]
    clear g
    exact q _ _ (S0.trans (U0.trans U1)) fun d => .one X1 (.inl (by simp)) (.n1 (.no (Kd.tup (Same.tup U1 X0)) (by decide)))
  rw [if_neg e11]
  have n11 : wy ≠ 11 := fun h => e11 (by rw [h])
  obtain ⟨xk, hxk⟩ : ∃ x, kx[0]? = some x := ⟨_, List.getElem?_eq_getElem (by omega)⟩
  obtain ⟨kp, k0, rfl, hk0, TK⟩ := KA0.at hxk
  have okk0 := okk k0 (List.mem_of_getElem? hk0)
  have kgood : ∀ H', Same H0 H' → KindV K H' (.ref kp) true := fun H' U => kindV_of (KindV.two (Same.tup U TK) (name_v okk0.1) (name_v okk0.2)) rfl
  refine ⟨_, SqL.of LK0, _, (show atI kx ((0 : Nat) : Int) = some _ from atI_nat hxk), _, rfl, ?_⟩
  by_cases h14 : wy < 14
  · rw [if_pos h14]
    refine ⟨by decide, fun x0 hx0 => ?_⟩
    obtain ⟨J0, g, U0, X0⟩ := fresh_tup (K := K) hx0 [V.str (Str.ofString "over"), V.ref kp, V.str (txt nm)]
    rw [← g]
    clear g
    refine ⟨by decide, fun x1 hx1 => ?_⟩
    obtain ⟨J1, g, U1, X1⟩ := fresh_tup (K := K) hx1 [V.str (Str.ofString "over"), V.ref kp]
    rw [← g]
    clear g
    obtain ⟨i, hi, li⟩ : ∃ i : Nat, wy - 12 = (i : Int) ∧ i < 2 := ⟨(wy - 12).toNat, by omega, by omega⟩
    have all : ∀ v ∈ [V.ref x0, V.ref x1], ∀ d, NBad K J1 (d + 1) v := by
      simp only [List.forall_mem_cons]
      exact ⟨fun d => .one (Same.tup U1 X0) (.inr (.inl rfl)) (.k2 ((kgood _ (U0.trans U1))) (.no (k := .str) rfl (by decide))), fun d => .one X1 (.inl (by simp)) (.n1 (.no (Kd.tup (Same.tup (U0.trans U1) TK)) (by decide))), fun _ h => by cases h⟩
    obtain ⟨v, hv⟩ : ∃ v, ([V.ref x0, V.ref x1] : List V)[i]? = some v := ⟨_, List.getElem?_eq_getElem (by show i < 2; omega)⟩
    exact ⟨by decide, _, rfl, by omega, _, (by rw [hi, Int.toNat_natCast]; exact hv), q _ _ (S0.trans (U0.trans U1)) (all v (List.mem_of_getElem? hv))⟩
  rw [if_neg h14]
  refine ⟨_, rfl, ?_⟩
  by_cases h16 : wy < 16
  · rw [if_pos h16]
    refine ⟨by decide, fun x0 hx0 => ?_⟩
    obtain ⟨J0, g, U0, X0⟩ := fresh_tup (K := K) hx0 [V.str (txt nm), wr]
    rw [← g]
    clear g
    refine ⟨by decide, fun x1 hx1 => ?_⟩
    obtain ⟨J1, g, U1, X1⟩ := fresh_tup (K := K) hx1 [V.str (Str.ofString "over"), V.ref x0, V.ref kp]
    rw [← g]
    clear g
    refine ⟨by decide, fun x2 hx2 => ?_⟩
    obtain ⟨J2, g, U2, X2⟩ := fresh_tup (K := K) hx2 [V.str (txt nm)]
    rw [← g]
    clear g
    refine ⟨kp, x2, _, _, rfl, rfl, Same.tup (U0.trans (U1.trans U2)) TK, X2, (show 3 ≤ sizeLine by decide), fun x3 J3 U3 X3 => ?_⟩
    refine ⟨by decide, fun x4 hx4 => ?_⟩
    obtain ⟨J4, g, U4, X4⟩ := fresh_tup (K := K) hx4 [V.str (Str.ofString "over"), V.ref kp, V.ref x3]
    rw [← g]
    clear g
    have U04 := U0.trans (U1.trans (U2.trans (U3.trans U4)))
    obtain ⟨i, hi, li⟩ : ∃ i : Nat, wy - 14 = (i : Int) ∧ i < 2 := ⟨(wy - 14).toNat, by omega, by omega⟩
    have all : ∀ v ∈ [V.ref x1, V.ref x4], ∀ d, NBad K J4 (d + 1) v := by
      simp only [List.forall_mem_cons]
      exact ⟨fun d => .one (Same.tup (U2.trans (U3.trans U4)) X1) (.inr (.inl rfl)) (.k1 (kindV_of (KindV.two (Same.tup (U1.trans (U2.trans (U3.trans U4))) X0) (name_v nn) (Nw.same U04)) rfl)), fun d => .one X4 (.inr (.inl rfl)) (.k2 (kgood _ U04) (.len (Same.tup U4 X3) (by simp [kRow]))), fun _ h => by cases h⟩
    obtain ⟨v, hv⟩ : ∃ v, ([V.ref x1, V.ref x4] : List V)[i]? = some v := ⟨_, List.getElem?_eq_getElem (by show i < 2; omega)⟩
    exact ⟨by decide, _, rfl, by omega, _, (by rw [hi, Int.toNat_natCast]; exact hv), q _ _ (S0.trans U04) (all v (List.mem_of_getElem? hv))⟩
  rw [if_neg h16]
  refine ⟨_, rfl, ?_⟩
  by_cases h18 : wy < 18
  · rw [if_pos h18]
    refine ⟨_, rfl, _, .inr TK, fun l0 hl0 => ?_⟩
    obtain ⟨J0, g, U0, X0⟩ := fresh_lst (K := K) hl0 (kRow k0)
    rw [← g]
    clear g
    refine ⟨by decide, fun x1 hx1 => ?_⟩
    obtain ⟨J1, g, U1, X1⟩ := fresh_tup (K := K) hx1 [V.str (Str.ofString "over"), V.ref l0, V.ref kp]
    rw [← g]
    clear g
    refine ⟨_, rfl, _, .inr (Same.tup (U0.trans U1) TK), fun l2 hl2 => ?_⟩
    obtain ⟨J2, g, U2, X2⟩ := fresh_lst (K := K) hl2 (kRow k0)
    rw [← g]
    clear g
    refine ⟨by decide, fun x3 hx3 => ?_⟩
    obtain ⟨J3, g, U3, X3⟩ := fresh_tup (K := K) hx3 [V.str (Str.ofString "over"), V.ref kp, V.ref l2]
    rw [← g]
    clear g
    have U03 := U0.trans (U1.trans (U2.trans U3))
    obtain ⟨i, hi, li⟩ : ∃ i : Nat, wy - 16 = (i : Int) ∧ i < 2 := ⟨(wy - 16).toNat, by omega, by omega⟩
    have all : ∀ v ∈ [V.ref x1, V.ref x3], ∀ d, NBad K J3 (d + 1) v := by
      simp only [List.forall_mem_cons]
      exact ⟨fun d => .one (Same.tup (U2.trans U3) X1) (.inr (.inl rfl)) (.k1 (.no (Kd.lst ((U1.trans (U2.trans U3)).seq X0)) (by decide))), fun d => .one X3 (.inr (.inl rfl)) (.k2 (kgood _ U03) (.no (Kd.lst (U3.seq X2)) (by decide))), fun _ h => by cases h⟩
    obtain ⟨v, hv⟩ : ∃ v, ([V.ref x1, V.ref x3] : List V)[i]? = some v := ⟨_, List.getElem?_eq_getElem (by show i < 2; omega)⟩
    exact ⟨by decide, _, rfl, by omega, _, (by rw [hi, Int.toNat_natCast]; exact hv), q _ _ (S0.trans U03) (all v (List.mem_of_getElem? hv))⟩
  rw [if_neg h18]
  refine ⟨by decide, fun x0 hx0 => ?_⟩
  obtain ⟨J0, g, U0, X0⟩ := fresh_lst (K := K) hx0 [V.str (Str.ofString "any")]
  rw [← g]
  clear g
  refine ⟨by decide, fun x1 hx1 => ?_⟩
  obtain ⟨J1, g, U1, X1⟩ := fresh_tup (K := K) hx1 [V.ref x0]
  rw [← g]
  clear g
  refine ⟨by decide, fun x2 hx2 => ?_⟩
  obtain ⟨J2, g, U2, X2⟩ := fresh_tup (K := K) hx2 [V.non, V.str (txt nm)]
  rw [← g]
  clear g
  intro x3 hx3
  obtain ⟨J3, g, U3, X3⟩ := fresh_dct (K := K) hx3
  rw [← g]
  clear g
  refine ⟨by decide, fun x4 hx4 => ?_⟩
  obtain ⟨J4, g, U4, X4⟩ := fresh_tup (K := K) hx4 [V.ref x3, V.str (txt nm)]
  rw [← g]
  clear g
  have U04 := U0.trans (U1.trans (U2.trans (U3.trans U4)))
  obtain ⟨i, hi, li⟩ : ∃ i : Nat, wy - 18 = (i : Int) ∧ i < 3 := ⟨(wy - 18).toNat, by omega, by omega⟩
  have all : ∀ v ∈ [V.ref x1, V.ref x2, V.ref x4], ∀ d, NBad K J4 (d + 1) v := by
    simp only [List.forall_mem_cons]
    exact ⟨fun d => .head (Same.tup (U2.trans (U3.trans U4)) X1) (Kd.lst ((U1.trans (U2.trans (U3.trans U4))).seq X0)) (by decide), fun d => .head (Same.tup (U3.trans U4) X2) (k := .non) rfl (by decide), fun d => .head X4 (kd_same U4 X3) (by decide), fun _ h => by cases h⟩
  obtain ⟨v, hv⟩ : ∃ v, ([V.ref x1, V.ref x2, V.ref x4] : List V)[i]? = some v := ⟨_, List.getElem?_eq_getElem (by show i < 3; omega)⟩
  exact ⟨by decide, _, rfl, by omega, _, (by rw [hi, Int.toNat_natCast]; exact hv), q _ _ (S0.trans U04) (all v (List.mem_of_getElem? hv))⟩
end

section
variable {P : Program} {w : World} {K : PySem.W.Frag} {mg : Str → Option Value} {base : Heap} {f : Addr} {fd : FuncData} {cs : NC} {cN : Addr}
theorem step_spoilt {d : Nat} (F : Fun K "_law_spoilt" "_law_spoilt" s_law_spoilt f fd) (M : Mg mg) (C_law_spoilt : Cal P w K mg base CX0 "_law_spoilt" (1 + d) ["_law_told", "_law_number", "_law_bad_here"] (spSpoilt K d)) : FnOk P w K mg base CX0 (1 + d + 1) f fd ["_law_told", "_law_number", "_law_bad_here"] (spSpoilt K (d + 1)) := by
  refine F.ok sc_law_spoilt (fun vs H Q E h => ?_) (fun cdv A outer s H vs Q E hr h => ?_)
  · obtain ⟨p, c, b, n, rfl, _⟩ := h
    rfl
  obtain ⟨p, c, b, n, rfl, R, ok, dp, B, q⟩ := h
  have bad : Q b H := q _ _ (Same.refl _) fun e he h5 => B e (by omega) h5
  refine ⟨_, (@pss_cons _ _ _ _ _ (@ps_if _ _ _ _ _ _ _ _ (@PW.pt _ _ _ (@pw_or _ _ _ _ _ _ _ (@pt_cmpR _ _ _ _ _ _ _ _ (@op_lt _) (@pe_callB _ _ _ _ _ _ _ _ _ call_len_seq g_law_spoilt_len M.m_len b_len (@pa_cons _ _ _ _ _ (@pe_var _ 0 _ _ rfl v_law_spoilt_0 dn__law_told dc__law_told) (@pa_nil _) (star1 rfl)) nn_len dn_len (star1 rfl) nost0) (@pe_int _ _ _ _) (nomark _)) (@pw_or _ _ _ _ _ _ _ (@pt_cmpR _ _ _ _ _ _ _ _ (@op_eq _) (@pe_ix _ _ _ _ _ _ _ (@ix_tup _) (@pe_var _ 0 _ _ rfl v_law_spoilt_0 dn__law_told dc__law_told) (@pe_int _ _ _ _) (fun _ _ => rfl)) (@pe_str _ _ _ _) (nomark _)) (@pw_or1 _ _ _ _ (@pt_cmpR _ _ _ _ _ _ _ _ (@op_eq _) (@pe_op _ _ _ _ _ _ _ _ (@op_mod _) (@pe_var _ 1 _ _ rfl v_law_spoilt_1 dn__law_number dc__law_number) (@pe_int _ _ _ _)) (@pe_int _ _ _ _) (nomark _)))))) (@pss_one _ _ _ (@ps_ret _ _ _ _ (@pe_var _ 2 _ _ rfl v_law_spoilt_2 dn__law_bad_here dc__law_bad_here))) (@pss_nil _)) (@pss_cons _ _ _ _ _ (@ps_if _ _ _ _ _ _ _ _ (@pt_cmpR _ _ _ _ _ _ _ _ (@op_eq _) (@pe_op _ _ _ _ _ _ _ _ (@op_mod _) (@pe_var _ 1 _ _ rfl v_law_spoilt_1 dn__law_number dc__law_number) (@pe_int _ _ _ _)) (@pe_int _ _ _ _) (nomark _)) (@pss_one _ _ _ (@ps_ret _ _ _ _ (@pe_tup _ _ _ _ _ (@pa_cons _ _ _ _ _ (@pe_ix _ _ _ _ _ _ _ (@ix_tup _) (@pe_var _ 0 _ _ rfl v_law_spoilt_0 dn__law_told dc__law_told) (@pe_int _ _ _ _) (fun _ _ => rfl)) (@pa_cons _ _ _ _ _ (@pe_callC _ _ _ _ _ _ _ _ _ _ _ C_law_spoilt hr g_law_spoilt__law_spoilt (@pa_cons _ _ _ _ _ (@pe_ix _ _ _ _ _ _ _ (@ix_tup _) (@pe_var _ 0 _ _ rfl v_law_spoilt_0 dn__law_told dc__law_told) (@pe_int _ _ _ _) (fun _ _ => rfl)) (@pa_cons _ _ _ _ _ (@pe_op _ _ _ _ _ _ _ _ (@op_fdivB _) (@pe_var _ 1 _ _ rfl v_law_spoilt_1 dn__law_number dc__law_number) (@pe_int _ _ _ _)) (@pa_cons _ _ _ _ _ (@pe_var _ 2 _ _ rfl v_law_spoilt_2 dn__law_bad_here dc__law_bad_here) (@pa_nil _) (star1 rfl)) (star1 rfl)) (star1 rfl)) (by omega) dn__law_spoilt (star1 rfl) (nost1 rfl (nost1 rfl nost0))) (@pa_cons _ _ _ _ _ (@pe_ix _ _ _ _ _ _ _ (@ix_tup _) (@pe_var _ 0 _ _ rfl v_law_spoilt_0 dn__law_told dc__law_told) (@pe_int _ _ _ _) (fun _ _ => rfl)) (@pa_nil _) (star1 rfl)) (star1 rfl)) (star1 rfl))))) (@pss_nil _)) (@pss_one _ _ _ (@ps_ret _ _ _ _ (@pe_tup _ _ _ _ _ (@pa_cons _ _ _ _ _ (@pe_ix _ _ _ _ _ _ _ (@ix_tup _) (@pe_var _ 0 _ _ rfl v_law_spoilt_0 dn__law_told dc__law_told) (@pe_int _ _ _ _) (fun _ _ => rfl)) (@pa_cons _ _ _ _ _ (@pe_ix _ _ _ _ _ _ _ (@ix_tup _) (@pe_var _ 0 _ _ rfl v_law_spoilt_0 dn__law_told dc__law_told) (@pe_int _ _ _ _) (fun _ _ => rfl)) (@pa_cons _ _ _ _ _ (@pe_callC _ _ _ _ _ _ _ _ _ _ _ C_law_spoilt hr g_law_spoilt__law_spoilt (@pa_cons _ _ _ _ _ (@pe_ix _ _ _ _ _ _ _ (@ix_tup _) (@pe_var _ 0 _ _ rfl v_law_spoilt_0 dn__law_told dc__law_told) (@pe_int _ _ _ _) (fun _ _ => rfl)) (@pa_cons _ _ _ _ _ (@pe_op _ _ _ _ _ _ _ _ (@op_fdivB _) (@pe_var _ 1 _ _ rfl v_law_spoilt_1 dn__law_number dc__law_number) (@pe_int _ _ _ _)) (@pa_cons _ _ _ _ _ (@pe_var _ 2 _ _ rfl v_law_spoilt_2 dn__law_bad_here dc__law_bad_here) (@pa_nil _) (star1 rfl)) (star1 rfl)) (star1 rfl)) (by omega) dn__law_spoilt (star1 rfl) (nost1 rfl (nost1 rfl nost0))) (@pa_nil _) (star1 rfl)) (star1 rfl)) (star1 rfl))))))), ?_⟩
  simp only [tTurn, rTurnT, tTryS, rCountT, rPop, rRep, tCont, iZipT, tChain3, tFld, sFld, tMake, tMake0, tMethD, tBM0, rUpper, tDict1T, tTryN, rSlS, rMulS, rCatS, iZipL, rInsert, rReverse, tDNewX, tTry, tRaise, iEnumL, iEnumT, iZip, iSeq, iOr, rIx, iStr, rLeS, rJoin, rSlTA, tComp_eq, tComp1, slots, Option.getD_some, Option.getD_none, tYes, tSeq, tAsg, gName, tOp, tUn, tC, tVar, tCB, tCons, tNil, tCall, rI, rI0, rU, tRet, tRetN, tIfS, tTest, tB, tAnd, tOr, tNot, tAndV, tOrV, tNotV, tIf, tChain, tMenu, tPar, tDrop, tTup, tLst, tNext, tSl, tPart, tNoPart, tNever, gTup, gCons, gNil, gSub, rSetL, tBM, rAppend, rEq, rNe, rIsi, rIxL, rIxT, rIxS, rSlL, isi_non_bl, isi_non_int, isi_non_str, isi_non_lst, isi_non_tup, isi_bl_bl, isi_bl_int, isi_bl_str, isi_bl_lst, isi_bl_tup, isi_int_bl, isi_int_int, isi_int_str, isi_int_lst, isi_int_tup, isi_str_bl, isi_str_int, isi_str_str, isi_str_lst, isi_str_tup, isi_lst_bl, isi_lst_int, isi_lst_str, isi_lst_lst, isi_lst_tup, isi_tup_bl, isi_tup_int, isi_tup_str, isi_tup_lst, isi_tup_tup, isi_dct_bl, isi_dct_int, isi_dct_str, isi_dct_lst, isi_dct_tup, Kd_non, Kd_bl, Kd_int, Kd_str, sc_non_non, sc_non_int, sc_int_non, sc_non_bl, sc_bl_non, sc_non_str, sc_str_non, sc_int_int, sc_bl_bl, sc_str_str, sc_int_str, sc_str_int, sc_bl_str, sc_str_bl, decide_true, decide_false, tFor_eq, iList, iTup, iRng1, iRng2, iRng3, rIndexT, tBM0, tBMT, tyK_int, tyK_bool, tyK_str, tyK_list, tyK_tuple, L2.start, cxK, Int.reduceToNat, List.map_cons, List.map_nil, List.length_cons, List.length_nil, Nat.reduceAdd, Nat.reduceSub, Nat.zero_add, List.replicate_succ, List.replicate_zero, List.cons_append, List.nil_append, List.append_nil, List.getElem?_cons_zero, List.getElem?_cons_succ, List.set_cons_zero, List.set_cons_succ, Option.some.injEq, V.int.injEq, V.bl.injEq, V.ref.injEq, V.str.injEq, V.ty.injEq, List.cons.injEq, exists_eq_left', exists_eq_left, exists_eq_right, exists_and_left, exists_and_right, and_true, true_and, and_assoc, exists_const, decide_eq_true_eq, Bool.not_eq_true', Bool.not_true, Bool.not_false, Bool.not_not, decide_eq_false_iff_not, ite_not, Bool.false_eq_true, if_true, if_false, reduceCtorEq, and_false, false_and, exists_false, or_false, false_or, ↓reduceIte, eq_self, reduceIte]
  cases tol_row R with
  | any T =>
    refine ⟨_, .inr T, ?_⟩
    rw [if_pos (by simp)]
    exact bad
  | made T =>
    refine ⟨_, .inr T, ?_⟩
    rw [if_pos (by simp)]
    exact bad
  | used T =>
    refine ⟨_, .inr T, ?_⟩
    rw [if_pos (by simp)]
    exact bad
  | chief T =>
    refine ⟨_, .inr T, ?_⟩
    rw [if_pos (by simp)]
    exact bad
  | over T T1 T2 =>
    refine ⟨_, .inr T, ?_⟩
    rw [if_neg (by simp)]
    refine ⟨_, T, _, rfl, rfl, ?_⟩
    rw [if_pos rfl]
    exact bad
  | @both a1 a2 x y T R1 R2 =>
    have dd : max x.dp y.dp + 1 ≤ d + 1 := dp
    obtain ⟨ok1, ok2⟩ := ok
    refine ⟨_, .inr T, ?_⟩
    rw [if_neg (by simp)]
    refine ⟨_, T, _, rfl, rfl, ?_⟩
    rw [if_neg (by decide)]
    refine ⟨by decide, ?_⟩
    by_cases c0 : c % 3 = 0
    · rw [if_pos c0]
      exact bad
    rw [if_neg c0]
    refine ⟨by decide, ?_⟩
    by_cases c1 : c % 3 = 1
    · rw [if_pos c1]
      refine ⟨_, T, _, rfl, _, T, _, rfl, cdiv (by decide) (by decide), a1, _, b, x, rfl, R1, ok1, by omega, B, fun v H1 S1 B1 => ?_⟩
      refine ⟨_, Same.tup S1 T, _, rfl, by decide, fun p2 hp2 => q _ _ (S1.trans (same_new hp2 _)) fun e he h5 => ?_⟩
      obtain ⟨e', rfl⟩ : ∃ e', e = e' + 1 := ⟨e - 1, by omega⟩
      exact .fst (.inl rfl) (SqT.of upd_same) ((B1 e' (by omega) (by omega)).same (same_new hp2 _))
    · rw [if_neg c1]
      refine ⟨_, T, _, rfl, _, T, _, rfl, _, T, _, rfl, cdiv (by decide) (by decide), a2, _, b, y, rfl, R2, ok2, by omega, B, fun v H1 S1 B1 => ?_⟩
      refine ⟨by decide, fun p2 hp2 => q _ _ (S1.trans (same_new hp2 _)) fun e he h5 => ?_⟩
      obtain ⟨e', rfl⟩ : ∃ e', e = e' + 1 := ⟨e - 1, by omega⟩
      exact .snd (.inl rfl) (SqT.of upd_same) (R1.same (S1.trans (same_new hp2 _))) ok1 (by omega) ((B1 e' (by omega) (by omega)).same (same_new hp2 _))
  | @either a1 a2 x y T R1 R2 =>
    have dd : max x.dp y.dp + 1 ≤ d + 1 := dp
    obtain ⟨ok1, ok2⟩ := ok
    refine ⟨_, .inr T, ?_⟩
    rw [if_neg (by simp)]
    refine ⟨_, T, _, rfl, rfl, ?_⟩
    rw [if_neg (by decide)]
    refine ⟨by decide, ?_⟩
    by_cases c0 : c % 3 = 0
    · rw [if_pos c0]
      exact bad
    rw [if_neg c0]
    refine ⟨by decide, ?_⟩
    by_cases c1 : c % 3 = 1
    · rw [if_pos c1]
      refine ⟨_, T, _, rfl, _, T, _, rfl, cdiv (by decide) (by decide), a1, _, b, x, rfl, R1, ok1, by omega, B, fun v H1 S1 B1 => ?_⟩
      refine ⟨_, Same.tup S1 T, _, rfl, by decide, fun p2 hp2 => q _ _ (S1.trans (same_new hp2 _)) fun e he h5 => ?_⟩
      obtain ⟨e', rfl⟩ : ∃ e', e = e' + 1 := ⟨e - 1, by omega⟩
      exact .fst (.inr (.inl rfl)) (SqT.of upd_same) ((B1 e' (by omega) (by omega)).same (same_new hp2 _))
    · rw [if_neg c1]
      refine ⟨_, T, _, rfl, _, T, _, rfl, _, T, _, rfl, cdiv (by decide) (by decide), a2, _, b, y, rfl, R2, ok2, by omega, B, fun v H1 S1 B1 => ?_⟩
      refine ⟨by decide, fun p2 hp2 => q _ _ (S1.trans (same_new hp2 _)) fun e he h5 => ?_⟩
      obtain ⟨e', rfl⟩ : ∃ e', e = e' + 1 := ⟨e - 1, by omega⟩
      exact .snd (.inr (.inl rfl)) (SqT.of upd_same) (R1.same (S1.trans (same_new hp2 _))) ok1 (by omega) ((B1 e' (by omega) (by omega)).same (same_new hp2 _))
  | @but a1 a2 x y T R1 R2 =>
    have dd : max x.dp y.dp + 1 ≤ d + 1 := dp
    obtain ⟨ok1, ok2⟩ := ok
    refine ⟨_, .inr T, ?_⟩
    rw [if_neg (by simp)]
    refine ⟨_, T, _, rfl, rfl, ?_⟩
    rw [if_neg (by decide)]
    refine ⟨by decide, ?_⟩
    by_cases c0 : c % 3 = 0
    · rw [if_pos c0]
      exact bad
    rw [if_neg c0]
    refine ⟨by decide, ?_⟩
    by_cases c1 : c % 3 = 1
    · rw [if_pos c1]
      refine ⟨_, T, _, rfl, _, T, _, rfl, cdiv (by decide) (by decide), a1, _, b, x, rfl, R1, ok1, by omega, B, fun v H1 S1 B1 => ?_⟩
      refine ⟨_, Same.tup S1 T, _, rfl, by decide, fun p2 hp2 => q _ _ (S1.trans (same_new hp2 _)) fun e he h5 => ?_⟩
      obtain ⟨e', rfl⟩ : ∃ e', e = e' + 1 := ⟨e - 1, by omega⟩
      exact .fst (.inr (.inr rfl)) (SqT.of upd_same) ((B1 e' (by omega) (by omega)).same (same_new hp2 _))
    · rw [if_neg c1]
      refine ⟨_, T, _, rfl, _, T, _, rfl, _, T, _, rfl, cdiv (by decide) (by decide), a2, _, b, y, rfl, R2, ok2, by omega, B, fun v H1 S1 B1 => ?_⟩
      refine ⟨by decide, fun p2 hp2 => q _ _ (S1.trans (same_new hp2 _)) fun e he h5 => ?_⟩
      obtain ⟨e', rfl⟩ : ∃ e', e = e' + 1 := ⟨e - 1, by omega⟩
      exact .snd (.inr (.inr rfl)) (SqT.of upd_same) (R1.same (S1.trans (same_new hp2 _))) ok1 (by omega) ((B1 e' (by omega) (by omega)).same (same_new hp2 _))
theorem ok_law_spoilt (F : Fun K "_law_spoilt" "_law_spoilt" s_law_spoilt f fd) (M : Mg mg) (b : Binds K fd ["_law_told", "_law_number", "_law_bad_here"] []) (kp : PySem.W.keepIn K (.ref f) = true) (m : mg "_law_spoilt" = some (.ref f)) : ∀ d : Nat, FnOk P w K mg base CX0 (1 + d) f fd ["_law_told", "_law_number", "_law_bad_here"] (spSpoilt K d)
  | 0 => by
    refine F.ok (k := 0) sc_law_spoilt (fun vs H Q E h => ?_) (fun cdv A outer s H vs Q E hr h => ?_)
    · obtain ⟨p, c, b, n, rfl, _⟩ := h
      rfl
    obtain ⟨p, c, b, n, rfl, R, ok, dp, B, q⟩ := h
    have := Nt.dp_pos n
    omega
  | d + 1 => step_spoilt F M ⟨⟨f, fd, ok_law_spoilt F M b kp m d, b, kp, m⟩⟩
end

section
variable {P : Program} {w : World} {K : PySem.W.Frag} {mg : Str → Option Value} {base : Heap} {f : Addr} {fd : FuncData} {cs : NC} {cN : Addr}
theorem ok_law_deeper (F : Fun K "_law_deeper" "_law_deeper" s_law_deeper f fd) (M : Mg mg) (C_law_mix : Cal P w K mg base CX0 "_law_mix" 1 ["_law_number", "_law_k", "_law_many"] spMix3) : FnOk P w K mg base CX0 2 f fd ["_law_told", "_law_deep", "_law_number"] (spDeeper K) := by
  refine F.ok sc_law_deeper (fun vs H Q E h => ?_) (fun cdv A outer s H vs Q E hr h => ?_)
  · obtain ⟨p, c, m, n, rfl, _⟩ := h
    rfl
  obtain ⟨p, c, m, n, rfl, R, ok, dp, m60, q⟩ := h
  refine ⟨_, (@pss_cons _ _ _ _ _ (@ps_for _ _ _ _ _ _ _ _ PassesOwn.never rfl (@pi_range1 _ _ _ _ _ _ g_law_deeper_range M.m_range (@pa_cons _ _ _ _ _ (@pe_var _ 1 _ _ rfl v_law_deeper_1 dn__law_deep dc__law_deep) (@pa_nil _) (star1 rfl)) (star1' rfl)) (@pg_name _ _ 3 _ sc_law_deeper.nd rfl l_law_deeper_3 (.inl rfl)) (@pss_cons _ _ _ _ _ (@ps_set _ _ 4 _ _ _ _ sc_law_deeper.nd rfl l_law_deeper_4 (@pe_menu _ _ _ _ _ _ _ (@pa_cons _ _ _ _ _ (@pe_str _ _ _ _) (@pa_cons _ _ _ _ _ (@pe_str _ _ _ _) (@pa_cons _ _ _ _ _ (@pe_str _ _ _ _) (@pa_nil _) (star1 rfl)) (star1 rfl)) (star1 rfl)) (@pe_callC _ _ _ _ _ _ _ _ _ _ _ C_law_mix hr g_law_deeper__law_mix (@pa_cons _ _ _ _ _ (@pe_var _ 2 _ _ rfl v_law_deeper_2 dn__law_number dc__law_number) (@pa_cons _ _ _ _ _ (@pe_op _ _ _ _ _ _ _ _ (@op_add _) (@pe_int _ _ _ _) (@pe_var _ 3 _ _ rfl v_law_deeper_3 dn__law_k dc__law_k)) (@pa_cons _ _ _ _ _ (@pe_int _ _ _ _) (@pa_nil _) (star1 rfl)) (star1 rfl)) (star1 rfl)) (by decide) dn__law_mix (star1 rfl) (nost1 rfl (nost1 rfl nost0))) (fun _ _ => rfl)) (swap1 rfl) (.inl rfl)) (@pss_one _ _ _ (@ps_if _ _ _ _ _ _ _ _ (@pt_cmpR _ _ _ _ _ _ _ _ (@op_eq _) (@pe_callC _ _ _ _ _ _ _ _ _ _ _ C_law_mix hr g_law_deeper__law_mix (@pa_cons _ _ _ _ _ (@pe_var _ 2 _ _ rfl v_law_deeper_2 dn__law_number dc__law_number) (@pa_cons _ _ _ _ _ (@pe_op _ _ _ _ _ _ _ _ (@op_add _) (@pe_int _ _ _ _) (@pe_var _ 3 _ _ rfl v_law_deeper_3 dn__law_k dc__law_k)) (@pa_cons _ _ _ _ _ (@pe_int _ _ _ _) (@pa_nil _) (star1 rfl)) (star1 rfl)) (star1 rfl)) (by decide) dn__law_mix (star1 rfl) (nost1 rfl (nost1 rfl nost0))) (@pe_int _ _ _ _) (nomark _)) (@pss_one _ _ _ (@ps_set _ _ 0 _ _ _ _ sc_law_deeper.nd rfl l_law_deeper_0 (@pe_tup _ _ _ _ _ (@pa_cons _ _ _ _ _ (@pe_var _ 4 _ _ rfl v_law_deeper_4 dn__law_word dc__law_word) (@pa_cons _ _ _ _ _ (@pe_var _ 0 _ _ rfl v_law_deeper_0 dn__law_told dc__law_told) (@pa_cons _ _ _ _ _ (@pe_tup _ _ _ _ _ (@pa_cons _ _ _ _ _ (@pe_str _ _ _ _) (@pa_nil _) (star1 rfl))) (@pa_nil _) (star1 rfl)) (star1 rfl)) (star1 rfl))) (swap1 rfl) (.inl rfl))) (@pss_one _ _ _ (@ps_set _ _ 0 _ _ _ _ sc_law_deeper.nd rfl l_law_deeper_0 (@pe_tup _ _ _ _ _ (@pa_cons _ _ _ _ _ (@pe_var _ 4 _ _ rfl v_law_deeper_4 dn__law_word dc__law_word) (@pa_cons _ _ _ _ _ (@pe_tup _ _ _ _ _ (@pa_cons _ _ _ _ _ (@pe_str _ _ _ _) (@pa_nil _) (star1 rfl))) (@pa_cons _ _ _ _ _ (@pe_var _ 0 _ _ rfl v_law_deeper_0 dn__law_told dc__law_told) (@pa_nil _) (star1 rfl)) (star1 rfl)) (star1 rfl))) (swap1 rfl) (.inl rfl)))))) (by intro _; rfl)) (@pss_one _ _ _ (@ps_ret _ _ _ _ (@pe_var _ 0 _ _ rfl v_law_deeper_0 dn__law_told dc__law_told)))), ?_⟩
  simp only [tTurn, rTurnT, tTryS, rCountT, rPop, rRep, tCont, iZipT, tChain3, tFld, sFld, tMake, tMake0, tMethD, tBM0, rUpper, tDict1T, tTryN, rSlS, rMulS, rCatS, iZipL, rInsert, rReverse, tDNewX, tTry, tRaise, iEnumL, iEnumT, iZip, iSeq, iOr, rIx, iStr, rLeS, rJoin, rSlTA, tComp_eq, tComp1, slots, Option.getD_some, Option.getD_none, tYes, tSeq, tAsg, gName, tOp, tUn, tC, tVar, tCB, tCons, tNil, tCall, rI, rI0, rU, tRet, tRetN, tIfS, tTest, tB, tAnd, tOr, tNot, tAndV, tOrV, tNotV, tIf, tChain, tMenu, tPar, tDrop, tTup, tLst, tNext, tSl, tPart, tNoPart, tNever, gTup, gCons, gNil, gSub, rSetL, tBM, rAppend, rEq, rNe, rIsi, rIxL, rIxT, rIxS, rSlL, isi_non_bl, isi_non_int, isi_non_str, isi_non_lst, isi_non_tup, isi_bl_bl, isi_bl_int, isi_bl_str, isi_bl_lst, isi_bl_tup, isi_int_bl, isi_int_int, isi_int_str, isi_int_lst, isi_int_tup, isi_str_bl, isi_str_int, isi_str_str, isi_str_lst, isi_str_tup, isi_lst_bl, isi_lst_int, isi_lst_str, isi_lst_lst, isi_lst_tup, isi_tup_bl, isi_tup_int, isi_tup_str, isi_tup_lst, isi_tup_tup, isi_dct_bl, isi_dct_int, isi_dct_str, isi_dct_lst, isi_dct_tup, Kd_non, Kd_bl, Kd_int, Kd_str, sc_non_non, sc_non_int, sc_int_non, sc_non_bl, sc_bl_non, sc_non_str, sc_str_non, sc_int_int, sc_bl_bl, sc_str_str, sc_int_str, sc_str_int, sc_bl_str, sc_str_bl, decide_true, decide_false, tFor_eq, iList, iTup, iRng1, iRng2, iRng3, rIndexT, tBM0, tBMT, tyK_int, tyK_bool, tyK_str, tyK_list, tyK_tuple, L2.start, cxK, Int.reduceToNat, List.map_cons, List.map_nil, List.length_cons, List.length_nil, Nat.reduceAdd, Nat.reduceSub, Nat.zero_add, List.replicate_succ, List.replicate_zero, List.cons_append, List.nil_append, List.append_nil, List.getElem?_cons_zero, List.getElem?_cons_succ, List.set_cons_zero, List.set_cons_succ, Option.some.injEq, V.int.injEq, V.bl.injEq, V.ref.injEq, V.str.injEq, V.ty.injEq, List.cons.injEq, exists_eq_left', exists_eq_left, exists_eq_right, exists_and_left, exists_and_right, and_true, true_and, and_assoc, exists_const, decide_eq_true_eq, Bool.not_eq_true', Bool.not_true, Bool.not_false, Bool.not_not, decide_eq_false_iff_not, ite_not, Bool.false_eq_true, if_true, if_false, reduceCtorEq, and_false, false_and, exists_false, or_false, false_or, ↓reduceIte, eq_self, reduceIte]
  refine ⟨by omega, by omega, ?_⟩
  obtain ⟨Pv, hP⟩ : ∃ Pv : Nat → St → Hp → Prop, Pv = fun i σ H' => ∃ p' o3 o4, σ = [some (V.ref p'), some (.int (m : Int)), some (.int c), o3, o4] ∧ Same H H' ∧ ∀ d, d ≤ i → NBad K H' d (.ref p') := ⟨_, rfl⟩
  refine forW_range Pv ?_ ?_ ?_
  · rw [hP]
    exact ⟨_, _, _, rfl, Same.refl _, fun d hd => by rw [Nat.le_zero.mp hd]; exact .zero _⟩
  · intro i σ H' hi h
    rw [hP] at h
    obtain ⟨p', o3, o4, rfl, S, B⟩ := h
    have hi' : i < m := by omega
    simp only [tTurn, rTurnT, tTryS, rCountT, rPop, rRep, tCont, iZipT, tChain3, tFld, sFld, tMake, tMake0, tMethD, tBM0, rUpper, tDict1T, tTryN, rSlS, rMulS, rCatS, iZipL, rInsert, rReverse, tDNewX, tTry, tRaise, iEnumL, iEnumT, iZip, iSeq, iOr, rIx, iStr, rLeS, rJoin, rSlTA, tComp_eq, tComp1, slots, Option.getD_some, Option.getD_none, tYes, tSeq, tAsg, gName, tOp, tUn, tC, tVar, tCB, tCons, tNil, tCall, rI, rI0, rU, tRet, tRetN, tIfS, tTest, tB, tAnd, tOr, tNot, tAndV, tOrV, tNotV, tIf, tChain, tMenu, tPar, tDrop, tTup, tLst, tNext, tSl, tPart, tNoPart, tNever, gTup, gCons, gNil, gSub, rSetL, tBM, rAppend, rEq, rNe, rIsi, rIxL, rIxT, rIxS, rSlL, isi_non_bl, isi_non_int, isi_non_str, isi_non_lst, isi_non_tup, isi_bl_bl, isi_bl_int, isi_bl_str, isi_bl_lst, isi_bl_tup, isi_int_bl, isi_int_int, isi_int_str, isi_int_lst, isi_int_tup, isi_str_bl, isi_str_int, isi_str_str, isi_str_lst, isi_str_tup, isi_lst_bl, isi_lst_int, isi_lst_str, isi_lst_lst, isi_lst_tup, isi_tup_bl, isi_tup_int, isi_tup_str, isi_tup_lst, isi_tup_tup, isi_dct_bl, isi_dct_int, isi_dct_str, isi_dct_lst, isi_dct_tup, Kd_non, Kd_bl, Kd_int, Kd_str, sc_non_non, sc_non_int, sc_int_non, sc_non_bl, sc_bl_non, sc_non_str, sc_str_non, sc_int_int, sc_bl_bl, sc_str_str, sc_int_str, sc_str_int, sc_bl_str, sc_str_bl, decide_true, decide_false, tFor_eq, iList, iTup, iRng1, iRng2, iRng3, rIndexT, tBM0, tBMT, tyK_int, tyK_bool, tyK_str, tyK_list, tyK_tuple, L2.start, cxK, Int.reduceToNat, List.map_cons, List.map_nil, List.length_cons, List.length_nil, Nat.reduceAdd, Nat.reduceSub, Nat.zero_add, List.replicate_succ, List.replicate_zero, List.cons_append, List.nil_append, List.append_nil, List.getElem?_cons_zero, List.getElem?_cons_succ, List.set_cons_zero, List.set_cons_succ, Option.some.injEq, V.int.injEq, V.bl.injEq, V.ref.injEq, V.str.injEq, V.ty.injEq, List.cons.injEq, exists_eq_left', exists_eq_left, exists_eq_right, exists_and_left, exists_and_right, and_true, true_and, and_assoc, exists_const, decide_eq_true_eq, Bool.not_eq_true', Bool.not_true, Bool.not_false, Bool.not_not, decide_eq_false_iff_not, ite_not, Bool.false_eq_true, if_true, if_false, reduceCtorEq, and_false, false_and, exists_false, or_false, false_or, ↓reduceIte, eq_self, reduceIte]
    refine ⟨by decide, _, _, _, rfl, by omega, by omega, by decide, _, rfl, (mix3_in _ _ (by decide)).1, ?_⟩
    have i3 := mix3_in c (30 + (0 + (i : Int))) (show (0 : Int) < 3 by decide)
    obtain ⟨z, hz, hzz⟩ : ∃ z : Str, [V.str (Str.ofString "both"), V.str (Str.ofString "either"), V.str (Str.ofString "but")][(mix3 c (30 + (0 + (i : Int))) 3).toNat]? = some (V.str z) ∧ joinW z := by
      have : mix3 c (30 + (0 + (i : Int))) 3 = 0 ∨ mix3 c (30 + (0 + (i : Int))) 3 = 1 ∨ mix3 c (30 + (0 + (i : Int))) 3 = 2 := by omega
      rcases this with e | e | e <;> rw [e]
      · exact ⟨_, rfl, .inl rfl⟩
      · exact ⟨_, rfl, .inr (.inl rfl)⟩
      · exact ⟨_, rfl, .inr (.inr rfl)⟩
    refine ⟨_, hz, ?_⟩
    refine ⟨_, _, _, rfl, by omega, by omega, by decide, rfl, ?_⟩
    have okA : Nt.any.ok := trivial
    by_cases h2 : V.int (mix3 c (100 + (0 + (i : Int))) 2) = V.int 0
    · rw [if_pos h2]
      refine ⟨by decide, fun p1 hp1 => ⟨by decide, ?_⟩⟩
      obtain ⟨H1, g1, S1, T1⟩ := fresh_tup (K := K) hp1 [V.str (Str.ofString "any")]
      rw [← g1]
      clear g1
      intro p2 hp2
      obtain ⟨H2, g2, S2, T2⟩ := fresh_tup (K := K) hp2 [V.str z, V.ref p', V.ref p1]
      rw [← g2]
      clear g2
      have S12 := S1.trans S2
      rw [hP]
      refine ⟨_, _, _, rfl, S.trans S12, fun d hd => ?_⟩
      cases d with
      | zero => exact .zero _
      | succ d => exact .fst hzz T2 ((B d (by omega)).same S12)
    · rw [if_neg h2]
      refine ⟨by decide, fun p1 hp1 => ⟨by decide, ?_⟩⟩
      obtain ⟨H1, g1, S1, T1⟩ := fresh_tup (K := K) hp1 [V.str (Str.ofString "any")]
      rw [← g1]
      clear g1
      intro p2 hp2
      obtain ⟨H2, g2, S2, T2⟩ := fresh_tup (K := K) hp2 [V.str z, V.ref p1, V.ref p']
      rw [← g2]
      clear g2
      have S12 := S1.trans S2
      have G1 : ToldAt K H2 (.ref p1) .any := .tup (Same.tup S2 T1) (.cons (.str _) .nil)
      rw [hP]
      refine ⟨_, _, _, rfl, S.trans S12, fun d hd => ?_⟩
      cases d with
      | zero => exact .zero _
      | succ d =>
        cases d with
        | zero => exact .fst hzz T2 (.zero _)
        | succ d => exact .snd hzz T2 G1 okA (by show 1 ≤ d + 1; omega) ((B (d + 1) (by omega)).same S12)
  · intro σ H' h
    rw [hP] at h
    obtain ⟨p', o3, o4, rfl, S, B⟩ := h
    simp only [tTurn, rTurnT, tTryS, rCountT, rPop, rRep, tCont, iZipT, tChain3, tFld, sFld, tMake, tMake0, tMethD, tBM0, rUpper, tDict1T, tTryN, rSlS, rMulS, rCatS, iZipL, rInsert, rReverse, tDNewX, tTry, tRaise, iEnumL, iEnumT, iZip, iSeq, iOr, rIx, iStr, rLeS, rJoin, rSlTA, tComp_eq, tComp1, slots, Option.getD_some, Option.getD_none, tYes, tSeq, tAsg, gName, tOp, tUn, tC, tVar, tCB, tCons, tNil, tCall, rI, rI0, rU, tRet, tRetN, tIfS, tTest, tB, tAnd, tOr, tNot, tAndV, tOrV, tNotV, tIf, tChain, tMenu, tPar, tDrop, tTup, tLst, tNext, tSl, tPart, tNoPart, tNever, gTup, gCons, gNil, gSub, rSetL, tBM, rAppend, rEq, rNe, rIsi, rIxL, rIxT, rIxS, rSlL, isi_non_bl, isi_non_int, isi_non_str, isi_non_lst, isi_non_tup, isi_bl_bl, isi_bl_int, isi_bl_str, isi_bl_lst, isi_bl_tup, isi_int_bl, isi_int_int, isi_int_str, isi_int_lst, isi_int_tup, isi_str_bl, isi_str_int, isi_str_str, isi_str_lst, isi_str_tup, isi_lst_bl, isi_lst_int, isi_lst_str, isi_lst_lst, isi_lst_tup, isi_tup_bl, isi_tup_int, isi_tup_str, isi_tup_lst, isi_tup_tup, isi_dct_bl, isi_dct_int, isi_dct_str, isi_dct_lst, isi_dct_tup, Kd_non, Kd_bl, Kd_int, Kd_str, sc_non_non, sc_non_int, sc_int_non, sc_non_bl, sc_bl_non, sc_non_str, sc_str_non, sc_int_int, sc_bl_bl, sc_str_str, sc_int_str, sc_str_int, sc_bl_str, sc_str_bl, decide_true, decide_false, tFor_eq, iList, iTup, iRng1, iRng2, iRng3, rIndexT, tBM0, tBMT, tyK_int, tyK_bool, tyK_str, tyK_list, tyK_tuple, L2.start, cxK, Int.reduceToNat, List.map_cons, List.map_nil, List.length_cons, List.length_nil, Nat.reduceAdd, Nat.reduceSub, Nat.zero_add, List.replicate_succ, List.replicate_zero, List.cons_append, List.nil_append, List.append_nil, List.getElem?_cons_zero, List.getElem?_cons_succ, List.set_cons_zero, List.set_cons_succ, Option.some.injEq, V.int.injEq, V.bl.injEq, V.ref.injEq, V.str.injEq, V.ty.injEq, List.cons.injEq, exists_eq_left', exists_eq_left, exists_eq_right, exists_and_left, exists_and_right, and_true, true_and, and_assoc, exists_const, decide_eq_true_eq, Bool.not_eq_true', Bool.not_true, Bool.not_false, Bool.not_not, decide_eq_false_iff_not, ite_not, Bool.false_eq_true, if_true, if_false, reduceCtorEq, and_false, false_and, exists_false, or_false, false_or, ↓reduceIte, eq_self, reduceIte]
    have e : (m : Int).toNat = m := by omega
    rw [e] at B
    exact q _ _ S B
theorem ok_law_other {D c_NoNumber c_NoBands c_NoKinds c_NoGoods c_NoTree c_NoneClaims c_TwoClaim c_NoRule c_NoLot c_NoQuota c_NoRate c_NoEntry c_NoDeed c_NoRow : Addr} (F : Fun K "_law_other" "_law_other" s_law_other f fd) (M : Mg mg) (K_D : XCls K D) (A_NoNumber : mg "NoNumber" = some (.ref c_NoNumber)) (A_NoBands : mg "NoBands" = some (.ref c_NoBands)) (A_NoKinds : mg "NoKinds" = some (.ref c_NoKinds)) (A_NoGoods : mg "NoGoods" = some (.ref c_NoGoods)) (A_NoTree : mg "NoTree" = some (.ref c_NoTree)) (A_NoneClaims : mg "NoneClaims" = some (.ref c_NoneClaims)) (A_TwoClaim : mg "TwoClaim" = some (.ref c_TwoClaim)) (A_NoRule : mg "NoRule" = some (.ref c_NoRule)) (A_NoLot : mg "NoLot" = some (.ref c_NoLot)) (A_NoQuota : mg "NoQuota" = some (.ref c_NoQuota)) (A_NoRate : mg "NoRate" = some (.ref c_NoRate)) (A_NoEntry : mg "NoEntry" = some (.ref c_NoEntry)) (A_NoDeed : mg "NoDeed" = some (.ref c_NoDeed)) (A_NoRow : mg "NoRow" = some (.ref c_NoRow))
    (g1 : PySem.W.kitAny K (.ref D) ([c_NoNumber, c_NoBands, c_NoKinds, c_NoGoods, c_NoTree, c_NoneClaims, c_TwoClaim].map Value.ref) = some false) (g2 : PySem.W.kitAny K (.ref D) ([c_NoRule, c_NoLot, c_NoQuota, c_NoRate, c_NoEntry, c_NoDeed, c_NoRow].map Value.ref) = some false) :
    FnOkS P w K mg base CX0 1 f fd ["_law_e"] (spOther D) := by
  refine F.okS sc_law_other (fun vs H Q E h => ?_) (fun cdv A outer s H vs Q E hr h => ?_)
  · obtain ⟨a, rfl, _⟩ := h
    rfl
  obtain ⟨a, rfl, ha, q⟩ := h
  refine ⟨_, (@pss_cons _ _ _ _ _ (@ps_if _ _ _ _ _ _ _ _ (@pt_val _ _ _ (@pe_callB _ _ _ _ _ _ _ _ _ (call_isiX (K := K) rfl) g_law_other_isinstance M.m_isinstance b_isinstance (@pa_cons _ _ _ _ _ (@pe_var _ 0 _ _ rfl v_law_other_0 dn__law_e dc__law_e) (@pa_cons _ _ _ _ _ (@pe_tup _ _ _ _ _ (@pa_cons _ _ _ _ _ (@pe_glob _ _ _ _ _ g_law_other_NoNumber A_NoNumber (show RelV (.ref c_NoNumber) _ from rfl) dn_NoNumber) (@pa_cons _ _ _ _ _ (@pe_glob _ _ _ _ _ g_law_other_NoBands A_NoBands (show RelV (.ref c_NoBands) _ from rfl) dn_NoBands) (@pa_cons _ _ _ _ _ (@pe_glob _ _ _ _ _ g_law_other_NoKinds A_NoKinds (show RelV (.ref c_NoKinds) _ from rfl) dn_NoKinds) (@pa_cons _ _ _ _ _ (@pe_glob _ _ _ _ _ g_law_other_NoGoods A_NoGoods (show RelV (.ref c_NoGoods) _ from rfl) dn_NoGoods) (@pa_cons _ _ _ _ _ (@pe_glob _ _ _ _ _ g_law_other_NoTree A_NoTree (show RelV (.ref c_NoTree) _ from rfl) dn_NoTree) (@pa_cons _ _ _ _ _ (@pe_glob _ _ _ _ _ g_law_other_NoneClaims A_NoneClaims (show RelV (.ref c_NoneClaims) _ from rfl) dn_NoneClaims) (@pa_cons _ _ _ _ _ (@pe_glob _ _ _ _ _ g_law_other_TwoClaim A_TwoClaim (show RelV (.ref c_TwoClaim) _ from rfl) dn_TwoClaim) (@pa_nil _) (star1 rfl)) (star1 rfl)) (star1 rfl)) (star1 rfl)) (star1 rfl)) (star1 rfl)) (star1 rfl))) (@pa_nil _) (star1 rfl)) (star1 rfl)) nn_isinstance dn_isinstance (star1 rfl) (nost1 rfl nost0)) (test1 rfl)) (@pss_one _ _ _ (@ps_ret _ _ _ _ (@pe_bl _ _ _ _))) (@pss_nil _)) (@pss_one _ _ _ (@ps_ret _ _ _ _ (@pe_callB _ _ _ _ _ _ _ _ _ (call_isiX (K := K) rfl) g_law_other_isinstance M.m_isinstance b_isinstance (@pa_cons _ _ _ _ _ (@pe_var _ 0 _ _ rfl v_law_other_0 dn__law_e dc__law_e) (@pa_cons _ _ _ _ _ (@pe_tup _ _ _ _ _ (@pa_cons _ _ _ _ _ (@pe_glob _ _ _ _ _ g_law_other_NoRule A_NoRule (show RelV (.ref c_NoRule) _ from rfl) dn_NoRule) (@pa_cons _ _ _ _ _ (@pe_glob _ _ _ _ _ g_law_other_NoLot A_NoLot (show RelV (.ref c_NoLot) _ from rfl) dn_NoLot) (@pa_cons _ _ _ _ _ (@pe_glob _ _ _ _ _ g_law_other_NoQuota A_NoQuota (show RelV (.ref c_NoQuota) _ from rfl) dn_NoQuota) (@pa_cons _ _ _ _ _ (@pe_glob _ _ _ _ _ g_law_other_NoRate A_NoRate (show RelV (.ref c_NoRate) _ from rfl) dn_NoRate) (@pa_cons _ _ _ _ _ (@pe_glob _ _ _ _ _ g_law_other_NoEntry A_NoEntry (show RelV (.ref c_NoEntry) _ from rfl) dn_NoEntry) (@pa_cons _ _ _ _ _ (@pe_glob _ _ _ _ _ g_law_other_NoDeed A_NoDeed (show RelV (.ref c_NoDeed) _ from rfl) dn_NoDeed) (@pa_cons _ _ _ _ _ (@pe_glob _ _ _ _ _ g_law_other_NoRow A_NoRow (show RelV (.ref c_NoRow) _ from rfl) dn_NoRow) (@pa_nil _) (star1 rfl)) (star1 rfl)) (star1 rfl)) (star1 rfl)) (star1 rfl)) (star1 rfl)) (star1 rfl))) (@pa_nil _) (star1 rfl)) (star1 rfl)) nn_isinstance dn_isinstance (star1 rfl) (nost1 rfl nost0))))), ?_⟩
  simp only [tTurn, rTurnT, tTryS, rCountT, rPop, rRep, tCont, iZipT, tChain3, tFld, sFld, tMake, tMake0, tMethD, tBM0, rUpper, tDict1T, tTryN, rSlS, rMulS, rCatS, iZipL, rInsert, rReverse, tDNewX, tTry, tRaise, iEnumL, iEnumT, iZip, iSeq, iOr, rIx, iStr, rLeS, rJoin, rSlTA, tComp_eq, tComp1, slots, Option.getD_some, Option.getD_none, tYes, tSeq, tAsg, gName, tOp, tUn, tC, tVar, tCB, tCons, tNil, tCall, rI, rI0, rU, tRet, tRetN, tIfS, tTest, tB, tAnd, tOr, tNot, tAndV, tOrV, tNotV, tIf, tChain, tMenu, tPar, tDrop, tTup, tLst, tNext, tSl, tPart, tNoPart, tNever, gTup, gCons, gNil, gSub, rSetL, tBM, rAppend, rEq, rNe, rIsi, rIxL, rIxT, rIxS, rSlL, isi_non_bl, isi_non_int, isi_non_str, isi_non_lst, isi_non_tup, isi_bl_bl, isi_bl_int, isi_bl_str, isi_bl_lst, isi_bl_tup, isi_int_bl, isi_int_int, isi_int_str, isi_int_lst, isi_int_tup, isi_str_bl, isi_str_int, isi_str_str, isi_str_lst, isi_str_tup, isi_lst_bl, isi_lst_int, isi_lst_str, isi_lst_lst, isi_lst_tup, isi_tup_bl, isi_tup_int, isi_tup_str, isi_tup_lst, isi_tup_tup, isi_dct_bl, isi_dct_int, isi_dct_str, isi_dct_lst, isi_dct_tup, Kd_non, Kd_bl, Kd_int, Kd_str, sc_non_non, sc_non_int, sc_int_non, sc_non_bl, sc_bl_non, sc_non_str, sc_str_non, sc_int_int, sc_bl_bl, sc_str_str, sc_int_str, sc_str_int, sc_bl_str, sc_str_bl, decide_true, decide_false, tFor_eq, iList, iTup, iRng1, iRng2, iRng3, rIndexT, tBM0, tBMT, tyK_int, tyK_bool, tyK_str, tyK_list, tyK_tuple, L2.start, cxK, Int.reduceToNat, List.map_cons, List.map_nil, List.length_cons, List.length_nil, Nat.reduceAdd, Nat.reduceSub, Nat.zero_add, List.replicate_succ, List.replicate_zero, List.cons_append, List.nil_append, List.append_nil, List.getElem?_cons_zero, List.getElem?_cons_succ, List.set_cons_zero, List.set_cons_succ, Option.some.injEq, V.int.injEq, V.bl.injEq, V.ref.injEq, V.str.injEq, V.ty.injEq, List.cons.injEq, exists_eq_left', exists_eq_left, exists_eq_right, exists_and_left, exists_and_right, and_true, true_and, and_assoc, exists_const, decide_eq_true_eq, Bool.not_eq_true', Bool.not_true, Bool.not_false, Bool.not_not, decide_eq_false_iff_not, ite_not, Bool.false_eq_true, if_true, if_false, reduceCtorEq, and_false, false_and, exists_false, or_false, false_or, ↓reduceIte, eq_self, reduceIte]
  refine ⟨by decide, fun p hp => isiX_tup ((same_new hp _) _ _ ha) K_D upd_same g1 ⟨_, rfl, ?_⟩⟩
  rw [if_neg (by decide)]
  refine ⟨by decide, fun p2 hp2 => isiX_tup ((same_new hp2 _) _ _ ((same_new hp _) _ _ ha)) K_D upd_same g2 (q _ ((same_new hp _).trans (same_new hp2 _)))⟩
theorem ok_law_refused {c_NoNote c_TariffError : Addr} (F : Fun K "_law_refused" "_law_refused" s_law_refused f fd) (M : Mg mg) (C_note_of : Cal P w K mg base (CXE P w) "note_of" 11 ["told"] (spNoteOf K cs c_NoNote)) (C_law_other : CalS P w K mg base CX0 "_law_other" 1 ["_law_e"] (spOther c_NoNote))
    (A_TariffError : mg "TariffError" = some (.ref c_TariffError)) (X_NoNote : XCatch K mg "NoNote" c_NoNote) (K_N : XCls K c_NoNote) (sub : PySem.W.subIn K (.ref c_NoNote) (.ref c_NoNote) = some true) (k1 : PySem.W.kitOne K (.ref c_NoNote) (.ref c_TariffError) = some true) (k2 : PySem.W.kitOne K (.ref c_NoNote) (.type "ValueError") = some true) :
    FnOk P w K mg base CX0 12 f fd ["_law_told"] (spRefused K) := by
  refine F.ok sc_law_refused (fun vs H Q E h => ?_) (fun cdv A outer s H vs Q E hr h => ?_)
  · obtain ⟨v, rfl, _⟩ := h
    rfl
  obtain ⟨v, rfl, B, q⟩ := h
  refine ⟨_, (@pss_cons _ _ _ _ _ (@ps_try _ _ _ _ _ _ 1 _ _ _ _ _ _ _ _ _ _ _ _ _ _ _ rfl rfl rfl rfl C_note_of hr g_law_refused_note_of (@pa_cons _ _ _ _ _ (@pe_var _ 0 _ _ rfl v_law_refused_0 dn__law_told dc__law_told) (@pa_nil _) (star1 rfl)) g_law_refused_NoNote X_NoNote sc_law_refused.nd rfl rfl rfl (fun _ => (@pss_one _ _ _ (@ps_ret _ _ _ _ (@pe_and _ _ _ _ _ _ _ (@pe_callB _ _ _ _ _ _ _ _ _ (call_isiX (K := K) rfl) g_law_refused_isinstance M.m_isinstance b_isinstance (@pa_cons _ _ _ _ _ (@pe_var _ 1 _ _ rfl v_law_refused_1 dn__law_e dc__law_e) (@pa_cons _ _ _ _ _ (@pe_glob _ _ _ _ _ g_law_refused_TariffError A_TariffError (show RelV (.ref c_TariffError) _ from rfl) dn_TariffError) (@pa_nil _) (star1 rfl)) (star1 rfl)) nn_isinstance dn_isinstance (star1 rfl) (nost1 rfl nost0)) (@pe_and _ _ _ _ _ _ _ (@pe_callB _ _ _ _ _ _ _ _ _ (call_isiX (K := K) rfl) g_law_refused_isinstance M.m_isinstance b_isinstance (@pa_cons _ _ _ _ _ (@pe_var _ 1 _ _ rfl v_law_refused_1 dn__law_e dc__law_e) (@pa_cons _ _ _ _ _ (@pe_bltn _ _ (.ty "ValueError") _ _ g_law_refused_ValueError M.m_ValueError b_ValueError rfl nn_ValueError dn_ValueError) (@pa_nil _) (star1 rfl)) (star1 rfl)) nn_isinstance dn_isinstance (star1 rfl) (nost1 rfl nost0)) (@pe_one _ _ _ _ _ (@pe_not _ _ _ _ (@pe_callS _ _ _ _ _ _ _ _ _ _ _ C_law_other (Room.suite hr _) g_law_refused__law_other (@pa_cons _ _ _ _ _ (@pe_var _ 1 _ _ rfl v_law_refused_1 dn__law_e dc__law_e) (@pa_nil _) (star1 rfl)) (by decide) dn__law_other (star1 rfl) nost0)))))))) (by decide) dn_note_of dn_NoNote (star1 rfl) nost0 (swap1 rfl)) (@pss_one _ _ _ (@ps_ret _ _ _ _ (@pe_bl _ _ _ _)))), ?_⟩
  simp only [tTurn, rTurnT, tTryS, rCountT, rPop, rRep, tCont, iZipT, tChain3, tFld, sFld, tMake, tMake0, tMethD, tBM0, rUpper, tDict1T, tTryN, rSlS, rMulS, rCatS, iZipL, rInsert, rReverse, tDNewX, tTry, tRaise, iEnumL, iEnumT, iZip, iSeq, iOr, rIx, iStr, rLeS, rJoin, rSlTA, tComp_eq, tComp1, slots, Option.getD_some, Option.getD_none, tYes, tSeq, tAsg, gName, tOp, tUn, tC, tVar, tCB, tCons, tNil, tCall, rI, rI0, rU, tRet, tRetN, tIfS, tTest, tB, tAnd, tOr, tNot, tAndV, tOrV, tNotV, tIf, tChain, tMenu, tPar, tDrop, tTup, tLst, tNext, tSl, tPart, tNoPart, tNever, gTup, gCons, gNil, gSub, rSetL, tBM, rAppend, rEq, rNe, rIsi, rIxL, rIxT, rIxS, rSlL, isi_non_bl, isi_non_int, isi_non_str, isi_non_lst, isi_non_tup, isi_bl_bl, isi_bl_int, isi_bl_str, isi_bl_lst, isi_bl_tup, isi_int_bl, isi_int_int, isi_int_str, isi_int_lst, isi_int_tup, isi_str_bl, isi_str_int, isi_str_str, isi_str_lst, isi_str_tup, isi_lst_bl, isi_lst_int, isi_lst_str, isi_lst_lst, isi_lst_tup, isi_tup_bl, isi_tup_int, isi_tup_str, isi_tup_lst, isi_tup_tup, isi_dct_bl, isi_dct_int, isi_dct_str, isi_dct_lst, isi_dct_tup, Kd_non, Kd_bl, Kd_int, Kd_str, sc_non_non, sc_non_int, sc_int_non, sc_non_bl, sc_bl_non, sc_non_str, sc_str_non, sc_int_int, sc_bl_bl, sc_str_str, sc_int_str, sc_str_int, sc_bl_str, sc_str_bl, decide_true, decide_false, tFor_eq, iList, iTup, iRng1, iRng2, iRng3, rIndexT, tBM0, tBMT, tyK_int, tyK_bool, tyK_str, tyK_list, tyK_tuple, L2.start, cxK, Int.reduceToNat, List.map_cons, List.map_nil, List.length_cons, List.length_nil, Nat.reduceAdd, Nat.reduceSub, Nat.zero_add, List.replicate_succ, List.replicate_zero, List.cons_append, List.nil_append, List.append_nil, List.getElem?_cons_zero, List.getElem?_cons_succ, List.set_cons_zero, List.set_cons_succ, Option.some.injEq, V.int.injEq, V.bl.injEq, V.ref.injEq, V.str.injEq, V.ty.injEq, List.cons.injEq, exists_eq_left', exists_eq_left, exists_eq_right, exists_and_left, exists_and_right, and_true, true_and, and_assoc, exists_const, decide_eq_true_eq, Bool.not_eq_true', Bool.not_true, Bool.not_false, Bool.not_not, decide_eq_false_iff_not, ite_not, Bool.false_eq_true, if_true, if_false, reduceCtorEq, and_false, false_and, exists_false, or_false, false_or, ↓reduceIte, eq_self, reduceIte]
  refine .inr ⟨_, rfl, B, fun H' e => ⟨_, rfl, sub, fun a ha => ?_⟩⟩
  have hx : upd H' a (excO a c_NoNote) a = some (excO a c_NoNote) := upd_same
  refine isiX_one hx K_N k1 ?_
  simp only [tTurn, rTurnT, tTryS, rCountT, rPop, rRep, tCont, iZipT, tChain3, tFld, sFld, tMake, tMake0, tMethD, tBM0, rUpper, tDict1T, tTryN, rSlS, rMulS, rCatS, iZipL, rInsert, rReverse, tDNewX, tTry, tRaise, iEnumL, iEnumT, iZip, iSeq, iOr, rIx, iStr, rLeS, rJoin, rSlTA, tComp_eq, tComp1, slots, Option.getD_some, Option.getD_none, tYes, tSeq, tAsg, gName, tOp, tUn, tC, tVar, tCB, tCons, tNil, tCall, rI, rI0, rU, tRet, tRetN, tIfS, tTest, tB, tAnd, tOr, tNot, tAndV, tOrV, tNotV, tIf, tChain, tMenu, tPar, tDrop, tTup, tLst, tNext, tSl, tPart, tNoPart, tNever, gTup, gCons, gNil, gSub, rSetL, tBM, rAppend, rEq, rNe, rIsi, rIxL, rIxT, rIxS, rSlL, isi_non_bl, isi_non_int, isi_non_str, isi_non_lst, isi_non_tup, isi_bl_bl, isi_bl_int, isi_bl_str, isi_bl_lst, isi_bl_tup, isi_int_bl, isi_int_int, isi_int_str, isi_int_lst, isi_int_tup, isi_str_bl, isi_str_int, isi_str_str, isi_str_lst, isi_str_tup, isi_lst_bl, isi_lst_int, isi_lst_str, isi_lst_lst, isi_lst_tup, isi_tup_bl, isi_tup_int, isi_tup_str, isi_tup_lst, isi_tup_tup, isi_dct_bl, isi_dct_int, isi_dct_str, isi_dct_lst, isi_dct_tup, Kd_non, Kd_bl, Kd_int, Kd_str, sc_non_non, sc_non_int, sc_int_non, sc_non_bl, sc_bl_non, sc_non_str, sc_str_non, sc_int_int, sc_bl_bl, sc_str_str, sc_int_str, sc_str_int, sc_bl_str, sc_str_bl, decide_true, decide_false, tFor_eq, iList, iTup, iRng1, iRng2, iRng3, rIndexT, tBM0, tBMT, tyK_int, tyK_bool, tyK_str, tyK_list, tyK_tuple, L2.start, cxK, Int.reduceToNat, List.map_cons, List.map_nil, List.length_cons, List.length_nil, Nat.reduceAdd, Nat.reduceSub, Nat.zero_add, List.replicate_succ, List.replicate_zero, List.cons_append, List.nil_append, List.append_nil, List.getElem?_cons_zero, List.getElem?_cons_succ, List.set_cons_zero, List.set_cons_succ, Option.some.injEq, V.int.injEq, V.bl.injEq, V.ref.injEq, V.str.injEq, V.ty.injEq, List.cons.injEq, exists_eq_left', exists_eq_left, exists_eq_right, exists_and_left, exists_and_right, and_true, true_and, and_assoc, exists_const, decide_eq_true_eq, Bool.not_eq_true', Bool.not_true, Bool.not_false, Bool.not_not, decide_eq_false_iff_not, ite_not, Bool.false_eq_true, if_true, if_false, reduceCtorEq, and_false, false_and, exists_false, or_false, false_or, ↓reduceIte, eq_self, reduceIte]
  refine isiX_ty hx K_N k2 ⟨_, rfl, ?_⟩
  rw [if_pos rfl]
  refine ⟨a, rfl, hx, fun H2 e2 => ⟨_, rfl, q _ (e.trans ((same_new ha _).trans e2))⟩⟩
theorem ok_law_refused_by_base {c_NoNote c_TariffError : Addr} (F : Fun K "_law_refused_by_base" "_law_refused_by_base" s_law_refused_by_base f fd) (M : Mg mg) (C_note_of : Cal P w K mg base (CXE P w) "note_of" 11 ["told"] (spNoteOf K cs c_NoNote))
    (A_NoNote : mg "NoNote" = some (.ref c_NoNote)) (X_TariffError : XCatch K mg "TariffError" c_TariffError) (K_N : XCls K c_NoNote) (sub : PySem.W.subIn K (.ref c_NoNote) (.ref c_TariffError) = some true) (k1 : PySem.W.kitOne K (.ref c_NoNote) (.ref c_NoNote) = some true) :
    FnOk P w K mg base CX0 12 f fd ["_law_told"] (spRefused K) := by
  refine F.ok sc_law_refused_by_base (fun vs H Q E h => ?_) (fun cdv A outer s H vs Q E hr h => ?_)
  · obtain ⟨v, rfl, _⟩ := h
    rfl
  obtain ⟨v, rfl, B, q⟩ := h
  refine ⟨_, (@pss_cons _ _ _ _ _ (@ps_try _ _ _ _ _ _ 1 _ _ _ _ _ _ _ _ _ _ _ _ _ _ _ rfl rfl rfl rfl C_note_of hr g_law_refused_by_base_note_of (@pa_cons _ _ _ _ _ (@pe_var _ 0 _ _ rfl v_law_refused_by_base_0 dn__law_told dc__law_told) (@pa_nil _) (star1 rfl)) g_law_refused_by_base_TariffError X_TariffError sc_law_refused_by_base.nd rfl rfl rfl (fun _ => (@pss_one _ _ _ (@ps_ret _ _ _ _ (@pe_callB _ _ _ _ _ _ _ _ _ (call_isiX (K := K) rfl) g_law_refused_by_base_isinstance M.m_isinstance b_isinstance (@pa_cons _ _ _ _ _ (@pe_var _ 1 _ _ rfl v_law_refused_by_base_1 dn__law_e dc__law_e) (@pa_cons _ _ _ _ _ (@pe_glob _ _ _ _ _ g_law_refused_by_base_NoNote A_NoNote (show RelV (.ref c_NoNote) _ from rfl) dn_NoNote) (@pa_nil _) (star1 rfl)) (star1 rfl)) nn_isinstance dn_isinstance (star1 rfl) (nost1 rfl nost0))))) (by decide) dn_note_of dn_TariffError (star1 rfl) nost0 (swap1 rfl)) (@pss_one _ _ _ (@ps_ret _ _ _ _ (@pe_bl _ _ _ _)))), ?_⟩
  simp only [tTurn, rTurnT, tTryS, rCountT, rPop, rRep, tCont, iZipT, tChain3, tFld, sFld, tMake, tMake0, tMethD, tBM0, rUpper, tDict1T, tTryN, rSlS, rMulS, rCatS, iZipL, rInsert, rReverse, tDNewX, tTry, tRaise, iEnumL, iEnumT, iZip, iSeq, iOr, rIx, iStr, rLeS, rJoin, rSlTA, tComp_eq, tComp1, slots, Option.getD_some, Option.getD_none, tYes, tSeq, tAsg, gName, tOp, tUn, tC, tVar, tCB, tCons, tNil, tCall, rI, rI0, rU, tRet, tRetN, tIfS, tTest, tB, tAnd, tOr, tNot, tAndV, tOrV, tNotV, tIf, tChain, tMenu, tPar, tDrop, tTup, tLst, tNext, tSl, tPart, tNoPart, tNever, gTup, gCons, gNil, gSub, rSetL, tBM, rAppend, rEq, rNe, rIsi, rIxL, rIxT, rIxS, rSlL, isi_non_bl, isi_non_int, isi_non_str, isi_non_lst, isi_non_tup, isi_bl_bl, isi_bl_int, isi_bl_str, isi_bl_lst, isi_bl_tup, isi_int_bl, isi_int_int, isi_int_str, isi_int_lst, isi_int_tup, isi_str_bl, isi_str_int, isi_str_str, isi_str_lst, isi_str_tup, isi_lst_bl, isi_lst_int, isi_lst_str, isi_lst_lst, isi_lst_tup, isi_tup_bl, isi_tup_int, isi_tup_str, isi_tup_lst, isi_tup_tup, isi_dct_bl, isi_dct_int, isi_dct_str, isi_dct_lst, isi_dct_tup, Kd_non, Kd_bl, Kd_int, Kd_str, sc_non_non, sc_non_int, sc_int_non, sc_non_bl, sc_bl_non, sc_non_str, sc_str_non, sc_int_int, sc_bl_bl, sc_str_str, sc_int_str, sc_str_int, sc_bl_str, sc_str_bl, decide_true, decide_false, tFor_eq, iList, iTup, iRng1, iRng2, iRng3, rIndexT, tBM0, tBMT, tyK_int, tyK_bool, tyK_str, tyK_list, tyK_tuple, L2.start, cxK, Int.reduceToNat, List.map_cons, List.map_nil, List.length_cons, List.length_nil, Nat.reduceAdd, Nat.reduceSub, Nat.zero_add, List.replicate_succ, List.replicate_zero, List.cons_append, List.nil_append, List.append_nil, List.getElem?_cons_zero, List.getElem?_cons_succ, List.set_cons_zero, List.set_cons_succ, Option.some.injEq, V.int.injEq, V.bl.injEq, V.ref.injEq, V.str.injEq, V.ty.injEq, List.cons.injEq, exists_eq_left', exists_eq_left, exists_eq_right, exists_and_left, exists_and_right, and_true, true_and, and_assoc, exists_const, decide_eq_true_eq, Bool.not_eq_true', Bool.not_true, Bool.not_false, Bool.not_not, decide_eq_false_iff_not, ite_not, Bool.false_eq_true, if_true, if_false, reduceCtorEq, and_false, false_and, exists_false, or_false, false_or, ↓reduceIte, eq_self, reduceIte]
  refine .inr ⟨_, rfl, B, fun H' e => ⟨_, rfl, sub, fun a ha => ?_⟩⟩
  have hx : upd H' a (excO a c_NoNote) a = some (excO a c_NoNote) := upd_same
  exact isiX_one hx K_N k1 (q _ (e.trans (same_new ha _)))
end

def spNoteU (K : PySem.W.Frag) : Sp := fun vs H Q E => ∃ d, d ≤ 5 ∧ spNoteG K d vs H Q E
theorem fnok_union {P : Program} {w : World} {K : PySem.W.Frag} {mg : Str → Option Value} {base : Heap} {f : Addr} {fd : FuncData} {ps : List Str} {spd : Nat → Sp} {L n : Nat} (h : ∀ d, FnOk P w K mg base CX0 (L + d) f fd ps (spd d)) : FnOk P w K mg base CX0 (L + n) f fd ps (fun vs H Q E => ∃ d, d ≤ n ∧ spd d vs H Q E) := by
  refine ⟨fun vs H Q E ⟨d, hd, s⟩ => (h d).len _ _ _ _ s, fun A st s H bd us vs Q E hr I hb r ⟨d, hd, sp⟩ => ?_⟩
  exact (h d).run A st s H bd us vs Q E (hr.mono (by omega)) I hb r sp
section
variable {P : Program} {w : World} {K : PySem.W.Frag} {mg : Str → Option Value} {base : Heap} {f : Addr} {fd : FuncData} {cs : NC} {cN : Addr}
theorem ok_law (F : Fun K "law" "law" s_law f fd) (M : Mg mg) (C_law_cell : Cal P w K mg base CX0 "_law_cell" 1 ["_law_script", "_law_k"] (spCell K)) (C_law_mix : Cal P w K mg base CX0 "_law_mix" 1 ["_law_number", "_law_k", "_law_many"] spMix3) (C_law_words : Cal P w K mg base CX0 "_law_words" 1 ["_law_cell_here", "_law_many"] (spWords K)) (C_law_kinds : Cal P w K mg base CX0 "_law_kinds" 1 ["_law_cell_here", "_law_words_here"] (spKinds3 K)) (C_note_of : Cal P w K mg base (CXE P w) "note_of" 11 ["told"] (spNoteOf K cs cN))
    (C_law_plain : Cal P w K mg base CX0 "_law_plain" 2 ["_law_number", "_law_kinds_here", "_law_words_here"] (spPlain K)) (C_law_note : Cal P w K mg base CX0 "_law_note" 8 ["_law_number", "_law_deep", "_law_kinds_here", "_law_words_here"] (spNoteU K)) (C_law_bad : Cal P w K mg base CX0 "_law_bad" 2 ["_law_cell_here", "_law_kinds_here", "_law_words_here"] (spBadT K)) (C_law_deeper : Cal P w K mg base CX0 "_law_deeper" 2 ["_law_told", "_law_deep", "_law_number"] (spDeeper K))
    (C_law_spoilt : Cal P w K mg base CX0 "_law_spoilt" 6 ["_law_told", "_law_number", "_law_bad_here"] (spSpoilt K 5)) (C_law_refused : Cal P w K mg base CX0 "_law_refused" 12 ["_law_told"] (spRefused K)) (C_law_refused_by_base : Cal P w K mg base CX0 "_law_refused_by_base" 12 ["_law_told"] (spRefused K)) (D_told : ∀ C sp, DToldN K cs 5 C sp → Disp P w K mg base "told" 6 ["self"] C sp) : FnOk P w K mg base CX0 13 f fd ["_law_script"] (spLaw K) := by
  refine F.ok sc_law (fun vs H Q E h => ?_) (fun cdv A outer s H vs Q E hr h => ?_)
  · obtain ⟨a, ns, rfl, _⟩ := h
    rfl
  obtain ⟨a, ns, rfl, hS, hl, q⟩ := h
  refine ⟨_, (@pss_cons _ _ _ _ _ (@ps_set _ _ 1 _ _ _ _ sc_law.nd rfl l_law_1 (@pe_callC _ _ _ _ _ _ _ _ _ _ _ C_law_words hr g_law__law_words (@pa_cons _ _ _ _ _ (@pe_callC _ _ _ _ _ _ _ _ _ _ _ C_law_cell hr g_law__law_cell (@pa_cons _ _ _ _ _ (@pe_var _ 0 _ _ rfl v_law_0 dn__law_script dc__law_script) (@pa_cons _ _ _ _ _ (@pe_int _ _ _ _) (@pa_nil _) (star1 rfl)) (star1 rfl)) (by decide) dn__law_cell (star1 rfl) (nost1 rfl nost0)) (@pa_cons _ _ _ _ _ (@pe_int _ _ _ _) (@pa_nil _) (star1 rfl)) (star1 rfl)) (by decide) dn__law_words (star1 rfl) (nost1 rfl nost0)) (swap1 rfl) (.inl rfl)) (@pss_cons _ _ _ _ _ (@ps_set _ _ 2 _ _ _ _ sc_law.nd rfl l_law_2 (@pe_callC _ _ _ _ _ _ _ _ _ _ _ C_law_kinds hr g_law__law_kinds (@pa_cons _ _ _ _ _ (@pe_callC _ _ _ _ _ _ _ _ _ _ _ C_law_cell hr g_law__law_cell (@pa_cons _ _ _ _ _ (@pe_var _ 0 _ _ rfl v_law_0 dn__law_script dc__law_script) (@pa_cons _ _ _ _ _ (@pe_int _ _ _ _) (@pa_nil _) (star1 rfl)) (star1 rfl)) (by decide) dn__law_cell (star1 rfl) (nost1 rfl nost0)) (@pa_cons _ _ _ _ _ (@pe_var _ 1 _ _ rfl v_law_1 dn__law_words_here dc__law_words_here) (@pa_nil _) (star1 rfl)) (star1 rfl)) (by decide) dn__law_kinds (star1 rfl) (nost1 rfl nost0)) (swap1 rfl) (.inl rfl)) (@pss_cons _ _ _ _ _ (@ps_for _ _ _ _ _ _ _ _ PassesOwn.never rfl (@pi_range2 _ _ _ _ _ _ _ g_law_range M.m_range (@pa_cons _ _ _ _ _ (@pe_int _ _ _ _) (@pa_cons _ _ _ _ _ (@pe_callB _ _ _ _ _ _ _ _ _ (call_max2 rfl) g_law_max M.m_max b_max (@pa_cons _ _ _ _ _ (@pe_int _ _ _ _) (@pa_cons _ _ _ _ _ (@pe_callB _ _ _ _ _ _ _ _ _ (call_min2 rfl) g_law_min M.m_min b_min (@pa_cons _ _ _ _ _ (@pe_callB _ _ _ _ _ _ _ _ _ call_len_seq g_law_len M.m_len b_len (@pa_cons _ _ _ _ _ (@pe_var _ 0 _ _ rfl v_law_0 dn__law_script dc__law_script) (@pa_nil _) (star1 rfl)) nn_len dn_len (star1 rfl) nost0) (@pa_cons _ _ _ _ _ (@pe_int _ _ _ _) (@pa_nil _) (star1 rfl)) (star1 rfl)) nn_min dn_min (star1 rfl) (nost1 rfl nost0)) (@pa_nil _) (star1 rfl)) (star1 rfl)) nn_max dn_max (star1 rfl) (nost1 rfl nost0)) (@pa_nil _) (star1 rfl)) (star1 rfl)) (star2' rfl rfl) (star1' rfl)) (@pg_name _ _ 3 _ sc_law.nd rfl l_law_3 (.inl rfl)) (@pss_cons _ _ _ _ _ (@ps_set _ _ 4 _ _ _ _ sc_law.nd rfl l_law_4 (@pe_callC _ _ _ _ _ _ _ _ _ _ _ C_law_cell hr g_law__law_cell (@pa_cons _ _ _ _ _ (@pe_var _ 0 _ _ rfl v_law_0 dn__law_script dc__law_script) (@pa_cons _ _ _ _ _ (@pe_var _ 3 _ _ rfl v_law_3 dn__law_k dc__law_k) (@pa_nil _) (star1 rfl)) (star1 rfl)) (by decide) dn__law_cell (star1 rfl) (nost1 rfl nost0)) (swap1 rfl) (.inl rfl)) (@pss_cons _ _ _ _ _ (@ps_set _ _ 5 _ _ _ _ sc_law.nd rfl l_law_5 (@pe_callC _ _ _ _ _ _ _ _ _ _ _ C_law_note hr g_law__law_note (@pa_cons _ _ _ _ _ (@pe_var _ 4 _ _ rfl v_law_4 dn__law_cell_here dc__law_cell_here) (@pa_cons _ _ _ _ _ (@pe_op _ _ _ _ _ _ _ _ (@op_add _) (@pe_int _ _ _ _) (@pe_callC _ _ _ _ _ _ _ _ _ _ _ C_law_mix hr g_law__law_mix (@pa_cons _ _ _ _ _ (@pe_var _ 4 _ _ rfl v_law_4 dn__law_cell_here dc__law_cell_here) (@pa_cons _ _ _ _ _ (@pe_int _ _ _ _) (@pa_cons _ _ _ _ _ (@pe_int _ _ _ _) (@pa_nil _) (star1 rfl)) (star1 rfl)) (star1 rfl)) (by decide) dn__law_mix (star1 rfl) (nost1 rfl (nost1 rfl nost0)))) (@pa_cons _ _ _ _ _ (@pe_var _ 2 _ _ rfl v_law_2 dn__law_kinds_here dc__law_kinds_here) (@pa_cons _ _ _ _ _ (@pe_var _ 1 _ _ rfl v_law_1 dn__law_words_here dc__law_words_here) (@pa_nil _) (star1 rfl)) (star1 rfl)) (star1 rfl)) (star1 rfl)) (by decide) dn__law_note (star1 rfl) (nost1 rfl (nost1 rfl (nost1 rfl nost0)))) (swap1 rfl) (.inl rfl)) (@pss_cons _ _ _ _ _ (@ps_set _ _ 6 _ _ _ _ sc_law.nd rfl l_law_6 (@pe_callC _ _ _ _ _ _ _ _ _ _ _ C_law_bad hr g_law__law_bad (@pa_cons _ _ _ _ _ (@pe_op _ _ _ _ _ _ _ _ (@op_fdivB _) (@pe_var _ 4 _ _ rfl v_law_4 dn__law_cell_here dc__law_cell_here) (@pe_int _ _ _ _)) (@pa_cons _ _ _ _ _ (@pe_var _ 2 _ _ rfl v_law_2 dn__law_kinds_here dc__law_kinds_here) (@pa_cons _ _ _ _ _ (@pe_var _ 1 _ _ rfl v_law_1 dn__law_words_here dc__law_words_here) (@pa_nil _) (star1 rfl)) (star1 rfl)) (star1 rfl)) (by decide) dn__law_bad (star1 rfl) (nost1 rfl (nost1 rfl nost0))) (swap1 rfl) (.inl rfl)) (@pss_cons _ _ _ _ _ (@ps_if _ _ _ _ _ _ _ _ (@pt_cmpR _ _ _ _ _ _ _ _ (@op_eq _) (@pe_callC _ _ _ _ _ _ _ _ _ _ _ C_law_mix hr g_law__law_mix (@pa_cons _ _ _ _ _ (@pe_var _ 4 _ _ rfl v_law_4 dn__law_cell_here dc__law_cell_here) (@pa_cons _ _ _ _ _ (@pe_int _ _ _ _) (@pa_cons _ _ _ _ _ (@pe_int _ _ _ _) (@pa_nil _) (star1 rfl)) (star1 rfl)) (star1 rfl)) (by decide) dn__law_mix (star1 rfl) (nost1 rfl (nost1 rfl nost0))) (@pe_int _ _ _ _) (nomark _)) (@pss_one _ _ _ (@ps_set _ _ 6 _ _ _ _ sc_law.nd rfl l_law_6 (@pe_callC _ _ _ _ _ _ _ _ _ _ _ C_law_deeper hr g_law__law_deeper (@pa_cons _ _ _ _ _ (@pe_callC _ _ _ _ _ _ _ _ _ _ _ C_law_plain hr g_law__law_plain (@pa_cons _ _ _ _ _ (@pe_var _ 4 _ _ rfl v_law_4 dn__law_cell_here dc__law_cell_here) (@pa_cons _ _ _ _ _ (@pe_var _ 2 _ _ rfl v_law_2 dn__law_kinds_here dc__law_kinds_here) (@pa_cons _ _ _ _ _ (@pe_var _ 1 _ _ rfl v_law_1 dn__law_words_here dc__law_words_here) (@pa_nil _) (star1 rfl)) (star1 rfl)) (star1 rfl)) (by decide) dn__law_plain (star1 rfl) (nost1 rfl (nost1 rfl nost0))) (@pa_cons _ _ _ _ _ (@pe_menu _ _ _ _ _ _ _ (@pa_cons _ _ _ _ _ (@pe_int _ _ _ _) (@pa_cons _ _ _ _ _ (@pe_int _ _ _ _) (@pa_cons _ _ _ _ _ (@pe_int _ _ _ _) (@pa_cons _ _ _ _ _ (@pe_int _ _ _ _) (@pa_nil _) (star1 rfl)) (star1 rfl)) (star1 rfl)) (star1 rfl)) (@pe_op _ _ _ _ _ _ _ _ (@op_mod _) (@pe_var _ 4 _ _ rfl v_law_4 dn__law_cell_here dc__law_cell_here) (@pe_int _ _ _ _)) (fun _ _ => rfl)) (@pa_cons _ _ _ _ _ (@pe_var _ 4 _ _ rfl v_law_4 dn__law_cell_here dc__law_cell_here) (@pa_nil _) (star1 rfl)) (star1 rfl)) (star1 rfl)) (by decide) dn__law_deeper (star1 rfl) (nost1 rfl (nost1 rfl nost0))) (swap1 rfl) (.inl rfl))) (@pss_nil _)) (@pss_cons _ _ _ _ _ (@ps_set _ _ 7 _ _ _ _ sc_law.nd rfl l_law_7 (@pe_callC _ _ _ _ _ _ _ _ _ _ _ C_law_spoilt hr g_law__law_spoilt (@pa_cons _ _ _ _ _ (@pe_var _ 5 _ _ rfl v_law_5 dn__law_told dc__law_told) (@pa_cons _ _ _ _ _ (@pe_op _ _ _ _ _ _ _ _ (@op_fdivB _) (@pe_var _ 4 _ _ rfl v_law_4 dn__law_cell_here dc__law_cell_here) (@pe_int _ _ _ _)) (@pa_cons _ _ _ _ _ (@pe_var _ 6 _ _ rfl v_law_6 dn__law_bad_here dc__law_bad_here) (@pa_nil _) (star1 rfl)) (star1 rfl)) (star1 rfl)) (by decide) dn__law_spoilt (star1 rfl) (nost1 rfl (nost1 rfl nost0))) (swap1 rfl) (.inl rfl)) (@pss_cons _ _ _ _ _ (@ps_if _ _ _ _ _ _ _ _ (@PW.pt _ _ _ (@pw_or _ _ _ _ _ _ _ (@pt_cmpR _ _ _ _ _ _ _ _ (op_neD (hu60 hr)) (@pe_methD0 _ _ _ _ _ _ _ _ _ _ _ (@pe_callN _ _ _ _ _ _ _ _ _ _ _ C_note_of hr g_law_note_of (@pa_cons _ _ _ _ _ (@pe_var _ 5 _ _ rfl v_law_5 dn__law_told dc__law_told) (@pa_nil _) (star1 rfl)) (by decide) dn_note_of (star1 rfl) nost0) D_told hr (by decide) (by rfl)) (@pe_var _ 5 _ _ rfl v_law_5 dn__law_told dc__law_told) (nomark _)) (@pw_or _ _ _ _ _ _ _ (@pt_not _ _ _ _ (@pt_val _ _ _ (@pe_callC _ _ _ _ _ _ _ _ _ _ _ C_law_refused hr g_law__law_refused (@pa_cons _ _ _ _ _ (@pe_var _ 7 _ _ rfl v_law_7 dn__law_spoilt_here dc__law_spoilt_here) (@pa_nil _) (star1 rfl)) (by decide) dn__law_refused (star1 rfl) nost0) (test1 rfl))) (@pw_or1 _ _ _ _ (@pt_not _ _ _ _ (@pt_val _ _ _ (@pe_callC _ _ _ _ _ _ _ _ _ _ _ C_law_refused_by_base hr g_law__law_refused_by_base (@pa_cons _ _ _ _ _ (@pe_var _ 7 _ _ rfl v_law_7 dn__law_spoilt_here dc__law_spoilt_here) (@pa_nil _) (star1 rfl)) (by decide) dn__law_refused_by_base (star1 rfl) nost0) (test1 rfl))))))) (@pss_one _ _ _ (@ps_ret _ _ _ _ (@pe_bl _ _ _ _))) (@pss_nil _)) (@pss_one _ _ _ (@ps_if _ _ _ _ _ _ _ _ (@pt_cmpR _ _ _ _ _ _ _ _ (op_neD (hu60 hr)) (@pe_methD0 _ _ _ _ _ _ _ _ _ _ _ (@pe_callN _ _ _ _ _ _ _ _ _ _ _ C_note_of hr g_law_note_of (@pa_cons _ _ _ _ _ (@pe_var _ 5 _ _ rfl v_law_5 dn__law_told dc__law_told) (@pa_nil _) (star1 rfl)) (by decide) dn_note_of (star1 rfl) nost0) D_told hr (by decide) (by rfl)) (@pe_var _ 5 _ _ rfl v_law_5 dn__law_told dc__law_told) (nomark _)) (@pss_one _ _ _ (@ps_ret _ _ _ _ (@pe_bl _ _ _ _))) (@pss_nil _))))))))) (by intro _; rfl)) (@pss_one _ _ _ (@ps_ret _ _ _ _ (@pe_bl _ _ _ _)))))), ?_⟩
  simp only [tTurn, rTurnT, tTryS, rCountT, rPop, rRep, tCont, iZipT, tChain3, tFld, sFld, tMake, tMake0, tMethD, tBM0, rUpper, tDict1T, tTryN, rSlS, rMulS, rCatS, iZipL, rInsert, rReverse, tDNewX, tTry, tRaise, iEnumL, iEnumT, iZip, iSeq, iOr, rIx, iStr, rLeS, rJoin, rSlTA, tComp_eq, tComp1, slots, Option.getD_some, Option.getD_none, tYes, tSeq, tAsg, gName, tOp, tUn, tC, tVar, tCB, tCons, tNil, tCall, rI, rI0, rU, tRet, tRetN, tIfS, tTest, tB, tAnd, tOr, tNot, tAndV, tOrV, tNotV, tIf, tChain, tMenu, tPar, tDrop, tTup, tLst, tNext, tSl, tPart, tNoPart, tNever, gTup, gCons, gNil, gSub, rSetL, tBM, rAppend, rEq, rNe, rIsi, rIxL, rIxT, rIxS, rSlL, isi_non_bl, isi_non_int, isi_non_str, isi_non_lst, isi_non_tup, isi_bl_bl, isi_bl_int, isi_bl_str, isi_bl_lst, isi_bl_tup, isi_int_bl, isi_int_int, isi_int_str, isi_int_lst, isi_int_tup, isi_str_bl, isi_str_int, isi_str_str, isi_str_lst, isi_str_tup, isi_lst_bl, isi_lst_int, isi_lst_str, isi_lst_lst, isi_lst_tup, isi_tup_bl, isi_tup_int, isi_tup_str, isi_tup_lst, isi_tup_tup, isi_dct_bl, isi_dct_int, isi_dct_str, isi_dct_lst, isi_dct_tup, Kd_non, Kd_bl, Kd_int, Kd_str, sc_non_non, sc_non_int, sc_int_non, sc_non_bl, sc_bl_non, sc_non_str, sc_str_non, sc_int_int, sc_bl_bl, sc_str_str, sc_int_str, sc_str_int, sc_bl_str, sc_str_bl, decide_true, decide_false, tFor_eq, iList, iTup, iRng1, iRng2, iRng3, rIndexT, tBM0, tBMT, tyK_int, tyK_bool, tyK_str, tyK_list, tyK_tuple, L2.start, cxK, Int.reduceToNat, List.map_cons, List.map_nil, List.length_cons, List.length_nil, Nat.reduceAdd, Nat.reduceSub, Nat.zero_add, List.replicate_succ, List.replicate_zero, List.cons_append, List.nil_append, List.append_nil, List.getElem?_cons_zero, List.getElem?_cons_succ, List.set_cons_zero, List.set_cons_succ, Option.some.injEq, V.int.injEq, V.bl.injEq, V.ref.injEq, V.str.injEq, V.ty.injEq, List.cons.injEq, exists_eq_left', exists_eq_left, exists_eq_right, exists_and_left, exists_and_right, and_true, true_and, and_assoc, exists_const, decide_eq_true_eq, Bool.not_eq_true', Bool.not_true, Bool.not_false, Bool.not_not, decide_eq_false_iff_not, ite_not, Bool.false_eq_true, if_true, if_false, reduceCtorEq, and_false, false_and, exists_false, or_false, false_or, ↓reduceIte, eq_self, reduceIte]
  refine spCell_of hS hl (by decide) (by decide) ⟨_, rfl, (Mth.cell_in _ _).1, fun wl H1 ws S1 nw LW lw nmw => ?_⟩
  refine spCell_of (S1.seq hS) hl (by decide) (by decide) ⟨_, wl, ws, rfl, (Mth.cell_in _ _).1, LW, lw, nmw, fun kl kx ks H2 S2 nk LK TK k1 k4 okk => ?_⟩
  have S02 := S1.trans S2
  have hS2 := S02.seq hS
  refine ⟨_, .inl hS2, by decide, by decide, ?_⟩
  obtain ⟨m, hm, m5, m26⟩ : ∃ m : Int, (if (if (26 : Int) < ((ns.map V.int).length : Int) then 26 else ((ns.map V.int).length : Int)) > 5 then if (26 : Int) < ((ns.map V.int).length : Int) then 26 else ((ns.map V.int).length : Int) else 5) = m ∧ 5 ≤ m ∧ m ≤ 26 := by
    refine ⟨_, rfl, ?_, ?_⟩ <;> repeat (first | omega | split)
  rw [hm]
  clear hm
  refine ⟨by omega, by omega, ?_⟩
  have KA : KnA K H2 kx ks := TpD.kna TK
  replace LW := S2 _ _ LW
  obtain ⟨Pv, hP⟩ : ∃ Pv : Nat → St → Hp → Prop, Pv = fun _ σ H' => ∃ o3 o4 o5 o6 o7, σ = [some (V.ref a), some (.ref wl), some (.ref kl), o3, o4, o5, o6, o7] ∧ Same H2 H' := ⟨_, rfl⟩
  refine forW_range Pv ?_ ?_ ?_
  · rw [hP]
    exact ⟨_, _, _, _, _, rfl, Same.refl _⟩
  · intro i σ H' hi h
    rw [hP] at h
    obtain ⟨o3, o4, o5, o6, o7, rfl, S⟩ := h
    simp only [tTurn, rTurnT, tTryS, rCountT, rPop, rRep, tCont, iZipT, tChain3, tFld, sFld, tMake, tMake0, tMethD, tBM0, rUpper, tDict1T, tTryN, rSlS, rMulS, rCatS, iZipL, rInsert, rReverse, tDNewX, tTry, tRaise, iEnumL, iEnumT, iZip, iSeq, iOr, rIx, iStr, rLeS, rJoin, rSlTA, tComp_eq, tComp1, slots, Option.getD_some, Option.getD_none, tYes, tSeq, tAsg, gName, tOp, tUn, tC, tVar, tCB, tCons, tNil, tCall, rI, rI0, rU, tRet, tRetN, tIfS, tTest, tB, tAnd, tOr, tNot, tAndV, tOrV, tNotV, tIf, tChain, tMenu, tPar, tDrop, tTup, tLst, tNext, tSl, tPart, tNoPart, tNever, gTup, gCons, gNil, gSub, rSetL, tBM, rAppend, rEq, rNe, rIsi, rIxL, rIxT, rIxS, rSlL, isi_non_bl, isi_non_int, isi_non_str, isi_non_lst, isi_non_tup, isi_bl_bl, isi_bl_int, isi_bl_str, isi_bl_lst, isi_bl_tup, isi_int_bl, isi_int_int, isi_int_str, isi_int_lst, isi_int_tup, isi_str_bl, isi_str_int, isi_str_str, isi_str_lst, isi_str_tup, isi_lst_bl, isi_lst_int, isi_lst_str, isi_lst_lst, isi_lst_tup, isi_tup_bl, isi_tup_int, isi_tup_str, isi_tup_lst, isi_tup_tup, isi_dct_bl, isi_dct_int, isi_dct_str, isi_dct_lst, isi_dct_tup, Kd_non, Kd_bl, Kd_int, Kd_str, sc_non_non, sc_non_int, sc_int_non, sc_non_bl, sc_bl_non, sc_non_str, sc_str_non, sc_int_int, sc_bl_bl, sc_str_str, sc_int_str, sc_str_int, sc_bl_str, sc_str_bl, decide_true, decide_false, tFor_eq, iList, iTup, iRng1, iRng2, iRng3, rIndexT, tBM0, tBMT, tyK_int, tyK_bool, tyK_str, tyK_list, tyK_tuple, L2.start, cxK, Int.reduceToNat, List.map_cons, List.map_nil, List.length_cons, List.length_nil, Nat.reduceAdd, Nat.reduceSub, Nat.zero_add, List.replicate_succ, List.replicate_zero, List.cons_append, List.nil_append, List.append_nil, List.getElem?_cons_zero, List.getElem?_cons_succ, List.set_cons_zero, List.set_cons_succ, Option.some.injEq, V.int.injEq, V.bl.injEq, V.ref.injEq, V.str.injEq, V.ty.injEq, List.cons.injEq, exists_eq_left', exists_eq_left, exists_eq_right, exists_and_left, exists_and_right, and_true, true_and, and_assoc, exists_const, decide_eq_true_eq, Bool.not_eq_true', Bool.not_true, Bool.not_false, Bool.not_not, decide_eq_false_iff_not, ite_not, Bool.false_eq_true, if_true, if_false, reduceCtorEq, and_false, false_and, exists_false, or_false, false_or, ↓reduceIte, eq_self, reduceIte]
    refine spCell_of (S.seq hS2) hl (by omega) (by omega) ?_
    obtain ⟨c, hc⟩ : ∃ c, Mth.cell ns (2 + (i : Int)) = c := ⟨_, rfl⟩
    rw [hc]
    clear hc
    have i5 := mix3_in c 9 (show (0 : Int) < 5 by decide)
    obtain ⟨j, hj⟩ : ∃ j : Int, mix3 c 9 5 = j := ⟨_, rfl⟩
    refine ⟨_, _, _, rfl, by decide, by decide, by decide, _, rfl, ?_⟩
    rw [hj] at i5 ⊢
    clear hj
    obtain ⟨d, hd, d1, d5⟩ : ∃ d : Nat, 1 + j = (d : Int) ∧ 1 ≤ d ∧ d ≤ 5 := ⟨(1 + j).toNat, by omega, by omega, by omega⟩
    rw [hd]
    refine ⟨d, d5, c, kl, wl, kx, ks, ws, rfl, d1, S _ _ LK, KA.same S, k1, k4, okk, S _ _ LW, lw, nmw, fun pn J0 n V0 Rn okn dpn => ?_⟩
    have S0 := S.trans V0
    refine ⟨_, rfl, cdiv (by decide) (by decide), _, kl, wl, kx, ks, ws, rfl, S0 _ _ LK, KA.same S0, k1, k4, okk, S0 _ _ LW, lw, nmw, fun vb Jb Vb Bb => ?_⟩
    refine ⟨_, _, _, rfl, by decide, by decide, by decide, rfl, ?_⟩
    by_cases h1 : V.int (mix3 c 10 8) = V.int 1
    · rw [if_pos h1]
      have Sb := S0.trans Vb
      refine ⟨_, kl, wl, kx, ks, ws, rfl, Sb _ _ LK, KA.same Sb, k1, k4, okk, Sb _ _ LW, lw, nmw, fun pp Jp np Vp Rp okp dpp => ?_⟩
      obtain ⟨mm, hmm, m5', m60⟩ : ∃ mm : Nat, [V.int 5, V.int 5, V.int 5, V.int 60][(c % 4).toNat]? = some (.int (mm : Int)) ∧ 5 ≤ mm ∧ mm ≤ 60 := by
        have : c % 4 = 0 ∨ c % 4 = 1 ∨ c % 4 = 2 ∨ c % 4 = 3 := by omega
        rcases this with e | e | e | e <;> rw [e]
        · exact ⟨5, rfl, by decide, by decide⟩
        · exact ⟨5, rfl, by decide, by decide⟩
        · exact ⟨5, rfl, by decide, by decide⟩
        · exact ⟨60, rfl, by decide, by decide⟩
      refine ⟨by decide, _, rfl, by decide, by omega, _, hmm, pp, _, mm, np, rfl, Rp, okp, dpp, m60, fun vd Jd Vd Bd => ?_⟩
      have V1 : Same J0 Jd := Vb.trans (Vp.trans Vd)
      have B : ∀ e, 1 ≤ e → e ≤ 5 → NBad K Jd e vd := fun e _ h5 => Bd e (by omega)
      refine ⟨_, rfl, cdiv (by decide) (by decide), pn, _, vd, n, rfl, Rn.same V1, okn, by omega, B, fun v J1 W1 B1 => ?_⟩
      have V2 := V1.trans W1
      have B5 := B1 5 (by decide) (by decide)
      refine .inl ⟨pn, n, rfl, Rn.same V2, okn, by omega, fun a1 J2 W2 O2 => ⟨a1, rfl, told_byN (d := 5) O2 (by omega) fun pt J3 W3 R3 => ?_⟩⟩
      have W23 := W2.trans W3
      have V3 := V2.trans W23
      refine rEqD_self R3 (Rn.same V3) (flat_note okn (by omega)) ⟨_, rfl, ?_⟩
      rw [if_neg (by decide)]
      refine ⟨v, rfl, B5.same W23, fun J4 W4 => ⟨_, rfl, ?_⟩⟩
      rw [if_neg (by decide)]
      refine ⟨v, rfl, B5.same (W23.trans W4), fun J5 W5 => ⟨_, rfl, ?_⟩⟩
      rw [if_neg (by decide)]
      have V5 := V3.trans (W4.trans W5)
      refine .inl ⟨pn, n, rfl, Rn.same V5, okn, by omega, fun a2 J6 W6 O6 => ⟨a2, rfl, told_byN (d := 5) O6 (by omega) fun pt2 J7 W7 R7 => ?_⟩⟩
      have V7 := V5.trans (W6.trans W7)
      refine rEqD_self R7 (Rn.same V7) (flat_note okn (by omega)) ⟨_, rfl, ?_⟩
      rw [if_neg (by decide), hP]
      exact ⟨_, _, _, _, _, rfl, S0.trans V7⟩
    · rw [if_neg h1]
      have V1 : Same J0 Jb := Vb
      have B : ∀ e, 1 ≤ e → e ≤ 5 → NBad K Jb e vb := fun e he _ => by
        obtain ⟨e', rfl⟩ : ∃ e', e = e' + 1 := ⟨e - 1, by omega⟩
        exact Bb e'
      refine ⟨_, rfl, cdiv (by decide) (by decide), pn, _, vb, n, rfl, Rn.same V1, okn, by omega, B, fun v J1 W1 B1 => ?_⟩
      have V2 := V1.trans W1
      have B5 := B1 5 (by decide) (by decide)
      refine .inl ⟨pn, n, rfl, Rn.same V2, okn, by omega, fun a1 J2 W2 O2 => ⟨a1, rfl, told_byN (d := 5) O2 (by omega) fun pt J3 W3 R3 => ?_⟩⟩
      have W23 := W2.trans W3
      have V3 := V2.trans W23
      refine rEqD_self R3 (Rn.same V3) (flat_note okn (by omega)) ⟨_, rfl, ?_⟩
      rw [if_neg (by decide)]
      refine ⟨v, rfl, B5.same W23, fun J4 W4 => ⟨_, rfl, ?_⟩⟩
      rw [if_neg (by decide)]
      refine ⟨v, rfl, B5.same (W23.trans W4), fun J5 W5 => ⟨_, rfl, ?_⟩⟩
      rw [if_neg (by decide)]
      have V5 := V3.trans (W4.trans W5)
      refine .inl ⟨pn, n, rfl, Rn.same V5, okn, by omega, fun a2 J6 W6 O6 => ⟨a2, rfl, told_byN (d := 5) O6 (by omega) fun pt2 J7 W7 R7 => ?_⟩⟩
      have V7 := V5.trans (W6.trans W7)
      refine rEqD_self R7 (Rn.same V7) (flat_note okn (by omega)) ⟨_, rfl, ?_⟩
      rw [if_neg (by decide), hP]
      exact ⟨_, _, _, _, _, rfl, S0.trans V7⟩
  · intro σ H' h
    exact q _
end

theorem all_mk {l : PySem.W.OpenLaw} {w : World} {K : PySem.W.Frag} {h : Heap} {mg : Str → Option Value} {fa f1 f2 f3 f4 f5 f6 f7 f8 f9 f10 f11 f12 f13 f14 f15 f16 f17 f18 f19 f20 f21 f22 f23 f24 f25 f26 f27 f28 f29 f30 f31 f32 f33 f34 : Addr} (X : K.In h) (G : h.Ns mainGlobals mg) (hfa : mg "law" = some (.ref fa))
    {c_TariffError c_NoNumber c_NoBands c_NoKinds c_NoGoods c_NoNote c_NoTree c_NoneClaims c_TwoClaim c_NoRule c_NoLot c_NoQuota c_NoRate c_NoEntry c_NoDeed c_NoRow c_Note c_OfTwo c_Anything c_Made c_Used c_Chief c_Over c_Both c_Either c_But : Addr}
    {od1 an1 od2 an2 od3 an3 od4 an4 od5 an5 od6 an6 od7 an7 od8 an8 od9 an9 od10 an10 od11 an11 od12 an12 od13 an13 od14 an14 od15 an15 od16 an16 od17 an17 od18 an18 od19 an19 od20 an20 od21 an21 od22 an22 od23 an23 od24 an24 od25 an25 od26 an26 od27 an27 od28 an28 od29 an29 od30 an30 od31 an31 od32 an32 od33 an33 od34 an34 : Option Addr} {sl1 sl2 sl3 sl4 sl5 sl6 sl7 sl8 sl9 sl10 sl11 sl12 sl13 sl14 sl15 sl16 sl17 sl18 sl19 sl20 sl21 sl22 sl23 sl24 sl25 sl26 sl27 sl28 sl29 sl30 sl31 sl32 sl33 sl34 : Array (Option Value)} {oc1 kV1 dc1 pm1 cd1 ct1 oc2 kV2 dc2 pm2 cd2 ct2 oc3 kV3 dc3 pm3 cd3 ct3 oc4 kV4 dc4 pm4 cd4 ct4 oc5 kV5 dc5 pm5 cd5 ct5 oc6 kV6 dc6 pm6 cd6 ct6 oc7 kV7 dc7 pm7 cd7 ct7 oc8 kV8 dc8 pm8 cd8 ct8 oc9 kV9 dc9 pm9 cd9 ct9 oc10 kV10 dc10 pm10 cd10 ct10 oc11 kV11 dc11 pm11 cd11 ct11 oc12 kV12 dc12 pm12 cd12 ct12 oc13 kV13 dc13 pm13 cd13 ct13 oc14 kV14 dc14 pm14 cd14 ct14 oc15 kV15 dc15 pm15 cd15 ct15 oc16 kV16 dc16 pm16 cd16 ct16 oc17 kV17 dc17 pm17 cd17 ct17 oc18 kV18 dc18 pm18 cd18 ct18 oc19 kV19 dc19 pm19 cd19 ct19 oc20 kV20 dc20 pm20 cd20 ct20 oc21 kV21 dc21 pm21 cd21 ct21 oc22 kV22 dc22 pm22 cd22 ct22 oc23 kV23 dc23 pm23 cd23 ct23 oc24 kV24 dc24 pm24 cd24 ct24 oc25 kV25 dc25 pm25 cd25 ct25 oc26 kV26 dc26 pm26 cd26 ct26 oc27 kV27 dc27 pm27 cd27 ct27 oc28 kV28 dc28 pm28 cd28 ct28 oc29 kV29 dc29 pm29 cd29 ct29 oc30 kV30 dc30 pm30 cd30 ct30 oc31 kV31 dc31 pm31 cd31 ct31 oc32 kV32 dc32 pm32 cd32 ct32 oc33 kV33 dc33 pm33 cd33 ct33 oc34 kV34 dc34 pm34 cd34 ct34 : Value}
    (n_TariffError : PySem.W.nsIn K mainGlobals "TariffError" = some (some (.ref c_TariffError)))
    (n_NoNumber : PySem.W.nsIn K mainGlobals "NoNumber" = some (some (.ref c_NoNumber)))
    (n_NoBands : PySem.W.nsIn K mainGlobals "NoBands" = some (some (.ref c_NoBands)))
    (n_NoKinds : PySem.W.nsIn K mainGlobals "NoKinds" = some (some (.ref c_NoKinds)))
    (n_NoGoods : PySem.W.nsIn K mainGlobals "NoGoods" = some (some (.ref c_NoGoods)))
    (n_NoNote : PySem.W.nsIn K mainGlobals "NoNote" = some (some (.ref c_NoNote)))
    (n_NoTree : PySem.W.nsIn K mainGlobals "NoTree" = some (some (.ref c_NoTree)))
    (n_NoneClaims : PySem.W.nsIn K mainGlobals "NoneClaims" = some (some (.ref c_NoneClaims)))
    (n_TwoClaim : PySem.W.nsIn K mainGlobals "TwoClaim" = some (some (.ref c_TwoClaim)))
    (n_NoRule : PySem.W.nsIn K mainGlobals "NoRule" = some (some (.ref c_NoRule)))
    (n_NoLot : PySem.W.nsIn K mainGlobals "NoLot" = some (some (.ref c_NoLot)))
    (n_NoQuota : PySem.W.nsIn K mainGlobals "NoQuota" = some (some (.ref c_NoQuota)))
    (n_NoRate : PySem.W.nsIn K mainGlobals "NoRate" = some (some (.ref c_NoRate)))
    (n_NoEntry : PySem.W.nsIn K mainGlobals "NoEntry" = some (some (.ref c_NoEntry)))
    (n_NoDeed : PySem.W.nsIn K mainGlobals "NoDeed" = some (some (.ref c_NoDeed)))
    (n_NoRow : PySem.W.nsIn K mainGlobals "NoRow" = some (some (.ref c_NoRow)))
    (n_Note : PySem.W.nsIn K mainGlobals "Note" = some (some (.ref c_Note)))
    (n_OfTwo : PySem.W.nsIn K mainGlobals "OfTwo" = some (some (.ref c_OfTwo)))
    (n_Anything : PySem.W.nsIn K mainGlobals "Anything" = some (some (.ref c_Anything)))
    (n_Made : PySem.W.nsIn K mainGlobals "Made" = some (some (.ref c_Made)))
    (n_Used : PySem.W.nsIn K mainGlobals "Used" = some (some (.ref c_Used)))
    (n_Chief : PySem.W.nsIn K mainGlobals "Chief" = some (some (.ref c_Chief)))
    (n_Over : PySem.W.nsIn K mainGlobals "Over" = some (some (.ref c_Over)))
    (n_Both : PySem.W.nsIn K mainGlobals "Both" = some (some (.ref c_Both)))
    (n_Either : PySem.W.nsIn K mainGlobals "Either" = some (some (.ref c_Either)))
    (n_But : PySem.W.nsIn K mainGlobals "But" = some (some (.ref c_But)))
    (a1 : PySem.W.nsIn K mainGlobals "is_name" = some (some (.ref f1))) (l1 : K.lookup f1 = some ⟨oc1, od1, .func (PySem.W.fnOf "is_name" "is_name" (defArgs s_is_name) (defBody s_is_name) (defScope s_is_name) .none kV1 dc1 pm1 an1 cd1 ct1), sl1⟩) (c1 : PySem.W.codeIn K cd1 "is_name" = true) (k1 : PySem.W.keepIn K (.ref f1) = true)
    (a2 : PySem.W.nsIn K mainGlobals "is_kind" = some (some (.ref f2))) (l2 : K.lookup f2 = some ⟨oc2, od2, .func (PySem.W.fnOf "is_kind" "is_kind" (defArgs s_is_kind) (defBody s_is_kind) (defScope s_is_kind) .none kV2 dc2 pm2 an2 cd2 ct2), sl2⟩) (c2 : PySem.W.codeIn K cd2 "is_kind" = true) (k2 : PySem.W.keepIn K (.ref f2) = true)
    (a3 : PySem.W.nsIn K mainGlobals "_law_cell" = some (some (.ref f3))) (l3 : K.lookup f3 = some ⟨oc3, od3, .func (PySem.W.fnOf "_law_cell" "_law_cell" (defArgs s_law_cell) (defBody s_law_cell) (defScope s_law_cell) .none kV3 dc3 pm3 an3 cd3 ct3), sl3⟩) (c3 : PySem.W.codeIn K cd3 "_law_cell" = true) (k3 : PySem.W.keepIn K (.ref f3) = true)
    (a4 : PySem.W.nsIn K mainGlobals "_law_mix" = some (some (.ref f4))) (l4 : K.lookup f4 = some ⟨oc4, od4, .func (PySem.W.fnOf "_law_mix" "_law_mix" (defArgs s_law_mix) (defBody s_law_mix) (defScope s_law_mix) .none kV4 dc4 pm4 an4 cd4 ct4), sl4⟩) (c4 : PySem.W.codeIn K cd4 "_law_mix" = true) (k4 : PySem.W.keepIn K (.ref f4) = true)
    (a5 : PySem.W.nsIn K mainGlobals "_law_words" = some (some (.ref f5))) (l5 : K.lookup f5 = some ⟨oc5, od5, .func (PySem.W.fnOf "_law_words" "_law_words" (defArgs s_law_words) (defBody s_law_words) (defScope s_law_words) .none kV5 dc5 pm5 an5 cd5 ct5), sl5⟩) (c5 : PySem.W.codeIn K cd5 "_law_words" = true) (k5 : PySem.W.keepIn K (.ref f5) = true)
    (a6 : PySem.W.nsIn K mainGlobals "_law_kinds" = some (some (.ref f6))) (l6 : K.lookup f6 = some ⟨oc6, od6, .func (PySem.W.fnOf "_law_kinds" "_law_kinds" (defArgs s_law_kinds) (defBody s_law_kinds) (defScope s_law_kinds) .none kV6 dc6 pm6 an6 cd6 ct6), sl6⟩) (c6 : PySem.W.codeIn K cd6 "_law_kinds" = true) (k6 : PySem.W.keepIn K (.ref f6) = true)
    (a7 : PySem.W.nsIn K mainGlobals "_law_plain" = some (some (.ref f7))) (l7 : K.lookup f7 = some ⟨oc7, od7, .func (PySem.W.fnOf "_law_plain" "_law_plain" (defArgs s_law_plain) (defBody s_law_plain) (defScope s_law_plain) .none kV7 dc7 pm7 an7 cd7 ct7), sl7⟩) (c7 : PySem.W.codeIn K cd7 "_law_plain" = true) (k7 : PySem.W.keepIn K (.ref f7) = true)
    (a8 : PySem.W.nsIn K mainGlobals "_law_note" = some (some (.ref f8))) (l8 : K.lookup f8 = some ⟨oc8, od8, .func (PySem.W.fnOf "_law_note" "_law_note" (defArgs s_law_note) (defBody s_law_note) (defScope s_law_note) .none kV8 dc8 pm8 an8 cd8 ct8), sl8⟩) (c8 : PySem.W.codeIn K cd8 "_law_note" = true) (k8 : PySem.W.keepIn K (.ref f8) = true)
    (a9 : PySem.W.findIn K (.ref c_Made) "__init__" = some (some (.ref f9))) (l9 : K.lookup f9 = some ⟨oc9, od9, .func (PySem.W.fnOf "__init__" "Made.__init__" (defArgs s_Made_init) (defBody s_Made_init) (defScope s_Made_init) .none kV9 dc9 pm9 an9 cd9 ct9), sl9⟩) (c9 : PySem.W.codeIn K cd9 "Made.__init__" = true) (k9 : PySem.W.keepIn K (.ref f9) = true)
    (t9 : PySem.W.isFn K (.ref f9) = true)
    (a10 : PySem.W.findIn K (.ref c_Used) "__init__" = some (some (.ref f10))) (l10 : K.lookup f10 = some ⟨oc10, od10, .func (PySem.W.fnOf "__init__" "Used.__init__" (defArgs s_Used_init) (defBody s_Used_init) (defScope s_Used_init) .none kV10 dc10 pm10 an10 cd10 ct10), sl10⟩) (c10 : PySem.W.codeIn K cd10 "Used.__init__" = true) (k10 : PySem.W.keepIn K (.ref f10) = true)
    (t10 : PySem.W.isFn K (.ref f10) = true)
    (a11 : PySem.W.findIn K (.ref c_Chief) "__init__" = some (some (.ref f11))) (l11 : K.lookup f11 = some ⟨oc11, od11, .func (PySem.W.fnOf "__init__" "Chief.__init__" (defArgs s_Chief_init) (defBody s_Chief_init) (defScope s_Chief_init) .none kV11 dc11 pm11 an11 cd11 ct11), sl11⟩) (c11 : PySem.W.codeIn K cd11 "Chief.__init__" = true) (k11 : PySem.W.keepIn K (.ref f11) = true)
    (t11 : PySem.W.isFn K (.ref f11) = true)
    (a12 : PySem.W.findIn K (.ref c_Over) "__init__" = some (some (.ref f12))) (l12 : K.lookup f12 = some ⟨oc12, od12, .func (PySem.W.fnOf "__init__" "Over.__init__" (defArgs s_Over_init) (defBody s_Over_init) (defScope s_Over_init) .none kV12 dc12 pm12 an12 cd12 ct12), sl12⟩) (c12 : PySem.W.codeIn K cd12 "Over.__init__" = true) (k12 : PySem.W.keepIn K (.ref f12) = true)
    (t12 : PySem.W.isFn K (.ref f12) = true)
    (a13 : PySem.W.findIn K (.ref c_OfTwo) "__init__" = some (some (.ref f13))) (l13 : K.lookup f13 = some ⟨oc13, od13, .func (PySem.W.fnOf "__init__" "OfTwo.__init__" (defArgs s_OfTwo_init) (defBody s_OfTwo_init) (defScope s_OfTwo_init) .none kV13 dc13 pm13 an13 cd13 ct13), sl13⟩) (c13 : PySem.W.codeIn K cd13 "OfTwo.__init__" = true) (k13 : PySem.W.keepIn K (.ref f13) = true)
    (t13 : PySem.W.isFn K (.ref f13) = true)
    (a14 : PySem.W.findIn K (.ref c_Anything) "told" = some (some (.ref f14))) (l14 : K.lookup f14 = some ⟨oc14, od14, .func (PySem.W.fnOf "told" "Anything.told" (defArgs s_Anything_told) (defBody s_Anything_told) (defScope s_Anything_told) .none kV14 dc14 pm14 an14 cd14 ct14), sl14⟩) (c14 : PySem.W.codeIn K cd14 "Anything.told" = true) (k14 : PySem.W.keepIn K (.ref f14) = true)
    (t14 : PySem.W.isFn K (.ref f14) = true)
    (a15 : PySem.W.findIn K (.ref c_Made) "told" = some (some (.ref f15))) (l15 : K.lookup f15 = some ⟨oc15, od15, .func (PySem.W.fnOf "told" "Made.told" (defArgs s_Made_told) (defBody s_Made_told) (defScope s_Made_told) .none kV15 dc15 pm15 an15 cd15 ct15), sl15⟩) (c15 : PySem.W.codeIn K cd15 "Made.told" = true) (k15 : PySem.W.keepIn K (.ref f15) = true)
    (t15 : PySem.W.isFn K (.ref f15) = true)
    (a16 : PySem.W.findIn K (.ref c_Used) "told" = some (some (.ref f16))) (l16 : K.lookup f16 = some ⟨oc16, od16, .func (PySem.W.fnOf "told" "Used.told" (defArgs s_Used_told) (defBody s_Used_told) (defScope s_Used_told) .none kV16 dc16 pm16 an16 cd16 ct16), sl16⟩) (c16 : PySem.W.codeIn K cd16 "Used.told" = true) (k16 : PySem.W.keepIn K (.ref f16) = true)
    (t16 : PySem.W.isFn K (.ref f16) = true)
    (a17 : PySem.W.findIn K (.ref c_Chief) "told" = some (some (.ref f17))) (l17 : K.lookup f17 = some ⟨oc17, od17, .func (PySem.W.fnOf "told" "Chief.told" (defArgs s_Chief_told) (defBody s_Chief_told) (defScope s_Chief_told) .none kV17 dc17 pm17 an17 cd17 ct17), sl17⟩) (c17 : PySem.W.codeIn K cd17 "Chief.told" = true) (k17 : PySem.W.keepIn K (.ref f17) = true)
    (t17 : PySem.W.isFn K (.ref f17) = true)
    (a18 : PySem.W.findIn K (.ref c_Over) "told" = some (some (.ref f18))) (l18 : K.lookup f18 = some ⟨oc18, od18, .func (PySem.W.fnOf "told" "Over.told" (defArgs s_Over_told) (defBody s_Over_told) (defScope s_Over_told) .none kV18 dc18 pm18 an18 cd18 ct18), sl18⟩) (c18 : PySem.W.codeIn K cd18 "Over.told" = true) (k18 : PySem.W.keepIn K (.ref f18) = true)
    (t18 : PySem.W.isFn K (.ref f18) = true)
    (a19 : PySem.W.findIn K (.ref c_Both) "told" = some (some (.ref f19))) (l19 : K.lookup f19 = some ⟨oc19, od19, .func (PySem.W.fnOf "told" "Both.told" (defArgs s_Both_told) (defBody s_Both_told) (defScope s_Both_told) .none kV19 dc19 pm19 an19 cd19 ct19), sl19⟩) (c19 : PySem.W.codeIn K cd19 "Both.told" = true) (k19 : PySem.W.keepIn K (.ref f19) = true)
    (t19 : PySem.W.isFn K (.ref f19) = true)
    (a20 : PySem.W.findIn K (.ref c_Either) "told" = some (some (.ref f20))) (l20 : K.lookup f20 = some ⟨oc20, od20, .func (PySem.W.fnOf "told" "Either.told" (defArgs s_Either_told) (defBody s_Either_told) (defScope s_Either_told) .none kV20 dc20 pm20 an20 cd20 ct20), sl20⟩) (c20 : PySem.W.codeIn K cd20 "Either.told" = true) (k20 : PySem.W.keepIn K (.ref f20) = true)
    (t20 : PySem.W.isFn K (.ref f20) = true)
    (a21 : PySem.W.findIn K (.ref c_But) "told" = some (some (.ref f21))) (l21 : K.lookup f21 = some ⟨oc21, od21, .func (PySem.W.fnOf "told" "But.told" (defArgs s_But_told) (defBody s_But_told) (defScope s_But_told) .none kV21 dc21 pm21 an21 cd21 ct21), sl21⟩) (c21 : PySem.W.codeIn K cd21 "But.told" = true) (k21 : PySem.W.keepIn K (.ref f21) = true)
    (t21 : PySem.W.isFn K (.ref f21) = true)
    (a22 : PySem.W.nsIn K mainGlobals "note_of_name" = some (some (.ref f22))) (l22 : K.lookup f22 = some ⟨oc22, od22, .func (PySem.W.fnOf "note_of_name" "note_of_name" (defArgs s_note_of_name) (defBody s_note_of_name) (defScope s_note_of_name) .none kV22 dc22 pm22 an22 cd22 ct22), sl22⟩) (c22 : PySem.W.codeIn K cd22 "note_of_name" = true) (k22 : PySem.W.keepIn K (.ref f22) = true)
    (a23 : PySem.W.nsIn K mainGlobals "note_of_notes" = some (some (.ref f23))) (l23 : K.lookup f23 = some ⟨oc23, od23, .func (PySem.W.fnOf "note_of_notes" "note_of_notes" (defArgs s_note_of_notes) (defBody s_note_of_notes) (defScope s_note_of_notes) .none kV23 dc23 pm23 an23 cd23 ct23), sl23⟩) (c23 : PySem.W.codeIn K cd23 "note_of_notes" = true) (k23 : PySem.W.keepIn K (.ref f23) = true)
    (a24 : PySem.W.nsIn K mainGlobals "note_of_one" = some (some (.ref f24))) (l24 : K.lookup f24 = some ⟨oc24, od24, .func (PySem.W.fnOf "note_of_one" "note_of_one" (defArgs s_note_of_one) (defBody s_note_of_one) (defScope s_note_of_one) .none kV24 dc24 pm24 an24 cd24 ct24), sl24⟩) (c24 : PySem.W.codeIn K cd24 "note_of_one" = true) (k24 : PySem.W.keepIn K (.ref f24) = true)
    (a25 : PySem.W.nsIn K mainGlobals "note_within" = some (some (.ref f25))) (l25 : K.lookup f25 = some ⟨oc25, od25, .func (PySem.W.fnOf "note_within" "note_within" (defArgs s_note_within) (defBody s_note_within) (defScope s_note_within) .none kV25 dc25 pm25 an25 cd25 ct25), sl25⟩) (c25 : PySem.W.codeIn K cd25 "note_within" = true) (k25 : PySem.W.keepIn K (.ref f25) = true)
    (a26 : PySem.W.nsIn K mainGlobals "note_of" = some (some (.ref f26))) (l26 : K.lookup f26 = some ⟨oc26, od26, .func (PySem.W.fnOf "note_of" "note_of" (defArgs s_note_of) (defBody s_note_of) (defScope s_note_of) .none kV26 dc26 pm26 an26 cd26 ct26), sl26⟩) (c26 : PySem.W.codeIn K cd26 "note_of" = true) (k26 : PySem.W.keepIn K (.ref f26) = true)
    (a27 : PySem.W.nsIn K mainGlobals "_law_bad_name" = some (some (.ref f27))) (l27 : K.lookup f27 = some ⟨oc27, od27, .func (PySem.W.fnOf "_law_bad_name" "_law_bad_name" (defArgs s_law_bad_name) (defBody s_law_bad_name) (defScope s_law_bad_name) .none kV27 dc27 pm27 an27 cd27 ct27), sl27⟩) (c27 : PySem.W.codeIn K cd27 "_law_bad_name" = true) (k27 : PySem.W.keepIn K (.ref f27) = true)
    (a28 : PySem.W.nsIn K mainGlobals "_law_bad" = some (some (.ref f28))) (l28 : K.lookup f28 = some ⟨oc28, od28, .func (PySem.W.fnOf "_law_bad" "_law_bad" (defArgs s_law_bad) (defBody s_law_bad) (defScope s_law_bad) .none kV28 dc28 pm28 an28 cd28 ct28), sl28⟩) (c28 : PySem.W.codeIn K cd28 "_law_bad" = true) (k28 : PySem.W.keepIn K (.ref f28) = true)
    (a29 : PySem.W.nsIn K mainGlobals "_law_deeper" = some (some (.ref f29))) (l29 : K.lookup f29 = some ⟨oc29, od29, .func (PySem.W.fnOf "_law_deeper" "_law_deeper" (defArgs s_law_deeper) (defBody s_law_deeper) (defScope s_law_deeper) .none kV29 dc29 pm29 an29 cd29 ct29), sl29⟩) (c29 : PySem.W.codeIn K cd29 "_law_deeper" = true) (k29 : PySem.W.keepIn K (.ref f29) = true)
    (a30 : PySem.W.nsIn K mainGlobals "_law_spoilt" = some (some (.ref f30))) (l30 : K.lookup f30 = some ⟨oc30, od30, .func (PySem.W.fnOf "_law_spoilt" "_law_spoilt" (defArgs s_law_spoilt) (defBody s_law_spoilt) (defScope s_law_spoilt) .none kV30 dc30 pm30 an30 cd30 ct30), sl30⟩) (c30 : PySem.W.codeIn K cd30 "_law_spoilt" = true) (k30 : PySem.W.keepIn K (.ref f30) = true)
    (a31 : PySem.W.nsIn K mainGlobals "_law_other" = some (some (.ref f31))) (l31 : K.lookup f31 = some ⟨oc31, od31, .func (PySem.W.fnOf "_law_other" "_law_other" (defArgs s_law_other) (defBody s_law_other) (defScope s_law_other) .none kV31 dc31 pm31 an31 cd31 ct31), sl31⟩) (c31 : PySem.W.codeIn K cd31 "_law_other" = true) (k31 : PySem.W.keepIn K (.ref f31) = true)
    (a32 : PySem.W.nsIn K mainGlobals "_law_refused" = some (some (.ref f32))) (l32 : K.lookup f32 = some ⟨oc32, od32, .func (PySem.W.fnOf "_law_refused" "_law_refused" (defArgs s_law_refused) (defBody s_law_refused) (defScope s_law_refused) .none kV32 dc32 pm32 an32 cd32 ct32), sl32⟩) (c32 : PySem.W.codeIn K cd32 "_law_refused" = true) (k32 : PySem.W.keepIn K (.ref f32) = true)
    (a33 : PySem.W.nsIn K mainGlobals "_law_refused_by_base" = some (some (.ref f33))) (l33 : K.lookup f33 = some ⟨oc33, od33, .func (PySem.W.fnOf "_law_refused_by_base" "_law_refused_by_base" (defArgs s_law_refused_by_base) (defBody s_law_refused_by_base) (defScope s_law_refused_by_base) .none kV33 dc33 pm33 an33 cd33 ct33), sl33⟩) (c33 : PySem.W.codeIn K cd33 "_law_refused_by_base" = true) (k33 : PySem.W.keepIn K (.ref f33) = true)
    (a34 : PySem.W.nsIn K mainGlobals "law" = some (some (.ref f34))) (l34 : K.lookup f34 = some ⟨oc34, od34, .func (PySem.W.fnOf "law" "law" (defArgs s_law) (defBody s_law) (defScope s_law) .none kV34 dc34 pm34 an34 cd34 ct34), sl34⟩) (c34 : PySem.W.codeIn K cd34 "law" = true) (k34 : PySem.W.keepIn K (.ref f34) = true)
    (pg_Anything : PySem.W.plainGet K c_Anything Str.empty = true)
    (hd_Anything : PySem.W.hasDictIn K c_Anything = true)
    (po_Anything : PySem.W.plainOver K c_Anything = true)
    (sa_Anything : PySem.W.findIn K (.ref c_Anything) "__setattr__" = some (some (.builtin "object.__setattr__")))
    (ia_Anything : PySem.W.findIn K (.ref c_Anything) "__class__" = some (some (.builtin "object.__class__")))
    (im_Anything : PySem.W.mroIn K c_Anything (.type "object") = some true)
    (mk_Anything : PySem.W.makesIn K c_Anything = true)
    (kc_Anything : PySem.W.keepIn K (.ref c_Anything) = true)
    (in_Anything : PySem.W.findIn K (.ref c_Anything) "__init__" = some (some (.builtin "object.__init__")))
    (pg_Made : PySem.W.plainGet K c_Made Str.empty = true)
    (hd_Made : PySem.W.hasDictIn K c_Made = true)
    (po_Made : PySem.W.plainOver K c_Made = true)
    (sa_Made : PySem.W.findIn K (.ref c_Made) "__setattr__" = some (some (.builtin "object.__setattr__")))
    (ia_Made : PySem.W.findIn K (.ref c_Made) "__class__" = some (some (.builtin "object.__class__")))
    (im_Made : PySem.W.mroIn K c_Made (.type "object") = some true)
    (mk_Made : PySem.W.makesIn K c_Made = true)
    (kc_Made : PySem.W.keepIn K (.ref c_Made) = true)
    (pg_Used : PySem.W.plainGet K c_Used Str.empty = true)
    (hd_Used : PySem.W.hasDictIn K c_Used = true)
    (po_Used : PySem.W.plainOver K c_Used = true)
    (sa_Used : PySem.W.findIn K (.ref c_Used) "__setattr__" = some (some (.builtin "object.__setattr__")))
    (ia_Used : PySem.W.findIn K (.ref c_Used) "__class__" = some (some (.builtin "object.__class__")))
    (im_Used : PySem.W.mroIn K c_Used (.type "object") = some true)
    (mk_Used : PySem.W.makesIn K c_Used = true)
    (kc_Used : PySem.W.keepIn K (.ref c_Used) = true)
    (pg_Chief : PySem.W.plainGet K c_Chief Str.empty = true)
    (hd_Chief : PySem.W.hasDictIn K c_Chief = true)
    (po_Chief : PySem.W.plainOver K c_Chief = true)
    (sa_Chief : PySem.W.findIn K (.ref c_Chief) "__setattr__" = some (some (.builtin "object.__setattr__")))
    (ia_Chief : PySem.W.findIn K (.ref c_Chief) "__class__" = some (some (.builtin "object.__class__")))
    (im_Chief : PySem.W.mroIn K c_Chief (.type "object") = some true)
    (mk_Chief : PySem.W.makesIn K c_Chief = true)
    (kc_Chief : PySem.W.keepIn K (.ref c_Chief) = true)
    (pg_Over : PySem.W.plainGet K c_Over Str.empty = true)
    (hd_Over : PySem.W.hasDictIn K c_Over = true)
    (po_Over : PySem.W.plainOver K c_Over = true)
    (sa_Over : PySem.W.findIn K (.ref c_Over) "__setattr__" = some (some (.builtin "object.__setattr__")))
    (ia_Over : PySem.W.findIn K (.ref c_Over) "__class__" = some (some (.builtin "object.__class__")))
    (im_Over : PySem.W.mroIn K c_Over (.type "object") = some true)
    (mk_Over : PySem.W.makesIn K c_Over = true)
    (kc_Over : PySem.W.keepIn K (.ref c_Over) = true)
    (pg_Both : PySem.W.plainGet K c_Both Str.empty = true)
    (hd_Both : PySem.W.hasDictIn K c_Both = true)
    (po_Both : PySem.W.plainOver K c_Both = true)
    (sa_Both : PySem.W.findIn K (.ref c_Both) "__setattr__" = some (some (.builtin "object.__setattr__")))
    (ia_Both : PySem.W.findIn K (.ref c_Both) "__class__" = some (some (.builtin "object.__class__")))
    (im_Both : PySem.W.mroIn K c_Both (.type "object") = some true)
    (mk_Both : PySem.W.makesIn K c_Both = true)
    (kc_Both : PySem.W.keepIn K (.ref c_Both) = true)
    (pg_Either : PySem.W.plainGet K c_Either Str.empty = true)
    (hd_Either : PySem.W.hasDictIn K c_Either = true)
    (po_Either : PySem.W.plainOver K c_Either = true)
    (sa_Either : PySem.W.findIn K (.ref c_Either) "__setattr__" = some (some (.builtin "object.__setattr__")))
    (ia_Either : PySem.W.findIn K (.ref c_Either) "__class__" = some (some (.builtin "object.__class__")))
    (im_Either : PySem.W.mroIn K c_Either (.type "object") = some true)
    (mk_Either : PySem.W.makesIn K c_Either = true)
    (kc_Either : PySem.W.keepIn K (.ref c_Either) = true)
    (pg_But : PySem.W.plainGet K c_But Str.empty = true)
    (hd_But : PySem.W.hasDictIn K c_But = true)
    (po_But : PySem.W.plainOver K c_But = true)
    (sa_But : PySem.W.findIn K (.ref c_But) "__setattr__" = some (some (.builtin "object.__setattr__")))
    (ia_But : PySem.W.findIn K (.ref c_But) "__class__" = some (some (.builtin "object.__class__")))
    (im_But : PySem.W.mroIn K c_But (.type "object") = some true)
    (mk_But : PySem.W.makesIn K c_But = true)
    (kc_But : PySem.W.keepIn K (.ref c_But) = true)
    (oget : PySem.W.specialIn K (.builtin "object.__class__") "__get__" = some (some (.builtin "getset_descriptor.__get__")))
    (otakes : PySem.W.takesIn K (.builtin "object.__class__") = some true)
    (e_NoNote : PySem.W.excIn K c_NoNote bmVE "ValueError.__new__" = true)
    (ci_NoNote : PySem.W.isClsIn K c_NoNote = true)
    (ct_NoNote : PySem.W.typeIn K (.ref c_NoNote) = some (.type "type"))
    (cb_NoNote : PySem.W.mroIn K c_NoNote (.type "BaseException") = some true)
    (ci_TariffError : PySem.W.isClsIn K c_TariffError = true)
    (ct_TariffError : PySem.W.typeIn K (.ref c_TariffError) = some (.type "type"))
    (cb_TariffError : PySem.W.mroIn K c_TariffError (.type "BaseException") = some true)
    (xga_NoNote : PySem.W.findIn K (.ref c_NoNote) "__getattribute__" = some (some (.builtin "BaseException.__getattribute__")))
    (xgt_NoNote : PySem.W.findIn K (.ref c_NoNote) "__getattr__" = some none)
    (xca_NoNote : PySem.W.findIn K (.ref c_NoNote) "__class__" = some (some (.builtin "object.__class__")))
    (xcn_NoNote : PySem.W.specialIn K (.builtin "object.__class__") "__get__" = some (some (.builtin "getset_descriptor.__get__")))
    (xtk_NoNote : PySem.W.takesIn K (.builtin "object.__class__") = some true)
    (xmo_NoNote : PySem.W.mroIn K c_NoNote (.type "object") = some true)
    (xmb_NoNote : PySem.W.mroIn K c_NoNote (.type "BaseException") = some true)
    (xis_NoNote : PySem.W.isClsIn K c_NoNote = true)
    (sub1 : PySem.W.subIn K (.ref c_NoNote) (.ref c_NoNote) = some true)
    (sub2 : PySem.W.subIn K (.ref c_NoNote) (.ref c_TariffError) = some true)
    (q1 : PySem.W.kitOne K (.ref c_NoNote) (.ref c_TariffError) = some true)
    (q2 : PySem.W.kitOne K (.ref c_NoNote) (.type "ValueError") = some true)
    (q3 : PySem.W.kitOne K (.ref c_NoNote) (.ref c_NoNote) = some true)
    (g1 : PySem.W.kitAny K (.ref c_NoNote) [.ref c_NoNumber, .ref c_NoBands, .ref c_NoKinds, .ref c_NoGoods, .ref c_NoTree, .ref c_NoneClaims, .ref c_TwoClaim] = some false)
    (g2 : PySem.W.kitAny K (.ref c_NoNote) [.ref c_NoRule, .ref c_NoLot, .ref c_NoQuota, .ref c_NoRate, .ref c_NoEntry, .ref c_NoDeed, .ref c_NoRow] = some false)
    (na_Made_stuff : PySem.W.findIn K (.ref c_Made) "stuff" = some none)
    (na_Used_use : PySem.W.findIn K (.ref c_Used) "use" = some none)
    (na_Chief_stuff : PySem.W.findIn K (.ref c_Chief) "stuff" = some none)
    (na_Over_one : PySem.W.findIn K (.ref c_Over) "one" = some none)
    (na_Over_other : PySem.W.findIn K (.ref c_Over) "other" = some none)
    (na_Both_one : PySem.W.findIn K (.ref c_Both) "one" = some none)
    (na_Both_other : PySem.W.findIn K (.ref c_Both) "other" = some none)
    (na_Either_one : PySem.W.findIn K (.ref c_Either) "one" = some none)
    (na_Either_other : PySem.W.findIn K (.ref c_Either) "other" = some none)
    (na_But_one : PySem.W.findIn K (.ref c_But) "one" = some none)
    (na_But_other : PySem.W.findIn K (.ref c_But) "other" = some none)
    (in_Both : PySem.W.findIn K (.ref c_Both) "__init__" = some (some (.ref f13)))
    (in_Either : PySem.W.findIn K (.ref c_Either) "__init__" = some (some (.ref f13)))
    (in_But : PySem.W.findIn K (.ref c_But) "__init__" = some (some (.ref f13)))
    (z_len : PySem.W.nsIn K mainGlobals "len" = some none)
    (z_range : PySem.W.nsIn K mainGlobals "range" = some none)
    (z_abs : PySem.W.nsIn K mainGlobals "abs" = some none)
    (z_max : PySem.W.nsIn K mainGlobals "max" = some none)
    (z_min : PySem.W.nsIn K mainGlobals "min" = some none)
    (z_isinstance : PySem.W.nsIn K mainGlobals "isinstance" = some none)
    (z_int : PySem.W.nsIn K mainGlobals "int" = some none)
    (z_bool : PySem.W.nsIn K mainGlobals "bool" = some none)
    (z_str : PySem.W.nsIn K mainGlobals "str" = some none)
    (z_list : PySem.W.nsIn K mainGlobals "list" = some none)
    (z_tuple : PySem.W.nsIn K mainGlobals "tuple" = some none)
    (z_sum : PySem.W.nsIn K mainGlobals "sum" = some none)
    (z_all : PySem.W.nsIn K mainGlobals "all" = some none)
    (z_enumerate : PySem.W.nsIn K mainGlobals "enumerate" = some none)
    (z_zip : PySem.W.nsIn K mainGlobals "zip" = some none)
    (z_ValueError : PySem.W.nsIn K mainGlobals "ValueError" = some none)
    (z_any : PySem.W.nsIn K mainGlobals "any" = some none)
    (z_set : PySem.W.nsIn K mainGlobals "set" = some none)
    (z_sorted : PySem.W.nsIn K mainGlobals "sorted" = some none)
    : ∃ fd : FuncData, (∀ (s : Shared) (v : Value), BindsTo s fd ⟨[v], []⟩ [("_law_script", v)]) ∧ ∀ base : Heap, K.In base → base.Ns mainGlobals mg → FnOk l.prog w K mg base CX0 13 fa fd ["_law_script"] (spLaw K) := by
  have e := hfa.symm.trans (PySem.W.mg_of X G a34)
  cases e
  have F1 := fun_mk (st := s_is_name) l1 c1 k1
  have F2 := fun_mk (st := s_is_kind) l2 c2 k2
  have F3 := fun_mk (st := s_law_cell) l3 c3 k3
  have F4 := fun_mk (st := s_law_mix) l4 c4 k4
  have F5 := fun_mk (st := s_law_words) l5 c5 k5
  have F6 := fun_mk (st := s_law_kinds) l6 c6 k6
  have F7 := fun_mk (st := s_law_plain) l7 c7 k7
  have F8 := fun_mk (st := s_law_note) l8 c8 k8
  have F9 := fun_mk (st := s_Made_init) l9 c9 k9
  have F10 := fun_mk (st := s_Used_init) l10 c10 k10
  have F11 := fun_mk (st := s_Chief_init) l11 c11 k11
  have F12 := fun_mk (st := s_Over_init) l12 c12 k12
  have F13 := fun_mk (st := s_OfTwo_init) l13 c13 k13
  have F14 := fun_mk (st := s_Anything_told) l14 c14 k14
  have F15 := fun_mk (st := s_Made_told) l15 c15 k15
  have F16 := fun_mk (st := s_Used_told) l16 c16 k16
  have F17 := fun_mk (st := s_Chief_told) l17 c17 k17
  have F18 := fun_mk (st := s_Over_told) l18 c18 k18
  have F19 := fun_mk (st := s_Both_told) l19 c19 k19
  have F20 := fun_mk (st := s_Either_told) l20 c20 k20
  have F21 := fun_mk (st := s_But_told) l21 c21 k21
  have F22 := fun_mk (st := s_note_of_name) l22 c22 k22
  have F23 := fun_mk (st := s_note_of_notes) l23 c23 k23
  have F24 := fun_mk (st := s_note_of_one) l24 c24 k24
  have F25 := fun_mk (st := s_note_within) l25 c25 k25
  have F26 := fun_mk (st := s_note_of) l26 c26 k26
  have F27 := fun_mk (st := s_law_bad_name) l27 c27 k27
  have F28 := fun_mk (st := s_law_bad) l28 c28 k28
  have F29 := fun_mk (st := s_law_deeper) l29 c29 k29
  have F30 := fun_mk (st := s_law_spoilt) l30 c30 k30
  have F31 := fun_mk (st := s_law_other) l31 c31 k31
  have F32 := fun_mk (st := s_law_refused) l32 c32 k32
  have F33 := fun_mk (st := s_law_refused_by_base) l33 c33 k33
  have F34 := fun_mk (st := s_law) l34 c34 k34
  have b1 := F1.binds (ps := ["thing"]) fun _ _ _ _ _ _ us hl => match us, hl with | [_], _ => rfl
  have b2 := F2.binds (ps := ["thing"]) fun _ _ _ _ _ _ us hl => match us, hl with | [_], _ => rfl
  have b3 := F3.binds (ps := ["_law_script", "_law_k"]) fun _ _ _ _ _ _ us hl => match us, hl with | [_, _], _ => rfl
  have b4 := F4.binds (ps := ["_law_number", "_law_k", "_law_many"]) fun _ _ _ _ _ _ us hl => match us, hl with | [_, _, _], _ => rfl
  have b5 := F5.binds (ps := ["_law_cell_here", "_law_many"]) fun _ _ _ _ _ _ us hl => match us, hl with | [_, _], _ => rfl
  have b6 := F6.binds (ps := ["_law_cell_here", "_law_words_here"]) fun _ _ _ _ _ _ us hl => match us, hl with | [_, _], _ => rfl
  have b7 := F7.binds (ps := ["_law_number", "_law_kinds_here", "_law_words_here"]) fun _ _ _ _ _ _ us hl => match us, hl with | [_, _, _], _ => rfl
  have b8 := F8.binds (ps := ["_law_number", "_law_deep", "_law_kinds_here", "_law_words_here"]) fun _ _ _ _ _ _ us hl => match us, hl with | [_, _, _, _], _ => rfl
  have b9 := F9.binds (ps := ["self", "stuff"]) fun _ _ _ _ _ _ us hl => match us, hl with | [_, _], _ => rfl
  have b10 := F10.binds (ps := ["self", "use"]) fun _ _ _ _ _ _ us hl => match us, hl with | [_, _], _ => rfl
  have b11 := F11.binds (ps := ["self", "stuff"]) fun _ _ _ _ _ _ us hl => match us, hl with | [_, _], _ => rfl
  have b12 := F12.binds (ps := ["self", "one", "other"]) fun _ _ _ _ _ _ us hl => match us, hl with | [_, _, _], _ => rfl
  have b13 := F13.binds (ps := ["self", "one", "other"]) fun _ _ _ _ _ _ us hl => match us, hl with | [_, _, _], _ => rfl
  have b14 := F14.binds (ps := ["self"]) fun _ _ _ _ _ _ us hl => match us, hl with | [_], _ => rfl
  have b15 := F15.binds (ps := ["self"]) fun _ _ _ _ _ _ us hl => match us, hl with | [_], _ => rfl
  have b16 := F16.binds (ps := ["self"]) fun _ _ _ _ _ _ us hl => match us, hl with | [_], _ => rfl
  have b17 := F17.binds (ps := ["self"]) fun _ _ _ _ _ _ us hl => match us, hl with | [_], _ => rfl
  have b18 := F18.binds (ps := ["self"]) fun _ _ _ _ _ _ us hl => match us, hl with | [_], _ => rfl
  have b19 := F19.binds (ps := ["self"]) fun _ _ _ _ _ _ us hl => match us, hl with | [_], _ => rfl
  have b20 := F20.binds (ps := ["self"]) fun _ _ _ _ _ _ us hl => match us, hl with | [_], _ => rfl
  have b21 := F21.binds (ps := ["self"]) fun _ _ _ _ _ _ us hl => match us, hl with | [_], _ => rfl
  have b22 := F22.binds (ps := ["word", "name"]) fun _ _ _ _ _ _ us hl => match us, hl with | [_, _], _ => rfl
  have b23 := F23.binds (ps := ["word", "one", "other"]) fun _ _ _ _ _ _ us hl => match us, hl with | [_, _, _], _ => rfl
  have b24 := F24.binds (ps := ["told"]) fun _ _ _ _ _ _ us hl => match us, hl with | [_], _ => rfl
  have b25 := F25.binds (ps := ["left", "told"]) fun _ _ _ _ _ _ us hl => match us, hl with | [_, _], _ => rfl
  have b26 := F26.binds (ps := ["told"]) fun _ _ _ _ _ _ us hl => match us, hl with | [_], _ => rfl
  have b27 := F27.binds (ps := ["_law_cell_here", "_law_name"]) fun _ _ _ _ _ _ us hl => match us, hl with | [_, _], _ => rfl
  have b28 := F28.binds (ps := ["_law_cell_here", "_law_kinds_here", "_law_words_here"]) fun _ _ _ _ _ _ us hl => match us, hl with | [_, _, _], _ => rfl
  have b29 := F29.binds (ps := ["_law_told", "_law_deep", "_law_number"]) fun _ _ _ _ _ _ us hl => match us, hl with | [_, _, _], _ => rfl
  have b30 := F30.binds (ps := ["_law_told", "_law_number", "_law_bad_here"]) fun _ _ _ _ _ _ us hl => match us, hl with | [_, _, _], _ => rfl
  have b31 := F31.binds (ps := ["_law_e"]) fun _ _ _ _ _ _ us hl => match us, hl with | [_], _ => rfl
  have b32 := F32.binds (ps := ["_law_told"]) fun _ _ _ _ _ _ us hl => match us, hl with | [_], _ => rfl
  have b33 := F33.binds (ps := ["_law_told"]) fun _ _ _ _ _ _ us hl => match us, hl with | [_], _ => rfl
  have M : Mg mg := ⟨PySem.W.mg_none_of X G z_len, PySem.W.mg_none_of X G z_range, PySem.W.mg_none_of X G z_abs, PySem.W.mg_none_of X G z_max, PySem.W.mg_none_of X G z_min, PySem.W.mg_none_of X G z_isinstance, PySem.W.mg_none_of X G z_int, PySem.W.mg_none_of X G z_bool, PySem.W.mg_none_of X G z_str, PySem.W.mg_none_of X G z_list, PySem.W.mg_none_of X G z_tuple, PySem.W.mg_none_of X G z_sum, PySem.W.mg_none_of X G z_all, PySem.W.mg_none_of X G z_enumerate, PySem.W.mg_none_of X G z_zip, PySem.W.mg_none_of X G z_ValueError, PySem.W.mg_none_of X G z_any, PySem.W.mg_none_of X G z_set, PySem.W.mg_none_of X G z_sorted⟩
  refine ⟨PySem.W.fnOf "law" "law" (defArgs s_law) (defBody s_law) (defScope s_law) .none kV34 dc34 pm34 an34 cd34 ct34, fun s v => .of_eq rfl, fun base _ _ => ?_⟩
  have A_TariffError := PySem.W.mg_of X G n_TariffError
  have A_NoNumber := PySem.W.mg_of X G n_NoNumber
  have A_NoBands := PySem.W.mg_of X G n_NoBands
  have A_NoKinds := PySem.W.mg_of X G n_NoKinds
  have A_NoGoods := PySem.W.mg_of X G n_NoGoods
  have A_NoNote := PySem.W.mg_of X G n_NoNote
  have A_NoTree := PySem.W.mg_of X G n_NoTree
  have A_NoneClaims := PySem.W.mg_of X G n_NoneClaims
  have A_TwoClaim := PySem.W.mg_of X G n_TwoClaim
  have A_NoRule := PySem.W.mg_of X G n_NoRule
  have A_NoLot := PySem.W.mg_of X G n_NoLot
  have A_NoQuota := PySem.W.mg_of X G n_NoQuota
  have A_NoRate := PySem.W.mg_of X G n_NoRate
  have A_NoEntry := PySem.W.mg_of X G n_NoEntry
  have A_NoDeed := PySem.W.mg_of X G n_NoDeed
  have A_NoRow := PySem.W.mg_of X G n_NoRow
  have A_Note := PySem.W.mg_of X G n_Note
  have A_OfTwo := PySem.W.mg_of X G n_OfTwo
  have A_Anything := PySem.W.mg_of X G n_Anything
  have A_Made := PySem.W.mg_of X G n_Made
  have A_Used := PySem.W.mg_of X G n_Used
  have A_Chief := PySem.W.mg_of X G n_Chief
  have A_Over := PySem.W.mg_of X G n_Over
  have A_Both := PySem.W.mg_of X G n_Both
  have A_Either := PySem.W.mg_of X G n_Either
  have A_But := PySem.W.mg_of X G n_But
  have cls_Anything : Cls K c_Anything := ⟨pg_Anything, hd_Anything, po_Anything, sa_Anything⟩
  have ic_Anything : ICls K c_Anything := ⟨cls_Anything, ia_Anything, oget, otakes, im_Anything⟩
  have Z_Anything : Mk0 K c_Anything := ⟨mk_Anything, in_Anything, kc_Anything⟩
  have cls_Made : Cls K c_Made := ⟨pg_Made, hd_Made, po_Made, sa_Made⟩
  have ic_Made : ICls K c_Made := ⟨cls_Made, ia_Made, oget, otakes, im_Made⟩
  have cls_Used : Cls K c_Used := ⟨pg_Used, hd_Used, po_Used, sa_Used⟩
  have ic_Used : ICls K c_Used := ⟨cls_Used, ia_Used, oget, otakes, im_Used⟩
  have cls_Chief : Cls K c_Chief := ⟨pg_Chief, hd_Chief, po_Chief, sa_Chief⟩
  have ic_Chief : ICls K c_Chief := ⟨cls_Chief, ia_Chief, oget, otakes, im_Chief⟩
  have cls_Over : Cls K c_Over := ⟨pg_Over, hd_Over, po_Over, sa_Over⟩
  have ic_Over : ICls K c_Over := ⟨cls_Over, ia_Over, oget, otakes, im_Over⟩
  have cls_Both : Cls K c_Both := ⟨pg_Both, hd_Both, po_Both, sa_Both⟩
  have ic_Both : ICls K c_Both := ⟨cls_Both, ia_Both, oget, otakes, im_Both⟩
  have cls_Either : Cls K c_Either := ⟨pg_Either, hd_Either, po_Either, sa_Either⟩
  have ic_Either : ICls K c_Either := ⟨cls_Either, ia_Either, oget, otakes, im_Either⟩
  have cls_But : Cls K c_But := ⟨pg_But, hd_But, po_But, sa_But⟩
  have ic_But : ICls K c_But := ⟨cls_But, ia_But, oget, otakes, im_But⟩
  have R_NoNote : XRaise K mg "NoNote" c_NoNote := ⟨A_NoNote, e_NoNote⟩
  have X_NoNote : XCatch K mg "NoNote" c_NoNote := ⟨A_NoNote, (fun z => by unfold PySem.W.isClsIn at ci_NoNote; rw [z] at ci_NoNote; cases ci_NoNote), ct_NoNote, cb_NoNote⟩
  have X_TariffError : XCatch K mg "TariffError" c_TariffError := ⟨A_TariffError, (fun z => by unfold PySem.W.isClsIn at ci_TariffError; rw [z] at ci_TariffError; cases ci_TariffError), ct_TariffError, cb_TariffError⟩
  have K_NoNote : XCls K c_NoNote := ⟨xga_NoNote, xgt_NoNote, xca_NoNote, xcn_NoNote, xtk_NoNote, xmo_NoNote, xmb_NoNote, xis_NoNote⟩
  have tc_Over : TwoC K c_Over := ⟨cls_Over, na_Over_one, na_Over_other⟩
  have tc_Both : TwoC K c_Both := ⟨cls_Both, na_Both_one, na_Both_other⟩
  have tc_Either : TwoC K c_Either := ⟨cls_Either, na_Either_one, na_Either_other⟩
  have tc_But : TwoC K c_But := ⟨cls_But, na_But_one, na_But_other⟩
  have C_is_name : Cal l.prog w K mg base CX0 "is_name" 1 ["thing"] (spIsName K) := ⟨⟨_, _, ok_is_name F1 M, b1, k1, PySem.W.mg_of X G a1⟩⟩
  have C_is_kind : Cal l.prog w K mg base CX0 "is_kind" 2 ["thing"] (spIsKind K) := ⟨⟨_, _, ok_is_kind F2 M C_is_name, b2, k2, PySem.W.mg_of X G a2⟩⟩
  have C_law_cell : Cal l.prog w K mg base CX0 "_law_cell" 1 ["_law_script", "_law_k"] (spCell K) := ⟨⟨_, _, ok_law_cell F3 M, b3, k3, PySem.W.mg_of X G a3⟩⟩
  have C_law_mix : Cal l.prog w K mg base CX0 "_law_mix" 1 ["_law_number", "_law_k", "_law_many"] (spMix3) := ⟨⟨_, _, ok_law_mix F4 M, b4, k4, PySem.W.mg_of X G a4⟩⟩
  have C_law_words : Cal l.prog w K mg base CX0 "_law_words" 1 ["_law_cell_here", "_law_many"] (spWords K) := ⟨⟨_, _, ok_law_words F5 M, b5, k5, PySem.W.mg_of X G a5⟩⟩
  have C_law_kinds : Cal l.prog w K mg base CX0 "_law_kinds" 1 ["_law_cell_here", "_law_words_here"] (spKinds3 K) := ⟨⟨_, _, ok_law_kinds F6 M, b6, k6, PySem.W.mg_of X G a6⟩⟩
  have C_law_plain : Cal l.prog w K mg base CX0 "_law_plain" 2 ["_law_number", "_law_kinds_here", "_law_words_here"] (spPlain K) := ⟨⟨_, _, ok_law_plain F7 M C_law_mix, b7, k7, PySem.W.mg_of X G a7⟩⟩
  have C_law_note : Cal l.prog w K mg base CX0 "_law_note" 8 ["_law_number", "_law_deep", "_law_kinds_here", "_law_words_here"] (spNoteU K) := ⟨⟨_, _, fnok_union (L := 3) (n := 5) (ok_law_note F8 M C_law_mix C_law_plain b8 k8 (PySem.W.mg_of X G a8)), b8, k8, PySem.W.mg_of X G a8⟩⟩
  have Z_Made : MkC l.prog w K mg base "Made" c_Made 1 ["self", "stuff"] (spInitA K c_Made "stuff") := ⟨⟨_, _, ⟨mk_Made, a9, t9, kc_Made⟩, ok_Made_init F9 M (cs:=⟨c_Anything,c_Made,c_Used,c_Chief,c_Over,c_Both,c_Either,c_But⟩) cls_Made na_Made_stuff, b9⟩, A_Made⟩
  have Z_Used : MkC l.prog w K mg base "Used" c_Used 1 ["self", "use"] (spInitA K c_Used "use") := ⟨⟨_, _, ⟨mk_Used, a10, t10, kc_Used⟩, ok_Used_init F10 M (cs:=⟨c_Anything,c_Made,c_Used,c_Chief,c_Over,c_Both,c_Either,c_But⟩) cls_Used na_Used_use, b10⟩, A_Used⟩
  have Z_Chief : MkC l.prog w K mg base "Chief" c_Chief 1 ["self", "stuff"] (spInitA K c_Chief "stuff") := ⟨⟨_, _, ⟨mk_Chief, a11, t11, kc_Chief⟩, ok_Chief_init F11 M (cs:=⟨c_Anything,c_Made,c_Used,c_Chief,c_Over,c_Both,c_Either,c_But⟩) cls_Chief na_Chief_stuff, b11⟩, A_Chief⟩
  have Z_Over : MkC l.prog w K mg base "Over" c_Over 1 ["self", "one", "other"] (spInit2 K) := ⟨⟨_, _, ⟨mk_Over, a12, t12, kc_Over⟩, ok_Over_init F12 M, b12⟩, A_Over⟩
  have Z_Both : MkC l.prog w K mg base "Both" c_Both 1 ["self", "one", "other"] (spInit2 K) := ⟨⟨_, _, ⟨mk_Both, in_Both, t13, kc_Both⟩, ok_OfTwo_init F13 M, b13⟩, A_Both⟩
  have Z_Either : MkC l.prog w K mg base "Either" c_Either 1 ["self", "one", "other"] (spInit2 K) := ⟨⟨_, _, ⟨mk_Either, in_Either, t13, kc_Either⟩, ok_OfTwo_init F13 M, b13⟩, A_Either⟩
  have Z_But : MkC l.prog w K mg base "But" c_But 1 ["self", "one", "other"] (spInit2 K) := ⟨⟨_, _, ⟨mk_But, in_But, t13, kc_But⟩, ok_OfTwo_init F13 M, b13⟩, A_But⟩
  have T0 : TellP l.prog w K mg base ⟨c_Anything, c_Made, c_Used, c_Chief, c_Over, c_Both, c_Either, c_But⟩ 0 := fun k d => ⟨_, _, ⟨a14, t14, k14⟩, ok_Anything_told F14 M, b14⟩
  have T1 : TellP l.prog w K mg base ⟨c_Anything, c_Made, c_Used, c_Chief, c_Over, c_Both, c_Either, c_But⟩ 1 := fun k d => ⟨_, _, ⟨a15, t15, k15⟩, ok_Made_told F15 M cls_Made na_Made_stuff, b15⟩
  have T2 : TellP l.prog w K mg base ⟨c_Anything, c_Made, c_Used, c_Chief, c_Over, c_Both, c_Either, c_But⟩ 2 := fun k d => ⟨_, _, ⟨a16, t16, k16⟩, ok_Used_told F16 M cls_Used na_Used_use, b16⟩
  have T3 : TellP l.prog w K mg base ⟨c_Anything, c_Made, c_Used, c_Chief, c_Over, c_Both, c_Either, c_But⟩ 3 := fun k d => ⟨_, _, ⟨a17, t17, k17⟩, ok_Chief_told F17 M cls_Chief na_Chief_stuff, b17⟩
  have T4 : TellP l.prog w K mg base ⟨c_Anything, c_Made, c_Used, c_Chief, c_Over, c_Both, c_Either, c_But⟩ 4 := fun k d => ⟨_, _, ⟨a18, t18, k18⟩, ok_Over_told F18 M tc_Over, b18⟩
  have T5 : TellJ l.prog w K mg base ⟨c_Anything, c_Made, c_Used, c_Chief, c_Over, c_Both, c_Either, c_But⟩ 5 := ⟨fun k => ⟨_, _, ⟨a19, t19, k19⟩, no_Both_told F19, b19⟩, fun d D => ⟨_, _, ⟨a19, t19, k19⟩, ok_Both_told F19 M tc_Both D, b19⟩⟩
  have T6 : TellJ l.prog w K mg base ⟨c_Anything, c_Made, c_Used, c_Chief, c_Over, c_Both, c_Either, c_But⟩ 6 := ⟨fun k => ⟨_, _, ⟨a20, t20, k20⟩, no_Either_told F20, b20⟩, fun d D => ⟨_, _, ⟨a20, t20, k20⟩, ok_Either_told F20 M tc_Either D, b20⟩⟩
  have T7 : TellJ l.prog w K mg base ⟨c_Anything, c_Made, c_Used, c_Chief, c_Over, c_Both, c_Either, c_But⟩ 7 := ⟨fun k => ⟨_, _, ⟨a21, t21, k21⟩, no_But_told F21, b21⟩, fun d D => ⟨_, _, ⟨a21, t21, k21⟩, ok_But_told F21 M tc_But D, b21⟩⟩
  have D_told : ∀ C sp, DToldN K ⟨c_Anything, c_Made, c_Used, c_Chief, c_Over, c_Both, c_Either, c_But⟩ 5 C sp → Disp l.prog w K mg base "told" 6 ["self"] C sp := all_told (fun j hj => match j, hj with | 0, _ => cls_Anything | 1, _ => cls_Made | 2, _ => cls_Used | 3, _ => cls_Chief | 4, _ => cls_Over | 5, _ => cls_Both | 6, _ => cls_Either | 7, _ => cls_But | j + 8, h => absurd h (by omega)) T0 T1 T2 T3 T4 T5 T6 T7 5
  have C_note_of_name : Cal l.prog w K mg base (CXE l.prog w) "note_of_name" 3 ["word", "name"] (spOfName K ⟨c_Anything, c_Made, c_Used, c_Chief, c_Over, c_Both, c_Either, c_But⟩ c_NoNote) := ⟨⟨_, _, ok_note_of_name F22 M Z_Made Z_Used Z_Chief R_NoNote, b22, k22, PySem.W.mg_of X G a22⟩⟩
  have C_note_of_notes : Cal l.prog w K mg base CX0 "note_of_notes" 3 ["word", "one", "other"] (spOfNotes K ⟨c_Anything, c_Made, c_Used, c_Chief, c_Over, c_Both, c_Either, c_But⟩) := ⟨⟨_, _, ok_note_of_notes F23 M Z_Both Z_Either Z_But tc_Both tc_Either tc_But, b23, k23, PySem.W.mg_of X G a23⟩⟩
  have C_note_of_one : Cal l.prog w K mg base (CXE l.prog w) "note_of_one" 4 ["told"] (spOfOne K ⟨c_Anything, c_Made, c_Used, c_Chief, c_Over, c_Both, c_Either, c_But⟩ c_NoNote) := ⟨⟨_, _, ok_note_of_one F24 M C_is_name C_is_kind C_note_of_name Z_Anything A_Anything Z_Over tc_Over R_NoNote, b24, k24, PySem.W.mg_of X G a24⟩⟩
  have C_note_within : Cal l.prog w K mg base (CXE l.prog w) "note_within" 10 ["left", "told"] (spWithin K ⟨c_Anything, c_Made, c_Used, c_Chief, c_Over, c_Both, c_Either, c_But⟩ c_NoNote 5) := ⟨⟨_, _, ok_note_within F25 M C_note_of_one C_note_of_notes R_NoNote b25 k25 (PySem.W.mg_of X G a25) 5, b25, k25, PySem.W.mg_of X G a25⟩⟩
  have C_note_of : Cal l.prog w K mg base (CXE l.prog w) "note_of" 11 ["told"] (spNoteOf K ⟨c_Anything, c_Made, c_Used, c_Chief, c_Over, c_Both, c_Either, c_But⟩ c_NoNote) := ⟨⟨_, _, ok_note_of F26 M C_note_within, b26, k26, PySem.W.mg_of X G a26⟩⟩
  have C_law_bad_name : Cal l.prog w K mg base CX0 "_law_bad_name" 1 ["_law_cell_here", "_law_name"] (spBadName K) := ⟨⟨_, _, ok_law_bad_name F27 M, b27, k27, PySem.W.mg_of X G a27⟩⟩
  have C_law_bad : Cal l.prog w K mg base CX0 "_law_bad" 2 ["_law_cell_here", "_law_kinds_here", "_law_words_here"] (spBadT K) := ⟨⟨_, _, ok_law_bad F28 M C_law_mix C_law_bad_name, b28, k28, PySem.W.mg_of X G a28⟩⟩
  have C_law_deeper : Cal l.prog w K mg base CX0 "_law_deeper" 2 ["_law_told", "_law_deep", "_law_number"] (spDeeper K) := ⟨⟨_, _, ok_law_deeper F29 M C_law_mix, b29, k29, PySem.W.mg_of X G a29⟩⟩
  have C_law_spoilt : Cal l.prog w K mg base CX0 "_law_spoilt" 6 ["_law_told", "_law_number", "_law_bad_here"] (spSpoilt K 5) := ⟨⟨_, _, ok_law_spoilt F30 M b30 k30 (PySem.W.mg_of X G a30) 5, b30, k30, PySem.W.mg_of X G a30⟩⟩
  have C_law_other : CalS l.prog w K mg base CX0 "_law_other" 1 ["_law_e"] (spOther c_NoNote) := ⟨⟨_, _, ok_law_other F31 M K_NoNote A_NoNumber A_NoBands A_NoKinds A_NoGoods A_NoTree A_NoneClaims A_TwoClaim A_NoRule A_NoLot A_NoQuota A_NoRate A_NoEntry A_NoDeed A_NoRow g1 g2, b31, k31, PySem.W.mg_of X G a31⟩⟩
  have C_law_refused : Cal l.prog w K mg base CX0 "_law_refused" 12 ["_law_told"] (spRefused K) := ⟨⟨_, _, ok_law_refused F32 M C_note_of C_law_other A_TariffError X_NoNote K_NoNote sub1 q1 q2, b32, k32, PySem.W.mg_of X G a32⟩⟩
  have C_law_refused_by_base : Cal l.prog w K mg base CX0 "_law_refused_by_base" 12 ["_law_told"] (spRefused K) := ⟨⟨_, _, ok_law_refused_by_base F33 M C_note_of A_NoNote X_TariffError K_NoNote sub2 q3, b33, k33, PySem.W.mg_of X G a33⟩⟩
  exact ok_law F34 M C_law_cell C_law_mix C_law_words C_law_kinds C_note_of C_law_plain C_law_note C_law_bad C_law_deeper C_law_spoilt C_law_refused C_law_refused_by_base D_told
theorem walk {l : PySem.W.OpenLaw} {q : Program} {loose : List Str} {XP : (Str → Option Value) → Heap → Prop} {YP : World → Heap → Prop} {d : DefRec} {K : Params → PySem.W.Frag} (hn : l.most = some 63) (hdf : d.params.defaults = [])
    (hY : ∀ (w : World) (h : Heap), YP w h → (K w.params).In h)
    (F : ∀ (w : World) (mg : Str → Option Value) (fa : Addr) (h : Heap), (K w.params).In h → h.Ns mainGlobals mg → mg d.name = some (.ref fa) →
      ∃ fd : FuncData, (∀ (s : Shared) (u : Value), BindsTo s fd ⟨[u], []⟩ [("_law_script", u)]) ∧ ∀ base : Heap, (K w.params).In base → base.Ns mainGlobals mg → FnOk l.prog w (K w.params) mg base CX0 13 fa fd ["_law_script"] (spLaw (K w.params))) :
    PySem.W.WalkO q loose XP YP l.row.toRowW d [] (fun f vs => PySem.call f vs) :=
  L2.walk_of (n := 63) (k := 13) (x := "_law_script") (CX := fun _ => CX0) (sp := fun w => spLaw (K w.params)) hn (by decide) hdf ⟨rfl, by decide, by decide⟩ hY F (fun _ _ a ns hl _ hS => ⟨a, ns, rfl, hS, hl, fun _ => rfl⟩) fun _ _ _ _ _ z => z
end My
theorem PySem.W.Fast.tw14513064657397724292 : True := trivial
theorem PySem.W.Fast.tw10572480126734805587 : True := trivial
theorem PySem.W.Fast.tw9593195025972703152 : True := trivial
theorem PySem.W.Fast.tw7308043631153081511 : True := trivial
theorem PySem.W.Fast.tw4333256327514405323 : True := trivial
theorem PySem.W.Fast.tw18115684041911733857 : True := trivial
theorem PySem.W.Fast.tw10942990918807197343 : True := trivial
theorem PySem.W.Fast.tw18364112757943750882 : True := trivial
theorem PySem.W.Fast.tw13556925652603634299 : True := trivial
theorem PySem.W.Fast.tw15138092464012472780 : True := trivial
theorem PySem.W.Fast.tw749763324794524095 : True := trivial
theorem PySem.W.Fast.tw2342025379872474032 : True := trivial
theorem PySem.W.Fast.tw428279155177285370 : True := trivial
theorem PySem.W.Fast.tw11152133899622668839 : True := trivial
theorem PySem.W.Fast.tw9803766863763583146 : True := trivial
theorem PySem.W.Fast.tw12972552336550645244 : True := trivial
theorem PySem.W.Fast.tw7199777010059777255 : True := trivial
theorem PySem.W.Fast.tw1062666223034508341 : True := trivial
theorem PySem.W.Fast.tw8660007274083938317 : True := trivial
theorem PySem.W.Fast.tw5374029519357746124 : True := trivial
theorem PySem.W.Fast.tw15966355814237118798 : True := trivial
theorem PySem.W.Fast.tw8999418307608262242 : True := trivial
theorem PySem.W.Fast.tw2266141452346489307 : True := trivial
theorem PySem.W.Fast.tw11176110085583012777 : True := trivial
theorem PySem.W.Fast.tw18364756296912669241 : True := trivial
theorem PySem.W.Fast.tw10708222681761491235 : True := trivial
theorem PySem.W.Fast.tw764306745390528018 : True := trivial
theorem PySem.W.Fast.tw7585847976674915104 : True := trivial
theorem PySem.W.Fast.tw3909444170262691477 : True := trivial
theorem PySem.W.Fast.tw7692535654121649178 : True := trivial
theorem PySem.W.Fast.tw12874762513868066124 : True := trivial
theorem PySem.W.Fast.tw11458883580827488182 : True := trivial
theorem PySem.W.Fast.tw7541326362862236929 : True := trivial
theorem PySem.W.Fast.tw2838012660246969127 : True := trivial
theorem PySem.W.Fast.tw2782306033958852172 : True := trivial
theorem PySem.W.Fast.tw10937462084175656083 : True := trivial
theorem PySem.W.Fast.tw6534622832414742990 : True := trivial
theorem PySem.W.Fast.tw1307652838906288604 : True := trivial
theorem PySem.W.Fast.tw6660206667341728257 : True := trivial
theorem PySem.W.Fast.tw6545383669140872255 : True := trivial
theorem PySem.W.Fast.tw1673377065387287222 : True := trivial
theorem PySem.W.Fast.tw6474585250262046779 : True := trivial
theorem PySem.W.Fast.tw10027728017045933530 : True := trivial
theorem PySem.W.Fast.tw6579633487569729234 : True := trivial
theorem PySem.W.Fast.tw7671682196037576716 : True := trivial
theorem PySem.W.Fast.tw3233590749720525011 : True := trivial
theorem PySem.W.Fast.tw10547961243918563219 : True := trivial
theorem PySem.W.Fast.tw122265977337970865 : True := trivial
theorem PySem.W.Fast.tw1532300576478293083 : True := trivial
theorem PySem.W.Fast.tw9873104741601807338 : True := trivial
theorem PySem.W.Fast.tw12876995240048773516 : True := trivial
theorem PySem.W.Fast.tw9114671078591905086 : True := trivial
theorem PySem.W.Fast.tw8155242249352564346 : True := trivial
theorem PySem.W.Fast.tw17559137327995112795 : True := trivial
theorem PySem.W.Fast.tw9114990309065566807 : True := trivial
theorem PySem.W.Fast.tw1380833957301497414 : True := trivial
theorem PySem.W.Fast.tw1889863007946412521 : True := trivial
theorem PySem.W.Fast.tw9700994403287453043 : True := trivial
theorem PySem.W.Fast.tw3734118878096762596 : True := trivial
theorem PySem.W.Fast.tw3557051740530914757 : True := trivial
theorem PySem.W.Fast.tw342702230805708556 : True := trivial
theorem PySem.W.Fast.tw8955320247926121335 : True := trivial
theorem PySem.W.Fast.tw6450702711570948291 : True := trivial
theorem PySem.W.Fast.tw5973303170219381810 : True := trivial
theorem PySem.W.Fast.tw15980130654832916880 : True := trivial
theorem PySem.W.Fast.tw13431395055306884963 : True := trivial
theorem PySem.W.Fast.tw8526703512509397233 : True := trivial
theorem PySem.W.Fast.tw14987078444668399572 : True := trivial
theorem PySem.W.Fast.tw6866064719683334907 : True := trivial
theorem PySem.W.Fast.tw678133581639421675 : True := trivial
theorem PySem.W.Fast.tw13735728823530864919 : True := trivial
theorem PySem.W.Fast.tw4517677338159163760 : True := trivial
theorem PySem.W.Fast.tw5165071664427303433 : True := trivial
theorem PySem.W.Fast.tw14441184165206520767 : True := trivial
theorem PySem.W.Fast.tw1526813002111603722 : True := trivial
theorem PySem.W.Fast.tw17268464877761178003 : True := trivial
theorem PySem.W.Fast.tw14088286050267949490 : True := trivial
theorem PySem.W.Fast.tw15108367010697126554 : True := trivial
theorem PySem.W.Fast.tw12456307686987933852 : True := trivial
theorem PySem.W.Fast.tw17376547701721322682 : True := trivial
theorem PySem.W.Fast.tw3082777290086028655 : True := trivial
theorem PySem.W.Fast.tw17170419914278735948 : True := trivial
theorem PySem.W.Fast.tw8283950396065090602 : True := trivial
theorem PySem.W.Fast.tw18109082554366520629 : True := trivial
theorem PySem.W.Fast.tw7126171384727721745 : True := trivial
theorem PySem.W.Fast.tw2150609468388749554 : True := trivial
theorem PySem.W.Fast.tw9998591675779334560 : True := trivial
theorem PySem.W.Fast.tw13433243422258345719 : True := trivial
theorem PySem.W.Fast.tw4345589656473319465 : True := trivial
theorem PySem.W.Fast.tw11266536115614904298 : True := trivial
theorem PySem.W.Fast.tw8548227057511483287 : True := trivial
theorem PySem.W.Fast.tw9967815252748206450 : True := trivial
theorem PySem.W.Fast.tw7067034367320539281 : True := trivial
theorem PySem.W.Fast.tw9271594127500932165 : True := trivial
theorem PySem.W.Fast.tw16749738274322736181 : True := trivial
theorem PySem.W.Fast.tw11535660054192167498 : True := trivial
theorem PySem.W.Fast.tw2230233862036108856 : True := trivial
theorem PySem.W.Fast.tw9605395249251821823 : True := trivial
theorem PySem.W.Fast.tw12886622131433792280 : True := trivial
theorem PySem.W.Fast.tw1271612906905200112 : True := trivial
theorem PySem.W.Fast.tw10762823849861779735 : True := trivial
theorem PySem.W.Fast.tw2113619780870645919 : True := trivial
theorem PySem.W.Fast.tw9668081249675450991 : True := trivial
theorem PySem.W.Fast.tw351596014370681763 : True := trivial
theorem PySem.W.Fast.tw5637635014478925199 : True := trivial
theorem PySem.W.Fast.tw16203269864903723122 : True := trivial
theorem PySem.W.Fast.tw13057950565170513922 : True := trivial
theorem PySem.W.Fast.tw3159299352348310415 : True := trivial
theorem PySem.W.Fast.tw11443690409305104554 : True := trivial
theorem PySem.W.Fast.tw9118571654215873685 : True := trivial
theorem PySem.W.Fast.tw3989953592290242897 : True := trivial
theorem PySem.W.Fast.tw10567730673552409690 : True := trivial
theorem PySem.W.Fast.tw1110601873524859838 : True := trivial
theorem PySem.W.Fast.tw9938608181846535329 : True := trivial
theorem PySem.W.Fast.tw646057583621333658 : True := trivial
theorem PySem.W.Fast.tw13808451491069555999 : True := trivial
theorem PySem.W.Fast.tw17317332319605610131 : True := trivial
theorem PySem.W.Fast.tw11689493058686795228 : True := trivial
theorem PySem.W.Fast.tw5159991937673076577 : True := trivial
theorem PySem.W.Fast.tw4230143298452701694 : True := trivial
theorem PySem.W.Fast.tw13787857150610249069 : True := trivial
theorem PySem.W.Fast.tw5198790387718293058 : True := trivial
theorem PySem.W.Fast.tw7831838911747943764 : True := trivial
theorem PySem.W.Fast.tw3847225171103964174 : True := trivial
theorem PySem.W.Fast.tw2918293222064762640 : True := trivial
theorem PySem.W.Fast.tw13488714126965676229 : True := trivial
theorem PySem.W.Fast.tw7631464799389963964 : True := trivial
theorem PySem.W.Fast.tw15911115458280070697 : True := trivial
theorem PySem.W.Fast.tw2419088411346442468 : True := trivial
theorem PySem.W.Fast.tw16610195351397185912 : True := trivial
theorem PySem.W.Fast.tw1885246195477022828 : True := trivial
theorem PySem.W.Fast.tw11804678218079854198 : True := trivial
theorem PySem.W.Fast.tw9953004131773402903 : True := trivial
theorem PySem.W.Fast.tw16727736038271213572 : True := trivial
theorem PySem.W.Fast.tw16640786768834647814 : True := trivial
theorem PySem.W.Fast.tw9022445780988407301 : True := trivial
theorem PySem.W.Fast.tw11428823157049365737 : True := trivial
theorem PySem.W.Fast.tw16924354279274252517 : True := trivial
theorem PySem.W.Fast.tw12161999205912982870 : True := trivial
theorem PySem.W.Fast.tw12920800084474974182 : True := trivial
theorem PySem.W.Fast.tw17877805725655072323 : True := trivial
theorem PySem.W.Fast.tw3873261172406304189 : True := trivial
theorem PySem.W.Fast.tw8784768112591496486 : True := trivial
theorem PySem.W.Fast.tw402359775761348851 : True := trivial
theorem PySem.W.Fast.tw7901247674530773340 : True := trivial
theorem PySem.W.Fast.tw4971286581972664808 : True := trivial
theorem PySem.W.Fast.tw1155354255132579217 : True := trivial
theorem PySem.W.Fast.tw731335699569169681 : True := trivial
theorem PySem.W.Fast.tw9799558296104094804 : True := trivial
theorem PySem.W.Fast.tw7933938015420055623 : True := trivial
theorem PySem.W.Fast.tw9328091169500005720 : True := trivial
theorem PySem.W.Fast.tw7389329937326184668 : True := trivial
theorem PySem.W.Fast.tw6770733701256319695 : True := trivial
theorem PySem.W.Fast.tw3493028818615257316 : True := trivial
theorem PySem.W.Fast.tw9347658470454379103 : True := trivial
theorem PySem.W.Fast.tw11771713845661706310 : True := trivial
theorem PySem.W.Fast.tw6821934632644416954 : True := trivial
theorem PySem.W.Fast.tw10918758753264941382 : True := trivial
theorem PySem.W.Fast.tw9136356315162351688 : True := trivial
theorem PySem.W.Fast.tw10668192583535031616 : True := trivial
theorem PySem.W.Fast.tw1003304759932197425 : True := trivial
theorem PySem.W.Fast.tw7808754104200074601 : True := trivial
theorem PySem.W.Fast.tw14580628040302451697 : True := trivial
theorem PySem.W.Fast.tw4580990267521624692 : True := trivial
theorem PySem.W.Fast.tw7878671496216459979 : True := trivial
theorem PySem.W.Fast.tw10911720726524369354 : True := trivial
theorem PySem.W.Fast.tw5296503595672980807 : True := trivial
theorem PySem.W.Fast.tw11446847787567462030 : True := trivial
theorem PySem.W.Fast.tw17058326730600651488 : True := trivial
theorem PySem.W.Fast.tw16395936230927088540 : True := trivial
theorem PySem.W.Fast.tw245800607382819237 : True := trivial
theorem PySem.W.Fast.tw6403605843418439357 : True := trivial
theorem PySem.W.Fast.tw11614862049619281300 : True := trivial
theorem PySem.W.Fast.tw1918468453782908738 : True := trivial
theorem PySem.W.Fast.tw13865032789723062716 : True := trivial
theorem PySem.W.Fast.tw7037560415110908496 : True := trivial
theorem PySem.W.Fast.tw11286471561222524141 : True := trivial
theorem PySem.W.Fast.tw14030449867430647626 : True := trivial
theorem PySem.W.Fast.tw671867883435485901 : True := trivial
theorem PySem.W.Fast.tw4054970240304482011 : True := trivial
theorem PySem.W.Fast.tw11116396387026439325 : True := trivial
theorem PySem.W.Fast.tw12855633641265158438 : True := trivial
theorem PySem.W.Fast.tw2907294318835761016 : True := trivial
theorem PySem.W.Fast.tw804557393175149136 : True := trivial
theorem PySem.W.Fast.tw11949547161228599479 : True := trivial
theorem PySem.W.Fast.tw11457098264566011159 : True := trivial
theorem PySem.W.Fast.tw16996319349749926961 : True := trivial
theorem PySem.W.Fast.tw74221303715117003 : True := trivial
theorem PySem.W.Fast.tw8052216086203156856 : True := trivial
theorem PySem.W.Fast.tw3503899847167278473 : True := trivial
theorem PySem.W.Fast.tw1245254159966767640 : True := trivial
theorem PySem.W.Fast.tw7880701938961886161 : True := trivial
theorem PySem.W.Fast.tw4095487516219062966 : True := trivial
theorem PySem.W.Fast.tw509573457718211474 : True := trivial
theorem PySem.W.Fast.tw7563338541020406386 : True := trivial
theorem PySem.W.Fast.tw3191327043147046853 : True := trivial
theorem PySem.W.Fast.tw15870442734063115971 : True := trivial
theorem PySem.W.Fast.tw6791878457057136592 : True := trivial
theorem PySem.W.Fast.tw14329892743326559424 : True := trivial
theorem PySem.W.Fast.tw7355040230824874523 : True := trivial
theorem PySem.W.Fast.tw15607110531631672163 : True := trivial
theorem PySem.W.Fast.tw10809400158801541427 : True := trivial
theorem PySem.W.Fast.tw10987124187378380805 : True := trivial
theorem PySem.W.Fast.tw1468347825919082002 : True := trivial
theorem PySem.W.Fast.tw2725965927222387885 : True := trivial
theorem PySem.W.Fast.tw2118830282751563289 : True := trivial
theorem PySem.W.Fast.tw5465082668669805251 : True := trivial
theorem PySem.W.Fast.tw11510154469271690873 : True := trivial
theorem PySem.W.Fast.tw3375228608761978129 : True := trivial
theorem PySem.W.Fast.tw10406966250494932639 : True := trivial
theorem PySem.W.Fast.tw11387015471324891570 : True := trivial
theorem PySem.W.Fast.tw10389920593143310188 : True := trivial
theorem PySem.W.Fast.tw8126976971347563782 : True := trivial
theorem PySem.W.Fast.tw7605870322198974226 : True := trivial
theorem PySem.W.Fast.tw17246845910559672245 : True := trivial
theorem PySem.W.Fast.tw3089695985848516241 : True := trivial
theorem PySem.W.Fast.tw12795885145552601650 : True := trivial
theorem PySem.W.Fast.tw7903515751849500377 : True := trivial
theorem PySem.W.Fast.tw11470248567718137245 : True := trivial
theorem PySem.W.Fast.tw11401349073536120205 : True := trivial
theorem PySem.W.Fast.tw2808591291841175442 : True := trivial
theorem PySem.W.Fast.tw15232613922983265513 : True := trivial
theorem PySem.W.Fast.tw3400698356369503216 : True := trivial
theorem PySem.W.Fast.tw18002143550775128397 : True := trivial
theorem PySem.W.Fast.tw5813332230805267427 : True := trivial
theorem PySem.W.Fast.tw12780485066417060891 : True := trivial
theorem PySem.W.Fast.tw18397946381853289415 : True := trivial
theorem PySem.W.Fast.tw14388784599037188925 : True := trivial
theorem PySem.W.Fast.tw17943036724952385587 : True := trivial
theorem PySem.W.Fast.tw11951230172120549072 : True := trivial
theorem PySem.W.Fast.tw16475219967195485811 : True := trivial
theorem PySem.W.Fast.tw17510117412259537824 : True := trivial
theorem PySem.W.Fast.tw4694207745299682994 : True := trivial
theorem PySem.W.Fast.tw11497800530069404744 : True := trivial
theorem PySem.W.Fast.tw7923261829433094636 : True := trivial
theorem PySem.W.Fast.tw795372726009425363 : True := trivial
theorem PySem.W.Fast.tw11864630317534826103 : True := trivial
theorem PySem.W.Fast.tw1304694007325655974 : True := trivial
theorem PySem.W.Fast.tw7058519511897172108 : True := trivial
theorem PySem.W.Fast.tw6932625620399514123 : True := trivial
theorem PySem.W.Fast.tw12163929132412240108 : True := trivial
theorem PySem.W.Fast.tw4664650824925879872 : True := trivial
theorem PySem.W.Fast.tw11742990968922373222 : True := trivial
theorem PySem.W.Fast.tw15972710908840329467 : True := trivial
theorem PySem.W.Fast.tw6782404753430465159 : True := trivial
theorem PySem.W.Fast.tw7477685459975023425 : True := trivial
theorem PySem.W.Fast.tw16843792837543315790 : True := trivial
theorem PySem.W.Fast.tw2083724578007836516 : True := trivial
theorem PySem.W.Fast.tw5723170913699612243 : True := trivial
theorem PySem.W.Fast.tw13356787955658240114 : True := trivial
theorem PySem.W.Fast.tw16247198960332120424 : True := trivial
theorem PySem.W.Fast.tw2859348348555353860 : True := trivial
theorem PySem.W.Fast.tw15215761328947194373 : True := trivial
theorem PySem.W.Fast.tw1354596781640303677 : True := trivial
theorem PySem.W.Fast.tw5739135164323151211 : True := trivial
theorem PySem.W.Fast.tw16405061090133736877 : True := trivial
theorem PySem.W.Fast.tw13299257354124438680 : True := trivial
theorem PySem.W.Fast.tw5757903380152606935 : True := trivial
theorem PySem.W.Fast.tw8810386975072480806 : True := trivial
theorem PySem.W.Fast.tw3078757185865942601 : True := trivial
theorem PySem.W.Fast.tw11679035267163960673 : True := trivial
theorem PySem.W.Fast.tw18168357174799252943 : True := trivial
theorem PySem.W.Fast.tw4938253234852976835 : True := trivial
theorem PySem.W.Fast.tw4933930449997406762 : True := trivial
theorem PySem.W.Fast.tw17618992031378874386 : True := trivial
theorem PySem.W.Fast.tw11000847047193330450 : True := trivial
theorem PySem.W.Fast.tw806544727309084920 : True := trivial
theorem PySem.W.Fast.tw395009293857554852 : True := trivial
theorem PySem.W.Fast.tw1300814642552133988 : True := trivial
theorem PySem.W.Fast.tw1307187100572720242 : True := trivial
theorem PySem.W.Fast.tw8359880250067094542 : True := trivial
theorem PySem.W.Fast.tw2905034122057662964 : True := trivial
theorem PySem.W.Fast.tw15047533587305634791 : True := trivial
theorem PySem.W.Fast.tw8560219633185172337 : True := trivial
theorem PySem.W.Fast.tw13502586139269541187 : True := trivial
theorem PySem.W.Fast.tw15723657057748143387 : True := trivial
theorem PySem.W.Fast.tw2967623483659292539 : True := trivial
theorem PySem.W.Fast.tw4560914954631939660 : True := trivial
theorem PySem.W.Fast.tw9746711133590446955 : True := trivial
theorem PySem.W.Fast.tw7624800915281726988 : True := trivial
theorem PySem.W.Fast.tw16277016043435082248 : True := trivial
theorem PySem.W.Fast.tw2188252546891398827 : True := trivial
theorem PySem.W.Fast.tw4663967770934708677 : True := trivial
theorem PySem.W.Fast.tw1940112171930409562 : True := trivial
theorem PySem.W.Fast.tw12602241690494889465 : True := trivial
theorem PySem.W.Fast.tw16258426548859019191 : True := trivial
theorem PySem.W.Fast.tw4409937379450679590 : True := trivial
theorem PySem.W.Fast.tw15789129171303160384 : True := trivial
theorem PySem.W.Fast.tw5428256428155930587 : True := trivial
theorem PySem.W.Fast.tw13372258595194871249 : True := trivial
theorem PySem.W.Fast.tw2281872059718243110 : True := trivial
theorem PySem.W.Fast.tw108460340769978144 : True := trivial
theorem PySem.W.Fast.tw15264656971160573870 : True := trivial
theorem PySem.W.Fast.tw11950515699368372327 : True := trivial
theorem PySem.W.Fast.tw11763657573974644007 : True := trivial
theorem PySem.W.Fast.tw293296968249739618 : True := trivial
theorem PySem.W.Fast.tw7158637456926256963 : True := trivial
theorem PySem.W.Fast.tw8412452387960751984 : True := trivial
theorem PySem.W.Fast.tw1131999388684932321 : True := trivial
theorem PySem.W.Fast.tw351344536274396812 : True := trivial
theorem PySem.W.Fast.tw4183513666544004947 : True := trivial
theorem PySem.W.Fast.tw1057478401390337291 : True := trivial
theorem PySem.W.Fast.tw1772707037244983206 : True := trivial
theorem PySem.W.Fast.tw4113612179548865360 : True := trivial
theorem PySem.W.Fast.tw2339226598776071051 : True := trivial
theorem PySem.W.Fast.tw17194325430233132747 : True := trivial
theorem PySem.W.Fast.tw2465481154290400460 : True := trivial
theorem PySem.W.Fast.tw13634048695645932105 : True := trivial
theorem PySem.W.Fast.tw5482847497401993304 : True := trivial
theorem PySem.W.Fast.tw6350683974748147264 : True := trivial
theorem PySem.W.Fast.tw10218744337249668458 : True := trivial
theorem PySem.W.Fast.tw12338611811818826242 : True := trivial
theorem PySem.W.Fast.tw989165163560246291 : True := trivial
theorem PySem.W.Fast.tw11988165225926553650 : True := trivial
theorem PySem.W.Fast.tw1115052485322358841 : True := trivial
theorem PySem.W.Fast.tw17106189511705729355 : True := trivial
theorem PySem.W.Fast.tw761613390806938422 : True := trivial
theorem PySem.W.Fast.tw11607717274911494052 : True := trivial
theorem PySem.W.Fast.tw4536690999480191451 : True := trivial
theorem PySem.W.Fast.tw13753228790319066847 : True := trivial
theorem PySem.W.Fast.tw1595970222290829657 : True := trivial
theorem PySem.W.Fast.tw15693090616594285628 : True := trivial
theorem PySem.W.Fast.tw1356411045302125986 : True := trivial
theorem PySem.W.Fast.tw6707649002564447921 : True := trivial
theorem PySem.W.Fast.tw16045047830940183706 : True := trivial
theorem PySem.W.Fast.tw16024189058809380356 : True := trivial
theorem PySem.W.Fast.tw5587168600121428099 : True := trivial
theorem PySem.W.Fast.tw14336998215558898115 : True := trivial
theorem PySem.W.Fast.tw14939129684418399946 : True := trivial
theorem PySem.W.Fast.tw11563107550080822139 : True := trivial
theorem PySem.W.Fast.tw16163507618282141901 : True := trivial
theorem PySem.W.Fast.tw5564989689458614534 : True := trivial
theorem PySem.W.Fast.tw12617133514512178032 : True := trivial
theorem PySem.W.Fast.tw8724248909974928621 : True := trivial
theorem PySem.W.Fast.tw17973326430986056227 : True := trivial
theorem PySem.W.Fast.tw5850703679298179630 : True := trivial
theorem PySem.W.Fast.tw5044200171098767528 : True := trivial
theorem PySem.W.Fast.tw11628804686719212452 : True := trivial
theorem PySem.W.Fast.tw12137059738857330751 : True := trivial
theorem PySem.W.Fast.tw16857184726827576495 : True := trivial
theorem PySem.W.Fast.tw9928946269049626370 : True := trivial
theorem PySem.W.Fast.tw13872392324762634390 : True := trivial
theorem PySem.W.Fast.tw15063421657259748398 : True := trivial
theorem PySem.W.Fast.tw8411385717158993212 : True := trivial
theorem PySem.W.Fast.tw12714317770390320465 : True := trivial
theorem PySem.W.Fast.tw579459733145522892 : True := trivial
theorem PySem.W.Fast.tw11665900840132005231 : True := trivial
theorem PySem.W.Fast.tw4738523071334111710 : True := trivial
theorem PySem.W.Fast.tw16163766963599703213 : True := trivial
theorem PySem.W.Fast.tw14295779554836493531 : True := trivial
theorem PySem.W.Fast.tw16103099700128765862 : True := trivial
theorem PySem.W.Fast.tw13048560284921577396 : True := trivial
theorem PySem.W.Fast.tw16372493961242237580 : True := trivial
theorem PySem.W.Fast.tw5844914071425084862 : True := trivial
theorem PySem.W.Fast.tw16622756577246416939 : True := trivial
theorem PySem.W.Fast.tw6049635221662026599 : True := trivial
theorem PySem.W.Fast.tw7681016289633061477 : True := trivial
theorem PySem.W.Fast.tw14982932162125087221 : True := trivial
theorem PySem.W.Fast.tw14325620788478694704 : True := trivial
theorem PySem.W.Fast.tw9873644098007831610 : True := trivial
theorem PySem.W.Fast.tw6714446137673346044 : True := trivial
theorem PySem.W.Fast.tw12627594475008279750 : True := trivial
theorem PySem.W.Fast.tw1810892835263113223 : True := trivial
theorem PySem.W.Fast.tw3238987633303004794 : True := trivial
theorem PySem.W.Fast.tw5054208963891301202 : True := trivial
theorem PySem.W.Fast.tw12329578258084493389 : True := trivial
theorem PySem.W.Fast.tw10117744183793803345 : True := trivial
theorem PySem.W.Fast.tw3867768115222738904 : True := trivial
theorem PySem.W.Fast.tw2326280821668565557 : True := trivial
theorem PySem.W.Fast.tw248487399247600826 : True := trivial
theorem PySem.W.Fast.tw4943110384069861444 : True := trivial
theorem PySem.W.Fast.tw186066108505757522 : True := trivial
theorem PySem.W.Fast.tw293806796915362618 : True := trivial
theorem PySem.W.Fast.tw13434899970151635975 : True := trivial
theorem PySem.W.Fast.tw5098088845866628211 : True := trivial
theorem PySem.W.Fast.tw9768656938358053183 : True := trivial
theorem PySem.W.Fast.tw17276059938973247890 : True := trivial
theorem PySem.W.Fast.tw12837757567204572090 : True := trivial
theorem PySem.W.Fast.tw14276955084657307402 : True := trivial
theorem PySem.W.Fast.tw4203598536837156770 : True := trivial
theorem PySem.W.Fast.tw3588650140788960837 : True := trivial
theorem PySem.W.Fast.tw2854226401553035353 : True := trivial
theorem PySem.W.Fast.tw12318854361237518162 : True := trivial
theorem PySem.W.Fast.tw5291463046218641951 : True := trivial
theorem PySem.W.Fast.tw12082020279403063808 : True := trivial
theorem PySem.W.Fast.tw5761216953474510887 : True := trivial
theorem PySem.W.Fast.tw14526382732447972495 : True := trivial
theorem PySem.W.Fast.tw10816458124761846709 : True := trivial
theorem PySem.W.Fast.tw4840375707362568853 : True := trivial
theorem PySem.W.Fast.tw14094474088793029525 : True := trivial
theorem PySem.W.Fast.tw1232088274762296716 : True := trivial
theorem PySem.W.Fast.tw14613405875569494802 : True := trivial
theorem PySem.W.Fast.tw13570869924710603958 : True := trivial
theorem PySem.W.Fast.tw4208713764976853118 : True := trivial
theorem PySem.W.Fast.tw3881817029420539794 : True := trivial
theorem PySem.W.Fast.tw5566375249724946206 : True := trivial
theorem PySem.W.Fast.tw16716369238614748208 : True := trivial
theorem PySem.W.Fast.tw8193352694531621255 : True := trivial
theorem PySem.W.Fast.tw5413568119423844121 : True := trivial
theorem PySem.W.Fast.tw510231361481813145 : True := trivial
theorem PySem.W.Fast.tw652698003996016613 : True := trivial
theorem PySem.W.Fast.tw11996081119177447467 : True := trivial
theorem PySem.W.Fast.tw15101969414773176395 : True := trivial
theorem PySem.W.Fast.tw12873941693817841973 : True := trivial
theorem PySem.W.Fast.tw11811767238519901052 : True := trivial
theorem PySem.W.Fast.tw7979502214018755234 : True := trivial
theorem PySem.W.Fast.tw11533332779657912373 : True := trivial
theorem PySem.W.Fast.tw7317744209577879041 : True := trivial
theorem PySem.W.Fast.tw13340461672490109933 : True := trivial
theorem PySem.W.Fast.tw14329317169488934321 : True := trivial
theorem PySem.W.Fast.tw14471716208450319142 : True := trivial
theorem PySem.W.Fast.tw10153205285989763911 : True := trivial
theorem PySem.W.Fast.tw13729039360706377141 : True := trivial
theorem PySem.W.Fast.tw9281047588460148898 : True := trivial
theorem PySem.W.Fast.tw17471886532968369651 : True := trivial
theorem PySem.W.Fast.tw3179049388532560862 : True := trivial
theorem PySem.W.Fast.tw4739662846890162468 : True := trivial
theorem PySem.W.Fast.tw623701587727121359 : True := trivial
theorem PySem.W.Fast.tw11476186612970184610 : True := trivial
theorem PySem.W.Fast.tw16505722278756724145 : True := trivial
theorem PySem.W.Fast.tw14427130819992567836 : True := trivial
theorem PySem.W.Fast.tw10924539678435961545 : True := trivial
theorem PySem.W.Fast.tw3425709691216261812 : True := trivial
theorem PySem.W.Fast.tw10400453222448582952 : True := trivial
theorem PySem.W.Fast.tw13525009857371963255 : True := trivial
theorem PySem.W.Fast.tw947519741758965239 : True := trivial
theorem PySem.W.Fast.tw6745699648580786711 : True := trivial
theorem PySem.W.Fast.tw11129351582480689807 : True := trivial
theorem PySem.W.Fast.tw3579866205417570735 : True := trivial
theorem PySem.W.Fast.tw14791466448269143810 : True := trivial
theorem PySem.W.Fast.tw16087171766679840579 : True := trivial
theorem PySem.W.Fast.tw5370599843445783272 : True := trivial
theorem PySem.W.Fast.tw9172436611961458322 : True := trivial
theorem PySem.W.Fast.tw10800865305815560330 : True := trivial
theorem PySem.W.Fast.tw2583101298004818241 : True := trivial
theorem PySem.W.Fast.tw13132395955499029918 : True := trivial
theorem PySem.W.Fast.tw5215267192890529204 : True := trivial
theorem PySem.W.Fast.tw15367041972098397901 : True := trivial
theorem PySem.W.Fast.tw152103124593038487 : True := trivial
theorem PySem.W.Fast.tw6480245143517278509 : True := trivial
theorem PySem.W.Fast.tw15957067634692075186 : True := trivial
theorem PySem.W.Fast.tw12093223331312122228 : True := trivial
theorem PySem.W.Fast.tw12093853042010481633 : True := trivial
theorem PySem.W.Fast.tw14472588722827070691 : True := trivial
theorem PySem.W.Fast.tw4262963088397210346 : True := trivial
theorem PySem.W.Fast.tw10128423816367050688 : True := trivial
theorem PySem.W.Fast.tw12561442847018276743 : True := trivial
theorem PySem.W.Fast.tw5751167920380778027 : True := trivial
theorem PySem.W.Fast.tw5559067115756847623 : True := trivial
theorem PySem.W.Fast.tw4356977084027351927 : True := trivial
theorem PySem.W.Fast.tw9285357439581695301 : True := trivial
theorem PySem.W.Fast.tw6649014543483826969 : True := trivial
theorem PySem.W.Fast.tw2037542993196774163 : True := trivial
theorem PySem.W.Fast.tw14032422703253997765 : True := trivial
theorem PySem.W.Fast.tw15353424491044568247 : True := trivial
theorem PySem.W.Fast.tw17436109260050631754 : True := trivial
theorem PySem.W.Fast.tw15664047691483795975 : True := trivial
theorem PySem.W.Fast.tw15356673833923571379 : True := trivial
theorem PySem.W.Fast.tw16862694667859179336 : True := trivial
theorem PySem.W.Fast.tw15439690103813876545 : True := trivial
theorem PySem.W.Fast.tw11158681606915426306 : True := trivial
theorem PySem.W.Fast.tw7903462832786725031 : True := trivial
theorem PySem.W.Fast.tw6698311134406038586 : True := trivial
theorem PySem.W.Fast.tw3837934513609755563 : True := trivial
theorem PySem.W.Fast.tw7413603921736226011 : True := trivial
theorem PySem.W.Fast.tw2944926471748678201 : True := trivial
theorem PySem.W.Fast.tw13587422507329039073 : True := trivial
theorem PySem.W.Fast.tw17119570019666564750 : True := trivial
theorem PySem.W.Fast.tw10454224793739962663 : True := trivial
theorem PySem.W.Fast.tw2226619541427445467 : True := trivial
theorem PySem.W.Fast.tw11819820012138412116 : True := trivial
theorem PySem.W.Fast.tw3848886782957831612 : True := trivial
theorem PySem.W.Fast.tw872637056463150790 : True := trivial
theorem PySem.W.Fast.tw6962659542394574202 : True := trivial
theorem PySem.W.Fast.tw5015479602050400415 : True := trivial
theorem PySem.W.Fast.tw17889072077326505642 : True := trivial
theorem PySem.W.Fast.tw6032730736901809377 : True := trivial
theorem PySem.W.Fast.tw1885489201891494557 : True := trivial
theorem PySem.W.Fast.tw14877041095287817477 : True := trivial
theorem PySem.W.Fast.tw5401905137540979396 : True := trivial
theorem PySem.W.Fast.tw17695389477717638027 : True := trivial
theorem PySem.W.Fast.tw5547748718151399821 : True := trivial
theorem PySem.W.Fast.tw6106476788936121710 : True := trivial
theorem PySem.W.Fast.tw5253539750734229012 : True := trivial
theorem PySem.W.Fast.tw7853476897859253189 : True := trivial
theorem PySem.W.Fast.tw1729513111328766908 : True := trivial
theorem PySem.W.Fast.tw11794258730014218430 : True := trivial
theorem PySem.W.Fast.tw14111319726200470380 : True := trivial
theorem PySem.W.Fast.tw4523414441118733002 : True := trivial
theorem PySem.W.Fast.tw2041482604172797679 : True := trivial
theorem PySem.W.Fast.tw1500639512321447398 : True := trivial
theorem PySem.W.Fast.tw12332304396668816026 : True := trivial
theorem PySem.W.Fast.tw12853864968846582224 : True := trivial
theorem PySem.W.Fast.tw12080222887387500667 : True := trivial
theorem PySem.W.Fast.tw10020826693098840604 : True := trivial
theorem PySem.W.Fast.tw5044139566614026357 : True := trivial
theorem PySem.W.Fast.tw7001624283422643900 : True := trivial
theorem PySem.W.Fast.tw17696628737233160 : True := trivial
theorem PySem.W.Fast.tw5026633850694035814 : True := trivial
theorem PySem.W.Fast.tw18294521353836165689 : True := trivial
theorem PySem.W.Fast.tw9076043188579589773 : True := trivial
theorem PySem.W.Fast.tw7471657956152914608 : True := trivial
theorem PySem.W.Fast.tw18084578076344039606 : True := trivial
theorem PySem.W.Fast.tw8015868266392494282 : True := trivial
theorem PySem.W.Fast.tw5618073814404722314 : True := trivial
theorem PySem.W.Fast.tw11602162733009912833 : True := trivial
theorem PySem.W.Fast.tw7377249295197783579 : True := trivial
theorem PySem.W.Fast.tw17265575763241689183 : True := trivial
theorem PySem.W.Fast.tw17613433765311163001 : True := trivial
theorem PySem.W.Fast.tw17456963801157703335 : True := trivial
theorem PySem.W.Fast.tw13720211838848447481 : True := trivial
theorem PySem.W.Fast.tw1682104702426710173 : True := trivial
theorem PySem.W.Fast.tw14980595785435489818 : True := trivial
theorem PySem.W.Fast.tw10490532438287898915 : True := trivial
theorem PySem.W.Fast.tw12178833798988466678 : True := trivial
theorem PySem.W.Fast.tw1264376280061177931 : True := trivial
theorem PySem.W.Fast.tw16059225447484877901 : True := trivial
theorem PySem.W.Fast.tw14980074495447608944 : True := trivial
theorem PySem.W.Fast.tw779825507994825620 : True := trivial
theorem PySem.W.Fast.tw17943302000559484833 : True := trivial
theorem PySem.W.Fast.tw10641130742374889155 : True := trivial
theorem PySem.W.Fast.tw14524931326081494494 : True := trivial
theorem PySem.W.Fast.tw4945823119876654984 : True := trivial
theorem PySem.W.Fast.tw7521630220788804154 : True := trivial
theorem PySem.W.Fast.tw14891118889654149326 : True := trivial
theorem PySem.W.Fast.tw14652867047371701909 : True := trivial
theorem PySem.W.Fast.tw7020703859300558879 : True := trivial
theorem PySem.W.Fast.tw7008635528729057689 : True := trivial
theorem PySem.W.Fast.tw8570237518272295189 : True := trivial
theorem PySem.W.Fast.tw5619442921391284710 : True := trivial
theorem PySem.W.Fast.tw8746356840193733492 : True := trivial
theorem PySem.W.Fast.tw4475902739872676281 : True := trivial
theorem PySem.W.Fast.tw3083551776873089960 : True := trivial
theorem PySem.W.Fast.tw14638903028643650007 : True := trivial
theorem PySem.W.Fast.tw10604372081148289776 : True := trivial
theorem PySem.W.Fast.tw4154668500060299132 : True := trivial
theorem PySem.W.Fast.tw9884411831352494377 : True := trivial
theorem PySem.W.Fast.tw12704794633159058437 : True := trivial
theorem PySem.W.Fast.tw2394067159201539741 : True := trivial
theorem PySem.W.Fast.tw14153060041794109343 : True := trivial
theorem PySem.W.Fast.tw8730090855221053278 : True := trivial
theorem PySem.W.Fast.tw6647642656209278496 : True := trivial
theorem PySem.W.Fast.tw15243609969990790754 : True := trivial
theorem PySem.W.Fast.tw7629943004678723216 : True := trivial
theorem PySem.W.Fast.tw1115484558264572417 : True := trivial
theorem PySem.W.Fast.tw15862554137025950495 : True := trivial
theorem PySem.W.Fast.tw11953586650430036935 : True := trivial
theorem PySem.W.Fast.tw9331612351849858747 : True := trivial
theorem PySem.W.Fast.tw2536866867881496333 : True := trivial
theorem PySem.W.Fast.tw2833570316888639189 : True := trivial
theorem PySem.W.Fast.tw13290978867718623069 : True := trivial
theorem PySem.W.Fast.tw6465530113127722196 : True := trivial
theorem PySem.W.Fast.tw5553612296716259976 : True := trivial
theorem PySem.W.Fast.tw547380808813072253 : True := trivial
theorem PySem.W.Fast.tw6885457052392650308 : True := trivial
theorem PySem.W.Fast.tw2503595471236927954 : True := trivial
theorem PySem.W.Fast.tw15773124231001485668 : True := trivial
theorem PySem.W.Fast.tw11011259699994945622 : True := trivial
theorem PySem.W.Fast.tw18200996757603527294 : True := trivial
theorem PySem.W.Fast.tw17176955410282871562 : True := trivial
theorem PySem.W.Fast.tw5813642429794477729 : True := trivial
theorem PySem.W.Fast.tw2908972871050415041 : True := trivial
theorem PySem.W.Fast.tw7865275998942390478 : True := trivial
theorem PySem.W.Fast.tw6799919013652628030 : True := trivial
theorem PySem.W.Fast.tw15150649493644756416 : True := trivial
theorem PySem.W.Fast.tw4967101053536524760 : True := trivial
theorem PySem.W.Fast.tw1292556484905922797 : True := trivial
theorem PySem.W.Fast.tw17296469496068223547 : True := trivial
theorem PySem.W.Fast.tw4582794597163103692 : True := trivial
theorem PySem.W.Fast.tw75019583598826507 : True := trivial
theorem PySem.W.Fast.tw124541450633972360 : True := trivial
theorem PySem.W.Fast.tw7571389285358740060 : True := trivial
theorem PySem.W.Fast.tw8966407999989518641 : True := trivial
theorem PySem.W.Fast.tw10871617698004466613 : True := trivial
theorem PySem.W.Fast.tw3412328848336784729 : True := trivial
theorem PySem.W.Fast.tw10343292318125246759 : True := trivial
theorem PySem.W.Fast.tw15682067833987373408 : True := trivial
theorem PySem.W.Fast.tw1897459406018357847 : True := trivial
theorem PySem.W.Fast.tw10083834087056786762 : True := trivial
theorem PySem.W.Fast.tw3201186474940245206 : True := trivial
theorem PySem.W.Fast.tw9877251409172157413 : True := trivial
theorem PySem.W.Fast.tw18324606085778162765 : True := trivial
theorem PySem.W.Fast.tw16626226563777203143 : True := trivial
theorem PySem.W.Fast.tw5111957521987723471 : True := trivial
theorem PySem.W.Fast.tw5365423988024896474 : True := trivial
theorem PySem.W.Fast.tw16104992667304166063 : True := trivial
theorem PySem.W.Fast.tw8390914905113151351 : True := trivial
theorem PySem.W.Fast.tw4400133870612109502 : True := trivial
theorem PySem.W.Fast.tw12957819779637925345 : True := trivial
theorem PySem.W.Fast.tw3324121485238984117 : True := trivial
theorem PySem.W.Fast.tw17719282742123574491 : True := trivial
theorem PySem.W.Fast.tw14229698058290196359 : True := trivial
theorem PySem.W.Fast.tw213508377633429436 : True := trivial
theorem PySem.W.Fast.tw15932440581606056614 : True := trivial
theorem PySem.W.Fast.tw5172318041531079713 : True := trivial
theorem PySem.W.Fast.tw10808008143288322162 : True := trivial
theorem PySem.W.Fast.tw10638475557473244191 : True := trivial
theorem PySem.W.Fast.tw7341301069945046928 : True := trivial
theorem PySem.W.Fast.tw14689087672727244236 : True := trivial
theorem PySem.W.Fast.tw18252565809107513081 : True := trivial
theorem PySem.W.Fast.tw12264102734652731236 : True := trivial
theorem PySem.W.Fast.tw6996336580929647004 : True := trivial
theorem PySem.W.Fast.tw15655387230223765614 : True := trivial
theorem PySem.W.Fast.tw12683625434432413511 : True := trivial
theorem PySem.W.Fast.tw7913417121596659557 : True := trivial
theorem PySem.W.Fast.tw4322807160142787476 : True := trivial
theorem PySem.W.Fast.tw9880662845814038712 : True := trivial
theorem PySem.W.Fast.tw3412756948068550414 : True := trivial
theorem PySem.W.Fast.tw4437371351696808147 : True := trivial
theorem PySem.W.Fast.tw12042765803106525042 : True := trivial
theorem PySem.W.Fast.tw3864282118245324311 : True := trivial
theorem PySem.W.Fast.tw3654669604993174807 : True := trivial
theorem PySem.W.Fast.tw12324212307241156918 : True := trivial
theorem PySem.W.Fast.tw8485325706849651437 : True := trivial
theorem PySem.W.Fast.tw15749123873655266089 : True := trivial
theorem PySem.W.Fast.tw5847166354654340045 : True := trivial
theorem PySem.W.Fast.tw1848370762170551593 : True := trivial
theorem PySem.W.Fast.tw11576129175313068181 : True := trivial
theorem PySem.W.Fast.tw7955462810114465077 : True := trivial
theorem PySem.W.Fast.tw8177450455855358768 : True := trivial
theorem PySem.W.Fast.tw16902214396131823672 : True := trivial
theorem PySem.W.Fast.tw16877398478991002554 : True := trivial
theorem PySem.W.Fast.tw13710686295330814841 : True := trivial
theorem PySem.W.Fast.tw17192436510751631229 : True := trivial
theorem PySem.W.Fast.tw12725000709560282875 : True := trivial
theorem PySem.W.Fast.tw11690743364131512728 : True := trivial
theorem PySem.W.Fast.tw974387724034280181 : True := trivial
theorem PySem.W.Fast.tw11528219959237544417 : True := trivial
theorem PySem.W.Fast.tw4464695871888057918 : True := trivial
theorem PySem.W.Fast.tw3926096897520728152 : True := trivial
theorem PySem.W.Fast.tw16676786610535165422 : True := trivial
theorem PySem.W.Fast.tw14482517118295776803 : True := trivial
theorem PySem.W.Fast.tw3888415531171090230 : True := trivial
theorem PySem.W.Fast.tw17197181357152119542 : True := trivial
theorem PySem.W.Fast.tw11803951453863889134 : True := trivial
theorem PySem.W.Fast.tw9052500502832495612 : True := trivial
theorem PySem.W.Fast.tw8375744858624381057 : True := trivial
theorem PySem.W.Fast.tw8380211168108642005 : True := trivial
theorem PySem.W.Fast.tw17832281507057622342 : True := trivial
theorem PySem.W.Fast.tw18382014279740844972 : True := trivial
theorem PySem.W.Fast.tw13780503052928448087 : True := trivial
theorem PySem.W.Fast.tw14237630748188516302 : True := trivial
theorem PySem.W.Fast.tw11358251705357392546 : True := trivial
theorem PySem.W.Fast.tw1033032622389778679 : True := trivial
theorem PySem.W.Fast.tw7594022240124988708 : True := trivial
theorem PySem.W.Fast.tw3350073313412341359 : True := trivial
theorem PySem.W.Fast.tw7996872697986090130 : True := trivial
theorem PySem.W.Fast.tw7235540425505779461 : True := trivial
theorem PySem.W.Fast.tw14507454399357546922 : True := trivial
theorem PySem.W.Fast.tw16364460987665321105 : True := trivial
theorem PySem.W.Fast.tw316248549576689060 : True := trivial
theorem PySem.W.Fast.tw17193153163190333326 : True := trivial
theorem PySem.W.Fast.tw17263861618771354905 : True := trivial
theorem PySem.W.Fast.tw6699708351357259406 : True := trivial
theorem PySem.W.Fast.tw14218388797842381118 : True := trivial
theorem PySem.W.Fast.tw1872501502190208098 : True := trivial
theorem PySem.W.Fast.tw1808936791002949363 : True := trivial
theorem PySem.W.Fast.tw4751663524509134743 : True := trivial
theorem PySem.W.Fast.tw11640830910011994731 : True := trivial
theorem PySem.W.Fast.tw90191691148994305 : True := trivial
theorem PySem.W.Fast.tw10697337684017797339 : True := trivial
theorem PySem.W.Fast.tw4006876391239405186 : True := trivial
theorem PySem.W.Fast.tw6939299406545473235 : True := trivial
theorem PySem.W.Fast.tw15831028531273257096 : True := trivial
theorem PySem.W.Fast.tw2527955505521970831 : True := trivial
theorem PySem.W.Fast.tw15103464741007882181 : True := trivial
theorem PySem.W.Fast.tw15183918073007002501 : True := trivial
theorem PySem.W.Fast.tw11449942452578465335 : True := trivial
theorem PySem.W.Fast.tw6083114707847473471 : True := trivial
theorem PySem.W.Fast.tw2982784018971063097 : True := trivial
theorem PySem.W.Fast.tw836947263283790821 : True := trivial
theorem PySem.W.Fast.tw7342363079391334304 : True := trivial
theorem PySem.W.Fast.tw17277287900033486235 : True := trivial
theorem PySem.W.Fast.tw9276455660224746874 : True := trivial
theorem PySem.W.Fast.tw17169318600324008762 : True := trivial
theorem PySem.W.Fast.tw4099916477813867891 : True := trivial
theorem PySem.W.Fast.tw11150614286922698044 : True := trivial
theorem PySem.W.Fast.tw7477206704012849411 : True := trivial
theorem PySem.W.Fast.tw8153782766147960765 : True := trivial
theorem PySem.W.Fast.tw3493507715482246944 : True := trivial
theorem PySem.W.Fast.tw8446831402509583816 : True := trivial
theorem PySem.W.Fast.tw8431965550716471181 : True := trivial
theorem PySem.W.Fast.tw13004331855210970708 : True := trivial
theorem PySem.W.Fast.tw172105735128678056 : True := trivial
theorem PySem.W.Fast.tw7508549097596927553 : True := trivial
theorem PySem.W.Fast.tw15366880860440064850 : True := trivial
theorem PySem.W.Fast.tw4850727592727704194 : True := trivial
theorem PySem.W.Fast.tw15534705805526053010 : True := trivial
theorem PySem.W.Fast.tw4837591752682786805 : True := trivial
theorem PySem.W.Fast.tw15826685469748147654 : True := trivial
theorem PySem.W.Fast.tw13071184858846327711 : True := trivial
theorem PySem.W.Fast.tw392708163183272075 : True := trivial
theorem PySem.W.Fast.tw11181370488312070992 : True := trivial
theorem PySem.W.Fast.tw4684813489858216986 : True := trivial
theorem PySem.W.Fast.tw2306117300856961256 : True := trivial
theorem PySem.W.Fast.tw356522429608033425 : True := trivial
theorem PySem.W.Fast.tw16514410412950074067 : True := trivial
theorem PySem.W.Fast.tw5655687059367294645 : True := trivial
theorem PySem.W.Fast.tw3909717402210453742 : True := trivial
theorem PySem.W.Fast.tw3238601271852287240 : True := trivial
theorem PySem.W.Fast.tw13595807665332430487 : True := trivial
theorem PySem.W.Fast.tw13551018134704144914 : True := trivial
theorem PySem.W.Fast.tw11042519641447157264 : True := trivial
theorem PySem.W.Fast.tw12904096868155311938 : True := trivial
theorem PySem.W.Fast.tw2587674627444656896 : True := trivial
theorem PySem.W.Fast.tw193878341531570381 : True := trivial
theorem PySem.W.Fast.tw7495155164324949959 : True := trivial
theorem PySem.W.Fast.tw4479193242328683581 : True := trivial
theorem PySem.W.Fast.tw3946990152913735016 : True := trivial
theorem PySem.W.Fast.tw2608451217952097416 : True := trivial
theorem PySem.W.Fast.tw2350455053093085448 : True := trivial
theorem PySem.W.Fast.tw926222675160522021 : True := trivial
theorem PySem.W.Fast.tw10574779663286229930 : True := trivial
theorem PySem.W.Fast.tw6701649425941654113 : True := trivial
theorem PySem.W.Fast.tw11199688909229122521 : True := trivial
theorem PySem.W.Fast.tw10850998349720061051 : True := trivial
theorem PySem.W.Fast.tw15329135538147453041 : True := trivial
theorem PySem.W.Fast.tw4946627953080280599 : True := trivial
theorem PySem.W.Fast.tw4674109615057383084 : True := trivial
theorem PySem.W.Fast.tw2096283308058923752 : True := trivial
theorem PySem.W.Fast.tw5394380842848826404 : True := trivial
theorem PySem.W.Fast.tw13129765297444300425 : True := trivial
theorem PySem.W.Fast.tw17642898620917995754 : True := trivial
theorem PySem.W.Fast.tw15408049486766788220 : True := trivial
theorem PySem.W.Fast.tw4473437398875289061 : True := trivial
theorem PySem.W.Fast.tw12677866828684509340 : True := trivial
theorem PySem.W.Fast.tw4827372989847671355 : True := trivial
theorem PySem.W.Fast.tw12971493421179756205 : True := trivial
theorem PySem.W.Fast.tw7561678400433956064 : True := trivial
theorem PySem.W.Fast.tw11167612006000433707 : True := trivial
theorem PySem.W.Fast.tw6756913756987941667 : True := trivial
theorem PySem.W.Fast.tw2682565422419838873 : True := trivial
theorem PySem.W.Fast.tw12739959922936605652 : True := trivial
theorem PySem.W.Fast.tw2770010485890531568 : True := trivial
theorem PySem.W.Fast.tw14975294362900936084 : True := trivial
theorem PySem.W.Fast.tw7590249840180336484 : True := trivial
theorem PySem.W.Fast.tw17407443183009769337 : True := trivial
theorem PySem.W.Fast.tw9149397821354562450 : True := trivial
theorem PySem.W.Fast.tw2298929523770271728 : True := trivial
theorem PySem.W.Fast.tw11790808064614673516 : True := trivial
theorem PySem.W.Fast.tw3699341052265740099 : True := trivial
theorem PySem.W.Fast.tw11922125343323053355 : True := trivial
theorem PySem.W.Fast.tw4480537870743060412 : True := trivial
theorem PySem.W.Fast.tw7280899254000482606 : True := trivial
theorem PySem.W.Fast.tw9944463306345108995 : True := trivial
theorem PySem.W.Fast.tw14775497617149998805 : True := trivial
theorem PySem.W.Fast.tw9783228342488269830 : True := trivial
theorem PySem.W.Fast.tw8021099145780992295 : True := trivial
theorem PySem.W.Fast.tw9144031616533268431 : True := trivial
theorem PySem.W.Fast.tw14322193959218400034 : True := trivial
theorem PySem.W.Fast.tw2046288766663452519 : True := trivial
theorem PySem.W.Fast.tw8763423732451809364 : True := trivial
theorem PySem.W.Fast.tw12974603158457013525 : True := trivial
theorem PySem.W.Fast.tw9730292438485159609 : True := trivial
theorem PySem.W.Fast.tw7779724239560827902 : True := trivial
theorem PySem.W.Fast.tw17849685645225982272 : True := trivial
theorem PySem.W.Fast.tw9847643817112181086 : True := trivial
theorem PySem.W.Fast.tw18086867837876403116 : True := trivial
theorem PySem.W.Fast.tw7085486523172932237 : True := trivial
theorem PySem.W.Fast.tw9947172928742383278 : True := trivial
theorem PySem.W.Fast.tw7209278092456725133 : True := trivial
theorem PySem.W.Fast.tw12440834248276464658 : True := trivial
theorem PySem.W.Fast.tw4743625892761041636 : True := trivial
theorem PySem.W.Fast.tw8762634318571463681 : True := trivial
theorem PySem.W.Fast.tw15771245489411595544 : True := trivial
theorem PySem.W.Fast.tw7172443860984607051 : True := trivial
theorem PySem.W.Fast.tw6214816230634655038 : True := trivial
theorem PySem.W.Fast.tw9781436451584226256 : True := trivial
theorem PySem.W.Fast.tw13227492315362313453 : True := trivial
theorem PySem.W.Fast.tw4244254093465438547 : True := trivial
theorem PySem.W.Fast.tw17216920144998967640 : True := trivial
theorem PySem.W.Fast.tw14302098804545994514 : True := trivial
theorem PySem.W.Fast.tw7599381478970736477 : True := trivial
theorem PySem.W.Fast.tw1542938659371917096 : True := trivial
theorem PySem.W.Fast.tw11728848078448981030 : True := trivial
theorem PySem.W.Fast.tw3252532448329581228 : True := trivial
theorem PySem.W.Fast.tw8513816953493424079 : True := trivial
theorem PySem.W.Fast.tw18432168077932408259 : True := trivial
theorem PySem.W.Fast.tw869138231520953217 : True := trivial
theorem PySem.W.Fast.tw15764367748295312566 : True := trivial
theorem PySem.W.Fast.tw7765789744928470802 : True := trivial
theorem PySem.W.Fast.tw14948835400011885018 : True := trivial
theorem PySem.W.Fast.tw4956622212836544309 : True := trivial
theorem PySem.W.Fast.tw9738596846617524294 : True := trivial
theorem PySem.W.Fast.tw10573259451172252098 : True := trivial
theorem PySem.W.Fast.tw6365089193749319492 : True := trivial
theorem PySem.W.Fast.tw3058060179758965668 : True := trivial
theorem PySem.W.Fast.tw7417339421176215128 : True := trivial
theorem PySem.W.Fast.tw14348355279403628947 : True := trivial
theorem PySem.W.Fast.tw11708902553341660152 : True := trivial
theorem PySem.W.Fast.tw13121142529008541059 : True := trivial
theorem PySem.W.Fast.tw6208299449148078859 : True := trivial
theorem PySem.W.Fast.tw343414970609230734 : True := trivial
theorem PySem.W.Fast.tw17340597182515737313 : True := trivial
theorem PySem.W.Fast.tw8746770961402855739 : True := trivial
theorem PySem.W.Fast.tw15272956247219924560 : True := trivial
theorem PySem.W.Fast.tw10600802713455590014 : True := trivial
theorem PySem.W.Fast.tw11604490069581584964 : True := trivial
theorem PySem.W.Fast.tw6831310488726293134 : True := trivial
theorem PySem.W.Fast.tw12322819718208560360 : True := trivial
theorem PySem.W.Fast.tw11401644531636571902 : True := trivial
theorem PySem.W.Fast.tw17101756369324979879 : True := trivial
theorem PySem.W.Fast.tw10771730331030500367 : True := trivial
theorem PySem.W.Fast.tw9742598177629301226 : True := trivial
theorem PySem.W.Fast.tw9414154994759496806 : True := trivial
theorem PySem.W.Fast.tw10518654313814001879 : True := trivial
theorem PySem.W.Fast.tw694705875377326292 : True := trivial
theorem PySem.W.Fast.tw16144406649091438670 : True := trivial
theorem PySem.W.Fast.tw1118674538157575290 : True := trivial
theorem PySem.W.Fast.tw9158954083763909757 : True := trivial
theorem PySem.W.Fast.tw16146065608425040364 : True := trivial
theorem PySem.W.Fast.tw12056563257666398962 : True := trivial
theorem PySem.W.Fast.tw14573572166386525232 : True := trivial
theorem PySem.W.Fast.tw15974663607250610221 : True := trivial
theorem PySem.W.Fast.tw13755672070807195048 : True := trivial
theorem PySem.W.Fast.tw5902508773825617426 : True := trivial
theorem PySem.W.Fast.tw8042008058443146628 : True := trivial
theorem PySem.W.Fast.tw4205909947159220954 : True := trivial
theorem PySem.W.Fast.tw18285335478342041148 : True := trivial
theorem PySem.W.Fast.tw10040505661243196986 : True := trivial
theorem PySem.W.Fast.tw17133932217721561979 : True := trivial
theorem PySem.W.Fast.tw16730692532247189405 : True := trivial
theorem PySem.W.Fast.tw1213426287299550319 : True := trivial
theorem PySem.W.Fast.tw3791626453974817381 : True := trivial
theorem PySem.W.Fast.tw4264107146449563829 : True := trivial
theorem PySem.W.Fast.tw16956388025215115748 : True := trivial
theorem PySem.W.Fast.tw4165053904786172672 : True := trivial
theorem PySem.W.Fast.tw8478889061166911205 : True := trivial
theorem PySem.W.Fast.tw2908882501731820543 : True := trivial
theorem PySem.W.Fast.tw2044462695220441982 : True := trivial
theorem PySem.W.Fast.tw7287716553220645800 : True := trivial
theorem PySem.W.Fast.tw11218725713027119379 : True := trivial
theorem PySem.W.Fast.tw8933750013531311817 : True := trivial
theorem PySem.W.Fast.tw7319852197921852418 : True := trivial
open PySem PySem.W PyProof.Rows
set_option maxRecDepth 100000 in
set_option maxHeartbeats 0 in
theorem PySem.Challenge.cw_tariffgate_k34_notes_refused_holds : PySem.Challenge.rw_tariffgate_k34_notes_refused.Holds := by
  w_on; o_law; k_head; (case hw => w_witness2)
  k_fill
  refine My.walk (l := PySem.Challenge.rw_tariffgate_k34_notes_refused) rfl rfl (fun w h Y => PySem.W.kIn_of Y) ?F
  case F =>
    intro w mg fa h KX G hmg
    refine' My.all_mk KX G hmg ?n_TariffError ?n_NoNumber ?n_NoBands ?n_NoKinds ?n_NoGoods ?n_NoNote ?n_NoTree ?n_NoneClaims ?n_TwoClaim ?n_NoRule ?n_NoLot ?n_NoQuota ?n_NoRate ?n_NoEntry ?n_NoDeed ?n_NoRow ?n_Note ?n_OfTwo ?n_Anything ?n_Made ?n_Used ?n_Chief ?n_Over ?n_Both ?n_Either ?n_But ?a1 ?l1 ?c1 ?k1 ?a2 ?l2 ?c2 ?k2 ?a3 ?l3 ?c3 ?k3 ?a4 ?l4 ?c4 ?k4 ?a5 ?l5 ?c5 ?k5 ?a6 ?l6 ?c6 ?k6 ?a7 ?l7 ?c7 ?k7 ?a8 ?l8 ?c8 ?k8 ?a9 ?l9 ?c9 ?k9 ?t9 ?a10 ?l10 ?c10 ?k10 ?t10 ?a11 ?l11 ?c11 ?k11 ?t11 ?a12 ?l12 ?c12 ?k12 ?t12 ?a13 ?l13 ?c13 ?k13 ?t13 ?a14 ?l14 ?c14 ?k14 ?t14 ?a15 ?l15 ?c15 ?k15 ?t15 ?a16 ?l16 ?c16 ?k16 ?t16 ?a17 ?l17 ?c17 ?k17 ?t17 ?a18 ?l18 ?c18 ?k18 ?t18 ?a19 ?l19 ?c19 ?k19 ?t19 ?a20 ?l20 ?c20 ?k20 ?t20 ?a21 ?l21 ?c21 ?k21 ?t21 ?a22 ?l22 ?c22 ?k22 ?a23 ?l23 ?c23 ?k23 ?a24 ?l24 ?c24 ?k24 ?a25 ?l25 ?c25 ?k25 ?a26 ?l26 ?c26 ?k26 ?a27 ?l27 ?c27 ?k27 ?a28 ?l28 ?c28 ?k28 ?a29 ?l29 ?c29 ?k29 ?a30 ?l30 ?c30 ?k30 ?a31 ?l31 ?c31 ?k31 ?a32 ?l32 ?c32 ?k32 ?a33 ?l33 ?c33 ?k33 ?a34 ?l34 ?c34 ?k34 ?pg_Anything ?hd_Anything ?po_Anything ?sa_Anything ?ia_Anything ?im_Anything ?mk_Anything ?kc_Anything ?in_Anything ?pg_Made ?hd_Made ?po_Made ?sa_Made ?ia_Made ?im_Made ?mk_Made ?kc_Made ?pg_Used ?hd_Used ?po_Used ?sa_Used ?ia_Used ?im_Used ?mk_Used ?kc_Used ?pg_Chief ?hd_Chief ?po_Chief ?sa_Chief ?ia_Chief ?im_Chief ?mk_Chief ?kc_Chief ?pg_Over ?hd_Over ?po_Over ?sa_Over ?ia_Over ?im_Over ?mk_Over ?kc_Over ?pg_Both ?hd_Both ?po_Both ?sa_Both ?ia_Both ?im_Both ?mk_Both ?kc_Both ?pg_Either ?hd_Either ?po_Either ?sa_Either ?ia_Either ?im_Either ?mk_Either ?kc_Either ?pg_But ?hd_But ?po_But ?sa_But ?ia_But ?im_But ?mk_But ?kc_But ?oget ?otakes ?e_NoNote ?ci_NoNote ?ct_NoNote ?cb_NoNote ?ci_TariffError ?ct_TariffError ?cb_TariffError ?xga_NoNote ?xgt_NoNote ?xca_NoNote ?xcn_NoNote ?xtk_NoNote ?xmo_NoNote ?xmb_NoNote ?xis_NoNote ?sub1 ?sub2 ?q1 ?q2 ?q3 ?g1 ?g2 ?na_Made_stuff ?na_Used_use ?na_Chief_stuff ?na_Over_one ?na_Over_other ?na_Both_one ?na_Both_other ?na_Either_one ?na_Either_other ?na_But_one ?na_But_other ?in_Both ?in_Either ?in_But ?z_len ?z_range ?z_abs ?z_max ?z_min ?z_isinstance ?z_int ?z_bool ?z_str ?z_list ?z_tuple ?z_sum ?z_all ?z_enumerate ?z_zip ?z_ValueError ?z_any ?z_set ?z_sorted
    (case n_TariffError => first | k_is | k_exc | kit_is)
    (case n_NoNumber => first | k_is | k_exc | kit_is)
    (case n_NoBands => first | k_is | k_exc | kit_is)
    (case n_NoKinds => first | k_is | k_exc | kit_is)
    (case n_NoGoods => first | k_is | k_exc | kit_is)
    (case n_NoNote => first | k_is | k_exc | kit_is)
    (case n_NoTree => first | k_is | k_exc | kit_is)
    (case n_NoneClaims => first | k_is | k_exc | kit_is)
    (case n_TwoClaim => first | k_is | k_exc | kit_is)
    (case n_NoRule => first | k_is | k_exc | kit_is)
    (case n_NoLot => first | k_is | k_exc | kit_is)
    (case n_NoQuota => first | k_is | k_exc | kit_is)
    (case n_NoRate => first | k_is | k_exc | kit_is)
    (case n_NoEntry => first | k_is | k_exc | kit_is)
    (case n_NoDeed => first | k_is | k_exc | kit_is)
    (case n_NoRow => first | k_is | k_exc | kit_is)
    (case n_Note => first | k_is | k_exc | kit_is)
    (case n_OfTwo => first | k_is | k_exc | kit_is)
    (case n_Anything => first | k_is | k_exc | kit_is)
    (case n_Made => first | k_is | k_exc | kit_is)
    (case n_Used => first | k_is | k_exc | kit_is)
    (case n_Chief => first | k_is | k_exc | kit_is)
    (case n_Over => first | k_is | k_exc | kit_is)
    (case n_Both => first | k_is | k_exc | kit_is)
    (case n_Either => first | k_is | k_exc | kit_is)
    (case n_But => first | k_is | k_exc | kit_is)
    (case a1 => first | k_is | k_exc | kit_is)
    (case l1 => first | k_is | k_exc | kit_is)
    (case c1 => first | k_is | k_exc | kit_is)
    (case k1 => first | k_is | k_exc | kit_is)
    (case a2 => first | k_is | k_exc | kit_is)
    (case l2 => first | k_is | k_exc | kit_is)
    (case c2 => first | k_is | k_exc | kit_is)
    (case k2 => first | k_is | k_exc | kit_is)
    (case a3 => first | k_is | k_exc | kit_is)
    (case l3 => first | k_is | k_exc | kit_is)
    (case c3 => first | k_is | k_exc | kit_is)
    (case k3 => first | k_is | k_exc | kit_is)
    (case a4 => first | k_is | k_exc | kit_is)
    (case l4 => first | k_is | k_exc | kit_is)
    (case c4 => first | k_is | k_exc | kit_is)
    (case k4 => first | k_is | k_exc | kit_is)
    (case a5 => first | k_is | k_exc | kit_is)
    (case l5 => first | k_is | k_exc | kit_is)
    (case c5 => first | k_is | k_exc | kit_is)
    (case k5 => first | k_is | k_exc | kit_is)
    (case a6 => first | k_is | k_exc | kit_is)
    (case l6 => first | k_is | k_exc | kit_is)
    (case c6 => first | k_is | k_exc | kit_is)
    (case k6 => first | k_is | k_exc | kit_is)
    (case a7 => first | k_is | k_exc | kit_is)
    (case l7 => first | k_is | k_exc | kit_is)
    (case c7 => first | k_is | k_exc | kit_is)
    (case k7 => first | k_is | k_exc | kit_is)
    (case a8 => first | k_is | k_exc | kit_is)
    (case l8 => first | k_is | k_exc | kit_is)
    (case c8 => first | k_is | k_exc | kit_is)
    (case k8 => first | k_is | k_exc | kit_is)
    (case a9 => first | k_is | k_exc | kit_is)
    (case l9 => first | k_is | k_exc | kit_is)
    (case c9 => first | k_is | k_exc | kit_is)
    (case k9 => first | k_is | k_exc | kit_is)
    (case t9 => first | k_is | k_exc | kit_is)
    (case a10 => first | k_is | k_exc | kit_is)
    (case l10 => first | k_is | k_exc | kit_is)
    (case c10 => first | k_is | k_exc | kit_is)
    (case k10 => first | k_is | k_exc | kit_is)
    (case t10 => first | k_is | k_exc | kit_is)
    (case a11 => first | k_is | k_exc | kit_is)
    (case l11 => first | k_is | k_exc | kit_is)
    (case c11 => first | k_is | k_exc | kit_is)
    (case k11 => first | k_is | k_exc | kit_is)
    (case t11 => first | k_is | k_exc | kit_is)
    (case a12 => first | k_is | k_exc | kit_is)
    (case l12 => first | k_is | k_exc | kit_is)
    (case c12 => first | k_is | k_exc | kit_is)
    (case k12 => first | k_is | k_exc | kit_is)
    (case t12 => first | k_is | k_exc | kit_is)
    (case a13 => first | k_is | k_exc | kit_is)
    (case l13 => first | k_is | k_exc | kit_is)
    (case c13 => first | k_is | k_exc | kit_is)
    (case k13 => first | k_is | k_exc | kit_is)
    (case t13 => first | k_is | k_exc | kit_is)
    (case a14 => first | k_is | k_exc | kit_is)
    (case l14 => first | k_is | k_exc | kit_is)
    (case c14 => first | k_is | k_exc | kit_is)
    (case k14 => first | k_is | k_exc | kit_is)
    (case t14 => first | k_is | k_exc | kit_is)
    (case a15 => first | k_is | k_exc | kit_is)
    (case l15 => first | k_is | k_exc | kit_is)
    (case c15 => first | k_is | k_exc | kit_is)
    (case k15 => first | k_is | k_exc | kit_is)
    (case t15 => first | k_is | k_exc | kit_is)
    (case a16 => first | k_is | k_exc | kit_is)
    (case l16 => first | k_is | k_exc | kit_is)
    (case c16 => first | k_is | k_exc | kit_is)
    (case k16 => first | k_is | k_exc | kit_is)
    (case t16 => first | k_is | k_exc | kit_is)
    (case a17 => first | k_is | k_exc | kit_is)
    (case l17 => first | k_is | k_exc | kit_is)
    (case c17 => first | k_is | k_exc | kit_is)
    (case k17 => first | k_is | k_exc | kit_is)
    (case t17 => first | k_is | k_exc | kit_is)
    (case a18 => first | k_is | k_exc | kit_is)
    (case l18 => first | k_is | k_exc | kit_is)
    (case c18 => first | k_is | k_exc | kit_is)
    (case k18 => first | k_is | k_exc | kit_is)
    (case t18 => first | k_is | k_exc | kit_is)
    (case a19 => first | k_is | k_exc | kit_is)
    (case l19 => first | k_is | k_exc | kit_is)
    (case c19 => first | k_is | k_exc | kit_is)
    (case k19 => first | k_is | k_exc | kit_is)
    (case t19 => first | k_is | k_exc | kit_is)
    (case a20 => first | k_is | k_exc | kit_is)
    (case l20 => first | k_is | k_exc | kit_is)
    (case c20 => first | k_is | k_exc | kit_is)
    (case k20 => first | k_is | k_exc | kit_is)
    (case t20 => first | k_is | k_exc | kit_is)
    (case a21 => first | k_is | k_exc | kit_is)
    (case l21 => first | k_is | k_exc | kit_is)
    (case c21 => first | k_is | k_exc | kit_is)
    (case k21 => first | k_is | k_exc | kit_is)
    (case t21 => first | k_is | k_exc | kit_is)
    (case a22 => first | k_is | k_exc | kit_is)
    (case l22 => first | k_is | k_exc | kit_is)
    (case c22 => first | k_is | k_exc | kit_is)
    (case k22 => first | k_is | k_exc | kit_is)
    (case a23 => first | k_is | k_exc | kit_is)
    (case l23 => first | k_is | k_exc | kit_is)
    (case c23 => first | k_is | k_exc | kit_is)
    (case k23 => first | k_is | k_exc | kit_is)
    (case a24 => first | k_is | k_exc | kit_is)
    (case l24 => first | k_is | k_exc | kit_is)
    (case c24 => first | k_is | k_exc | kit_is)
    (case k24 => first | k_is | k_exc | kit_is)
    (case a25 => first | k_is | k_exc | kit_is)
    (case l25 => first | k_is | k_exc | kit_is)
    (case c25 => first | k_is | k_exc | kit_is)
    (case k25 => first | k_is | k_exc | kit_is)
    (case a26 => first | k_is | k_exc | kit_is)
    (case l26 => first | k_is | k_exc | kit_is)
    (case c26 => first | k_is | k_exc | kit_is)
    (case k26 => first | k_is | k_exc | kit_is)
    (case a27 => first | k_is | k_exc | kit_is)
    (case l27 => first | k_is | k_exc | kit_is)
    (case c27 => first | k_is | k_exc | kit_is)
    (case k27 => first | k_is | k_exc | kit_is)
    (case a28 => first | k_is | k_exc | kit_is)
    (case l28 => first | k_is | k_exc | kit_is)
    (case c28 => first | k_is | k_exc | kit_is)
    (case k28 => first | k_is | k_exc | kit_is)
    (case a29 => first | k_is | k_exc | kit_is)
    (case l29 => first | k_is | k_exc | kit_is)
    (case c29 => first | k_is | k_exc | kit_is)
    (case k29 => first | k_is | k_exc | kit_is)
    (case a30 => first | k_is | k_exc | kit_is)
    (case l30 => first | k_is | k_exc | kit_is)
    (case c30 => first | k_is | k_exc | kit_is)
    (case k30 => first | k_is | k_exc | kit_is)
    (case a31 => first | k_is | k_exc | kit_is)
    (case l31 => first | k_is | k_exc | kit_is)
    (case c31 => first | k_is | k_exc | kit_is)
    (case k31 => first | k_is | k_exc | kit_is)
    (case a32 => first | k_is | k_exc | kit_is)
    (case l32 => first | k_is | k_exc | kit_is)
    (case c32 => first | k_is | k_exc | kit_is)
    (case k32 => first | k_is | k_exc | kit_is)
    (case a33 => first | k_is | k_exc | kit_is)
    (case l33 => first | k_is | k_exc | kit_is)
    (case c33 => first | k_is | k_exc | kit_is)
    (case k33 => first | k_is | k_exc | kit_is)
    (case a34 => first | k_is | k_exc | kit_is)
    (case l34 => first | k_is | k_exc | kit_is)
    (case c34 => first | k_is | k_exc | kit_is)
    (case k34 => first | k_is | k_exc | kit_is)
    (case pg_Anything => first | k_is | k_exc | kit_is)
    (case hd_Anything => first | k_is | k_exc | kit_is)
    (case po_Anything => first | k_is | k_exc | kit_is)
    (case sa_Anything => first | k_is | k_exc | kit_is)
    (case ia_Anything => first | k_is | k_exc | kit_is)
    (case im_Anything => first | k_is | k_exc | kit_is)
    (case mk_Anything => first | k_is | k_exc | kit_is)
    (case kc_Anything => first | k_is | k_exc | kit_is)
    (case in_Anything => first | k_is | k_exc | kit_is)
    (case pg_Made => first | k_is | k_exc | kit_is)
    (case hd_Made => first | k_is | k_exc | kit_is)
    (case po_Made => first | k_is | k_exc | kit_is)
    (case sa_Made => first | k_is | k_exc | kit_is)
    (case ia_Made => first | k_is | k_exc | kit_is)
    (case im_Made => first | k_is | k_exc | kit_is)
    (case mk_Made => first | k_is | k_exc | kit_is)
    (case kc_Made => first | k_is | k_exc | kit_is)
    (case pg_Used => first | k_is | k_exc | kit_is)
    (case hd_Used => first | k_is | k_exc | kit_is)
    (case po_Used => first | k_is | k_exc | kit_is)
    (case sa_Used => first | k_is | k_exc | kit_is)
    (case ia_Used => first | k_is | k_exc | kit_is)
    (case im_Used => first | k_is | k_exc | kit_is)
    (case mk_Used => first | k_is | k_exc | kit_is)
    (case kc_Used => first | k_is | k_exc | kit_is)
    (case pg_Chief => first | k_is | k_exc | kit_is)
    (case hd_Chief => first | k_is | k_exc | kit_is)
    (case po_Chief => first | k_is | k_exc | kit_is)
    (case sa_Chief => first | k_is | k_exc | kit_is)
    (case ia_Chief => first | k_is | k_exc | kit_is)
    (case im_Chief => first | k_is | k_exc | kit_is)
    (case mk_Chief => first | k_is | k_exc | kit_is)
    (case kc_Chief => first | k_is | k_exc | kit_is)
    (case pg_Over => first | k_is | k_exc | kit_is)
    (case hd_Over => first | k_is | k_exc | kit_is)
    (case po_Over => first | k_is | k_exc | kit_is)
    (case sa_Over => first | k_is | k_exc | kit_is)
    (case ia_Over => first | k_is | k_exc | kit_is)
    (case im_Over => first | k_is | k_exc | kit_is)
    (case mk_Over => first | k_is | k_exc | kit_is)
    (case kc_Over => first | k_is | k_exc | kit_is)
    (case pg_Both => first | k_is | k_exc | kit_is)
    (case hd_Both => first | k_is | k_exc | kit_is)
    (case po_Both => first | k_is | k_exc | kit_is)
    (case sa_Both => first | k_is | k_exc | kit_is)
    (case ia_Both => first | k_is | k_exc | kit_is)
    (case im_Both => first | k_is | k_exc | kit_is)
    (case mk_Both => first | k_is | k_exc | kit_is)
    (case kc_Both => first | k_is | k_exc | kit_is)
    (case pg_Either => first | k_is | k_exc | kit_is)
    (case hd_Either => first | k_is | k_exc | kit_is)
    (case po_Either => first | k_is | k_exc | kit_is)
    (case sa_Either => first | k_is | k_exc | kit_is)
    (case ia_Either => first | k_is | k_exc | kit_is)
    (case im_Either => first | k_is | k_exc | kit_is)
    (case mk_Either => first | k_is | k_exc | kit_is)
    (case kc_Either => first | k_is | k_exc | kit_is)
    (case pg_But => first | k_is | k_exc | kit_is)
    (case hd_But => first | k_is | k_exc | kit_is)
    (case po_But => first | k_is | k_exc | kit_is)
    (case sa_But => first | k_is | k_exc | kit_is)
    (case ia_But => first | k_is | k_exc | kit_is)
    (case im_But => first | k_is | k_exc | kit_is)
    (case mk_But => first | k_is | k_exc | kit_is)
    (case kc_But => first | k_is | k_exc | kit_is)
    (case oget => first | k_is | k_exc | kit_is)
    (case otakes => first | k_is | k_exc | kit_is)
    (case e_NoNote => first | k_is | k_exc | kit_is)
    (case ci_NoNote => first | k_is | k_exc | kit_is)
    (case ct_NoNote => first | k_is | k_exc | kit_is)
    (case cb_NoNote => first | k_is | k_exc | kit_is)
    (case ci_TariffError => first | k_is | k_exc | kit_is)
    (case ct_TariffError => first | k_is | k_exc | kit_is)
    (case cb_TariffError => first | k_is | k_exc | kit_is)
    (case xga_NoNote => first | k_is | k_exc | kit_is)
    (case xgt_NoNote => first | k_is | k_exc | kit_is)
    (case xca_NoNote => first | k_is | k_exc | kit_is)
    (case xcn_NoNote => first | k_is | k_exc | kit_is)
    (case xtk_NoNote => first | k_is | k_exc | kit_is)
    (case xmo_NoNote => first | k_is | k_exc | kit_is)
    (case xmb_NoNote => first | k_is | k_exc | kit_is)
    (case xis_NoNote => first | k_is | k_exc | kit_is)
    (case sub1 => first | k_is | k_exc | kit_is)
    (case sub2 => first | k_is | k_exc | kit_is)
    (case q1 => first | k_is | k_exc | kit_is)
    (case q2 => first | k_is | k_exc | kit_is)
    (case q3 => first | k_is | k_exc | kit_is)
    (case g1 => first | k_is | k_exc | kit_is)
    (case g2 => first | k_is | k_exc | kit_is)
    (case na_Made_stuff => first | k_is | k_exc | kit_is)
    (case na_Used_use => first | k_is | k_exc | kit_is)
    (case na_Chief_stuff => first | k_is | k_exc | kit_is)
    (case na_Over_one => first | k_is | k_exc | kit_is)
    (case na_Over_other => first | k_is | k_exc | kit_is)
    (case na_Both_one => first | k_is | k_exc | kit_is)
    (case na_Both_other => first | k_is | k_exc | kit_is)
    (case na_Either_one => first | k_is | k_exc | kit_is)
    (case na_Either_other => first | k_is | k_exc | kit_is)
    (case na_But_one => first | k_is | k_exc | kit_is)
    (case na_But_other => first | k_is | k_exc | kit_is)
    (case in_Both => first | k_is | k_exc | kit_is)
    (case in_Either => first | k_is | k_exc | kit_is)
    (case in_But => first | k_is | k_exc | kit_is)
    (case z_len => first | k_is | k_exc | kit_is)
    (case z_range => first | k_is | k_exc | kit_is)
    (case z_abs => first | k_is | k_exc | kit_is)
    (case z_max => first | k_is | k_exc | kit_is)
    (case z_min => first | k_is | k_exc | kit_is)
    (case z_isinstance => first | k_is | k_exc | kit_is)
    (case z_int => first | k_is | k_exc | kit_is)
    (case z_bool => first | k_is | k_exc | kit_is)
    (case z_str => first | k_is | k_exc | kit_is)
    (case z_list => first | k_is | k_exc | kit_is)
    (case z_tuple => first | k_is | k_exc | kit_is)
    (case z_sum => first | k_is | k_exc | kit_is)
    (case z_all => first | k_is | k_exc | kit_is)
    (case z_enumerate => first | k_is | k_exc | kit_is)
    (case z_zip => first | k_is | k_exc | kit_is)
    (case z_ValueError => first | k_is | k_exc | kit_is)
    (case z_any => first | k_is | k_exc | kit_is)
    (case z_set => first | k_is | k_exc | kit_is)
    (case z_sorted => first | k_is | k_exc | kit_is)
#print axioms PySem.Challenge.cw_tariffgate_k34_notes_refused_holds

