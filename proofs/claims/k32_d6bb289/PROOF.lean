import PyProof.Rows.All
import Wide.All
import OpenK.AllK
import Wide.FinOn
import Lean
import PyProof.EqAt
import PyProof.EqKinds
import PyProof.TupleCall
import PyProof.NeKinds
import PyProof.Draws
import PyProof.EnumMake
import PyProof.WalksEnum
import PyProof.Rows.EnumRows
import PyProof.ExcArgsOwn
import PyProof.ExcAttrAll.ValueError
import PyProof.ExcBaseAll.ValueError
import KE.KIsAll
import KE.KTryOn
import KE.RegKIsAll
import OpenK.KOwn
import PyProof.ZipIter
import PyProof.StrWalks
import PyProof.DictTable
import PyProof.SetNew
import PyProof.SetRoads
import PyProof.P3In
import PyProof.NeData
import PySem.Challenge.RW_tariffgate_k32_joined_notes
set_option Elab.async false
set_option linter.all false
set_option maxRecDepth 100000
namespace L2
open PySem PySem.Spec PyProof.Rows

abbrev Key := Sum Int Str
def keyIs : Key → Value → Bool
  | .inl k, v => Value.isInt k v
  | .inr x, v => Value.isStrOf x v
def keyH (w : World) : Key → Int
  | .inl k => hashInt k
  | .inr x => hashStr w x
theorem keyIs_shape : ∀ {k : Key} {v : Value}, keyIs k v = true → (∃ i t, k = Sum.inl i ∧ v = Value.int i t) ∨ (∃ x t, k = Sum.inr x ∧ v = Value.str x t)
  | .inl i, v, h => by
    obtain ⟨t, e⟩ := Value.isInt_shape (k := i) (v := v) h
    exact .inl ⟨i, t, rfl, e⟩
  | .inr x, v, h => by
    obtain ⟨t, e⟩ := Value.isStrOf_shape (x := x) (v := v) h
    exact .inr ⟨x, t, rfl, e⟩
theorem key_ll (a b : Int) : decide ((Sum.inl a : Key) = Sum.inl b) = (a == b) := by
  by_cases e : a = b
  · subst e; simp
  · have h : ¬ (Sum.inl a : Key) = Sum.inl b := fun q => e (Sum.inl.inj q)
    rw [decide_eq_false h]
    exact (beq_eq_false_iff_ne.mpr e).symm
theorem key_rr (a b : Str) : decide ((Sum.inr a : Key) = Sum.inr b) = decide (a = b) := by
  by_cases e : a = b
  · subst e; simp
  · have h : ¬ (Sum.inr a : Key) = Sum.inr b := fun q => e (Sum.inr.inj q)
    rw [decide_eq_false h, decide_eq_false e]
theorem key_lr (a : Int) (b : Str) : decide ((Sum.inl a : Key) = Sum.inr b) = false := decide_eq_false (fun q => nomatch q)
theorem key_rl (a : Str) (b : Int) : decide ((Sum.inr a : Key) = Sum.inl b) = false := decide_eq_false (fun q => nomatch q)

def mixKind (prog : Program) (w : World) : PySem.KeyKind prog w Key where
  is := keyIs
  hash := keyH w
  inj := fun v a b ha hb => by
    rcases keyIs_shape ha with ⟨i, t, rfl, rfl⟩ | ⟨x, t, rfl, rfl⟩
    · rcases keyIs_shape hb with ⟨j, u, rfl, e⟩ | ⟨y, u, rfl, e⟩
      · injection e with e1 _; rw [e1]
      · exact nomatch e
    · rcases keyIs_shape hb with ⟨j, u, rfl, e⟩ | ⟨y, u, rfl, e⟩
      · exact nomatch e
      · injection e with e1 _; rw [e1]
  byValue := fun k v h => by
    rcases keyIs_shape h with ⟨i, t, rfl, rfl⟩ | ⟨x, t, rfl, rfl⟩ <;> rfl
  pyHash := fun hv h => by
    rcases keyIs_shape hv with ⟨i, t, rfl, rfl⟩ | ⟨x, t, rfl, rfl⟩
    · exact wpAny_pyHash_int h
    · exact wpAny_pyHash_str h
  eqBool := fun hu hv h => by
    rcases keyIs_shape hu with ⟨i, t, rfl, rfl⟩ | ⟨x, t, rfl, rfl⟩
    · rcases keyIs_shape hv with ⟨j, u, rfl, rfl⟩ | ⟨y, u, rfl, rfl⟩
      · rw [key_ll] at h; exact wpAny_eqBool_int h
      · rw [key_lr] at h; exact SeqAt.EqAt.int_str i t y u _ _ _ _ h
    · rcases keyIs_shape hv with ⟨j, u, rfl, rfl⟩ | ⟨y, u, rfl, rfl⟩
      · rw [key_rl] at h; exact SeqAt.EqAt.str_int x t j u _ _ _ _ h
      · rw [key_rr] at h; exact wpAny_eqBool_str h
  «strs» := fun k x t v h => by
    rcases keyIs_shape h with ⟨i, u, rfl, e⟩ | ⟨y, u, rfl, e⟩
    · exact nomatch e
    · injection e with e1 _
      subst e1
      cases v <;> rfl

end L2

namespace L2
open PySem PySem.Spec PyProof.Rows

inductive V where
  | non | bl (b : Bool) | int (i : Int) | str (x : Str) | byt (b : Array UInt8) | flt (b : UInt64) | ref (a : Addr) | ty (n : String)
  deriving DecidableEq

def RelV : V → Value → Prop
  | .non, u => u = Value.none
  | .bl b, u => u = Value.bool b
  | .int i, u => ∃ t, u = Value.int i t
  | .str x, u => ∃ t, u = Value.str x t
  | .byt b, u => ∃ t, u = Value.bytes b t
  | .flt b, u => ∃ t, u = Value.float b t
  | .ref a, u => u = Value.ref a
  | .ty n, u => u = Value.type n

abbrev Vals : List V → List Value → Prop := Paired RelV
theorem Vals.length {xs : List V} {us : List Value} (r : Vals xs us) : xs.length = us.length := Paired.length r
theorem Vals.get : ∀ {xs : List V} {us : List Value} {i : Nat} {x : V}, Vals xs us → xs[i]? = some x → ∃ u, us[i]? = some u ∧ RelV x u
  | _, _, _, _, .nil, e => by simp at e
  | _, _, 0, _, .cons r _, e => by simp at e; subst e; exact ⟨_, rfl, r⟩
  | _, _, i + 1, x, .cons _ t, e => by
    obtain ⟨u, h1, h2⟩ := Vals.get (i := i) (x := x) t (by simpa using e)
    exact ⟨u, by simpa using h1, h2⟩
theorem Vals.set {x : V} {u : Value} (r : RelV x u) : ∀ {xs : List V} {us : List Value} (i : Nat), Vals xs us → Vals (xs.set i x) (us.set i u)
  | _, _, _, .nil => .nil
  | _, _, 0, .cons _ t => .cons r t
  | _, _, i + 1, .cons q t => .cons q (Vals.set r i t)
theorem Vals.append : ∀ {xs ys : List V} {us ws : List Value}, Vals xs us → Vals ys ws → Vals (xs ++ ys) (us ++ ws)
  | _, _, _, _, .nil, s => s
  | _, _, _, _, .cons r t, s => .cons r (Vals.append t s)
theorem Vals.take : ∀ {xs : List V} {us : List Value} (n : Nat), Vals xs us → Vals (xs.take n) (us.take n)
  | _, _, 0, _ => .nil
  | _, _, _ + 1, .nil => .nil
  | _, _, n + 1, .cons r t => .cons r (Vals.take n t)
theorem Vals.drop : ∀ {xs : List V} {us : List Value} (n : Nat), Vals xs us → Vals (xs.drop n) (us.drop n)
  | _, _, 0, r => r
  | _, _, _ + 1, .nil => .nil
  | _, _, n + 1, .cons _ t => Vals.drop n t
theorem Vals.none_of : ∀ {xs : List V} {us : List Value} {i : Nat}, Vals xs us → xs[i]? = none → us[i]? = none := fun {xs us i} r e => by
  have h1 := r.length
  have h2 : xs.length ≤ i := List.getElem?_eq_none_iff.mp e
  exact List.getElem?_eq_none_iff.mpr (by omega)

def RelO : Option V → Option Value → Prop
  | some v, some u => RelV v u
  | none, none => True
  | _, _ => False
def KV {κ : Type} : List (κ × V) → List (κ × Value) → Prop := Paired fun (p : κ × V) (q : κ × Value) => p.1 = q.1 ∧ RelV p.2 q.2

def kV : Key → V
  | .inl i => .int i
  | .inr x => .str x

inductive HO where
  /-- a list -/
  | lst (xs : List V)
  /-- a tuple (never changes) -/
  | tup (xs : List V)
  /-- a dict whose keys are ints and texts; one whose keys are tuples of ints and texts (the empty one is both) -/
  | dK (kvs : List (Key × V)) | dT (kvs : List (List Key × V))
  /-- a set of ints: its members, its size -/
  | set (S : Int → Bool) (n : Nat)
  /-- an instance of the class at C, its dict at dx, its attributes -/
  | ins (C dx : Addr) (fs : List (Str × V))
  /-- the dict of the instance at x -/
  | own (x : Addr)
  /-- the dict of an exception -/
  | xd (fs : List (Str × V))
  /-- a bound method, f of x -/
  | met (f x : Addr)
  /-- a range object lo, lo + 1, .. below hi -/
  | rng (lo hi : Int)
  /-- a thing that is known to the object (the script; a dict while a loop walks it): read, never written while it is so -/
  | frz (o : Obj) (u : HO)
  /-- a code object's table -/
  | tbl (ps : Array Value)
  /-- any other thing, by what is true of its one object (a def of one's own: SetO a S n := HO.ext fun h => ..) -/
  | ext (φ : Heap → Prop)

abbrev Hp := Addr → Option HO
def upd (H : Hp) (a : Addr) (o : HO) : Hp := fun b => if b = a then some o else H b
theorem upd_same {H : Hp} {a : Addr} {o : HO} : upd H a o a = some o := by unfold upd; rw [if_pos rfl]
theorem upd_ne {H : Hp} {a b : Addr} {o : HO} (h : b ≠ a) : upd H a o b = H b := by unfold upd; rw [if_neg h]
theorem ne_of {H : Hp} {a b : Addr} {o u : HO} (h : H a = some o) (h' : H b = some u) (d : o ≠ u) : a ≠ b := by
  intro e; subst e; rw [h] at h'; exact d (Option.some.inj h')
theorem ne_of_none {H : Hp} {a b : Addr} {o : HO} (h : H a = some o) (h' : H b = none) : a ≠ b := by
  intro e; subst e; rw [h] at h'; cases h'

section
variable (P : Program) (w : World)
def NoD (h : Heap) (a : Addr) : Prop := ∃ o, h.get? a = some o ∧ o.dict = none
def ObjOk (H : Hp) (h : Heap) (a : Addr) : HO → Prop
  | .lst xs => xs.length ≤ sizeLine ∧ ∃ (its : List Value) (n : Nat), Vals xs its ∧ h.get? a = some { cls := .type "list", data := .seq its.toArray n }
  | .tup xs => xs.length ≤ sizeLine ∧ ∃ its : List Value, Vals xs its ∧ IsTup h a its.toArray ∧ NoD h a
  | .dK kvs => kvs.length ≤ sizeLine ∧ (a == sysModules) = false ∧ ∃ vs, KV kvs vs ∧ h.DictOf (mixKind P w) a vs
  | .dT kvs => kvs.length ≤ sizeLine ∧ (a == sysModules) = false ∧ ∃ xs : List (List Key × Addr × Value),
      Paired (fun (p : List Key × V) (q : List Key × Addr × Value) => p.1 = q.1 ∧ H q.2.1 = some (.tup (p.1.map kV)) ∧ RelV p.2 q.2.2) kvs xs ∧
      ∃ o es ep, h.get? a = some o ∧ o.ExactDict ∧ o.data = .dict es ep ∧ es.toList = xs.map (entryOfKey (tupleKind (mixKind P w))) ∧ (xs.map (·.1)).Nodup
  | .set S n => h.SetOf (intKind P w) a S n
  | .ins C dx fs => H dx = some (.own a) ∧ fs.length ≤ 1000 ∧ dx ≠ a ∧ h.get? a = some (PySem.W.instObj C dx) ∧
      ∃ mA, h.Ns1 dx mA ∧ (∀ f, RelO (fs.lookup f) (mA f)) ∧ PySem.Within mA (fs.map (·.1))
  | .own _ => ∃ o, h.get? a = some o
  | .xd fs => ∃ mA, h.Ns1 a mA ∧ ∀ f, RelO (fs.lookup f) (mA f)
  | .rng lo hi => ∃ t u v, h.get? a = some { cls := .type "range", data := .fields #[.int lo t, .int hi u, .int 1 v] }
  | .frz o u => h.get? a = some o ∧ ObjOk H h a u
  | .tbl ps => h.get? a = some { cls := .none, data := .fields ps }
  | .met f x => h.get? a = some (PySem.W.methodObj (.ref f) (.ref x))
  | .ext φ => φ h ∧ (∃ o, h.get? a = some o) ∧ ∀ h1 h2 : Heap, φ h1 → (∀ o, h1.get? a = some o → h2.get? a = some o) → φ h2
def HOk (H : Hp) (h : Heap) : Prop := ∀ a o, H a = some o → ObjOk P w H h a o
end

section
variable {P : Program} {w : World} {H H' : Hp} {h h' : Heap} {a : Addr} {o : HO}
theorem ObjOk.lt (x : ObjOk P w H h a o) : a < h.objs.size := by
  cases o with
  | lst xs => obtain ⟨_, _, _, _, e⟩ := x; exact Heap.lt_size e
  | tup xs => obtain ⟨_, _, _, p, _⟩ := x; exact p.lt
  | dK kvs => obtain ⟨_, _, _, _, o, _, _, e, _⟩ := x; exact Heap.lt_size e
  | dT kvs => obtain ⟨_, _, _, _, o, _, _, e, _⟩ := x; exact Heap.lt_size e
  | set S n => obtain ⟨o, _, _, _, e, _⟩ := x; exact Heap.lt_size e
  | ins C dx fs => obtain ⟨_, _, _, e, _⟩ := x; exact Heap.lt_size e
  | own y => obtain ⟨_, e⟩ := x; exact Heap.lt_size e
  | xd fs => obtain ⟨_, ⟨_, _, _, e, _⟩, _⟩ := x; exact Heap.lt_size e
  | rng lo hi => obtain ⟨_, _, _, e⟩ := x; exact Heap.lt_size e
  | frz ob u => obtain ⟨e, _⟩ := x; exact Heap.lt_size e
  | tbl ps => exact Heap.lt_size (show h.get? a = some _ from x)
  | met f y => exact Heap.lt_size (show h.get? a = some _ from x)
  | ext φ => obtain ⟨_, ⟨_, e⟩, _⟩ := x; exact Heap.lt_size e
theorem Paired.mapP {α β : Type} {F G : α → β → Prop} : ∀ {l₁ : List α} {l₂ : List β}, Paired F l₁ l₂ → (∀ a b, F a b → G a b) → Paired G l₁ l₂
  | _, _, .nil, _ => .nil
  | _, _, .cons r t, f => .cons (f _ _ r) (Paired.mapP t f)
theorem ObjOk.stay (x : ObjOk P w H h a o) (k : ∀ b u, (b = a ∨ H b = some (.own a)) → h.get? b = some u → h'.get? b = some u)
    (ho : ∀ b, H b = some (.own a) → H' b = some (.own a)) (ht : ∀ b xs, H b = some (.tup xs) → H' b = some (.tup xs)) : ObjOk P w H' h' a o := by
  induction o with
  | lst xs => obtain ⟨z, its, n, r, e⟩ := x; exact ⟨z, its, n, r, k _ _ (.inl rfl) e⟩
  | tup xs => obtain ⟨z, its, r, ⟨ob, e, c⟩, o2, e2, d2⟩ := x; exact ⟨z, its, r, ⟨ob, k _ _ (.inl rfl) e, c⟩, o2, k _ _ (.inl rfl) e2, d2⟩
  | dK kvs => obtain ⟨z, y, vs, r, ob, es, ep, e, c⟩ := x; exact ⟨z, y, vs, r, ob, es, ep, k _ _ (.inl rfl) e, c⟩
  | dT kvs =>
    obtain ⟨z, y, xs, r, ob, es, ep, e, c⟩ := x
    exact ⟨z, y, xs, Paired.mapP r fun p q z => ⟨z.1, ht _ _ z.2.1, z.2.2⟩, ob, es, ep, k _ _ (.inl rfl) e, c⟩
  | set S n => obtain ⟨ob, es, ep, t, e, c⟩ := x; exact ⟨ob, es, ep, t, k _ _ (.inl rfl) e, c⟩
  | ins C dx fs =>
    obtain ⟨d, z, ne, e, mA, ⟨od, es, ep, e2, c⟩, r⟩ := x
    exact ⟨ho _ d, z, ne, k _ _ (.inl rfl) e, mA, ⟨od, es, ep, k _ _ (.inr d) e2, c⟩, r⟩
  | own y => obtain ⟨ob, e⟩ := x; exact ⟨ob, k _ _ (.inl rfl) e⟩
  | xd fs => obtain ⟨mA, ⟨od, es, ep, e, c⟩, r⟩ := x; exact ⟨mA, ⟨od, es, ep, k _ _ (.inl rfl) e, c⟩, r⟩
  | rng lo hi => obtain ⟨t, u, v, e⟩ := x; exact ⟨t, u, v, k _ _ (.inl rfl) e⟩
  | frz ob u ih => obtain ⟨e, q⟩ := x; exact ⟨k _ _ (.inl rfl) e, ih q⟩
  | tbl ps =>
    have e : h.get? a = some { cls := .none, data := .fields ps } := x
    show h'.get? a = some { cls := .none, data := .fields ps }
    exact k a _ (.inl rfl) e
  | met f y =>
    have e : h.get? a = some (PySem.W.methodObj (.ref f) (.ref y)) := x
    show h'.get? a = some (PySem.W.methodObj (.ref f) (.ref y))
    exact k a _ (.inl rfl) e
  | ext φ => obtain ⟨p, ⟨o, e⟩, st⟩ := x; exact ⟨st _ _ p fun o q => k _ _ (.inl rfl) q, ⟨o, k _ _ (.inl rfl) e⟩, st⟩
theorem HOk.lt (x : HOk P w H h) (e : H a = some o) : a < h.objs.size := (x a o e).lt
theorem HOk.fresh (x : HOk P w H h) (e : h.objs.size ≤ a) : H a = none := by
  cases q : H a with
  | none => rfl
  | some u => exact absurd (Nat.lt_of_lt_of_le (x.lt q) e) (Nat.lt_irrefl _)
theorem HOk.kept (x : HOk P w H h) (k : ∀ b u, h.get? b = some u → h'.get? b = some u) : HOk P w H h' := fun a o e =>
  (x a o e).stay (fun b u _ q => k b u q) (fun _ q => q) fun _ _ q => q
theorem HOk.laid (x : HOk P w H h) (k : ∀ b u, h.get? b = some u → h'.get? b = some u) (hp : h.objs.size ≤ a) (new : ObjOk P w (upd H a o) h' a o) : HOk P w (upd H a o) h' := fun b u e => by
  have hn := x.fresh hp
  by_cases hb : b = a
  · subst hb; rw [upd_same] at e; cases e; exact new
  · rw [upd_ne hb] at e
    exact (x b u e).stay (fun c v _ q => k c v q) (fun c q => by rw [upd_ne (ne_of_none q hn)]; exact q) fun c xs q => by rw [upd_ne (ne_of_none q hn)]; exact q
end

def Rd (H : Hp) (a : Addr) (u : HO) : Prop := H a = some u ∨ ∃ o, H a = some (.frz o u)
theorem Rd.of {H : Hp} {a : Addr} {u : HO} (h : H a = some u) : Rd H a u := .inl h
theorem Rd.ok {P : Program} {w : World} {H : Hp} {h : Heap} {a : Addr} {u : HO} (r : Rd H a u) (x : HOk P w H h) : ObjOk P w H h a u := by
  rcases r with r | ⟨o, r⟩
  · exact x a u r
  · obtain ⟨_, q⟩ := x a _ r
    exact q
def Mut : Option HO → Prop
  | some (.lst _) => True
  | some (.dK _) => True
  | some (.dT _) => True
  | some (.set _ _) => True
  | some (.ins _ _ _) => True
  | some (.ext _) => True
  | _ => False
section
variable {P : Program} {w : World} {H : Hp} {h h' : Heap} {x e : Addr} {o' : HO}
theorem HOk.write (ok : HOk P w H h) (mu : Mut (H x)) (he : e = x ∨ H e = some (.own x)) (k : ∀ b u, b ≠ e → h.get? b = some u → h'.get? b = some u) (heo : ∃ u, h'.get? e = some u)
    (new : ObjOk P w (upd H x o') h' x o') : HOk P w (upd H x o') h' := fun b u q => by
  have nown : ∀ c y, H c = some (.own y) → c ≠ x := fun c y r z => by subst z; rw [r] at mu; exact mu
  have ntup : ∀ c xs, H c = some (.tup xs) → c ≠ x := fun c xs r z => by subst z; rw [r] at mu; exact mu
  by_cases hb : b = x
  · subst hb; rw [upd_same] at q; cases q; exact new
  · rw [upd_ne hb] at q
    by_cases hbe : b = e
    · have q' : H b = some (.own x) := by
        rcases he with z | z
        · exact absurd (hbe.trans z) hb
        · rw [hbe]; exact z
      rw [q] at q'; cases q'
      obtain ⟨v, hv⟩ := heo
      exact ⟨v, by rw [hbe]; exact hv⟩
    · refine (ok b u q).stay (fun c v hc r => k c v ?_ r) (fun c r => by rw [upd_ne (nown c b r)]; exact r) fun c xs r => by rw [upd_ne (ntup c xs r)]; exact r
      rcases hc with rfl | hc
      · exact hbe
      · rintro rfl
        rcases he with z | z
        · exact nown c b hc z
        · rw [hc] at z; cases z; exact hb rfl
end

structure Un (fs ex : List Addr) (H H' : Hp) (h h' : Heap) : Prop where
  keep : ∀ b o, h.get? b = some o → H b = none → b ∉ fs → b ∉ ex → h'.get? b = some o
  slot : ∀ b o, h.get? b = some o → H b = none → b ∈ fs → b ∉ ex → ∃ sl, h'.get? b = some { o with slots := sl }
  free : ∀ b o, h.get? b = some o → H b = none → b ∉ ex → H' b = none
  there : ∀ b o, h.get? b = some o → b ∉ ex → ∃ o', h'.get? b = some o'
  tups : ∀ b xs, H b = some (.tup xs) → H' b = some (.tup xs)
  frzs : ∀ b o u, H b = some (.frz o u) → H' b = some (.frz o u)
  tbls : ∀ b ps, H b = some (.tbl ps) → ∃ more, H' b = some (.tbl (ps ++ more))
section
variable {fs fs' ex ex' : List Addr} {H H1 H2 : Hp} {h h1 h2 h' : Heap} {a x e : Addr} {o : HO}
theorem Un.any (u : Un fs ex H H1 h h1) {b : Addr} {ob : Obj} (q : h.get? b = some ob) (n : H b = none) (hx : b ∉ ex) : ∃ sl, h1.get? b = some { ob with slots := sl } := by
  by_cases hb : b ∈ fs
  · exact u.slot b ob q n hb hx
  · exact ⟨ob.slots, u.keep b ob q n hb hx⟩
theorem Un.trans (a : Un fs ex H H1 h h1) (b : Un fs ex H1 H2 h1 h2) : Un fs ex H H2 h h2 where
  keep := fun c ob q n hc hx => b.keep c ob (a.keep c ob q n hc hx) (a.free c ob q n hx) hc hx
  slot := fun c ob q n hc hx => by
    obtain ⟨sl, e1⟩ := a.slot c ob q n hc hx
    obtain ⟨sl', e2⟩ := b.slot c _ e1 (a.free c ob q n hx) hc hx
    exact ⟨sl', e2⟩
  free := fun c ob q n hx => by
    obtain ⟨o', e1⟩ := a.there c ob q hx
    exact b.free c o' e1 (a.free c ob q n hx) hx
  there := fun c ob q hx => by
    obtain ⟨o', e1⟩ := a.there c ob q hx
    exact b.there c o' e1 hx
  tups := fun c xs q => b.tups c xs (a.tups c xs q)
  frzs := fun c ob xs q => b.frzs c ob xs (a.frzs c ob xs q)
  tbls := fun c ps q => by
    obtain ⟨m1, e1⟩ := a.tbls c ps q
    obtain ⟨m2, e2⟩ := b.tbls c _ e1
    exact ⟨m1 ++ m2, by rw [e2, Array.append_assoc]⟩
theorem Un.kept (k : ∀ b u, h.get? b = some u → h'.get? b = some u) : Un fs ex H H h h' :=
  ⟨fun b ob q _ _ _ => k b ob q, fun b ob q _ _ _ => ⟨ob.slots, k b ob q⟩, fun _ _ _ n _ => n, fun b ob q _ => ⟨ob, k b ob q⟩, fun _ _ q => q, fun _ _ _ q => q, fun _ ps q => ⟨#[], by rw [q]; simp⟩⟩
theorem Un.refl : Un fs ex H H h h := Un.kept fun _ _ q => q
theorem Un.laid (k : ∀ b u, h.get? b = some u → h'.get? b = some u) (hp : h.objs.size ≤ a) (hn : H a = none) : Un fs ex H (upd H a o) h h' where
  keep := fun b u q _ _ _ => k b u q
  slot := fun b u q _ _ _ => ⟨u.slots, k b u q⟩
  free := fun b u q n _ => by rw [upd_ne (Nat.ne_of_lt (Nat.lt_of_lt_of_le (Heap.lt_size q) hp))]; exact n
  there := fun b u q _ => ⟨u, k b u q⟩
  tups := fun b xs q => by rw [upd_ne (ne_of_none q hn)]; exact q
  frzs := fun b u xs q => by rw [upd_ne (ne_of_none q hn)]; exact q
  tbls := fun b ps q => ⟨#[], by rw [upd_ne (ne_of_none q hn), q]; simp⟩
theorem Un.write (mu : Mut (H x)) (he : e = x ∨ H e = some (.own x)) (k : ∀ b u, b ≠ e → h.get? b = some u → h'.get? b = some u) (heo : ∃ u, h'.get? e = some u) : Un fs ex H (upd H x o) h h' := by
  have hx : ∀ b, H b = none → b ≠ x := fun b n z => by subst z; rw [n] at mu; exact mu
  have hb : ∀ b, H b = none → b ≠ e := fun b n z => by
    subst z
    rcases he with r | r
    · exact hx b n r
    · rw [n] at r; cases r
  have hm : ∀ b u, H b = some u → ¬ Mut (some u) → b ≠ x := fun b u q nm z => by subst z; rw [q] at mu; exact nm mu
  refine ⟨fun b u q n _ _ => k b u (hb b n) q, fun b u q n _ _ => ⟨u.slots, k b u (hb b n) q⟩, fun b u q n _ => by rw [upd_ne (hx b n)]; exact n, fun b u q _ => ?_,
    fun b xs q => by rw [upd_ne (hm b _ q fun z => z)]; exact q, fun b u xs q => by rw [upd_ne (hm b _ q fun z => z)]; exact q, fun b ps q => ⟨#[], by rw [upd_ne (hm b _ q fun z => z), q]; simp⟩⟩
  by_cases hbe : b = e
  · subst hbe; exact heo
  · exact ⟨u, k b u hbe q⟩
theorem Un.mono (u : Un fs ex H H1 h h1) (hs : ∀ b ∈ fs, b ∈ fs') (hx : ∀ b ∈ ex, b ∈ ex') : Un fs' ex' H H1 h h1 :=
  ⟨fun b ob q n hb he => u.keep b ob q n (fun z => hb (hs b z)) fun z => he (hx b z), fun _ _ q n _ he => u.any q n fun z => he (hx _ z), fun b ob q n he => u.free b ob q n fun z => he (hx b z), fun b ob q he => u.there b ob q fun z => he (hx b z), u.tups, u.frzs, u.tbls⟩
end

def trk (h : Heap) (H : Hp) : List Addr := (List.range h.objs.size).filter fun a => (H a).isSome
def hidT (h : Heap) (H : Hp) : Heap := PySem.W.hideAll h (trk h H)
theorem hidT_size (h : Heap) (H : Hp) : (hidT h H).objs.size = h.objs.size := PySem.W.hideAll_size _ _
theorem hidT_get {h : Heap} {H : Hp} {b : Addr} {o : Obj} (e : h.get? b = some o) (n : H b = none) : (hidT h H).get? b = some o :=
  PySem.W.hideAll_get _ e fun hm => by
    have q : (H b).isSome = true := (List.mem_filter.mp hm).2
    rw [n] at q; simp at q
theorem of_hidT {h : Heap} {H : Hp} {b : Addr} {o : Obj} (e : (hidT h H).get? b = some o) : h.get? b = some o ∧ H b = none := by
  have e' : h.get? b = some o := PySem.W.of_hideAll (trk h H) e
  refine ⟨e', ?_⟩
  cases q : H b with
  | none => rfl
  | some x =>
    have hm : b ∈ trk h H := List.mem_filter.mpr ⟨List.mem_range.mpr (Heap.lt_size e'), by simp [q]⟩
    have z : (hidT h H).get? b = none := PySem.W.hideAll_none (trk h H) hm
    rw [z] at e; cases e

def allNews (g h : Heap) (L : Addr) : List (Addr × Obj) := (List.range h.objs.size).filterMap fun a => if a = L ∨ (g.get? a).isSome = true then none else (h.get? a).map fun o => (a, o)
def rest (g h : Heap) (L d : Addr) : List (Addr × Obj) := (allNews g h L).filter fun p => decide (p.1 ≠ d)
end L2

namespace L2
open PySem PySem.Spec PyProof.Rows

structure Mod (K : PySem.W.Frag) (mg : Str → Option Value) (base : Heap) : Prop where
  kin : K.In base
  glob : base.Ns mainGlobals mg
  blt : ∃ mb, base.Ns builtinsNs mb ∧ ∀ x : Str, x ≠ "__name__" → mb x = bootBuiltins x
  nolimit : base.NoLimit

structure Cx where
  prog : Program
  w : World
  K : PySem.W.Frag
  mg : Str → Option Value
  base : Heap
  A : Around
  N : List Str
  s₀ : Shared
  H₀ : Hp
  env : Env
  outer : List Env
  stack : List Env
  ex : List Addr
  fn : Str → Bool
  calm : Bool
  pn : List (Addr × Obj)
  xe : Value → Shared → Prop
def frs (l : List Env) : List Addr := l.filterMap (·.frame)
abbrev Cx.fs (X : Cx) : List Addr := frs X.outer

def Vis (sc : Scope) (x : Str) : Prop := sc.names.lookup x = some .local ∨ sc.names.lookup x = some .cell ∨ sc.names.lookup x = some .free
def Loc (sc : Scope) (x : Str) : Prop := sc.names.lookup x = some .local ∨ sc.names.lookup x = some .cell
def Look (env : Env) (h : Heap) (m : Str → Option Value) (x : Str) (u : Value) : Prop :=
  (env.kindOf x = some .local ∧ m x = some u) ∨ ((env.kindOf x = some .cell ∨ env.kindOf x = some .free) ∧ ∃ c, env.cells.lookup x = some c ∧ h.IsCell c (some u))

structure Cx.Ok (X : Cx) : Prop where
  mod : Mod X.K X.mg X.base
  kind : X.env.scope.kind = .function
  glob : X.env.globals = mainGlobals
  blt : X.env.builtins = builtinsNs
  above : X.s₀.heap.objs.size ≤ X.env.locals
  inj : ∀ x y c, X.env.cells.lookup x = some c → X.env.cells.lookup y = some c → x = y
  has : ∀ x, (X.env.kindOf x = some .cell ∨ X.env.kindOf x = some .free) → ∃ c, X.env.cells.lookup x = some c
  cab : ∀ x c, X.fn x = true → X.env.cells.lookup x = some c → X.s₀.heap.objs.size ≤ c
  hd : X.calm = true → X.A.handled = none
  frames : X.A.frames = some X.stack
  stk : X.stack = X.outer ∨ (X.stack = X.env :: X.outer ∧ X.env.frame = some X.env.locals)
  exf : ∀ b ∈ X.ex, b ≠ X.env.locals ∧ ∀ x c, X.env.cells.lookup x = some c → c ≠ b
  bs : ∀ b o, X.base.get? b = some o → X.s₀.heap.get? b = some o ∧ X.H₀ b = none
  bsz : X.base.objs.size ≤ X.s₀.heap.objs.size
  noex : ∀ b o, X.base.get? b = some o → b ∉ X.ex
  exfs : ∀ b ∈ X.ex, b ∉ X.fs
  funs : X.s₀.heap.FunFrames X.base X.outer
  frf : ∀ b ∈ X.fs, X.H₀ b = none

structure Inv (X : Cx) (pins : List (Addr × Obj)) (σ : List (Option V)) (H : Hp) (s : Shared) : Prop where
  ok : X.Ok
  os : s.os = X.s₀.os
  bare : AllBare s.gens
  base : Un X.fs X.ex X.H₀ H X.s₀.heap s.heap
  loc : ∃ m, s.heap.Ns X.env.locals m ∧ ∀ (i : Nat) (x : Str) (v : V), X.N[i]? = some x → σ[i]? = some (some v) → Vis X.env.scope x → ∃ u, RelV v u ∧ Look X.env s.heap m x u
  cell : ∀ x c, X.env.cells.lookup x = some c → ∃ v, s.heap.IsCell c v
  free : H X.env.locals = none
  freeC : ∀ x c, X.env.cells.lookup x = some c → H c = none
  pin : ∀ p ∈ X.pn ++ pins, s.heap.get? p.1 = some p.2 ∧ H p.1 = none ∧ p.1 ≠ X.env.locals ∧ p.1 ∉ X.fs ∧ ∀ v, p.2.data ≠ .cell v
  hok : HOk X.prog X.w H s.heap
  len : σ.length = X.N.length

section
variable {X : Cx} {pins : List (Addr × Obj)} {σ : List (Option V)} {H H' : Hp} {s : Shared} {h' : Heap}

theorem Cx.Ok.nofr (ok : X.Ok) {b : Addr} {o : Obj} (e : X.base.get? b = some o) : b ∉ X.fs := fun hb => by
  have := (ok.funs.mem hb).1
  rw [e] at this; cases this
theorem Inv.bs (I : Inv X pins σ H s) : ∀ b o, X.base.get? b = some o → s.heap.get? b = some o ∧ H b = none := fun b o e =>
  ⟨I.base.keep b o (I.ok.bs b o e).1 (I.ok.bs b o e).2 (I.ok.nofr e) (I.ok.noex b o e), I.base.free b o (I.ok.bs b o e).1 (I.ok.bs b o e).2 (I.ok.noex b o e)⟩
theorem Inv.bk (I : Inv X pins σ H s) : ∀ b o, X.base.get? b = some o → s.heap.get? b = some o := fun b o e => (I.bs b o e).1
theorem Inv.mod (I : Inv X pins σ H s) : Mod X.K X.mg X.base := I.ok.mod
theorem Inv.kIn (I : Inv X pins σ H s) : X.K.In s.heap := I.ok.mod.kin.keeps I.bk
theorem Inv.nolimit (I : Inv X pins σ H s) : s.heap.NoLimit := I.ok.mod.nolimit.keeps I.bk
theorem Inv.fr (I : Inv X pins σ H s) : ∃ m, Fr X.base X.env.locals s.heap m :=
  let ⟨m, hn, _⟩ := I.loc
  ⟨m, hn, I.bk, Nat.le_trans I.ok.bsz I.ok.above⟩
theorem Inv.lt (I : Inv X pins σ H s) : X.env.locals < s.heap.objs.size := let ⟨_, hn, _⟩ := I.loc; hn.lt
theorem Inv.sz (I : Inv X pins σ H s) : X.s₀.heap.objs.size ≤ s.heap.objs.size := Nat.le_trans I.ok.above (Nat.le_of_lt I.lt)
theorem Inv.nofs (I : Inv X pins σ H s) {a : Addr} (h : s.heap.objs.size ≤ a) : a ∉ X.fs := fun hb => by
  obtain ⟨_, o, ho, _⟩ := I.ok.funs.mem hb
  exact absurd (Nat.lt_of_lt_of_le (Heap.lt_size ho) (Nat.le_trans I.sz h)) (Nat.lt_irrefl _)
theorem Inv.cne (I : Inv X pins σ H s) : ∀ x c, X.env.cells.lookup x = some c → c ≠ X.env.locals := fun x c e z => by
  obtain ⟨v, o, ho, hd⟩ := I.cell x c e
  obtain ⟨m, ⟨o', es, ep, ho', hd', _⟩, _⟩ := I.loc
  rw [z, ho'] at ho; cases ho; rw [hd'] at hd; cases hd
theorem Inv.funs (I : Inv X pins σ H s) : s.heap.FunFrames X.base X.outer := by
  have all : ∀ (l : List Env), (∀ b ∈ frs l, b ∈ X.fs) → X.s₀.heap.FunFrames X.base l → s.heap.FunFrames X.base l := by
    intro l
    induction l with
    | nil => intro _ _; trivial
    | cons env r ih =>
      intro hs hl
      obtain ⟨hk, ⟨L, o, hf, hn, ho, hd⟩, hr⟩ := hl
      have hL : L ∈ X.fs := hs L (by unfold frs; rw [List.filterMap_cons, hf]; exact List.mem_cons_self)
      obtain ⟨sl, e⟩ := I.base.slot L o ho (I.ok.frf L hL) hL fun z => I.ok.exfs L z hL
      exact ⟨hk, ⟨L, _, hf, hn, e, hd⟩, ih (fun b hb => hs b (by unfold frs; rw [List.filterMap_cons, hf]; exact List.mem_cons_of_mem _ hb)) hr⟩
  exact all X.outer (fun _ hb => hb) I.ok.funs

theorem Inv.stack (I : Inv X pins σ H s) : s.heap.FunFrames X.base X.stack := by
  rcases I.ok.stk with e | ⟨e, hf⟩
  · rw [e]; exact I.funs
  · rw [e]
    obtain ⟨m, hn, _⟩ := I.loc
    refine .cons (by rw [I.ok.kind]; decide) hf hn ?_ I.funs
    exact Heap.get?_none_of_le (Nat.le_trans I.ok.bsz I.ok.above)
theorem Inv.stkSub (I : Inv X pins σ H s) : ∀ b ∈ frs X.stack, b ∈ X.env.locals :: X.fs := fun b hb => by
  rcases I.ok.stk with e | ⟨e, hf⟩
  · rw [e] at hb; exact List.mem_cons_of_mem _ hb
  · rw [e] at hb
    unfold frs at hb
    rw [List.filterMap_cons, hf] at hb
    exact hb
theorem Inv.stkFree (I : Inv X pins σ H s) : ∀ b ∈ frs X.stack, H b = none := fun b hb => by
  rcases List.mem_cons.mp (I.stkSub b hb) with e | hb
  · rw [e]; exact I.free
  · obtain ⟨_, o, ho, _⟩ := I.ok.funs.mem hb
    exact I.base.free b o ho (I.ok.frf b hb) fun z => I.ok.exfs b z hb

theorem Inv.step {g' : Array GenState} {t' : Nat} {d' : Drawn} {ch : List Addr} (I : Inv X pins σ H s)
    (hch : ∀ b ∈ ch, (b ∈ X.ex ∨ X.s₀.heap.objs.size ≤ b) ∧ b ≠ X.env.locals ∧ (∀ x c, X.env.cells.lookup x = some c → c ≠ b) ∧ ∀ p ∈ X.pn ++ pins, p.1 ≠ b)
    (keep : ∀ b o, b ≠ X.env.locals → b ∉ X.fs → b ∉ ch → s.heap.get? b = some o → H b = none → h'.get? b = some o)
    (slot : ∀ b o, b ≠ X.env.locals → b ∈ X.fs → b ∉ ch → s.heap.get? b = some o → H b = none → ∃ sl, h'.get? b = some { o with slots := sl }) (free : ∀ b o, b ∉ ch → s.heap.get? b = some o → H b = none → H' b = none)
    (there : ∀ b o, b ∉ ch → s.heap.get? b = some o → ∃ o', h'.get? b = some o')
    (tups : ∀ b xs, H b = some (.tup xs) → H' b = some (.tup xs)) (frzs : ∀ b o u, H b = some (.frz o u) → H' b = some (.frz o u)) (tbls : ∀ b ps, H b = some (.tbl ps) → ∃ more, H' b = some (.tbl (ps ++ more)))
    (ns : ∀ m, s.heap.Ns X.env.locals m → h'.Ns X.env.locals m) (hok : HOk X.prog X.w H' h') (hg : AllBare g') :
    Inv X pins σ H' { s with heap := h', gens := g', drawn := d', toks := t' } := by
  have neL : ∀ b o, X.s₀.heap.get? b = some o → b ≠ X.env.locals := fun b o e => Nat.ne_of_lt (Nat.lt_of_lt_of_le (Heap.lt_size e) I.ok.above)
  have neC : ∀ b o, X.s₀.heap.get? b = some o → b ∉ X.ex → b ∉ ch := fun b o e hx hb => by
    rcases (hch b hb).1 with z | z
    · exact hx z
    · exact absurd (Nat.lt_of_lt_of_le (Heap.lt_size e) z) (Nat.lt_irrefl _)
  have cellK : ∀ x c, X.env.cells.lookup x = some c → ∀ v, s.heap.IsCell c v → h'.IsCell c v := fun x c e v ⟨o, ho, hd⟩ => by
    have nch : c ∉ ch := fun z => (hch c z).2.2.1 x c e rfl
    by_cases hc : c ∈ X.fs
    · obtain ⟨sl, q⟩ := slot c o (I.cne x c e) hc nch ho (I.freeC x c e)
      exact ⟨_, q, hd⟩
    · exact ⟨o, keep c o (I.cne x c e) hc nch ho (I.freeC x c e), hd⟩
  refine ⟨I.ok, I.os, hg, ⟨fun b o e n hb hx => ?_, fun b o e n hb hx => ?_, fun b o e n hx => ?_, fun b o e hx => ?_, fun b xs e => tups b xs (I.base.tups b xs e), fun b o xs e => frzs b o xs (I.base.frzs b o xs e), fun b ps e => ?_⟩, ?_, fun x c e => ?_, ?_, fun x c e => ?_, fun p hp => ?_, hok, I.len⟩
  · exact keep b o (neL b o e) hb (neC b o e hx) (I.base.keep b o e n hb hx) (I.base.free b o e n hx)
  · obtain ⟨sl, e1⟩ := I.base.slot b o e n hb hx
    obtain ⟨sl', e2⟩ := slot b _ (neL b o e) hb (neC b o e hx) e1 (I.base.free b o e n hx)
    exact ⟨sl', e2⟩
  · obtain ⟨o', e1⟩ := I.base.there b o e hx
    exact free b o' (neC b o e hx) e1 (I.base.free b o e n hx)
  · obtain ⟨o', e1⟩ := I.base.there b o e hx
    exact there b o' (neC b o e hx) e1
  · obtain ⟨m1, e1⟩ := I.base.tbls b ps e
    obtain ⟨m2, e2⟩ := tbls b _ e1
    exact ⟨m1 ++ m2, by rw [e2, Array.append_assoc]⟩
  · obtain ⟨m, hn, hl⟩ := I.loc
    refine ⟨m, ns m hn, fun i x v e1 e2 e3 => ?_⟩
    obtain ⟨u, r, l⟩ := hl i x v e1 e2 e3
    refine ⟨u, r, ?_⟩
    rcases l with l | ⟨k, c, e, z⟩
    · exact .inl l
    · exact .inr ⟨k, c, e, cellK x c e _ z⟩
  · obtain ⟨v, z⟩ := I.cell x c e
    exact ⟨v, cellK x c e v z⟩
  · obtain ⟨m, ⟨o, _, _, ho, _⟩, _⟩ := I.loc
    exact free _ o (fun z => (hch _ z).2.1 rfl) ho I.free
  · obtain ⟨v, o, ho, hd⟩ := I.cell x c e
    exact free c o (fun z => (hch c z).2.2.1 x c e rfl) ho (I.freeC x c e)
  · obtain ⟨e, n, ne, nf, d⟩ := I.pin p hp
    have nch : p.1 ∉ ch := fun z => (hch p.1 z).2.2.2 p hp rfl
    exact ⟨keep p.1 p.2 ne nf nch e n, free p.1 p.2 nch e n, ne, nf, d⟩
theorem Inv.un {t' : Nat} (I : Inv X pins σ H s) (u : Un X.fs [] H H' s.heap h') (hok : HOk X.prog X.w H' h') : Inv X pins σ H' { s with heap := h', toks := t' } := by
  obtain ⟨m, ⟨o, es, ep, ho, r⟩, _⟩ := id I.loc
  obtain ⟨sl, hL⟩ := u.any ho I.free (by simp)
  exact I.step (g' := s.gens) (d' := s.drawn) (ch := []) (fun _ z => nomatch z) (fun b o _ hb _ e n => u.keep b o e n hb (by simp)) (fun b o _ hb _ e n => u.slot b o e n hb (by simp)) (fun b o _ e n => u.free b o e n (by simp)) (fun b o _ e => u.there b o e (by simp)) u.tups u.frzs u.tbls (fun m' hm => by
    obtain ⟨o', es', ep', ho', r'⟩ := hm
    rw [ho] at ho'; cases ho'
    exact ⟨_, es', ep', hL, r'⟩) hok I.bare
theorem Inv.call {g' : Array GenState} {t' : Nat} {d' : Drawn} {ch : List Addr} (I : Inv X pins σ H s) (u : Un (frs X.stack) ch H H' s.heap h') (hok : HOk X.prog X.w H' h') (hg : AllBare g')
    (hch : ∀ b ∈ ch, (b ∈ X.ex ∨ X.s₀.heap.objs.size ≤ b) ∧ b ≠ X.env.locals ∧ (∀ x c, X.env.cells.lookup x = some c → c ≠ b) ∧ ∀ p ∈ X.pn ++ pins, p.1 ≠ b) :
    Inv X pins σ H' { s with heap := h', gens := g', drawn := d', toks := t' } := by
  obtain ⟨m, ⟨o, es, ep, ho, r⟩, _⟩ := id I.loc
  obtain ⟨sl, hL⟩ := u.any ho I.free fun z => (hch _ z).2.1 rfl
  exact I.step (ch := ch) hch (fun b o hL hb hc e n => u.keep b o e n (fun z => (List.mem_cons.mp (I.stkSub b z)).elim hL hb) hc) (fun b o _ _ hc e n => u.any e n hc) (fun b o hc e n => u.free b o e n hc) (fun b o hc e => u.there b o e hc) u.tups u.frzs u.tbls (fun m' hm => by
    obtain ⟨o', es', ep', ho', r'⟩ := hm
    rw [ho] at ho'; cases ho'
    exact ⟨_, es', ep', hL, r'⟩) hok hg
theorem Inv.turned {t' : Nat} {it : Addr} (I : Inv X pins σ H s) (k : ∀ b o, b ≠ it → s.heap.get? b = some o → h'.get? b = some o) (hn : H it = none) (hL : it ≠ X.env.locals)
    (h1 : it ∈ X.ex ∨ X.s₀.heap.objs.size ≤ it) (h2 : ∀ x c, X.env.cells.lookup x = some c → c ≠ it) (h3 : ∀ p ∈ X.pn ++ pins, p.1 ≠ it) : Inv X pins σ H { s with heap := h', toks := t' } := by
  have nit : ∀ b u, H b = some u → b ≠ it := fun b u e z => by rw [z, hn] at e; cases e
  refine I.step (g' := s.gens) (d' := s.drawn) (ch := [it]) (fun b hb => ?_) (fun b o _ _ hc e _ => k b o (fun z => hc (by simp [z])) e) (fun b o _ _ hc e _ => ⟨o.slots, k b o (fun z => hc (by simp [z])) e⟩) (fun _ _ _ _ n => n)
    (fun b o hc e => ⟨o, k b o (fun z => hc (by simp [z])) e⟩) (fun _ _ e => e) (fun _ _ _ e => e) (fun b ps e => ⟨#[], by rw [e]; simp⟩) (fun m hm => ?_) (fun b u e => ?_) I.bare
  · have e : b = it := by simpa using hb
    subst e
    exact ⟨h1, hL, h2, h3⟩
  · obtain ⟨o, es, ep, ho, r⟩ := hm
    exact ⟨o, es, ep, k _ o (Ne.symm hL) ho, r⟩
  · refine (I.hok b u e).stay (fun c v hc q => k c v ?_ q) (fun _ q => q) fun _ _ q => q
    rcases hc with z | z
    · rw [z]; exact nit b u e
    · exact nit c _ z
theorem Inv.tok (I : Inv X pins σ H s) (t : Nat) : Inv X pins σ H { s with toks := t } := I.un (h' := s.heap) (t' := t) Un.refl I.hok
theorem Inv.kept {t' : Nat} (I : Inv X pins σ H s) (k : ∀ b u, s.heap.get? b = some u → h'.get? b = some u) : Inv X pins σ H { s with heap := h', toks := t' } := I.un (Un.kept k) (I.hok.kept k)
theorem Inv.laid {a : Addr} {o : HO} {t' : Nat} (I : Inv X pins σ H s) (k : ∀ b u, s.heap.get? b = some u → h'.get? b = some u) (hp : s.heap.objs.size ≤ a) (new : ObjOk X.prog X.w (upd H a o) h' a o) :
    Inv X pins σ (upd H a o) { s with heap := h', toks := t' } := I.un (Un.laid k hp (I.hok.fresh hp)) (I.hok.laid k hp new)
theorem Inv.write {x e : Addr} {o : HO} {t' : Nat} (I : Inv X pins σ H s) (mu : Mut (H x)) (he : e = x ∨ H e = some (.own x)) (k : ∀ b u, b ≠ e → s.heap.get? b = some u → h'.get? b = some u) (heo : ∃ u, h'.get? e = some u)
    (new : ObjOk X.prog X.w (upd H x o) h' x o) : Inv X pins σ (upd H x o) { s with heap := h', toks := t' } := I.un (Un.write mu he k heo) (I.hok.write mu he k heo new)
theorem Inv.pins_of {pins' : List (Addr × Obj)} (I : Inv X pins σ H s) (h : ∀ p ∈ pins', s.heap.get? p.1 = some p.2 ∧ H p.1 = none ∧ p.1 ≠ X.env.locals ∧ p.1 ∉ X.fs ∧ ∀ v, p.2.data ≠ .cell v) : Inv X pins' σ H s :=
  ⟨I.ok, I.os, I.bare, I.base, I.loc, I.cell, I.free, I.freeC, fun p hp => (List.mem_append.mp hp).elim (fun z => I.pin p (List.mem_append_left _ z)) (h p), I.hok, I.len⟩

theorem nodup_ix {N : List Str} (hN : N.Nodup) {i j : Nat} {x : Str} (a : N[i]? = some x) (b : N[j]? = some x) : i = j := by
  obtain ⟨h1, e1⟩ := List.getElem?_eq_some_iff.mp a
  obtain ⟨h2, e2⟩ := List.getElem?_eq_some_iff.mp b
  exact (List.getElem_inj hN).mp (e1.trans e2.symm)

theorem store_ok2 {M : Model} {A : Around} {E : Value → Shared → Prop} {i : Nat} {x : Str} {v : V} {u : Value} {Q : Unit → Shared → Prop} (I : Inv X pins σ H s) (hN : X.N.Nodup) (hi : X.N[i]? = some x) (hx : Loc X.env.scope x) (r : RelV v u)
    (h : ∀ s', Inv X pins (σ.set i (some v)) H s' → (∃ a, Heap.SameBut a s.heap s'.heap ∧ (a = X.env.locals ∨ X.env.cells.lookup x = some a)) → Q () s') (hf : X.fn x = true ∨ X.env.scope.names.lookup x = some .local := by first | exact .inl rfl | exact .inr rfl | assumption) : wpAny M A (storeName X.env x u) Q E s := by
  obtain ⟨m, hn, hl⟩ := id I.loc
  have hcls : (X.env.scope.kind == .class || (X.env.scope.kind == .module && X.env.locals != X.env.globals)) = false := by rw [I.ok.kind]; rfl
  have hiσ : i < σ.length := by rw [I.len]; exact (List.getElem?_eq_some_iff.mp hi).1
  have cne := I.cne
  have tracked : ∀ {a : Addr} {h' : Heap}, (∃ o, s.heap.get? a = some o ∧ H a = none) → Heap.SameBut a s.heap h' → HOk X.prog X.w H h' := fun {a h'} ha hs b ob e => by
    obtain ⟨_, _, hfree⟩ := ha
    refine (I.hok b ob e).stay (fun c w' hc q => (hs.2 c ?_).trans q) (fun _ q => q) fun _ _ q => q
    rintro rfl
    rcases hc with rfl | hc
    · rw [hfree] at e; cases e
    · rw [hfree] at hc; cases hc
  rcases hx with hk | hk
  · refine wpAny_storeName_local hk hn (fun h' hn' hs => ?_) hcls
    obtain ⟨oL, _, _, hoL, _⟩ := id hn
    refine h _ ⟨I.ok, I.os, I.bare, ⟨fun b o e n hb hx => ?_, fun b o e n hb hx => ?_, I.base.free, fun b o e hx => ?_, I.base.tups, I.base.frzs, I.base.tbls⟩, ⟨_, hn', fun j y v' e1 e2 e3 => ?_⟩, fun y c e => ?_, I.free, I.freeC, fun p hp => ?_, tracked ⟨oL, hoL, I.free⟩ hs, by simpa using I.len⟩ ⟨_, hs, .inl rfl⟩
    · exact (hs.2 b (Nat.ne_of_lt (Nat.lt_of_lt_of_le (Heap.lt_size e) I.ok.above))).trans (I.base.keep b o e n hb hx)
    · obtain ⟨sl, e1⟩ := I.base.slot b o e n hb hx
      exact ⟨sl, (hs.2 b (Nat.ne_of_lt (Nat.lt_of_lt_of_le (Heap.lt_size e) I.ok.above))).trans e1⟩
    · obtain ⟨o', e1⟩ := I.base.there b o e hx
      exact ⟨o', (hs.2 b (Nat.ne_of_lt (Nat.lt_of_lt_of_le (Heap.lt_size e) I.ok.above))).trans e1⟩
    · by_cases hj : j = i
      · subst hj
        rw [hi] at e1; cases e1
        rw [List.getElem?_set_self hiσ] at e2
        cases e2
        exact ⟨u, r, .inl ⟨hk, by simp⟩⟩
      · rw [List.getElem?_set_ne (Ne.symm hj)] at e2
        obtain ⟨u', r', q⟩ := hl j y v' e1 e2 e3
        refine ⟨u', r', ?_⟩
        rcases q with ⟨k, e⟩ | ⟨k, c, e, z⟩
        · refine .inl ⟨k, ?_⟩
          have : y ≠ x := fun e => hj (nodup_ix hN e1 (e ▸ hi))
          simp [this, e]
        · exact .inr ⟨k, c, e, z.sameBut hs (cne y c e)⟩
    · obtain ⟨w', z⟩ := I.cell y c e
      exact ⟨w', z.sameBut hs (cne y c e)⟩
    · obtain ⟨e, n, ne, nf, d⟩ := I.pin p hp
      exact ⟨(hs.2 p.1 ne).trans e, n, ne, nf, d⟩
  · have hfn : X.fn x = true := by
      rcases hf with z | z
      · exact z
      · rw [z] at hk; cases hk
    obtain ⟨c, hc⟩ := I.ok.has x (.inl hk)
    obtain ⟨w', z⟩ := I.cell x c hc
    refine wpAny_storeName_cell I.ok.kind hk hc z (fun h' hc' hs => ?_)
    obtain ⟨oc, hoc, hocd⟩ := id z
    refine h { s with heap := h' } ⟨I.ok, I.os, I.bare, ⟨fun b o e n hb hx => ?_, fun b o e n hb hx => ?_, I.base.free, fun b o e hx => ?_, I.base.tups, I.base.frzs, I.base.tbls⟩, ⟨m, hn.sameBut hs (Ne.symm (cne x c hc)), fun j y v' e1 e2 e3 => ?_⟩, fun y c' e => ?_, I.free, I.freeC, fun p hp => ?_, tracked ⟨oc, hoc, I.freeC x c hc⟩ hs, by simpa using I.len⟩ ⟨c, hs, .inr hc⟩
    · exact (hs.2 b (Nat.ne_of_lt (Nat.lt_of_lt_of_le (Heap.lt_size e) (I.ok.cab x c hfn hc)))).trans (I.base.keep b o e n hb hx)
    · obtain ⟨sl, e1⟩ := I.base.slot b o e n hb hx
      exact ⟨sl, (hs.2 b (Nat.ne_of_lt (Nat.lt_of_lt_of_le (Heap.lt_size e) (I.ok.cab x c hfn hc)))).trans e1⟩
    · obtain ⟨o', e1⟩ := I.base.there b o e hx
      exact ⟨o', (hs.2 b (Nat.ne_of_lt (Nat.lt_of_lt_of_le (Heap.lt_size e) (I.ok.cab x c hfn hc)))).trans e1⟩
    · by_cases hj : j = i
      · subst hj
        rw [hi] at e1; cases e1
        rw [List.getElem?_set_self hiσ] at e2
        cases e2
        exact ⟨u, r, .inr ⟨.inl hk, c, hc, hc'⟩⟩
      · rw [List.getElem?_set_ne (Ne.symm hj)] at e2
        obtain ⟨u', r', q⟩ := hl j y v' e1 e2 e3
        refine ⟨u', r', ?_⟩
        rcases q with q | ⟨k, c', e, z'⟩
        · exact .inl q
        · refine .inr ⟨k, c', e, z'.sameBut hs ?_⟩
          rintro rfl
          exact hj (nodup_ix hN e1 (I.ok.inj _ _ _ e hc ▸ hi))
    · by_cases hcc : c' = c
      · subst hcc; exact ⟨_, hc'⟩
      · obtain ⟨w2, z2⟩ := I.cell y c' e
        exact ⟨w2, z2.sameBut hs hcc⟩
    · obtain ⟨e, n, ne, nf, d⟩ := I.pin p hp
      refine ⟨(hs.2 p.1 ?_).trans e, n, ne, nf, d⟩
      intro q
      rw [q, hoc] at e
      have q' : oc = p.2 := Option.some.inj e
      exact d w' (by rw [← q']; exact hocd)
theorem store_ok {M : Model} {A : Around} {E : Value → Shared → Prop} {i : Nat} {x : Str} {v : V} {u : Value} {Q : Unit → Shared → Prop} (I : Inv X pins σ H s) (hN : X.N.Nodup) (hi : X.N[i]? = some x) (hx : Loc X.env.scope x) (r : RelV v u)
    (h : ∀ s', Inv X pins (σ.set i (some v)) H s' → Q () s') (hf : X.fn x = true ∨ X.env.scope.names.lookup x = some .local := by first | exact .inl rfl | exact .inr rfl | assumption) : wpAny M A (storeName X.env x u) Q E s :=
  store_ok2 I hN hi hx r (fun s' I' _ => h s' I') hf
theorem Inv.call' {s' : Shared} {ch : List Addr} (I : Inv X pins σ H s) (ho : s'.os = s.os) (u : Un (frs X.stack) ch H H' s.heap s'.heap) (hok : HOk X.prog X.w H' s'.heap) (hg : AllBare s'.gens)
    (hch : ∀ b ∈ ch, (b ∈ X.ex ∨ X.s₀.heap.objs.size ≤ b) ∧ b ≠ X.env.locals ∧ (∀ x c, X.env.cells.lookup x = some c → c ≠ b) ∧ ∀ p ∈ X.pn ++ pins, p.1 ≠ b) : Inv X pins σ H' s' := by
  obtain ⟨h', g', d', t', o'⟩ := s'
  have e : o' = s.os := ho
  subst e
  exact I.call (g' := g') (t' := t') (d' := d') u hok hg hch
end

abbrev XK := Value → Option Addr → Hp → Prop
abbrev St := List (Option V)
abbrev VK := V → Hp → Prop
abbrev TE := St → Hp → VK → Prop
abbrev TT := St → Hp → (Bool → Hp → Prop) → Prop
abbrev TA := St → Hp → (List V → Hp → Prop) → Prop
structure Ends where
  nx : St → Hp → Prop
  rt : VK
  bk : St → Hp → Prop := fun _ _ => False
  ct : St → Hp → Prop := fun _ _ => False
abbrev TS := Ends → St → Hp → Prop

def EP (X : Cx) (pins : List (Addr × Obj)) (σ : St) (Q : VK) (u : Value) (s' : Shared) : Prop := ∃ v H', Inv X pins σ H' s' ∧ RelV v u ∧ Q v H'
def TP (X : Cx) (pins : List (Addr × Obj)) (σ : St) (Q : Bool → Hp → Prop) (b : Bool) (s' : Shared) : Prop := ∃ H', Inv X pins σ H' s' ∧ Q b H'
def AP (X : Cx) (pins : List (Addr × Obj)) (σ : St) (Q : List V → Hp → Prop) (us : List Value) (s' : Shared) : Prop := ∃ vs H', Inv X pins σ H' s' ∧ Vals vs us ∧ Q vs H'
def SP (X : Cx) (pins : List (Addr × Obj)) (D : Ends) (f : Flow) (s' : Shared) : Prop :=
  match f with
  | .next => ∃ σ' H', Inv X pins σ' H' s' ∧ D.nx σ' H'
  | .brk => ∃ σ' H', Inv X pins σ' H' s' ∧ D.bk σ' H'
  | .cont => ∃ σ' H', Inv X pins σ' H' s' ∧ D.ct σ' H'
  | .ret u => ∃ v σ' H', Inv X pins σ' H' s' ∧ RelV v u ∧ D.rt v H'

def PE (X : Cx) (e : Expr) (t : TE) : Prop :=
  ∀ (pins : List (Addr × Obj)) (s : Shared) (σ : St) (H : Hp) (Q : VK), Inv X pins σ H s → t σ H Q → wpAny (model X.prog X.w) X.A (eval e X.env) (EP X pins σ Q) X.xe s
def PT (X : Cx) (e : Expr) (t : TT) : Prop :=
  ∀ (pins : List (Addr × Obj)) (s : Shared) (σ : St) (H : Hp) (Q : Bool → Hp → Prop), Inv X pins σ H s → t σ H Q → wpAny (model X.prog X.w) X.A (isTrue e X.env (eval e X.env)) (TP X pins σ Q) X.xe s
def PW (X : Cx) (e : Expr) (t : TT) : Prop :=
  ∀ (whole : Sem Value) (pins : List (Addr × Obj)) (s : Shared) (σ : St) (H : Hp) (Q : Bool → Hp → Prop), Inv X pins σ H s → t σ H Q → wpAny (model X.prog X.w) X.A (isTrue e X.env whole) (TP X pins σ Q) X.xe s
theorem PW.pt {X : Cx} {e : Expr} {t : TT} (h : PW X e t) : PT X e t := h _
def PA (X : Cx) (es : List Expr) (t : TA) : Prop :=
  ∀ (pos : Pos) (pins : List (Addr × Obj)) (s : Shared) (σ : St) (H : Hp) (Q : List V → Hp → Prop), Inv X pins σ H s → t σ H Q → wpAny (model X.prog X.w) X.A (spliced (backTo pos (starEach es X.env))) (AP X pins σ Q) X.xe s
def PS (X : Cx) (st : Stmt) (t : TS) : Prop :=
  ∀ (pins : List (Addr × Obj)) (s : Shared) (σ : St) (H : Hp) (D : Ends), Inv X pins σ H s → t D σ H → wpAny (model X.prog X.w) X.A (exec st X.env) (SP X pins D) X.xe s
def PSs (X : Cx) (st : List Stmt) (t : TS) : Prop :=
  ∀ (pins : List (Addr × Obj)) (s : Shared) (σ : St) (H : Hp) (D : Ends), Inv X pins σ H s → t D σ H → wpAny (model X.prog X.w) X.A (execs st X.env) (SP X pins D) X.xe s
theorem thn {α : Type} {t : Sem α} {Q Q' : α → Shared → Prop} {M : Model} {A : Around} {E : Value → Shared → Prop} {s : Shared} (h : wpAny M A t Q E s) (hQ : ∀ a s, Q a s → Q' a s) : wpAny M A t Q' E s := wpAny_mono h hQ fun _ _ x => x
end L2

namespace L2
open PySem PySem.Spec PyProof.Rows
section
variable {X : Cx}

def tVar (i : Nat) : TE := fun σ H Q => ∃ v, σ[i]? = some (some v) ∧ Q v H
def tC (v : V) : TE := fun _ H Q => Q v H
theorem pe_var {i : Nat} {x : Str} {pos : Pos} (hN : X.N[i]? = some x) (hv : Vis X.env.scope x) (hd : (x == ("__debug__" : Str)) = false := by decide) (hcd : (x == ("__classdict__" : Str)) = false := by decide) : PE X (.Name x pos) (tVar i) := by
  intro pins s σ H Q I h
  obtain ⟨v, e, h⟩ := h
  obtain ⟨m, hn, hl⟩ := I.loc
  obtain ⟨u, r, l⟩ := hl i x v hN e hv
  have fin : EP X pins σ Q u s := ⟨v, H, I, r, h⟩
  rcases l with ⟨hk, hm⟩ | ⟨hk, c, hc, hcell⟩
  · exact wpAny_Name (wpAny_loadName_local I.ok.kind hk hn hm fin) hd
  · rcases hk with hk | hk
    · exact wpAny_Name (wpAny_loadName_cell I.ok.kind hk hc hcell fin) hd
    · exact wpAny_Name (wpAny_loadName_free I.ok.kind hk hc hcell fin hcd) hd
theorem pe_int {i j pos} : PE X (.Constant (.int i) j pos) (tC (.int i)) := fun _ _ _ H _ I h => wpAny_Constant_int ⟨.int i, H, I.tok _, ⟨_, rfl⟩, h⟩
theorem pe_bl {b j pos} : PE X (.Constant (.bool b) j pos) (tC (.bl b)) := fun _ _ _ H _ I h => Constant_bool ⟨.bl b, H, I, rfl, h⟩
theorem pe_non {j pos} : PE X (.Constant .none j pos) (tC .non) := fun _ _ _ H _ I h => Constant_none ⟨.non, H, I, rfl, h⟩
theorem pe_str {x j pos} : PE X (.Constant (.str x) j pos) (tC (.str x)) := fun _ _ _ H _ I h => Calls.Constant_str ⟨.str x, H, I.tok _, ⟨_, rfl⟩, h⟩

def Gl (X : Cx) (x : Str) : Prop := X.env.kindOf x = some .globalImplicit
theorem ld_glob {E : Value → Shared → Prop} {pins : List (Addr × Obj)} {s : Shared} {σ : St} {H : Hp} {x : Str} {u : Value} {pos : Pos} {Q : Value → Shared → Prop} (I : Inv X pins σ H s) (hg : Gl X x) (hm : X.mg x = some u) (h : Q u s)
    (hd : (x == ("__debug__" : Str)) = false := by decide) : wpAny (model X.prog X.w) X.A (eval (.Name x pos) X.env) Q E s :=
  Calls.Name_function_global I.ok.kind hg (Calls.loadGlobal_global (by rw [I.ok.glob]; exact I.mod.glob.keeps I.bk) hm h) hd
theorem ld_blt {E : Value → Shared → Prop} {pins : List (Addr × Obj)} {s : Shared} {σ : St} {H : Hp} {x : Str} {u : Value} {pos : Pos} {Q : Value → Shared → Prop} (I : Inv X pins σ H s) (hg : Gl X x) (hm : X.mg x = none) (hv : bootBuiltins x = some u) (h : Q u s)
    (hn : x ≠ "__name__" := by decide) (hd : (x == ("__debug__" : Str)) = false := by decide) : wpAny (model X.prog X.w) X.A (eval (.Name x pos) X.env) Q E s := by
  obtain ⟨mb, h1, h2⟩ := I.mod.blt
  exact Calls.Name_function_global I.ok.kind hg (Calls.loadGlobal_builtin (by rw [I.ok.glob]; exact I.mod.glob.keeps I.bk) hm (by rw [I.ok.blt]; exact h1.keeps I.bk) ((h2 x hn).trans hv) h) hd
theorem pe_glob {x : Str} {v : V} {u : Value} {pos : Pos} (hg : Gl X x) (hm : X.mg x = some u) (r : RelV v u) (hd : (x == ("__debug__" : Str)) = false := by decide) : PE X (.Name x pos) (tC v) :=
  fun _ _ _ H _ I h => ld_glob I hg hm ⟨v, H, I, r, h⟩ hd
theorem pe_bltn {x : Str} {v : V} {u : Value} {pos : Pos} (hg : Gl X x) (hm : X.mg x = none) (hv : bootBuiltins x = some u) (r : RelV v u) (hn : x ≠ "__name__" := by decide) (hd : (x == ("__debug__" : Str)) = false := by decide) : PE X (.Name x pos) (tC v) :=
  fun _ _ _ H _ I h => ld_blt I hg hm hv ⟨v, H, I, r, h⟩ hn hd

variable {a b : Expr} {ta tb : TE} {pos : Pos}
def tB (t : TE) : TT := fun σ H Q => t σ H fun x H1 => ∃ c, x = .bl c ∧ Q c H1
theorem pt_val {e : Expr} {t : TE} (h : PE X e t) (he : ∀ whole, isTrue e X.env whole = (do let v ← whole; standAt e.pos; holding [v] (truthy v)) := by intro _; rfl) : PT X e (tB t) := by
  intro pins s σ H Q I hw
  refine isTrue_plain (thn (h pins s σ H _ I hw) fun v s1 ⟨x, H1, I1, r1, q1⟩ => ?_) (he _)
  obtain ⟨d, rfl, q⟩ := q1
  cases r1
  exact wpAny_truthy_bool ⟨H1, I1, q⟩

variable {tA tB' : TT} {rest : List Expr}
def tAnd (t u : TT) : TT := fun σ H Q => t σ H fun c H1 => if c = true then u σ H1 Q else Q false H1
def tOr (t u : TT) : TT := fun σ H Q => t σ H fun c H1 => if c = true then Q true H1 else u σ H1 Q
def tNot (t : TT) : TT := fun σ H Q => t σ H fun c H1 => Q (!c) H1
theorem pw_and1 (ha : PT X a tA) : PW X (.BoolOp .And [a] pos) tA := by
  intro wh pins s σ H Q I h
  refine isTrue_and (thn (ha pins s σ H Q I h) fun c s1 e => ?_)
  cases c with
  | true => exact isTrue_and_nil e
  | false => exact e
theorem pw_or1 (ha : PT X a tA) : PW X (.BoolOp .Or [a] pos) tA := by
  intro wh pins s σ H Q I h
  refine isTrue_or (thn (ha pins s σ H Q I h) fun c s1 e => ?_)
  cases c with
  | false => exact isTrue_or_nil e
  | true => exact e
theorem pw_and (ha : PT X a tA) (hb : PW X (.BoolOp .And (b :: rest) pos) tB') : PW X (.BoolOp .And (a :: b :: rest) pos) (tAnd tA tB') := by
  intro wh pins s σ H Q I h
  refine isTrue_and (thn (ha pins s σ H _ I h) fun c s1 ⟨H1, I1, q1⟩ => ?_)
  cases c with
  | true => exact hb wh pins s1 σ H1 Q I1 q1
  | false => exact ⟨H1, I1, q1⟩
theorem pw_or (ha : PT X a tA) (hb : PW X (.BoolOp .Or (b :: rest) pos) tB') : PW X (.BoolOp .Or (a :: b :: rest) pos) (tOr tA tB') := by
  intro wh pins s σ H Q I h
  refine isTrue_or (thn (ha pins s σ H _ I h) fun c s1 ⟨H1, I1, q1⟩ => ?_)
  cases c with
  | true => exact ⟨H1, I1, q1⟩
  | false => exact hb wh pins s1 σ H1 Q I1 q1
theorem pt_not (ha : PT X a tA) : PT X (.UnaryOp .Not a pos) (tNot tA) := by
  intro pins s σ H Q I h
  exact isTrue_not (ha pins s σ H (fun c H1 => Q (!c) H1) I h)
def tAndV (ta tb : TE) : TE := fun σ H Q => ta σ H fun x H1 => ∃ c, x = .bl c ∧ if c = true then tb σ H1 Q else Q (.bl false) H1
def tOrV (ta tb : TE) : TE := fun σ H Q => ta σ H fun x H1 => ∃ c, x = .bl c ∧ if c = true then Q (.bl true) H1 else tb σ H1 Q
def tNotV (ta : TE) : TE := fun σ H Q => ta σ H fun x H1 => ∃ c, x = .bl c ∧ Q (.bl (!c)) H1
theorem pe_one {op} {t : TE} (h : PE X a t) : PE X (.BoolOp op [a] pos) t := fun pins s σ H Q I hw => BoolOp_one (h pins s σ H Q I hw)
theorem pe_and (ha : PE X a ta) (hb : PE X (.BoolOp .And (b :: rest) pos) tb) : PE X (.BoolOp .And (a :: b :: rest) pos) (tAndV ta tb) := by
  intro pins s σ H Q I h
  refine BoolOp_and (thn (ha pins s σ H _ I h) fun v s1 ⟨x, H1, I1, r1, q1⟩ => ?_)
  obtain ⟨c, rfl, q1⟩ := q1
  cases r1
  refine wpAny_truthy_bool ?_
  cases c with
  | true => exact hb pins s1 σ H1 Q I1 q1
  | false => exact ⟨.bl false, H1, I1, rfl, q1⟩
theorem pe_or (ha : PE X a ta) (hb : PE X (.BoolOp .Or (b :: rest) pos) tb) : PE X (.BoolOp .Or (a :: b :: rest) pos) (tOrV ta tb) := by
  intro pins s σ H Q I h
  refine BoolOp_or (thn (ha pins s σ H _ I h) fun v s1 ⟨x, H1, I1, r1, q1⟩ => ?_)
  obtain ⟨c, rfl, q1⟩ := q1
  cases r1
  refine wpAny_truthy_bool ?_
  cases c with
  | false => exact hb pins s1 σ H1 Q I1 q1
  | true => exact ⟨.bl true, H1, I1, rfl, q1⟩
theorem pe_not (ha : PE X a ta) : PE X (.UnaryOp .Not a pos) (tNotV ta) := by
  intro pins s σ H Q I h
  refine UnaryOp_ (thn (ha pins s σ H _ I h) fun v s1 ⟨x, H1, I1, r1, q1⟩ => ?_)
  obtain ⟨c, rfl, q1⟩ := q1
  cases r1
  exact not_of (wpAny_truthy_bool ⟨.bl (!c), H1, I1, rfl, q1⟩)
end
end L2

namespace L2
open PySem PySem.Spec PyProof.Rows

def SqL (K : PySem.W.Frag) (H : Hp) (a : Addr) (xs : List V) : Prop :=
  Rd H a (.lst xs) ∨
    ∃ (o : Obj) (its : Array Value) (n : Nat), K.lookup a = some o ∧ o.cls = .type "list" ∧ o.dict = none ∧ o.data = .seq its n ∧ its.size ≤ sizeLine ∧ Vals xs its.toList
def SqT (K : PySem.W.Frag) (H : Hp) (a : Addr) (xs : List V) : Prop :=
  Rd H a (.tup xs) ∨
    ∃ (o : Obj) (its : Array Value) (n : Nat), K.lookup a = some o ∧ o.cls = .type "tuple" ∧ o.data = .seq its n ∧ its.size ≤ sizeLine ∧ Vals xs its.toList
def absV : Value → Option V
  | .none => some .non
  | .bool b => some (.bl b)
  | .int i _ => some (.int i)
  | .str x _ => some (.str x)
  | .bytes b _ => some (.byt b)
  | .float b _ => some (.flt b)
  | .ref a => some (.ref a)
  | .type n => some (.ty n)
  | _ => none
theorem RelV.abs {x : V} {u : Value} (r : RelV x u) : absV u = some x := by
  cases x with
  | non => cases r; rfl
  | bl _ => cases r; rfl
  | int _ => obtain ⟨t, rfl⟩ := r; rfl
  | str _ => obtain ⟨t, rfl⟩ := r; rfl
  | byt _ => obtain ⟨t, rfl⟩ := r; rfl
  | flt _ => obtain ⟨t, rfl⟩ := r; rfl
  | ref _ => cases r; rfl
  | ty _ => cases r; rfl
theorem RelV.inj {x y : V} {u : Value} (r : RelV x u) (q : RelV y u) : x = y := Option.some.inj (r.abs.symm.trans q.abs)
theorem Vals.inj : ∀ {xs ys : List V} {us : List Value}, Vals xs us → Vals ys us → xs = ys
  | _, _, _, .nil, .nil => rfl
  | _, _, _, .cons r t, .cons r' t' => by rw [r.inj r', Vals.inj t t']
section
variable {X : Cx} {pins : List (Addr × Obj)} {σ : St} {H : Hp} {s : Shared} {a : Addr} {xs ys : List V}
theorem SqL.of {K : PySem.W.Frag} (h : H a = some (.lst xs)) : SqL K H a xs := .inl (.inl h)
theorem SqT.of {K : PySem.W.Frag} (h : H a = some (.tup xs)) : SqT K H a xs := .inl (.inl h)
theorem Inv.list (I : Inv X pins σ H s) (h : SqL X.K H a xs) : ∃ its : List Value, Vals xs its ∧ PlainL s.heap a its.toArray ∧ xs.length ≤ sizeLine := by
  rcases h with h | ⟨o, its, n, hk, hc, hd, hs, hz, r⟩
  · obtain ⟨z, its, n, r, e⟩ := h.ok I.hok
    exact ⟨its, r, ⟨_, n, e, rfl, rfl, rfl⟩, z⟩
  · refine ⟨its.toList, r, ⟨o, n, I.kIn a o hk, hc, hd, by simpa using hs⟩, ?_⟩
    have e := r.length
    simp only [Array.length_toList] at e
    omega
theorem Inv.tuple (I : Inv X pins σ H s) (h : SqT X.K H a xs) : ∃ its : List Value, Vals xs its ∧ IsTup s.heap a its.toArray ∧ xs.length ≤ sizeLine := by
  rcases h with h | ⟨o, its, n, hk, hc, hs, hz, r⟩
  · obtain ⟨z, its, r, p, _⟩ := h.ok I.hok
    exact ⟨its, r, p, z⟩
  · refine ⟨its.toList, r, ⟨o, I.kIn a o hk, hc, n, by simpa using hs⟩, ?_⟩
    have e := r.length
    simp only [Array.length_toList] at e
    omega
theorem Inv.list_inj (I : Inv X pins σ H s) (h : SqL X.K H a xs) (h' : SqL X.K H a ys) : xs = ys := by
  obtain ⟨its, r, ⟨o, n, e, _, _, d⟩, _⟩ := I.list h
  obtain ⟨its', r', ⟨o', n', e', _, _, d'⟩, _⟩ := I.list h'
  rw [e] at e'; cases e'
  rw [d] at d'
  injection d' with d1 _
  have : its = its' := by simpa using congrArg Array.toList d1
  subst this
  exact r.inj r'
theorem Inv.tuple_inj (I : Inv X pins σ H s) (h : SqT X.K H a xs) (h' : SqT X.K H a ys) : xs = ys := by
  obtain ⟨its, r, ⟨o, e, _, n, d⟩, _⟩ := I.tuple h
  obtain ⟨its', r', ⟨o', e', _, n', d'⟩, _⟩ := I.tuple h'
  rw [e] at e'; cases e'
  rw [d] at d'
  injection d' with d1 _
  have : its = its' := by simpa using congrArg Array.toList d1
  subst this
  exact r.inj r'
end

abbrev Cx.wish (X : Cx) (E : Value → Shared → Prop) : Cx := { X with xe := E }
abbrev Cx.nox (X : Cx) : Cx := X.wish fun _ _ => False
theorem Cx.Ok.wish {X : Cx} (ok : X.Ok) (E : Value → Shared → Prop) : (X.wish E).Ok :=
  ⟨ok.mod, ok.kind, ok.glob, ok.blt, ok.above, ok.inj, ok.has, ok.cab, ok.hd, ok.frames, ok.stk, ok.exf, ok.bs, ok.bsz, ok.noex, ok.exfs, ok.funs, ok.frf⟩
theorem Cx.Ok.unwish {X : Cx} {E : Value → Shared → Prop} (ok : (X.wish E).Ok) : X.Ok :=
  ⟨ok.mod, ok.kind, ok.glob, ok.blt, ok.above, ok.inj, ok.has, ok.cab, ok.hd, ok.frames, ok.stk, ok.exf, ok.bs, ok.bsz, ok.noex, ok.exfs, ok.funs, ok.frf⟩
section
variable {X : Cx} {pins : List (Addr × Obj)} {σ : St} {H : Hp} {s : Shared} {E : Value → Shared → Prop}
theorem Inv.wish (I : Inv X pins σ H s) (E : Value → Shared → Prop) : Inv (X.wish E) pins σ H s := ⟨I.ok.wish E, I.os, I.bare, I.base, I.loc, I.cell, I.free, I.freeC, I.pin, I.hok, I.len⟩
theorem Inv.unwish (I : Inv (X.wish E) pins σ H s) : Inv X pins σ H s := ⟨I.ok.unwish, I.os, I.bare, I.base, I.loc, I.cell, I.free, I.freeC, I.pin, I.hok, I.len⟩
theorem SP.unwish {D : Ends} {f : Flow} {s' : Shared} (h : SP (X.wish E) pins D f s') : SP X pins D f s' := by
  cases f with
  | next => obtain ⟨σ', H', I, q⟩ := h; exact ⟨σ', H', I.unwish, q⟩
  | brk => obtain ⟨σ', H', I, q⟩ := h; exact ⟨σ', H', I.unwish, q⟩
  | cont => obtain ⟨σ', H', I, q⟩ := h; exact ⟨σ', H', I.unwish, q⟩
  | ret u => obtain ⟨v, σ', H', I, r, q⟩ := h; exact ⟨v, σ', H', I.unwish, r, q⟩
theorem PE.nox {e : Expr} {t : TE} (h : PE X.nox e t) : PE X e t := fun pins s σ H Q I hw =>
  wpAny_mono (h pins s σ H Q (I.wish _) hw) (fun _ _ ⟨v, H', I', r, q⟩ => ⟨v, H', I'.unwish, r, q⟩) fun _ _ z => False.elim z
theorem PT.nox {e : Expr} {t : TT} (h : PT X.nox e t) : PT X e t := fun pins s σ H Q I hw =>
  wpAny_mono (h pins s σ H Q (I.wish _) hw) (fun _ _ ⟨H', I', q⟩ => ⟨H', I'.unwish, q⟩) fun _ _ z => False.elim z
theorem PSs.nox {st : List Stmt} {t : TS} (h : PSs X.nox st t) : PSs X st t := fun pins s σ H D I hw =>
  wpAny_mono (h pins s σ H D (I.wish _) hw) (fun _ _ q => q.unwish) fun _ _ z => False.elim z
end

section
variable {X : Cx} {st : Stmt} {rest : List Stmt} {t u : TS} {e : Expr} {te : TE} {pos : Pos}
def tNext : TS := fun D σ H => D.nx σ H
def tSeq (t u : TS) : TS := fun D σ H => t { D with nx := u D } σ H
theorem pss_nil : PSs X [] tNext := fun _ _ σ H _ I h => wpAny_execs_nil ⟨σ, H, I, h⟩
theorem pss_cons (h1 : PS X st t) (h2 : PSs X rest u) : PSs X (st :: rest) (tSeq t u) := by
  intro pins s σ H D I h
  refine wpAny_execs_cons (thn (h1 pins s σ H { D with nx := u D } I h) fun f s1 q => ?_)
  cases f with
  | next =>
    obtain ⟨σ', H', I', q⟩ := q
    exact h2 pins s1 σ' H' D I' q
  | ret v => exact q
  | brk => exact q
  | cont => exact q
theorem pss_one (h1 : PS X st t) : PSs X [st] t := by
  intro pins s σ H D I h
  refine wpAny_execs_cons (thn (h1 pins s σ H D I h) fun f s1 q => ?_)
  cases f with
  | next => exact wpAny_execs_nil q
  | ret v => exact q
  | brk => exact q
  | cont => exact q
theorem Inv.quiet {pins : List (Addr × Obj)} {σ : St} {H : Hp} {s : Shared} (I : Inv X pins σ H s) : interactive X.env = false := by simp [interactive, I.ok.kind]
def tDrop (te : TE) : TS := fun D σ H => te σ H fun _ H1 => D.nx σ H1
theorem ps_expr (he : PE X e te) (hs : swapsWith e none pos.line X.env = pure false := by rfl) : PS X (.Expr e pos) (tDrop te) := by
  intro pins s σ H D I h
  exact wpAny_Expr_any (thn (he pins s σ H _ I h) fun v s1 ⟨x, H1, I1, r1, q1⟩ => ⟨σ, H1, I1, q1⟩) I.quiet hs
def tRet (te : TE) : TS := fun D σ H => te σ H D.rt
theorem ps_ret (he : PE X e te) : PS X (.Return (some e) pos) (tRet te) := by
  intro pins s σ H D I h
  exact wpAny_Return_some (thn (he pins s σ H _ I h) fun v s1 ⟨x, H1, I1, r1, q1⟩ => ⟨x, σ, H1, I1, r1, q1⟩)
def tIfS (c : TT) (t u : TS) : TS := fun D σ H => c σ H fun b H1 => if b = true then t D σ H1 else u D σ H1
theorem ps_if {c : Expr} {a b : List Stmt} {tc : TT} (hc : PT X c tc) (ha : PSs X a t) (hb : PSs X b u) : PS X (.If c a b pos) (tIfS tc t u) := by
  intro pins s σ H D I h
  refine wpAny_If (thn (hc pins s σ H _ I h) fun d s1 ⟨H1, I1, q1⟩ => ?_)
  cases d with
  | true => exact ha pins s1 σ H1 D I1 q1
  | false => exact hb pins s1 σ H1 D I1 q1
def tNever : TS := fun _ _ _ => False
theorem ps_never : PS X st tNever := fun _ _ _ _ _ _ h => h.elim
end

abbrev TG := V → St → Hp → (St → Hp → Prop) → Prop
abbrev TGs := List V → St → Hp → (St → Hp → Prop) → Prop
def PG (X : Cx) (target : Expr) (t : TG) : Prop :=
  ∀ (pins : List (Addr × Obj)) (s : Shared) (σ : St) (H : Hp) (v : V) (u : Value) (Q : St → Hp → Prop), Inv X pins σ H s → RelV v u → t v σ H Q →
    wpAny (model X.prog X.w) X.A (assign target X.env u) (fun _ s' => ∃ σ' H', Inv X pins σ' H' s' ∧ Q σ' H') X.xe s
def PGs (X : Cx) (ts : List Expr) (t : TGs) : Prop :=
  ∀ (pins : List (Addr × Obj)) (s : Shared) (σ : St) (H : Hp) (vs : List V) (us : List Value) (Q : St → Hp → Prop), Inv X pins σ H s → Vals vs us → t vs σ H Q →
    wpAny (model X.prog X.w) X.A (assignInOrder ((assignEach ts X.env).map (·.2)) us) (fun _ s' => ∃ σ' H', Inv X pins σ' H' s' ∧ Q σ' H') X.xe s
abbrev TSet := V → V → V → Hp → (Hp → Prop) → Prop
def PSet (X : Cx) (t : TSet) : Prop :=
  ∀ (pins : List (Addr × Obj)) (s : Shared) (σ : St) (H : Hp) (o i v : V) (ov iv u : Value) (Q : Hp → Prop), Inv X pins σ H s → RelV o ov → RelV i iv → RelV v u → t o i v H Q →
    wpAny (model X.prog X.w) X.A (setItem ov iv u) (fun _ s' => ∃ H', Inv X pins σ H' s' ∧ Q H') X.xe s
section
variable {X : Cx} {pos : Pos}
def gName (i : Nat) : TG := fun v σ H Q => Q (σ.set i (some v)) H
theorem pg_name {i : Nat} {x : Str} (hN : X.N.Nodup) (hi : X.N[i]? = some x) (hx : Loc X.env.scope x) (hf : X.fn x = true ∨ X.env.scope.names.lookup x = some .local := by first | exact .inl rfl | exact .inr rfl | assumption) : PG X (.Name x pos) (gName i) := by
  intro pins s σ H v u Q I r h
  exact wpAny_assign_Name (store_ok I hN hi hx r (fun s' I' => ⟨_, H, I', h⟩) hf)
def gNil : TGs := fun vs σ H Q => vs = [] ∧ Q σ H
def gCons (t : TG) (u : TGs) : TGs := fun vs σ H Q => ∃ v r, vs = v :: r ∧ t v σ H fun σ' H' => u r σ' H' Q
theorem pgs_nil : PGs X [] gNil := by
  intro pins s σ H vs us Q I r h
  obtain ⟨e, h⟩ := h
  subst e
  cases r
  exact assignInOrder_nil ⟨σ, H, I, h⟩
theorem pgs_cons {e : Expr} {es : List Expr} {t : TG} {u : TGs} (h1 : PG X e t) (h2 : PGs X es u)
    (hs : (assignEach (e :: es) X.env).map (·.2) = assign e X.env :: (assignEach es X.env).map (·.2) := by rfl) : PGs X (e :: es) (gCons t u) := by
  intro pins s σ H vs us Q I r h
  obtain ⟨v, vr, e1, h⟩ := h
  subst e1
  cases r with
  | cons r rr =>
    rw [hs]
    refine assignInOrder_cons (thn (h1 pins s σ H _ _ _ I r h) fun _ s1 ⟨σ1, H1, I1, q1⟩ => ?_)
    exact h2 pins s1 σ1 H1 _ _ Q I1 rr q1
def gTup (K : PySem.W.Frag) (n : Nat) (t : TGs) : TG := fun v σ H Q => ∃ a xs, v = .ref a ∧ SqT K H a xs ∧ xs.length = n ∧ t xs σ H Q
theorem pg_tup {es : List Expr} {k : Nat} {t : TGs} {n : Nat} (hc : X.calm = true) (h : PGs X es t)
    (hn : (assignEach es X.env).length = n := by rfl) (hst : (assignEach es X.env).findIdx? (·.1) = none := by rfl) : PG X (.Tuple es k pos) (gTup X.K n t) := by
  intro pins s σ H v u Q I r hw
  obtain ⟨a, xs, e1, hq, hl, hw⟩ := hw
  subst e1
  cases r
  obtain ⟨its, rv, ht, hz⟩ := I.tuple hq
  refine assign_Tuple_tuple (I.ok.hd hc) ht (by simp [hn, ← hl, rv.length]) hst fun h' hx => ?_
  have I1 : Inv X pins σ H { s with heap := h' } := I.kept (t' := s.toks) fun b o e => hx b o (Nat.ne_of_lt (Heap.lt_size e)) e
  exact h pins _ σ H xs _ Q I1 (by simpa using rv) hw
def gSub (to ti : TE) (t : TSet) : TG := fun v σ H Q => to σ H fun o H1 => ti σ H1 fun i H2 => t o i v H2 fun H3 => Q σ H3
theorem pg_sub {o i : Expr} {to ti : TE} {t : TSet} (ho : PE X o to) (hi : PE X i ti) (hs : PSet X t)
    (ha : ∀ v, assign (.Subscript o i pos) X.env v = (do
      let ov ← holding [v] (eval o X.env)
      let iv ← holding [v, ov] (eval i X.env)
      standAt pos
      holding [v, ov, iv] (setItem ov iv v)
      release [v, ov, iv] []) := by intro _; rfl) : PG X (.Subscript o i pos) (gSub to ti t) := by
  intro pins s σ H v u Q I r h
  rw [ha]
  refine wpAny_bind (wpAny_holding (thn (ho pins s σ H _ I h) fun ov s1 ⟨x, H1, I1, r1, q1⟩ => ?_))
  refine wpAny_bind (wpAny_holding (thn (hi pins s1 σ H1 _ I1 q1) fun iv s2 ⟨y, H2, I2, r2, q2⟩ => ?_))
  refine wpAny_bind (wpAny_standAt (wpAny_bind (wpAny_holding (thn (hs pins s2 σ H2 x y v ov iv u _ I2 r1 r2 r q2) fun _ s3 ⟨H3, I3, q3⟩ => ?_))))
  exact wpAny_release ⟨σ, H3, I3, q3⟩
def tAsg (te : TE) (g : TG) : TS := fun D σ H => te σ H fun x H1 => g x σ H1 D.nx
theorem ps_asg {tg e : Expr} {te : TE} {g : TG} (he : PE X e te) (hg : PG X tg g) (hs : swapsWithSole [tg] e pos.line X.env = pure false := by rfl) (hw : swappedStores [tg] e X.env = pure none := by rfl)
    (h1 : (assignEach [tg] X.env).map (·.2) = [assign tg X.env] := by rfl) : PS X (.Assign [tg] e pos) (tAsg te g) := by
  intro pins s σ H D I h
  refine wpAny_Assign_stores (thn (he pins s σ H _ I h) fun v s1 ⟨x, H1, I1, r1, q1⟩ => ?_) hs hw
  rw [h1]
  exact thn (hg pins s1 σ H1 x v _ I1 r1 q1) fun _ s2 q => q
theorem ps_set {i : Nat} {x : Str} {e : Expr} {te : TE} {pos' : Pos} (hN : X.N.Nodup) (hi : X.N[i]? = some x) (hx : Loc X.env.scope x) (he : PE X e te) (hs : swapsWith e (some (.Name x pos')) pos.line X.env = pure false := by rfl) (hf : X.fn x = true ∨ X.env.scope.names.lookup x = some .local := by first | exact .inl rfl | exact .inr rfl | assumption) :
    PS X (.Assign [.Name x pos'] e pos) (tAsg te (gName i)) := by
  intro pins s σ H D I h
  refine wpAny_Assign_Name (thn (he pins s σ H _ I h) fun v s1 ⟨y, H1, I1, r1, q1⟩ => ?_) hs
  exact store_ok I1 hN hi hx r1 (fun s2 I2 => ⟨_, H1, I2, q1⟩) hf
end

section
variable {X : Cx} {pos : Pos}
end

structure It where
  go : Nat → Hp → Prop
  yld : Nat → Hp → V → Hp → Prop
  stop : Nat → Hp → Prop
def FpOk (X : Cx) (pins : List (Addr × Obj)) (H : Hp) (b : Addr) : Prop :=
  H b = none ∧ b ≠ X.env.locals ∧ b ∉ X.fs ∧ (b ∈ X.ex ∨ X.s₀.heap.objs.size ≤ b) ∧ (∀ x c, X.env.cells.lookup x = some c → c ≠ b) ∧ ∀ p ∈ X.pn ++ pins, p.1 ≠ b
theorem Inv.fpOk {X : Cx} {pins : List (Addr × Obj)} {σ : St} {H H' : Hp} {s : Shared} {b : Addr} (I : Inv X pins σ H s) (hb : s.heap.objs.size ≤ b) (hn : H' b = none) : FpOk X pins H' b := by
  refine ⟨hn, Nat.ne_of_gt (Nat.lt_of_lt_of_le I.lt hb), I.nofs hb, .inr (Nat.le_trans I.sz hb), fun x c e z => ?_, fun p hp z => ?_⟩
  · obtain ⟨v, q⟩ := I.cell x c e
    exact absurd (Nat.lt_of_lt_of_le q.lt (by rw [z]; exact hb)) (Nat.lt_irrefl _)
  · exact absurd (Nat.lt_of_lt_of_le (Heap.lt_size (I.pin p hp).1) (by rw [z]; exact hb)) (Nat.lt_irrefl _)
structure Turn (P : Program) (w : World) (K : PySem.W.Frag) (tg : Expr) (J : It) (fp : List Addr) (it : Addr) (tn : Nat → Heap → Prop) : Prop where
  mem : it ∈ fp
  obj : ∀ i h, tn i h → ∀ b ∈ fp, ∃ o, h.get? b = some o ∧ ∀ v, o.data ≠ .cell v
  keep : ∀ i h h', tn i h → (∀ b ∈ fp, ∀ o, h.get? b = some o → h'.get? b = some o) → tn i h'
  item : ∀ (X : Cx), X.prog = P → X.w = w → X.K = K → X.calm = true → ∀ (i : Nat) (pins : List (Addr × Obj)) (s : Shared) (σ : St) (H : Hp) (E : Value → Shared → Prop), Inv X pins σ H s → (∀ b ∈ fp, FpOk X pins H b) → tn i s.heap → J.go i H →
    wpAny (model P w) X.A (pyNext (.ref it)) (fun r s1 => ∃ u, r = some u ∧
      wpAny (model P w) X.A (letOwnedTupleGo tg (.ref it) u) (fun _ s2 => ∃ x H', Inv X pins σ H' s2 ∧ RelV x u ∧ J.yld i H x H' ∧ tn (i + 1) s2.heap ∧ ∀ b ∈ fp, H' b = none) E s1) E s
  done : ∀ (X : Cx), X.prog = P → X.w = w → X.K = K → X.calm = true → ∀ (i : Nat) (pins : List (Addr × Obj)) (s : Shared) (σ : St) (H : Hp) (E : Value → Shared → Prop), Inv X pins σ H s → (∀ b ∈ fp, FpOk X pins H b) → tn i s.heap → J.stop i H →
    wpAny (model P w) X.A (pyNext (.ref it)) (fun r s1 => r = none ∧ Inv X pins σ H s1) E s
  self : ∀ (A : Around) (i : Nat) (s : Shared) (Q : Value → Shared → Prop) (E : Value → Shared → Prop), tn i s.heap → Q (.ref it) s → wpAny (model P w) A (pyIter (.ref it)) Q E s
abbrev TI := St → Hp → (It → Hp → Prop) → Prop
def PIE (X : Cx) (pins : List (Addr × Obj)) (σ : St) (tg : Expr) (R : It → Hp → Prop) (itv : Value) (s2 : Shared) : Prop :=
  ∃ (it : Addr) (fp : List Addr) (tn : Nat → Heap → Prop) (J : It) (H' : Hp), itv = .ref it ∧ Inv X pins σ H' s2 ∧ Turn X.prog X.w X.K tg J fp it tn ∧ tn 0 s2.heap ∧ (∀ b ∈ fp, FpOk X pins H' b) ∧ R J H'
def PI (X : Cx) (tg iter : Expr) (wi : TI) : Prop :=
  ∀ (pins : List (Addr × Obj)) (s : Shared) (σ : St) (H : Hp) (R : It → Hp → Prop), Inv X pins σ H s → wi σ H R →
    wpAny (model X.prog X.w) X.A (eval iter X.env) (fun v s1 => wpAny (model X.prog X.w) X.A (pyIter v) (PIE X pins σ tg R) X.xe s1) X.xe s

theorem go_of {M : Model} {A : Around} {E : Value → Shared → Prop} {s : Shared} {tg : Expr} {it : Addr} {u : Value} {o : Obj} {n : String} {vs : Array Value} {Q : Unit → Shared → Prop} (ho : s.heap.get? it = some o) (hc : o.cls = .type n) (hd : o.data = .fields vs)
    (hn : ["enumerate", "zip", "dict_itemiterator", "dict_reverseitemiterator", "odict_iterator", "itertools.zip_longest", "itertools.pairwise"].contains n = false) (hQ : Q () s) : wpAny M A (letOwnedTupleGo tg (.ref it) u) Q E s := by
  unfold letOwnedTupleGo
  cases tg <;> first
    | exact wpAny_pure hQ
    | (cases u <;> first
        | exact wpAny_pure hQ
        | (refine wpAny_bind (wpAny_load ho ?_)
           rw [hc, hd]
           show wpAny M A (if (["enumerate", "zip", "dict_itemiterator", "dict_reverseitemiterator", "odict_iterator", "itertools.zip_longest", "itertools.pairwise"].contains n && vs[0]? == some (rawInt _)) = true then _ else _) Q E s
           rw [if_neg (by intro h; rw [hn, Bool.false_and] at h; cases h)]
           exact wpAny_pure hQ))

def Itl (K : PySem.W.Frag) (a : Addr) : It :=
  ⟨fun i H => ∃ xs x, SqL K H a xs ∧ xs[i]? = some x, fun i H x H' => H' = H ∧ ∀ xs, SqL K H a xs → xs[i]? = some x, fun i H => ∃ xs, SqL K H a xs ∧ xs.length ≤ i⟩
def Itr (lo : Int) (n : Nat) : It := ⟨fun i _ => i < n, fun i H x H' => H' = H ∧ x = .int (lo + i), fun i _ => n ≤ i⟩
theorem turn_list {P : Program} {w : World} {K : PySem.W.Frag} {tg : Expr} (a it : Addr) : Turn P w K tg (Itl K a) [it] it (fun i h => h.IsListIter it a i) where
  mem := by simp
  obj := fun i h st b hb => by
    have e : b = it := by simpa using hb
    subst e
    obtain ⟨o, e, c, d⟩ := st
    exact ⟨o, e, fun v z => by rw [d] at z; cases z⟩
  keep := fun i h h' st k => st.at fun o e => k it (by simp) o e
  item := by
    intro X hP hw hK hc i pins s σ H E I hf st hg
    subst hP hw hK
    obtain ⟨xs, x, hq, hx⟩ := hg
    obtain ⟨its, rv, p, hz⟩ := I.list hq
    obtain ⟨u, hu, ru⟩ := rv.get hx
    obtain ⟨f0, f1, f2, f3, f4, f5⟩ := hf it (by simp)
    refine wpAny_pyNext_list_item st p.isList (x := u) (by simpa using hu) fun h' st' sb => ?_
    have I1 : Inv X pins σ H { s with heap := h' } := I.turned (t' := s.toks) (fun b o hb e => (sb.2 b hb).trans e) f0 f1 f3 f4 f5
    obtain ⟨o, e, c, d⟩ := id st'
    exact ⟨u, rfl, go_of (s := { s with heap := h' }) e c d (by decide) ⟨x, H, I1, ru, ⟨rfl, fun ys hy => by rw [I.list_inj hy hq]; exact hx⟩, st', fun b hb => (hf b hb).1⟩⟩
  done := by
    intro X hP hw hK hc i pins s σ H E I hf st hg
    subst hP hw hK
    obtain ⟨xs, hq, hx⟩ := hg
    obtain ⟨its, rv, p, hz⟩ := I.list hq
    obtain ⟨f0, f1, f2, f3, f4, f5⟩ := hf it (by simp)
    have hl := rv.length
    exact wpAny_pyNext_list_end (I.ok.hd hc) st p.isList (by simp; omega) fun h' eb => ⟨rfl, I.turned (t' := s.toks) (fun b o hb e => eb b o hb e) f0 f1 f3 f4 f5⟩
  self := fun _ _ _ _ _ st h => wpAny_pyIter_listiter st h
theorem turn_range {P : Program} {w : World} {K : PySem.W.Frag} {tg : Expr} (it : Addr) (lo : Int) (n : Nat) : Turn P w K tg (Itr lo n) [it] it (fun i h => IsRangeIter h it (lo + (i : Nat) * 1) ((n : Int) - (i : Nat)) 1) where
  mem := by simp
  obj := fun i h st b hb => by
    have e : b = it := by simpa using hb
    subst e
    exact ⟨_, st, fun v z => by
      have z' : Data.fields _ = Data.cell v := z
      cases z'⟩
  keep := fun i h h' st k => k it (by simp) _ st
  item := by
    intro X hP hw hK hc i pins s σ H E I hf st hg
    subst hP hw hK
    obtain ⟨f0, f1, f2, f3, f4, f5⟩ := hf it (by simp)
    have W := Walks.range (prog := X.prog) (w := X.w) (I.ok.hd hc) it lo 1 n
    refine W.item i s _ _ hg st fun v h' tk hv st' kk => ?_
    obtain ⟨t, rfl⟩ := hv
    have I1 : Inv X pins σ H { s with heap := h', toks := tk } := I.turned (fun b o hb e => kk b o (by simpa using hb) e) f0 f1 f3 f4 f5
    refine ⟨_, rfl, go_of (s := { s with heap := h', toks := tk }) (n := "range_iterator") st' rfl rfl (by decide) ⟨.int (lo + i), H, I1, ⟨t, ?_⟩, ⟨rfl, rfl⟩, st', fun b hb => (hf b hb).1⟩⟩
    rw [Int.mul_one]
  done := by
    intro X hP hw hK hc i pins s σ H E I hf st hg
    subst hP hw hK
    obtain ⟨f0, f1, f2, f3, f4, f5⟩ := hf it (by simp)
    exact wpAny_pyNext_range_end (I.ok.hd hc) st (by have : n ≤ i := hg; omega) fun h' eb => ⟨rfl, I.turned (t' := s.toks) (fun b o hb e => eb b o hb e) f0 f1 f3 f4 f5⟩
  self := fun _ _ _ _ _ st h => wpAny_pyIter_rangeiter st h
end L2

namespace L2
open PySem PySem.Spec PyProof.Rows
section
variable {X : Cx} {tg : Expr}
def iList (K : PySem.W.Frag) (tl : TE) : TI := fun σ H R => tl σ H fun x H1 => ∃ a, x = .ref a ∧ (∃ xs, SqL K H1 a xs) ∧ R (Itl K a) H1
theorem pi_list {l : Expr} {tl : TE} (hl : PE X l tl) : PI X tg l (iList X.K tl) := by
  intro pins s σ H R I h
  refine thn (hl pins s σ H _ I h) fun v s1 ⟨x, H1, I1, r1, q1⟩ => ?_
  obtain ⟨a, e, ⟨xs, hq⟩, q⟩ := q1
  subst e
  cases r1
  obtain ⟨its, rv, p, hz⟩ := I1.list hq
  refine wpAny_pyIter_list p.isList ?_
  refine ⟨s1.heap.objs.size, [s1.heap.objs.size], _, _, H1, rfl, I1.kept (t' := s1.toks) fun b o e => Heap.get?_push_of_some _ e, turn_list a _, ⟨_, Heap.get?_push_size _ rfl, rfl, rfl⟩, fun b hb => ?_, q⟩
  have e : b = s1.heap.objs.size := by simpa using hb
  subst e
  exact I1.fpOk (Nat.le_refl _) (I1.hok.fresh (Nat.le_refl _))
theorem range_it {pins : List (Addr × Obj)} {σ : St} {H : Hp} {s : Shared} {R : It → Hp → Prop} {E : Value → Shared → Prop} {lo hi : Int} {t u v : Tok} {tk : Nat} (I : Inv X pins σ H s) (h1 : -(2 ^ 62) ≤ lo) (h2 : lo < 2 ^ 62) (h3 : -(2 ^ 62) ≤ hi) (h4 : hi < 2 ^ 62)
    (q : R (Itr lo (hi - lo).toNat) H) : wpAny (model X.prog X.w) X.A (pyIter (.ref s.heap.objs.size)) (PIE X pins σ tg R) E { s with heap := s.heap.push { cls := .type "range", data := .fields #[.int lo t, .int hi u, .int 1 v] }, toks := tk } := by
  refine wpAny_pyIter_range (IsRange.new ..) (small_one h1 h2 h3 h4) ?_
  have I1 : Inv X pins σ H { s with heap := s.heap.push { cls := .type "range", data := .fields #[.int lo t, .int hi u, .int 1 v] }, toks := tk } := I.kept fun b o e => Heap.get?_push_of_some _ e
  refine ⟨(s.heap.push { cls := .type "range", data := .fields #[.int lo t, .int hi u, .int 1 v] }).objs.size, [(s.heap.push { cls := .type "range", data := .fields #[.int lo t, .int hi u, .int 1 v] }).objs.size], _, _, H, rfl,
    I1.kept (t' := tk) fun b o e => Heap.get?_push_of_some _ e, turn_range _ lo (hi - lo).toNat, ?_, fun b hb => ?_, q⟩
  · have e1 : lo + ((0 : Nat) : Int) * 1 = lo := by simp
    have e2 : (((hi - lo).toNat : Nat) : Int) - ((0 : Nat) : Int) = Builtin.Range.rangeSize lo hi 1 := by rw [rangeSize_one]; split <;> omega
    show IsRangeIter _ _ (lo + ((0 : Nat) : Int) * 1) ((((hi - lo).toNat : Nat) : Int) - ((0 : Nat) : Int)) 1
    rw [e1, e2]
    exact Heap.get?_push_size _ rfl
  · have e : b = (s.heap.push { cls := .type "range", data := .fields #[.int lo t, .int hi u, .int 1 v] }).objs.size := by simpa using hb
    subst e
    exact I1.fpOk (Nat.le_refl _) (I1.hok.fresh (Nat.le_refl _))
def iRng1 (ta : TA) : TI := fun σ H R => ta σ H fun vs H1 => ∃ j : Int, vs = [.int j] ∧ -(2 ^ 62) ≤ j ∧ j < 2 ^ 62 ∧ R (Itr 0 j.toNat) H1
def iRng2 (ta : TA) : TI := fun σ H R => ta σ H fun vs H1 => ∃ i j : Int, vs = [.int i, .int j] ∧ (-(2 ^ 62) ≤ i ∧ i < 2 ^ 62 ∧ -(2 ^ 62) ≤ j ∧ j < 2 ^ 62) ∧ R (Itr i (j - i).toNat) H1
theorem pi_range1 {a : Expr} {ta : TA} {p pos : Pos} (hg : Gl X "range") (hm : X.mg "range" = none) (ha : PA X [a] ta) (hs : starEach [a] X.env = [(false, eval a X.env)] := by rfl) : PI X tg (.Call (.Name "range" p) [a] [] pos) (iRng1 ta) := by
  intro pins s σ H R I h
  refine Call_ (ld_blt I hg hm boot_range (PyProof.Rows.callWith_type1 (thn (ha pos pins s σ H _ I h) fun us s1 ⟨vs, H1, I1, r1, q1⟩ => ?_) hs rfl))
  obtain ⟨j, e, q1, q2, q⟩ := q1
  subst e
  cases r1 with
  | cons r rr =>
    cases rr
    obtain ⟨t, rfl⟩ := r
    exact call_range_1 (range_it I1 (by omega) (by omega) q1 q2 (by simpa using q))
theorem pi_range2 {a b : Expr} {ta : TA} {p pos : Pos} (hg : Gl X "range") (hm : X.mg "range" = none) (ha : PA X [a, b] ta) (hs : starEach [a, b] X.env = [(false, eval a X.env), (false, eval b X.env)] := by rfl) (hs2 : starEach [b] X.env = [(false, eval b X.env)] := by rfl) :
    PI X tg (.Call (.Name "range" p) [a, b] [] pos) (iRng2 ta) := by
  intro pins s σ H R I h
  refine Call_ (ld_blt I hg hm boot_range (PyProof.Rows.callWith_type1 (thn (ha pos pins s σ H _ I h) fun us s1 ⟨vs, H1, I1, r1, q1⟩ => ?_) (by rw [hs, hs2]) (by rw [hs2]; rfl)))
  obtain ⟨i, j, e, ⟨q1, q2, q3, q4⟩, q⟩ := q1
  subst e
  cases r1 with
  | cons r rr =>
    cases rr with
    | cons r' rr =>
      cases rr
      obtain ⟨t, rfl⟩ := r
      obtain ⟨t', rfl⟩ := r'
      exact call_range_2 (range_it I1 q1 q2 q3 q4 q)

def tFor (wi : TI) (g : TG) (tb : TS) : TS := fun D σ H => wi σ H fun J H1 => ∃ W : Nat → Nat → St → Hp → Prop, (∃ m, W 0 m σ H1) ∧ ∀ i m σ H, W i m σ H →
  (J.stop i H ∧ D.nx σ H) ∨ (J.go i H ∧ ∃ N : St → Hp → Prop, (∀ σ' H', N σ' H' → ∃ m', m' < m ∧ W (i + 1) m' σ' H') ∧ ∀ x H', J.yld i H x H' → g x σ H' fun σ2 H2 => tb { D with nx := N, ct := N, bk := D.nx } σ2 H2)
def pinsAt (fp : List Addr) (h : Heap) : List (Addr × Obj) := fp.filterMap fun b => (h.get? b).map fun o => (b, o)
theorem mem_pinsAt {fp : List Addr} {h : Heap} {b : Addr} {o : Obj} (hb : b ∈ fp) (e : h.get? b = some o) : (b, o) ∈ pinsAt fp h := List.mem_filterMap.mpr ⟨b, hb, by rw [e]; rfl⟩
theorem of_pinsAt {fp : List Addr} {h : Heap} {p : Addr × Obj} (hp : p ∈ pinsAt fp h) : p.1 ∈ fp ∧ h.get? p.1 = some p.2 := by
  obtain ⟨b, hb, e⟩ := List.mem_filterMap.mp hp
  cases q : h.get? b with
  | none => rw [q] at e; cases e
  | some o =>
    rw [q] at e
    have e' : (b, o) = p := Option.some.inj e
    subst e'
    exact ⟨hb, q⟩
theorem Inv.pinned {pins : List (Addr × Obj)} {σ : St} {H : Hp} {s : Shared} {fp : List Addr} (I : Inv X pins σ H s) (hf : ∀ b ∈ fp, FpOk X pins H b) (ho : ∀ b ∈ fp, ∃ o, s.heap.get? b = some o ∧ ∀ v, o.data ≠ .cell v) : Inv X (pins ++ pinsAt fp s.heap) σ H s :=
  I.pins_of fun p hp => (List.mem_append.mp hp).elim (fun z => I.pin p (List.mem_append_right _ z)) fun z => by
    obtain ⟨hb, e⟩ := of_pinsAt z
    obtain ⟨f0, f1, f2, _⟩ := hf p.1 hb
    obtain ⟨o, e', d⟩ := ho p.1 hb
    rw [e] at e'; cases e'
    exact ⟨e, f0, f1, f2, d⟩
theorem Inv.unpinned {pins pl : List (Addr × Obj)} {σ : St} {H : Hp} {s : Shared} (I : Inv X (pins ++ pl) σ H s) : Inv X pins σ H s := I.pins_of fun p hp => I.pin p (List.mem_append_right _ (List.mem_append_left _ hp))
theorem ps_for {iter : Expr} {body : List Stmt} {wi : TI} {g : TG} {tb : TS} {pos : Pos} (hp : PassesOwn (model X.prog X.w) X.A X.env X.xe) (hc : X.calm = true) (hi : PI X tg iter wi) (hg : PG X tg g) (hb : PSs X body tb)
    (hs : ∀ x, foldedSetIterable iter X.env x = pure x := by intro _; rfl) : PS X (.For tg iter body [] pos) (tFor wi g tb) := by
  intro pins s σ H D I h
  refine wpAny_For (thn (hi pins s σ H _ I h) fun v s1 h1 => thn h1 fun itv s2 h2 => ?_) hs
  obtain ⟨it, fp, tn, J, H2, e, I2, T, st2, f2, W, ⟨m0, w0⟩, turn⟩ := h2
  subst e
  -- what stays true of the iterator's objects through the loop
  have stat : ∀ {H' : Hp}, (∀ b ∈ fp, H' b = none) → ∀ b ∈ fp, FpOk X pins H' b := fun hn b hb => ⟨hn b hb, (f2 b hb).2⟩
  refine codeAny_forLoop_any (fun n s' => ∃ i σ' H', Inv X pins σ' H' s' ∧ tn i s'.heap ∧ (∀ b ∈ fp, H' b = none) ∧ W i n σ' H') ?_ m0 ⟨0, σ, H2, I2, st2, fun b hb => (f2 b hb).1, w0⟩
  rintro n s3 ⟨i, σ3, H3, I3, st3, fr3, w3⟩
  rcases turn i n σ3 H3 w3 with ⟨stop, qn⟩ | ⟨go, N, hN, step⟩
  · refine wpAny_passesOwn hp (thn (T.done X rfl rfl rfl hc i pins s3 σ3 H3 X.xe I3 (stat fr3) st3 stop) fun r s4 ⟨hr, I4⟩ => ?_)
    subst hr
    exact wpAny_execs_nil ⟨σ3, H3, I4, qn⟩
  · refine wpAny_passesOwn hp (thn (T.item X rfl rfl rfl hc i pins s3 σ3 H3 X.xe I3 (stat fr3) st3 go) fun r s4 ⟨u, hr, h4⟩ => ?_)
    subst hr
    refine wpAny_passesOwn hp (thn h4 fun _ s5 ⟨x, H5, I5, r5, y5, st5, fr5⟩ => ?_)
    have I5' := I5.pinned (stat fr5) (T.obj _ _ st5)
    refine wpAny_passesOwn hp (thn (hg _ s5 σ3 H5 x u _ I5' r5 (step x H5 y5)) fun _ s6 ⟨σ6, H6, I6, q6⟩ => ?_)
    refine wpAny_passesOwn hp (thn (hb _ s6 σ6 H6 _ I6 q6) fun f s7 q7 => ?_)
    have again : ∀ {σ7 : St} {H7 : Hp}, Inv X (pins ++ pinsAt fp s5.heap) σ7 H7 s7 → N σ7 H7 → ∃ m, m < n ∧ ∃ i σ' H', Inv X pins σ' H' s7 ∧ tn i s7.heap ∧ (∀ b ∈ fp, H' b = none) ∧ W i m σ' H' := fun {σ7 H7} I7 n7 => by
      obtain ⟨m', hm, w7⟩ := hN σ7 H7 n7
      refine ⟨m', hm, i + 1, σ7, H7, I7.unpinned, T.keep _ _ _ st5 fun b hb o e => (I7.pin (b, o) (List.mem_append_right _ (List.mem_append_right _ (mem_pinsAt hb e)))).1, fun b hb => ?_, w7⟩
      obtain ⟨o, e, d⟩ := T.obj _ _ st5 b hb
      exact (I7.pin (b, o) (List.mem_append_right _ (List.mem_append_right _ (mem_pinsAt hb e)))).2.1
    cases f with
    | next => obtain ⟨σ7, H7, I7, n7⟩ := q7; exact again I7 n7
    | cont => obtain ⟨σ7, H7, I7, n7⟩ := q7; exact again I7 n7
    | brk => obtain ⟨σ7, H7, I7, q7⟩ := q7; exact ⟨σ7, H7, I7.unpinned, q7⟩
    | ret v => obtain ⟨x7, σ7, H7, I7, r7, q7⟩ := q7; exact ⟨x7, σ7, H7, I7.unpinned, r7, q7⟩
end

theorem for_list {K : PySem.W.Frag} {a : Addr} {xs : List V} {g : TG} {tb : TS} {D : Ends} {σ : St} {H : Hp} (Pv : Nat → St → Hp → Prop) (h0 : Pv 0 σ H) (hl : ∀ i σ H, i ≤ xs.length → Pv i σ H → SqL K H a xs)
    (hs : ∀ i x σ H, xs[i]? = some x → Pv i σ H → g x σ H fun σ2 H2 => tb { D with nx := Pv (i + 1), ct := Pv (i + 1), bk := D.nx } σ2 H2) (hd : ∀ σ H, Pv xs.length σ H → D.nx σ H) :
    ∃ W : Nat → Nat → St → Hp → Prop, (∃ m, W 0 m σ H) ∧ ∀ i m σ H, W i m σ H →
      ((Itl K a).stop i H ∧ D.nx σ H) ∨ ((Itl K a).go i H ∧ ∃ N : St → Hp → Prop, (∀ σ' H', N σ' H' → ∃ m', m' < m ∧ W (i + 1) m' σ' H') ∧ ∀ x H', (Itl K a).yld i H x H' → g x σ H' fun σ2 H2 => tb { D with nx := N, ct := N, bk := D.nx } σ2 H2) := by
  refine ⟨fun i m σ H => m = xs.length - i ∧ i ≤ xs.length ∧ Pv i σ H, ⟨xs.length, by simp, Nat.zero_le _, h0⟩, ?_⟩
  rintro i m σ H ⟨rfl, hi, p⟩
  have q := hl i σ H hi p
  by_cases hlt : i < xs.length
  · refine .inr ⟨⟨xs, xs[i], q, by simp [hlt]⟩, Pv (i + 1), fun σ' H' p' => ⟨xs.length - (i + 1), by omega, rfl, hlt, p'⟩, fun x H' y => ?_⟩
    obtain ⟨e, y⟩ := y
    subst e
    exact hs i x σ _ (y xs q) p
  · have e : i = xs.length := by omega
    subst e
    exact .inl ⟨⟨xs, q, Nat.le_refl _⟩, hd σ H p⟩
theorem for_range {lo : Int} {n : Nat} {g : TG} {tb : TS} {D : Ends} {σ : St} {H : Hp} (Pv : Nat → St → Hp → Prop) (h0 : Pv 0 σ H)
    (hs : ∀ i σ H, i < n → Pv i σ H → g (.int (lo + i)) σ H fun σ2 H2 => tb { D with nx := Pv (i + 1), ct := Pv (i + 1), bk := D.nx } σ2 H2) (hd : ∀ σ H, Pv n σ H → D.nx σ H) :
    ∃ W : Nat → Nat → St → Hp → Prop, (∃ m, W 0 m σ H) ∧ ∀ i m σ H, W i m σ H →
      ((Itr lo n).stop i H ∧ D.nx σ H) ∨ ((Itr lo n).go i H ∧ ∃ N : St → Hp → Prop, (∀ σ' H', N σ' H' → ∃ m', m' < m ∧ W (i + 1) m' σ' H') ∧ ∀ x H', (Itr lo n).yld i H x H' → g x σ H' fun σ2 H2 => tb { D with nx := N, ct := N, bk := D.nx } σ2 H2) := by
  refine ⟨fun i m σ H => m = n - i ∧ i ≤ n ∧ Pv i σ H, ⟨n, by simp, Nat.zero_le _, h0⟩, ?_⟩
  rintro i m σ H ⟨rfl, hi, p⟩
  by_cases hlt : i < n
  · refine .inr ⟨hlt, Pv (i + 1), fun σ' H' p' => ⟨n - (i + 1), by omega, rfl, hlt, p'⟩, fun x H' y => ?_⟩
    obtain ⟨e, y⟩ := y
    subst e y
    exact hs i σ _ hlt p
  · have e : i = n := by omega
    subst e
    exact .inl ⟨Nat.le_refl _, hd σ H p⟩
end L2

namespace L2
open PySem PySem.Spec PyProof.Rows

abbrev R2 := V → V → Hp → VK → Prop
def OpR (X : Cx) (f : Value → Value → Sem Value) (r : R2) : Prop :=
  ∀ (pins : List (Addr × Obj)) (s : Shared) (σ : St) (H : Hp) (x y : V) (v u : Value) (Q : VK), Inv X pins σ H s → RelV x v → RelV y u → r x y H Q →
    wpAny (model X.prog X.w) X.A (f v u) (EP X pins σ Q) X.xe s
def CallR (X : Cx) (f : Value) (r : List V → Hp → VK → Prop) : Prop :=
  ∀ (pins : List (Addr × Obj)) (s : Shared) (σ : St) (H : Hp) (xs : List V) (us : List Value) (Q : VK), Inv X pins σ H s → Vals xs us → r xs H Q →
    wpAny (model X.prog X.w) X.A (call f us) (EP X pins σ Q) X.xe s
def tOp (r : R2) (ta tb : TE) : TE := fun σ H Q => ta σ H fun x H1 => tb σ H1 fun y H2 => r x y H2 Q
def rI (C : Int → Int → Prop) (g : Int → Int → V) : R2 := fun x y H Q => ∃ i j, x = .int i ∧ y = .int j ∧ C i j ∧ Q (g i j) H
def rI0 (g : Int → Int → V) : R2 := fun x y H Q => ∃ i j, x = .int i ∧ y = .int j ∧ Q (g i j) H
section
variable {X : Cx} {a b c : Expr} {ta tb tc : TE} {pos : Pos}

theorem binT (ha : PE X a ta) (hb : PE X b tb) {pins : List (Addr × Obj)} {s : Shared} {σ : St} {H : Hp} {R : V → V → Hp → Prop} (I : Inv X pins σ H s)
    (h : ta σ H fun x H1 => tb σ H1 fun y H2 => R x y H2) {Q : Value → Shared → Prop} {f : Value → Value → Sem Value}
    (hf : ∀ v u s2 x y H2, Inv X pins σ H2 s2 → RelV x v → RelV y u → R x y H2 → wpAny (model X.prog X.w) X.A (f v u) Q X.xe s2) :
    wpAny (model X.prog X.w) X.A (eval a X.env) (fun v s₁ => wpAny (model X.prog X.w) X.A (eval b X.env) (fun u s₂ => wpAny (model X.prog X.w) X.A (f v u) Q X.xe s₂) X.xe s₁) X.xe s := by
  refine thn (ha pins s σ H _ I h) fun v s1 ⟨x, H1, I1, r1, q1⟩ => ?_
  refine thn (hb pins s1 σ H1 _ I1 q1) fun u s2 ⟨y, H2, I2, r2, q2⟩ => ?_
  exact hf v u s2 x y H2 I2 r1 r2 q2

theorem pe_op {op : Operator} {r : R2} (ho : OpR X (binaryOp op) r) (ha : PE X a ta) (hb : PE X b tb) : PE X (.BinOp a op b pos) (tOp r ta tb) := by
  intro pins s σ H Q I h
  exact wpAny_BinOp (binT ha hb I h fun v u s2 x y H2 I2 rx ry q => ho pins s2 σ H2 x y v u Q I2 rx ry q)
theorem opI {f : Value → Value → Sem Value} {C : Int → Int → Prop} {g : Int → Int → Int}
    (rule : ∀ (i j : Int) (t u : Tok) (s : Shared) (Q : Value → Shared → Prop) (E : Value → Shared → Prop), C i j → Q (.int (g i j) s.toks) { s with toks := s.toks + 1 } → wpAny (model X.prog X.w) X.A (f (.int i t) (.int j u)) Q E s) :
    OpR X f (rI C fun i j => .int (g i j)) := by
  intro pins s σ H x y v u Q I rx ry h
  obtain ⟨i, j, rfl, rfl, hc, q⟩ := h
  obtain ⟨t, rfl⟩ := rx
  obtain ⟨t', rfl⟩ := ry
  exact rule i j t t' s _ _ hc ⟨.int (g i j), H, I.tok _, ⟨_, rfl⟩, q⟩
theorem opI0 {f : Value → Value → Sem Value} {g : Int → Int → Int}
    (rule : ∀ (i j : Int) (t u : Tok) (s : Shared) (Q : Value → Shared → Prop) (E : Value → Shared → Prop), Q (.int (g i j) s.toks) { s with toks := s.toks + 1 } → wpAny (model X.prog X.w) X.A (f (.int i t) (.int j u)) Q E s) :
    OpR X f (rI0 fun i j => .int (g i j)) := by
  intro pins s σ H x y v u Q I rx ry h
  obtain ⟨i, j, rfl, rfl, q⟩ := h
  obtain ⟨t, rfl⟩ := rx
  obtain ⟨t', rfl⟩ := ry
  exact rule i j t t' s _ _ ⟨.int (g i j), H, I.tok _, ⟨_, rfl⟩, q⟩
theorem opB0 {f : Value → Value → Sem Value} {g : Int → Int → Bool}
    (rule : ∀ (i j : Int) (t u : Tok) (s : Shared) (Q : Value → Shared → Prop) (E : Value → Shared → Prop), Q (.bool (g i j)) s → wpAny (model X.prog X.w) X.A (f (.int i t) (.int j u)) Q E s) :
    OpR X f (rI0 fun i j => .bl (g i j)) := by
  intro pins s σ H x y v u Q I rx ry h
  obtain ⟨i, j, rfl, rfl, q⟩ := h
  obtain ⟨t, rfl⟩ := rx
  obtain ⟨t', rfl⟩ := ry
  exact rule i j t t' s _ _ ⟨.bl (g i j), H, I, rfl, q⟩

def CPow (i j : Int) : Prop := 0 ≤ j ∧ j ≤ 1000000 ∧ i.natAbs < 2 ^ 64
theorem op_add : OpR X (binaryOp .Add) (rI0 fun i j => .int (i + j)) := opI0 fun _ _ _ _ _ _ _ q => add_int q
theorem op_sub : OpR X (binaryOp .Sub) (rI0 fun i j => .int (i - j)) := opI0 fun _ _ _ _ _ _ _ q => sub_int q
theorem op_mod : OpR X (binaryOp .Mod) (rI (fun _ j => 0 < j) fun i j => .int (i % j)) := opI fun i j _ _ _ _ _ hc q => by
  have h1 : (0 : Int) < j := hc
  exact mod_int' (by omega) (by rw [Int.fmod_eq_emod_of_nonneg i (by omega)]; exact q)
theorem op_pow : OpR X (binaryOp .Pow) (rI CPow fun i j => .int (i ^ j.toNat)) := opI fun _ _ _ _ _ _ _ hc q => pow_int_small hc.1 hc.2.1 hc.2.2 q
end

def scal : V → V → Bool
  | .non, .non => true | .non, .int _ => true | .int _, .non => true | .non, .bl _ => true | .bl _, .non => true | .non, .str _ => true | .str _, .non => true
  | .int _, .int _ => true | .bl _, .bl _ => true | .str _, .str _ => true | .byt _, .byt _ => true
  | .int _, .str _ => true | .str _, .int _ => true | .bl _, .str _ => true | .str _, .bl _ => true
  | _, _ => false
def rEq : R2 := fun x y H Q => scal x y = true ∧ Q (.bl (decide (x = y))) H
def rNe : R2 := fun x y H Q => scal x y = true ∧ Q (.bl (!decide (x = y))) H

theorem dec_int {i j : Int} : decide (V.int i = V.int j) = (i == j) := by
  rw [Bool.eq_iff_iff]
  simp
theorem dec_bl {i j : Bool} : decide (V.bl i = V.bl j) = (i == j) := by
  rw [Bool.eq_iff_iff]
  simp
theorem dec_str {i j : Str} : decide (V.str i = V.str j) = (i == j) := by
  rw [Bool.eq_iff_iff]
  simp
theorem dec_byt {i j : Array UInt8} : decide (V.byt i = V.byt j) = (i.toList == j.toList) := by
  rw [Bool.eq_iff_iff]
  cases i
  cases j
  simp

section
variable {X : Cx} {a b c : Expr} {ta tb tc : TE} {pos : Pos}
theorem fin_bl {pins : List (Addr × Obj)} {σ : St} {H : Hp} {s : Shared} {Q : VK} {k k' : Bool} (I : Inv X pins σ H s) (q : Q (.bl k) H) (e : k = k') : EP X pins σ Q (.bool k') s := by
  subst e
  exact ⟨.bl k, H, I, rfl, q⟩
theorem op_eq : OpR X (compareOp .Eq) rEq := by
  intro pins s σ H x y v u Q I rx ry h
  obtain ⟨hs, q⟩ := h
  cases x with
  | non =>
    cases rx
    cases y with
    | non => cases ry; exact PySem.EqNone.eq_none_none (fin_bl I q (by simp))
    | bl j => cases ry; exact PySem.EqNone.eq_none_bool (fin_bl I q (by simp))
    | int j => obtain ⟨t', rfl⟩ := ry; exact PySem.EqNone.eq_none_int (fin_bl I q (by simp))
    | str j => obtain ⟨t', rfl⟩ := ry; exact PySem.EqNone.eq_none_str (fin_bl I q (by simp))
    | _ => exact absurd (show false = true from hs) Bool.false_ne_true
  | bl i =>
    cases rx
    cases y with
    | non => cases ry; exact PySem.EqNone.eq_bool_none (fin_bl I q (by simp))
    | bl j => cases ry; exact eq_bool (fin_bl I q dec_bl)
    | str j => obtain ⟨t', rfl⟩ := ry; exact PySem.EqMixed.eq_bool_str (fin_bl I q (by simp))
    | _ => exact absurd (show false = true from hs) Bool.false_ne_true
  | int i =>
    obtain ⟨t, rfl⟩ := rx
    cases y with
    | non => cases ry; exact PySem.EqNone.eq_int_none (fin_bl I q (by simp))
    | int j => obtain ⟨t', rfl⟩ := ry; exact eq_int (fin_bl I q dec_int)
    | str j => obtain ⟨t', rfl⟩ := ry; exact PySem.EqMixed.eq_int_str (fin_bl I q (by simp))
    | _ => exact absurd (show false = true from hs) Bool.false_ne_true
  | str i =>
    obtain ⟨t, rfl⟩ := rx
    cases y with
    | non => cases ry; exact PySem.EqNone.eq_str_none (fin_bl I q (by simp))
    | bl j => cases ry; exact PySem.EqMixed.eq_str_bool (fin_bl I q (by simp))
    | int j => obtain ⟨t', rfl⟩ := ry; exact PySem.EqMixed.eq_str_int (fin_bl I q (by simp))
    | str j => obtain ⟨t', rfl⟩ := ry; exact eq_str (fin_bl I q dec_str)
    | _ => exact absurd (show false = true from hs) Bool.false_ne_true
  | byt i =>
    obtain ⟨t, rfl⟩ := rx
    cases y with
    | byt j => obtain ⟨t', rfl⟩ := ry; exact PySem.W.eq_bytes (fin_bl I q dec_byt)
    | _ => exact absurd (show false = true from hs) Bool.false_ne_true
  | _ => cases y <;> exact absurd (show false = true from hs) Bool.false_ne_true
theorem op_ne : OpR X (compareOp .NotEq) rNe := by
  intro pins s σ H x y v u Q I rx ry h
  obtain ⟨hs, q⟩ := h
  cases x with
  | non =>
    cases rx
    cases y with
    | non => cases ry; exact PySem.EqNone.ne_none_none (fin_bl I q (by simp))
    | bl j => cases ry; exact PySem.EqNone.ne_none_bool (fin_bl I q (by simp))
    | int j => obtain ⟨t', rfl⟩ := ry; exact PySem.EqNone.ne_none_int (fin_bl I q (by simp))
    | str j => obtain ⟨t', rfl⟩ := ry; exact PySem.EqNone.ne_none_str (fin_bl I q (by simp))
    | _ => exact absurd (show false = true from hs) Bool.false_ne_true
  | bl i =>
    cases rx
    cases y with
    | non => cases ry; exact PySem.EqNone.ne_bool_none (fin_bl I q (by simp))
    | bl j => cases ry; exact ne_bool (fin_bl I q (congrArg not dec_bl))
    | str j => obtain ⟨t', rfl⟩ := ry; exact PySem.EqMixed.ne_bool_str (fin_bl I q (by simp))
    | _ => exact absurd (show false = true from hs) Bool.false_ne_true
  | int i =>
    obtain ⟨t, rfl⟩ := rx
    cases y with
    | non => cases ry; exact PySem.EqNone.ne_int_none (fin_bl I q (by simp))
    | int j => obtain ⟨t', rfl⟩ := ry; exact ne_int (fin_bl I q (congrArg not dec_int))
    | str j => obtain ⟨t', rfl⟩ := ry; exact PySem.EqMixed.ne_int_str (fin_bl I q (by simp))
    | _ => exact absurd (show false = true from hs) Bool.false_ne_true
  | str i =>
    obtain ⟨t, rfl⟩ := rx
    cases y with
    | non => cases ry; exact PySem.EqNone.ne_str_none (fin_bl I q (by simp))
    | bl j => cases ry; exact PySem.EqMixed.ne_str_bool (fin_bl I q (by simp))
    | int j => obtain ⟨t', rfl⟩ := ry; exact PySem.EqMixed.ne_str_int (fin_bl I q (by simp))
    | str j => obtain ⟨t', rfl⟩ := ry; exact ne_str (fin_bl I q (congrArg not dec_str))
    | _ => exact absurd (show false = true from hs) Bool.false_ne_true
  | byt i =>
    obtain ⟨t, rfl⟩ := rx
    cases y with
    | byt j => obtain ⟨t', rfl⟩ := ry; exact PySem.W.ne_bytes (fin_bl I q (congrArg not dec_byt))
    | _ => exact absurd (show false = true from hs) Bool.false_ne_true
  | _ => cases y <;> exact absurd (show false = true from hs) Bool.false_ne_true

theorem op_lt : OpR X (compareOp .Lt) (rI0 fun i j => .bl (decide (i < j))) := opB0 fun _ _ _ _ _ _ _ q => lt_int q
theorem op_le : OpR X (compareOp .LtE) (rI0 fun i j => .bl (decide (i ≤ j))) := opB0 fun _ _ _ _ _ _ _ q => le_int q
theorem op_gt : OpR X (compareOp .Gt) (rI0 fun i j => .bl (decide (j < i))) := opB0 fun _ _ _ _ _ _ _ q => gt_int q
theorem op_ge : OpR X (compareOp .GtE) (rI0 fun i j => .bl (decide (j ≤ i))) := opB0 fun _ _ _ _ _ _ _ q => ge_int q
theorem nomark (b : Expr) {op : CmpOp} (h : op ≠ .In := by decide) (h2 : op ≠ .NotIn := by decide) : behindInMarks op b = false := by
  have e1 : (op == CmpOp.In) = false := by cases op <;> first | rfl | exact absurd rfl h
  have e2 : (op == CmpOp.NotIn) = false := by cases op <;> first | rfl | exact absurd rfl h2
  cases b <;> simp [behindInMarks, e1, e2]
theorem pe_cmpR {op : CmpOp} {r : R2} (ho : OpR X (compareOp op) r) (ha : PE X a ta) (hb : PE X b tb) (hm : behindInMarks op b = false) : PE X (.Compare a [op] [b] pos) (tOp r ta tb) := by
  intro pins s σ H Q I h
  exact wpAny_Compare1 (binT ha hb I h fun v u s2 x y H2 I2 rx ry q => ho pins s2 σ H2 x y v u Q I2 rx ry q) hm
def tTest (t : TE) : TT := fun σ H Q => t σ H fun x H' => ∃ k, x = .bl k ∧ Q k H'
theorem pt_cmpR {op : CmpOp} {r : R2} (ho : OpR X (compareOp op) r) (ha : PE X a ta) (hb : PE X b tb) (hm : behindInMarks op b = false) : PT X (.Compare a [op] [b] pos) (tTest (tOp r ta tb)) := by
  intro pins s σ H Q I h
  refine wpAny_isTrue_Compare1 (thn (ha pins s σ H _ I h) fun v s1 ⟨x, H1, I1, r1, q1⟩ => thn (hb pins s1 σ H1 _ I1 q1) fun u s2 ⟨y, H2, I2, r2, q2⟩ =>
    thn (ho pins s2 σ H2 x y v u _ I2 r1 r2 q2) fun c s3 ⟨z, H3, I3, r3, k, e, q3⟩ => ?_) hm
  subst e
  cases r3
  exact wpAny_truthy_bool ⟨H3, I3, q3⟩
def tChain (r r' : R2) (ta tb tc : TE) : TE := fun σ H Q => ta σ H fun x H1 => tb σ H1 fun y H2 => r x y H2 fun z H3 => ∃ k, z = .bl k ∧
  (if k = true then tc σ H3 fun w' H4 => r' y w' H4 Q else Q (.bl false) H3)
theorem pe_chain {op op' : CmpOp} {r r' : R2} (ho : OpR X (compareOp op) r) (ho' : OpR X (compareOp op') r') (ha : PE X a ta) (hb : PE X b tb) (hc : PE X c tc)
    (hm : lastMarks [op, op'] [b, c] = false := by with_unfolding_all rfl) : PE X (.Compare a [op, op'] [b, c] pos) (tChain r r' ta tb tc) := by
  intro pins s σ H Q I h
  refine Compare_chain (thn (ha pins s σ H _ I h) fun v s1 ⟨x, H1, I1, r1, q1⟩ => chain_link (thn (hb pins s1 σ H1 _ I1 q1) fun u s2 ⟨y, H2, I2, r2, q2⟩ =>
    thn (ho pins s2 σ H2 x y v u _ I2 r1 r2 q2) fun d s3 ⟨z, H3, I3, r3, k, e, q3⟩ => ?_)) hm
  subst e
  cases r3
  refine wpAny_truthy_bool ?_
  cases k with
  | false => exact ite_ff ⟨.bl false, H3, I3, rfl, q3⟩
  | true => exact ite_tt (chain_last (thn (hc pins s3 σ H3 _ I3 q3) fun w' s4 ⟨z', H4, I4, r4, q4⟩ => ho' pins s4 σ H4 y z' u w' Q I4 r2 r4 q4))
theorem pt_chain {op op' : CmpOp} {r r' : R2} (ho : OpR X (compareOp op) r) (ho' : OpR X (compareOp op') r') (ha : PE X a ta) (hb : PE X b tb) (hc : PE X c tc)
    (hm : lastMarks [op, op'] [b, c] = false := by with_unfolding_all rfl) : PT X (.Compare a [op, op'] [b, c] pos) (tTest (tChain r r' ta tb tc)) := by
  intro pins s σ H Q I h
  refine isTrue_chain (thn (ha pins s σ H _ I h) fun v s1 ⟨x, H1, I1, r1, q1⟩ => test_link (thn (hb pins s1 σ H1 _ I1 q1) fun u s2 ⟨y, H2, I2, r2, q2⟩ =>
    thn (ho pins s2 σ H2 x y v u _ I2 r1 r2 q2) fun d s3 ⟨z, H3, I3, r3, k, e, q3⟩ => ?_)) hm
  subst e
  cases r3
  refine wpAny_truthy_bool ?_
  cases k with
  | false =>
    obtain ⟨k', e', q'⟩ := q3
    cases e'
    exact ite_ff ⟨H3, I3, q'⟩
  | true =>
    refine ite_tt (test_last (thn (hc pins s3 σ H3 _ I3 q3) fun w' s4 ⟨z', H4, I4, r4, q4⟩ => thn (ho' pins s4 σ H4 y z' u w' _ I4 r2 r4 q4) fun d' s5 ⟨z2, H5, I5, r5, k2, e2, q5⟩ => ?_))
    subst e2
    cases r5
    exact wpAny_truthy_bool ⟨H5, I5, q5⟩

theorem line63 : (sizeLine : Nat) < 2 ^ 63 := by rw [sizeLine_eq]; decide
theorem op_add_str : OpR X (binaryOp .Add) (fun x y H Q => ∃ i j, x = .str i ∧ y = .str j ∧ i.length + j.length ≤ sizeLine ∧ Q (.str (i ++ j)) H) := by
  intro pins s σ H x y v u Q I rx ry h
  obtain ⟨i, j, rfl, rfl, hz, q⟩ := h
  obtain ⟨t, rfl⟩ := rx
  obtain ⟨t', rfl⟩ := ry
  exact add_str (fun t' tk => ⟨.str (i ++ j), H, I.tok _, ⟨_, rfl⟩, q⟩) hz
theorem vals1 {x : V} {us : List Value} (r : Vals [x] us) : ∃ u, us = [u] ∧ RelV x u := by
  cases r with
  | cons r1 r2 => cases r2; exact ⟨_, rfl, r1⟩
theorem vals2 {x y : V} {us : List Value} (r : Vals [x, y] us) : ∃ u w', us = [u, w'] ∧ RelV x u ∧ RelV y w' := by
  cases r with
  | cons r1 r2 =>
    cases r2 with
    | cons r3 r4 => cases r4; exact ⟨_, _, rfl, r1, r3⟩
theorem call_max2 (hc : X.calm = true) : CallR X (.builtin "max") (fun xs H Q => ∃ i j, xs = [.int i, .int j] ∧ Q (.int (if j > i then j else i)) H) := by
  intro pins s σ H xs us Q I r h
  obtain ⟨i, j, rfl, q⟩ := h
  obtain ⟨u, w', rfl, ⟨t, rfl⟩, ⟨t', rfl⟩⟩ := vals2 r
  refine max_two_ints (I.ok.hd hc) fun h' tk k => ⟨_, H, I.kept k, ?_, q⟩
  by_cases hj : j > i
  · rw [if_pos hj, if_pos hj]; exact ⟨_, rfl⟩
  · rw [if_neg hj, if_neg hj]; exact ⟨_, rfl⟩
theorem call_min2 (hc : X.calm = true) : CallR X (.builtin "min") (fun xs H Q => ∃ i j, xs = [.int i, .int j] ∧ Q (.int (if j < i then j else i)) H) := by
  intro pins s σ H xs us Q I r h
  obtain ⟨i, j, rfl, q⟩ := h
  obtain ⟨u, w', rfl, ⟨t, rfl⟩, ⟨t', rfl⟩⟩ := vals2 r
  refine min_two_ints (I.ok.hd hc) fun h' tk k => ⟨_, H, I.kept k, ?_, q⟩
  by_cases hj : j < i
  · rw [if_pos hj, if_pos hj]; exact ⟨_, rfl⟩
  · rw [if_neg hj, if_neg hj]; exact ⟨_, rfl⟩
end
end L2

namespace L2
open PySem PySem.Spec PyProof.Rows

structure ObjM (h : Heap) (x dx C : Addr) (mA : Str → Option Value) : Prop where
  obj : h.get? x = some (PySem.W.instObj C dx)
  ns : h.Ns1 dx mA
  ne : dx ≠ x

theorem lookIn_ns {h : Heap} {dx : Addr} {mA : Str → Option Value} (n : h.Ns1 dx mA) : ∃ od, h.get? dx = some od ∧ ∀ name, PySem.W.lookIn name od = some (mA name) := by
  obtain ⟨o, es, ep, ho, hd, hk, _, hm⟩ := n
  refine ⟨o, ho, fun name => ?_⟩
  have e := hm name
  unfold nsFind findBy at e
  rw [← Array.find?_toList] at e
  unfold PySem.W.lookIn
  rw [hd]
  dsimp only
  split
  · rename_i y q
    rw [q] at e
    exact congrArg some e
  · rename_i q
    rw [q] at e
    have a : es.toList.any (·.refKey) = false := by
      rw [List.any_eq_false]
      intro y hy
      obtain ⟨z, t, hkey⟩ := hk y (Array.mem_toList_iff.mp hy)
      simp [DictEntry.refKey, hkey]
    have a' : ¬ es.toList.any (·.refKey) = true := by rw [a]; exact Bool.false_ne_true
    rw [if_neg a']
    exact congrArg some e

theorem ObjM.look {h : Heap} {x dx C : Addr} {mA : Str → Option Value} (I : ObjM h x dx C mA) : ∃ od, PySem.W.InstAt h x (PySem.W.instObj C dx) C (some od) ∧ ∀ name, PySem.W.lookIn name od = some (mA name) :=
  let ⟨od, ho, hl⟩ := lookIn_ns I.ns
  ⟨od, ⟨I.obj, rfl, rfl, ho⟩, hl⟩

section
variable {prog : Program} {w : World} {A : Around} {E : Value → Shared → Prop} {s : Shared} {K : PySem.W.Frag} {x dx C f : Addr} {mA : Str → Option Value} {name : Str} {v : Value}

theorem get_map {expr : Bool} {Q : Value → Shared → Prop} (X : K.In s.heap) (I : ObjM s.heap x dx C mA) (hg : PySem.W.plainGet K C name = true) (hh : PySem.W.hasDictIn K C = true)
    (ha : PySem.W.findIn K (.ref C) name = some none) (hv : mA name = some v) (hv' : PySem.W.handedIn v = true) (h : Q v { s with toks := s.toks + 1 }) :
    wpAny (model prog w) A (getAttr (.ref x) name expr) Q E s := by
  obtain ⟨od, J, hl⟩ := I.look
  exact PySem.W.get_value X J (PySem.W.plainGet_of hg).1 (PySem.W.findObj_own hh ha rfl (by rw [hl, hv])) hv' h

theorem get_meth {pl : Sem Bool} {Q : Value × List Value → Shared → Prop} (X : K.In s.heap) (I : ObjM s.heap x dx C mA) (hg : PySem.W.plainGet K C name = true)
    (hf : PySem.W.findIn K (.ref C) name = some (some (.ref f))) (ht : PySem.W.isFn K (.ref f) = true) (hv : mA name = none) (h : Q (.ref f, [.ref x]) s) :
    wpAny (model prog w) A (getMethod (.ref x) name pl) Q E s := by
  obtain ⟨od, J, hl⟩ := I.look
  exact PySem.W.method_fn X J (PySem.W.plainGet_of hg).1 (PySem.W.plainGet_of hg).2 hf (beq_iff_eq.mp ht) (by show (PySem.W.lookIn name od).map (·.isSome) = some false; rw [hl, hv]; rfl) h

theorem set_map {ns : List Str} {Q : Unit → Shared → Prop} (X : K.In s.heap) (I : ObjM s.heap x dx C mA)
    (hs : PySem.W.findIn K (.ref C) "__setattr__" = some (some (.builtin "object.__setattr__"))) (hp : PySem.W.plainOver K C = true) (ht : PySem.W.takerIn K C name = some none) (hh : PySem.W.hasDictIn K C = true)
    (hw : PySem.Within mA ns) (hsz : ns.length ≤ sizeLine)
    (h : ∀ h', ObjM h' x dx C (fun y => if y = name then some v else mA y) → Heap.SameBut dx s.heap h' → Q () { s with heap := h', toks := s.toks + 2 }) :
    wpAny (model prog w) A (setAttr (.ref x) name v) Q E s := by
  obtain ⟨od, J, hl⟩ := I.look
  refine PySem.W.set_plain X J hs (PySem.W.osa_open (s := { s with toks := s.toks + 1 }) (r := none) X J hp ht fun b => ?_)
  obtain ⟨cd, hc, hd'⟩ := PySem.W.any_some hh
  have hx : s.heap.get? x = some ⟨.ref C, some dx, .plain, #[]⟩ := I.obj
  refine wpAny_bind (wpAny_pure (wpAny_bind (wpAny_bind (wpAny_loadPart hx (wpAny_bind (PySem.W.Looks.here (s := { s with toks := s.toks + 1 }) (PySem.W.looks_clsIn X hc) ?_))))))
  rw [hd']
  refine wpAny_pure (a := some dx) (wpAny_bind (wpAny_pure (wpAny_bind ?_)))
  refine wpAny_nsSet1 (s := { s with toks := s.toks + 1 }) I.ns fun h' hn2 hs2 => ?_
  obtain ⟨oD, esD, epD, hoD, hdD, hcD⟩ := hn2.count (PySem.Within.cons name v hw)
  refine wpAny_bind (wpAny_lookBehind hoD (by rw [hdD]; exact pastItsLine_dict (Nat.le_trans hcD (by rw [List.length_cons]; omega))) ?_)
  exact wpAny_pure (h _ ⟨(hs2.2 _ (Ne.symm I.ne)).trans I.obj, hn2, I.ne⟩ hs2)

theorem make_map {R : Result → Shared → Prop} {vs : List Value} {kw : List (Str × Value)} (X : K.In s.heap) (hm : PySem.W.makesIn K C = true)
    (hi : PySem.W.findIn K (.ref C) "__init__" = some (some (.ref f))) (hf : PySem.W.typeIn K (.ref f) = some (.type "function"))
    (h : codeAny (model prog w) (A.under (.builtin "type.__call__" ⟨.ref C :: vs, kw⟩)) (.call (.ref f) ⟨.ref (s.heap.objs.size + 1) :: vs, kw⟩) (PySem.W.InitBack (s.heap.objs.size + 1) R)
      { s with heap := (s.heap.push PySem.W.emptyDict).push (PySem.W.instObj C s.heap.objs.size) }) :
    codeAny (model prog w) A (.call (.ref C) ⟨vs, kw⟩) R s := by
  obtain ⟨hh, g, d, t, os⟩ := s
  exact PySem.W.make_core (PySem.W.makes_of X hm) (PySem.W.looks_findIn X hi) (fun self => PySem.W.bind_fn X self hf) (.inl rfl) h
theorem make_map0 {R : Result → Shared → Prop} (X : K.In s.heap) (hm : PySem.W.makesIn K C = true)
    (hi : PySem.W.findIn K (.ref C) "__init__" = some (some (.builtin "object.__init__")))
    (hb : ∀ self, PySem.W.Looks (model prog w) s.heap (bindSpecial (.builtin "object.__init__") self) (.builtin "object.__init__", [self]))
    (h : codeAny (model prog w) (A.under (.builtin "type.__call__" ⟨[.ref C], []⟩)) (.call (.builtin "object.__init__") ⟨[.ref (s.heap.objs.size + 1)], []⟩) (PySem.W.InitBack (s.heap.objs.size + 1) R)
      { s with heap := (s.heap.push PySem.W.emptyDict).push (PySem.W.instObj C s.heap.objs.size) }) :
    codeAny (model prog w) A (.call (.ref C) ⟨[], []⟩) R s := by
  obtain ⟨hh, g, d, t, os⟩ := s
  exact PySem.W.make_core (PySem.W.makes_of X hm) (PySem.W.looks_findIn X hi) hb (.inr ⟨rfl, rfl⟩) h
end

def putF (f : Str) (v : V) : List (Str × V) → List (Str × V)
  | [] => [(f, v)]
  | (g, x) :: r => if g = f then (g, v) :: r else (g, x) :: putF f v r
theorem lookup_putF (f g : Str) (v : V) : ∀ fs : List (Str × V), (putF f v fs).lookup g = if g = f then some v else fs.lookup g
  | [] => by
    show List.lookup g [(f, v)] = _
    by_cases h : g = f
    · have hb : (g == f) = true := beq_iff_eq.mpr h
      simp only [List.lookup, hb, if_pos h]
    · have hb : (g == f) = false := beq_eq_false_iff_ne.mpr h
      simp only [List.lookup, hb, if_neg h]
  | (k, x) :: r => by
    have ih := lookup_putF f g v r
    rw [show putF f v ((k, x) :: r) = (if k = f then (k, v) :: r else (k, x) :: putF f v r) from rfl]
    by_cases hk : k = f
    · rw [if_pos hk]
      by_cases h : g = k
      · have hb : (g == k) = true := beq_iff_eq.mpr h
        simp only [List.lookup, hb, if_pos (h.trans hk)]
      · have hb : (g == k) = false := beq_eq_false_iff_ne.mpr h
        simp only [List.lookup, hb, if_neg (fun e : g = f => h (e.trans hk.symm))]
    · rw [if_neg hk]
      by_cases h : g = k
      · have hb : (g == k) = true := beq_iff_eq.mpr h
        simp only [List.lookup, hb, if_neg (fun e : g = f => hk (h.symm.trans e))]
      · have hb : (g == k) = false := beq_eq_false_iff_ne.mpr h
        simp only [List.lookup, hb]
        exact ih
theorem keys_putF (f : Str) (v : V) : ∀ fs : List (Str × V), f ∈ (putF f v fs).map (·.1) ∧ ∀ g, g ∈ fs.map (·.1) → g ∈ (putF f v fs).map (·.1)
  | [] => ⟨by simp [putF], fun g h => by simp at h⟩
  | (k, x) :: r => by
    obtain ⟨i1, i2⟩ := keys_putF f v r
    rw [show putF f v ((k, x) :: r) = (if k = f then (k, v) :: r else (k, x) :: putF f v r) from rfl]
    by_cases hk : k = f
    · rw [if_pos hk]
      subst hk
      exact ⟨by simp, fun g h => by simpa using h⟩
    · rw [if_neg hk]
      refine ⟨?_, fun g h => ?_⟩
      · rw [List.map_cons]
        exact List.mem_cons_of_mem _ i1
      · rw [List.map_cons] at h ⊢
        rcases List.mem_cons.mp h with e | e
        · exact List.mem_cons.mpr (.inl e)
        · exact List.mem_cons_of_mem _ (i2 g e)
theorem length_putF (f : Str) (v : V) : ∀ fs : List (Str × V), (putF f v fs).length ≤ fs.length + 1
  | [] => by simp [putF]
  | (k, x) :: r => by
    have ih := length_putF f v r
    rw [show putF f v ((k, x) :: r) = (if k = f then (k, v) :: r else (k, x) :: putF f v r) from rfl]
    by_cases hk : k = f
    · rw [if_pos hk, List.length_cons, List.length_cons]; omega
    · rw [if_neg hk, List.length_cons, List.length_cons]; omega

theorem RelO.some_of {v : V} {o : Option Value} (r : RelO (some v) o) : ∃ u, o = some u ∧ RelV v u := by
  cases o with
  | none => exact (show False from r).elim
  | some u => exact ⟨u, rfl, r⟩
theorem RelO.none_of {o : Option Value} (r : RelO none o) : o = none := by
  cases o with
  | none => rfl
  | some u => exact (show False from r).elim
theorem handed_of {v : V} {u : Value} (r : RelV v u) : PySem.W.handedIn u = true := by
  cases v with
  | non => cases (show u = Value.none from r); rfl
  | bl b => cases (show u = Value.bool b from r); rfl
  | int i => obtain ⟨t, e⟩ := (show ∃ t, u = Value.int i t from r); cases e; rfl
  | str x => obtain ⟨t, e⟩ := (show ∃ t, u = Value.str x t from r); cases e; rfl
  | byt b => obtain ⟨t, e⟩ := (show ∃ t, u = Value.bytes b t from r); cases e; rfl
  | flt b => obtain ⟨t, e⟩ := (show ∃ t, u = Value.float b t from r); cases e; rfl
  | ref a => cases (show u = Value.ref a from r); rfl
  | ty n => cases (show u = Value.type n from r); rfl

section
variable {P : Program} {w : World} {H H' : Hp} {h h' : Heap} {a C dx : Addr} {fs fs' : List (Str × V)}
theorem ins_get (hok : HOk P w H h) (e : H a = some (.ins C dx fs)) : ∃ mA, ObjM h a dx C mA ∧ (∀ f, RelO (fs.lookup f) (mA f)) ∧ PySem.Within mA (fs.map (·.1)) ∧ fs.length ≤ 1000 ∧ H dx = some (.own a) := by
  obtain ⟨d, z, ne, ob, mA, n, r, q⟩ := (show ObjOk P w H h a (.ins C dx fs) from hok a _ e)
  exact ⟨mA, ⟨ob, n, ne⟩, r, q, z, d⟩
end

structure Cls (K : PySem.W.Frag) (C : Addr) : Prop where
  pg : PySem.W.plainGet K C Str.empty = true
  hd : PySem.W.hasDictIn K C = true
  po : PySem.W.plainOver K C = true
  sa : PySem.W.findIn K (.ref C) "__setattr__" = some (some (.builtin "object.__setattr__"))
theorem Cls.get {K : PySem.W.Frag} {C : Addr} (c : Cls K C) (f : Str) : PySem.W.plainGet K C f = true := c.pg
def NoAttr (K : PySem.W.Frag) (C : Addr) (f : Str) : Prop := PySem.W.findIn K (.ref C) f = some none
theorem NoAttr.taker {K : PySem.W.Frag} {C : Addr} {f : Str} (n : NoAttr K C f) : PySem.W.takerIn K C f = some none := by
  unfold PySem.W.takerIn
  rw [show PySem.W.findIn K (.ref C) f = some none from n]
  rfl
structure Con (K : PySem.W.Frag) (C : Addr) (f : Str) (v : V) (u : Value) : Prop where
  at_ : PySem.W.findIn K (.ref C) f = some (some u)
  rel : RelV v u
  get : PySem.W.specialIn K u "__get__" = some none
  cp : PySem.W.copiedNames.contains f = false
structure Meth (K : PySem.W.Frag) (C : Addr) (m : Str) (f : Addr) : Prop where
  at_ : PySem.W.findIn K (.ref C) m = some (some (.ref f))
  fn : PySem.W.isFn K (.ref f) = true
  kp : PySem.W.keepIn K (.ref f) = true

section
variable {X : Cx} {pins : List (Addr × Obj)} {σ : St} {H : Hp} {s : Shared} {a C dx : Addr} {fs : List (Str × V)} {f : Str} {v : V} {A : Around} {E : Value → Shared → Prop}

theorem getattr_ok {b : Bool} {Q : Value → Shared → Prop} (I : Inv X pins σ H s) (e : H a = some (.ins C dx fs)) (c : Cls X.K C) (n : NoAttr X.K C f) (l : fs.lookup f = some v)
    (h : ∀ u s', Inv X pins σ H s' → RelV v u → Q u s') : wpAny (model X.prog X.w) A (getAttr (.ref a) f b) Q E s := by
  obtain ⟨mA, O, r, _, _, _⟩ := ins_get I.hok e
  obtain ⟨u, hu, ru⟩ := RelO.some_of (v := v) (o := mA f) (by rw [← l]; exact r f)
  exact get_map I.kIn O (c.get f) c.hd n hu (handed_of ru) (h u _ (I.tok _) ru)

theorem getmeth_ok {m : Str} {g : Addr} {pl : Sem Bool} {Q : Value × List Value → Shared → Prop} (I : Inv X pins σ H s) (e : H a = some (.ins C dx fs)) (c : Cls X.K C) (k : Meth X.K C m g) (l : fs.lookup m = none)
    (h : Q (.ref g, [.ref a]) s) : wpAny (model X.prog X.w) A (getMethod (.ref a) m pl) Q E s := by
  obtain ⟨mA, O, r, _, _, _⟩ := ins_get I.hok e
  have hn : mA m = none := RelO.none_of (by rw [← l]; exact r m)
  exact get_meth I.kIn O (c.get m) k.at_ k.fn hn h

theorem setattr_ok {y : V} {u : Value} {Q : Unit → Shared → Prop} (I : Inv X pins σ H s) (e : H a = some (.ins C dx fs)) (c : Cls X.K C) (n : NoAttr X.K C f) (hl : fs.length < 1000) (ry : RelV y u)
    (h : ∀ s', Inv X pins σ (upd H a (.ins C dx (putF f y fs))) s' → Q () s') : wpAny (model X.prog X.w) A (setAttr (.ref a) f u) Q E s := by
  obtain ⟨mA, O, r, wi, _, ho⟩ := ins_get I.hok e
  have hz : (fs.map (·.1)).length ≤ sizeLine := by rw [List.length_map, sizeLine_eq]; omega
  refine set_map I.kIn O c.sa c.po n.taker c.hd wi hz fun h' O' sb => h _ ?_
  have hd : ∃ o, h'.get? dx = some o := let ⟨o, _, _, e', _⟩ := O'.ns; ⟨o, e'⟩
  refine I.write (x := a) (e := dx) (by rw [e]; exact True.intro) (.inr ho) (fun b q hb z => (sb.2 b hb).trans z) hd ?_
  refine ⟨by rw [upd_ne O.ne]; exact ho, ?_, O.ne, O'.obj, _, O'.ns, fun g => ?_, fun g hg => ?_⟩
  · have := length_putF f y fs; omega
  · show RelO ((putF f y fs).lookup g) (if g = f then some u else mA g)
    rw [lookup_putF]
    by_cases q : g = f
    · rw [if_pos q, if_pos q]; exact ry
    · rw [if_neg q, if_neg q]; exact r g
  · by_cases q : g = f
    · rw [q]; exact (keys_putF f y fs).1
    · refine (keys_putF f y fs).2 g (wi g fun z => hg ?_)
      show (if g = f then some u else mA g) = none
      rw [if_neg q]; exact z

theorem Inv.made (I : Inv X pins σ H s) : Inv X pins σ (upd (upd H s.heap.objs.size (.own (s.heap.objs.size + 1))) (s.heap.objs.size + 1) (.ins C s.heap.objs.size []))
    { s with heap := (s.heap.push PySem.W.emptyDict).push (PySem.W.instObj C s.heap.objs.size) } := by
  have e1 : (s.heap.push PySem.W.emptyDict).get? s.heap.objs.size = some PySem.W.emptyDict := Heap.get?_push_size s.heap rfl
  have e2 : ((s.heap.push PySem.W.emptyDict).push (PySem.W.instObj C s.heap.objs.size)).get? (s.heap.objs.size + 1) = some (PySem.W.instObj C s.heap.objs.size) := by
    have := Heap.get?_push_size (s.heap.push PySem.W.emptyDict) (o := PySem.W.instObj C s.heap.objs.size) rfl
    rwa [Heap.size_push] at this
  have e3 : (s.heap.push PySem.W.emptyDict).Ns s.heap.objs.size (fun _ => none) := ⟨PySem.W.emptyDict, #[], _, e1, rfl, (fun e he => absurd he (by simp)), fun _ => rfl⟩
  have I1 := I.laid (a := s.heap.objs.size) (o := .own (s.heap.objs.size + 1)) (h' := s.heap.push PySem.W.emptyDict) (t' := s.toks) (fun b u q => Heap.get?_push_of_some _ q) (Nat.le_refl _) ⟨_, e1⟩
  refine I1.laid (a := s.heap.objs.size + 1) (o := .ins C s.heap.objs.size []) (t' := s.toks) (fun b u q => Heap.get?_push_of_some _ q) (Nat.le_of_eq (Heap.size_push _ _)) ?_
  have ne : s.heap.objs.size ≠ s.heap.objs.size + 1 := Nat.ne_of_lt (Nat.lt_succ_self _)
  refine ⟨by rw [upd_ne ne, upd_same], Nat.zero_le _, ne, e2, fun _ => none, (Heap.Ns1.of_empty e3).at fun o q => Heap.get?_push_of_some _ q, fun _ => True.intro, fun y hy => absurd rfl hy⟩

theorem attr_of {prog : Program} {w : World} {env : Env} {e : Expr} {f : Str} {pos : Pos} {s : Shared} {Q : Value → Shared → Prop} (hb : attributeBase e f env (eval e env) = eval e env)
    (h : wpAny (model prog w) A (eval e env) (fun o s₁ => wpAny (model prog w) A (getAttr o f true) Q E s₁) E s) : wpAny (model prog w) A (eval (.Attribute e f pos) env) Q E s :=
  Attribute_any_ h (by rw [arm_eval_Attribute, hb])
end

def tFld (K : PySem.W.Frag) (ta : TE) (f : Str) : TE := fun σ H Q => ta σ H fun x H1 => ∃ a C dx fs v, x = .ref a ∧ H1 a = some (.ins C dx fs) ∧ Cls K C ∧ NoAttr K C f ∧ fs.lookup f = some v ∧ Q v H1
def sFld (K : PySem.W.Frag) (ta tv : TE) (f : Str) : TS := fun D σ H => tv σ H fun y H1 => ta σ H1 fun x H2 => ∃ a C dx fs, x = .ref a ∧ H2 a = some (.ins C dx fs) ∧ Cls K C ∧ NoAttr K C f ∧ fs.length < 1000 ∧
  D.nx σ (upd H2 a (.ins C dx (putF f y fs)))
section
variable {X : Cx} {o e value : Expr} {f : Str} {pos pos' tpos : Pos} {ta tv : TE}
theorem pe_fld (he : PE X e ta) (hb : attributeBase e f X.env (eval e X.env) = eval e X.env) : PE X (.Attribute e f pos) (tFld X.K ta f) := by
  intro pins s σ H Q I h
  refine attr_of hb (thn (he pins s σ H _ I h) fun u s1 ⟨x, H1, I1, rx, a, C, dx, fs, v, ex, ea, c, n, l, q⟩ => ?_)
  subst ex
  obtain rfl : u = Value.ref a := rx
  exact getattr_ok I1 ea c n l fun u' s2 I2 ru => ⟨v, H1, I2, ru, q⟩
theorem ps_fld (ha : PE X o ta) (hv : PE X value tv) (hs : swapsWith value (some (.Attribute o f pos')) pos.line X.env = pure false) : PS X (.Assign [.Attribute o f pos'] value pos) (sFld X.K ta tv f) := by
  intro pins s σ H D I h
  refine plainObj_wpAny_Assign_Attribute (thn (hv pins s σ H _ I h) fun u s1 ⟨y, H1, I1, ry, q⟩ => thn (ha pins s1 σ H1 _ I1 q) fun ov s2 ⟨x, H2, I2, rx, a, C, dx, fs, ex, ea, c, n, l, q2⟩ => ?_) hs
  subst ex
  obtain rfl : ov = Value.ref a := rx
  exact setattr_ok I2 ea c n l ry fun s3 I3 => ⟨σ, _, I3, q2⟩
end

section
variable {X : Cx} {pins : List (Addr × Obj)} {σ : St} {H : Hp} {s : Shared} {A : Around} {E : Value → Shared → Prop} {Q : Value → Shared → Prop} {c : Value} {b : Bool}
inductive TyOf (K : PySem.W.Frag) (H : Hp) : V → Value → Prop where
  | non : TyOf K H .non (.type "NoneType")
  | bl (x : Bool) : TyOf K H (.bl x) (.type "bool")
  | int (i : Int) : TyOf K H (.int i) (.type "int")
  | str (x : Str) : TyOf K H (.str x) (.type "str")
  | flt (x : UInt64) : TyOf K H (.flt x) (.type "float")
  | lst {a : Addr} {xs : List V} (e : H a = some (.lst xs)) : TyOf K H (.ref a) (.type "list")
  | frz {a : Addr} {o : Obj} {xs : List V} (e : H a = some (.frz o (.lst xs))) : TyOf K H (.ref a) (.type "list")
  | tup {a : Addr} {xs : List V} (e : H a = some (.tup xs)) : TyOf K H (.ref a) (.type "tuple")
  | dK {a : Addr} {kvs : List (Key × V)} (e : H a = some (.dK kvs)) : TyOf K H (.ref a) (.type "dict")
  | dT {a : Addr} {kvs : List (List Key × V)} (e : H a = some (.dT kvs)) : TyOf K H (.ref a) (.type "dict")
  | ins {a C dx : Addr} {fs : List (Str × V)} (e : H a = some (.ins C dx fs)) (cl : Cls K C) (ha : PySem.W.findIn K (.ref C) "__class__" = some (some (.builtin "object.__class__")))
      (hn : PySem.W.specialIn K (.builtin "object.__class__") "__get__" = some (some (.builtin "getset_descriptor.__get__"))) (htk : PySem.W.takesIn K (.builtin "object.__class__") = some true)
      (hm : PySem.W.mroIn K C (.type "object") = some true) : TyOf K H (.ref a) (.ref C)
theorem isinst_ok {x : V} {u t : Value} (I : Inv X pins σ H s) (rx : RelV x u) (ty : TyOf X.K H x t) (e : PySem.W.kitOne X.K t c = some b) (h : ∀ tk, Q (.bool b) { s with toks := tk }) :
    wpAny (model X.prog X.w) A (call (.builtin "isinstance") [u, c]) Q E s := by
  cases ty with
  | non => cases (show u = Value.none from rx); exact PySem.W.kia_one PySem.W.kitx_none I.kIn True.intro e (fun z => nomatch z) h
  | bl y => cases (show u = Value.bool y from rx); exact PySem.W.kia_one PySem.W.kitx_bool I.kIn True.intro e (fun z => nomatch z) h
  | int i => obtain ⟨t, q⟩ := (show ∃ t, u = Value.int i t from rx); cases q; exact PySem.W.kia_one PySem.W.kitx_int I.kIn True.intro e (fun z => nomatch z) h
  | str y => obtain ⟨t, q⟩ := (show ∃ t, u = Value.str y t from rx); cases q; exact PySem.W.kia_one PySem.W.kitx_str I.kIn True.intro e (fun z => nomatch z) h
  | flt y => obtain ⟨t, q⟩ := (show ∃ t, u = Value.float y t from rx); cases q; exact PySem.W.kia_one PySem.W.kitx_float I.kIn True.intro e (fun z => nomatch z) h
  | @lst a xs ea =>
    cases (show u = Value.ref a from rx)
    obtain ⟨_, _, n, _, h1⟩ := (show ObjOk X.prog X.w H s.heap a (.lst xs) from I.hok a _ ea)
    exact PySem.W.kia_one PySem.W.kitx_list I.kIn ⟨_, h1, rfl⟩ e (fun z => nomatch z) h
  | @frz a ob xs ea =>
    cases (show u = Value.ref a from rx)
    obtain ⟨_, _, _, n, _, h1⟩ := (show ObjOk X.prog X.w H s.heap a (.frz ob (.lst xs)) from I.hok a _ ea)
    exact PySem.W.kia_one PySem.W.kitx_list I.kIn ⟨_, h1, rfl⟩ e (fun z => nomatch z) h
  | @tup a xs ea =>
    cases (show u = Value.ref a from rx)
    obtain ⟨_, _, _, p, _⟩ := (show ObjOk X.prog X.w H s.heap a (.tup xs) from I.hok a _ ea)
    obtain ⟨o, h1, h2, _⟩ := p
    exact PySem.W.kia_one PySem.W.kitx_tuple I.kIn ⟨o, h1, h2⟩ e (fun z => nomatch z) h
  | @dK a kvs ea =>
    cases (show u = Value.ref a from rx)
    obtain ⟨_, _, vs, _, p⟩ := (show ObjOk X.prog X.w H s.heap a (.dK kvs) from I.hok a _ ea)
    obtain ⟨o, es, ep, h1, h2, _⟩ := p
    exact PySem.W.kia_one PySem.W.kitx_dict I.kIn ⟨o, h1, h2.1⟩ e (fun z => nomatch z) h
  | @dT a kvs ea =>
    cases (show u = Value.ref a from rx)
    obtain ⟨_, _, xs, _, o, es, ep, h1, h2, _⟩ := (show ObjOk X.prog X.w H s.heap a (.dT kvs) from I.hok a _ ea)
    exact PySem.W.kia_one PySem.W.kitx_dict I.kIn ⟨o, h1, h2.1⟩ e (fun z => nomatch z) h
  | @ins a C dx fs ea cl ha hn htk hm =>
    cases (show u = Value.ref a from rx)
    obtain ⟨mA, O, _⟩ := ins_get I.hok ea
    obtain ⟨od, J, _⟩ := O.look
    exact PySem.W.kia_one (PySem.W.kitx_own (cl.get _) cl.hd ha hn htk hm) I.kIn J e (fun z => nomatch z) h
end
end L2

namespace L2
open PySem PySem.Spec PyProof.Rows

structure Room (k : Nat) (A : Around) : Prop where
  hd : A.handled = none
  dp : A.depth + 3 * k + 5 < recursionLimit
  un : A.units + 16 * k + 200 < cLine
theorem Room.mono {j k : Nat} {A : Around} (r : Room k A) (h : j ≤ k) : Room j A := ⟨r.hd, by have := r.dp; omega, by have := r.un; omega⟩
theorem Room.deeper {k : Nat} {A : Around} (r : Room (k + 1) A) (env : Env) : Room k (A.deeper env) :=
  ⟨r.hd, by have := r.dp; show A.depth + 1 + 3 * k + 5 < _; omega, by have := r.un; show A.units + 3 + 16 * k + 200 < _; omega⟩
theorem Room.in1 {k : Nat} {A : Around} (r : Room (k + 1) A) : Room k A.in1 :=
  ⟨r.hd, by have := r.dp; show A.depth + 3 * k + 5 < _; omega, by have := r.un; show A.units + 1 + 16 * k + 200 < _; omega⟩
theorem make_depth {A : Around} {C : Addr} {us : List Value} {kw : List (Str × Value)} : (A.under (.builtin "type.__call__" ⟨.ref C :: us, kw⟩)).depth = A.depth + 1 := by
  first | rfl | simp [Around.under, Code.weight, Code.isCreation, Code.isGuard, Code.isCaller, Code.frames, Code.isFrame, guardIds]
theorem make_units {A : Around} {C : Addr} {us : List Value} {kw : List (Str × Value)} : (A.under (.builtin "type.__call__" ⟨.ref C :: us, kw⟩)).units = A.units + 1 := by
  first | rfl | simp [Around.under, Code.cUnits, Code.frames, Code.isFrame]
theorem Room.make {k : Nat} {A : Around} (r : Room (k + 1) A) (C : Addr) (us : List Value) (kw : List (Str × Value)) : Room k (A.under (.builtin "type.__call__" ⟨.ref C :: us, kw⟩)) :=
  ⟨r.hd, by have := r.dp; rw [make_depth]; omega, by have := r.un; rw [make_units]; omega⟩
theorem Room.depth {k : Nat} {A : Around} (r : Room k A) : A.depth < recursionLimit := by have := r.dp; omega
theorem Room.units {k : Nat} {A : Around} (r : Room k A) : A.units + 64 < cLine := by have := r.un; omega
def tNil : TA := fun _ H Q => Q [] H
def tCons (ta : TE) (tr : TA) : TA := fun σ H Q => ta σ H fun x H1 => tr σ H1 fun xs H2 => Q (x :: xs) H2
section
variable {X : Cx} {e : Expr} {es : List Expr} {te : TE} {t : TA} {pos : Pos}
theorem pa_nil : PA X [] tNil := fun _ _ _ _ H Q I h => Calls.spliced_nil ⟨[], H, I, .nil, h⟩
theorem pa_cons (ha : PE X e te) (hr : PA X es t) (hs : starEach (e :: es) X.env = (false, eval e X.env) :: starEach es X.env := by rfl) : PA X (e :: es) (tCons te t) := by
  intro pos pins s σ H Q I h
  rw [hs]
  show wpAny _ _ (spliced ((false, eval e X.env) :: backTo pos (starEach es X.env))) _ _ s
  refine Calls.spliced_cons (thn (ha pins s σ H _ I h) fun u s1 ⟨x, H1, I1, r1, q1⟩ => ?_)
  exact thn (hr pos pins s1 σ H1 _ I1 q1) fun us s2 ⟨xs, H2, I2, r2, q2⟩ => ⟨x :: xs, H2, I2, .cons r1 r2, q2⟩

def tTup (t : TA) : TE := fun σ H Q => t σ H fun xs H1 => xs.length ≤ sizeLine ∧ ∀ p, H1 p = none → Q (.ref p) (upd H1 p (.tup xs))
def tLst (t : TA) : TE := fun σ H Q => t σ H fun xs H1 => xs.length ≤ sizeLine ∧ ∀ p, H1 p = none → Q (.ref p) (upd H1 p (.lst xs))
theorem pe_tup {x1} (h : PA X es t) : PE X (.Tuple es x1 pos) (tTup t) := by
  intro pins s σ H Q I hq
  refine wpAny_Tuple_spliced (thn (h pos pins s σ H _ I hq) fun us s1 ⟨xs, H1, I1, r, z, q⟩ => ⟨by rw [← r.length]; exact z, ?_⟩)
  have hf : H1 s1.heap.objs.size = none := I1.hok.fresh (Nat.le_refl _)
  refine ⟨.ref s1.heap.objs.size, upd H1 s1.heap.objs.size (.tup xs), I1.laid (t' := s1.toks) (fun b u e => Heap.get?_push_of_some _ e) (Nat.le_refl _) ?_, rfl, q _ hf⟩
  exact ⟨z, us, r, ⟨_, Heap.get?_push_size _ rfl, rfl, _, rfl⟩, _, Heap.get?_push_size _ rfl, rfl⟩
theorem pe_lst (h : PA X es t) : PE X (.List es pos) (tLst t) := by
  intro pins s σ H Q I hq
  refine wpAny_List_spliced (thn (h pos pins s σ H _ I hq) fun us s1 ⟨xs, H1, I1, r, z, q⟩ => ⟨by rw [← r.length]; exact z, ?_⟩)
  have hf : H1 s1.heap.objs.size = none := I1.hok.fresh (Nat.le_refl _)
  refine ⟨.ref s1.heap.objs.size, upd H1 s1.heap.objs.size (.lst xs), I1.laid (t' := s1.toks) (fun b u e => Heap.get?_push_of_some _ e) (Nat.le_refl _) ?_, rfl, q _ hf⟩
  exact ⟨z, us, 0, r, Heap.get?_push_size _ rfl⟩
end

abbrev Sp := List V → Hp → VK → XK → Prop
abbrev CXT := List Env → Hp → Shared → XK → Value → Shared → Prop

structure Env0 (P : Program) (w : World) (K : PySem.W.Frag) (mg : Str → Option Value) (base : Heap) (A : Around) (outer : List Env) (s : Shared) (H : Hp) : Prop where
  frames : A.frames = some outer
  mod : Mod K mg base
  bs : ∀ b o, base.get? b = some o → s.heap.get? b = some o ∧ H b = none
  bsz : base.objs.size ≤ s.heap.objs.size
  funs : s.heap.FunFrames base outer
  frf : ∀ b ∈ frs outer, H b = none
  hok : HOk P w H s.heap
  bare : AllBare s.gens
def CE (outer : List Env) (P : Program) (w : World) (H : Hp) (s : Shared) (Q : VK) (u : Value) (s' : Shared) : Prop :=
  ∃ v H', s'.os = s.os ∧ AllBare s'.gens ∧ Un (frs outer) [] H H' s.heap s'.heap ∧ HOk P w H' s'.heap ∧ RelV v u ∧ Q v H'
def CR (CX : CXT) (outer : List Env) (P : Program) (w : World) (H : Hp) (s : Shared) (Q : VK) (E : XK) (r : Result) (s' : Shared) : Prop :=
  match r with
  | .ok (.ret u) => CE outer P w H s Q u s'
  | .ok _ => False
  | .error e => CX outer H s E e s'
structure FnOk (P : Program) (w : World) (K : PySem.W.Frag) (mg : Str → Option Value) (base : Heap) (CX : CXT) (k : Nat) (f : Addr) (fd : FuncData) (ps : List Str) (sp : Sp) : Prop where
  len : ∀ vs H Q E, sp vs H Q E → vs.length = ps.length
  run : ∀ (A : Around) (outer : List Env) (s : Shared) (H : Hp) (args : Args) (us : List Value) (vs : List V) (Q : VK) (E : XK), Room k A → Env0 P w K mg base A outer s H → BindsTo s fd args (ps.zip us) → Vals vs us → sp vs H Q E →
    codeAny (model P w) A (.call (.ref f) args) (CR CX outer P w H s Q E) s
theorem FnOk.mono {P : Program} {w : World} {K : PySem.W.Frag} {mg : Str → Option Value} {base : Heap} {CX : CXT} {j k : Nat} {f : Addr} {fd : FuncData} {ps : List Str} {sp : Sp} (F : FnOk P w K mg base CX j f fd ps sp) (h : j ≤ k) :
    FnOk P w K mg base CX k f fd ps sp := ⟨F.len, fun A outer s H args us vs Q E hr => F.run A outer s H args us vs Q E (hr.mono h)⟩
theorem Env0.make {P : Program} {w : World} {K : PySem.W.Frag} {mg : Str → Option Value} {base : Heap} {A : Around} {outer : List Env} {s : Shared} {H : Hp} (e : Env0 P w K mg base A outer s H) (C : Addr) (us : List Value) (kw : List (Str × Value)) :
    Env0 P w K mg base (A.under (.builtin "type.__call__" ⟨.ref C :: us, kw⟩)) outer s H := ⟨by first | exact e.frames | (simpa [Around.under, Code.envs, Code.isFrame, pushEnvs] using e.frames), e.mod, e.bs, e.bsz, e.funs, e.frf, e.hok, e.bare⟩
theorem Env0.in1 {P : Program} {w : World} {K : PySem.W.Frag} {mg : Str → Option Value} {base : Heap} {A : Around} {outer : List Env} {s : Shared} {H : Hp} (e : Env0 P w K mg base A outer s H) :
    Env0 P w K mg base A.in1 outer s H := ⟨e.frames, e.mod, e.bs, e.bsz, e.funs, e.frf, e.hok, e.bare⟩

section
variable {X : Cx} {pins : List (Addr × Obj)} {σ : St} {H : Hp} {s s' : Shared}
theorem Inv.env0 (I : Inv X pins σ H s) : Env0 X.prog X.w X.K X.mg X.base X.A X.stack s H :=
  ⟨I.ok.frames, I.ok.mod, I.bs, Nat.le_trans I.ok.bsz I.sz, I.stack, I.stkFree, I.hok, I.bare⟩
theorem Inv.after {Q : VK} {u : Value} (I : Inv X pins σ H s) (h : CE X.stack X.prog X.w H s Q u s') : EP X pins σ Q u s' := by
  obtain ⟨v, H', os, bare, un, hok, r, q⟩ := h
  obtain ⟨hh, g, d, t, os'⟩ := s'
  obtain rfl : os' = s.os := os
  exact ⟨v, H', I.call (h' := hh) (g' := g) (d' := d) (t' := t) (ch := []) un hok bare (fun b z => absurd z (by simp)), r, q⟩
end

def tCall (sp : Sp) (dvs : List V) (E : XK) (t : TA) : TE := fun σ H Q => t σ H fun vs H1 => sp (vs ++ dvs) H1 Q E
def tMake (C : Addr) (sp : Sp) (dvs : List V) (E : XK) (t : TA) : TE := fun σ H Q => t σ H fun vs H1 => ∀ x dx, H1 x = none → H1 dx = none → dx ≠ x →
  sp (.ref x :: (vs ++ dvs)) (upd (upd H1 dx (.own x)) x (.ins C dx [])) (fun v H2 => v = .non ∧ Q (.ref x) H2) E

def Binds (K : PySem.W.Frag) (fd : FuncData) (ps : List Str) (ds : List Value) : Prop :=
  ∀ (s : Shared) (us : List Value), K.In s.heap → (us ++ ds).length = ps.length → BindsTo s fd ⟨us, []⟩ (ps.zip (us ++ ds))
theorem Binds.all {K : PySem.W.Frag} {fd : FuncData} {ps : List Str} (h : ∀ us : List Value, us.length = ps.length → bindArgs fd ⟨us, []⟩ = pure (ps.zip us)) : Binds K fd ps [] := fun s us _ hl => by
  rw [List.append_nil] at hl ⊢
  exact .of_eq (h us hl)

def Passes (CX : CXT) (X : Cx) (E : XK) : Prop := ∀ (pins : List (Addr × Obj)) (σ : St) (H : Hp) (s : Shared) (e : Value) (s' : Shared), Inv X pins σ H s → CX X.stack H s E e s' → X.xe e s'

section
variable {X : Cx} {CX : CXT} {k : Nat} {f C : Addr} {fd : FuncData} {ps : List Str} {sp : Sp} {dvs : List V} {ds : List Value} {E : XK} {x m : Str} {p pos apos : Pos} {e o : Expr} {es : List Expr} {ta : TE} {t : TA}

theorem run_fn {pins : List (Addr × Obj)} {σ : St} {H : Hp} {s : Shared} {Q : VK} {us : List Value} {vs : List V} (F : FnOk X.prog X.w X.K X.mg X.base CX k f fd ps sp) (hr : Room k X.A) (hb : Binds X.K fd ps ds) (hd : Vals dvs ds) (hx : Passes CX X E)
    (I : Inv X pins σ H s) (r : Vals vs us) (h : sp (vs ++ dvs) H Q E) : wpAny (model X.prog X.w) X.A (call (.ref f) us) (EP X pins σ Q) X.xe s := by
  have r2 : Vals (vs ++ dvs) (us ++ ds) := r.append hd
  have hl : (us ++ ds).length = ps.length := by rw [← r2.length]; exact F.len _ _ _ _ h
  refine wpAny_call (codeAny_mono (F.run X.A X.stack s H ⟨us, []⟩ (us ++ ds) (vs ++ dvs) Q E hr I.env0 (hb s us I.kIn hl) r2 h) fun r s' hq => ?_)
  cases r with
  | error e => exact hx pins σ H s e s' I hq
  | ok fl =>
    cases fl with
    | ret u => exact I.after hq
    | next => exact False.elim hq
    | brk => exact False.elim hq
    | cont => exact False.elim hq

theorem pe_call (F : FnOk X.prog X.w X.K X.mg X.base CX k f fd ps sp) (hr : Room k X.A) (hg : Gl X x) (hm : X.mg x = some (.ref f)) (hk : PySem.W.keepIn X.K (.ref f) = true) (hb : Binds X.K fd ps ds) (hd : Vals dvs ds) (hx : Passes CX X E)
    (ha : PA X (e :: es) t) (hdb : (x == ("__debug__" : Str)) = false := by decide) (he : starEach (e :: es) X.env = (false, eval e X.env) :: starEach es X.env := by rfl) (hpl : (backTo pos (starEach es X.env)).any (·.1) = false := by rfl) :
    PE X (.Call (.Name x p) (e :: es) [] pos) (tCall sp dvs E t) := by
  intro pins s σ H Q I h
  refine wpAny_Call_Name_kw (ld_glob I hg hm ?_ hdb)
  refine PySem.W.callWith_K (h₀ := X.base) I.ok.mod.kin hk (thn (ha pos pins s σ H _ I h) fun us s1 ⟨vs, H1, I1, r, q⟩ => ⟨I1.kIn, ?_⟩) he hpl
  exact run_fn F hr hb hd hx I1 r q
structure Mk (K : PySem.W.Frag) (C f : Addr) : Prop where
  makes : PySem.W.makesIn K C = true
  init : PySem.W.findIn K (.ref C) "__init__" = some (some (.ref f))
  fn : PySem.W.isFn K (.ref f) = true
  kp : PySem.W.keepIn K (.ref C) = true

theorem run_make {pins : List (Addr × Obj)} {σ : St} {H : Hp} {s : Shared} {Q : VK} {us : List Value} {vs : List V} (M : Mk X.K C f) (F : FnOk X.prog X.w X.K X.mg X.base CX k f fd ps sp) (hr : Room (k + 1) X.A) (hb : Binds X.K fd ps ds) (hd : Vals dvs ds)
    (hx : Passes CX X E) (I : Inv X pins σ H s) (r : Vals vs us)
    (h : ∀ x dx, H x = none → H dx = none → dx ≠ x → sp (.ref x :: (vs ++ dvs)) (upd (upd H dx (.own x)) x (.ins C dx [])) (fun v H2 => v = .non ∧ Q (.ref x) H2) E) :
    wpAny (model X.prog X.w) X.A (call (.ref C) us) (EP X pins σ Q) X.xe s := by
  have hq := h (s.heap.objs.size + 1) s.heap.objs.size (I.hok.fresh (Nat.le_succ _)) (I.hok.fresh (Nat.le_refl _)) (Nat.ne_of_lt (Nat.lt_succ_self _))
  have I2 := Inv.made (C := C) I
  have r2 : Vals (V.ref (s.heap.objs.size + 1) :: (vs ++ dvs)) (Value.ref (s.heap.objs.size + 1) :: (us ++ ds)) := .cons rfl (r.append hd)
  have hl : (Value.ref (s.heap.objs.size + 1) :: us ++ ds).length = ps.length := by
    have e := r2.length
    rw [F.len _ _ _ _ hq] at e
    exact e.symm
  refine wpAny_call (make_map (f := f) I.kIn M.makes M.init (beq_iff_eq.mp M.fn) (codeAny_mono (F.run _ X.stack _ _ ⟨Value.ref (s.heap.objs.size + 1) :: us, []⟩ (Value.ref (s.heap.objs.size + 1) :: (us ++ ds)) _ _ E (hr.make C us [])
    (I2.env0.make C us []) (hb _ (Value.ref (s.heap.objs.size + 1) :: us) I2.kIn hl) r2 hq) fun r s' hq' => ?_))
  cases r with
  | error e => exact hx pins σ _ _ e s' I2 hq'
  | ok fl =>
    cases fl with
    | ret u =>
      obtain ⟨v, H', I3, rv, ev, q3⟩ := I2.after hq'
      subst ev
      exact ⟨rv, ⟨V.ref (s.heap.objs.size + 1), H', I3, rfl, q3⟩⟩
    | next => exact False.elim hq'
    | brk => exact False.elim hq'
    | cont => exact False.elim hq'
theorem pe_make (M : Mk X.K C f) (F : FnOk X.prog X.w X.K X.mg X.base CX k f fd ps sp) (hr : Room (k + 1) X.A) (hg : Gl X x) (hm : X.mg x = some (.ref C)) (hb : Binds X.K fd ps ds) (hd : Vals dvs ds) (hx : Passes CX X E)
    (ha : PA X (e :: es) t) (hdb : (x == ("__debug__" : Str)) = false := by decide) (he : starEach (e :: es) X.env = (false, eval e X.env) :: starEach es X.env := by rfl) (hpl : (backTo pos (starEach es X.env)).any (·.1) = false := by rfl) :
    PE X (.Call (.Name x p) (e :: es) [] pos) (tMake C sp dvs E t) := by
  intro pins s σ H Q I h
  refine wpAny_Call_Name_kw (ld_glob I hg hm ?_ hdb)
  refine PySem.W.callWith_K (h₀ := X.base) I.ok.mod.kin M.kp (thn (ha pos pins s σ H _ I h) fun us s1 ⟨vs, H1, I1, r, q⟩ => ⟨I1.kIn, ?_⟩) he hpl
  exact run_make M F hr hb hd hx I1 r q
end

section
variable {X : Cx} {CX : CXT} {k : Nat} {f C : Addr} {fd : FuncData} {ps ks : List Str} {sp : Sp} {E : XK} {x m : Str} {p pos apos kpos : Pos} {e o : Expr} {es : List Expr} {kws : List Keyword} {te ta : TE} {t tk : TA} {nm : Option Str}
structure KBinds (K : PySem.W.Frag) (fd : FuncData) (ps ks : List Str) (g : List Value → List Value → List Value) (gV : List V → List V → List V) : Prop where
  to : ∀ (s : Shared) (us ws : List Value), K.In s.heap → (g us ws).length = ps.length → BindsTo s fd ⟨us, ks.zip ws⟩ (ps.zip (g us ws))
  rel : ∀ {vs : List V} {us : List Value} {zs : List V} {ws : List Value}, Vals vs us → Vals zs ws → Vals (gV vs zs) (g us ws)
variable {g : List Value → List Value → List Value} {gV : List V → List V → List V}
end

structure FnScope (N P : List Str) (sc : Scope) : Prop where
  kind : sc.kind = .function
  co : sc.isCoroutine = false
  gen : sc.isGenerator = false
  nd : N.Nodup
  pre : N.take P.length = P
  par : ∀ x ∈ P, sc.names.lookup x = some .local ∨ sc.names.lookup x = some .cell
  nofree : ∀ y ∈ sc.names, y.2 ≠ .free

theorem bindL_out {kindOf : Str → Option NameKind} {x : Str} : ∀ {binds : List (Str × Value)} {m : Str → Option Value}, (∀ v, (x, v) ∉ binds) → bindL kindOf binds m x = m x
  | [], _, _ => rfl
  | (n, v) :: r, m, h => by
    unfold bindL
    rw [bindL_out fun w hw => h w (List.mem_cons_of_mem _ hw)]
    split
    · have : x ≠ n := by rintro rfl; exact h v List.mem_cons_self
      simp [this]
    · rfl
theorem bindC_out {kindOf : Str → Option NameKind} {x : Str} : ∀ {binds : List (Str × Value)} {m : Str → Option Value}, (∀ v, (x, v) ∉ binds) → bindC kindOf binds m x = m x
  | [], _, _ => rfl
  | (n, v) :: r, m, h => by
    unfold bindC
    rw [bindC_out fun w hw => h w (List.mem_cons_of_mem _ hw)]
    split
    · rfl
    · have : x ≠ n := by rintro rfl; exact h v List.mem_cons_self
      simp [this]
theorem bindL_get {kindOf : Str → Option NameKind} {x : Str} {v : Value} : ∀ {P : List Str} {vs : List Value} {i : Nat} {m : Str → Option Value}, P.Nodup → P[i]? = some x → vs[i]? = some v → kindOf x = some .local →
    bindL kindOf (P.zip vs) m x = some v
  | [], _, _, _, _, h, _, _ => by simp at h
  | _ :: _, [], _, _, _, _, h, _ => by simp at h
  | p :: P, w :: vs, 0, m, nd, h1, h2, hk => by
    simp at h1 h2; subst h1; subst h2
    show bindL kindOf ((p, w) :: P.zip vs) m p = _
    unfold bindL
    rw [bindL_out fun v hv => (List.nodup_cons.mp nd).1 (List.of_mem_zip hv).1, if_pos hk]
    simp
  | p :: P, w :: vs, i + 1, m, nd, h1, h2, hk => by
    show bindL kindOf ((p, w) :: P.zip vs) m x = _
    unfold bindL
    exact bindL_get (i := i) (List.nodup_cons.mp nd).2 (by simpa using h1) (by simpa using h2) hk
theorem bindC_get {kindOf : Str → Option NameKind} {x : Str} {v : Value} : ∀ {P : List Str} {vs : List Value} {i : Nat} {m : Str → Option Value}, P.Nodup → P[i]? = some x → vs[i]? = some v → kindOf x ≠ some .local →
    bindC kindOf (P.zip vs) m x = some v
  | [], _, _, _, _, h, _, _ => by simp at h
  | _ :: _, [], _, _, _, _, h, _ => by simp at h
  | p :: P, w :: vs, 0, m, nd, h1, h2, hk => by
    simp at h1 h2; subst h1; subst h2
    show bindC kindOf ((p, w) :: P.zip vs) m p = _
    unfold bindC
    rw [bindC_out fun v hv => (List.nodup_cons.mp nd).1 (List.of_mem_zip hv).1, if_neg hk]
    simp
  | p :: P, w :: vs, i + 1, m, nd, h1, h2, hk => by
    show bindC kindOf ((p, w) :: P.zip vs) m x = _
    unfold bindC
    exact bindC_get (i := i) (List.nodup_cons.mp nd).2 (by simpa using h1) (by simpa using h2) hk

def start (N : List Str) (vs : List V) : St := vs.map some ++ List.replicate (N.length - vs.length) none

def cxOf (CX : CXT) (P : Program) (w : World) (K : PySem.W.Frag) (mg : Str → Option Value) (base : Heap) (N : List Str) (qual : Str) (scope : Scope) (f : Addr) (cd : Value) (A : Around) (outer : List Env) (s : Shared) (H : Hp) (E : XK) : Cx where
  prog := P
  w := w
  K := K
  mg := mg
  base := base
  A := A.deeper (envOfC qual scope s.heap.objs.size f cd)
  N := N
  s₀ := s
  H₀ := H
  env := envOfC qual scope s.heap.objs.size f cd
  outer := outer
  stack := envOfC qual scope s.heap.objs.size f cd :: outer
  ex := []
  calm := true
  fn := fun _ => true
  pn := []
  xe := fun e s' => wpAny (model P w) (A.deeper (envOfC qual scope s.heap.objs.size f cd)) (leaving (envOfC qual scope s.heap.objs.size f cd) e) (fun _ s'' => CX outer H s E e s'') (fun e' s'' => CX outer H s E e' s'') s'

theorem cell_has {sc : Scope} {n : Nat} {x : Str} (h : sc.names.lookup x = some .cell) : ∃ c, (cellsFrom n sc.names []).lookup x = some c := by
  have q := PySem.W.cellsFrom_some sc.names n [] (.inl h)
  exact Option.isSome_iff_exists.mp q

theorem inv_start {CX : CXT} {P : Program} {w : World} {K : PySem.W.Frag} {mg : Str → Option Value} {base : Heap} {N ps : List Str} {qual : Str} {scope : Scope} {f : Addr} {cd : Value} {A : Around} {outer : List Env} {s s1 : Shared} {H : Hp} {E : XK} {us : List Value} {vs : List V}
    (S : FnScope N ps scope) (hd : A.handled = none) (e0 : Env0 P w K mg base A outer s H) (hl : vs.length = ps.length) (r : Vals vs us)
    (x : InCallC s s.heap.objs.size (bindL (envOfC qual scope s.heap.objs.size f cd).kindOf (ps.zip us) fun _ => none) (cellsFrom (s.heap.objs.size + 1) scope.names []) (bindC (envOfC qual scope s.heap.objs.size f cd).kindOf (ps.zip us) fun _ => none) s1) :
    Inv (cxOf CX P w K mg base N qual scope f cd A outer s H E) [] (start N vs) H s1 := by
  have hpl : ps.length ≤ N.length := by have := congrArg List.length S.pre; rw [List.length_take] at this; omega
  obtain ⟨h1, tk, rfl, hk⟩ := x.done
  have noA : ∀ b : Addr, b ∉ (cxOf CX P w K mg base N qual scope f cd A outer s H E).ex := fun b z => absurd (show b ∈ ([] : List Addr) from z) (by simp)
  refine ⟨⟨e0.mod, S.kind, rfl, rfl, Nat.le_refl _, fun y z c h1 h2 => ?_, fun y hy => ?_, fun y c _ h => ?_, fun _ => hd, Around.frames_deeper e0.frames, .inr ⟨rfl, rfl⟩, fun b z => absurd z (noA b), e0.bs, e0.bsz, fun b _ _ => noA b, fun b z => absurd z (noA b), e0.funs, e0.frf⟩,
    rfl, e0.bare, Un.kept hk, ⟨_, x.toInCall.ns, fun i y v h1 h2 h3 => ?_⟩, fun y c h => ⟨_, x.cell y c h⟩, e0.hok.fresh (Nat.le_refl _), fun y c h => ?_, fun p hp => absurd (show p ∈ ([] : List (Addr × Obj)) from hp) (by simp), e0.hok.kept hk, ?_⟩
  · exact name_of_addr x.apart (PySem.mem_of_lookup h1) (PySem.mem_of_lookup h2)
  · have hy : scope.names.lookup y = some .cell ∨ scope.names.lookup y = some .free := hy
    rcases hy with hy | hy
    · exact cell_has hy
    · exact absurd rfl (S.nofree _ (PySem.mem_of_lookup hy))
  · exact Nat.le_of_lt (x.above y c (PySem.mem_of_lookup h))
  · have hi : i < vs.length := by
      unfold start at h2
      by_cases hi : i < vs.length
      · exact hi
      · rw [List.getElem?_append_right (by simpa using hi)] at h2
        rw [List.getElem?_replicate] at h2
        split at h2 <;> cases h2
    have ha : vs[i]? = some v := by
      unfold start at h2
      rw [List.getElem?_append_left (by simpa using hi), List.getElem?_map] at h2
      cases e : vs[i]? with
      | none => rw [e] at h2; cases h2
      | some a => rw [e] at h2; cases h2; rfl
    obtain ⟨u, hu, rv⟩ := r.get ha
    have hp : ps[i]? = some y := by
      rw [← S.pre, List.getElem?_take_of_lt (by omega)]; exact h1
    have ndP : ps.Nodup := by rw [← S.pre]; exact S.nd.sublist (List.take_sublist _ _)
    refine ⟨u, rv, ?_⟩
    rcases S.par y (List.mem_of_getElem? hp) with k | k
    · exact .inl ⟨k, bindL_get ndP hp hu k⟩
    · obtain ⟨c, e⟩ := cell_has (n := s.heap.objs.size + 1) k
      refine .inr ⟨.inl k, c, e, ?_⟩
      have q := x.cell y c e
      rw [bindC_get ndP hp hu (by show scope.names.lookup y ≠ _; rw [k]; decide)] at q
      exact q
  · exact e0.hok.fresh (Nat.le_of_lt (x.above y c (PySem.mem_of_lookup h)))
  · unfold start
    show _ = N.length
    rw [List.length_append, List.length_map, List.length_replicate]
    omega

theorem fn_of {CX : CXT} {P : Program} {w : World} {K : PySem.W.Frag} {mg : Str → Option Value} {base : Heap} {k : Nat} {f : Addr} {name qual : Str} {params : Arguments} {body : List Stmt} {scope : Scope} {dV kV doc pm cdv ct oc : Value} {an od : Option Addr}
    {osl : Array (Option Value)} {N ps : List Str} {sp : Sp} (lk : K.lookup f = some ⟨oc, od, .func (PySem.W.fnOf name qual params body scope dV kV doc pm an cdv ct), osl⟩) (hcd : PySem.W.codeIn K cdv qual = true) (S : FnScope N ps scope)
    (len : ∀ vs H Q E, sp vs H Q E → vs.length = ps.length)
    (hbody : ∀ (A : Around) (outer : List Env) (s : Shared) (H : Hp) (vs : List V) (Q : VK) (E : XK), Room k (A.deeper (envOfC qual scope s.heap.objs.size f cdv)) → sp vs H Q E →
      ∃ t, PSs (cxOf CX P w K mg base N qual scope f cdv A outer s H E) body t ∧ t { nx := fun _ H' => Q .non H', rt := Q } (start N vs) H) :
    FnOk P w K mg base CX (k + 1) f (PySem.W.fnOf name qual params body scope dV kV doc pm an cdv ct) ps sp := by
  refine ⟨len, fun A outer s H args us vs Q E hr e0 hb r hsp => ?_⟩
  have hl := len _ _ _ _ hsp
  have KX : K.In s.heap := e0.mod.kin.keeps fun b o e => (e0.bs b o e).1
  have lim : s.heap.NoLimit := e0.mod.nolimit.keeps fun b o e => (e0.bs b o e).1
  have hkind : ∀ y ∈ ps.zip us, scope.names.lookup y.1 = some .local ∨ (scope.names.lookup y.1 = some .cell ∧ ((cellsFrom (s.heap.objs.size + 1) scope.names []).lookup y.1).isSome = true) := fun ⟨n, v⟩ hy => by
    rcases S.par n (List.of_mem_zip hy).1 with q | q
    · exact .inl q
    · exact .inr ⟨q, PySem.W.cellsFrom_some _ _ _ (.inl q)⟩
  refine codeAny_call_function hr.depth (KX _ _ lk) rfl S.co S.gen rfl (PySem.W.codeRec_of KX hcd) (hb _ _ _ _ ?_)
  refine wpAny_newFunctionEnv_cells S.kind hkind fun env he s1 x => ?_
  subst he
  refine ⟨lim.keeps x.toInCall.keep, codeAny_func ?_⟩
  obtain ⟨t, ht, hq⟩ := hbody A outer s H vs Q E (hr.deeper _) hsp
  have I : Inv (cxOf CX P w K mg base N qual scope f cdv A outer s H E) [] (start N vs) H s1 := inv_start S hr.hd e0 hl r x
  refine wpAny_mono (ht [] s1 (start N vs) H _ I hq) (fun fl s' hs => ?_) fun e s' hs => hs
  have fin : ∀ {σ' : St} {H' : Hp} {v : V} {u : Value}, Inv (cxOf CX P w K mg base N qual scope f cdv A outer s H E) [] σ' H' s' → RelV v u → Q v H' → CE outer P w H s Q u s' :=
    fun {σ' H' v u} J rv q => ⟨v, H', J.os, J.bare, J.base, J.hok, rv, q⟩
  cases fl with
  | ret u =>
    obtain ⟨v, σ', H', J, rv, q⟩ := hs
    exact fin J rv q
  | next =>
    obtain ⟨σ', H', J, q⟩ := hs
    exact fin (v := V.non) (u := Value.none) J rfl q
  | brk =>
    obtain ⟨_, _, _, q⟩ := hs
    exact False.elim q
  | cont =>
    obtain ⟨_, _, _, q⟩ := hs
    exact False.elim q
end L2

namespace L2
open PySem PySem.Spec PyProof.Rows
section
variable {X : Cx} {x : Str} {p pos : Pos} {e : Expr} {es : List Expr} {t : TA} {id T : String} {r : List V → Hp → VK → Prop}

def tCB (r : List V → Hp → VK → Prop) (t : TA) : TE := fun σ H Q => t σ H fun vs H1 => r vs H1 Q
theorem pe_callB (hc : CallR X (.builtin id) r) (hg : Gl X x) (hm : X.mg x = none) (hv : bootBuiltins x = some (.builtin id)) (ha : PA X (e :: es) t) (hn : x ≠ "__name__" := by decide) (hdb : (x == ("__debug__" : Str)) = false := by decide)
    (he : starEach (e :: es) X.env = (false, eval e X.env) :: starEach es X.env := by rfl) (hpl : (backTo pos (starEach es X.env)).any (·.1) = false := by rfl) : PE X (.Call (.Name x p) (e :: es) [] pos) (tCB r t) := by
  intro pins s σ H Q I h
  refine wpAny_Call_Name_kw (ld_blt I hg hm hv ?_ hn hdb)
  exact PyProof.Rows.callWith_builtin1 (thn (ha pos pins s σ H _ I h) fun us s1 ⟨vs, H1, I1, r1, q1⟩ => hc pins s1 σ H1 vs us Q I1 r1 q1) he hpl
theorem pe_callTy (hc : CallR X (.type T) r) (hg : Gl X x) (hm : X.mg x = none) (hv : bootBuiltins x = some (.type T)) (ha : PA X (e :: es) t) (hn : x ≠ "__name__" := by decide) (hdb : (x == ("__debug__" : Str)) = false := by decide)
    (he : starEach (e :: es) X.env = (false, eval e X.env) :: starEach es X.env := by rfl) (hpl : (backTo pos (starEach es X.env)).any (·.1) = false := by rfl) : PE X (.Call (.Name x p) (e :: es) [] pos) (tCB r t) := by
  intro pins s σ H Q I h
  refine wpAny_Call_Name_kw (ld_blt I hg hm hv ?_ hn hdb)
  exact PyProof.Rows.callWith_type1 (thn (ha pos pins s σ H _ I h) fun us s1 ⟨vs, H1, I1, r1, q1⟩ => hc pins s1 σ H1 vs us Q I1 r1 q1) he hpl
end
end L2

namespace HT
open PySem PyProof.Rows

section
open PySem.SeqAt
open PySem.AutoSeq1 (wpAny_loadPart')
open PySem.MeetsSeq PySem.MeetsSeq2 PySem.MeetsSeq3

end

section
variable {prog : Program} {w : World} {A : Around} {E : Value → Shared → Prop} {s : Shared}

end
end HT

namespace L2
open PySem PySem.Spec PyProof.Rows

abbrev TO := St → Hp → (Option Int → Hp → Prop) → Prop
section
variable {X : Cx} {e : Expr} {te : TE} {lo hi : Option Expr} {tl th : TO} {pos p2 : Pos}

end
end L2

namespace L2
open PySem PySem.Spec PyProof.Rows

def ixN (n : Nat) (i : Int) : Option Nat := if 0 ≤ i then (if i < n then some i.toNat else none) else if -(n : Int) ≤ i then some (i + n).toNat else none
def atI {α : Type} (xs : List α) (i : Int) : Option α := (ixN xs.length i).bind fun j => xs[j]?
theorem ixN_seq {n : Nat} {i : Int} {j : Nat} (h : ixN n i = some j) : seqIndex? i n = some j ∧ j < n ∧ -(n : Int) ≤ i ∧ i < n := by
  unfold ixN at h
  by_cases h0 : 0 ≤ i
  · rw [if_pos h0] at h
    by_cases h1 : i < n
    · rw [if_pos h1] at h
      have e : i.toNat = j := Option.some.inj h
      exact ⟨by rw [seqIndex_of h0 h1, e], by omega, by omega, h1⟩
    · rw [if_neg h1] at h; cases h
  · rw [if_neg h0] at h
    by_cases h1 : -(n : Int) ≤ i
    · rw [if_pos h1] at h
      have e : (i + n).toNat = j := Option.some.inj h
      exact ⟨by rw [seqIndex_neg (by omega) h1, e], by omega, h1, by omega⟩
    · rw [if_neg h1] at h; cases h
theorem atI_get {α : Type} {xs : List α} {i : Int} {v : α} (h : atI xs i = some v) : ∃ j, seqIndex? i xs.length = some j ∧ xs[j]? = some v ∧ j < xs.length ∧ -(xs.length : Int) ≤ i ∧ i < xs.length := by
  unfold atI at h
  cases e : ixN xs.length i with
  | none => rw [e] at h; cases h
  | some j =>
    rw [e] at h
    obtain ⟨h1, h2, h3, h4⟩ := ixN_seq e
    exact ⟨j, h1, h, h2, h3, h4⟩
theorem atI_nat {α : Type} {xs : List α} {j : Nat} {v : α} (h : xs[j]? = some v) : atI xs (j : Int) = some v := by
  have hj : j < xs.length := (List.getElem?_eq_some_iff.mp h).1
  have e : ixN xs.length (j : Int) = some j := by
    unfold ixN
    rw [if_pos (by omega), if_pos (by omega)]; simp
  unfold atI; rw [e]; exact h
def PlainIx (b : Expr) : Prop := ∀ o i, subscripted b false o i = operate [o, i] (getItem o i)
def IxR (X : Cx) (r : R2) : Prop :=
  ∀ (value slice : Expr) (pins : List (Addr × Obj)) (s : Shared) (σ : St) (H : Hp) (x y : V) (v u : Value) (Q : VK), Inv X pins σ H s → RelV x v → RelV y u → r x y H Q →
    subscripted slice false v u = operate [v, u] (getItem v u) → wpAny (model X.prog X.w) X.A (subscriptTail value slice v u) (EP X pins σ Q) X.xe s
def MtR (X : Cx) (id : String) (r : V → List V → Hp → VK → Prop) : Prop :=
  ∀ (pins : List (Addr × Obj)) (s : Shared) (σ : St) (H : Hp) (x : V) (xs : List V) (v : Value) (us : List Value) (Q : VK), Inv X pins σ H s → RelV x v → Vals xs us → r x xs H Q →
    wpAny (model X.prog X.w) X.A (call (.builtin id) (v :: us)) (EP X pins σ Q) X.xe s
section
variable {X : Cx} {a b : Expr} {ta tb : TE} {pos : Pos}
theorem pe_ix {r : R2} (hr : IxR X r) (ha : PE X a ta) (hb : PE X b tb) (hs : PlainIx b) : PE X (.Subscript a b pos) (tOp r ta tb) := by
  intro pins s σ H Q I h
  exact Subscript_ (binT ha hb I h fun v u s2 x y H2 I2 rx ry q => hr a b pins s2 σ H2 x y v u Q I2 rx ry q (hs _ _))

def rIxL (K : PySem.W.Frag) : R2 := fun x y H Q => ∃ p xs i v, x = .ref p ∧ y = .int i ∧ SqL K H p xs ∧ atI xs i = some v ∧ Q v H
def rIxT (K : PySem.W.Frag) : R2 := fun x y H Q => ∃ p xs i v, x = .ref p ∧ y = .int i ∧ SqT K H p xs ∧ atI xs i = some v ∧ Q v H
def rIxS : R2 := fun x y H Q => ∃ z i c, x = .str z ∧ y = .int i ∧ z.length ≤ sizeLine ∧ atI z.cps.toList i = some c ∧ Q (.str ⟨#[c]⟩) H
theorem ix_list : IxR X (rIxL X.K) := by
  intro value slice pins s σ H x y v u Q I rx ry h hs
  obtain ⟨p, xs, i, z, rfl, rfl, hq, he, q⟩ := h
  cases rx
  obtain ⟨t, rfl⟩ := ry
  obtain ⟨its, r, pl, hz⟩ := I.list hq
  obtain ⟨j, h1, h2, h3, h4, h5⟩ := atI_get he
  obtain ⟨w, ew, rw'⟩ := r.get h2
  have hl := r.length
  have hn := line63
  have fin : EP X pins σ Q w s := ⟨z, H, I, rw', q⟩
  by_cases h0 : 0 ≤ i
  · have hj : i.toNat = j := by
      rw [seqIndex_of h0 h5] at h1
      exact Option.some.inj h1
    exact item_listR pl.isList h0 (by omega) (by rw [hj]; simpa using ew) fin hs
  · have hj : (i + (its.toArray.size : Int)).toNat = j := by
      rw [seqIndex_neg (by omega) h4] at h1
      rw [List.size_toArray, ← hl]
      exact Option.some.inj h1
    exact subscriptTail_builtinR (x := w) pl.isList.typeIs slot_list_getitem.lookup
      (wpAny_getItem_list_neg (Q := fun r s' => r = w ∧ EP X pins σ Q r s') pl.isList (by omega) (by rw [List.size_toArray] <;> omega) (by omega) (by rw [hj]; simpa using ew) ⟨rfl, fin⟩) hs
theorem ix_tup : IxR X (rIxT X.K) := by
  intro value slice pins s σ H x y v u Q I rx ry h hs
  obtain ⟨p, xs, i, z, rfl, rfl, hq, he, q⟩ := h
  cases rx
  obtain ⟨t, rfl⟩ := ry
  obtain ⟨its, r, pl, hz⟩ := I.tuple hq
  obtain ⟨j, h1, h2, h3, h4, h5⟩ := atI_get he
  obtain ⟨w, ew, rw'⟩ := r.get h2
  have hl := r.length
  have hn := line63
  have fin : EP X pins σ Q w s := ⟨z, H, I, rw', q⟩
  exact subscriptTail_builtinR (x := w) pl.typeIs slot_tuple_getitem.lookup
    (getItem_tuple (j := j) (Q := fun r s' => r = w ∧ EP X pins σ Q r s') pl (by omega) (by omega) (by rw [List.size_toArray, ← hl]; exact h1) (by simpa using ew) ⟨rfl, fin⟩) hs
theorem ix_str : IxR X rIxS := by
  intro value slice pins s σ H x y v u Q I rx ry h hs
  obtain ⟨z, i, c, rfl, rfl, hz, he, q⟩ := h
  obtain ⟨t, rfl⟩ := rx
  obtain ⟨t', rfl⟩ := ry
  obtain ⟨j, h1, h2, h3, h4, h5⟩ := atI_get he
  have hl : z.cps.toList.length = z.length := by simp [Str.length]
  rw [hl] at h1 h4 h5
  have hn := line63
  exact tail_any (typeIs_str s z t) slot_str_getitem.lookup (getItem_str (c := c) (by
    have e1 : decide (i < -(2 ^ 63 : Int)) = false := decide_eq_false (by omega)
    have e2 : decide (i ≥ 2 ^ 63) = false := decide_eq_false (by omega)
    rw [e1, e2, Bool.or_false]) (by rw [h1]; simpa using h2) ⟨.str ⟨#[c]⟩, H, I.tok _, ⟨_, rfl⟩, q⟩) hs
theorem mapSeq_set (its : List Value) (n j : Nat) (u : Value) : Obj.mapSeq (·.setIfInBounds j u) { cls := .type "list", data := .seq its.toArray n } = { cls := .type "list", data := .seq (its.set j u).toArray n } := by
  simp [Obj.mapSeq]
theorem Inv.lst {pins : List (Addr × Obj)} {σ : St} {H : Hp} {s : Shared} {p : Addr} {xs : List V} (I : Inv X pins σ H s) (h : H p = some (.lst xs)) :
    ∃ (its : List Value) (n : Nat), Vals xs its ∧ s.heap.get? p = some { cls := .type "list", data := .seq its.toArray n } ∧ xs.length ≤ sizeLine := by
  obtain ⟨z, its, n, r, e⟩ := I.hok p _ h
  exact ⟨its, n, r, e, z⟩
theorem Inv.lstUpd {pins : List (Addr × Obj)} {σ : St} {H : Hp} {s : Shared} {p : Addr} {xs ys : List V} {its its' : List Value} {n n' : Nat} {f : Obj → Obj} (I : Inv X pins σ H s) (h : H p = some (.lst xs))
    (ho : s.heap.get? p = some { cls := .type "list", data := .seq its.toArray n }) (hf : f { cls := .type "list", data := .seq its.toArray n } = { cls := .type "list", data := .seq its'.toArray n' }) (r : Vals ys its') (hz : ys.length ≤ sizeLine) (t : Nat) :
    Inv X pins σ (upd H p (.lst ys)) { s with heap := s.heap.update p f, toks := t } := by
  have e : (s.heap.update p f).get? p = some { cls := .type "list", data := .seq its'.toArray n' } := by
    rw [Heap.get?_update_self f ho (by rw [hf] <;> rfl), hf]
  refine I.write (x := p) (e := p) (by rw [h]; trivial) (.inl rfl) (fun b u hb q => (Heap.get?_update_other _ _ (Ne.symm hb)).trans q) ⟨_, e⟩ ?_
  exact ⟨hz, its', n', r, e⟩
def rSetL : V → V → V → Hp → (Hp → Prop) → Prop := fun o i v H Q => ∃ p xs k j, o = .ref p ∧ i = .int k ∧ H p = some (.lst xs) ∧ ixN xs.length k = some j ∧ Q (upd H p (.lst (xs.set j v)))
theorem set_list : PSet X rSetL := by
  intro pins s σ H o i v ov iv u Q I ro ri rv h
  obtain ⟨p, xs, k, j, rfl, rfl, hp, hj, q⟩ := h
  cases ro
  obtain ⟨t, rfl⟩ := ri
  obtain ⟨its, n, r, ho, hz⟩ := I.lst hp
  obtain ⟨h1, h2, h3, h4⟩ := ixN_seq hj
  have hl := r.length
  have hn := line63
  have I' : Inv X pins σ (upd H p (.lst (xs.set j v))) { s with heap := s.heap.update p (Obj.mapSeq (·.setIfInBounds j u)) } :=
    I.lstUpd hp ho (mapSeq_set its n j u) (r.set rv j) (by rw [List.length_set]; exact hz) s.toks
  by_cases h0 : 0 ≤ k
  · have hk : k.toNat = j := by
      rw [seqIndex_of h0 h4] at h1
      exact Option.some.inj h1
    exact PySem.W.ki_setAt ho h0 (by omega) (by rw [List.size_toArray, ← hl]; exact h4) (by rw [hk]; exact ⟨_, I', q⟩)
  · have hk : (k + (its.toArray.size : Int)).toNat = j := by
      rw [seqIndex_neg (by omega) h3] at h1
      rw [List.size_toArray, ← hl]
      exact Option.some.inj h1
    exact PySem.W.ki_setBack ho (by omega) (by rw [List.size_toArray, ← hl]; exact h3) (by omega) (by rw [hk]; exact ⟨_, I', q⟩)

def flatV : V → Bool
  | .non => true
  | .bl _ => true
  | .int _ => true
  | .str _ => true
  | _ => false
def eqV : V → V → Bool
  | .non, .non => true
  | .bl a, .bl b => a == b
  | .bl a, .int b => (if a then 1 else 0) == b
  | .int a, .bl b => a == (if b then 1 else 0)
  | .int a, .int b => a == b
  | .str a, .str b => a == b
  | _, _ => false
theorem eqAt_V {A : Around} {s : Shared} {y x : V} {u v : Value} (ry : RelV y u) (rx : RelV x v) (fy : flatV y = true) (fx : flatV x = true) : SeqAt.EqAt A s u v (eqV y x) := by
  cases y with
  | non =>
    cases ry
    cases x with
    | non => cases rx; exact SeqAt.EqAt.same _
    | bl b => cases rx; exact SeqAt.EqAt.none_bool b
    | int b => obtain ⟨t, rfl⟩ := rx; exact SeqAt.EqAt.none_int b t
    | str b => obtain ⟨t, rfl⟩ := rx; exact SeqAt.EqAt.none_str b t
    | _ => exact absurd (show false = true from fx) Bool.false_ne_true
  | bl a =>
    cases ry
    cases x with
    | non => cases rx; exact SeqAt.EqAt.bool_none a
    | bl b => cases rx; exact SeqAt.EqAt.bool_bool a b
    | int b => obtain ⟨t, rfl⟩ := rx; exact SeqAt.EqAt.bool_int a b t
    | str b => obtain ⟨t, rfl⟩ := rx; exact SeqAt.EqAt.bool_str a b t
    | _ => exact absurd (show false = true from fx) Bool.false_ne_true
  | int a =>
    obtain ⟨t', rfl⟩ := ry
    cases x with
    | non => cases rx; exact SeqAt.EqAt.int_none a t'
    | bl b => cases rx; exact SeqAt.EqAt.int_bool a t' b
    | int b => obtain ⟨t, rfl⟩ := rx; exact SeqAt.EqAt.int_int a t' b t
    | str b => obtain ⟨t, rfl⟩ := rx; exact SeqAt.EqAt.int_str a t' b t
    | _ => exact absurd (show false = true from fx) Bool.false_ne_true
  | str a =>
    obtain ⟨t', rfl⟩ := ry
    cases x with
    | non => cases rx; exact SeqAt.EqAt.str_none a t'
    | bl b => cases rx; exact SeqAt.EqAt.str_bool a t' b
    | int b => obtain ⟨t, rfl⟩ := rx; exact SeqAt.EqAt.str_int a t' b t
    | str b => obtain ⟨t, rfl⟩ := rx; exact SeqAt.EqAt.str_str a t' b t
    | _ => exact absurd (show false = true from fx) Bool.false_ne_true
  | _ => exact absurd (show false = true from fy) Bool.false_ne_true
def eqU (x : V) (u : Value) : Bool := match u with
  | .none => eqV .non x
  | .bool b => eqV (.bl b) x
  | .int i _ => eqV (.int i) x
  | .str z _ => eqV (.str z) x
  | _ => false
theorem eqU_of {x y : V} {u : Value} (r : RelV y u) (f : flatV y = true) : eqU x u = eqV y x := by
  cases y with
  | non => cases r; rfl
  | bl b => cases r; rfl
  | int i => obtain ⟨t, rfl⟩ := r; rfl
  | str z => obtain ⟨t, rfl⟩ := r; rfl
  | _ => exact absurd (show false = true from f) Bool.false_ne_true
theorem any_eqU {x : V} : ∀ {xs : List V} {us : List Value}, Vals xs us → xs.all flatV = true → us.any (eqU x) = xs.any fun y => eqV y x
  | _, _, .nil, _ => rfl
  | y :: xs, u :: us, .cons r t, f => by
    rw [List.all_cons, Bool.and_eq_true] at f
    rw [List.any_cons, List.any_cons, eqU_of r f.1, any_eqU t f.2]
theorem mem_eqAt {A : Around} {s : Shared} {x : V} {v : Value} (rx : RelV x v) (fx : flatV x = true) : ∀ {xs : List V} {us : List Value}, Vals xs us → xs.all flatV = true → ∀ u ∈ us, SeqAt.EqAt A s u v (eqU x u)
  | _, _, .nil, _ => fun u hu => by cases hu
  | y :: xs, u :: us, .cons r t, f => fun u' hu => by
    rw [List.all_cons, Bool.and_eq_true] at f
    rcases List.mem_cons.mp hu with rfl | hu
    · rw [eqU_of r f.1]; exact eqAt_V r rx f.1 fx
    · exact mem_eqAt rx fx t f.2 u' hu
def inV (x : V) (xs : List V) : Bool := xs.any fun y => eqV y x
def rIn (K : PySem.W.Frag) (neg : Bool) : R2 := fun x y H Q => ∃ p xs, y = .ref p ∧ (SqL K H p xs ∨ SqT K H p xs) ∧ flatV x = true ∧ xs.all flatV = true ∧ Q (.bl (if neg then !inV x xs else inV x xs)) H
theorem op_in_seq : OpR X (compareOp .In) (rIn X.K false) := by
  intro pins s σ H x y v u Q I rx ry h
  obtain ⟨p, xs, rfl, hq, fx, fs, q⟩ := h
  cases ry
  rcases hq with hq | hq
  · obtain ⟨its, r, pl, hz⟩ := I.list hq
    refine SeqAt.in_listAt (eqU x) pl.isList (fun w hw => mem_eqAt rx fx r fs w (by simpa using hw)) ⟨.bl _, H, I, rfl, ?_⟩
    rw [show its.toArray.any (eqU x) = its.any (eqU x) by simp, any_eqU r fs]
    exact q
  · obtain ⟨its, r, pl, hz⟩ := I.tuple hq
    refine SeqAt.in_tupleAt (eqU x) pl (fun w hw => mem_eqAt rx fx r fs w (by simpa using hw)) ⟨.bl _, H, I, rfl, ?_⟩
    rw [show its.toArray.any (eqU x) = its.any (eqU x) by simp, any_eqU r fs]
    exact q
theorem call_len_seq : CallR X (.builtin "len") (fun xs H Q => ∃ p ys, xs = [.ref p] ∧ (SqL X.K H p ys ∨ SqT X.K H p ys) ∧ Q (.int ys.length) H) := by
  intro pins s σ H xs us Q I r h
  obtain ⟨p, ys, rfl, hq, q⟩ := h
  obtain ⟨u, rfl, rx⟩ := vals1 r
  cases rx
  have hn := line63
  rcases hq with hq | hq
  · obtain ⟨its, r', pl, hz⟩ := I.list hq
    have hlen := r'.length
    exact Calls.call_len_list pl.isList (by simp only [List.size_toArray] <;> omega) ⟨.int ys.length, H, I.tok _, ⟨s.toks + 1, by rw [List.size_toArray, hlen]⟩, q⟩
  · obtain ⟨its, r', pl, hz⟩ := I.tuple hq
    have hlen := r'.length
    exact len_tuple pl (by simp only [List.size_toArray] <;> omega) ⟨.int ys.length, H, I.tok _, ⟨s.toks + 1, by rw [List.size_toArray, hlen]⟩, q⟩
theorem call_len_str : CallR X (.builtin "len") (fun xs H Q => ∃ z, xs = [.str z] ∧ z.length ≤ sizeLine ∧ Q (.int z.length) H) := by
  intro pins s σ H xs us Q I r h
  obtain ⟨z, rfl, hz, q⟩ := h
  obtain ⟨u, rfl, t, rfl⟩ := vals1 r
  have hn := line63
  exact len_str (by omega) ⟨.int z.length, H, I.tok _, ⟨_, rfl⟩, q⟩
theorem call_list_of : CallR X (.type "list") (fun xs H Q => ∃ p ys, xs = [.ref p] ∧ (SqL X.K H p ys ∨ SqT X.K H p ys) ∧ ∀ l, H l = none → Q (.ref l) (upd H l (.lst ys))) := by
  intro pins s σ H xs us Q I r h
  obtain ⟨p, ys, rfl, hq, q⟩ := h
  obtain ⟨u, rfl, rx⟩ := vals1 r
  cases rx
  have fin : ∀ (its : List Value), Vals ys its → ys.length ≤ sizeLine → ∀ (h' : Heap) (c' : Nat), (∀ b o', s.heap.get? b = some o' → h'.get? b = some o') →
      h'.get? s.heap.objs.size = some { cls := .type "list", dict := none, data := .seq its.toArray c', slots := #[] } → EP X pins σ Q (.ref s.heap.objs.size) { s with heap := h' } := fun its r' hz h' c' kp e =>
    ⟨.ref s.heap.objs.size, _, I.laid (t' := s.toks) kp (Nat.le_refl _) (show ObjOk X.prog X.w _ h' _ (.lst ys) from ⟨hz, its, c', r', e⟩), rfl, q _ (I.hok.fresh (Nat.le_refl _))⟩
  rcases hq with hq | hq
  · obtain ⟨its, r', pl, hz⟩ := I.list hq
    have hlen := r'.length
    obtain ⟨o, ho, hc, n, hd⟩ := pl.isList
    exact call_list_seq p (.inl rfl) ho hc hd (fun h' c' kp e => fin its r' hz h' c' kp e) (by simp only [List.size_toArray] <;> omega)
  · obtain ⟨its, r', pl, hz⟩ := I.tuple hq
    have hlen := r'.length
    obtain ⟨o, ho, hc, n, hd⟩ := pl
    exact call_list_seq p (.inr rfl) ho hc hd (fun h' c' kp e => fin its r' hz h' c' kp e) (by simp only [List.size_toArray] <;> omega)
theorem call_tuple_of : CallR X (.type "tuple") (fun xs H Q => ∃ p ys, xs = [.ref p] ∧ ((SqL X.K H p ys ∧ ∀ l, H l = none → Q (.ref l) (upd H l (.tup ys))) ∨ (SqT X.K H p ys ∧ Q (.ref p) H))) := by
  intro pins s σ H xs us Q I r h
  obtain ⟨p, ys, rfl, h⟩ := h
  obtain ⟨u, rfl, rx⟩ := vals1 r
  cases rx
  rcases h with ⟨hq, q⟩ | ⟨hq, q⟩
  · obtain ⟨its, r', pl, hz⟩ := I.list hq
    have hlen := r'.length
    refine call_tuple_list pl.isList (fun h' kp => ?_) (by simp only [List.size_toArray] <;> omega)
    have I1 : Inv X pins σ H { s with heap := h' } := I.kept (t' := s.toks) kp
    have I2 : Inv X pins σ (upd H h'.objs.size (.tup ys)) { s with heap := h'.push { cls := .type "tuple", data := .seq its.toArray } } :=
      I1.laid (t' := s.toks) (fun b o e => Heap.get?_push_of_some _ e) (Nat.le_refl _) (show ObjOk X.prog X.w _ _ _ (.tup ys) from ⟨hz, its, r', IsTup.new _ _, _, Heap.get?_push_size _ rfl, rfl⟩)
    exact ⟨.ref h'.objs.size, _, I2, rfl, q _ (I1.hok.fresh (Nat.le_refl _))⟩
  · obtain ⟨its, r', pl, hz⟩ := I.tuple hq
    exact call_tuple_same pl ⟨.ref p, H, I, rfl, q⟩

def tyV (K : PySem.W.Frag) (T : String) (x : V) (H : Hp) : Prop := match x with
  | .str _ => T = "str"
  | .int _ => T = "int"
  | .ref p => (T = "list" ∧ ∃ xs, SqL K H p xs) ∨ (T = "tuple" ∧ ∃ o, K.lookup p = some o ∧ o.cls = .type "tuple" ∧ o.dict = none) ∨
      (T = "dict" ∧ ((∃ kvs, H p = some (.dK kvs)) ∨ ∃ kvs, H p = some (.dT kvs))) ∨ (T = "set" ∧ ∃ S n, H p = some (.set S n))
  | _ => False
theorem tyV_is {pins : List (Addr × Obj)} {σ : St} {H : Hp} {s : Shared} {T : String} {x : V} {v : Value} (I : Inv X pins σ H s) (r : RelV x v) (ty : tyV X.K T x H) :
    s.TypeIs v T ∧ ∀ a, v = .ref a → ∃ ob, s.heap.get? a = some ob ∧ ob.dict = none := by
  cases x with
  | str z =>
    obtain ⟨t, rfl⟩ := r
    cases (show T = "str" from ty)
    exact ⟨typeIs_str s z t, fun _ e => nomatch e⟩
  | int i =>
    obtain ⟨t, rfl⟩ := r
    cases (show T = "int" from ty)
    exact ⟨typeIs_int s i t, fun _ e => nomatch e⟩
  | ref p =>
    cases r
    rcases ty with ⟨rfl, xs, hq⟩ | ⟨rfl, o, hk, hc, hd⟩ | ⟨rfl, hk⟩ | ⟨rfl, S, n, hk⟩
    · obtain ⟨its, _, pl, _⟩ := I.list hq
      refine ⟨pl.isList.typeIs, fun a e => ?_⟩
      cases e
      obtain ⟨o, n, e, c, hd, _⟩ := pl
      exact ⟨o, e, hd⟩
    · refine ⟨⟨o, I.kIn p o hk, hc⟩, fun a e => ?_⟩
      cases e
      exact ⟨o, I.kIn _ o hk, hd⟩
    · have z : ∃ o, s.heap.get? p = some o ∧ o.ExactDict := by
        rcases hk with ⟨kvs, hk⟩ | ⟨kvs, hk⟩
        · obtain ⟨_, _, _, _, o, _, _, e, ex, _⟩ := I.hok p _ hk
          exact ⟨o, e, ex⟩
        · obtain ⟨_, _, _, _, o, _, _, e, ex, _⟩ := I.hok p _ hk
          exact ⟨o, e, ex⟩
      obtain ⟨o, e, ex⟩ := z
      refine ⟨⟨o, e, ex.1⟩, fun a e2 => ?_⟩
      cases e2
      exact ⟨o, e, ex.2.1⟩
    · obtain ⟨o, _, _, _, e, ex, _⟩ := I.hok p _ hk
      refine ⟨⟨o, e, ex.1⟩, fun a e2 => ?_⟩
      cases e2
      exact ⟨o, e, ex.2.1⟩
  | _ => exact False.elim ty
def tBM (K : PySem.W.Frag) (T : String) (r : V → List V → Hp → VK → Prop) (to : TE) (t : TA) : TE := fun σ H Q => to σ H fun x H1 => tyV K T x H1 ∧ t σ H1 fun xs H2 => r x xs H2 Q
variable {o e : Expr} {es : List Expr} {to : TE} {t : TA} {name : Str} {apos cpos : Pos} {T id : String} {r : V → List V → Hp → VK → Prop}
theorem pe_bm (pa : PlainAttrs T) (slot : Slot T name id) (hty : typeOf (.builtin id) = pure (.type "method_descriptor")) (hm : MtR X id r) (ho : PE X o to) (ha : PA X (e :: es) t)
    (hbase : attributeBase o name X.env (eval o X.env) = eval o X.env := by rfl)
    (hfew : ((backTo cpos (starEach (e :: es) X.env)).all (fun x => !x.1) && (backToKw cpos (keywordEach [] X.env)).all (fun x => x.1.isSome)
      && decide ((e :: es).length + ([] : List Keyword).length + (if ([] : List Keyword).isEmpty then 0 else 1) < 30)) = true := by rfl)
    (hline : (apos.endLine == cpos.line) = true := by rfl) (hs : starEach (e :: es) X.env = (false, eval e X.env) :: starEach es X.env := by rfl) (hplain : (backTo cpos (starEach es X.env)).any (·.1) = false := by rfl) :
    PE X (.Call (.Attribute o name apos) (e :: es) [] cpos) (tBM X.K T r to t) := by
  intro pins s σ H Q I h
  refine wpAny_Call_method_late hbase hfew hline rfl (thn (ho pins s σ H _ I h) fun v s1 ⟨x, H1, I1, r1, ty, q1⟩ => ?_)
  obtain ⟨h1, h2⟩ := tyV_is I1 r1 ty
  refine ⟨T, id, pa, slot, hty, h1, h2, ?_⟩
  have hA := ha cpos pins s1 σ H1 _ I1 q1
  rw [hs] at hA ⊢
  refine Calls.callWith_builtin (by show (false || (backTo cpos (starEach es X.env)).any (·.1)) = false; rw [hplain] <;> rfl) (Calls.evalArgs_plain ?_)
  exact thn hA fun us s2 ⟨vs, H2, I2, r2, q2⟩ => hm pins s2 σ H2 x vs v us Q I2 r1 r2 q2
end
end L2

namespace L2
open PySem PySem.Spec PyProof.Rows

def MtM (X : Cx) (id : String) (r : V → List V → Hp → VK → Prop) : Prop :=
  ∀ (pins : List (Addr × Obj)) (s : Shared) (σ : St) (H : Hp) (x : V) (xs : List V) (v : Value) (us : List Value) (Q : VK), Inv X pins σ H s → RelV x v → Vals xs us → r x xs H Q →
    wpAny (model X.prog X.w) X.A (call (.builtin id) (v :: us)) (EP X pins σ Q) X.xe s

theorem Vals.one : ∀ {x : V} {us : List Value}, Vals [x] us → ∃ u, us = [u] ∧ RelV x u
  | _, _, .cons r .nil => ⟨_, rfl, r⟩
theorem Vals.two : ∀ {x y : V} {us : List Value}, Vals [x, y] us → ∃ u v, us = [u, v] ∧ RelV x u ∧ RelV y v
  | _, _, _, .cons r (.cons q .nil) => ⟨_, _, rfl, r, q⟩
theorem Vals.zero : ∀ {us : List Value}, Vals [] us → us = []
  | _, .nil => rfl
theorem Vals.reverse {xs : List V} {us : List Value} (h : Vals xs us) : Vals xs.reverse us.reverse := by
  induction h with
  | nil => exact .nil
  | cons r t ih => rw [List.reverse_cons, List.reverse_cons]; exact Vals.append ih (.cons r .nil)
theorem Vals.rep {xs : List V} {us : List Value} (h : Vals xs us) : ∀ k : Nat, Vals (List.replicate k xs).flatten (List.replicate k us).flatten
  | 0 => .nil
  | k + 1 => by
    rw [List.replicate_succ, List.replicate_succ, List.flatten_cons, List.flatten_cons]
    exact Vals.append h (Vals.rep h k)
section
variable {X : Cx} {pins : List (Addr × Obj)} {σ : St} {H : Hp} {s : Shared} {l b : Addr} {xs ys zs : List V}

theorem Inv.lset {its its' : List Value} {n : Nat} {f : Array Value → Array Value} {t' : Nat} (I : Inv X pins σ H s) (hH : H l = some (.lst xs))
    (e : s.heap.get? l = some { cls := .type "list", data := .seq its.toArray n }) (hf : f its.toArray = its'.toArray) (hv : Vals ys its') (hz : ys.length ≤ sizeLine) :
    Inv X pins σ (upd H l (.lst ys)) { s with heap := s.heap.update l (Obj.mapSeq f), toks := t' } := by
  have q := PySem.IsL.update e f
  rw [hf] at q
  refine I.write (x := l) (e := l) (by rw [hH]; exact trivial) (.inl rfl) (fun b' u hb hu => (Heap.get?_update_other s.heap (Obj.mapSeq f) (Ne.symm hb)).trans hu) ⟨_, q⟩ ?_
  exact ⟨hz, its', _, hv, q⟩
theorem Inv.lnew {its : List Value} {t' : Nat} (I : Inv X pins σ H s) (hv : Vals ys its) (hz : ys.length ≤ sizeLine) :
    Inv X pins σ (upd H s.heap.objs.size (.lst ys)) { s with heap := s.heap.push { cls := .type "list", data := .seq its.toArray }, toks := t' } :=
  I.laid (fun _ _ q => Heap.get?_push_of_some _ q) (Nat.le_refl _) ⟨hz, its, 0, hv, Heap.get?_push_size _ rfl⟩
theorem Inv.fresh (I : Inv X pins σ H s) : H s.heap.objs.size = none := I.hok.fresh (Nat.le_refl _)
theorem Inv.lstM (I : Inv X pins σ H s) (hH : H l = some (.lst xs)) : xs.length ≤ sizeLine ∧ ∃ (its : List Value) (n : Nat), Vals xs its ∧ xs.length = its.length ∧ s.heap.get? l = some { cls := .type "list", data := .seq its.toArray n } := by
  obtain ⟨z, its, n, r, e⟩ := I.hok l _ hH
  exact ⟨z, its, n, r, r.length, e⟩

end

section
variable {X : Cx}

def rAppend : V → List V → Hp → VK → Prop := fun x vs H Q => ∃ l xs y, x = .ref l ∧ vs = [y] ∧ H l = some (.lst xs) ∧ xs.length < sizeLine ∧ Q .non (upd H l (.lst (xs ++ [y])))
theorem mt_append : MtM X "list.append" rAppend := by
  intro pins s σ H x vs v us Q I rx rv h
  obtain ⟨l, xs, y, rfl, rfl, hH, hz, q⟩ := h
  cases rx
  obtain ⟨u, rfl, ru⟩ := rv.one
  obtain ⟨z, its, n, r, hl, e⟩ := I.lstM hH
  refine call_meets F.slot_list_append ⟨_, e, rfl⟩ F.entry_list_append (F.args_list_append_2 _ _) (PySem.list_append l its.toArray n u (by rw [List.size_toArray]; omega)) ⟨e, ?_⟩
  refine ⟨.non, _, I.lset (its' := its ++ [u]) hH e (by simp) (r.append (.cons ru .nil)) ?_, rfl, q⟩
  rw [List.length_append, List.length_singleton]
  omega

def rCat : R2 := fun x y H Q => ∃ l b xs zs, x = .ref l ∧ y = .ref b ∧ H l = some (.lst xs) ∧ H b = some (.lst zs) ∧ xs.length + zs.length ≤ sizeLine ∧ ∀ p, H p = none → Q (.ref p) (upd H p (.lst (xs ++ zs)))
theorem op_cat : OpR X (binaryOp .Add) rCat := by
  intro pins s σ H x y v u Q I rx ry h
  obtain ⟨l, b, xs, zs, rfl, rfl, hH, hB, hz, q⟩ := h
  cases rx
  cases ry
  obtain ⟨z, its, n, r, hl, e⟩ := I.lstM hH
  obtain ⟨z2, its2, n2, r2, hl2, e2⟩ := I.lstM hB
  refine PySem.P.add_list e e2 ?_ (by rw [List.size_toArray, List.size_toArray]; omega)
  have ea : its.toArray ++ its2.toArray = (its ++ its2).toArray := by simp
  rw [ea]
  exact ⟨.ref _, _, I.lnew (t' := s.toks) (r.append r2) (by rw [List.length_append]; omega), rfl, q _ I.fresh⟩
end

section
variable {prog : Program} {w : World} {A : Around} {E : Value → Shared → Prop} {s : Shared}
end

section
variable {X : Cx}
end
end L2

namespace Att
open PySem PySem.W PySem.Calls PyProof.Rows

theorem ints_of_wellAll {P : Params} {h : Heap} : ∀ (ns : List Int) (vs : List Value), WellAll P h vs (ns.map WData.int) → IntsAre vs ns := by
  intro ns
  induction ns with
  | nil =>
    intro vs w
    rw [List.map_nil] at w
    cases w
    exact .nil
  | cons n ns ih =>
    intro vs w
    rw [List.map_cons] at w
    cases w with
    | cons a b =>
      cases a
      exact .cons _ _ (ih _ b)

theorem script_of {l : OpenLaw} {n : Nat} (hn : l.most = some n) {P : Params} {h : Heap} {args : List WData} {vals : List Value}
    (hpre : l.row.toRowW.claim.pre args = true) (hwl : WellAll P h vals args) :
    ∃ a vs ns, vals = [Value.ref a] ∧ args = [WData.list (ns.map WData.int)] ∧ h.get? a = some { cls := .type "list", data := .seq vs.toArray } ∧ IntsAre vs ns ∧ ns.length ≤ n := by
  have hsh : WShape.hasAll [] args [.list .int] = true := (pre_splitW hpre).1
  have hc : l.pre.holds [] { args := args } = true := (pre_splitW hpre).2
  obtain ⟨d, r, rfl, h1, h2⟩ := hasAllW_cons hsh
  obtain rfl := hasAllW_nil h2
  obtain ⟨xs, rfl, h3⟩ := hasW_list h1
  obtain ⟨ns, rfl⟩ := items_int h3
  have hlen : ns.length ≤ n := by
    unfold OpenLaw.pre at hc
    have h4 : (WTm.not (.lt (.lit (.int (n : Int))) (.len (.arg 0)))).holds [] { args := [.list (ns.map .int)] } = true := by
      have h4 := (holds_andW hc).1
      rw [hn] at h4
      exact h4
    have h5 := condW_of h4 (w_not (w_lt w_lit (w_len_list (w_arg rfl))))
    rw [List.length_map] at h5
    refine Nat.le_of_not_lt fun q => ?_
    have q' : (n : Int) < ((ns.length : Nat) : Int) := by omega
    first
      | (rw [decide_eq_true q'] at h5; exact absurd h5 (by decide))
      | (simp at h5; omega)
  cases hwl with
  | cons w1 w2 =>
    cases w2
    cases w1 with
    | list ho hall => exact ⟨_, _, ns, rfl, rfl, ho, ints_of_wellAll ns _ hall, hlen⟩

theorem post_true (l : OpenLaw) (args : List WData) : l.row.toRowW.claim.post args (.bool true) args = true :=
  postW_of (r := l.row.toRowW) (X := (true == true))
    (show WShape.has [] (.bool true) .bool = true by first | rfl | decide | simp [WShape.has, WShape.arms, WShape.armsAll])
    (show (WTm.eq .res (.lit (.bool true))).value [] { args := args, res := some (.bool true), after := args } = some (.bool (true == true)) from w_eq_bool (w_res rfl) w_lit) rfl

theorem attach_call {l : OpenLaw} {n : Nat} {q : Program} {loose : List Str} {XP : (Str → Option Value) → Heap → Prop} {YP : World → Heap → Prop} {d : DefRec}
    (hn : l.most = some n) (hdf : d.params.defaults = [])
    (call : ∀ (w : World) (s₀ s₁ : Shared) (mg mb : Str → Option Value) (fa : Addr) (o : Obj) (pm cd doc : Value) (a : Addr) (vs : List Value) (ns : List Int),
      Ground q loose [] XP w s₀ mg mb s₁.heap → YP w s₁.heap →
      s₁.heap.get? fa = some o → o.data = .func (docDef d.name d.params d.body d.scope pm cd doc) → s₁.heap.CodeRec cd d.name → mg d.name = some (.ref fa) →
      s₁.heap.get? a = some { cls := .type "list", data := .seq vs.toArray } → IntsAre vs ns → ns.length ≤ n → s₁.gens = #[] →
      codeAny (model l.prog w) callerA (.call (.ref fa) ⟨[.ref a], []⟩) (fun r s' => r = .ok (.ret (.bool true)) ∧ OldK s₁.heap s'.heap ∧ s'.os = s₁.os ∧ AllBare s'.gens) s₁) :
    WalkO q loose XP YP l.row.toRowW d [] (fun f vs => PySem.call f vs) := by
  intro w s₀ s₁ mg mb G Y fa o pm cd doc dV kV ho hd hcd hD hmg hg args vals as hpre hlay hrd hwl hlo
  obtain rfl : dV = .none := Dflts.none hD hdf
  obtain rfl : kV = .none := Dflts.noKw hD
  obtain ⟨a, vs, ns, rfl, rfl, hobj, hints, hlen⟩ := script_of hn hpre hwl
  refine enter_call (codeAny_mono (call w s₀ s₁ mg mb fa o pm cd doc a vs ns G Y ho (fd_plain hd) hcd hmg hobj hints hlen hg) fun r s' hq => ?_)
  obtain ⟨rfl, h2, h3, h4⟩ := hq
  exact ⟨.inl ⟨.bool true, .bool true, [], rfl, fun _ => rfl, .bool true, post_true l _, fun _ => ⟨List.Pairwise.nil, fun _ hm => (nomatch hm)⟩⟩, h2, h3, h4⟩

section
variable {prog : Program} {w : World} {A : Around} {E : Value → Shared → Prop} {s : Shared} {K : Frag}

end
end Att

namespace L2
open PySem PySem.Spec PyProof.Rows

theorem vals_ints : ∀ {vs : List Value} {ns : List Int}, IntsAre vs ns → Vals (ns.map V.int) vs
  | _, _, .nil => .nil
  | _, _, .cons n t h => .cons ⟨t, rfl⟩ (vals_ints h)

def Only (H : Hp) : Prop := ∀ b, H b = none ∨ ∃ o xs, H b = some (.frz o (.lst xs))

theorem law_call {P : Program} {w : World} {K : PySem.W.Frag} {mg mb : Str → Option Value} {CX : CXT} {k : Nat} {fa a : Addr} {fd : FuncData} {x : Str} {sp : Sp} {s₁ : Shared} {vs : List Value} {ns : List Int}
    (KX : K.In s₁.heap) (hns : s₁.heap.Ns mainGlobals mg) (hb : s₁.heap.Ns builtinsNs mb) (hbb : ∀ x : Str, x ≠ "__name__" → mb x = bootBuiltins x) (hlim : s₁.heap.NoLimit) (hg : s₁.gens = #[])
    (ha : s₁.heap.get? a = some { cls := .type "list", data := .seq vs.toArray }) (hi : IntsAre vs ns) (hl : ns.length ≤ sizeLine) (hr : Room k callerA)
    (F : ∀ base : Heap, K.In base → base.Ns mainGlobals mg → FnOk P w K mg base CX k fa fd [x] sp) (hbind : ∀ (s : Shared) (u : Value), BindsTo s fd ⟨[u], []⟩ [(x, u)])
    (hsp : ∀ H : Hp, Only H → SqL K H a (ns.map V.int) → sp [.ref a] H (fun v _ => v = .bl true) fun _ _ _ => False)
    (hCX : ∀ H e s', CX [] H s₁ (fun _ _ _ => False) e s' → False) :
    codeAny (model P w) callerA (.call (.ref fa) ⟨[.ref a], []⟩) (fun r s' => r = .ok (.ret (.bool true)) ∧ OldK s₁.heap s'.heap ∧ s'.os = s₁.os ∧ AllBare s'.gens) s₁ := by
  have rv := vals_ints hi
  have lenV := hi.length
  -- from an abstract heap in which nothing but the script may be tracked
  have core : ∀ H : Hp, Only H → SqL K H a (ns.map V.int) → HOk P w H s₁.heap → (∀ b, H b ≠ none → b = a) → (H a ≠ none → K.lookup a = none) →
      codeAny (model P w) callerA (.call (.ref fa) ⟨[.ref a], []⟩) (fun r s' => r = .ok (.ret (.bool true)) ∧ OldK s₁.heap s'.heap ∧ s'.os = s₁.os ∧ AllBare s'.gens) s₁ := by
    intro H hO hS hok hA hK
    have base_of : ∀ {b : Addr} {o : Obj}, s₁.heap.get? b = some o → H b = none → (hidT s₁.heap H).get? b = some o := fun e n => hidT_get e n
    have noA : ∀ {b : Addr} {o : Obj} {es : Array DictEntry} {ep : Nat}, s₁.heap.get? b = some o → o.data = .dict es ep → H b = none := fun {b o es ep} e d => by
      cases q : H b with
      | none => rfl
      | some u =>
        have e' : b = a := hA b (by rw [q]; simp)
        subst e'
        rw [ha] at e; cases e
        have d' : Data.seq vs.toArray _ = Data.dict es ep := d
        cases d'
    have nsK : ∀ {b : Addr} {m : Str → Option Value}, s₁.heap.Ns b m → (hidT s₁.heap H).Ns b m := fun {b m} ⟨o, es, ep, e, d, r⟩ => ⟨o, es, ep, base_of e (noA e d), d, r⟩
    have hKb : K.In (hidT s₁.heap H) := fun b o e => base_of (KX b o e) (by
      cases q : H b with
      | none => rfl
      | some u =>
        have e' : b = a := hA b (by rw [q]; simp)
        subst e'
        rw [hK (by rw [q]; simp)] at e; cases e)
    have hM : Mod K mg (hidT s₁.heap H) := ⟨hKb, nsK hns, ⟨mb, nsK hb, hbb⟩, let ⟨mc, h1, h2⟩ := hlim; ⟨mc, nsK h1, h2⟩⟩
    have e0 : Env0 P w K mg (hidT s₁.heap H) callerA [] s₁ H := ⟨rfl, hM, fun b o e => of_hidT e, Nat.le_of_eq (hidT_size _ _), trivial, fun b hb => absurd (show b ∈ ([] : List Addr) from hb) (by simp), hok, .of_eq hg⟩
    refine codeAny_mono ((F _ hKb (nsK hns)).run callerA [] s₁ H ⟨[.ref a], []⟩ [.ref a] [.ref a] _ _ hr e0 (hbind s₁ (.ref a)) (.cons rfl .nil) (hsp H hO hS)) fun r s' h => ?_
    cases r with
    | error e => exact (hCX H e s' h).elim
    | ok fl =>
      cases fl with
      | next => exact False.elim h
      | brk => exact False.elim h
      | cont => exact False.elim h
      | ret u =>
        obtain ⟨v, H', os, bare, un, hok', r', q⟩ := h
        have q' : v = .bl true := q
        subst q'
        obtain rfl : u = Value.bool true := r'
        refine ⟨rfl, OldK.of_keep fun b o e => ?_, os, bare⟩
        cases q : H b with
        | none => exact un.keep b o e q (by intro z; exact absurd (show b ∈ ([] : List Addr) from z) (by simp)) (by simp)
        | some u =>
          rcases hO b with z | ⟨ob, xs, z⟩
          · rw [q] at z; cases z
          · have z2 := un.frzs b ob _ z
            obtain ⟨e1, _⟩ := hok b _ z
            obtain ⟨e2, _⟩ := hok' b _ z2
            rw [e] at e1; cases e1
            exact e2
  cases hk : K.lookup a with
  | some o =>
    -- the script is one of the module's own objects
    have e := KX a o hk
    rw [ha] at e
    cases e
    refine core (fun _ => none) (fun _ => .inl rfl) (.inr ⟨_, vs.toArray, _, hk, rfl, rfl, rfl, by rw [List.size_toArray, lenV]; exact hl, by simpa using rv⟩) (fun b u z => by have z' : (none : Option HO) = some u := z; cases z') (fun b z => absurd rfl z) fun z => absurd rfl z
  | none =>
    refine core (fun b => if b = a then some (.frz { cls := .type "list", data := .seq vs.toArray } (.lst (ns.map V.int))) else none) (fun b => ?_) (.inl (.inr ⟨{ cls := .type "list", data := .seq vs.toArray }, if_pos rfl⟩)) (fun b u z => ?_) (fun b z => ?_) fun _ => hk
    · by_cases hb : b = a
      · exact .inr ⟨_, _, if_pos hb⟩
      · exact .inl (if_neg hb)
    · by_cases hb : b = a
      · have z' := (if_pos hb).symm.trans z
        cases z'
        subst hb
        exact ⟨ha, by rw [List.length_map]; exact hl, vs, _, rv, ha⟩
      · have z' := (if_neg hb).symm.trans z
        cases z'
    · by_cases hb : b = a
      · exact hb
      · exact absurd (if_neg hb) z
end L2

namespace L2
open PySem PySem.Spec PyProof.Rows

theorem walk_of {l : PySem.W.OpenLaw} {n k : Nat} {q : Program} {loose : List Str} {XP : (Str → Option Value) → Heap → Prop} {YP : World → Heap → Prop} {d : DefRec} {K : Params → PySem.W.Frag} {CX : World → CXT} {sp : World → Sp} {x : Str}
    (hn : l.most = some n) (hn2 : n ≤ sizeLine) (hdf : d.params.defaults = []) (hr : Room k callerA)
    (hY : ∀ (w : World) (h : Heap), YP w h → (K w.params).In h)
    (F : ∀ (w : World) (mg : Str → Option Value) (fa : Addr) (h : Heap), (K w.params).In h → h.Ns mainGlobals mg → mg d.name = some (.ref fa) →
      ∃ fd : FuncData, (∀ (s : Shared) (u : Value), BindsTo s fd ⟨[u], []⟩ [(x, u)]) ∧
        ∀ base : Heap, (K w.params).In base → base.Ns mainGlobals mg → FnOk l.prog w (K w.params) mg base (CX w) k fa fd [x] (sp w))
    (hsp : ∀ (w : World) (H : Hp) (a : Addr) (ns : List Int), ns.length ≤ n → Only H → SqL (K w.params) H a (ns.map V.int) → sp w [.ref a] H (fun v _ => v = .bl true) fun _ _ _ => False)
    (hCX : ∀ (w : World) (H : Hp) (s : Shared) (e : Value) (s' : Shared), CX w [] H s (fun _ _ _ => False) e s' → False) :
    PySem.W.WalkO q loose XP YP l.row.toRowW d [] (fun f vs => PySem.call f vs) := by
  refine Att.attach_call hn hdf fun w s₀ s₁ mg mb fa o pm cd doc a vs ns G Y ho hd hcd hmg hobj hints hlen hg => ?_
  have KX := hY w _ Y
  obtain ⟨fd, hb, hF⟩ := F w mg fa _ KX G.T.g hmg
  exact law_call KX G.T.g G.T.b G.T.builtins G.T.nolimit hg hobj hints (Nat.le_trans hlen hn2) hr hF hb (fun H hO hS => hsp w H a ns hlen hO hS) fun H e s' => hCX w H s₁ e s'
end L2


namespace L2
open PySem PySem.Spec PyProof.Rows

def defArgs (s : Stmt) : Arguments := match s with
  | .FunctionDef _ a _ _ _ _ _ _ _ _ => a
  | _ => { posonlyargs := [], args := [], vararg := none, kwonlyargs := [], kw_defaults := [], kwarg := none, defaults := [] }
def defBody (s : Stmt) : List Stmt := match s with
  | .FunctionDef _ _ b _ _ _ _ _ _ _ => b
  | _ => []
def defScope (s : Stmt) : Scope := match s with
  | .FunctionDef _ _ _ _ _ _ sc _ _ _ => sc
  | _ => { kind := .function, names := [], isGenerator := false, isCoroutine := false }

abbrev CX0 : CXT := fun _ _ _ _ _ _ => False
abbrev E0 : XK := fun _ _ _ => False
theorem pass0 {X : Cx} : Passes CX0 X E0 := fun _ _ _ _ _ _ _ h => h.elim

structure Fun (K : PySem.W.Frag) (x qual : Str) (st : Stmt) (f : Addr) (fd : FuncData) : Prop where
  ex : ∃ (oc : Value) (od : Option Addr) (kV doc pm : Value) (an : Option Addr) (cdv ct : Value) (osl : Array (Option Value)),
    fd = PySem.W.fnOf x qual (defArgs st) (defBody st) (defScope st) .none kV doc pm an cdv ct ∧ K.lookup f = some ⟨oc, od, .func fd, osl⟩ ∧ PySem.W.codeIn K cdv qual = true
  kp : PySem.W.keepIn K (.ref f) = true
section
variable {P : Program} {w : World} {K : PySem.W.Frag} {mg : Str → Option Value} {base : Heap}
theorem Fun.ok {x qual : Str} {st : Stmt} {f : Addr} {fd : FuncData} {N ps : List Str} {k : Nat} {sp : Sp} (F : Fun K x qual st f fd) (S : FnScope N ps (defScope st)) (len : ∀ vs H Q E, sp vs H Q E → vs.length = ps.length)
    (hbody : ∀ (cdv : Value) (A : Around) (outer : List Env) (s : Shared) (H : Hp) (vs : List V) (Q : VK) (E : XK), Room k (A.deeper (envOfC qual (defScope st) s.heap.objs.size f cdv)) → sp vs H Q E →
      ∃ t, PSs (cxOf CX0 P w K mg base N qual (defScope st) f cdv A outer s H E).nox (defBody st) t ∧ t { nx := fun _ H' => Q .non H', rt := Q } (start N vs) H) : FnOk P w K mg base CX0 (k + 1) f fd ps sp := by
  obtain ⟨oc, od, kV, doc, pm, an, cdv, ct, osl, rfl, lk, hcd⟩ := F.ex
  refine fn_of lk hcd S len fun A outer s H vs Q E hr hsp => ?_
  obtain ⟨t, h, q⟩ := hbody cdv A outer s H vs Q E hr hsp
  exact ⟨t, h.nox, q⟩
theorem Fun.binds {x qual : Str} {st : Stmt} {f : Addr} {fd : FuncData} {ps : List Str} (F : Fun K x qual st f fd)
    (h : ∀ (kV doc pm : Value) (an : Option Addr) (cdv ct : Value) (us : List Value), us.length = ps.length → bindArgs (PySem.W.fnOf x qual (defArgs st) (defBody st) (defScope st) .none kV doc pm an cdv ct) ⟨us, []⟩ = pure (ps.zip us)) : Binds K fd ps [] := by
  obtain ⟨oc, od, kV, doc, pm, an, cdv, ct, osl, rfl, lk, hcd⟩ := F.ex
  exact .all (h kV doc pm an cdv ct)
theorem fun_mk {x qual : Str} {st : Stmt} {f : Addr} {oc : Value} {od an : Option Addr} {osl : Array (Option Value)} {kV doc pm cdv ct : Value} (l : K.lookup f = some ⟨oc, od, .func (PySem.W.fnOf x qual (defArgs st) (defBody st) (defScope st) .none kV doc pm an cdv ct), osl⟩)
    (c : PySem.W.codeIn K cdv qual = true) (k : PySem.W.keepIn K (.ref f) = true) : Fun K x qual st f (PySem.W.fnOf x qual (defArgs st) (defBody st) (defScope st) .none kV doc pm an cdv ct) := ⟨⟨oc, od, kV, doc, pm, an, cdv, ct, osl, rfl, l, c⟩, k⟩
end
section
variable {X : Cx}
theorem pv (i : Nat) {x : Str} {pos : Pos} (hN : X.N[i]? = some x := by rfl) (hv : Vis X.env.scope x := by first | exact Or.inl rfl | exact Or.inr (Or.inl rfl) | exact Or.inr (Or.inr rfl)) (hd : (x == ("__debug__" : Str)) = false := by decide)
    (hcd : (x == ("__classdict__" : Str)) = false := by decide) : PE X (.Name x pos) (tVar i) := pe_var hN hv hd hcd
end

def Same (H H' : Hp) : Prop := ∀ b o, H b = some o → H' b = some o
theorem Same.refl (H : Hp) : Same H H := fun _ _ h => h
theorem Same.trans {H H1 H2 : Hp} (a : Same H H1) (b : Same H1 H2) : Same H H2 := fun c o h => b c o (a c o h)
theorem Same.free {H H' : Hp} (e : Same H H') {l : Addr} (h : H' l = Option.none) : H l = Option.none := by
  cases q : H l with
  | none => rfl
  | some o =>
    rw [e l o q] at h
    cases h
theorem Same.seq {K : PySem.W.Frag} {H H' : Hp} {a : Addr} {xs : List V} (e : Same H H') (h : SqL K H a xs) : SqL K H' a xs := by
  rcases h with (h | ⟨o, h⟩) | h
  · exact .inl (.inl (e _ _ h))
  · exact .inl (.inr ⟨o, e _ _ h⟩)
  · exact .inr h

end L2

namespace L2
open PySem PySem.Spec PyProof.Rows

structure Cal (P : Program) (w : World) (K : PySem.W.Frag) (mg : Str → Option Value) (base : Heap) (CX : CXT) (x : Str) (k : Nat) (ps : List Str) (sp : Sp) : Prop where
  ex : ∃ f fd, FnOk P w K mg base CX k f fd ps sp ∧ Binds K fd ps [] ∧ PySem.W.keepIn K (.ref f) = true ∧ mg x = some (.ref f)

section
variable {X : Cx} {CX : CXT} {x : Str} {j k : Nat} {ps : List Str} {sp : Sp} {E : XK} {p pos : Pos} {e : Expr} {es : List Expr} {t : TA}
theorem pe_callX (C : Cal X.prog X.w X.K X.mg X.base CX x j ps sp) (hr : Room k X.A) (hg : Gl X x) (hx : Passes CX X E) (ha : PA X (e :: es) t) (hj : j ≤ k := by decide) (hdb : (x == ("__debug__" : Str)) = false := by decide)
    (he : starEach (e :: es) X.env = (false, eval e X.env) :: starEach es X.env := by rfl) (hpl : (backTo pos (starEach es X.env)).any (·.1) = false := by rfl) :
    PE X (.Call (.Name x p) (e :: es) [] pos) (tCall sp [] E t) := by
  obtain ⟨f, fd, F, b, kp, m⟩ := C.ex
  exact pe_call F (hr.mono hj) hg m kp b .nil hx ha hdb he hpl
theorem pe_callC (C : Cal X.prog X.w X.K X.mg X.base CX0 x j ps sp) (hr : Room k X.A) (hg : Gl X x) (ha : PA X (e :: es) t) (hj : j ≤ k := by decide) (hdb : (x == ("__debug__" : Str)) = false := by decide)
    (he : starEach (e :: es) X.env = (false, eval e X.env) :: starEach es X.env := by rfl) (hpl : (backTo pos (starEach es X.env)).any (·.1) = false := by rfl) :
    PE X (.Call (.Name x p) (e :: es) [] pos) (tCall sp [] E0 t) := pe_callX C hr hg pass0 ha hj hdb he hpl
end

inductive Kn where
  | non | bl | int | str | lst | tup | dct
def tyK (T : String) : Option Kn :=
  if T = "int" then some .int else if T = "bool" then some .bl else if T = "str" then some .str else if T = "list" then some .lst else if T = "tuple" then some .tup else none
theorem tyK_int : tyK "int" = some .int := rfl
theorem tyK_bool : tyK "bool" = some .bl := rfl
theorem tyK_str : tyK "str" = some .str := rfl
theorem tyK_list : tyK "list" = some .lst := rfl
theorem tyK_tuple : tyK "tuple" = some .tup := rfl
def isiB : Kn → Kn → Bool
  | .int, .int => true
  | .bl, .int => true
  | .bl, .bl => true
  | .str, .str => true
  | .lst, .lst => true
  | .tup, .tup => true
  | _, _ => false
def dctO (a : Addr) : HO := .ext fun h => ∃ o, h.get? a = some o ∧ o.cls = .type "dict"
def Kd (K : PySem.W.Frag) (H : Hp) : V → Kn → Prop
  | .non, k => k = .non
  | .bl _, k => k = .bl
  | .int _, k => k = .int
  | .str _, k => k = .str
  | .ref a, k => (k = .lst ∧ ∃ xs, SqL K H a xs) ∨ (k = .tup ∧ ∃ xs, SqT K H a xs) ∨ (k = .dct ∧ H a = some (dctO a))
  | _, _ => False
def rIsi (K : PySem.W.Frag) : List V → Hp → VK → Prop := fun xs H Q => ∃ x T kt k, xs = [x, .ty T] ∧ tyK T = some kt ∧ Kd K H x k ∧ Q (.bl (isiB k kt)) H
theorem tyK_some {T : String} {kt : Kn} (h : tyK T = some kt) : (T = "int" ∧ kt = .int) ∨ (T = "bool" ∧ kt = .bl) ∨ (T = "str" ∧ kt = .str) ∨ (T = "list" ∧ kt = .lst) ∨ (T = "tuple" ∧ kt = .tup) := by
  unfold tyK at h
  split at h
  · next e => exact .inl ⟨e, (Option.some.inj h).symm⟩
  split at h
  · next e => exact .inr (.inl ⟨e, (Option.some.inj h).symm⟩)
  split at h
  · next e => exact .inr (.inr (.inl ⟨e, (Option.some.inj h).symm⟩))
  split at h
  · next e => exact .inr (.inr (.inr (.inl ⟨e, (Option.some.inj h).symm⟩)))
  split at h
  · next e => exact .inr (.inr (.inr (.inr ⟨e, (Option.some.inj h).symm⟩)))
  · cases h
section
variable {X : Cx}
theorem call_isi : CallR X (.builtin "isinstance") (rIsi X.K) := by
  intro pins s σ H xs us Q I r h
  obtain ⟨x, T, kt, k, rfl, ht, hk, q⟩ := h
  obtain ⟨u, w', rfl, rx, rt⟩ := vals2 r
  obtain rfl : w' = Value.type T := rt
  have f1 : EP X pins σ Q (.bool (isiB k kt)) s := ⟨.bl _, H, I, rfl, q⟩
  have f2 : EP X pins σ Q (.bool (isiB k kt)) { s with toks := s.toks + 1 } := ⟨.bl _, H, I.tok _, rfl, q⟩
  have hT := tyK_some ht
  clear ht q
  cases x with
  | non =>
    obtain rfl : u = Value.none := rx
    obtain rfl : k = .non := hk
    rcases hT with ⟨rfl, rfl⟩ | ⟨rfl, rfl⟩ | ⟨rfl, rfl⟩ | ⟨rfl, rfl⟩ | ⟨rfl, rfl⟩
    · exact IsiPair.NoneType_int f2
    · exact IsiPair.NoneType_bool f2
    · exact IsiPair.NoneType_str f2
    · exact IsiPair.NoneType_list f2
    · exact IsiPair.NoneType_tuple f2
  | bl b =>
    obtain rfl : u = Value.bool b := rx
    obtain rfl : k = .bl := hk
    rcases hT with ⟨rfl, rfl⟩ | ⟨rfl, rfl⟩ | ⟨rfl, rfl⟩ | ⟨rfl, rfl⟩ | ⟨rfl, rfl⟩
    · first | exact IsiPair.bool_int f1 | exact IsiPair.bool_int f2
    · exact IsiPair.bool_bool f1
    · exact IsiPair.bool_str f2
    · exact IsiPair.bool_list f2
    · exact IsiPair.bool_tuple f2
  | int i =>
    obtain ⟨t, rfl⟩ := rx
    obtain rfl : k = .int := hk
    rcases hT with ⟨rfl, rfl⟩ | ⟨rfl, rfl⟩ | ⟨rfl, rfl⟩ | ⟨rfl, rfl⟩ | ⟨rfl, rfl⟩
    · exact IsiPair.int_int f1
    · exact IsiPair.int_bool f2
    · exact IsiPair.int_str f2
    · exact IsiPair.int_list f2
    · exact IsiPair.int_tuple f2
  | str z =>
    obtain ⟨t, rfl⟩ := rx
    obtain rfl : k = .str := hk
    rcases hT with ⟨rfl, rfl⟩ | ⟨rfl, rfl⟩ | ⟨rfl, rfl⟩ | ⟨rfl, rfl⟩ | ⟨rfl, rfl⟩
    · exact IsiPair.str_int f2
    · exact IsiPair.str_bool f2
    · exact IsiPair.str_str f1
    · exact IsiPair.str_list f2
    · exact IsiPair.str_tuple f2
  | ref a =>
    obtain rfl : u = Value.ref a := rx
    rcases hk with ⟨rfl, xs, hq⟩ | ⟨rfl, xs, hq⟩ | ⟨rfl, hq⟩
    · obtain ⟨its, _, ⟨o, n, e, c, _, _⟩, _⟩ := I.list hq
      rcases hT with ⟨rfl, rfl⟩ | ⟨rfl, rfl⟩ | ⟨rfl, rfl⟩ | ⟨rfl, rfl⟩ | ⟨rfl, rfl⟩
      · exact IsiPair.list_int e c f2
      · exact IsiPair.list_bool e c f2
      · exact IsiPair.list_str e c f2
      · exact IsiPair.list_list e c f1
      · exact IsiPair.list_tuple e c f2
    · obtain ⟨its, _, ⟨o, e, c, _⟩, _⟩ := I.tuple hq
      rcases hT with ⟨rfl, rfl⟩ | ⟨rfl, rfl⟩ | ⟨rfl, rfl⟩ | ⟨rfl, rfl⟩ | ⟨rfl, rfl⟩
      · exact IsiPair.tuple_int e c f2
      · exact IsiPair.tuple_bool e c f2
      · exact IsiPair.tuple_str e c f2
      · exact IsiPair.tuple_list e c f2
      · exact IsiPair.tuple_tuple e c f1
    · obtain ⟨⟨o, e, c⟩, _⟩ := I.hok a _ hq
      rcases hT with ⟨rfl, rfl⟩ | ⟨rfl, rfl⟩ | ⟨rfl, rfl⟩ | ⟨rfl, rfl⟩ | ⟨rfl, rfl⟩
      · exact IsiPair.dict_int e c f2
      · exact IsiPair.dict_bool e c f2
      · exact IsiPair.dict_str e c f2
      · exact IsiPair.dict_list e c f2
      · exact IsiPair.dict_tuple e c f2
  | _ => exact False.elim hk
end

section
variable {X : Cx} {tg : Expr}
end
def ForW (J : It) (g : TG) (tb : TS) (D : Ends) (σ : St) (H : Hp) : Prop := ∃ W : Nat → Nat → St → Hp → Prop, (∃ m, W 0 m σ H) ∧ ∀ i m σ H, W i m σ H →
  (J.stop i H ∧ D.nx σ H) ∨ (J.go i H ∧ ∃ N : St → Hp → Prop, (∀ σ' H', N σ' H' → ∃ m', m' < m ∧ W (i + 1) m' σ' H') ∧ ∀ x H', J.yld i H x H' → g x σ H' fun σ2 H2 => tb { D with nx := N, ct := N, bk := D.nx } σ2 H2)
theorem tFor_eq {wi : TI} {g : TG} {tb : TS} {D : Ends} {σ : St} {H : Hp} : tFor wi g tb D σ H = wi σ H fun J H1 => ForW J g tb D σ H1 := rfl
section
variable {K : PySem.W.Frag} {a : Addr} {xs : List V} {g : TG} {tb : TS} {D : Ends} {σ : St} {H : Hp} {lo : Int} {n : Nat}
theorem forW_list (xs : List V) (Pv : Nat → St → Hp → Prop) (h0 : Pv 0 σ H) (hl : ∀ i σ H, i ≤ xs.length → Pv i σ H → SqL K H a xs)
    (hs : ∀ i x σ H, xs[i]? = some x → Pv i σ H → g x σ H fun σ2 H2 => tb { D with nx := Pv (i + 1), ct := Pv (i + 1), bk := D.nx } σ2 H2) (hd : ∀ σ H, Pv xs.length σ H → D.nx σ H) : ForW (Itl K a) g tb D σ H := for_list Pv h0 hl hs hd
theorem forW_range (Pv : Nat → St → Hp → Prop) (h0 : Pv 0 σ H)
    (hs : ∀ i σ H, i < n → Pv i σ H → g (.int (lo + i)) σ H fun σ2 H2 => tb { D with nx := Pv (i + 1), ct := Pv (i + 1), bk := D.nx } σ2 H2) (hd : ∀ σ H, Pv n σ H → D.nx σ H) : ForW (Itr lo n) g tb D σ H := for_range Pv h0 hs hd
end

structure Bits (n : Nat) (i : Int) : Prop where
  lt : i.natAbs < 2 ^ n
theorem Bits.mono {m n : Nat} {i : Int} (h : Bits m i) (le : m ≤ n) : Bits n i := ⟨Nat.lt_of_lt_of_le h.lt (Nat.pow_le_pow_right (by decide) le)⟩
theorem Bits.add {n : Nat} {i j : Int} (h : Bits n i) (h' : Bits n j) : Bits (n + 1) (i + j) := ⟨by
  have := Int.natAbs_add_le i j
  have := h.lt
  have := h'.lt
  rw [Nat.pow_succ]
  omega⟩
theorem Bits.neg {n : Nat} {i : Int} (h : Bits n i) : Bits n (-i) := ⟨by rw [Int.natAbs_neg]; exact h.lt⟩
theorem Bits.sub {n : Nat} {i j : Int} (h : Bits n i) (h' : Bits n j) : Bits (n + 1) (i - j) := by
  rw [Int.sub_eq_add_neg]
  exact h.add h'.neg
theorem Bits.of {n : Nat} {i b : Int} (lo : -b ≤ i) (hi : i ≤ b) (hb : b < ((2 ^ n : Nat) : Int)) : Bits n i := ⟨by omega⟩
theorem Bits.le {n : Nat} {i j : Int} (h : Bits n j) (le : i.natAbs ≤ j.natAbs) : Bits n i := ⟨Nat.lt_of_le_of_lt le h.lt⟩
theorem Bits.bits {n : Nat} {i : Int} (h : Bits n i) : Builtin.Int.intBits i ≤ n := by
  unfold Builtin.Int.intBits
  split
  · exact Nat.zero_le _
  · have q := h.lt
    rcases Nat.eq_zero_or_pos i.natAbs with h0 | hp
    · rw [h0] at q ⊢
      have : (0 : Nat).log2 = 0 := by decide
      rename_i hz
      exact absurd (by simp; omega) hz
    · have := (Nat.log2_lt (Nat.ne_of_gt hp)).mpr q
      omega
def CMulB (i j : Int) : Prop := Bits 100000 i ∧ Bits 100000 j
theorem CMulB.ok {i j : Int} (h : CMulB i j) : IntMulOk i j := IntMulOk.of_bits (Nat.le_trans h.1.bits (by decide)) (Nat.le_trans h.2.bits (by decide))
def CDivB (_ j : Int) : Prop := 0 < j ∧ Bits 8999 j
theorem CDivB.ok {i j : Int} (h : CDivB i j) : Builtin.divisionGoesByPylong i j = false := by
  refine PyProof.noPylong_of_log2 ?_
  have q := h.2.lt
  have := (Nat.log2_lt (n := j.natAbs) (k := 8999) (by have := h.1; omega)).mpr q
  omega
section
variable {X : Cx}
theorem op_mulB : OpR X (binaryOp .Mult) (rI CMulB fun i j => .int (i * j)) := opI fun _ _ _ _ _ _ _ hc q => mul_int q hc.ok
theorem op_fdivB : OpR X (binaryOp .FloorDiv) (rI CDivB fun i j => .int (i / j)) := opI fun i j _ _ _ _ _ hc q => by
  have h1 : (0 : Int) < j := hc.1
  exact floordiv_int (by omega) (by rw [Int.fdiv_eq_ediv_of_nonneg i (by omega)]; exact q) (.inl hc.ok)
def tMenu (t : TA) (ti : TE) : TE := fun σ H Q => t σ H fun xs H1 => xs.length ≤ sizeLine ∧ ti σ H1 fun y H2 => ∃ i v, y = .int i ∧ 0 ≤ i ∧ xs[i.toNat]? = some v ∧ Q v H2
end
section
variable {X : Cx} {es : List Expr} {b : Expr} {t : TA} {ti : TE} {pos p2 : Pos}
theorem pe_menu (h : PA X es t) (hb : PE X b ti) (hs : PlainIx b) : PE X (.Subscript (.List es p2) b pos) (tMenu t ti) := by
  intro pins s σ H Q I hq
  refine Subscript_ (wpAny_List_spliced (thn (h p2 pins s σ H _ I hq) fun us s1 ⟨xs, H1, I1, r, z, q⟩ => ⟨by rw [← r.length]; exact z, ?_⟩))
  have hf : H1 s1.heap.objs.size = none := I1.hok.fresh (Nat.le_refl _)
  have I2 : Inv X (pins ++ [(s1.heap.objs.size, { cls := .type "list", data := .seq us.toArray })]) σ H1 { s1 with heap := s1.heap.push { cls := .type "list", data := .seq us.toArray } } := by
    have J : Inv X pins σ H1 { s1 with heap := s1.heap.push { cls := .type "list", data := .seq us.toArray } } := I1.kept (t' := s1.toks) fun b u e => Heap.get?_push_of_some _ e
    refine J.pins_of fun p hp => ?_
    rcases List.mem_append.mp hp with hp | hp
    · exact J.pin p (List.mem_append_right _ hp)
    · have e := List.mem_singleton.mp hp
      subst e
      exact ⟨Heap.get?_push_size _ rfl, hf, Nat.ne_of_gt I1.lt, I1.nofs (Nat.le_refl _), fun v z => by cases z⟩
  refine thn (hb _ _ σ H1 _ I2 q) fun u s2 ⟨y, H2, I3, ry, i, v, e, h0, ha, q2⟩ => ?_
  subst e
  obtain ⟨t', rfl⟩ := ry
  obtain ⟨hp, _⟩ := I3.pin (s1.heap.objs.size, { cls := .type "list", data := .seq us.toArray }) (List.mem_append_right _ (List.mem_append_right _ (List.mem_singleton.mpr rfl)))
  obtain ⟨w, ew, rw'⟩ := r.get ha
  have I4 : Inv X pins σ H2 s2 := I3.pins_of fun p hp => I3.pin p (List.mem_append_right _ (List.mem_append_left _ hp))
  have hl := r.length
  have hn := line63
  have hi : i.toNat < us.length := (List.getElem?_eq_some_iff.mp ew).1
  have fin : EP X pins σ Q w s2 := ⟨v, H2, I4, rw', q2⟩
  exact item_listR (l := s1.heap.objs.size) ⟨_, hp, rfl, _, rfl⟩ h0 (by omega) (by simpa using ew) fin (hs _ _)
end
theorem isi_non_bl : isiB .non .bl = false := rfl
theorem isi_non_int : isiB .non .int = false := rfl
theorem isi_non_str : isiB .non .str = false := rfl
theorem isi_non_lst : isiB .non .lst = false := rfl
theorem isi_non_tup : isiB .non .tup = false := rfl
theorem isi_bl_bl : isiB .bl .bl = true := rfl
theorem isi_bl_int : isiB .bl .int = true := rfl
theorem isi_bl_str : isiB .bl .str = false := rfl
theorem isi_bl_lst : isiB .bl .lst = false := rfl
theorem isi_bl_tup : isiB .bl .tup = false := rfl
theorem isi_int_bl : isiB .int .bl = false := rfl
theorem isi_int_int : isiB .int .int = true := rfl
theorem isi_int_str : isiB .int .str = false := rfl
theorem isi_int_lst : isiB .int .lst = false := rfl
theorem isi_int_tup : isiB .int .tup = false := rfl
theorem isi_str_bl : isiB .str .bl = false := rfl
theorem isi_str_int : isiB .str .int = false := rfl
theorem isi_str_str : isiB .str .str = true := rfl
theorem isi_str_lst : isiB .str .lst = false := rfl
theorem isi_str_tup : isiB .str .tup = false := rfl
theorem isi_lst_bl : isiB .lst .bl = false := rfl
theorem isi_lst_int : isiB .lst .int = false := rfl
theorem isi_lst_str : isiB .lst .str = false := rfl
theorem isi_lst_lst : isiB .lst .lst = true := rfl
theorem isi_lst_tup : isiB .lst .tup = false := rfl
theorem isi_tup_bl : isiB .tup .bl = false := rfl
theorem isi_tup_int : isiB .tup .int = false := rfl
theorem isi_tup_str : isiB .tup .str = false := rfl
theorem isi_tup_lst : isiB .tup .lst = false := rfl
theorem isi_tup_tup : isiB .tup .tup = true := rfl
theorem isi_dct_bl : isiB .dct .bl = false := rfl
theorem isi_dct_int : isiB .dct .int = false := rfl
theorem isi_dct_str : isiB .dct .str = false := rfl
theorem isi_dct_lst : isiB .dct .lst = false := rfl
theorem isi_dct_tup : isiB .dct .tup = false := rfl
theorem Kd_non {K : PySem.W.Frag} {H : Hp} {k : Kn} : Kd K H .non k = (k = .non) := rfl
theorem Kd_bl {K : PySem.W.Frag} {H : Hp} {k : Kn} {b : Bool} : Kd K H (.bl b) k = (k = .bl) := rfl
theorem Kd_int {K : PySem.W.Frag} {H : Hp} {k : Kn} {i : Int} : Kd K H (.int i) k = (k = .int) := rfl
theorem Kd_str {K : PySem.W.Frag} {H : Hp} {k : Kn} {z : Str} : Kd K H (.str z) k = (k = .str) := rfl
theorem Kd.tup {K : PySem.W.Frag} {H : Hp} {a : Addr} {xs : List V} (h : SqT K H a xs) : Kd K H (.ref a) .tup := .inr (.inl ⟨rfl, xs, h⟩)
theorem Kd.lst {K : PySem.W.Frag} {H : Hp} {a : Addr} {xs : List V} (h : SqL K H a xs) : Kd K H (.ref a) .lst := .inl ⟨rfl, xs, h⟩
theorem Kd.dct {K : PySem.W.Frag} {H : Hp} {a : Addr} (h : H a = some (dctO a)) : Kd K H (.ref a) .dct := .inr (.inr ⟨rfl, h⟩)
theorem Kd.ref {K : PySem.W.Frag} {H : Hp} {a : Addr} {k : Kn} (h : Kd K H (.ref a) k) : k ≠ .int ∧ k ≠ .bl ∧ k ≠ .str ∧ k ≠ .non := by
  rcases h with ⟨rfl, _⟩ | ⟨rfl, _⟩ | ⟨rfl, _⟩ <;> exact ⟨(by intro z; cases z), (by intro z; cases z), (by intro z; cases z), (by intro z; cases z)⟩
theorem sc_non_non : scal .non .non = true := rfl
theorem sc_non_int {x2 : Int} : scal .non (.int x2) = true := rfl
theorem sc_int_non {x1 : Int} : scal (.int x1) .non = true := rfl
theorem sc_non_bl {x2 : Bool} : scal .non (.bl x2) = true := rfl
theorem sc_bl_non {x1 : Bool} : scal (.bl x1) .non = true := rfl
theorem sc_non_str {x2 : Str} : scal .non (.str x2) = true := rfl
theorem sc_str_non {x1 : Str} : scal (.str x1) .non = true := rfl
theorem sc_int_int {x1 : Int} {x2 : Int} : scal (.int x1) (.int x2) = true := rfl
theorem sc_bl_bl {x1 : Bool} {x2 : Bool} : scal (.bl x1) (.bl x2) = true := rfl
theorem sc_str_str {x1 : Str} {x2 : Str} : scal (.str x1) (.str x2) = true := rfl
theorem sc_int_str {x1 : Int} {x2 : Str} : scal (.int x1) (.str x2) = true := rfl
theorem sc_str_int {x1 : Str} {x2 : Int} : scal (.str x1) (.int x2) = true := rfl
theorem sc_bl_str {x1 : Bool} {x2 : Str} : scal (.bl x1) (.str x2) = true := rfl
theorem sc_str_bl {x1 : Str} {x2 : Bool} : scal (.str x1) (.bl x2) = true := rfl
theorem cxK {CX : CXT} {P : Program} {w : World} {K : PySem.W.Frag} {mg : Str → Option Value} {base : Heap} {N : List Str} {qual : Str} {scope : Scope} {f : Addr} {cd : Value} {A : Around} {outer : List Env} {s : Shared} {H : Hp} {E : XK} :
    (cxOf CX P w K mg base N qual scope f cd A outer s H E).K = K := rfl
theorem b_len : bootBuiltins "len" = some (.builtin "len") := by decide +kernel
theorem b_max : bootBuiltins "max" = some (.builtin "max") := by decide +kernel
theorem b_min : bootBuiltins "min" = some (.builtin "min") := by decide +kernel
theorem b_isinstance : bootBuiltins "isinstance" = some (.builtin "isinstance") := by decide +kernel
theorem b_int : bootBuiltins "int" = some (.type "int") := by decide +kernel
theorem b_bool : bootBuiltins "bool" = some (.type "bool") := by decide +kernel
theorem b_str : bootBuiltins "str" = some (.type "str") := by decide +kernel
theorem b_list : bootBuiltins "list" = some (.type "list") := by decide +kernel
theorem b_tuple : bootBuiltins "tuple" = some (.type "tuple") := by decide +kernel
theorem b_all : bootBuiltins "all" = some (.builtin "all") := by decide +kernel
theorem b_set : bootBuiltins "set" = some (.type "set") := by decide +kernel
structure Mg (mg : Str → Option Value) : Prop where
  m_len : mg "len" = none
  m_range : mg "range" = none
  m_abs : mg "abs" = none
  m_max : mg "max" = none
  m_min : mg "min" = none
  m_isinstance : mg "isinstance" = none
  m_int : mg "int" = none
  m_bool : mg "bool" = none
  m_str : mg "str" = none
  m_list : mg "list" = none
  m_tuple : mg "tuple" = none
  m_sum : mg "sum" = none
  m_all : mg "all" = none
  m_enumerate : mg "enumerate" = none
  m_zip : mg "zip" = none
  m_ValueError : mg "ValueError" = none
  m_any : mg "any" = none
  m_set : mg "set" = none
  m_sorted : mg "sorted" = none
end L2

set_option maxHeartbeats 1000000
namespace L2
open PySem PySem.Spec PyProof.Rows
section
variable {prog : Program} {w : World} {A : Around} {R : Result → Shared → Prop} {s : Shared}
theorem compLoop_go {elt target iter : Expr} {ifs : List Expr} {scope : Scope} {pos : Pos} {it acc : Value} {env : Env} (I : Nat → Shared → Prop)
    (turn : ∀ n s, I n s → wpAny (model prog w) A (pyNext it) (fun r s₁ => match r with
      | none => R (.ok .next) s₁
      | some v => wpAny (model prog w) A (letOwnedTupleGo target it v) (fun _ s₁' => wpAny (model prog w) A (assign target env v) (fun _ s₂ =>
          wpAny (model prog w) A (forIn ifs true fun c r => if r = true then do let ok ← isTrue c env (eval c env); pure (ForInStep.yield ok) else pure (ForInStep.yield r)) (fun ok s₃ =>
            if ok = true then wpAny (model prog w) A (eval elt env) (fun x s₄ =>
              wpAny (model prog w) A (call (.builtin "list.append") [acc, x]) (fun _ s₅ => ∃ m, m < n ∧ I m s₅) (fun _ _ => False) s₄) (fun _ _ => False) s₃
            else ∃ m, m < n ∧ I m s₃) (fun _ _ => False) s₂) (fun _ _ => False) s₁') (fun _ _ => False) s₁) (fun _ _ => False) s)
    (n : Nat) (h : I n s) :
    codeAny (model prog w) A (.compLoop (.ListComp elt [⟨target, iter, ifs, 0⟩] scope pos) 0 it acc env) R s := by
  refine codeAny_loop rfl I (fun n s hI => ?_) n h
  show wpAny _ A ((compTurn (.ListComp elt [⟨target, iter, ifs, 0⟩] scope pos) 0 it acc env).onRaise (fun x => do noteFrame x env; theTreesLotGoes x)) _ _ s
  refine wpAny_noted ?_
  rw [compTurn_list]
  refine wpAny_bind (wpAny_standAt (wpAny_bind (wpAny_mono (turn n s hI) (fun r s₁ h₁ => ?_) fun _ _ h' => h'.elim)))
  cases r with
  | none => exact wpAny_pure h₁
  | some v =>
    refine wpAny_bind (wpAny_mono h₁ (fun _ s₁' h₁' => wpAny_bind (wpAny_mono h₁' (fun _ s₂ h₂ => wpAny_bind (wpAny_mono h₂ (fun ok s₃ h₃ => ?_) fun _ _ h' => h'.elim)) fun _ _ h' => h'.elim)) fun _ _ h' => h'.elim)
    cases ok with
    | false => exact wpAny_pure ⟨rfl, h₃⟩
    | true =>
      exact wpAny_bind (wpAny_bind (wpAny_mono h₃ (fun x s₄ h₄ => wpAny_bind (wpAny_mono h₄ (fun _ s₅ h₅ => wpAny_pure (wpAny_pure ⟨rfl, h₅⟩)) fun _ _ h' => h'.elim)) fun _ _ h' => h'.elim))
end

def blk (X : Cx) (scope : Scope) (cl : List (Str × Addr)) (N' : List Str) (s₀ : Shared) (H₀ : Hp) (C : Addr) (pn : List (Addr × Obj)) (ex : List Addr) : Cx where
  prog := X.prog
  w := X.w
  K := X.K
  mg := X.mg
  base := X.base
  A := X.A
  N := N'
  s₀ := s₀
  H₀ := H₀
  env := compEnvC scope cl C X.env
  outer := X.stack
  stack := X.stack
  ex := ex
  fn := fun _ => false
  calm := X.calm
  pn := pn
  xe := fun _ _ => False
def PIfs (X : Cx) (ifs : List Expr) (t : TT) : Prop :=
  ∀ (pins : List (Addr × Obj)) (s : Shared) (σ : St) (H : Hp) (Q : Bool → Hp → Prop), Inv X pins σ H s → t σ H Q →
    wpAny (model X.prog X.w) X.A (forIn ifs true fun c r => if r = true then do let ok ← isTrue c X.env (eval c X.env); pure (ForInStep.yield ok) else pure (ForInStep.yield r)) (TP X pins σ Q) X.xe s
def tYes : TT := fun _ H Q => Q true H
theorem pif_nil {X : Cx} : PIfs X [] tYes := fun _ _ _ H _ I h => wpAny_tests_nil ⟨H, I, h⟩
theorem pif_one {X : Cx} {c : Expr} {t : TT} (h : PT X c t) : PIfs X [c] t := fun pins s σ H Q I q => wpAny_tests_one (h pins s σ H Q I q)
def slots (ix : List Nat) (σ : St) : St := ix.map fun j => (σ[j]?).getD none
def compW (D : Addr) (J : It) (g : TG) (tt : TT) (te : TE) (Q : VK) (W : Nat → Nat → St → Hp → Prop) : Prop :=
  ∀ i m τ H2, W i m τ H2 → (J.stop i H2 ∧ Q (.ref D) H2) ∨ (J.go i H2 ∧ ∀ x H3, J.yld i H2 x H3 → g x τ H3 fun τ' H3' => tt τ' H3' fun b H4 =>
    if b = true then te τ' H4 fun v H5 => ∃ ys, H5 D = some (.lst ys) ∧ ys.length < sizeLine ∧ ∃ m', m' < m ∧ W (i + 1) m' τ' (upd H5 D (.lst (ys ++ [v]))) else ∃ m', m' < m ∧ W (i + 1) m' τ' H4)
def tComp (ix : List Nat) (nl : Nat) (wi : TI) (g : TG) (tt : TT) (te : TE) : TE := fun σ H Q => wi σ H fun J H1 => ∀ D, H1 D = none →
  ∃ W : Nat → Nat → St → Hp → Prop, (∃ m, W 0 m (slots ix σ ++ List.replicate nl none) (upd H1 D (.lst []))) ∧ compW D J g tt te Q W

structure CompOk (X : Cx) (scope : Scope) (cl : List (Str × Addr)) (N' : List Str) (ix : List Nat) (nl : Nat) : Prop where
  clos : closureFor scope X.env = pure cl
  sub : ∀ y c, cl.lookup y = some c → X.env.cells.lookup y = some c
  has : ∀ p ∈ (relabel scope X.env).names, (p.2 = .cell ∨ p.2 = .free) → (cl.lookup p.1).isSome = true
  cell : ∀ y ∈ scope.names, y.2 ≠ .cell
  kind : scope.kind = .function
  names : ∀ y ∈ scope.names, y.2 = .local → scope.names.lookup y.1 = some .local
  len : N'.length = ix.length + nl
  out : ∀ (i j : Nat) (y : Str), ix[i]? = some j → N'[i]? = some y → X.N[j]? = some y ∧ (X.env.kindOf y = some .cell ∨ X.env.kindOf y = some .free) ∧ ((relabel scope X.env).names.lookup y = some .cell ∨ (relabel scope X.env).names.lookup y = some .free)

theorem fm0 {α : Type} {P : α → Prop} : ∀ p ∈ ([] : List α), P p := fun _ h => nomatch h
theorem fm1 {α : Type} {P : α → Prop} {a : α} {l : List α} (h : P a) (r : ∀ p ∈ l, P p) : ∀ p ∈ a :: l, P p := List.forall_mem_cons.mpr ⟨h, r⟩
def OutsOk (X : Cx) (scope : Scope) : List Nat → List Str → Prop
  | [], _ => True
  | j :: r, y :: t => (X.N[j]? = some y ∧ (X.env.kindOf y = some .cell ∨ X.env.kindOf y = some .free) ∧ ((relabel scope X.env).names.lookup y = some .cell ∨ (relabel scope X.env).names.lookup y = some .free)) ∧ OutsOk X scope r t
  | _ :: _, [] => False
theorem OutsOk.at {X : Cx} {scope : Scope} : ∀ {ix : List Nat} {N : List Str}, OutsOk X scope ix N → ∀ (i j : Nat) (y : Str), ix[i]? = some j → N[i]? = some y → X.N[j]? = some y ∧ (X.env.kindOf y = some .cell ∨ X.env.kindOf y = some .free) ∧ ((relabel scope X.env).names.lookup y = some .cell ∨ (relabel scope X.env).names.lookup y = some .free)
  | [], _, _, i, j, y, h1, _ => by simp at h1
  | _ :: _, [], h, _, _, _, _, _ => h.elim
  | _ :: _, _ :: _, h, 0, j, y, h1, h2 => by
    simp at h1 h2
    subst h1 h2
    exact h.1
  | _ :: _, _ :: _, h, i + 1, j, y, h1, h2 => OutsOk.at h.2 i j y (by simpa using h1) (by simpa using h2)
theorem CompOk.make {X : Cx} {scope : Scope} {cl : List (Str × Addr)} {N' : List Str} {ix : List Nat} {nl : Nat} (clos : closureFor scope X.env = pure cl) (sub : ∀ p ∈ cl, X.env.cells.lookup p.1 = some p.2)
    (has : ((relabel scope X.env).names.all fun p => !(p.2 == .cell || p.2 == .free) || (cl.lookup p.1).isSome) = true) (cell : ∀ y ∈ scope.names, y.2 ≠ .cell) (kind : scope.kind = .function)
    (names : ∀ y ∈ scope.names, y.2 = .local → scope.names.lookup y.1 = some .local) (len : N'.length = ix.length + nl) (out : OutsOk X scope ix N') : CompOk X scope cl N' ix nl :=
  ⟨clos, fun y c h => sub (y, c) (PySem.mem_of_lookup h), fun p hp hc => by
    have q := List.all_eq_true.mp has p hp
    rcases hc with e | e <;> (rw [e] at q; simpa using q), cell, kind, names, len, out.at⟩

section
variable {X : Cx} {pins : List (Addr × Obj)} {σ : St} {H : Hp} {s : Shared}
theorem blk_ok {scope : Scope} {cl : List (Str × Addr)} {N' : List Str} {ix : List Nat} {nl : Nat} {C : Addr} {fp : List Addr} (O : CompOk X scope cl N' ix nl) (I : Inv X pins σ H s) (hC : s.heap.objs.size ≤ C) (f : ∀ b ∈ fp, FpOk X pins H b) (lt : ∀ b ∈ fp, b < s.heap.objs.size) :
    (blk X scope cl N' s H C (X.pn ++ pins) fp).Ok where
  mod := I.ok.mod
  kind := O.kind
  glob := I.ok.glob
  blt := I.ok.blt
  above := hC
  inj := fun x y c h1 h2 => I.ok.inj x y c (O.sub x c h1) (O.sub y c h2)
  has := fun x hx => by
    have hx' : (relabel scope X.env).names.lookup x = some .cell ∨ (relabel scope X.env).names.lookup x = some .free := hx
    rcases hx' with h | h
    · exact Option.isSome_iff_exists.mp (O.has _ (PySem.mem_of_lookup h) (.inl rfl))
    · exact Option.isSome_iff_exists.mp (O.has _ (PySem.mem_of_lookup h) (.inr rfl))
  cab := fun x c h => nomatch (show false = true from h)
  hd := I.ok.hd
  frames := I.ok.frames
  stk := .inl rfl
  exf := fun b hb => ⟨Nat.ne_of_lt (Nat.lt_of_lt_of_le (lt b hb) hC), fun x c h => (f b hb).2.2.2.2.1 x c (O.sub x c h)⟩
  bs := I.bs
  bsz := Nat.le_trans I.ok.bsz I.sz
  noex := fun b o e hb => by
    rcases (f b hb).2.2.2.1 with z | z
    · exact I.ok.noex b o e z
    · exact absurd (Nat.lt_of_lt_of_le (Heap.lt_size e) (Nat.le_trans I.ok.bsz z)) (Nat.lt_irrefl _)
  exfs := fun b hb z => by
    rcases List.mem_cons.mp (I.stkSub b z) with e | e
    · exact (f b hb).2.1 e
    · exact (f b hb).2.2.1 e
  funs := I.stack
  frf := I.stkFree

theorem blk_inv {scope : Scope} {cl : List (Str × Addr)} {N' : List Str} {ix : List Nat} {nl : Nat} {C : Addr} {fp : List Addr} {h' : Heap} {t' : Nat} (O : CompOk X scope cl N' ix nl) (I : Inv X pins σ H s) (hC : s.heap.objs.size ≤ C) (f : ∀ b ∈ fp, FpOk X pins H b) (lt : ∀ b ∈ fp, b < s.heap.objs.size)
    (hn : h'.Ns C fun _ => none) (k : ∀ b o, s.heap.get? b = some o → h'.get? b = some o) :
    Inv (blk X scope cl N' s H C (X.pn ++ pins) fp) [] (slots ix σ ++ List.replicate nl none) H { s with heap := h', toks := t' } := by
  refine ⟨blk_ok O I hC f lt, rfl, I.bare, Un.kept k, ⟨_, hn, fun i x v e1 e2 e3 => ?_⟩, fun x c e => ?_, I.hok.fresh hC, fun x c e => I.freeC x c (O.sub x c e), fun p hp => ?_, I.hok.kept k, ?_⟩
  · have e1 : N'[i]? = some x := e1
    have hi : i < ix.length := by
      by_cases hi : i < ix.length
      · exact hi
      · rw [List.getElem?_append_right (by simpa [slots] using hi)] at e2
        rw [List.getElem?_replicate] at e2
        split at e2 <;> cases e2
    have e2' : (σ[ix[i]]?).getD none = some v := by
      rw [List.getElem?_append_left (by simpa [slots] using hi)] at e2
      simpa [slots, hi] using e2
    have e4 : σ[ix[i]]? = some (some v) := by
      cases q : σ[ix[i]]? with
      | none => rw [q] at e2'; cases e2'
      | some z => rw [q] at e2'; exact congrArg some e2'
    obtain ⟨o1, o2, o3⟩ := O.out i ix[i] x (by simp [hi]) e1
    obtain ⟨m, hm, hl⟩ := I.loc
    have vis : Vis X.env.scope x := by
      rcases o2 with z | z
      · exact .inr (.inl z)
      · exact .inr (.inr z)
    obtain ⟨u, r, l⟩ := hl _ x v o1 e4 vis
    rcases l with ⟨z, _⟩ | ⟨_, c, hc, o, ho, hd⟩
    · rcases o2 with y | y <;> (rw [y] at z; cases z)
    · obtain ⟨c', hc'⟩ := (blk_ok O I hC f lt).has x o3
      have z := O.sub x c' hc'
      rw [hc] at z
      cases z
      exact ⟨u, r, .inr ⟨o3, c, hc', o, k _ _ ho, hd⟩⟩
  · obtain ⟨v, q⟩ := I.cell x c (O.sub x c e)
    exact ⟨v, by obtain ⟨o, ho, hd⟩ := q; exact ⟨o, k _ _ ho, hd⟩⟩
  · have hp' : p ∈ X.pn ++ pins := by
      have z : p ∈ (X.pn ++ pins) ++ [] := hp
      rwa [List.append_nil] at z
    obtain ⟨a1, a2, a3, a4, a5⟩ := I.pin p hp'
    refine ⟨k _ _ a1, a2, Nat.ne_of_lt (Nat.lt_of_lt_of_le (Heap.lt_size a1) hC), fun z => ?_, a5⟩
    rcases List.mem_cons.mp (I.stkSub p.1 z) with e | e
    · exact a3 e
    · exact a4 e
  · show (slots ix σ ++ List.replicate nl none).length = N'.length
    rw [List.length_append, List.length_replicate, O.len]
    simp [slots]

theorem blk_back {scope : Scope} {cl : List (Str × Addr)} {N' : List Str} {C : Addr} {fp : List Addr} {s' : Shared} {τ : St} {H' : Hp} (I : Inv X pins σ H s) (f : ∀ b ∈ fp, FpOk X pins H b)
    (J : Inv (blk X scope cl N' s H C (X.pn ++ pins) fp) [] τ H' s') : Inv X pins σ H' s' :=
  I.call' J.os J.base J.hok J.bare fun b hb => ⟨(f b hb).2.2.2.1, (f b hb).2.1, (f b hb).2.2.2.2.1, (f b hb).2.2.2.2.2⟩
theorem Inv.letgo {C : Addr} {s' : Shared} {h' : Heap} (J : Inv X pins σ H s') (hsz : X.s₀.heap.objs.size ≤ C) (hL : C ≠ X.env.locals) (hc : ∀ x c, X.env.cells.lookup x = some c → c ≠ C) (hp : ∀ p ∈ X.pn ++ pins, p.1 ≠ C) (hH : H C = none)
    (sb : Heap.SameBut C s'.heap h') : Inv X pins σ H { s' with heap := h' } :=
  J.turned (t' := s'.toks) (it := C) (fun b o hb e => sb.extBut b o hb e) hH hL (.inr hsz) hc hp
theorem blk_loop {elt iter tg : Expr} {ifs : List Expr} {scope : Scope} {pos : Pos} {cl : List (Str × Addr)} {N' : List Str} {C D it : Addr} {fp : List Addr} {tn : Nat → Heap → Prop} {J : It} {g : TG} {tt : TT} {te : TE} {s₄ : Shared} {W : Nat → Nat → St → Hp → Prop} {Q : VK}
    {τ : St} {H₀ : Hp} {s₃ : Shared} {pn : List (Addr × Obj)} {m0 : Nat} {R : Result → Shared → Prop} (hc : X.calm = true) (T : Turn X.prog X.w X.K tg J fp it tn)
    (f : ∀ H', (∀ b ∈ fp, H' b = none) → ∀ b ∈ fp, FpOk (blk X scope cl N' s₃ H₀ C pn fp) [] H' b)
    (hg : PG (blk X scope cl N' s₃ H₀ C pn fp) tg g) (ht : PIfs (blk X scope cl N' s₃ H₀ C pn fp) ifs tt) (he : PE (blk X scope cl N' s₃ H₀ C pn fp) elt te)
    (I4 : Inv (blk X scope cl N' s₃ H₀ C pn fp) [] τ H s₄) (st : tn 0 s₄.heap) (fr : ∀ b ∈ fp, H b = none) (w0 : W 0 m0 τ H) (hW : compW D J g tt te Q W)
    (fin : ∀ τ' H' s', Inv (blk X scope cl N' s₃ H₀ C pn fp) [] τ' H' s' → Q (.ref D) H' → R (.ok .next) s') :
    codeAny (model X.prog X.w) X.A (.compLoop (.ListComp elt [⟨tg, iter, ifs, 0⟩] scope pos) 0 (.ref it) (.ref D) (compEnvC scope cl C X.env)) R s₄ := by
  refine compLoop_go (fun n s' => ∃ i τ' H', Inv (blk X scope cl N' s₃ H₀ C pn fp) [] τ' H' s' ∧ tn i s'.heap ∧ (∀ b ∈ fp, H' b = none) ∧ W i n τ' H') ?_ m0 ⟨0, τ, H, I4, st, fr, w0⟩
  rintro n s5 ⟨i, τ5, H5, I5, st5, fr5, w5⟩
  rcases hW i n τ5 H5 w5 with ⟨stop, q⟩ | ⟨go, step⟩
  · refine thn (T.done (blk X scope cl N' s₃ H₀ C pn fp) rfl rfl rfl hc i [] s5 τ5 H5 (fun _ _ => False) I5 (f H5 fr5) st5 stop) fun r s6 ⟨hr, I6⟩ => ?_
    subst hr
    exact fin τ5 H5 s6 I6 q
  · refine thn (T.item (blk X scope cl N' s₃ H₀ C pn fp) rfl rfl rfl hc i [] s5 τ5 H5 (fun _ _ => False) I5 (f H5 fr5) st5 go) fun r s6 ⟨u, hr, h6⟩ => ?_
    subst hr
    refine thn h6 fun _ s7 ⟨x, H7, I7, r7, y7, st7, fr7⟩ => ?_
    have I7' := I7.pinned (f H7 fr7) (T.obj _ _ st7)
    have keep : ∀ {τ8 : St} {H8 : Hp} {s8 : Shared}, Inv (blk X scope cl N' s₃ H₀ C pn fp) ([] ++ pinsAt fp s7.heap) τ8 H8 s8 → Inv (blk X scope cl N' s₃ H₀ C pn fp) [] τ8 H8 s8 ∧ tn (i + 1) s8.heap ∧ ∀ b ∈ fp, H8 b = none := fun {τ8 H8 s8} I8 => by
      refine ⟨I8.unpinned, T.keep _ _ _ st7 fun b hb o e => (I8.pin (b, o) (List.mem_append_right _ (List.mem_append_right _ (mem_pinsAt hb e)))).1, fun b hb => ?_⟩
      obtain ⟨o, e, d⟩ := T.obj _ _ st7 b hb
      exact (I8.pin (b, o) (List.mem_append_right _ (List.mem_append_right _ (mem_pinsAt hb e)))).2.1
    refine thn (hg _ s7 τ5 H7 x u _ I7' r7 (step x H7 y7)) fun _ s8 ⟨τ8, H8, I8, q8⟩ => ?_
    refine thn (ht _ s8 τ8 H8 _ I8 q8) fun b s9 ⟨H9, I9, q9⟩ => ?_
    cases b with
    | false =>
      obtain ⟨m', hm, w'⟩ := q9
      obtain ⟨k1, k2, k3⟩ := keep I9
      exact ⟨m', hm, i + 1, τ8, H9, k1, k2, k3, w'⟩
    | true =>
      refine thn (he _ s9 τ8 H9 _ I9 q9) fun y s10 ⟨v, H10, I10, r10, ys, hD, hl, m', hm, w'⟩ => ?_
      refine thn (mt_append _ s10 τ8 H10 (.ref D) [v] (.ref D) [y] (fun _ H11 => W (i + 1) m' τ8 H11) I10 rfl (.cons r10 .nil) ⟨D, ys, v, rfl, rfl, hD, hl, w'⟩) fun z s11 ⟨_, H11, I11, _, w11⟩ => ?_
      obtain ⟨k1, k2, k3⟩ := keep I11
      exact ⟨m', hm, i + 1, τ8, H11, k1, k2, k3, w11⟩
end

section
variable {X : Cx} {elt iter tg : Expr} {ifs : List Expr} {scope : Scope} {pos : Pos} {cl : List (Str × Addr)} {N' : List Str} {ix : List Nat} {nl : Nat} {wi : TI} {g : TG} {tt : TT} {te : TE}
structure Left (X : Cx) (pins : List (Addr × Obj)) (σ : St) (C : Addr) (H : Hp) (s : Shared) : Prop where
  inv : Inv X pins σ H s
  ns : ∃ m, s.heap.Ns C m
  sz : X.s₀.heap.objs.size ≤ C
  loc : C ≠ X.env.locals
  cel : ∀ x c, X.env.cells.lookup x = some c → c ≠ C
  pin : ∀ p ∈ X.pn ++ pins, p.1 ≠ C
  non : H C = none
theorem comp_run {pins : List (Addr × Obj)} {σ : St} {H1 : Hp} {s2 : Shared} {Q : VK} {it : Addr} {fp : List Addr} {tn : Nat → Heap → Prop} {J : It} {RR : Value → Addr → Result → Shared → Prop} {E : Value → Shared → Prop}
    (hc : X.calm = true) (O : CompOk X scope cl N' ix nl) (hg : ∀ s₀ H₀ C pn ex, PG (blk X scope cl N' s₀ H₀ C pn ex) tg g) (ht : ∀ s₀ H₀ C pn ex, PIfs (blk X scope cl N' s₀ H₀ C pn ex) ifs tt)
    (he : ∀ s₀ H₀ C pn ex, PE (blk X scope cl N' s₀ H₀ C pn ex) elt te) (I1 : Inv X pins σ H1 s2) (T : Turn X.prog X.w X.K tg J fp it tn) (st : tn 0 s2.heap) (f1 : ∀ b ∈ fp, FpOk X pins H1 b)
    (q : ∀ D, H1 D = none → ∃ W : Nat → Nat → St → Hp → Prop, (∃ m, W 0 m (slots ix σ ++ List.replicate nl none) (upd H1 D (.lst []))) ∧ compW D J g tt te Q W)
    (fin : ∀ D C H' s', Left X pins σ C H' s' → Q (.ref D) H' → RR (.ref D) C (.ok .next) s') :
    wpAny (model X.prog X.w) X.A (newList []) (fun acc s₃ => wpAny (model X.prog X.w) X.A (newFunctionEnv scope X.env.globals cl [] X.env.qual none .none (some X.env)) (fun cenv s₄ =>
      codeAny (model X.prog X.w) X.A (.compStart (.ListComp elt [⟨tg, iter, ifs, 0⟩] scope pos) 0 (.ref it) acc { cenv with scope := relabel scope X.env }) (RR acc cenv.locals) s₄) E s₃) E s2 := by
  refine wpAny_newObj_type (wpAny_newFunctionEnv O.cell (by intro y hy; simp at hy) (fun h₁ hns₁ hsb₁ => ?_) O.kind)
  have hf : H1 s2.heap.objs.size = none := I1.hok.fresh (Nat.le_refl _)
  obtain ⟨W, ⟨m0, w0⟩, hW⟩ := q s2.heap.objs.size hf
  have lt : ∀ b ∈ fp, b < s2.heap.objs.size := fun b hb => by
    obtain ⟨o, e, _⟩ := T.obj _ _ st b hb
    exact Heap.lt_size e
  have I3 : Inv X pins σ (upd H1 s2.heap.objs.size (.lst [])) { s2 with heap := s2.heap.push { cls := .type "list", data := .seq ([] : List Value).toArray } } :=
    I1.laid (t' := s2.toks) (fun b u e => Heap.get?_push_of_some _ e) (Nat.le_refl _) ⟨Nat.zero_le _, [], 0, .nil, Heap.get?_push_size _ rfl⟩
  have f3 : ∀ b ∈ fp, FpOk X pins (upd H1 s2.heap.objs.size (.lst [])) b := fun b hb => ⟨by rw [upd_ne (Nat.ne_of_lt (lt b hb))]; exact (f1 b hb).1, (f1 b hb).2⟩
  have sz : (s2.heap.push { cls := .type "list", data := .seq ([] : List Value).toArray }).objs.size = s2.heap.objs.size + 1 := Heap.size_push ..
  have lt3 : ∀ b ∈ fp, b < (s2.heap.push { cls := .type "list", data := .seq ([] : List Value).toArray }).objs.size := fun b hb => by rw [sz]; exact Nat.lt_succ_of_lt (lt b hb)
  have k3 : ∀ b o, (s2.heap.push { cls := .type "list", data := .seq ([] : List Value).toArray }).get? b = some o → h₁.get? b = some o := fun b o e => hsb₁.extBut b o (Nat.ne_of_lt (Heap.lt_size e)) (Heap.get?_push_of_some _ e)
  have I4 := blk_inv (t' := s2.toks + ([] : List (Str × Value)).length) O I3 (Nat.le_refl _) f3 lt3 hns₁ k3
  have st4 : tn 0 h₁ := T.keep _ _ _ st fun b hb o e => k3 b o (Heap.get?_push_of_some _ e)
  have fB : ∀ H', (∀ b ∈ fp, H' b = none) → ∀ b ∈ fp, FpOk (blk X scope cl N' { s2 with heap := s2.heap.push { cls := .type "list", data := .seq ([] : List Value).toArray } } (upd H1 s2.heap.objs.size (.lst [])) (s2.heap.push { cls := .type "list", data := .seq ([] : List Value).toArray }).objs.size (X.pn ++ pins) fp) [] H' b := fun H' hn b hb => by
    refine ⟨hn b hb, Nat.ne_of_lt (lt3 b hb), ?_, .inl hb, fun x c h => (f1 b hb).2.2.2.2.1 x c (O.sub x c h), fun p hp => ?_⟩
    · intro z
      rcases List.mem_cons.mp (I3.stkSub b z) with e | e
      · exact (f1 b hb).2.1 e
      · exact (f1 b hb).2.2.1 e
    · have hp' : p ∈ X.pn ++ pins := by
        have z : p ∈ (X.pn ++ pins) ++ [] := hp
        rwa [List.append_nil] at z
      exact (f1 b hb).2.2.2.2.2 p hp'
  have loop := blk_loop (pos := pos) (iter := iter) (R := RR (.ref s2.heap.objs.size) (s2.heap.push { cls := .type "list", data := .seq ([] : List Value).toArray }).objs.size) hc T fB (hg _ _ _ _ _) (ht _ _ _ _ _) (he _ _ _ _ _) I4 st4 (fun b hb => (f3 b hb).1) w0 hW (fun τ' H' s' J' qf => by
    obtain ⟨m, hm, _⟩ := J'.loc
    refine fin _ _ H' s' ⟨blk_back I3 f3 J', ⟨m, hm⟩, I3.sz, Nat.ne_of_gt I3.lt, fun x c e z => ?_, fun p hp z => ?_, J'.free⟩ qf
    · obtain ⟨v, o, ho, _⟩ := I3.cell x c e
      exact absurd (Heap.lt_size ho) (by rw [z]; exact Nat.lt_irrefl _)
    · exact absurd (Heap.lt_size (I3.pin p hp).1) (by rw [z]; exact Nat.lt_irrefl _))
  exact codeAny_compStart_list loop (T.self _ 0 _ _ _ st4 loop)
theorem pe_comp (hc : X.calm = true) (O : CompOk X scope cl N' ix nl) (hi : PI X tg iter wi) (hg : ∀ s₀ H₀ C pn ex, PG (blk X scope cl N' s₀ H₀ C pn ex) tg g) (ht : ∀ s₀ H₀ C pn ex, PIfs (blk X scope cl N' s₀ H₀ C pn ex) ifs tt)
    (he : ∀ s₀ H₀ C pn ex, PE (blk X scope cl N' s₀ H₀ C pn ex) elt te) (hs : ∀ x, foldedSetIterable iter X.env x = pure x := by intro _; rfl) :
    PE X (.ListComp elt [⟨tg, iter, ifs, 0⟩] scope pos) (tComp ix nl wi g tt te) := by
  intro pins s σ H Q I h
  rw [eval_ListComp]
  refine wpAny_comprehension_free (use := none) rfl hs O.clos O.kind O.names (thn (hi pins s σ H _ I h) fun xv s1 h1 => thn h1 fun itv s2 h2 => ?_)
  obtain ⟨it, fp, tn, J, H1, rfl, I1, T, st, f1, q⟩ := h2
  refine comp_run (RR := fun acc C => compPost (model X.prog X.w) X.A X.xe none (EP X pins σ Q) acc C) hc O hg ht he I1 T st f1 q (fun D C H' s' L qf => ?_)
  obtain ⟨m, hm⟩ := L.ns
  exact ⟨m, hm, fun h' sb => ⟨.ref D, H', L.inv.letgo L.sz L.loc L.cel L.pin L.non sb, rfl, qf⟩⟩
end
end L2

namespace L2
open PySem PySem.Spec PyProof.Rows
theorem vals_at {xs : List V} {its : List Value} (r : Vals xs its) {j : Nat} (h : j < its.length) : ∃ x, xs[j]? = some x ∧ RelV x its[j] := by
  have hl := r.length
  have hj : j < xs.length := by omega
  obtain ⟨u, e, rv⟩ := r.get (i := j) (x := xs[j]) (by simp [hj])
  have e2 : its[j]? = some its[j] := by simp [h]
  rw [e2] at e
  cases e
  exact ⟨xs[j], by simp [hj], rv⟩
section
variable {X : Cx}
end
end L2

namespace L2
open PySem PySem.Spec PyProof.Rows
def tComp1 (D : Addr) (g : TG) (tt : TT) (te : TE) (x : V) (τ : St) (H : Hp) (R : St → Hp → Prop) : Prop := g x τ H fun τ' H' => tt τ' H' fun b H4 =>
  if b = true then te τ' H4 fun v H5 => ∃ ys, H5 D = some (.lst ys) ∧ ys.length < sizeLine ∧ R τ' (upd H5 D (.lst (ys ++ [v]))) else R τ' H4
def CompS (D : Addr) (J : It) (g : TG) (tt : TT) (te : TE) (Q : VK) (τ : St) (H : Hp) : Prop := ∃ W : Nat → Nat → St → Hp → Prop, (∃ m, W 0 m τ H) ∧ compW D J g tt te Q W
theorem tComp_eq {ix : List Nat} {nl : Nat} {wi : TI} {g : TG} {tt : TT} {te : TE} {σ : St} {H : Hp} {Q : VK} :
    tComp ix nl wi g tt te σ H Q = wi σ H fun J H1 => ∀ D, H1 D = none → CompS D J g tt te Q (slots ix σ ++ List.replicate nl none) (upd H1 D (.lst [])) := rfl
section
variable {K : PySem.W.Frag} {D a : Addr} {g : TG} {tt : TT} {te : TE} {Q : VK} {τ : St} {H : Hp}
theorem compS_range {lo : Int} {n : Nat} (Pv : Nat → St → Hp → Prop) (h0 : Pv 0 τ H)
    (hs : ∀ i τ H (R : St → Hp → Prop), i < n → Pv i τ H → (∀ τ' H', Pv (i + 1) τ' H' → R τ' H') → tComp1 D g tt te (.int (lo + i)) τ H R) (hd : ∀ τ H, Pv n τ H → Q (.ref D) H) : CompS D (Itr lo n) g tt te Q τ H := by
  refine ⟨fun i m τ H => m = n - i ∧ i ≤ n ∧ Pv i τ H, ⟨n, by simp, Nat.zero_le _, h0⟩, ?_⟩
  rintro i m τ H2 ⟨rfl, hi, p⟩
  by_cases hlt : i < n
  · refine .inr ⟨hlt, fun x H' y => ?_⟩
    obtain ⟨e, y⟩ := y
    subst e y
    exact hs i τ _ (fun τ' H' => ∃ m', m' < n - i ∧ m' = n - (i + 1) ∧ i + 1 ≤ n ∧ Pv (i + 1) τ' H') hlt p fun τ' H' p' => ⟨_, by omega, rfl, hlt, p'⟩
  · have e : i = n := by omega
    subst e
    exact .inl ⟨Nat.le_refl _, hd τ H2 p⟩
theorem compS_list (xs : List V) (Pv : Nat → St → Hp → Prop) (h0 : Pv 0 τ H) (hl : ∀ i τ H, i ≤ xs.length → Pv i τ H → SqL K H a xs)
    (hs : ∀ i x τ H (R : St → Hp → Prop), xs[i]? = some x → Pv i τ H → (∀ τ' H', Pv (i + 1) τ' H' → R τ' H') → tComp1 D g tt te x τ H R) (hd : ∀ τ H, Pv xs.length τ H → Q (.ref D) H) : CompS D (Itl K a) g tt te Q τ H := by
  refine ⟨fun i m τ H => m = xs.length - i ∧ i ≤ xs.length ∧ Pv i τ H, ⟨xs.length, by simp, Nat.zero_le _, h0⟩, ?_⟩
  rintro i m τ H2 ⟨rfl, hi, p⟩
  have q := hl i τ H2 hi p
  by_cases hlt : i < xs.length
  · have hx : xs[i]? = some xs[i] := by simp [hlt]
    refine .inr ⟨⟨xs, _, q, hx⟩, fun x H' y => ?_⟩
    obtain ⟨e, y⟩ := y
    subst e
    have e2 := y xs q
    rw [hx] at e2
    cases e2
    exact hs i _ τ _ (fun τ' H' => ∃ m', m' < xs.length - i ∧ m' = xs.length - (i + 1) ∧ i + 1 ≤ xs.length ∧ Pv (i + 1) τ' H') hx p fun τ' H' p' => ⟨_, by omega, rfl, hlt, p'⟩
  · have e : i = xs.length := by omega
    subst e
    exact .inl ⟨⟨xs, q, Nat.le_refl _⟩, hd τ H2 p⟩
theorem SqT.lst {H : Hp} {p b : Addr} {xs ys zs : List V} (h : SqT K H b xs) (hp : H p = some (.lst ys)) : SqT K (upd H p (.lst zs)) b xs := by
  rcases h with (h | ⟨o, h⟩) | h
  · exact .inl (.inl (by rw [upd_ne (ne_of h hp (by intro z; cases z))]; exact h))
  · exact .inl (.inr ⟨o, by rw [upd_ne (ne_of h hp (by intro z; cases z))]; exact h⟩)
  · exact .inr h
end
section
variable {X : Cx} {K : PySem.W.Frag}
theorem ix_listK (h : X.K = K) : IxR X (rIxL K) := by subst h; exact ix_list
theorem ix_tupK (h : X.K = K) : IxR X (rIxT K) := by subst h; exact ix_tup
end
end L2

namespace L2
open PySem PySem.Spec PyProof.Rows
section
variable {prog : Program} {w : World} {A : Around} {E : Value → Shared → Prop} {s : Shared}
theorem nextOf_tup_item {it l : Addr} {i : Nat} {items : Array Value} {x : Value} {Q : Value → Shared → Prop} (hit : s.heap.IsTupleIter it l i)
    (hl : s.heap.IsTuple l items) (hx : items[i]? = some x) (hQ : ∀ h', h'.IsTupleIter it l (i + 1) → Heap.SameBut it s.heap h' → Q x { s with heap := h' }) :
    wpAny (model prog w) A (Builtin.SmallTypes.nextOf (.ref it)) Q E s := by
  obtain ⟨o, ho, hc, hd⟩ := id hit
  obtain ⟨ol, hol, _, nl, hdl⟩ := hl
  unfold Builtin.SmallTypes.nextOf
  refine wpAny_bind (wpAny_callSpecial?_slot (name := Str.ofString "__next__") hit.typeIs F.slot_tuple_iterator_next
    (wpAny_call_entry F.slot_tuple_iterator_next hit.typeIs F.entry_tuple_iterator_next ?_ (F.args_tuple_iterator_next_1 _)))
  show wpAny _ _ (field (.ref it) 0 >>= _) _ _ s
  refine wpAny_bind (wpAny_field ho hd (x := .ref l) rfl ?_)
  show wpAny _ _ (if (Value.ref l == Value.none) = true then _ else _) _ _ s
  rw [if_neg (show ¬ ((Value.ref l == Value.none) = true) from Bool.false_ne_true)]
  show wpAny _ _ (field (.ref it) 1 >>= _) _ _ s
  refine wpAny_bind (wpAny_field ho hd (x := .int i 0) rfl ?_)
  show wpAny _ _ (seqItems? (.ref l) >>= _) _ _ s
  refine wpAny_bind (wpAny_seqItems hol hdl ?_)
  simp only [Int.toNat_natCast, hx]
  refine wpAny_bind (wpAny_setField ho hd (by simp) (wpAny_pure ⟨x, rfl, wpAny_pure (hQ _ ?_ (Heap.SameBut.update ..))⟩))
  exact ⟨_, Heap.get?_update_self _ ho (Obj.isFreed_of_fields (Obj.data_mapFields hd _)), (Obj.cls_mapFields ..).trans hc, by
    rw [Obj.data_mapFields hd]; simp [rawInt]⟩
theorem nextOf_tup_end {it l : Addr} {i : Nat} {items : Array Value} {Q : Value → Shared → Prop} (hh : A.handled = none) (hit : s.heap.IsTupleIter it l i) (hl : s.heap.IsTuple l items) (hx : items[i]? = none)
    (hE : ∀ h' e, Heap.ExtBut it s.heap h' → (∃ o, h'.get? e = some o ∧ o.cls = .type "StopIteration") → E (.ref e) { s with heap := h' }) :
    wpAny (model prog w) A (Builtin.SmallTypes.nextOf (.ref it)) Q E s := by
  obtain ⟨o, ho, hc, hd⟩ := id hit
  obtain ⟨ol, hol, _, nl, hdl⟩ := hl
  unfold Builtin.SmallTypes.nextOf
  refine wpAny_bind (wpAny_callSpecial?_slot (name := Str.ofString "__next__") hit.typeIs F.slot_tuple_iterator_next
    (wpAny_call_entry F.slot_tuple_iterator_next hit.typeIs F.entry_tuple_iterator_next ?_ (F.args_tuple_iterator_next_1 _)))
  show wpAny _ _ (field (.ref it) 0 >>= _) _ _ s
  refine wpAny_bind (wpAny_field ho hd (x := .ref l) rfl ?_)
  show wpAny _ _ (if (Value.ref l == Value.none) = true then _ else _) _ _ s
  rw [if_neg (show ¬ ((Value.ref l == Value.none) = true) from Bool.false_ne_true)]
  show wpAny _ _ (field (.ref it) 1 >>= _) _ _ s
  refine wpAny_bind (wpAny_field ho hd (x := .int i 0) rfl ?_)
  show wpAny _ _ (seqItems? (.ref l) >>= _) _ _ s
  refine wpAny_bind (wpAny_seqItems hol hdl ?_)
  simp only [Int.toNat_natCast, hx]
  refine wpAny_bind (wpAny_rule (wpAny_bind (wpAny_setField ho hd (by simp) ?_)))
  show wpAny _ _ (newExc (.type "StopIteration") [] >>= _) _ _ _
  refine wpAny_bind ?_
  simp only [newExc, newTuple]
  refine wpAny_bind (wpAny_newObj_type ?_ (by size_fits))
  refine wpAny_bind (m := firstArgMember _ _) (wpAny_of_eq (a := Value.none) (by first | rfl | (simp only [firstArgMember]; rfl)) ?_)
  refine wpAny_newObj_type ?_ (by size_fits)
  simp only [raiseNew]
  refine wpAny_bind (wpAny_handled ?_)
  first | rw [show A.in1.handled = none from hh] | rw [hh]
  refine wpAny_bind (wpAny_pure (wpAny_throw ?_))
  exact hE _ _ (((Heap.SameBut.update ..).extBut.push _).push _) ⟨_, Heap.get?_push_size _ rfl, rfl⟩
end
theorem Draws.tuple {prog : Program} {w : World} {A : Around} (hh : A.handled = none) (it l : Addr) (hne : l ≠ it) (items : Array Value) :
    Draws prog w A it [it, l] items.size (fun i v => items[i]? = some v) (fun i h => h.IsTupleIter it l i ∧ h.IsTuple l items) where
  live := fun _ _ st => let ⟨o, ho, _⟩ := st.1; ⟨o, ho⟩
  frame := fun _ _ _ st hk => ⟨st.1.at fun o e => hk it (by simp) o e, st.2.at fun o e => hk l (by simp) o e⟩
  item := fun i s Q E hi st hQ => by
    refine nextOf_tup_item st.1 st.2 (x := items[i]) (by simp [hi]) fun h' hit' hs' => ?_
    exact hQ _ h' s.toks (by simp [hi]) ⟨hit', st.2.extBut hs'.extBut hne⟩ hs'
  done := fun s Q E st hE => nextOf_tup_end hh st.1 st.2 (by simp) hE
open AutoSeq1 (wpAny_loadPart') in
theorem meets_enumerate_newT (l : Addr) (items : Array Value) (n : Nat) (dct : Option Addr) (sl : Array (Option Value)) :
    Meets (Builtin.«enumerate.__new__» ⟨[.type "enumerate", .ref l], []⟩) (fun _ R s => s.heap.get? l = some { cls := .type "tuple", dict := dct, data := .seq items n, slots := sl } ∧
      R (.ok (.ret (.ref (s.heap.push { cls := .type "tuple_iterator", data := .fields #[.ref l, .int 0 0] }).objs.size)))
        { s with heap := (s.heap.push { cls := .type "tuple_iterator", data := .fields #[.ref l, .int 0 0] }).push { cls := .type "enumerate", data := .fields #[.none, .bool false, .ref s.heap.objs.size, rawInt 0, .none, .none] } }) :=
  .of_wp fun prog w A R s h => by
    obtain ⟨hp, g, d, tk, os⟩ := s; obtain ⟨hl, h⟩ := h
    have hsub := sub_enumerate
    have hL : Heap.IsTuple (Shared.heap ⟨hp, g, d, tk, os⟩) l items := ⟨_, hl, rfl, n, rfl⟩
    wp_walk using wpAny_loadPart' hl
    refine wpAny_stack_any fun st => wpAny_pure ?_
    split
    · rename_i c _ _ _ _ _
      cases (c == Value.type "enumerate")
      · wp_walk using wpAny_loadPart' hl, wpAny_pyIter_tuple hL
        exact ⟨_, rfl, h⟩
      · wp_walk using wpAny_loadPart' hl, wpAny_pyIter_tuple hL
        exact ⟨_, rfl, h⟩
    · wp_walk using wpAny_loadPart' hl, wpAny_pyIter_tuple hL
      exact ⟨_, rfl, h⟩
section
variable {prog : Program} {w : World} {A : Around} {E : Value → Shared → Prop} {s : Shared}
theorem call_enumerate_tup {l : Addr} {items : Array Value} {Q : Value → Shared → Prop} (hL : s.heap.IsTuple l items)
    (h : ∀ h', IsEnum h' (s.heap.objs.size + 1) s.heap.objs.size 0 .none → h'.IsTupleIter s.heap.objs.size l 0 → h'.objs.size = s.heap.objs.size + 2 →
      (∀ b o, s.heap.get? b = some o → h'.get? b = some o) → Q (.ref (s.heap.objs.size + 1)) { s with heap := h' }) :
    wpAny (model prog w) A (call (.type "enumerate") [.ref l]) Q E s := by
  obtain ⟨⟨c, dct, dt, sl⟩, hl, hc, n, hd⟩ := hL
  replace hc : c = .type "tuple" := hc
  replace hd : dt = .seq items n := hd
  subst hc hd
  refine callType_new F.called_enumerate (by decide) (F.typeCall_enumerate_1 _) (F.newCall_enumerate_1 _) (fun obj => F.args_object_init_2 obj _) F.entry_enumerate_new
    (meets_enumerate_newT l items n dct sl) ⟨hl, ?_⟩
  have hz : (s.heap.push { cls := .type "tuple_iterator", data := .fields #[.ref l, .int 0 0] }).objs.size = s.heap.objs.size + 1 := Heap.size_push ..
  show _ ∧ _
  rw [hz]
  have e1 := Heap.get?_push_size (s.heap.push { cls := .type "tuple_iterator", data := .fields #[.ref l, .int 0 0] }) (o := { cls := .type "enumerate", data := .fields #[.none, .bool false, .ref s.heap.objs.size, rawInt 0, .none, .none] }) rfl
  rw [hz] at e1
  refine ⟨⟨_, e1, rfl⟩, ?_⟩
  exact h _ e1 ⟨_, Heap.get?_push_of_some _ (Heap.get?_push_size _ rfl), rfl, rfl⟩ (by rw [Heap.size_push, hz]) fun b o q => Heap.get?_push_of_some _ (Heap.get?_push_of_some _ q)
end
theorem Inv.drew {X : Cx} {pins : List (Addr × Obj)} {σ : St} {H : Hp} {s : Shared} {ch : List Addr} {T : Addr} {xs : List V} {h' : Heap} {tk : Nat} (I : Inv X pins σ H s) (hf : ∀ b ∈ ch, FpOk X pins H b)
    (k : ∀ b o, b ∉ ch → s.heap.get? b = some o → h'.get? b = some o) (hT : s.heap.objs.size ≤ T) (new : ObjOk X.prog X.w (upd H T (.tup xs)) h' T (.tup xs)) : Inv X pins σ (upd H T (.tup xs)) { s with heap := h', toks := tk } := by
  have hn : H T = none := I.hok.fresh hT
  have nc : ∀ b u, H b = some u → b ∉ ch := fun b u e hb => by
    have z := (hf b hb).1
    rw [e] at z
    cases z
  refine I.call (g' := s.gens) (d' := s.drawn) (ch := ch) ⟨fun b o q n _ hc => k b o hc q, fun b o q n _ hc => ⟨o.slots, k b o hc q⟩, fun b o q n hc => by
    rw [upd_ne (Nat.ne_of_lt (Nat.lt_of_lt_of_le (Heap.lt_size q) hT))]; exact n, fun b o q hc => ⟨o, k b o hc q⟩, fun b ys q => by rw [upd_ne (ne_of_none q hn)]; exact q,
    fun b o u q => by rw [upd_ne (ne_of_none q hn)]; exact q, fun b ps q => ⟨#[], by rw [upd_ne (ne_of_none q hn), q]; simp⟩⟩ (fun b u e => ?_) I.bare fun b hb => ⟨(hf b hb).2.2.2.1, (hf b hb).2.1, (hf b hb).2.2.2.2.1, (hf b hb).2.2.2.2.2⟩
  by_cases hb : b = T
  · subst hb
    rw [upd_same] at e
    cases e
    exact new
  · rw [upd_ne hb] at e
    refine (I.hok b u e).stay (fun c v hc q => k c v ?_ q) (fun c q => by rw [upd_ne (ne_of_none q hn)]; exact q) fun c ys q => by rw [upd_ne (ne_of_none q hn)]; exact q
    rcases hc with rfl | hc
    · exact nc _ _ e
    · exact nc _ _ hc
theorem Inv.turns {X : Cx} {pins : List (Addr × Obj)} {σ : St} {H : Hp} {s : Shared} {ch : List Addr} {h' : Heap} {tk : Nat} (I : Inv X pins σ H s) (hf : ∀ b ∈ ch, FpOk X pins H b)
    (k : ∀ b o, b ∉ ch → s.heap.get? b = some o → h'.get? b = some o) : Inv X pins σ H { s with heap := h', toks := tk } := by
  have nc : ∀ b u, H b = some u → b ∉ ch := fun b u e hb => by
    have z := (hf b hb).1
    rw [e] at z
    cases z
  refine I.call (g' := s.gens) (d' := s.drawn) (ch := ch) ⟨fun b o q n _ hc => k b o hc q, fun b o q n _ hc => ⟨o.slots, k b o hc q⟩, fun b o q n hc => n, fun b o q hc => ⟨o, k b o hc q⟩, fun b ys q => q,
    fun b o u q => q, fun b ps q => ⟨#[], by rw [q]; simp⟩⟩ (fun b u e => ?_) I.bare fun b hb => ⟨(hf b hb).2.2.2.1, (hf b hb).2.1, (hf b hb).2.2.2.2.1, (hf b hb).2.2.2.2.2⟩
  refine (I.hok b u e).stay (fun c v hc q => k c v ?_ q) (fun c q => q) fun c ys q => q
  rcases hc with rfl | hc
  · exact nc _ _ e
  · exact nc _ _ hc
def Ite (sq : Hp → List V → Prop) : It := ⟨fun i H => ∃ xs x, sq H xs ∧ xs[i]? = some x, fun i H x H' => ∃ T v, H T = none ∧ x = .ref T ∧ H' = upd H T (.tup [.int i, v]) ∧ ∀ xs, sq H xs → xs[i]? = some v, fun i H => ∃ xs, sq H xs ∧ xs.length ≤ i⟩
theorem tup2_ok {P : Program} {w : World} {H : Hp} {h : Heap} {T : Addr} {a b : V} {u v : Value} {n : Nat} (ra : RelV a u) (rb : RelV b v) (e : h.get? T = some { cls := .type "tuple", data := .seq #[u, v] n }) : ObjOk P w H h T (.tup [a, b]) :=
  ⟨show 2 ≤ sizeLine by decide, [u, v], .cons ra (.cons rb .nil), ⟨_, e, rfl, _, rfl⟩, _, e, rfl⟩
theorem turn_enumL {P : Program} {w : World} {K : PySem.W.Frag} {elts : List Expr} {kk : Nat} {pos : Pos} (a e it : Addr) (hei : e ≠ it) :
    Turn P w K (.Tuple elts kk pos) (Ite fun H xs => SqL K H a xs) [e, it] e (fun i h => (∃ old, IsEnum h e it i old) ∧ h.IsListIter it a i) where
  mem := by simp
  obj := fun i h st b hb => by
    obtain ⟨⟨old, he⟩, o, ho, c, d⟩ := st
    rcases List.mem_cons.mp hb with rfl | hb
    · exact ⟨_, he, fun v z => by cases z⟩
    · have z := List.mem_singleton.mp hb
      subst z
      exact ⟨o, ho, fun v z => by rw [d] at z; cases z⟩
  keep := fun i h h' st k => by
    obtain ⟨⟨old, he⟩, hit⟩ := st
    exact ⟨⟨old, k e (by simp) _ he⟩, hit.at fun o q => k it (by simp) o q⟩
  item := by
    intro X hP hw hK hc i pins s σ H E I hf st hg
    subst hP hw hK
    obtain ⟨xs, x, hq, hx⟩ := hg
    obtain ⟨⟨old, he⟩, hit⟩ := st
    obtain ⟨its, rv, p, hz⟩ := I.list hq
    obtain ⟨u, hu, ru⟩ := rv.get hx
    refine wpAny_pyNext_enum_item he hit p.isList (x := u) (by simpa using hu) hei fun h' ho hit' hT hsz hk => ⟨_, rfl, ?_⟩
    refine wpAny_letOwnedTupleGo_enum ho fun h2 he2 hs2 => ?_
    have hel : e < s.heap.objs.size := Heap.lt_size he
    have hTe : s.heap.objs.size ≠ e := Nat.ne_of_gt hel
    have hil : it < s.heap.objs.size := by obtain ⟨_, y, _⟩ := hit; exact Heap.lt_size y
    have hT2 : h2.get? s.heap.objs.size = some { cls := .type "tuple", data := .seq #[.int i s.toks, u] } := (hs2.2 _ hTe).trans hT
    have hf' : H s.heap.objs.size = none := I.hok.fresh (Nat.le_refl _)
    refine ⟨.ref s.heap.objs.size, upd H s.heap.objs.size (.tup [.int i, x]), ?_, rfl, ⟨_, x, hf', rfl, rfl, fun ys hy => by rw [I.list_inj hy hq]; exact hx⟩, ⟨⟨u, he2⟩, hit'.at fun o q => (hs2.2 it hei.symm).trans q⟩, fun b hb => ?_⟩
    · exact I.drew (ch := [e, it]) (tk := s.toks + 1) hf (fun b o hb q => (hs2.2 b fun z => hb (by simp [z])).trans (hk b o (fun z => hb (by simp [z])) (fun z => hb (by simp [z])) q)) (Nat.le_refl _) (tup2_ok ⟨_, rfl⟩ ru hT2)
    · have z : b ≠ s.heap.objs.size := by
        rcases List.mem_cons.mp hb with rfl | hb
        · exact hTe.symm
        · rw [List.mem_singleton.mp hb]; exact Nat.ne_of_lt hil
      rw [upd_ne z]
      exact (hf b hb).1
  done := by
    intro X hP hw hK hc i pins s σ H E I hf st hg
    subst hP hw hK
    obtain ⟨xs, hq, hx⟩ := hg
    obtain ⟨⟨old, he⟩, hit⟩ := st
    obtain ⟨its, rv, p, hz⟩ := I.list hq
    have hl := rv.length
    exact wpAny_pyNext_enum_end (I.ok.hd hc) he hit p.isList (by simp; omega) fun h' eb => ⟨rfl, I.turns (ch := [e, it]) (tk := s.toks) hf fun b o hb q => eb b o (fun z => hb (by simp [z])) q⟩
  self := fun A i s Q E st h => by
    obtain ⟨⟨old, he⟩, _⟩ := st
    exact wpAny_pyIter_enum he h
theorem turn_enumT {P : Program} {w : World} {K : PySem.W.Frag} {elts : List Expr} {kk : Nat} {pos : Pos} (a e it : Addr) (hei : e ≠ it) (hea : e ≠ a) (hai : a ≠ it) :
    Turn P w K (.Tuple elts kk pos) (Ite fun H xs => SqT K H a xs) [e, it] e (fun i h => (∃ old, IsEnum h e it i old) ∧ h.IsTupleIter it a i) where
  mem := by simp
  obj := fun i h st b hb => by
    obtain ⟨⟨old, he⟩, o, ho, c, d⟩ := st
    rcases List.mem_cons.mp hb with rfl | hb
    · exact ⟨_, he, fun v z => by cases z⟩
    · have z := List.mem_singleton.mp hb
      subst z
      exact ⟨o, ho, fun v z => by rw [d] at z; cases z⟩
  keep := fun i h h' st k => by
    obtain ⟨⟨old, he⟩, hit⟩ := st
    exact ⟨⟨old, k e (by simp) _ he⟩, hit.at fun o q => k it (by simp) o q⟩
  item := by
    intro X hP hw hK hc i pins s σ H E I hf st hg
    subst hP hw hK
    obtain ⟨xs, x, hq, hx⟩ := hg
    obtain ⟨⟨old, he⟩, hit⟩ := st
    obtain ⟨its, rv, p, hz⟩ := I.tuple hq
    obtain ⟨u, hu, ru⟩ := rv.get hx
    have hu' : its.toArray[i]? = some u := by simpa using hu
    have D := Draws.tuple (prog := X.prog) (w := X.w) (A := X.A.in1) (show X.A.in1.handled = none from I.ok.hd hc) it a hai its.toArray
    refine wpAny_pyNext_enum_itemD D he ⟨hit, p⟩ (Array.getElem?_eq_some_iff.mp hu').1 hei (by simp [hei, hea]) fun x' h' tk hP ho hit' hT hsz hk => ⟨_, rfl, ?_⟩
    rw [hu'] at hP
    cases hP
    refine wpAny_letOwnedTupleGo_enum ho fun h2 he2 hs2 => ?_
    have hel : e < s.heap.objs.size := Heap.lt_size he
    have hTe : s.heap.objs.size ≠ e := Nat.ne_of_gt hel
    have hil : it < s.heap.objs.size := by obtain ⟨_, y, _⟩ := hit; exact Heap.lt_size y
    have hT2 : h2.get? s.heap.objs.size = some { cls := .type "tuple", data := .seq #[.int i tk, u] } := (hs2.2 _ hTe).trans hT
    have hf' : H s.heap.objs.size = none := I.hok.fresh (Nat.le_refl _)
    refine ⟨.ref s.heap.objs.size, upd H s.heap.objs.size (.tup [.int i, x]), ?_, rfl, ⟨_, x, hf', rfl, rfl, fun ys hy => by rw [I.tuple_inj hy hq]; exact hx⟩, ⟨⟨u, he2⟩, hit'.1.at fun o q => (hs2.2 it hei.symm).trans q⟩, fun b hb => ?_⟩
    · exact I.drew (ch := [e, it]) (tk := tk + 1) hf (fun b o hb q => (hs2.2 b fun z => hb (by simp [z])).trans (hk b o (fun z => hb (by simp [z])) (fun z => hb (by simp [z])) q)) (Nat.le_refl _) (tup2_ok ⟨_, rfl⟩ ru hT2)
    · have z : b ≠ s.heap.objs.size := by
        rcases List.mem_cons.mp hb with rfl | hb
        · exact hTe.symm
        · rw [List.mem_singleton.mp hb]; exact Nat.ne_of_lt hil
      rw [upd_ne z]
      exact (hf b hb).1
  done := by
    intro X hP hw hK hc i pins s σ H E I hf st hg
    subst hP hw hK
    obtain ⟨xs, hq, hx⟩ := hg
    obtain ⟨⟨old, he⟩, hit⟩ := st
    obtain ⟨its, rv, p, hz⟩ := I.tuple hq
    have hl := rv.length
    have hT : s.TypeIs (.ref e) "enumerate" := ⟨_, he, rfl⟩
    unfold pyNext
    refine wpAny_bind (wpAny_attempt (wpAny_callSpecial?_slot (name := Str.ofString "__next__") hT F.slot_enumerate_next
      (wpAny_call_entry F.slot_enumerate_next hT F.entry_enumerate_next ?_ (F.args_enumerate_next_1 _))))
    show wpAny _ _ (field (.ref e) 2 >>= _) _ _ _
    refine wpAny_bind (wpAny_field he rfl (x := .ref it) rfl ?_)
    refine wpAny_bind (nextOf_tup_end (show X.A.in1.handled = none from I.ok.hd hc) hit p (by simp; omega) fun h' x he' hx' => ?_)
    obtain ⟨o, ho, hc'⟩ := hx'
    refine wpAny_bind (wpAny_isInstance (T := "StopIteration") (b := true) ⟨o, ho, hc'⟩ isSubtype_stop ?_)
    exact wpAny_pure ⟨rfl, I.turns (ch := [e, it]) (tk := s.toks) hf fun b o hb q => he' b o (fun z => hb (by simp [z])) q⟩
  self := fun A i s Q E st h => by
    obtain ⟨⟨old, he⟩, _⟩ := st
    exact wpAny_pyIter_enum he h
section
variable {X : Cx} {elts : List Expr} {kk : Nat} {tpos : Pos}
def iEnumL (K : PySem.W.Frag) (ta : TA) : TI := fun σ H R => ta σ H fun vs H1 => ∃ a, vs = [.ref a] ∧ (∃ xs, SqL K H1 a xs) ∧ R (Ite fun H xs => SqL K H a xs) H1
def iEnumT (K : PySem.W.Frag) (ta : TA) : TI := fun σ H R => ta σ H fun vs H1 => ∃ a, vs = [.ref a] ∧ (∃ xs, SqT K H1 a xs) ∧ R (Ite fun H xs => SqT K H a xs) H1
theorem pi_enumL {a : Expr} {ta : TA} {p pos : Pos} (hg : Gl X "enumerate") (hm : X.mg "enumerate" = none) (ha : PA X [a] ta) (hs : starEach [a] X.env = [(false, eval a X.env)] := by rfl) :
    PI X (.Tuple elts kk tpos) (.Call (.Name "enumerate" p) [a] [] pos) (iEnumL X.K ta) := by
  intro pins s σ H R I h
  refine Call_ (ld_blt I hg hm boot_enumerate (PyProof.Rows.callWith_type1 (thn (ha pos pins s σ H _ I h) fun us s1 ⟨vs, H1, I1, r1, q1⟩ => ?_) hs rfl))
  obtain ⟨l, e, ⟨xs, hq⟩, q⟩ := q1
  subst e
  cases r1 with
  | cons r rr =>
    cases rr
    cases r
    obtain ⟨its, rv, p, hz⟩ := I1.list hq
    refine call_enumerate_list p.isList fun h' hE hI hsz hk => wpAny_pyIter_enum hE ?_
    refine ⟨_, [s1.heap.objs.size + 1, s1.heap.objs.size], _, _, H1, rfl, I1.kept (t' := s1.toks) hk, turn_enumL l _ _ (Nat.succ_ne_self _), ⟨⟨_, hE⟩, hI⟩, fun b hb => ?_, q⟩
    rcases List.mem_cons.mp hb with rfl | hb
    · exact I1.fpOk (Nat.le_succ _) (I1.hok.fresh (Nat.le_succ _))
    · rw [List.mem_singleton.mp hb]
      exact I1.fpOk (Nat.le_refl _) (I1.hok.fresh (Nat.le_refl _))
theorem pi_enumT {a : Expr} {ta : TA} {p pos : Pos} (hg : Gl X "enumerate") (hm : X.mg "enumerate" = none) (ha : PA X [a] ta) (hs : starEach [a] X.env = [(false, eval a X.env)] := by rfl) :
    PI X (.Tuple elts kk tpos) (.Call (.Name "enumerate" p) [a] [] pos) (iEnumT X.K ta) := by
  intro pins s σ H R I h
  refine Call_ (ld_blt I hg hm boot_enumerate (PyProof.Rows.callWith_type1 (thn (ha pos pins s σ H _ I h) fun us s1 ⟨vs, H1, I1, r1, q1⟩ => ?_) hs rfl))
  obtain ⟨l, e, ⟨xs, hq⟩, q⟩ := q1
  subst e
  cases r1 with
  | cons r rr =>
    cases rr
    cases r
    obtain ⟨its, rv, p, hz⟩ := I1.tuple hq
    have hll : l < s1.heap.objs.size := by obtain ⟨o, ho, _⟩ := p; exact Heap.lt_size ho
    refine call_enumerate_tup p fun h' hE hI hsz hk => wpAny_pyIter_enum hE ?_
    refine ⟨_, [s1.heap.objs.size + 1, s1.heap.objs.size], _, _, H1, rfl, I1.kept (t' := s1.toks) hk, turn_enumT l _ _ (Nat.succ_ne_self _) (Nat.ne_of_gt (Nat.lt_succ_of_lt hll)) (Nat.ne_of_lt hll), ⟨⟨_, hE⟩, hI⟩, fun b hb => ?_, q⟩
    rcases List.mem_cons.mp hb with rfl | hb
    · exact I1.fpOk (Nat.le_succ _) (I1.hok.fresh (Nat.le_succ _))
    · rw [List.mem_singleton.mp hb]
      exact I1.fpOk (Nat.le_refl _) (I1.hok.fresh (Nat.le_refl _))
end
end L2

namespace HT
open PySem PySem.Spec PyProof.Rows
section
variable {prog : Program} {w : World} {A : Around} {E : Value → Shared → Prop} {s : Shared}
end
end HT
namespace L2
open PySem PySem.Spec PyProof.Rows
section
variable {X : Cx}
end
end L2

namespace L2
open PySem PySem.Spec PyProof.Rows
open PySem.Builtin PySem.Builtin.ObjectAttr PySem.Builtin.Getset_descriptor
open PySem.W (Frag Looks looks_findIn looks_specialIn looks_takesIn looks_mroIn looks_subIn looks_typeIn)

structure XCls (K : Frag) (D : Addr) : Prop where
  ga : PySem.W.findIn K (.ref D) "__getattribute__" = some (some (.builtin "BaseException.__getattribute__"))
  gt : PySem.W.findIn K (.ref D) "__getattr__" = some none
  ca : PySem.W.findIn K (.ref D) "__class__" = some (some (.builtin "object.__class__"))
  cn : PySem.W.specialIn K (.builtin "object.__class__") "__get__" = some (some (.builtin "getset_descriptor.__get__"))
  tk : PySem.W.takesIn K (.builtin "object.__class__") = some true
  mo : PySem.W.mroIn K D (.type "object") = some true
  mb : PySem.W.mroIn K D (.type "BaseException") = some true
  is : (PySem.W.clsIn K D).isSome = true
section
variable {prog : Program} {w : World} {A : Around} {E : Value → Shared → Prop} {s : Shared} {K : Frag} {x D : Addr}
end
end L2

namespace L2
open PySem PySem.Spec PyProof.Rows
theorem ObjOk.here {P : Program} {w : World} {H : Hp} {h : Heap} {a : Addr} {o : HO} (x : ObjOk P w H h a o) : ∃ ob, h.get? a = some ob := by
  cases o with
  | lst xs => obtain ⟨_, _, _, _, e⟩ := x; exact ⟨_, e⟩
  | tup xs => obtain ⟨_, _, _, _, ob, e, _⟩ := x; exact ⟨_, e⟩
  | dK kvs => obtain ⟨_, _, _, _, o, _, _, e, _⟩ := x; exact ⟨_, e⟩
  | dT kvs => obtain ⟨_, _, _, _, o, _, _, e, _⟩ := x; exact ⟨_, e⟩
  | set S n => obtain ⟨o, _, _, _, e, _⟩ := x; exact ⟨_, e⟩
  | ins C dx fs => obtain ⟨_, _, _, e, _⟩ := x; exact ⟨_, e⟩
  | own y => exact x
  | xd fs => obtain ⟨_, ⟨_, _, _, e, _⟩, _⟩ := x; exact ⟨_, e⟩
  | rng lo hi => obtain ⟨_, _, _, e⟩ := x; exact ⟨_, e⟩
  | frz ob u => obtain ⟨e, _⟩ := x; exact ⟨_, e⟩
  | tbl ps => exact ⟨_, (show h.get? a = some _ from x)⟩
  | met f y => exact ⟨_, (show h.get? a = some _ from x)⟩
  | ext φ => obtain ⟨_, e, _⟩ := x; exact e
structure Fly (P : Program) (w : World) (outer : List Env) (H : Hp) (s : Shared) (B : Heap) (H' : Hp) (a C : Addr) (a0 : Value) (s' : Shared) : Prop where
  os : s'.os = s.os
  bare : AllBare s'.gens
  un : Un (frs outer) [] H H' s.heap s'.heap
  hok : HOk P w H' s'.heap
  fly : Heap.FlyingW B outer a (.ref C) a0 s'.heap
  old : ∀ b o, s'.heap.get? b = some o → (∃ o', s.heap.get? b = some o') → b ∉ frs outer → B.get? b = some o
  trk : ∀ b u o, H' b = some u → s'.heap.get? b = some o → B.get? b = some o
  new : H' a = none
  fresh : s.heap.get? a = none
section
variable {P : Program} {w : World} {outer : List Env} {H H' : Hp} {s s' : Shared} {B : Heap} {a C : Addr} {a0 : Value} {h6 : Heap}
theorem Fly.on (F : Fly P w outer H s B H' a C a0 s') (fl : Heap.FlyingW B outer a (.ref C) a0 h6) (up : s'.heap.UpToSlots h6) : Fly P w outer H s B H' a C a0 { s' with heap := h6 } := by
  have st := fl.1
  have fr : ∀ b ∈ frs outer, ∀ o, s'.heap.get? b = some o → ∃ sl, h6.get? b = some { o with slots := sl } := fun b hb o e => by
    obtain ⟨_, o', e', hd⟩ := F.fly.2.2.1.mem hb
    rw [e] at e'
    cases e'
    exact up b o e hd
  have inB : ∀ b o, s'.heap.get? b = some o → (∃ o', s.heap.get? b = some o') → b ∉ frs outer → h6.get? b = some o := fun b o e x hb => st b o (F.old b o e x hb)
  refine ⟨F.os, F.bare, ⟨fun b o e n hb hx => ?_, fun b o e n hb hx => ?_, F.un.free, fun b o e hx => ?_, F.un.tups, F.un.frzs, F.un.tbls⟩, fun b u e => ?_, fl, fun b o e x hb => ?_, fun b u o e q => ?_, F.new, F.fresh⟩
  · exact inB b o (F.un.keep b o e n hb hx) ⟨o, e⟩ hb
  · obtain ⟨sl, e1⟩ := F.un.slot b o e n hb hx
    obtain ⟨sl', e2⟩ := fr b hb _ e1
    exact ⟨sl', e2⟩
  · obtain ⟨o', e1⟩ := F.un.there b o e hx
    by_cases hb : b ∈ frs outer
    · obtain ⟨sl, e2⟩ := fr b hb _ e1
      exact ⟨_, e2⟩
    · exact ⟨o', inB b o' e1 ⟨o, e⟩ hb⟩
  · refine (F.hok b u e).stay (fun c v hc q => ?_) (fun _ q => q) fun _ _ q => q
    have tc : ∃ u', H' c = some u' := by
      rcases hc with rfl | hc
      · exact ⟨u, e⟩
      · exact ⟨_, hc⟩
    obtain ⟨u', eu⟩ := tc
    exact st c v (F.trk c u' v eu q)
  · obtain ⟨o', ho'⟩ := x
    obtain ⟨o1, e1⟩ := F.un.there b o' ho' (by simp)
    have z := F.old b o1 e1 ⟨o', ho'⟩ hb
    have z2 : h6.get? b = some o1 := st b o1 z
    rw [show h6.get? b = some o from e] at z2
    cases z2
    exact z
  · obtain ⟨o1, e1⟩ := (F.hok b u e).here
    have z := F.trk b u o1 e e1
    have z2 : h6.get? b = some o1 := st b o1 z
    rw [show h6.get? b = some o from q] at z2
    cases z2
    exact z
end
section
variable {X : Cx} {pins : List (Addr × Obj)} {σ : St} {H H' : Hp} {s s' : Shared} {B : Heap} {a C : Addr} {a0 : Value}
end
section
variable {P : Program} {w : World} {K : PySem.W.Frag} {mg : Str → Option Value} {base : Heap} {N : List Str} {qual : Str} {scope : Scope} {f : Addr} {cd : Value} {A : Around} {outer : List Env} {s : Shared} {H : Hp} {E : XK}
end
abbrev bmVE : List Value := [.type "ValueError", .type "Exception", .type "BaseException", .type "object"]
structure XRaise (K : PySem.W.Frag) (mg : Str → Option Value) (x : Str) (C : Addr) : Prop where
  at_ : mg x = some (.ref C)
  ex : PySem.W.excIn K C bmVE "ValueError.__new__" = true
theorem XRaise.own {K : PySem.W.Frag} {mg : Str → Option Value} {x : Str} {C : Addr} {h : Heap} (R : XRaise K mg x C) (X : K.In h) : OwnCls x C bmVE "ValueError.__new__" mg h := by
  refine ⟨R.at_, ?_⟩
  have q := R.ex
  unfold PySem.W.excIn at q
  split at q
  · rename_i dd cd sl ho
    split at q
    · rename_i C' bm k0 k1 k2 k3 n k5 hm hs
      simp only [Bool.and_eq_true, beq_iff_eq, Bool.not_eq_true'] at q
      obtain ⟨⟨⟨⟨⟨rfl, rfl⟩, hdel⟩, ht⟩, hok⟩, hni⟩ := q
      obtain ⟨nm, bs, mro, ns, qn, hd, sn, sub, ab, col, del⟩ := cd
      dsimp only at hm hdel hok hni
      subst hm hdel
      have hsl : sl = #[k0, k1, k2, k3, some (.builtin "ValueError.__new__"), k5] := by
        obtain ⟨l⟩ := sl
        simp only at hs
        rw [hs]
      subst hsl
      exact ⟨bm, ns, nm, qn, bs, hd, sn, sub, ab, col, dd, k0, k1, k2, k3, k5, _, X _ _ ho, .of_isNs (PySem.W.isNs_of_in X hok), PySem.W.nsMap_none_of_in X hok hni, PySem.W.tail_of_in X ht⟩
    · cases q
  · cases q
abbrev Cx.suite (X : Cx) (a : Addr) : Cx := { X with A := X.A.mark (some (.ref a)), calm := false }
theorem Cx.Ok.suite {X : Cx} (ok : X.Ok) (a : Addr) : (X.suite a).Ok :=
  ⟨ok.mod, ok.kind, ok.glob, ok.blt, ok.above, ok.inj, ok.has, ok.cab, (fun z => nomatch z), ok.frames, ok.stk, ok.exf, ok.bs, ok.bsz, ok.noex, ok.exfs, ok.funs, ok.frf⟩
section
variable {X : Cx} {pins : List (Addr × Obj)} {σ : St} {H : Hp} {s : Shared} {a : Addr}
theorem Inv.suite (I : Inv X pins σ H s) (a : Addr) : Inv (X.suite a) pins σ H s := ⟨I.ok.suite a, I.os, I.bare, I.base, I.loc, I.cell, I.free, I.freeC, I.pin, I.hok, I.len⟩
end
structure XCatch (K : PySem.W.Frag) (mg : Str → Option Value) (x : Str) (C : Addr) : Prop where
  at_ : mg x = some (.ref C)
  is : PySem.W.clsIn K C ≠ none
  ty : PySem.W.typeIn K (.ref C) = some (.type "type")
  mb : PySem.W.mroIn K C (.type "BaseException") = some true
section
variable {X : Cx} {CX : CXT} {x y n : Str} {j k i : Nat} {ps : List Str} {sp : Sp} {p pos tpos hpos np epos : Pos} {e : Expr} {es : List Expr} {t : TA} {C : Addr} {b₀ : Stmt} {suite : List Stmt} {ts : TS}
end
end L2

namespace L2
open PySem PySem.Spec PyProof.Rows
section
variable {X : Cx} {K : PySem.W.Frag}
end
structure RoomS (k : Nat) (A : Around) : Prop where
  dp : A.depth + 3 * k + 5 < recursionLimit
  un : A.units + 16 * k + 200 < cLine
theorem Room.toS {k : Nat} {A : Around} (r : Room k A) : RoomS k A := ⟨r.dp, r.un⟩
theorem Room.suite {k : Nat} {A : Around} (r : Room k A) (v : Option Value) : RoomS k (A.mark v) := ⟨r.dp, r.un⟩
theorem RoomS.mono {j k : Nat} {A : Around} (r : RoomS k A) (h : j ≤ k) : RoomS j A := ⟨by have := r.dp; omega, by have := r.un; omega⟩
theorem RoomS.deeper {k : Nat} {A : Around} (r : RoomS (k + 1) A) (env : Env) : RoomS k (A.deeper env) :=
  ⟨by have := r.dp; show A.depth + 1 + 3 * k + 5 < _; omega, by have := r.un; show A.units + 3 + 16 * k + 200 < _; omega⟩
structure FnOkS (P : Program) (w : World) (K : PySem.W.Frag) (mg : Str → Option Value) (base : Heap) (CX : CXT) (k : Nat) (f : Addr) (fd : FuncData) (ps : List Str) (sp : Sp) : Prop where
  len : ∀ vs H Q E, sp vs H Q E → vs.length = ps.length
  run : ∀ (A : Around) (outer : List Env) (s : Shared) (H : Hp) (args : Args) (us : List Value) (vs : List V) (Q : VK) (E : XK), RoomS k A → Env0 P w K mg base A outer s H → BindsTo s fd args (ps.zip us) → Vals vs us → sp vs H Q E →
    codeAny (model P w) A (.call (.ref f) args) (CR CX outer P w H s Q E) s
theorem FnOkS.fn {P : Program} {w : World} {K : PySem.W.Frag} {mg : Str → Option Value} {base : Heap} {CX : CXT} {k : Nat} {f : Addr} {fd : FuncData} {ps : List Str} {sp : Sp} (F : FnOkS P w K mg base CX k f fd ps sp) : FnOk P w K mg base CX k f fd ps sp :=
  ⟨F.len, fun A outer s H args us vs Q E hr => F.run A outer s H args us vs Q E hr.toS⟩
structure CalS (P : Program) (w : World) (K : PySem.W.Frag) (mg : Str → Option Value) (base : Heap) (CX : CXT) (x : Str) (k : Nat) (ps : List Str) (sp : Sp) : Prop where
  ex : ∃ f fd, FnOkS P w K mg base CX k f fd ps sp ∧ Binds K fd ps [] ∧ PySem.W.keepIn K (.ref f) = true ∧ mg x = some (.ref f)
abbrev Cx.any (X : Cx) (A : Around) : Cx := { X with A := A, calm := false }
theorem Inv.any {X : Cx} {pins : List (Addr × Obj)} {σ : St} {H : Hp} {s : Shared} (I : Inv X pins σ H s) {A : Around} (hf : A.frames = some X.stack) : Inv (X.any A) pins σ H s :=
  ⟨⟨I.ok.mod, I.ok.kind, I.ok.glob, I.ok.blt, I.ok.above, I.ok.inj, I.ok.has, I.ok.cab, (fun z => nomatch z), hf, I.ok.stk, I.ok.exf, I.ok.bs, I.ok.bsz, I.ok.noex, I.ok.exfs, I.ok.funs, I.ok.frf⟩, I.os, I.bare, I.base, I.loc, I.cell, I.free, I.freeC, I.pin, I.hok, I.len⟩
end L2

namespace L2
open PySem PySem.Spec PyProof.Rows
def noStar : Expr → Bool
  | .Starred _ _ => false
  | _ => true
theorem star1 {e : Expr} {es : List Expr} {env : Env} (h : noStar e = true) : starEach (e :: es) env = (false, eval e env) :: starEach es env := by
  cases e <;> first | rfl | cases h
theorem star1' {e : Expr} {env : Env} (h : noStar e = true) : starEach [e] env = [(false, eval e env)] := by rw [star1 h]; rfl
theorem star2' {e e2 : Expr} {env : Env} (h : noStar e = true) (h2 : noStar e2 = true) : starEach [e, e2] env = [(false, eval e env), (false, eval e2 env)] := by rw [star1 h, star1' h2]
theorem nost0 {env : Env} {pos : Pos} : (backTo pos (starEach [] env)).any (·.1) = false := rfl
theorem nost1 {e : Expr} {es : List Expr} {env : Env} {pos : Pos} (h : noStar e = true) (r : (backTo pos (starEach es env)).any (·.1) = false) : (backTo pos (starEach (e :: es) env)).any (·.1) = false := by
  rw [star1 h]
  show (false || (backTo pos (starEach es env)).any (·.1)) = false
  rw [r]
  rfl
def plainT : Expr → Bool
  | .UnaryOp _ _ _ => false
  | .BoolOp _ _ _ => false
  | .IfExp _ _ _ _ => false
  | .Compare _ _ _ _ => false
  | _ => true
theorem test1 {e : Expr} {env : Env} (h : plainT e = true) : ∀ whole, isTrue e env whole = (do let v ← whole; standAt e.pos; holding [v] (truthy v)) := by
  intro whole
  cases e <;> first | rfl | cases h
def noComp : Expr → Bool
  | .ListComp _ _ _ _ => false
  | .SetComp _ _ _ _ => false
  | .DictComp _ _ _ _ _ => false
  | _ => true
theorem swap1 {e : Expr} {tg : Option Expr} {n : Nat} {env : Env} (h : noComp e = true) : swapsWith e tg n env = pure false := by
  cases e <;> first | rfl | cases h
end L2

namespace L2
open PySem PySem.Spec PyProof.Rows
end L2

namespace L2
open PySem PySem.Spec PyProof.Rows
theorem ints_are : ∀ {ns : List Int} {its : List Value}, Vals (ns.map V.int) its → IntsAre its ns
  | [], _, .nil => .nil
  | n :: ns, _, .cons ⟨t, e⟩ r => by subst e; exact .cons n t (ints_are r)
section
variable {X : Cx}
theorem call_all1 (hc : X.calm = true) : CallR X (.builtin "all") (fun xs H Q => ∃ (p : Addr) (bs : List Bool), xs = [.ref p] ∧ SqL X.K H p (bs.map V.bl) ∧ Q (.bl (bs.all id)) H) := by
  intro pins s σ H xs us Q I r h
  obtain ⟨p, bs, rfl, hq, q⟩ := h
  obtain ⟨u, rfl, rx⟩ := vals1 r
  cases rx
  obtain ⟨its, r', pl, hz⟩ := I.list hq
  have hl := pl.isList
  have hlt : p < s.heap.objs.size := by obtain ⟨_, e, _⟩ := hl; exact Heap.lt_size e
  have len := r'.length
  rw [List.length_map] at len
  refine call_all_walk (wpAny_pyIter_list hl ⟨_, _, _, _, _, _, fun i => bs.getD i true, rfl, Walks.list (A := X.A.in1) (I.ok.hd hc) s.heap.objs.size p (Nat.ne_of_lt hlt) its.toArray, ⟨⟨_, Heap.get?_push_size _ rfl, rfl, rfl⟩, hl.push _⟩, ?_, ?_⟩)
  · intro i v s' Q' E' hP hQ
    have hP' : its[i]? = some v := by simpa using hP
    have li : i < bs.length := by
      have := (List.getElem?_eq_some_iff.mp hP').1
      omega
    obtain ⟨u, e1, e2⟩ := r'.get (i := i) (x := .bl (bs.getD i true)) (by simp [List.getD, li])
    rw [hP'] at e1
    cases e1
    obtain rfl : v = Value.bool (bs.getD i true) := e2
    exact wpAny_truthy_bool hQ
  · intro h' tk hk
    have : (List.range its.toArray.size).all (fun i => bs.getD i true) = bs.all id := by
      rw [List.size_toArray, ← len]
      clear len hq q r' hz
      induction bs with
      | nil => rfl
      | cons b bs ih =>
        rw [List.length_cons, List.range_succ_eq_map, List.all_cons, List.all_map, List.all_cons]
        exact congrArg _ ih
    rw [this]
    exact ⟨.bl _, H, I.kept (old_kept hk), rfl, q⟩
end
end L2

namespace L2
open PySem PySem.Spec PyProof.Rows
structure Apart (z TI TO i1 i2 : Addr) (f1 f2 : List Addr) : Prop where
  zTI : z ≠ TI
  zTO : z ≠ TO
  TITO : TI ≠ TO
  TI1 : TI ≠ i1
  TI2 : TI ≠ i2
  m1 : i1 ∈ f1
  m2 : i2 ∈ f2
  z1 : z ∉ f1
  z2 : z ∉ f2
  t1 : TO ∉ f1
  t2 : TO ∉ f2
  i12 : i1 ∉ f2
  i21 : i2 ∉ f1
section
variable {prog : Program} {w : World} {A : Around} {E : Value → Shared → Prop} {s : Shared} {z TI TO i1 i2 : Addr} {f1 f2 : List Addr} {n1 n2 k : Nat} {P1 P2 : Nat → Value → Prop} {S1 S2 : Nat → Heap → Prop}
end
end L2

namespace L2
open PySem PySem.Spec PyProof.Rows
theorem pg_tupK {X : Cx} {K : PySem.W.Frag} {es : List Expr} {k n : Nat} {t : TGs} {pos : Pos} (hK : X.K = K) (hc : X.calm = true) (h : PGs X es t) (hn : (assignEach es X.env).length = n) (hst : (assignEach es X.env).findIdx? (·.1) = none) : PG X (.Tuple es k pos) (gTup K n t) := by
  subst hK
  exact pg_tup hc h hn hst
end L2

namespace L2
open PySem PySem.Spec PyProof.Rows
section
variable {X : Cx}
theorem ints_at {ns : List Int} {its : List Value} (r : Vals (ns.map V.int) its) {j : Nat} (h : j < its.length) : ∃ t, its[j] = .int (ns.getD j 0) t := by
  obtain ⟨x, e, rv⟩ := vals_at r h
  have hl : j < ns.length := by have := r.length; rw [List.length_map] at this; omega
  rw [List.getElem?_map, List.getElem?_eq_getElem hl] at e
  cases e
  obtain ⟨t, e⟩ := rv
  exact ⟨t, by rw [e]; simp [List.getD, hl]⟩
theorem argBest_max {ns : List Int} (h : 0 < ns.length) : ns.getD (argBest (fun i j => decide (ns.getD i 0 > ns.getD j 0)) (ns.length - 1)) 0 ∈ ns ∧ (∀ a ∈ ns, a ≤ ns.getD (argBest (fun i j => decide (ns.getD i 0 > ns.getD j 0)) (ns.length - 1)) 0) ∧ argBest (fun i j => decide (ns.getD i 0 > ns.getD j 0)) (ns.length - 1) < ns.length := by
  obtain ⟨h1, h2⟩ := argBest_gt (fun i => ns.getD i 0) (ns.length - 1)
  have hb : argBest (fun i j => decide (ns.getD i 0 > ns.getD j 0)) (ns.length - 1) < ns.length := by
    have : argBest (fun i j => decide (ns.getD i 0 > ns.getD j 0)) (ns.length - 1) ≤ ns.length - 1 := h1
    omega
  refine ⟨?_, fun a ha => ?_, hb⟩
  · generalize argBest _ _ = k at hb
    have e : ns.getD k 0 = ns[k] := by simp [List.getD, hb]
    rw [e]
    exact List.getElem_mem hb
  · obtain ⟨j, hj, rfl⟩ := List.getElem_of_mem ha
    have := h2 j (by omega)
    have e : ns.getD j 0 = ns[j] := by simp [List.getD, hj]
    rw [← e]
    exact this
theorem call_max1 (hc : X.calm = true) : CallR X (.builtin "max") (fun xs H Q => ∃ (p : Addr) (ns : List Int), xs = [.ref p] ∧ (SqL X.K H p (ns.map V.int) ∨ SqT X.K H p (ns.map V.int)) ∧ 0 < ns.length ∧ ∀ m, m ∈ ns → (∀ a ∈ ns, a ≤ m) → Q (.int m) H) := by
  intro pins s σ H xs us Q I r h
  obtain ⟨p, ns, rfl, hq, hn, q⟩ := h
  obtain ⟨u, rfl, rx⟩ := vals1 r
  cases rx
  obtain ⟨b1, b2, b3⟩ := argBest_max hn
  rcases hq with hq | hq
  · obtain ⟨its, r', pl, hz⟩ := I.list hq
    have hl := pl.isList
    have hlt : p < s.heap.objs.size := by obtain ⟨_, e, _⟩ := hl; exact Heap.lt_size e
    have len := r'.length
    rw [List.length_map] at len
    refine call_max_walk (wpAny_pyIter_list hl ⟨_, _, _, _, _, _, (fun i j => decide (ns.getD i 0 > ns.getD j 0)), rfl, Walks.list (A := X.A.in1) (I.ok.hd hc) s.heap.objs.size p (Nat.ne_of_lt hlt) its.toArray, ⟨⟨_, Heap.get?_push_size _ rfl, rfl, rfl⟩, hl.push _⟩, ?_, ?_, ?_, ?_⟩)
    · intro b hb
      show b < (s.heap.push _).objs.size
      rw [Heap.size_push]
      rcases List.mem_cons.mp hb with rfl | hb
      · exact Nat.lt_succ_self _
      · rcases List.mem_cons.mp hb with rfl | hb
        · exact Nat.lt_succ_of_lt hlt
        · cases hb
    · rw [List.size_toArray, ← len]
      exact hn
    · refine CmpOf.ints_gt (fun i => ns.getD i 0) fun i v hP => ?_
      have hP' : its[i]? = some v := by simpa using hP
      obtain ⟨hi, e⟩ := List.getElem?_eq_some_iff.mp hP'
      rw [← e]
      exact ints_at r' hi
    · intro v h' tk hP hk
      have hP' : its[argBest (fun i j => decide (ns.getD i 0 > ns.getD j 0)) (ns.length - 1)]? = some v := by
        rw [List.size_toArray, ← len] at hP
        simpa using hP
      obtain ⟨hi, e⟩ := List.getElem?_eq_some_iff.mp hP'
      obtain ⟨t, e2⟩ := ints_at r' hi
      exact ⟨.int _, H, I.kept (old_kept hk), ⟨t, by rw [← e, e2]⟩, q _ b1 b2⟩
  · obtain ⟨its, r', pl, hz⟩ := I.tuple hq
    have hlt : p < s.heap.objs.size := by obtain ⟨_, e, _⟩ := pl; exact Heap.lt_size e
    have len := r'.length
    rw [List.length_map] at len
    refine call_max_walk (wpAny_pyIter_tuple pl ⟨_, _, _, _, _, _, (fun i j => decide (ns.getD i 0 > ns.getD j 0)), rfl, Walks.tuple (A := X.A.in1) (I.ok.hd hc) s.heap.objs.size p (Nat.ne_of_lt hlt) its.toArray, ⟨⟨_, Heap.get?_push_size _ rfl, rfl, rfl⟩, pl.push _⟩, ?_, ?_, ?_, ?_⟩)
    · intro b hb
      show b < (s.heap.push _).objs.size
      rw [Heap.size_push]
      rcases List.mem_cons.mp hb with rfl | hb
      · exact Nat.lt_succ_self _
      · rcases List.mem_cons.mp hb with rfl | hb
        · exact Nat.lt_succ_of_lt hlt
        · cases hb
    · rw [List.size_toArray, ← len]
      exact hn
    · refine CmpOf.ints_gt (fun i => ns.getD i 0) fun i v hP => ?_
      have hP' : its[i]? = some v := by simpa using hP
      obtain ⟨hi, e⟩ := List.getElem?_eq_some_iff.mp hP'
      rw [← e]
      exact ints_at r' hi
    · intro v h' tk hP hk
      have hP' : its[argBest (fun i j => decide (ns.getD i 0 > ns.getD j 0)) (ns.length - 1)]? = some v := by
        rw [List.size_toArray, ← len] at hP
        simpa using hP
      obtain ⟨hi, e⟩ := List.getElem?_eq_some_iff.mp hP'
      obtain ⟨t, e2⟩ := ints_at r' hi
      refine ⟨.int _, H, I.kept (fun b o e => ?_), ⟨t, by rw [← e, e2]⟩, q _ b1 b2⟩
      refine hk b o (fun hm => ?_) (Heap.get?_push_of_some _ e)
      rcases List.mem_cons.mp hm with e1 | hm
      · exact absurd (e1 ▸ Heap.lt_size e) (Nat.lt_irrefl _)
      · cases hm
theorem call_int_bl : CallR X (.type "int") (fun xs H Q => ∃ b, xs = [.bl b] ∧ Q (.int (if b = true then 1 else 0)) H) := by
  intro pins s σ H xs us Q I r h
  obtain ⟨b, rfl, q⟩ := h
  obtain ⟨u, rfl, rfl⟩ := vals1 r
  exact call_int_bool ⟨.int _, H, I.tok _, ⟨_, rfl⟩, q⟩
abbrev Sq (K : PySem.W.Frag) (H : Hp) (a : Addr) (xs : List V) : Prop := SqL K H a xs ∨ SqT K H a xs
section
variable {K : PySem.W.Frag} {D : Ends} {g : TG} {tb : TS} {σ : St} {H : Hp} {a : Addr}
end
section
variable {K : PySem.W.Frag} {D a : Addr} {g : TG} {tt : TT} {te : TE} {Q : VK} {τ : St} {H : Hp}
end
end
end L2

namespace L2
open PySem PySem.Spec PyProof.Rows
abbrev sgn (c : Nat) : V := .str ⟨#[c]⟩
abbrev txt (cs : List Nat) : Str := ⟨cs.toArray⟩
def Its (cs : List Nat) : It := ⟨fun i _ => i < cs.length, fun i H v H' => H' = H ∧ ∃ c, cs[i]? = some c ∧ v = sgn c, fun i _ => cs.length ≤ i⟩
theorem turn_str {P : Program} {w : World} {K : PySem.W.Frag} {tg : Expr} (it : Addr) (cs : List Nat) (t : Tok) : Turn P w K tg (Its cs) [it] it (fun i h => h.IsStrIter it "str_ascii_iterator" (txt cs) t i) where
  mem := by simp
  obj := fun i h st b hb => by
    have e : b = it := by simpa using hb
    subst e
    obtain ⟨o, e, c, d⟩ := st
    exact ⟨o, e, fun v z => by rw [d] at z; cases z⟩
  keep := fun i h h' st k => by
    obtain ⟨o, e, r⟩ := st
    exact ⟨o, k it (by simp) o e, r⟩
  item := by
    intro X hP hw hK hc i pins s σ H E I hf st hg
    subst hP hw hK
    obtain ⟨f0, f1, f2, f3, f4, f5⟩ := hf it (by simp)
    have W := Walks.strAscii (prog := X.prog) (w := X.w) (I.ok.hd hc) it (txt cs) t
    have hg' : i < (txt cs).cps.size := by simpa using (show i < cs.length from hg)
    refine W.item i s _ _ hg' st fun v h' tk hv st' kk => ?_
    obtain ⟨c, u, hcp, rfl⟩ := hv
    have I1 : Inv X pins σ H { s with heap := h', toks := tk } := I.turned (fun b o hb e => kk b o (by simpa using hb) e) f0 f1 f3 f4 f5
    obtain ⟨o, e, c', d⟩ := id st'
    exact ⟨_, rfl, go_of (s := { s with heap := h', toks := tk }) e c' d (by decide) ⟨sgn c, H, I1, ⟨u, rfl⟩, ⟨rfl, c, by simpa using hcp, rfl⟩, st', fun b hb => (hf b hb).1⟩⟩
  done := by
    intro X hP hw hK hc i pins s σ H E I hf st hg
    subst hP hw hK
    obtain ⟨f0, f1, f2, f3, f4, f5⟩ := hf it (by simp)
    have hg' : cs.length ≤ i := hg
    exact wpAny_pyNext_ascii_end (I.ok.hd hc) st (by simp; omega) fun h' eb => ⟨rfl, I.turned (t' := s.toks) (fun b o hb e => eb b o hb e) f0 f1 f3 f4 f5⟩
  self := fun _ _ _ _ _ st h => wpAny_pyIter_striter_ascii st h
section
variable {X : Cx} {tg : Expr}
def iStr (tl : TE) : TI := fun σ H R => tl σ H fun x H1 => ∃ cs, x = .str (txt cs) ∧ cs.all (fun c => decide (c < 128)) = true ∧ R (Its cs) H1
theorem pi_str {l : Expr} {tl : TE} (hl : PE X l tl) : PI X tg l (iStr tl) := by
  intro pins s σ H R I h
  refine thn (hl pins s σ H _ I h) fun v s1 ⟨x, H1, I1, r1, q1⟩ => ?_
  obtain ⟨cs, e, ha, q⟩ := q1
  subst e
  obtain ⟨t, rfl⟩ := r1
  refine wpAny_pyIter_ascii (by simpa using ha) ?_
  refine ⟨s1.heap.objs.size, [s1.heap.objs.size], _, _, H1, rfl, I1.kept (t' := s1.toks) fun b o e => Heap.get?_push_of_some _ e, turn_str _ cs t, ⟨_, Heap.get?_push_size _ rfl, rfl, rfl⟩, fun b hb => ?_, q⟩
  have e : b = s1.heap.objs.size := by simpa using hb
  subst e
  exact I1.fpOk (Nat.le_refl _) (I1.hok.fresh (Nat.le_refl _))
end
section
variable {g : TG} {tb : TS} {D : Ends} {σ : St} {H : Hp}
end
section
variable {D : Addr} {g : TG} {tt : TT} {te : TE} {Q : VK} {τ : St} {H : Hp}
theorem compS_str (cs : List Nat) (Pv : Nat → St → Hp → Prop) (h0 : Pv 0 τ H)
    (hs : ∀ i c τ H (R : St → Hp → Prop), cs[i]? = some c → Pv i τ H → (∀ τ' H', Pv (i + 1) τ' H' → R τ' H') → tComp1 D g tt te (sgn c) τ H R) (hd : ∀ τ H, Pv cs.length τ H → Q (.ref D) H) : CompS D (Its cs) g tt te Q τ H := by
  refine ⟨fun i m τ H => m = cs.length - i ∧ i ≤ cs.length ∧ Pv i τ H, ⟨cs.length, by simp, Nat.zero_le _, h0⟩, ?_⟩
  rintro i m τ H2 ⟨rfl, hi, p⟩
  by_cases hlt : i < cs.length
  · refine .inr ⟨hlt, fun x H' y => ?_⟩
    obtain ⟨e, c, hc, rfl⟩ := y
    subst e
    exact hs i c τ _ (fun τ' H' => ∃ m', m' < cs.length - i ∧ m' = cs.length - (i + 1) ∧ i + 1 ≤ cs.length ∧ Pv (i + 1) τ' H') hc p fun τ' H' p' => ⟨_, by omega, rfl, hlt, p'⟩
  · have e : i = cs.length := by omega
    subst e
    exact .inl ⟨Nat.le_refl _, hd τ H2 p⟩
end
section
variable {X : Cx}
def rLeS : R2 := fun x y H Q => ∃ c d : Nat, x = sgn c ∧ y = sgn d ∧ Q (.bl (decide (c ≤ d))) H
theorem op_leS : OpR X (compareOp .LtE) rLeS := by
  intro pins s σ H x y v u Q I rx ry h
  obtain ⟨c, d, rfl, rfl, q⟩ := h
  obtain ⟨t, rfl⟩ := rx
  obtain ⟨t', rfl⟩ := ry
  refine P.le_str (fin_bl I q ?_)
  have e : (([d] : List Nat) < [c]) ↔ d < c := by simp [List.cons_lt_cons_iff]
  show decide (c ≤ d) = !decide (([d] : List Nat) < [c])
  by_cases h : c ≤ d
  · rw [decide_eq_true h, decide_eq_false (fun z => absurd (e.mp z) (by omega))]
    rfl
  · rw [decide_eq_false h, decide_eq_true (e.mpr (by omega))]
    rfl
theorem join_sgn : ∀ cs : List Nat, Str.join "" (cs.map fun c => (⟨#[c]⟩ : Str)) = txt cs
  | [] => rfl
  | [c] => rfl
  | c :: d :: cs => by
    have ih := join_sgn (d :: cs)
    show (⟨#[c]⟩ : Str) ++ "" ++ Str.join "" ((d :: cs).map fun c => (⟨#[c]⟩ : Str)) = txt (c :: d :: cs)
    rw [ih]
    apply Str.ext'
    simp [Str.cps_append]
    rfl
theorem strs_of : ∀ {ts : List Str} {its : List Value}, Vals (ts.map V.str) its → ∃ l : List (Str × Tok), its = strValues l ∧ l.map (·.1) = ts
  | [], _, .nil => ⟨[], rfl, rfl⟩
  | z :: ts, _, .cons ⟨t, e⟩ r => by
    subst e
    obtain ⟨l, e1, e2⟩ := strs_of r
    exact ⟨(z, t) :: l, by rw [e1]; rfl, by rw [List.map_cons, e2]⟩
def rJoin (K : PySem.W.Frag) : V → List V → Hp → VK → Prop := fun x vs H Q => ∃ (p : Addr) (cs : List Nat), x = .str "" ∧ vs = [.ref p] ∧ SqL K H p (cs.map sgn) ∧ cs.length ≤ 1000 ∧ Q (.str (txt cs)) H
theorem join_sum : ∀ (ts : List Str) (n : Nat), (∀ z ∈ ts, z.length = 1) → ts.foldl (fun a p => a + p.length + ("" : Str).length) n = n + ts.length
  | [], n, _ => rfl
  | z :: ts, n, h => by
    rw [List.foldl_cons, join_sum ts _ fun y hy => h y (List.mem_cons_of_mem _ hy), h z (List.mem_cons_self ..), List.length_cons, show ("" : Str).length = 0 from rfl]
    omega
theorem mt_join : MtR X "str.join" (rJoin X.K) := by
  intro pins s σ H x vs v us Q I rx rv h
  obtain ⟨p, cs, rfl, rfl, hq, hz, q⟩ := h
  obtain ⟨t, rfl⟩ := rx
  obtain ⟨u, rfl, ru⟩ := vals1 rv
  cases ru
  obtain ⟨its, r, pl, _⟩ := I.list hq
  have r' : Vals ((cs.map fun c => (⟨#[c]⟩ : Str)).map V.str) its := by rw [List.map_map]; exact r
  obtain ⟨l, e1, e2⟩ := strs_of r'
  have hl := pl.isList
  rw [e1] at hl
  have one : ∀ z ∈ cs.map (fun c => (⟨#[c]⟩ : Str)), z.length = 1 := fun z hz => by
    obtain ⟨c, _, rfl⟩ := List.mem_map.mp hz
    rfl
  have tot : Builtin.Str.tooLong ((l.map (·.1)).toArray.foldl (· + ·.length + ("" : Str).length) 0) = false := by
    rw [e2, List.foldl_toArray, join_sum _ _ one, List.length_map]
    unfold Builtin.Str.tooLong
    rw [sizeLine_eq]
    simp
    omega
  refine call_meets PySem.F.slot_str_join (typeIs_str s _ t) PySem.F.entry_str_join (PySem.F.args_str_join_2 _ _) (meets_str_join_list "" t p l tot) ⟨hl, ?_⟩
  have fin : ∀ (tk' : Tok) (s' : Shared), Inv X pins σ H s' → EP X pins σ Q (.str (txt cs) tk') s' := fun tk' s' I' => ⟨.str (txt cs), H, I', ⟨tk', rfl⟩, q⟩
  have gl : Builtin.Str.glued "" (l.map (·.1)) = txt cs := by
    rw [StrLaws.glued_eq_join, e2, join_sgn]
  have sz : (txt cs).length ≤ sizeLine := by
    show cs.toArray.size ≤ sizeLine
    rw [List.size_toArray, sizeLine_eq]
    omega
  match l, e2, gl with
  | [p1], e2, gl =>
    obtain ⟨z, tz⟩ := p1
    have : z = txt cs := gl
    subst this
    exact fin tz s I
  | [], e2, gl =>
    refine ⟨by rw [gl]; exact sz, ?_⟩
    rw [gl]
    exact fin _ _ (I.tok _)
  | p1 :: p2 :: r2, e2, gl =>
    refine ⟨by rw [gl]; exact sz, ?_⟩
    rw [gl]
    exact fin _ _ (I.tok _)
def isLow (c : Nat) : Bool := decide (97 ≤ c) && decide (c ≤ 122)
end
end L2

namespace L2
open PySem PySem.Spec PyProof.Rows
deriving instance DecidableEq for Kn
section
variable {X : Cx}
theorem call_tupleL : CallR X (.type "tuple") (fun xs H Q => ∃ p ys, xs = [.ref p] ∧ SqL X.K H p ys ∧ ∀ l, H l = none → Q (.ref l) (upd H l (.tup ys))) := by
  intro pins s σ H xs us Q I r h
  obtain ⟨p, ys, rfl, hq, q⟩ := h
  exact call_tuple_of pins s σ H _ us Q I r ⟨p, ys, rfl, .inl ⟨hq, q⟩⟩
theorem call_listL : CallR X (.type "list") (fun xs H Q => ∃ p ys, xs = [.ref p] ∧ SqL X.K H p ys ∧ ∀ l, H l = none → Q (.ref l) (upd H l (.lst ys))) := by
  intro pins s σ H xs us Q I r h
  obtain ⟨p, ys, rfl, hq, q⟩ := h
  exact call_list_of pins s σ H _ us Q I r ⟨p, ys, rfl, .inl hq, q⟩
end
end L2

namespace PySem
open Sem (wp)
namespace SetL
theorem plain_loop : plainId "set.update.loop" = true := by decide +kernel
theorem entry_loop : entryFor table "set.update.loop" = some Builtin.«set.update.loop» := entryFor_of_tree (by kernel_rfl)
def addS (p : (Int → Bool) × Nat) (k : Int) : (Int → Bool) × Nat := (fun k' => p.1 k' || decide (k' = k), if p.1 k = true then p.2 else p.2 + 1)
theorem addS_le (p : (Int → Bool) × Nat) (k : Int) : (addS p k).2 ≤ p.2 + 1 := by
  show (if p.1 k = true then p.2 else p.2 + 1) ≤ _
  split <;> omega
section
variable {prog : Program} {w : World} {A : Around} {R : Result → Shared → Prop} {I : Addr} {fp wr : List Addr} {n : Nat} {P : Nat → Value → Prop} {St : Nat → Heap → Prop}
theorem codeAny_set_loop (W : Walks prog w A.in1 I fp wr n P St) (a : Addr) (ha : a ∉ fp) (hw : a ∉ wr) (val : Nat → Int) (hval : ∀ i v, P i v → ∃ t, v = .int (val i) t) : ∀ (k i : Nat) (s : Shared) (p : (Int → Bool) × Nat), n - i = k → i ≤ n → St i s.heap →
    s.heap.SetOf (intKind prog w) a p.1 p.2 → p.2 + k < scanBound →
    (∀ h' tk, h'.SetOf (intKind prog w) a (((List.range n).drop i).foldl (fun q j => addS q (val j)) p).1 (((List.range n).drop i).foldl (fun q j => addS q (val j)) p).2 → (∀ b o, b ∉ a :: wr → s.heap.get? b = some o → h'.get? b = some o) → R (.ok (.ret .none)) { s with heap := h', toks := tk }) →
    codeAny (model prog w) A (.builtin "set.update.loop" ⟨[.ref a, .ref I], []⟩) R s := by
  intro k
  induction k with
  | zero =>
    intro i s p hk hi hst hS hb hR
    have hin : i = n := by omega
    subst hin
    refine codeAny_builtin entry_loop ?_
    rw [Around.under_plainId plain_loop _]
    show wpAny _ A.in1 (pyNext (.ref I) >>= _) _ _ s
    refine wpAny_bind (W.done s _ _ hst fun h' tk hk' => ?_)
    refine wpAny_pure ?_
    obtain ⟨o, es, ep, t, ho, r⟩ := hS
    refine hR h' tk ?_ fun b o hbw e => hk' b o (fun z => hbw (List.mem_cons_of_mem _ z)) e
    rw [List.drop_of_length_le (by simp)]
    exact ⟨o, es, ep, t, hk' a o hw ho, r⟩
  | succ k ih =>
    intro i s p hk hi hst hS hb hR
    have hlt : i < n := by omega
    have hd : (List.range n).drop i = i :: (List.range n).drop (i + 1) := by
      rw [List.drop_eq_getElem_cons (by simpa using hlt)]; simp
    refine codeAny_builtin entry_loop ?_
    rw [Around.under_plainId plain_loop _]
    show wpAny _ A.in1 (pyNext (.ref I) >>= _) _ _ s
    refine wpAny_bind (W.item i s _ _ hlt hst fun v h' tk hP hst' hk' => ?_)
    obtain ⟨t, rfl⟩ := hval i v hP
    obtain ⟨o, es, ep, tt, ho, r⟩ := hS
    have hS' : h'.SetOf (intKind prog w) a p.1 p.2 := ⟨o, es, ep, tt, hk' a o hw ho, r⟩
    refine wpAny_bind (wpAny_holding ?_)
    unfold setAdd
    refine wpAny_bind ((intKind prog w).pyHash (k := val i) (by simp [intKind, Value.isInt]) ?_)
    refine wpAny_setAddHashed_of (knd := intKind prog w) (k := val i) (S := p.1) (n := p.2) (by simp [intKind, Value.isInt]) rfl hS' (by omega) fun h2 hsb hS2 => ?_
    refine wpAny_pure ⟨plainId_quiet plain_loop _, ih (i + 1) _ (addS p (val i)) (by omega) hlt ?_ hS2 (by have := addS_le p (val i); omega) fun h3 tk3 hS3 hk3 => ?_⟩
    · exact W.frame _ _ _ hst' fun b hbf o e => hsb.extBut b o (fun z => ha (z ▸ hbf)) e
    · have := hR h3 tk3
      rw [hd, List.foldl_cons] at this
      refine this hS3 fun b o hbw e => hk3 b o hbw (hsb.extBut b o (fun z => hbw (z ▸ List.mem_cons_self ..)) (hk' b o (fun z => hbw (List.mem_cons_of_mem _ z)) e))
end
theorem typeCall_set_1 (x : Value) : checkTypeCall "set" ⟨[x], []⟩ = pure () := by kernel_rfl
theorem newCall_set_1 (x : Value) : checkBuiltinCall "set.__new__" ⟨[.type "set", x], []⟩ = pure () := by kernel_rfl
theorem sub_list_set : isSubtype (.type "list") (.type "set") = pure false := by rw [isSubtype_type]; kernel_rfl
theorem sub_list_frozenset : isSubtype (.type "list") (.type "frozenset") = pure false := by rw [isSubtype_type]; kernel_rfl
section
variable {prog : Program} {w : World} {A : Around} {E : Value → Shared → Prop} {s : Shared}
theorem code_set_new1 {x : Value} {Q₁ : Value → Shared → Prop}
    (h : ∀ led : Bool, Q₁ (.ref s.heap.objs.size) { s with heap := s.heap.push { cls := .type "set", dict := none, data := .set #[] 0 (.fresh 0 0 led) } }) :
    codeAny (model prog w) A (.call (.builtin "set.__new__") ⟨[.type "set", x], []⟩) (wants Q₁ E) s := by
  refine codeAny_of_tree ?_
  show wpAny _ A.in1 (do checkBuiltinCall "set.__new__" ⟨[.type "set", x], []⟩; again (.builtin "set.__new__" ⟨[.type "set", x], []⟩)) _ _ s
  refine wpAny_bind (wpAny_of_eq (newCall_set_1 x) (wpAny_pure ⟨plainId_quiet F.plain_set_new _, codeAny_builtin F.entry_set_new ?_⟩))
  rw [Around.under_plainId F.plain_set_new _]
  unfold Builtin.«set.__new__» Builtin.Frozenset.newClass
  have hsub := sub_set_self
  obtain ⟨hp, g, d, tk, os⟩ := s
  dsimp only
  wp_walk
  refine wpAny_askSetting (wpAny_pure ?_)
  dsimp only
  simp only [newObj]
  refine wpAny_bind (wpAny_alloc (wpAny_pure ?_))
  exact wpAny_pure (h _)
theorem check_set_init1 {M : Model} {self x : Value} {Q : Unit → Shared → Prop} (hT : s.TypeIs self "set") (hQ : Q () s) :
    wpAny M A (checkBuiltinCall "set.__init__" ⟨[self, x], []⟩) Q E s := by
  simp only [checkBuiltinCall, kind_set_init, split_set_init, sig_set_init]
  refine wpAny_bind (wpAny_isInstance hT sub_set_self ?_)
  simp only [Bool.not_true, Bool.false_eq_true, if_false]
  unfold Bind.checkArgs
  dsimp only
  refine wpAny_bind (m := Bind.printed "set" true _ _) (PyProof.Rows.printed_name (by decide) ?_)
  refine wpAny_bind (m := Bind.printed "*" false _ _) (PyProof.Rows.printed_star (self := self) rfl hT fun short => ?_)
  have hrn : (Manifest.Receiver.self == Manifest.Receiver.none) = false := by decide
  have hn : (if (Manifest.Receiver.self == Manifest.Receiver.none) = true then [self, x].length else [self, x].length - 1) = 1 := by simp [hrn]
  rw [hn]
  simp only [List.map_nil]
  have hc : Bind.check ⟨.positional, "set", "*", .self, [⟨"iterable", .posOnly, false⟩]⟩ "set" short 1 [] = pure () := by
    simp [Bind.check, Bind.checkCount, Bind.isPositional]
    intro h
    exact absurd h (by decide)
  rw [hc]
  exact wpAny_pure hQ
set_option maxHeartbeats 4000000 in
theorem call_set_1 {l : Addr} {its : List Value} {ns : List Int} {Q : Value → Shared → Prop} (hh : A.handled = none) (hl : s.heap.IsList l its.toArray) (hi : ∀ (j : Nat) (v : Value), its[j]? = some v → ∃ t, v = .int (ns.getD j 0) t) (hn : its.length = ns.length) (hb : ns.length < 1000)
    (h : ∀ h' tk, h'.SetOf (intKind prog w) s.heap.objs.size (ns.foldl addS (fun _ => false, 0)).1 (ns.foldl addS (fun _ => false, 0)).2 → (∀ b o, s.heap.get? b = some o → h'.get? b = some o) → Q (.ref s.heap.objs.size) { s with heap := h', toks := tk }) :
    wpAny (model prog w) A (call (.type "set") [.ref l]) Q E s := by
  obtain ⟨c, tl, hmro⟩ := F.called_set.mro
  have hmade := F.called_set.made
  have hsub := F.called_set.sub
  refine wpAny_call (codeAny_of_tree ?_)
  show wpAny _ _ (callAny (.type "set") _) _ _ _
  refine wpAny_pure ⟨Code.quiet_builtin _ (by decide +kernel), codeAny_builtin F.entry_type_call ?_⟩
  rw [Around.under_plain (weight_type_call_type "set" [.ref l] []) rfl]
  have h1 := F.called_set.notType
  have h2 := F.called_set.canCreate
  have hct := typeCall_set_1 (.ref l)
  repeat (any_goals (first | assumption | wp_step))
  refine codeAny_mono (code_set_new1 (E := E) (Q₁ := fun obj s₁ => ∃ led : Bool, obj = .ref s.heap.objs.size ∧ s₁ = { s with heap := s.heap.push { cls := .type "set", dict := none, data := .set #[] 0 (.fresh 0 0 led) } }) fun led => ⟨led, rfl, rfl⟩) fun r s₁ hr => ?_
  cases r with
  | error e => exact hr
  | ok fl =>
    cases fl with
    | ret obj =>
      obtain ⟨led, rfl, rfl⟩ := hr
      have hS : (s.heap.push { cls := .type "set", dict := none, data := .set #[] 0 (.fresh 0 0 led) }).get? s.heap.objs.size = some { cls := .type "set", dict := none, data := .set #[] 0 (.fresh 0 0 led) } := Heap.get?_push_size _ rfl
      have hT : Shared.TypeIs { s with heap := s.heap.push { cls := .type "set", dict := none, data := .set #[] 0 (.fresh 0 0 led) } } (.ref s.heap.objs.size) "set" := ⟨_, hS, rfl⟩
      have hli := F.called_set.init.lookup
      have hbi := F.called_set.init.bind (.ref s.heap.objs.size)
      repeat (any_goals (first | assumption | wp_step))
      refine codeAny_mono (codeAny_call_builtin (R := wants (fun r s₂ => r = .none ∧ Q (.ref s.heap.objs.size) s₂) E) F.called_set.init.plain F.entry_set_init (check_set_init1 hT ?_)) fun r₂ s₂ hr₂ => ?_
      · obtain ⟨⟨cls, dd, data, sl⟩, ho, hc, nn, hd⟩ := hl.push { cls := .type "set", dict := none, data := .set #[] 0 (.fresh 0 0 led) }
        simp only at hc hd
        subst hc hd
        have f1 := sub_list_set
        have f2 := sub_list_frozenset
        unfold Builtin.«set.__init__» noKeywords
        have hl' : Heap.IsList (s.heap.push { cls := .type "set", dict := none, data := .set #[] 0 (.fresh 0 0 led) }) l its.toArray := hl.push _
        wp_walk using wpAny_loadPart' ho, wpAny_pyIter_list hl'
        have hlt : l < s.heap.objs.size := by obtain ⟨_, e, _⟩ := hl; exact Heap.lt_size e
        have hsz : (s.heap.push { cls := .type "set", dict := none, data := .set #[] 0 (.fresh 0 0 led) }).objs.size = s.heap.objs.size + 1 := Heap.size_push ..
        have hS0 : Heap.SetOf (intKind prog w) (s.heap.push { cls := .type "set", dict := none, data := .set #[] 0 (.fresh 0 0 led) }) s.heap.objs.size (fun _ => false) 0 :=
          ⟨_, #[], 0, _, Heap.get?_push_size _ rfl, ⟨rfl, rfl, rfl⟩, rfl, fun e he => by simp at he, fun k => by simp, by decide, by rfl, rfl⟩
        refine codeAny_set_loop (Walks.list (A := A.in1.in1.in1) hh _ l (by show l ≠ (s.heap.push _).objs.size; rw [hsz]; exact Nat.ne_of_lt (Nat.lt_succ_of_lt hlt)) its.toArray) s.heap.objs.size ?_ ?_ (fun j => ns.getD j 0) (fun j v hP => hi j v (by simpa using hP)) its.toArray.size 0 _ (fun _ => false, 0) (Nat.sub_zero _) (Nat.zero_le _) ⟨⟨_, Heap.get?_push_size _ rfl, rfl, rfl⟩, hl'.push _⟩ ?_ ?_ ?_
        · show s.heap.objs.size ∉ [(s.heap.push _).objs.size, l]
          rw [hsz]
          intro hm
          rcases List.mem_cons.mp hm with e | hm
          · exact absurd e (Nat.ne_of_lt (Nat.lt_succ_self _))
          · exact absurd (List.mem_singleton.mp hm) (Nat.ne_of_gt hlt)
        · show s.heap.objs.size ∉ [(s.heap.push _).objs.size]
          rw [hsz]
          simp
        · obtain ⟨o, es, ep, t, ho', r⟩ := hS0
          exact ⟨o, es, ep, t, Heap.get?_push_of_some _ ho', r⟩
        · show 0 + its.toArray.size < scanBound
          rw [List.size_toArray, hn]
          exact Nat.lt_of_lt_of_le (m := 1000) (by omega) (by decide)
        · intro h' tk hS' hk
          have fe : ((List.range its.toArray.size).drop 0).foldl (fun q j => addS q (ns.getD j 0)) (fun _ => false, 0) = ns.foldl addS (fun _ => false, 0) := by
            rw [List.drop_zero, List.size_toArray, hn, ← List.foldl_map (f := fun j => ns.getD j 0)]
            congr 1
            apply List.ext_getElem (by simp)
            intro i h1 h2
            simp [List.getD, h2]
          rw [fe] at hS'
          refine wpAny_pure (wpAny_pure ⟨rfl, h h' tk hS' fun b o e => hk b o (fun hm => ?_) (Heap.get?_push_of_some _ (Heap.get?_push_of_some _ e))⟩)
          have lb := Heap.lt_size e
          have hm' : b ∈ [s.heap.objs.size, (s.heap.push { cls := .type "set", dict := none, data := .set #[] 0 (.fresh 0 0 led) }).objs.size] := hm
          rw [hsz] at hm'
          rcases List.mem_cons.mp hm' with z | z
          · exact absurd lb (by rw [z]; exact Nat.lt_irrefl _)
          · exact absurd lb (by rw [List.mem_singleton.mp z]; exact Nat.not_lt.mpr (Nat.le_succ _))
      · cases r₂ with
        | error e => exact hr₂
        | ok fl₂ =>
          cases fl₂ with
          | ret r =>
            obtain ⟨rfl, hq⟩ := hr₂
            repeat (any_goals (first | assumption | wp_step))
          | _ => exact hr₂.elim
    | _ => exact hr.elim
end
end SetL
end PySem
namespace L2
open PySem PySem.Spec PyProof.Rows
section
variable {X : Cx}
theorem call_set_of (hc : X.calm = true) : CallR X (.type "set") (fun xs H Q => ∃ (p : Addr) (ns : List Int), xs = [.ref p] ∧ SqL X.K H p (ns.map V.int) ∧ ns.length < 1000 ∧ ∀ l, H l = none → Q (.ref l) (upd H l (.set (ns.foldl PySem.SetL.addS (fun _ => false, 0)).1 (ns.foldl PySem.SetL.addS (fun _ => false, 0)).2))) := by
  intro pins s σ H xs us Q I r h
  obtain ⟨p, ns, rfl, hq, hb, q⟩ := h
  obtain ⟨u, rfl, rx⟩ := vals1 r
  cases rx
  obtain ⟨its, r', pl, hz⟩ := I.list hq
  have len := r'.length
  rw [List.length_map] at len
  refine PySem.SetL.call_set_1 (I.ok.hd hc) pl.isList (fun j v e => ?_) len.symm hb fun h' tk hS hk => ?_
  · obtain ⟨hj, e'⟩ := List.getElem?_eq_some_iff.mp e
    rw [← e']
    exact ints_at r' hj
  · exact ⟨.ref s.heap.objs.size, _, I.laid (o := .set _ _) hk (Nat.le_refl _) hS, rfl, q _ (I.hok.fresh (Nat.le_refl _))⟩
theorem call_len_setO : CallR X (.builtin "len") (fun xs H Q => ∃ (p : Addr) (S : Int → Bool) (n : Nat), xs = [.ref p] ∧ H p = some (.set S n) ∧ Q (.int n) H) := by
  intro pins s σ H xs us Q I r h
  obtain ⟨p, S, n, rfl, hp, q⟩ := h
  obtain ⟨u, rfl, rx⟩ := vals1 r
  cases rx
  obtain ⟨o, es, ep, t, ho, hex, hd, hel, hmem, hb, hf, hn⟩ := (show ObjOk X.prog X.w H s.heap p (.set S n) from I.hok p _ hp)
  refine PySem.call_len_set ho hex hd hf ?_ ⟨.int n, H, I.tok _, ⟨_, by rw [hn]⟩, q⟩
  have : es.size < 4096 := hb
  omega
end
end L2

namespace L2
open PySem PySem.Spec PyProof.Rows
mutual
inductive Rep (K : PySem.W.Frag) (H : Hp) : V → PyData → Prop
  | non : Rep K H .non .none
  | bl (b : Bool) : Rep K H (.bl b) (.bool b)
  | int (i : Int) : Rep K H (.int i) (.int i)
  | str (z : Str) : Rep K H (.str z) (.str z)
  | lst {a : Addr} {xs : List V} {ds : List PyData} : SqL K H a xs → RepAll K H xs ds → Rep K H (.ref a) (.list ds)
  | tup {a : Addr} {xs : List V} {ds : List PyData} : SqT K H a xs → RepAll K H xs ds → Rep K H (.ref a) (.tuple ds)
inductive RepAll (K : PySem.W.Frag) (H : Hp) : List V → List PyData → Prop
  | nil : RepAll K H [] []
  | cons {x : V} {d : PyData} {xs : List V} {ds : List PyData} : Rep K H x d → RepAll K H xs ds → RepAll K H (x :: xs) (d :: ds)
end
theorem sqT_same {K : PySem.W.Frag} {H H' : Hp} {a : Addr} {xs : List V} (e : Same H H') (h : SqT K H a xs) : SqT K H' a xs := by
  rcases h with (h | ⟨o, h⟩) | h
  · exact .inl (.inl (e _ _ h))
  · exact .inl (.inr ⟨o, e _ _ h⟩)
  · exact .inr h
mutual
theorem Rep.same {K : PySem.W.Frag} {H H' : Hp} (e : Same H H') : ∀ {v : V} {d : PyData}, Rep K H v d → Rep K H' v d
  | _, _, .non => .non
  | _, _, .bl b => .bl b
  | _, _, .int i => .int i
  | _, _, .str z => .str z
  | _, _, .lst h r => .lst (e.seq h) (RepAll.same e r)
  | _, _, .tup h r => .tup (sqT_same e h) (RepAll.same e r)
theorem RepAll.same {K : PySem.W.Frag} {H H' : Hp} (e : Same H H') : ∀ {xs : List V} {ds : List PyData}, RepAll K H xs ds → RepAll K H' xs ds
  | _, _, .nil => .nil
  | _, _, .cons h r => .cons (Rep.same e h) (RepAll.same e r)
end
section
variable {X : Cx} {pins : List (Addr × Obj)} {σ : St} {H : Hp} {s : Shared}
mutual
theorem Rep.reads (I : Inv X pins σ H s) : ∀ {v : V} {d : PyData} {u : Value}, Rep X.K H v d → RelV v u → ∃ as, Reads s.heap u d as
  | _, _, u, .non, r => by
    obtain rfl : u = Value.none := r
    exact ⟨[], .none⟩
  | _, _, u, .bl b, r => by
    obtain rfl : u = Value.bool b := r
    exact ⟨[], .bool b⟩
  | _, _, u, .int i, r => by
    obtain ⟨t, rfl⟩ := r
    exact ⟨[], .int i t⟩
  | _, _, u, .str z, r => by
    obtain ⟨t, rfl⟩ := r
    exact ⟨[], .str z t⟩
  | _, _, u, .lst (a := a) h ra, r => by
    obtain rfl : u = Value.ref a := r
    obtain ⟨its, rv, ⟨o, n, e, c, _, dt⟩, _⟩ := I.list h
    obtain ⟨as, ra'⟩ := RepAll.reads I ra rv
    exact ⟨a :: as, .list e c dt (by simpa using ra')⟩
  | _, _, u, .tup (a := a) h ra, r => by
    obtain rfl : u = Value.ref a := r
    obtain ⟨its, rv, ⟨o, e, c, n, dt⟩, _⟩ := I.tuple h
    obtain ⟨as, ra'⟩ := RepAll.reads I ra rv
    exact ⟨as, .tuple e c dt (by simpa using ra')⟩
theorem RepAll.reads (I : Inv X pins σ H s) : ∀ {xs : List V} {ds : List PyData} {us : List Value}, RepAll X.K H xs ds → Vals xs us → ∃ as, ReadsAll s.heap us ds as
  | _, _, _, .nil, .nil => ⟨[], .nil⟩
  | _, _, _, .cons h r, .cons rv rs => by
    obtain ⟨as, h1⟩ := Rep.reads I h rv
    obtain ⟨bs, h2⟩ := RepAll.reads I r rs
    exact ⟨as ++ bs, .cons h1 h2⟩
end
end
def flatD (d : PyData) : Prop := d.canLay0 = true ∧ d.depth ≤ 40
theorem hu60 {A : Around} {k : Nat} (hr : Room k A) : A.units + 60 < cLine := Nat.lt_of_le_of_lt (Nat.add_le_add_left (by decide : 60 ≤ 64) _) hr.units
section
variable {X : Cx}
def rEqD (K : PySem.W.Frag) (neg : Bool) : R2 := fun x y H Q => ∃ d e, Rep K H x d ∧ Rep K H y e ∧ flatD d ∧ flatD e ∧ Q (.bl (if neg then !PyData.eqv d e else PyData.eqv d e)) H
theorem op_eqD (hu : X.A.units + 60 < cLine) : OpR X (compareOp .Eq) (rEqD X.K false) := by
  intro pins s σ H x y v u Q I rx ry h
  obtain ⟨d, e, hd, he, fd, fe, q⟩ := h
  obtain ⟨as, r1⟩ := hd.reads I rx
  obtain ⟨bs, r2⟩ := he.reads I ry
  exact SeqAt.compareEq_reads r1 r2 fd.1 fe.1 (by have := fd.2; have := fe.2; omega) ⟨.bl _, H, I, rfl, q⟩
def rInD (K : PySem.W.Frag) (neg : Bool) : R2 := fun x y H Q => ∃ (p : Addr) (d : PyData) (ds : List PyData), y = .ref p ∧ Rep K H x d ∧ (Rep K H (.ref p) (.list ds) ∨ Rep K H (.ref p) (.tuple ds)) ∧ flatD d ∧ flatD (.list ds) ∧ Q (.bl (if neg then !(ds.any fun y => PyData.eqv y d) else ds.any fun y => PyData.eqv y d)) H
theorem op_notInD (hu : X.A.units + 60 < cLine) : OpR X (compareOp .NotIn) (rInD X.K true) := by
  intro pins s σ H x y v u Q I rx ry h
  obtain ⟨p, d, ds, rfl, hd, he, fd, fe, q⟩ := h
  obtain ⟨as, r1⟩ := hd.reads I rx
  have dp : PyData.depthAll ds + 1 ≤ 40 := fe.2
  have fe1 : PyData.canLayAll0 ds = true := fe.1
  rcases he with he | he
  · obtain ⟨bs, r2⟩ := he.reads I ry
    exact SeqAt.notIn_list_reads r2 r1 fe1 fd.1 (by have := fd.2; omega) ⟨.bl _, H, I, rfl, q⟩
  · obtain ⟨bs, r2⟩ := he.reads I ry
    exact SeqAt.notIn_tuple_reads r2 r1 fe1 fd.1 (by have := fd.2; omega) ⟨.bl _, H, I, rfl, q⟩
end
end L2

namespace HT
open PySem PyProof.Rows
section
open PySem.SeqAt
open PySem.AutoSeq1 (wpAny_loadPart')
open PySem.MeetsSeq PySem.MeetsSeq2 PySem.MeetsSeq3

end
end HT

namespace HT
open PySem PyProof.Rows PySem.SeqAt
section
variable {l b : Addr}
theorem vals_ints {ns : List Int} {its : List Value} (r : L2.Vals (ns.map L2.V.int) its) : IntsAre its ns := L2.ints_are r
end
end HT
namespace L2
open PySem PySem.Spec PyProof.Rows
end L2

namespace L2
open PySem PySem.Spec PyProof.Rows
def iOr (w1 w2 : TI) : TI := fun σ H R => w1 σ H R ∨ w2 σ H R
theorem pi_or {X : Cx} {tg l : Expr} {w1 w2 : TI} (h1 : PI X tg l w1) (h2 : PI X tg l w2) : PI X tg l (iOr w1 w2) := fun pins s σ H R I h => by
  rcases h with h | h
  · exact h1 pins s σ H R I h
  · exact h2 pins s σ H R I h
section
variable {K : PySem.W.Frag} {a : Addr} {g : TG} {tt : TT} {te : TE} {Q : VK} {H : Hp}
theorem compS_ite {D : Addr} {τ : St} {H : Hp} {sq : Hp → List V → Prop} (xs : List V) (Pv : Nat → St → Hp → Prop) (h0 : Pv 0 τ H) (hl : ∀ i τ H, i ≤ xs.length → Pv i τ H → sq H xs)
    (hs : ∀ i x T τ H (R : St → Hp → Prop), xs[i]? = some x → Pv i τ H → H T = none → (∀ τ' H', Pv (i + 1) τ' H' → R τ' H') → tComp1 D g tt te (.ref T) τ (upd H T (.tup [.int i, x])) R) (hd : ∀ τ H, Pv xs.length τ H → Q (.ref D) H) : CompS D (Ite sq) g tt te Q τ H := by
  refine ⟨fun i m τ H => m = xs.length - i ∧ i ≤ xs.length ∧ Pv i τ H, ⟨xs.length, by simp, Nat.zero_le _, h0⟩, ?_⟩
  rintro i m τ H2 ⟨rfl, hi, p⟩
  have q := hl i τ H2 hi p
  by_cases hlt : i < xs.length
  · have hx : xs[i]? = some xs[i] := by simp [hlt]
    refine .inr ⟨⟨xs, _, q, hx⟩, fun x H' y => ?_⟩
    obtain ⟨T, v, hT, e1, e2, y1⟩ := y
    subst e1 e2
    exact hs i _ T τ _ (fun τ' H' => ∃ m', m' < xs.length - i ∧ m' = xs.length - (i + 1) ∧ i + 1 ≤ xs.length ∧ Pv (i + 1) τ' H') (y1 xs q) p hT fun τ' H' p' => ⟨_, by omega, rfl, hlt, p'⟩
  · have e : i = xs.length := by omega
    subst e
    exact .inl ⟨⟨xs, q, Nat.le_refl _⟩, hd τ H2 p⟩
theorem compS_enumQ (xs : List V) (hq : Sq K H a xs) (ix : St) (Pv : Addr → Nat → St → Hp → Prop) (h0 : ∀ D, H D = none → Pv D 0 ix (upd H D (.lst []))) (hl : ∀ D i τ H', H D = none → Pv D i τ H' → Same H H')
    (hs : ∀ D i x T τ H' (R : St → Hp → Prop), H D = none → xs[i]? = some x → Pv D i τ H' → H' T = none → (∀ τ' H', Pv D (i + 1) τ' H' → R τ' H') → tComp1 D g tt te (.ref T) τ (upd H' T (.tup [.int i, x])) R) (hd : ∀ D τ H', H D = none → Pv D xs.length τ H' → Q (.ref D) H') :
    ((∃ xs, SqL K H a xs) ∧ ∀ D, H D = none → CompS D (Ite fun H xs => SqL K H a xs) g tt te Q ix (upd H D (.lst []))) ∨ ((∃ xs, SqT K H a xs) ∧ ∀ D, H D = none → CompS D (Ite fun H xs => SqT K H a xs) g tt te Q ix (upd H D (.lst []))) := by
  rcases hq with hq | hq
  · exact .inl ⟨⟨_, hq⟩, fun D hD => compS_ite xs (Pv D) (h0 D hD) (fun i τ H' _ p => (hl D i τ H' hD p).seq hq) (fun i x T τ H' R hx p hT nx => hs D i x T τ H' R hD hx p hT nx) (fun τ H' => hd D τ H' hD)⟩
  · exact .inr ⟨⟨_, hq⟩, fun D hD => compS_ite xs (Pv D) (h0 D hD) (fun i τ H' _ p => sqT_same (hl D i τ H' hD p) hq) (fun i x T τ H' R hx p hT nx => hs D i x T τ H' R hD hx p hT nx) (fun τ H' => hd D τ H' hD)⟩
end
end L2

namespace L2
open PySem PySem.Spec PyProof.Rows
section
variable {prog : Program} {w : World} {A : Around} {E : Value → Shared → Prop} {s : Shared} {z TI TO i1 i2 : Addr}
end
end L2

namespace L2
open PySem PySem.Spec PyProof.Rows
section
variable {X : Cx}
end
section
variable {K : PySem.W.Frag} {a b : Addr} {g : TG} {tt : TT} {te : TE} {Q : VK} {H : Hp}
end
end L2

namespace L2
open PySem PySem.Spec PyProof.Rows
section
variable {X : Cx}
def rCatS : R2 := fun x y H Q => ∃ cs ds : List Nat, x = .str (txt cs) ∧ y = .str (txt ds) ∧ cs.length + ds.length ≤ 1000 ∧ Q (.str (txt (cs ++ ds))) H
theorem op_catS : OpR X (binaryOp .Add) rCatS := by
  intro pins s σ H x y v u Q I rx ry h
  obtain ⟨cs, ds, rfl, rfl, hz, q⟩ := h
  refine op_add_str pins s σ H _ _ v u Q I rx ry ⟨_, _, rfl, rfl, Nat.le_trans (show cs.toArray.size + ds.toArray.size ≤ 1000 by rw [List.size_toArray, List.size_toArray]; omega) (by decide), ?_⟩
  have : (txt cs ++ txt ds : Str) = txt (cs ++ ds) := by
    apply Str.ext'
    simp [Str.cps_append]
  rw [this]
  exact q
end
section
variable {X : Cx} {CX : CXT} {x y : Str} {j k : Nat} {ps : List Str} {sp : Sp} {p pos tpos hpos np epos : Pos} {e : Expr} {es : List Expr} {t : TA} {C : Addr} {b₀ : Stmt} {suite : List Stmt} {ts : TS}
end
end L2

namespace L2
open PySem PySem.Spec PyProof.Rows
structure Mk0 (K : PySem.W.Frag) (C : Addr) : Prop where
  makes : PySem.W.makesIn K C = true
  init : PySem.W.findIn K (.ref C) "__init__" = some (some (.builtin "object.__init__"))
  kp : PySem.W.keepIn K (.ref C) = true
def tMake0 (C : Addr) : TE := fun _ H Q => ∀ x dx, H x = none → H dx = none → dx ≠ x → Q (.ref x) (upd (upd H dx (.own x)) x (.ins C dx []))
section
variable {X : Cx} {C : Addr} {x : Str} {p pos apos : Pos}
theorem run_make0 {pins : List (Addr × Obj)} {σ : St} {H : Hp} {s : Shared} {Q : VK} (M : Mk0 X.K C) (I : Inv X pins σ H s)
    (h : ∀ x dx, H x = none → H dx = none → dx ≠ x → Q (.ref x) (upd (upd H dx (.own x)) x (.ins C dx []))) :
    wpAny (model X.prog X.w) X.A (call (.ref C) []) (EP X pins σ Q) X.xe s := by
  have hq := h (s.heap.objs.size + 1) s.heap.objs.size (I.hok.fresh (Nat.le_succ _)) (I.hok.fresh (Nat.le_refl _)) (Nat.ne_of_lt (Nat.lt_succ_self _))
  have I2 := Inv.made (C := C) I
  have Y := PySem.W.makes_of (M := model X.prog X.w) I.kIn M.makes
  have hx : ((s.heap.push PySem.W.emptyDict).push (PySem.W.instObj C s.heap.objs.size)).get? (s.heap.objs.size + 1) = some (PySem.W.instObj C s.heap.objs.size) := by
    have := Heap.get?_push_size (s.heap.push PySem.W.emptyDict) (o := PySem.W.instObj C s.heap.objs.size) rfl
    rwa [Heap.size_push] at this
  refine wpAny_call (make_map0 I.kIn M.makes M.init (fun self => PySem.W.Looks.of_pure (PySem.W.oi_bind self)) ?_)
  refine codeAny_call_builtin PySem.W.oi_plain PySem.W.entry_oi (PySem.W.check_slot PySem.W.oi_kind PySem.W.oi_split (PySem.W.Looks.andThen (PySem.W.Looks.andThen (PySem.W.Looks.ld hx) PySem.W.Looks.now) (PySem.W.Looks.keeps Y.top fun b o e => Heap.get?_push_of_some (PySem.W.instObj C s.heap.objs.size) (Heap.get?_push_of_some PySem.W.emptyDict e))) (PySem.W.oi_args (Value.ref (s.heap.objs.size + 1))) ?_)
  rw [PySem.W.oi_run]
  exact wpAny_pure ⟨rfl, ⟨V.ref (s.heap.objs.size + 1), _, I2, rfl, hq⟩⟩
theorem pe_makeN (M : Mk0 X.K C) (hg : Gl X x) (hm : X.mg x = some (.ref C)) (hdb : (x == ("__debug__" : Str)) = false := by decide) : PE X (.Call (.Name x p) [] [] pos) (tMake0 C) := by
  intro pins s σ H Q I h
  refine wpAny_Call_Name_kw (ld_glob I hg hm ?_ hdb)
  exact PySem.W.callWith_K0 I.kIn M.kp (run_make0 M I h)
end
structure MkC (P : Program) (w : World) (K : PySem.W.Frag) (mg : Str → Option Value) (base : Heap) (x : Str) (C : Addr) (k : Nat) (ps : List Str) (sp : Sp) : Prop where
  ex : ∃ f fd, Mk K C f ∧ FnOk P w K mg base CX0 k f fd ps sp ∧ Binds K fd ps []
  at_ : mg x = some (.ref C)
section
variable {X : Cx} {C : Addr} {x : Str} {j k : Nat} {ps : List Str} {sp : Sp} {p pos apos : Pos} {e o : Expr} {es : List Expr} {t : TA} {ta : TE} {m : Str}
theorem pe_makeC (M : MkC X.prog X.w X.K X.mg X.base x C j ps sp) (hr : Room k X.A) (hg : Gl X x) (ha : PA X (e :: es) t) (hj : j + 1 ≤ k := by decide) (hdb : (x == ("__debug__" : Str)) = false := by decide)
    (he : starEach (e :: es) X.env = (false, eval e X.env) :: starEach es X.env := by rfl) (hpl : (backTo pos (starEach es X.env)).any (·.1) = false := by rfl) :
    PE X (.Call (.Name x p) (e :: es) [] pos) (tMake C sp [] E0 t) := by
  obtain ⟨f, fd, Mk, F, b⟩ := M.ex
  exact pe_make Mk F (hr.mono hj) hg M.at_ b .nil pass0 ha hdb he hpl
structure Disp (P : Program) (w : World) (K : PySem.W.Frag) (mg : Str → Option Value) (base : Heap) (m : Str) (k : Nat) (ps : List Str) (C : Addr) (sp : Sp) : Prop where
  cls : Cls K C
  ex : ∃ f fd, Meth K C m f ∧ FnOk P w K mg base CX0 k f fd ps sp ∧ Binds K fd ps []
def tMethD (D : Addr → Sp → Prop) (m : Str) (ta : TE) (t : TA) : TE := fun σ H Q => ta σ H fun x H1 => ∃ a C dx fs sp, x = .ref a ∧ H1 a = some (.ins C dx fs) ∧ fs.lookup m = none ∧ D C sp ∧ t σ H1 fun vs H2 => sp (.ref a :: vs) H2 Q E0
theorem run_fnD {pins : List (Addr × Obj)} {σ : St} {H : Hp} {s : Shared} {Q : VK} {us : List Value} {vs : List V} {f : Addr} {fd : FuncData} (F : FnOk X.prog X.w X.K X.mg X.base CX0 k f fd ps sp) (hr : Room k X.A) (hb : Binds X.K fd ps [])
    (I : Inv X pins σ H s) (r : Vals vs us) (h : sp vs H Q E0) : wpAny (model X.prog X.w) X.A (call (.ref f) us) (EP X pins σ Q) X.xe s := by
  have := run_fn F hr hb .nil pass0 I r (by rw [List.append_nil]; exact h)
  exact this
theorem pe_methD {D : Addr → Sp → Prop} {pl : Sem Bool} (he : PE X o ta) (hD : ∀ C sp, D C sp → Disp X.prog X.w X.K X.mg X.base m j ps C sp) (hr : Room k X.A) (ha : PA X (e :: es) t) (hj : j ≤ k := by decide)
    (hst : starEach (e :: es) X.env = (false, eval e X.env) :: starEach es X.env := by rfl) (hpl : (backTo pos (starEach es X.env)).any (·.1) = false := by rfl)
    (ht : eval (.Call (.Attribute o m apos) (e :: es) [] pos) X.env = (do
      let ov ← eval o X.env
      standAt apos.atName
      let (f, first) ← holding [ov] (getMethod ov m pl)
      callWith pos f first (backTo pos (starEach (e :: es) X.env)) (backToKw pos (keywordEach [] X.env))) := by rfl) :
    PE X (.Call (.Attribute o m apos) (e :: es) [] pos) (tMethD D m ta t) := by
  intro pins s σ H Q I h
  refine PySem.W.methodCall_KW (pl := pl) (thn (he pins s σ H _ I h) fun u s1 ⟨x, H1, I1, rx, a, C, dx, fs, sp, ex, ea, l, d, q⟩ => ?_) ht
  subst ex
  obtain rfl : u = Value.ref a := rx
  obtain ⟨c, f, fd, hm, F, hb⟩ := hD C sp d
  refine getmeth_ok I1 ea c hm l ?_
  refine PySem.W.callWith_K (first := [.ref a]) (h₀ := X.base) I.ok.mod.kin hm.kp (thn (ha pos pins s1 σ H1 _ I1 q) fun us s2 ⟨vs, H2, I2, r, q2⟩ => ⟨I2.kIn, ?_⟩) hst hpl
  exact run_fnD (us := .ref a :: us) (vs := .ref a :: vs) F (hr.mono hj) hb I2 (.cons rfl r) q2
end
structure ICls (K : PySem.W.Frag) (C : Addr) : Prop where
  cl : Cls K C
  ha : PySem.W.findIn K (.ref C) "__class__" = some (some (.builtin "object.__class__"))
  hn : PySem.W.specialIn K (.builtin "object.__class__") "__get__" = some (some (.builtin "getset_descriptor.__get__"))
  htk : PySem.W.takesIn K (.builtin "object.__class__") = some true
  hm : PySem.W.mroIn K C (.type "object") = some true
def rIsiO (K : PySem.W.Frag) : List V → Hp → VK → Prop := fun xs H Q => ∃ (a C D dx : Addr) (fs : List (Str × V)) (b : Bool), xs = [.ref a, .ref C] ∧ H a = some (.ins D dx fs) ∧ ICls K D ∧ PySem.W.kitOne K (.ref D) (.ref C) = some b ∧ Q (.bl b) H
theorem call_isiO {X : Cx} : CallR X (.builtin "isinstance") (rIsiO X.K) := by
  intro pins s σ H xs us Q I r h
  obtain ⟨a, C, D, dx, fs, b, rfl, ea, c, kit, q⟩ := h
  obtain ⟨u, w', rfl, rx, rt⟩ := vals2 r
  obtain rfl : w' = Value.ref C := rt
  exact isinst_ok I rx (.ins ea c.cl c.ha c.hn c.htk c.hm) kit fun tk => ⟨.bl b, H, I.tok tk, rfl, q⟩
section
variable {X : Cx} {a b c d : Expr} {ta tb tc td : TE} {pos : Pos}
end
end L2

namespace L2
open PySem PySem.Spec PyProof.Rows
section
variable {prog : Program} {w : World} {A : Around} {E : Value → Shared → Prop} {s : Shared} {z TI TO i1 i2 : Addr}
end
end L2

namespace HT
open PySem PySem.Spec PyProof.Rows
section
variable {prog : Program} {w : World} {A : Around} {E : Value → Shared → Prop} {s : Shared}
end
end HT
namespace L2
open PySem PySem.Spec PyProof.Rows
end L2

namespace L2
open PySem PySem.Spec PyProof.Rows
section
variable {X : Cx} {CX : CXT} {x y n z : Str} {j k i iz : Nat} {ps : List Str} {sp : Sp} {p zpos pos tpos hpos np epos : Pos} {e : Expr} {es : List Expr} {t : TA} {C : Addr} {b₀ : Stmt} {suite : List Stmt} {ts : TS}
end
end L2

namespace L2
open PySem PySem.Spec PyProof.Rows
theorem pi_listK {X : Cx} {K : PySem.W.Frag} {tg l : Expr} {tl : TE} (h : X.K = K) (hl : PE X l tl) : PI X tg l (iList K tl) := by subst h; exact pi_list hl
end L2

namespace L2
open PySem PySem.Spec PyProof.Rows
def blkc (X : Cx) (scope : Scope) (y : Str) (cl : List (Str × Addr)) (N' : List Str) (s₀ : Shared) (H₀ : Hp) (C : Addr) (pn : List (Addr × Obj)) (ex : List Addr) : Cx where
  prog := X.prog
  w := X.w
  K := X.K
  mg := X.mg
  base := X.base
  A := X.A
  N := N'
  s₀ := s₀
  H₀ := H₀
  env := compEnvC scope ((y, C + 1) :: cl) C X.env
  outer := X.stack
  stack := X.stack
  ex := ex
  fn := fun x => x == y
  calm := X.calm
  pn := pn
  xe := fun _ _ => False
structure CompOkC (X : Cx) (scope : Scope) (y : Str) (cl : List (Str × Addr)) (N' : List Str) (ix : List Nat) (nl : Nat) : Prop where
  clos : closureFor scope X.env = pure cl
  sub : ∀ z c, cl.lookup z = some c → X.env.cells.lookup z = some c
  has : ∀ p ∈ (relabel scope X.env).names, (p.2 = .cell ∨ p.2 = .free) → (((y, 0) :: cl).lookup p.1).isSome = true
  lay : ∀ n, cellsFrom n scope.names cl = (y, n) :: cl
  push : ∀ h : Heap, pushCells h scope.names = h.push { cls := .type "cell", data := .cell none }
  kind : scope.kind = .function
  names : ∀ z ∈ scope.names, z.2 = .local → scope.names.lookup z.1 = some .local
  len : N'.length = ix.length + nl
  out : ∀ (i j : Nat) (x : Str), ix[i]? = some j → N'[i]? = some x → (x == y) = false ∧ X.N[j]? = some x ∧ (X.env.kindOf x = some .cell ∨ X.env.kindOf x = some .free) ∧ ((relabel scope X.env).names.lookup x = some .cell ∨ (relabel scope X.env).names.lookup x = some .free)
def OutsOkC (X : Cx) (scope : Scope) (y : Str) : List Nat → List Str → Prop
  | [], _ => True
  | j :: r, x :: t => ((x == y) = false ∧ X.N[j]? = some x ∧ (X.env.kindOf x = some .cell ∨ X.env.kindOf x = some .free) ∧ ((relabel scope X.env).names.lookup x = some .cell ∨ (relabel scope X.env).names.lookup x = some .free)) ∧ OutsOkC X scope y r t
  | _ :: _, [] => False
theorem OutsOkC.at {X : Cx} {scope : Scope} {y : Str} : ∀ {ix : List Nat} {N : List Str}, OutsOkC X scope y ix N → ∀ (i j : Nat) (x : Str), ix[i]? = some j → N[i]? = some x → (x == y) = false ∧ X.N[j]? = some x ∧ (X.env.kindOf x = some .cell ∨ X.env.kindOf x = some .free) ∧ ((relabel scope X.env).names.lookup x = some .cell ∨ (relabel scope X.env).names.lookup x = some .free)
  | [], _, _, i, j, y, h1, _ => by simp at h1
  | _ :: _, [], h, _, _, _, _, _ => h.elim
  | _ :: _, _ :: _, h, 0, j, y, h1, h2 => by
    simp at h1 h2
    subst h1 h2
    exact h.1
  | _ :: _, _ :: _, h, i + 1, j, y, h1, h2 => OutsOkC.at h.2 i j y (by simpa using h1) (by simpa using h2)
theorem CompOkC.make {X : Cx} {scope : Scope} {y : Str} {cl : List (Str × Addr)} {N' : List Str} {ix : List Nat} {nl : Nat} (clos : closureFor scope X.env = pure cl) (sub : ∀ p ∈ cl, X.env.cells.lookup p.1 = some p.2)
    (has : ((relabel scope X.env).names.all fun p => !(p.2 == .cell || p.2 == .free) || (((y, 0) :: cl).lookup p.1).isSome) = true) (lay : ∀ n, cellsFrom n scope.names cl = (y, n) :: cl) (push : ∀ h : Heap, pushCells h scope.names = h.push { cls := .type "cell", data := .cell none }) (kind : scope.kind = .function)
    (names : ∀ z ∈ scope.names, z.2 = .local → scope.names.lookup z.1 = some .local) (len : N'.length = ix.length + nl) (out : OutsOkC X scope y ix N') : CompOkC X scope y cl N' ix nl :=
  ⟨clos, fun z c h => sub (z, c) (PySem.mem_of_lookup h), fun p hp hc => by
    have q := List.all_eq_true.mp has p hp
    rcases hc with e | e <;> (rw [e] at q; simpa using q), lay, push, kind, names, len, out.at⟩
theorem lookup_own {y : Str} {n : Addr} {cl : List (Str × Addr)} {x : Str} {c : Addr} (h : ((y, n) :: cl).lookup x = some c) : ((x == y) = true ∧ c = n) ∨ ((x == y) = false ∧ cl.lookup x = some c) := by
  rw [List.lookup_cons] at h
  cases e : x == y with
  | true => rw [e] at h; exact .inl ⟨rfl, by simpa using h.symm⟩
  | false => rw [e] at h; exact .inr ⟨rfl, h⟩
theorem wpAny_newFunctionEnv_own {M : Model} {A : Around} {E : Value → Shared → Prop} {s : Shared} {scope : Scope} {globals : Addr} {y : Str} {cl : List (Str × Addr)} {qual : Str} {func : Option Addr} {code : Value} {outer : Env} {builtins : Addr} {Q : Env → Shared → Prop}
    (lay : ∀ n, cellsFrom n scope.names cl = (y, n) :: cl) (push : ∀ h : Heap, pushCells h scope.names = h.push { cls := .type "cell", data := .cell none })
    (hQ : Q (newEnv scope s.heap.objs.size globals ((y, s.heap.objs.size + 1) :: cl) qual func code (some outer) builtins) { s with heap := (s.heap.push { cls := .type "dict", data := .dict #[] }).push { cls := .type "cell", data := .cell none } }) :
    wpAny M A (newFunctionEnv scope globals cl [] qual func code (some outer) builtins) Q E s := by
  simp only [newFunctionEnv, Option.isSome_some, if_true]
  refine wpAny_bind (wpAny_alloc ?_)
  refine wpAny_bind (wpAny_layCells _ (fun name kind cells => by cases hkc : kind == NameKind.cell <;> simp [hkc]) _ _ _ _ ?_)
  rw [lay, push, show ({ s with heap := s.heap.push { cls := .type "dict", data := .dict #[] } } : Shared).heap.objs.size = s.heap.objs.size + 1 from Heap.size_push ..]
  refine wpAny_bind ?_
  rw [List.forIn_nil]
  exact wpAny_pure (wpAny_pure hQ)
section
variable {X : Cx} {pins : List (Addr × Obj)} {σ : St} {H : Hp} {s : Shared}
theorem blkc_ok {scope : Scope} {y : Str} {cl : List (Str × Addr)} {N' : List Str} {ix : List Nat} {nl : Nat} {C : Addr} {fp : List Addr} (O : CompOkC X scope y cl N' ix nl) (I : Inv X pins σ H s) (hC : s.heap.objs.size ≤ C) (f : ∀ b ∈ fp, FpOk X pins H b) (lt : ∀ b ∈ fp, b < s.heap.objs.size) :
    (blkc X scope y cl N' s H C (X.pn ++ pins) fp).Ok where
  mod := I.ok.mod
  kind := O.kind
  glob := I.ok.glob
  blt := I.ok.blt
  above := hC
  inj := fun x z c h1 h2 => by
    have cl' : ∀ x, cl.lookup x = some c → c < s.heap.objs.size := fun x h => by
      obtain ⟨v, o, ho, _⟩ := I.cell x c (O.sub x c h)
      exact Heap.lt_size ho
    rcases lookup_own h1 with ⟨a1, b1⟩ | ⟨a1, b1⟩ <;> rcases lookup_own h2 with ⟨a2, b2⟩ | ⟨a2, b2⟩
    · exact (by simpa using a1 : x = y).trans (by simpa using a2 : z = y).symm
    · exact absurd (b1 ▸ cl' _ b2 : C + 1 < s.heap.objs.size) (Nat.not_lt.mpr (Nat.le_trans hC (Nat.le_succ _)))
    · exact absurd (b2 ▸ cl' _ b1 : C + 1 < s.heap.objs.size) (Nat.not_lt.mpr (Nat.le_trans hC (Nat.le_succ _)))
    · exact I.ok.inj x z c (O.sub x c b1) (O.sub z c b2)
  has := fun x hx => by
    have hx' : (relabel scope X.env).names.lookup x = some .cell ∨ (relabel scope X.env).names.lookup x = some .free := hx
    have q : (((y, 0) :: cl).lookup x).isSome = true := by
      rcases hx' with h | h
      · exact O.has _ (PySem.mem_of_lookup h) (.inl rfl)
      · exact O.has _ (PySem.mem_of_lookup h) (.inr rfl)
    show ∃ c, ((y, C + 1) :: cl).lookup x = some c
    rw [List.lookup_cons] at q ⊢
    cases e : x == y with
    | true => exact ⟨_, rfl⟩
    | false =>
      rw [e] at q
      exact Option.isSome_iff_exists.mp q
  cab := fun x c h h2 => by
    have h : (x == y) = true := h
    rcases lookup_own h2 with ⟨a1, b1⟩ | ⟨a1, b1⟩
    · show s.heap.objs.size ≤ c
      rw [b1]
      exact Nat.le_trans hC (Nat.le_succ _)
    · rw [h] at a1; cases a1
  hd := I.ok.hd
  frames := I.ok.frames
  stk := .inl rfl
  exf := fun b hb => ⟨Nat.ne_of_lt (Nat.lt_of_lt_of_le (lt b hb) hC), fun x c h => by
    rcases lookup_own h with ⟨a1, b1⟩ | ⟨a1, b1⟩
    · exact fun z => absurd (lt b hb) (by rw [← z, b1]; exact Nat.not_lt.mpr (Nat.le_trans hC (Nat.le_succ _)))
    · exact (f b hb).2.2.2.2.1 x c (O.sub x c b1)⟩
  bs := I.bs
  bsz := Nat.le_trans I.ok.bsz I.sz
  noex := fun b o e hb => by
    rcases (f b hb).2.2.2.1 with z | z
    · exact I.ok.noex b o e z
    · exact absurd (Nat.lt_of_lt_of_le (Heap.lt_size e) (Nat.le_trans I.ok.bsz z)) (Nat.lt_irrefl _)
  exfs := fun b hb z => by
    rcases List.mem_cons.mp (I.stkSub b z) with e | e
    · exact (f b hb).2.1 e
    · exact (f b hb).2.2.1 e
  funs := I.stack
  frf := I.stkFree

theorem blkc_inv {scope : Scope} {y : Str} {cl : List (Str × Addr)} {N' : List Str} {ix : List Nat} {nl : Nat} {C : Addr} {fp : List Addr} {h' : Heap} {t' : Nat} (O : CompOkC X scope y cl N' ix nl) (I : Inv X pins σ H s) (hC : s.heap.objs.size ≤ C) (f : ∀ b ∈ fp, FpOk X pins H b) (lt : ∀ b ∈ fp, b < s.heap.objs.size)
    (hn : h'.Ns C fun _ => none) (hcl : h'.IsCell (C + 1) none) (k : ∀ b o, s.heap.get? b = some o → h'.get? b = some o) :
    Inv (blkc X scope y cl N' s H C (X.pn ++ pins) fp) [] (slots ix σ ++ List.replicate nl none) H { s with heap := h', toks := t' } := by
  refine ⟨blkc_ok O I hC f lt, rfl, I.bare, Un.kept k, ⟨_, hn, fun i x v e1 e2 e3 => ?_⟩, fun x c e => ?_, I.hok.fresh hC, fun x c e => ?_, fun p hp => ?_, I.hok.kept k, ?_⟩
  · have e1 : N'[i]? = some x := e1
    have hi : i < ix.length := by
      by_cases hi : i < ix.length
      · exact hi
      · rw [List.getElem?_append_right (by simpa [slots] using hi)] at e2
        rw [List.getElem?_replicate] at e2
        split at e2 <;> cases e2
    have e2' : (σ[ix[i]]?).getD none = some v := by
      rw [List.getElem?_append_left (by simpa [slots] using hi)] at e2
      simpa [slots, hi] using e2
    have e4 : σ[ix[i]]? = some (some v) := by
      cases q : σ[ix[i]]? with
      | none => rw [q] at e2'; cases e2'
      | some z => rw [q] at e2'; exact congrArg some e2'
    obtain ⟨o0, o1, o2, o3⟩ := O.out i ix[i] x (by simp [hi]) e1
    obtain ⟨m, hm, hl⟩ := I.loc
    have vis : Vis X.env.scope x := by
      rcases o2 with z | z
      · exact .inr (.inl z)
      · exact .inr (.inr z)
    obtain ⟨u, r, l⟩ := hl _ x v o1 e4 vis
    rcases l with ⟨z, _⟩ | ⟨_, c, hc, o, ho, hd⟩
    · rcases o2 with y | y <;> (rw [y] at z; cases z)
    · obtain ⟨c', hc'⟩ := (blkc_ok O I hC f lt).has x o3
      have z := O.sub x c' (by
        rcases lookup_own hc' with ⟨a1, _⟩ | ⟨_, b1⟩
        · rw [o0] at a1; cases a1
        · exact b1)
      rw [hc] at z
      cases z
      exact ⟨u, r, .inr ⟨o3, c, hc', o, k _ _ ho, hd⟩⟩
  · rcases lookup_own e with ⟨_, b1⟩ | ⟨_, b1⟩
    · exact ⟨none, b1 ▸ hcl⟩
    · obtain ⟨v, q⟩ := I.cell x c (O.sub x c b1)
      exact ⟨v, by obtain ⟨o, ho, hd⟩ := q; exact ⟨o, k _ _ ho, hd⟩⟩
  · rcases lookup_own e with ⟨_, b1⟩ | ⟨_, b1⟩
    · exact b1 ▸ I.hok.fresh (Nat.le_trans hC (Nat.le_succ _))
    · exact I.freeC x c (O.sub x c b1)
  · have hp' : p ∈ X.pn ++ pins := by
      have z : p ∈ (X.pn ++ pins) ++ [] := hp
      rwa [List.append_nil] at z
    obtain ⟨a1, a2, a3, a4, a5⟩ := I.pin p hp'
    refine ⟨k _ _ a1, a2, Nat.ne_of_lt (Nat.lt_of_lt_of_le (Heap.lt_size a1) hC), fun z => ?_, a5⟩
    rcases List.mem_cons.mp (I.stkSub p.1 z) with e | e
    · exact a3 e
    · exact a4 e
  · show (slots ix σ ++ List.replicate nl none).length = N'.length
    rw [List.length_append, List.length_replicate, O.len]
    simp [slots]

theorem blkc_back {scope : Scope} {y : Str} {cl : List (Str × Addr)} {N' : List Str} {C : Addr} {fp : List Addr} {s' : Shared} {τ : St} {H' : Hp} (I : Inv X pins σ H s) (f : ∀ b ∈ fp, FpOk X pins H b)
    (J : Inv (blkc X scope y cl N' s H C (X.pn ++ pins) fp) [] τ H' s') : Inv X pins σ H' s' :=
  I.call' J.os J.base J.hok J.bare fun b hb => ⟨(f b hb).2.2.2.1, (f b hb).2.1, (f b hb).2.2.2.2.1, (f b hb).2.2.2.2.2⟩
theorem blkc_loop {elt iter tg : Expr} {ifs : List Expr} {scope : Scope} {pos : Pos} {y : Str} {cl : List (Str × Addr)} {N' : List Str} {C D it : Addr} {fp : List Addr} {tn : Nat → Heap → Prop} {J : It} {g : TG} {tt : TT} {te : TE} {s₄ : Shared} {W : Nat → Nat → St → Hp → Prop} {Q : VK}
    {τ : St} {H₀ : Hp} {s₃ : Shared} {pn : List (Addr × Obj)} {m0 : Nat} {R : Result → Shared → Prop} (hc : X.calm = true) (T : Turn X.prog X.w X.K tg J fp it tn)
    (f : ∀ H', (∀ b ∈ fp, H' b = none) → ∀ b ∈ fp, FpOk (blkc X scope y cl N' s₃ H₀ C pn fp) [] H' b)
    (hg : PG (blkc X scope y cl N' s₃ H₀ C pn fp) tg g) (ht : PIfs (blkc X scope y cl N' s₃ H₀ C pn fp) ifs tt) (he : PE (blkc X scope y cl N' s₃ H₀ C pn fp) elt te)
    (I4 : Inv (blkc X scope y cl N' s₃ H₀ C pn fp) [] τ H s₄) (st : tn 0 s₄.heap) (fr : ∀ b ∈ fp, H b = none) (w0 : W 0 m0 τ H) (hW : compW D J g tt te Q W)
    (fin : ∀ τ' H' s', Inv (blkc X scope y cl N' s₃ H₀ C pn fp) [] τ' H' s' → Q (.ref D) H' → R (.ok .next) s') :
    codeAny (model X.prog X.w) X.A (.compLoop (.ListComp elt [⟨tg, iter, ifs, 0⟩] scope pos) 0 (.ref it) (.ref D) (compEnvC scope ((y, C + 1) :: cl) C X.env)) R s₄ := by
  refine compLoop_go (fun n s' => ∃ i τ' H', Inv (blkc X scope y cl N' s₃ H₀ C pn fp) [] τ' H' s' ∧ tn i s'.heap ∧ (∀ b ∈ fp, H' b = none) ∧ W i n τ' H') ?_ m0 ⟨0, τ, H, I4, st, fr, w0⟩
  rintro n s5 ⟨i, τ5, H5, I5, st5, fr5, w5⟩
  rcases hW i n τ5 H5 w5 with ⟨stop, q⟩ | ⟨go, step⟩
  · refine thn (T.done (blkc X scope y cl N' s₃ H₀ C pn fp) rfl rfl rfl hc i [] s5 τ5 H5 (fun _ _ => False) I5 (f H5 fr5) st5 stop) fun r s6 ⟨hr, I6⟩ => ?_
    subst hr
    exact fin τ5 H5 s6 I6 q
  · refine thn (T.item (blkc X scope y cl N' s₃ H₀ C pn fp) rfl rfl rfl hc i [] s5 τ5 H5 (fun _ _ => False) I5 (f H5 fr5) st5 go) fun r s6 ⟨u, hr, h6⟩ => ?_
    subst hr
    refine thn h6 fun _ s7 ⟨x, H7, I7, r7, y7, st7, fr7⟩ => ?_
    have I7' := I7.pinned (f H7 fr7) (T.obj _ _ st7)
    have keep : ∀ {τ8 : St} {H8 : Hp} {s8 : Shared}, Inv (blkc X scope y cl N' s₃ H₀ C pn fp) ([] ++ pinsAt fp s7.heap) τ8 H8 s8 → Inv (blkc X scope y cl N' s₃ H₀ C pn fp) [] τ8 H8 s8 ∧ tn (i + 1) s8.heap ∧ ∀ b ∈ fp, H8 b = none := fun {τ8 H8 s8} I8 => by
      refine ⟨I8.unpinned, T.keep _ _ _ st7 fun b hb o e => (I8.pin (b, o) (List.mem_append_right _ (List.mem_append_right _ (mem_pinsAt hb e)))).1, fun b hb => ?_⟩
      obtain ⟨o, e, d⟩ := T.obj _ _ st7 b hb
      exact (I8.pin (b, o) (List.mem_append_right _ (List.mem_append_right _ (mem_pinsAt hb e)))).2.1
    refine thn (hg _ s7 τ5 H7 x u _ I7' r7 (step x H7 y7)) fun _ s8 ⟨τ8, H8, I8, q8⟩ => ?_
    refine thn (ht _ s8 τ8 H8 _ I8 q8) fun b s9 ⟨H9, I9, q9⟩ => ?_
    cases b with
    | false =>
      obtain ⟨m', hm, w'⟩ := q9
      obtain ⟨k1, k2, k3⟩ := keep I9
      exact ⟨m', hm, i + 1, τ8, H9, k1, k2, k3, w'⟩
    | true =>
      refine thn (he _ s9 τ8 H9 _ I9 q9) fun y s10 ⟨v, H10, I10, r10, ys, hD, hl, m', hm, w'⟩ => ?_
      refine thn (mt_append _ s10 τ8 H10 (.ref D) [v] (.ref D) [y] (fun _ H11 => W (i + 1) m' τ8 H11) I10 rfl (.cons r10 .nil) ⟨D, ys, v, rfl, rfl, hD, hl, w'⟩) fun z s11 ⟨_, H11, I11, _, w11⟩ => ?_
      obtain ⟨k1, k2, k3⟩ := keep I11
      exact ⟨m', hm, i + 1, τ8, H11, k1, k2, k3, w11⟩
end

section
variable {X : Cx} {elt iter tg : Expr} {ifs : List Expr} {scope : Scope} {pos : Pos} {y : Str} {cl : List (Str × Addr)} {N' : List Str} {ix : List Nat} {nl : Nat} {wi : TI} {g : TG} {tt : TT} {te : TE}
theorem compc_run {pins : List (Addr × Obj)} {σ : St} {H1 : Hp} {s2 : Shared} {Q : VK} {it : Addr} {fp : List Addr} {tn : Nat → Heap → Prop} {J : It} {RR : Value → Addr → Result → Shared → Prop} {E : Value → Shared → Prop}
    (hc : X.calm = true) (O : CompOkC X scope y cl N' ix nl) (hg : ∀ s₀ H₀ C pn ex, PG (blkc X scope y cl N' s₀ H₀ C pn ex) tg g) (ht : ∀ s₀ H₀ C pn ex, PIfs (blkc X scope y cl N' s₀ H₀ C pn ex) ifs tt)
    (he : ∀ s₀ H₀ C pn ex, PE (blkc X scope y cl N' s₀ H₀ C pn ex) elt te) (I1 : Inv X pins σ H1 s2) (T : Turn X.prog X.w X.K tg J fp it tn) (st : tn 0 s2.heap) (f1 : ∀ b ∈ fp, FpOk X pins H1 b)
    (q : ∀ D, H1 D = none → ∃ W : Nat → Nat → St → Hp → Prop, (∃ m, W 0 m (slots ix σ ++ List.replicate nl none) (upd H1 D (.lst []))) ∧ compW D J g tt te Q W)
    (fin : ∀ D C H' s', Left X pins σ C H' s' → Q (.ref D) H' → RR (.ref D) C (.ok .next) s') :
    wpAny (model X.prog X.w) X.A (newList []) (fun acc s₃ => wpAny (model X.prog X.w) X.A (newFunctionEnv scope X.env.globals cl [] X.env.qual none .none (some X.env)) (fun cenv s₄ =>
      codeAny (model X.prog X.w) X.A (.compStart (.ListComp elt [⟨tg, iter, ifs, 0⟩] scope pos) 0 (.ref it) acc { cenv with scope := relabel scope X.env }) (RR acc cenv.locals) s₄) E s₃) E s2 := by
  refine wpAny_newObj_type (wpAny_newFunctionEnv_own O.lay O.push ?_)
  obtain ⟨h₁, hh₁⟩ : ∃ h₁ : Heap, h₁ = ((s2.heap.push { cls := .type "list", data := .seq ([] : List Value).toArray }).push { cls := .type "dict", data := .dict #[] }).push { cls := .type "cell", data := .cell none } := ⟨_, rfl⟩
  have hns₁ : h₁.Ns (s2.heap.push { cls := .type "list", data := .seq ([] : List Value).toArray }).objs.size fun _ => none := by
    rw [hh₁]
    exact (Heap.Ns.new _ _).keeps fun b o e => Heap.get?_push_of_some _ e
  have hcl₁ : h₁.IsCell ((s2.heap.push { cls := .type "list", data := .seq ([] : List Value).toArray }).objs.size + 1) none := by
    rw [hh₁]
    have e : (s2.heap.push { cls := .type "list", data := .seq ([] : List Value).toArray }).objs.size + 1 = ((s2.heap.push { cls := .type "list", data := .seq ([] : List Value).toArray }).push { cls := .type "dict", data := .dict #[] }).objs.size := (Heap.size_push ..).symm
    rw [e]
    exact ⟨{ cls := .type "cell", data := .cell none }, Heap.get?_push_size _ rfl, rfl⟩
  have hf : H1 s2.heap.objs.size = none := I1.hok.fresh (Nat.le_refl _)
  obtain ⟨W, ⟨m0, w0⟩, hW⟩ := q s2.heap.objs.size hf
  have lt : ∀ b ∈ fp, b < s2.heap.objs.size := fun b hb => by
    obtain ⟨o, e, _⟩ := T.obj _ _ st b hb
    exact Heap.lt_size e
  have I3 : Inv X pins σ (upd H1 s2.heap.objs.size (.lst [])) { s2 with heap := s2.heap.push { cls := .type "list", data := .seq ([] : List Value).toArray } } :=
    I1.laid (t' := s2.toks) (fun b u e => Heap.get?_push_of_some _ e) (Nat.le_refl _) ⟨Nat.zero_le _, [], 0, .nil, Heap.get?_push_size _ rfl⟩
  have f3 : ∀ b ∈ fp, FpOk X pins (upd H1 s2.heap.objs.size (.lst [])) b := fun b hb => ⟨by rw [upd_ne (Nat.ne_of_lt (lt b hb))]; exact (f1 b hb).1, (f1 b hb).2⟩
  have sz : (s2.heap.push { cls := .type "list", data := .seq ([] : List Value).toArray }).objs.size = s2.heap.objs.size + 1 := Heap.size_push ..
  have lt3 : ∀ b ∈ fp, b < (s2.heap.push { cls := .type "list", data := .seq ([] : List Value).toArray }).objs.size := fun b hb => by rw [sz]; exact Nat.lt_succ_of_lt (lt b hb)
  have k3 : ∀ b o, (s2.heap.push { cls := .type "list", data := .seq ([] : List Value).toArray }).get? b = some o → h₁.get? b = some o := fun b o e => by rw [hh₁]; exact Heap.get?_push_of_some _ (Heap.get?_push_of_some _ e)
  have I4 := blkc_inv (t' := s2.toks) O I3 (Nat.le_refl _) f3 lt3 hns₁ hcl₁ k3
  have st4 : tn 0 h₁ := T.keep _ _ _ st fun b hb o e => k3 b o (Heap.get?_push_of_some _ e)
  have fB : ∀ H', (∀ b ∈ fp, H' b = none) → ∀ b ∈ fp, FpOk (blkc X scope y cl N' { s2 with heap := s2.heap.push { cls := .type "list", data := .seq ([] : List Value).toArray } } (upd H1 s2.heap.objs.size (.lst [])) (s2.heap.push { cls := .type "list", data := .seq ([] : List Value).toArray }).objs.size (X.pn ++ pins) fp) [] H' b := fun H' hn b hb => by
    refine ⟨hn b hb, Nat.ne_of_lt (lt3 b hb), ?_, .inl hb, fun x c h => ?_, fun p hp => ?_⟩
    · intro z
      rcases List.mem_cons.mp (I3.stkSub b z) with e | e
      · exact (f1 b hb).2.1 e
      · exact (f1 b hb).2.2.1 e
    · rcases lookup_own h with ⟨_, b1⟩ | ⟨_, b1⟩
      · exact fun z => absurd (lt3 b hb) (by rw [← z, b1]; exact Nat.not_lt.mpr (Nat.le_succ _))
      · exact (f1 b hb).2.2.2.2.1 x c (O.sub x c b1)
    · have hp' : p ∈ X.pn ++ pins := by
        have z : p ∈ (X.pn ++ pins) ++ [] := hp
        rwa [List.append_nil] at z
      exact (f1 b hb).2.2.2.2.2 p hp'
  have loop := blkc_loop (pos := pos) (iter := iter) (R := RR (.ref s2.heap.objs.size) (s2.heap.push { cls := .type "list", data := .seq ([] : List Value).toArray }).objs.size) hc T fB (hg _ _ _ _ _) (ht _ _ _ _ _) (he _ _ _ _ _) I4 st4 (fun b hb => (f3 b hb).1) w0 hW (fun τ' H' s' J' qf => by
    obtain ⟨m, hm, _⟩ := J'.loc
    refine fin _ _ H' s' ⟨blkc_back I3 f3 J', ⟨m, hm⟩, I3.sz, Nat.ne_of_gt I3.lt, fun x c e z => ?_, fun p hp z => ?_, J'.free⟩ qf
    · obtain ⟨v, o, ho, _⟩ := I3.cell x c e
      exact absurd (Heap.lt_size ho) (by rw [z]; exact Nat.lt_irrefl _)
    · exact absurd (Heap.lt_size (I3.pin p hp).1) (by rw [z]; exact Nat.lt_irrefl _))
  rw [← hh₁]
  exact codeAny_compStart_list loop (T.self _ 0 _ _ _ st4 loop)
theorem pe_compc (hc : X.calm = true) (O : CompOkC X scope y cl N' ix nl) (hi : PI X tg iter wi) (hg : ∀ s₀ H₀ C pn ex, PG (blkc X scope y cl N' s₀ H₀ C pn ex) tg g) (ht : ∀ s₀ H₀ C pn ex, PIfs (blkc X scope y cl N' s₀ H₀ C pn ex) ifs tt)
    (he : ∀ s₀ H₀ C pn ex, PE (blkc X scope y cl N' s₀ H₀ C pn ex) elt te) (hs : ∀ x, foldedSetIterable iter X.env x = pure x := by intro _; rfl) :
    PE X (.ListComp elt [⟨tg, iter, ifs, 0⟩] scope pos) (tComp ix nl wi g tt te) := by
  intro pins s σ H Q I h
  rw [eval_ListComp]
  refine wpAny_comprehension_free (use := none) rfl hs O.clos O.kind O.names (thn (hi pins s σ H _ I h) fun xv s1 h1 => thn h1 fun itv s2 h2 => ?_)
  obtain ⟨it, fp, tn, J, H1, rfl, I1, T, st, f1, q⟩ := h2
  refine compc_run (RR := fun acc C => compPost (model X.prog X.w) X.A X.xe none (EP X pins σ Q) acc C) hc O hg ht he I1 T st f1 q (fun D C H' s' L qf => ?_)
  obtain ⟨m, hm⟩ := L.ns
  exact ⟨m, hm, fun h' sb => ⟨.ref D, H', L.inv.letgo L.sz L.loc L.cel L.pin L.non sb, rfl, qf⟩⟩
end
end L2

namespace L2
open PySem PySem.Spec PyProof.Rows
section
variable {prog : Program} {w : World} {A : Around} {s : Shared} {R : Result → Shared → Prop}
variable {I : Addr} {fp wr : List Addr} {G : Array GenState → Array GenState → Prop} {n : Nat} {P : Nat → Value → Prop} {St : Nat → Shared → Prop} {T : String}
def Hints (prog : Program) (w : World) (A : Around) (I : Addr) (St : Nat → Shared → Prop) : Prop :=
  ∀ (s : Shared) (Q : Bool → Shared → Prop) (E : Value → Shared → Prop), St 0 s → (∀ b tk, s.toks ≤ tk → Q b { s with toks := tk }) → wpAny (model prog w) A (Builtin.List.listLengthHint (.ref I)) Q E s
theorem wpAny_extend_it (W : WalksS prog w A.in1 I fp wr G n P St) (hT : ∀ i s, St i s → s.TypeIs (.ref I) T) (h2 : (Value.type T == Value.type "list") = false) (h3 : (Value.type T == Value.type "tuple") = false) (hint : Hints prog w A.in1 I St)
    (S : Addr) (res : Value) (c₀ : Nat) (hst : St 0 s) (hSf : S ∉ fp) (hI : I ∈ fp)
    (hS : s.heap.get? S = some { cls := .type "list", data := .seq #[] c₀ })
    (hR : ∀ s' acc' c', Moved (S :: wr) G s s' → s'.heap.get? S = some { cls := .type "list", dict := none, data := .seq acc' c', slots := #[] } → ItemsOf P acc' n → R (.ok (.ret res)) s') (hn : n ≤ sizeLine) :
    wpAny (model prog w) A.in1 (Builtin.List.listExtendWith (.ref S) (.ref I) res)
      (fun fin s' => match fin with | .done f => R (.ok f) s' | .again c' => c'.quiet = true ∧ codeAny (model prog w) A c' R s') (fun e s' => R (.error e) s') s := by
  have hSI : S ≠ I := fun e => hSf (e ▸ hI)
  unfold Builtin.List.listExtendWith
  refine wpAny_bind (wpAny_typeOf (hT 0 _ hst) ?_)
  have h1 : Builtin.List.listSameRef (.ref S) (.ref I) = false := by simp [Builtin.List.listSameRef, hSI]
  simp only [h1, h2, h3, Bool.or_false, Bool.false_eq_true, if_false]
  refine wpAny_bind (W.self 0 _ _ _ hst ?_)
  refine wpAny_bind (wpAny_holding (hint _ _ _ hst fun b tk htk => ?_))
  have st1 : St 0 { s with toks := tk } := W.frame 0 s s.heap tk hst htk fun b hb o e => e
  have mv : Moved (S :: wr) G s { s with toks := tk } := ⟨fun b o hb e => e, W.grefl _, rfl, rfl, htk⟩
  refine wpAny_ite_split (fun _ => ?_) (fun _ => ?_)
  · refine wpAny_bind (wpAny_rule ?_)
    refine wpAny_bind ?_
    show wpAny _ A.in1 (updateSeq S (·.push .none) >>= fun _ => updateSeq S (·.pop)) _ _ _
    refine wpAny_bind (wpAny_updateSeq (s := { s with toks := tk }) hS rfl ?_)
    have hS₂ := Heap.get?_update_self (Obj.mapSeq (·.push Value.none)) hS rfl
    refine wpAny_updateSeq (hz := by seq_fits) hS₂ rfl ?_
    have hS₃ := Heap.get?_update_self (Obj.mapSeq (·.pop)) hS₂ rfl
    have oth : ∀ b o, b ≠ S → s.heap.get? b = some o → ((s.heap.update S (Obj.mapSeq (·.push Value.none))).update S (Obj.mapSeq (·.pop))).get? b = some o :=
      fun b o hb e => (Heap.get?_update_other _ _ (Ne.symm hb)).trans ((Heap.get?_update_other _ _ (Ne.symm hb)).trans e)
    refine wpAny_pure ⟨plainId_quiet F.plain_extend_loop _, codeAny_extend_loopS W hn _ hSf _ n 0 _ _ _ rfl (Nat.zero_le _)
      (W.frame 0 { s with toks := tk } _ tk st1 (Nat.le_refl _) fun b hb o e => oth b o (fun h => hSf (h ▸ hb)) e) hS₃ (ItemsOf.nil P) fun s' acc' c' hm hS' hacc => ?_⟩
    exact hR s' acc' c' (Moved.trans W.gtrans (mv.then_heap (Nat.le_refl _) fun b o hb e => oth b o (fun h => hb (h ▸ List.mem_cons_self)) e) hm) hS' hacc
  · refine wpAny_pure ⟨plainId_quiet F.plain_extend_loop _, codeAny_extend_loopS W hn _ hSf _ n 0 _ _ _ rfl (Nat.zero_le _) st1 hS (ItemsOf.nil P) fun s' acc' c' hm hS' hacc => ?_⟩
    exact hR s' acc' c' (Moved.trans W.gtrans mv hm) hS' hacc
theorem wpAny_list_init_it (W : WalksS prog w A.in1 I fp wr G n P St) (hT : ∀ i s, St i s → s.TypeIs (.ref I) T) (h2 : (Value.type T == Value.type "list") = false) (h3 : (Value.type T == Value.type "tuple") = false) (hint : Hints prog w A.in1 I St)
    (S : Addr) (hst : St 0 s) (hSf : S ∉ fp) (hI : I ∈ fp)
    (hS : s.heap.get? S = some { cls := .type "list", data := .seq #[] })
    (hR : ∀ s' acc' c', Moved (S :: wr) G s s' → s'.heap.get? S = some { cls := .type "list", dict := none, data := .seq acc' c', slots := #[] } → ItemsOf P acc' n → R (.ok (.ret .none)) s') (hn : n ≤ sizeLine) :
    wpAny (model prog w) A.in1 (Builtin.«list.__init__» ⟨[.ref S, .ref I], []⟩)
      (fun fin s' => match fin with | .done f => R (.ok f) s' | .again c' => c'.quiet = true ∧ codeAny (model prog w) A c' R s') (fun e s' => R (.error e) s') s := by
  show wpAny _ A.in1 (do let old ← Builtin.List.listItems (.ref S); Builtin.List.listUpdate (.ref S) (fun _ => #[]); letGo old.toList.reverse; Builtin.List.listExtendWith (.ref S) (.ref I) .none) _ _ s
  refine wpAny_bind ?_
  unfold Builtin.List.listItems
  refine wpAny_bind (wpAny_seqItems hS rfl (wpAny_pure ?_))
  show wpAny _ A.in1 (updateSeq S (fun _ => #[]) >>= fun _ => letGo (#[] : Array Value).toList.reverse >>= fun _ => Builtin.List.listExtendWith (.ref S) (.ref I) .none) _ _ s
  refine wpAny_bind (wpAny_updateSeq hS rfl ?_)
  have hS₂ := Heap.get?_update_self (Obj.mapSeq (fun _ => (#[] : Array Value))) hS rfl
  have oth : ∀ b o, b ≠ S → s.heap.get? b = some o → (s.heap.update S (Obj.mapSeq (fun _ => (#[] : Array Value)))).get? b = some o :=
    fun b o hb e => (Heap.get?_update_other _ _ (Ne.symm hb)).trans e
  refine wpAny_bind (wpAny_letGo ?_)
  refine wpAny_extend_it (hn := hn) W hT h2 h3 hint S .none _ (W.frame 0 s _ s.toks hst (Nat.le_refl _) fun b hb o e => oth b o (fun h => hSf (h ▸ hb)) e) hSf hI hS₂ fun s' acc' c' hm hS' hacc => ?_
  exact hR s' acc' c' (Moved.trans W.gtrans ((Moved.refl W.grefl).then_heap (Nat.le_refl _) fun b o hb e => oth b o (fun h => hb (h ▸ List.mem_cons_self)) e) hm) hS' hacc
end
section
variable {prog : Program} {w : World} {A : Around} {E : Value → Shared → Prop} {s : Shared}
variable {I : Addr} {fp wr : List Addr} {G : Array GenState → Array GenState → Prop} {n : Nat} {P : Nat → Value → Prop} {St : Nat → Shared → Prop} {T : String}
theorem call_list_it {Q : Value → Shared → Prop} (W : WalksS prog w A.in1.in1 I fp wr G n P St) (hT : ∀ i s, St i s → s.TypeIs (.ref I) T) (h2 : (Value.type T == Value.type "list") = false) (h3 : (Value.type T == Value.type "tuple") = false) (hint : Hints prog w A.in1.in1 I St)
    (hst : St 0 s) (hfp : ∀ b ∈ fp, b < s.heap.objs.size) (hI : I ∈ fp)
    (hQ : ∀ s' acc' c', Moved (s.heap.objs.size :: wr) G { s with heap := s.heap.push { cls := .type "list", data := .seq #[] } } s' →
      s'.heap.get? s.heap.objs.size = some { cls := .type "list", dict := none, data := .seq acc' c', slots := #[] } → ItemsOf P acc' n → Q (.ref s.heap.objs.size) s') (hn : n ≤ sizeLine) :
    wpAny (model prog w) A (call (.type "list") [.ref I]) Q E s := by
  have hSf : s.heap.objs.size ∉ fp := fun hm => Nat.lt_irrefl _ (hfp _ hm)
  refine callType_codes (Q₁ := fun obj s₁ => obj = .ref s.heap.objs.size ∧ s₁ = { s with heap := s.heap.push { cls := .type "list", data := .seq #[] } }) F.called_list (F.typeCall_list_1 _) F.entry_list_init
    (code_list_new _ ⟨rfl, rfl⟩) fun obj s₁ h₁ => ?_
  obtain ⟨rfl, rfl⟩ := h₁
  have hS : (s.heap.push { cls := .type "list", data := .seq #[] }).get? s.heap.objs.size = some { cls := .type "list", data := .seq #[] } := Heap.get?_push_size _ rfl
  refine ⟨⟨_, hS, rfl⟩, F.args_list_init_2 _ _, wpAny_list_init_it (hn := hn) W hT h2 h3 hint _ (W.frame 0 s _ s.toks hst (Nat.le_refl _) fun b _ o e => Heap.get?_push_of_some _ e) hSf hI hS fun s' acc' c' hm hS' hacc => ?_⟩
  exact ⟨rfl, hQ s' acc' c' hm hS' hacc⟩
theorem lri_no_len : typeLookup (.type "list_reverseiterator") "__len__" = pure none := by rw [typeLookup_type, builtinLookup_eq_fast]; kernel_rfl
theorem lri_hint : typeLookup (.type "list_reverseiterator") "__length_hint__" = pure (some (.builtin "list_reverseiterator.__length_hint__")) := by rw [typeLookup_type, builtinLookup_eq_fast]; kernel_rfl
theorem hint_lri {I l : Addr} {i : Int} {Q : Bool → Shared → Prop} (x : s.heap.IsRevIter I l i) (h : Q false s) : wpAny (model prog w) A (Builtin.List.listLengthHint (.ref I)) Q E s := by
  unfold Builtin.List.listLengthHint
  refine wpAny_bind (wpAny_specialOf x.typeIs lri_no_len ?_)
  show wpAny _ A (specialOf (Value.ref I) (Str.ofString "__length_hint__") >>= _) _ _ _
  refine wpAny_bind (wpAny_specialOf x.typeIs lri_hint ?_)
  generalize hid : ("list_reverseiterator.__length_hint__" : String) = id0
  wp_delta
  rw [show splitId id0 = some ("list_reverseiterator", "__length_hint__") from by subst hid; decide +kernel]
  subst hid
  refine wpAny_bind (wpAny_isInstance (T := "list_reverseiterator") (b := true) x.typeIs (by rw [isSubtype_type]; kernel_rfl) ?_)
  refine wpAny_ite_split (fun hab => absurd hab (by decide)) (fun _ => ?_)
  refine wpAny_ite_split (fun _ => ?_) (fun hab => absurd (by decide +kernel) hab)
  refine wpAny_ite_split (fun hab => absurd hab (by decide +kernel)) (fun _ => ?_)
  exact wpAny_pure h
end
section
variable {X : Cx} {pins : List (Addr × Obj)} {σ : St} {H : Hp} {s : Shared}
theorem Inv.listed {it : Addr} {ys : List V} {acc : Array Value} {c : Nat} {s' : Shared} (I : Inv X pins σ H s) (hn : H it = none) (hL : it ≠ X.env.locals) (h1 : X.s₀.heap.objs.size ≤ it) (h2 : ∀ x c, X.env.cells.lookup x = some c → c ≠ it) (h3 : ∀ p ∈ X.pn ++ pins, p.1 ≠ it)
    (lt : it < s.heap.objs.size) (mv : Moved (s.heap.objs.size :: [it]) (fun a b => b = a) { s with heap := s.heap.push { cls := .type "list", data := .seq #[] } } s')
    (hS : s'.heap.get? s.heap.objs.size = some { cls := .type "list", dict := none, data := .seq acc c, slots := #[] }) (rv : Vals ys acc.toList) (hz : ys.length ≤ sizeLine) : Inv X pins σ (upd H s.heap.objs.size (.lst ys)) s' := by
  have hf : H s.heap.objs.size = none := I.hok.fresh (Nat.le_refl _)
  have I3 : Inv X pins σ (upd H s.heap.objs.size (.lst [])) { s with heap := s.heap.push { cls := .type "list", data := .seq #[] } } :=
    I.laid (t' := s.toks) (fun b u e => Heap.get?_push_of_some _ e) (Nat.le_refl _) ⟨Nat.zero_le _, [], 0, .nil, Heap.get?_push_size _ rfl⟩
  have neS : ∀ b, upd H s.heap.objs.size (.lst []) b = none → b ≠ s.heap.objs.size := fun b e z => by rw [z, upd_same] at e; cases e
  have kp : ∀ b o, b ≠ s.heap.objs.size → b ≠ it → (s.heap.push { cls := .type "list", data := .seq #[] }).get? b = some o → s'.heap.get? b = some o := fun b o n1 n2 e => mv.heap b o (fun z => by
    rcases List.mem_cons.mp z with z | z
    · exact n1 z
    · exact n2 (List.mem_singleton.mp z)) e
  have e' : s' = { s with heap := s'.heap, gens := s'.gens, drawn := s'.drawn, toks := s'.toks } := by
    have := mv.os
    obtain ⟨hp, g, d, tk, os⟩ := s'
    simp only at this ⊢
    rw [this]
  rw [e']
  have hsz : (s.heap.push { cls := .type "list", data := .seq #[] }).objs.size = s.heap.objs.size + 1 := Heap.size_push ..
  refine Inv.step (s := { s with heap := s.heap.push { cls := .type "list", data := .seq #[] } }) (ch := [it]) I3 (fun b hb => ?_) (fun b o _ _ hc e n => kp b o (neS b n) (fun z => hc (by simp [z])) e) (fun b o _ _ hc e n => ⟨o.slots, kp b o (neS b n) (fun z => hc (by simp [z])) e⟩)
    (fun b o hc e n => ?_) (fun b o hc e => ?_) (fun b xs e => ?_) (fun b o u e => ?_) (fun b ps e => ?_) (fun m hm => ?_) (fun b u e => ?_) ?_
  · have e : b = it := by simpa using hb
    subst e
    exact ⟨.inr h1, hL, h2, h3⟩
  · have ne := neS b n
    rw [upd_ne ne] at n ⊢
    exact n
  · by_cases z : b = s.heap.objs.size
    · exact ⟨_, z ▸ hS⟩
    · exact ⟨o, kp b o z (fun z => hc (by simp [z])) e⟩
  · have ne : b ≠ s.heap.objs.size := fun z => by rw [z, upd_same] at e; cases e
    rw [upd_ne ne] at e ⊢
    exact e
  · have ne : b ≠ s.heap.objs.size := fun z => by rw [z, upd_same] at e; cases e
    rw [upd_ne ne] at e ⊢
    exact e
  · have ne : b ≠ s.heap.objs.size := fun z => by rw [z, upd_same] at e; cases e
    rw [upd_ne ne] at e ⊢
    exact ⟨#[], by rw [e]; simp⟩
  · exact hm.at' fun o e => kp _ o (Nat.ne_of_lt I.lt) (Ne.symm hL) e
  · by_cases z : b = s.heap.objs.size
    · subst z
      rw [upd_same] at e
      cases e
      exact ⟨hz, acc.toList, c, rv, by simpa using hS⟩
    · rw [upd_ne z] at e
      have e3 : upd H s.heap.objs.size (.lst []) b = some u := by rw [upd_ne z]; exact e
      have nit : ∀ b u, H b = some u → b ≠ it := fun b u e z => by rw [z, hn] at e; cases e
      refine (I3.hok b u e3).stay (fun d w' hd q => ?_) (fun d q => ?_) (fun d xs q => ?_)
      · rcases hd with rfl | hd
        · exact kp _ _ z (nit _ _ e) q
        · have nd : d ≠ s.heap.objs.size := fun y => by rw [y, upd_same] at hd; cases hd
          rw [upd_ne nd] at hd
          exact kp _ _ nd (nit _ _ hd) q
      · have nd : d ≠ s.heap.objs.size := fun y => by rw [y, upd_same] at q; cases q
        rw [upd_ne nd] at q ⊢
        exact q
      · have nd : d ≠ s.heap.objs.size := fun y => by rw [y, upd_same] at q; cases q
        rw [upd_ne nd] at q ⊢
        exact q
  · have := mv.gens
    rw [this]
    exact I.bare
end
def tRev (K : PySem.W.Frag) (t : TA) : TE := fun σ H Q => t σ H fun vs H1 => ∃ (p : Addr) (ys : List V), vs = [.ref p] ∧ (SqL K H1 p ys ∨ SqT K H1 p ys) ∧ ∀ l, H1 l = none → Q (.ref l) (upd H1 l (.lst ys.reverse))
theorem b_reversed : bootBuiltins "reversed" = some (.type "reversed") := by decide +kernel
theorem vals_of {ys : List V} {us : List Value} (hl : us.length = ys.length) (h : ∀ (j : Nat) (y : V) (u : Value), ys[j]? = some y → us[j]? = some u → RelV y u) : Vals ys us := by
  induction ys generalizing us with
  | nil => cases us with
    | nil => exact .nil
    | cons _ _ => cases hl
  | cons y ys ih => cases us with
    | nil => cases hl
    | cons u us => exact .cons (h 0 y u rfl rfl) (ih (by simpa using hl) fun j y' u' e1 e2 => h (j + 1) y' u' (by simpa using e1) (by simpa using e2))
theorem vals_rev {ys : List V} {its : List Value} {acc : Array Value} (r : Vals ys its) (h : ItemsOf (fun i v => its.toArray[its.toArray.size - 1 - i]? = some v) acc its.toArray.size) : Vals ys.reverse acc.toList := by
  have hl := r.length
  have hs : acc.size = its.length := by simpa using h.1
  refine vals_of (by rw [Array.length_toList, List.length_reverse, hs, hl]) fun j y u e1 e2 => ?_
  have hj : j < ys.length := by
    have := (List.getElem?_eq_some_iff.mp e1).1
    simpa using this
  have q := h.2 j u (by simpa using e2)
  rw [List.getElem?_reverse (by omega)] at e1
  have q' : its[ys.length - 1 - j]? = some u := by rw [hl]; simpa using q
  obtain ⟨u', e', r'⟩ := r.get e1
  rw [q'] at e'
  cases e'
  exact r'
section
variable {X : Cx} {e : Expr} {t : TA} {p1 p2 pos1 pos2 : Pos}
theorem rev_end {pins : List (Addr × Obj)} {σ : St} {H1 : Hp} {s1 : Shared} {Q : VK} {ys : List V} {its : List Value} {o : Obj} {St : Nat → Shared → Prop} {T : String} {fp : List Addr} (I1 : Inv X pins σ H1 s1) (r' : Vals ys its) (hz : ys.length ≤ sizeLine)
    (W : WalksS X.prog X.w X.A.in1.in1 s1.heap.objs.size fp [s1.heap.objs.size] (fun a b => b = a) its.toArray.size (fun i v => its.toArray[its.toArray.size - 1 - i]? = some v) St) (hT : ∀ i s, St i s → s.TypeIs (.ref s1.heap.objs.size) T)
    (h2 : (Value.type T == Value.type "list") = false) (h3 : (Value.type T == Value.type "tuple") = false) (hint : Hints X.prog X.w X.A.in1.in1 s1.heap.objs.size St) (hst : St 0 { s1 with heap := s1.heap.push o }) (ho : o.isFreed = false) (hfp : ∀ b ∈ fp, b < s1.heap.objs.size + 1) (hI : s1.heap.objs.size ∈ fp)
    (q : ∀ l, H1 l = none → Q (.ref l) (upd H1 l (.lst ys.reverse))) : wpAny (model X.prog X.w) X.A (call (.type "list") [.ref s1.heap.objs.size]) (EP X pins σ Q) X.xe { s1 with heap := s1.heap.push o } := by
  have hsz : (s1.heap.push o).objs.size = s1.heap.objs.size + 1 := Heap.size_push ..
  have I2 : Inv X pins σ H1 { s1 with heap := s1.heap.push o } := I1.kept (t' := s1.toks) fun b u e => Heap.get?_push_of_some _ e
  have hlen := r'.length
  refine call_list_it W hT h2 h3 hint hst (fun b hb => by show b < (s1.heap.push o).objs.size; rw [hsz]; exact hfp b hb) hI (fun s' acc c mv hS ha => ?_) (by rw [List.size_toArray]; omega)
  refine ⟨.ref _, _, Inv.listed I2 (I1.hok.fresh (Nat.le_refl _)) (Nat.ne_of_gt I1.lt) I1.sz (fun x c e z => ?_) (fun p hp z => ?_) (by show _ < (s1.heap.push o).objs.size; rw [hsz]; exact Nat.lt_succ_self _) mv hS (vals_rev r' ha) (by simpa using hz), rfl, q _ (I2.hok.fresh (Nat.le_refl _))⟩
  · obtain ⟨v, o', ho', _⟩ := I1.cell x c e
    exact absurd (Heap.lt_size ho') (by rw [z]; exact Nat.lt_irrefl _)
  · exact absurd (Heap.lt_size (I1.pin p hp).1) (by rw [z]; exact Nat.lt_irrefl _)
end
theorem rvd_no_rev : typeLookup (.type "tuple") "__reversed__" = pure none := by rw [typeLookup_type, builtinLookup_eq_fast]; kernel_rfl
theorem slot_rvd_init : Slot "reversed" "__init__" "object.__init__" :=
  .of (owner := "object") (n := "__init__") (by rw [typeLookup_type, builtinLookup_eq_fast]; kernel_rfl) (by decide +kernel) (by decide +kernel) (by decide +kernel)
    (by first | exact .inl (by decide +kernel) | exact .inr (by decide +kernel)) (by rw [isSubtype_type]; kernel_rfl)
theorem slot_rvd_next : Slot "reversed" "__next__" "reversed.__next__" :=
  .of (owner := "reversed") (n := "__next__") (by rw [typeLookup_type, builtinLookup_eq_fast]; kernel_rfl) (by decide +kernel) (by decide +kernel) (by decide +kernel)
    (by first | exact .inl (by decide +kernel) | exact .inr (by decide +kernel)) (by rw [isSubtype_type]; kernel_rfl)
theorem slot_rvd_iter : Slot "reversed" "__iter__" "reversed.__iter__" :=
  .of (owner := "reversed") (n := "__iter__") (by rw [typeLookup_type, builtinLookup_eq_fast]; kernel_rfl) (by decide +kernel) (by decide +kernel) (by decide +kernel)
    (by first | exact .inl (by decide +kernel) | exact .inr (by decide +kernel)) (by rw [isSubtype_type]; kernel_rfl)
theorem slot_rvd_hint : Slot "reversed" "__length_hint__" "reversed.__length_hint__" :=
  .of (owner := "reversed") (n := "__length_hint__") (by rw [typeLookup_type, builtinLookup_eq_fast]; kernel_rfl) (by decide +kernel) (by decide +kernel) (by decide +kernel)
    (by first | exact .inl (by decide +kernel) | exact .inr (by decide +kernel)) (by rw [isSubtype_type]; kernel_rfl)
theorem rvd_no_len : typeLookup (.type "reversed") "__len__" = pure none := by rw [typeLookup_type, builtinLookup_eq_fast]; kernel_rfl
theorem called_rvd : TypeCalled "reversed" "reversed.__new__" "object.__init__" :=
  ⟨by decide +kernel, by decide +kernel, ⟨_, _, F.mro_reversed⟩, F.made_reversed, by decide +kernel, by rw [isSubtype_type]; kernel_rfl, slot_rvd_init⟩
theorem owner_rvd : Manifest.owners.lookup (String.ofList ['d', 'e', 's', 'r', 'e', 'v', 'e', 'r'].reverse) = some Manifest.sig_reversed := by kernel_rfl
theorem entry_rvd_next : entryFor table "reversed.__next__" = some Builtin.«reversed.__next__» := entryFor_of_tree (by kernel_rfl)
theorem entry_rvd_hint : entryFor table "reversed.__length_hint__" = some Builtin.«reversed.__length_hint__» := entryFor_of_tree (by kernel_rfl)
theorem args_rvd_next_1 (a : Value) : argsOk "reversed.__next__" ⟨[a], []⟩ := by
  unfold argsOk; rw [signature?_of (id := "reversed.__next__") (n := ['_', '_', 't', 'x', 'e', 'n', '_', '_']) (o := ['d', 'e', 's', 'r', 'e', 'v', 'e', 'r']) (by kernel_rfl) owner_rvd]; kernel_rfl
theorem args_rvd_iter_1 (a : Value) : argsOk "reversed.__iter__" ⟨[a], []⟩ := by
  unfold argsOk; rw [signature?_of (id := "reversed.__iter__") (n := ['_', '_', 'r', 'e', 't', 'i', '_', '_']) (o := ['d', 'e', 's', 'r', 'e', 'v', 'e', 'r']) (by kernel_rfl) owner_rvd]; kernel_rfl
theorem args_rvd_hint_1 (a : Value) : argsOk "reversed.__length_hint__" ⟨[a], []⟩ := by
  unfold argsOk; rw [signature?_of (id := "reversed.__length_hint__") (n := ['_', '_', 't', 'n', 'i', 'h', '_', 'h', 't', 'g', 'n', 'e', 'l', '_', '_']) (o := ['d', 'e', 's', 'r', 'e', 'v', 'e', 'r']) (by kernel_rfl) owner_rvd]; kernel_rfl
theorem entry_rvd_iter : entryFor table "reversed.__iter__" = some Builtin.«dict_keyiterator.__iter__» :=
  entryFor_alias (id' := "dict_keyiterator.__iter__") (by kernel_rfl) (by first | rfl | decide +kernel | (unfold String.splitOn; simp +decide [String.splitOnAux])) (by decide +kernel) (by kernel_rfl)
def rvdObj (l : Addr) (i : Int) : Obj := { cls := .type "reversed", data := .fields #[.ref l, rawInt i] }
def IsRvd (h : Heap) (a l : Addr) (i : Int) : Prop := ∃ o, h.get? a = some o ∧ o.cls = .type "reversed" ∧ o.data = .fields #[.ref l, rawInt i]
end L2

namespace L2
open PySem PySem.Spec PyProof.Rows
theorem sub_tuple_dict : isSubtype (.type "tuple") (.type "dict") = pure false := by rw [isSubtype_type]; kernel_rfl
open AutoSeq1 (wpAny_loadPart') in
theorem meets_rvd_new (l : Addr) (items : Array Value) (n : Nat) (dct : Option Addr) (sl : Array (Option Value)) :
    Meets (Builtin.«reversed.__new__» ⟨[.type "reversed", .ref l], []⟩) (fun _ R s => s.heap.get? l = some { cls := .type "tuple", dict := dct, data := .seq items n, slots := sl } ∧ items.size < 2 ^ 62 ∧
      ∀ tk, R (.ok (.ret (.ref s.heap.objs.size))) { s with heap := s.heap.push (rvdObj l ((items.size : Int) - 1)), toks := tk }) :=
  .of_wp fun prog w A R s h => by
    obtain ⟨hl, hz, h⟩ := h
    have ht : IsTup s.heap l items := ⟨_, hl, rfl, n, rfl⟩
    have hT : s.TypeIs (.ref l) "tuple" := ⟨_, hl, rfl⟩
    unfold Builtin.«reversed.__new__»
    refine wpAny_bind (wpAny_of_eq (newClass_reversed _) ?_)
    try dsimp only
    refine wpAny_bind (wpAny_of_eq (a := ()) (by first | rfl | kernel_rfl) ?_)
    refine wpAny_bind (wpAny_of_eq (a := ()) (by first | rfl | kernel_rfl) ?_)
    try dsimp only
    refine wpAny_bind (wpAny_specialOf hT rvd_no_rev ?_)
    try dsimp only
    have e1 := sub_tuple_dict
    refine wpAny_bind ?_
    wp_delta
    refine wpAny_bind (wpAny_isInstance (T := "tuple") (b := false) hT sub_tuple_dict ?_)
    try dsimp only
    refine wpAny_ite_split (fun hab => absurd hab (by decide)) (fun _ => ?_)
    refine wpAny_bind (wpAny_specialOf hT slot_tuple_getitem.lookup ?_)
    try dsimp only
    refine wpAny_ite_split (fun _ => ?_) (fun hab => absurd (by decide +kernel) hab)
    refine wpAny_pure ?_
    refine wpAny_ite_split (fun hab => absurd hab (by decide)) (fun _ => ?_)
    refine wpAny_bind (len_tuple ht (by omega) ?_)
    refine wpAny_bind (m := asInt? _) (wpAny_pure ?_)
    try dsimp only
    refine wpAny_bind ?_
    show wpAny _ _ (newObj (.type "reversed") (.fields #[.ref l, rawInt ((items.size : Int) - 1)])) _ _ _
    refine wpAny_newObj_type ?_ (by size_fits)
    exact wpAny_pure ⟨_, rfl, h _⟩
section
variable {prog : Program} {w : World} {A : Around} {E : Value → Shared → Prop} {s : Shared}
theorem IsRvd.typeIs {a l : Addr} {i : Int} (x : IsRvd s.heap a l i) : s.TypeIs (.ref a) "reversed" := let ⟨o, ho, hc, _⟩ := x; ⟨o, ho, hc⟩
theorem IsRvd.at {h h' : Heap} {a l : Addr} {i : Int} (x : IsRvd h a l i) (e : ∀ o, h.get? a = some o → h'.get? a = some o) : IsRvd h' a l i := let ⟨o, ho, r⟩ := x; ⟨o, e _ ho, r⟩
theorem call_reversed_tup {l : Addr} {items : Array Value} {Q : Value → Shared → Prop} (hl : IsTup s.heap l items) (hz : items.size < 2 ^ 62)
    (h : ∀ tk, Q (.ref s.heap.objs.size) { s with heap := s.heap.push (rvdObj l ((items.size : Int) - 1)), toks := tk }) : wpAny (model prog w) A (call (.type "reversed") [.ref l]) Q E s := by
  obtain ⟨⟨c, dct, dt, sl⟩, hl, hc, n, hd⟩ := hl
  replace hc : c = .type "tuple" := hc
  replace hd : dt = .seq items n := hd
  subst hc hd
  refine callType_new called_rvd (by decide) (F.typeCall_reversed_1 _) (F.newCall_reversed_1 _) (fun obj => F.args_object_init_2 obj _) F.entry_reversed_new
    (meets_rvd_new l items n dct sl) ⟨hl, hz, fun tk => ?_⟩
  exact ⟨⟨_, Heap.get?_push_size _ rfl, rfl⟩, h tk⟩
theorem wpAny_pyNext_rvd_item {it l : Addr} {i : Nat} {items : Array Value} {x : Value} {Q : Option Value → Shared → Prop} (hit : IsRvd s.heap it l (i : Int)) (hl : IsTup s.heap l items) (hz : items.size < 2 ^ 62) (hx : items[i]? = some x)
    (hQ : ∀ h' tk, IsRvd h' it l ((i : Int) - 1) → Heap.SameBut it s.heap h' → Q (some x) { s with heap := h', toks := tk }) : wpAny (model prog w) A (pyNext (.ref it)) Q E s := by
  obtain ⟨o, ho, hc, hd⟩ := id hit
  obtain ⟨ol, hol, hcl, nl, hdl⟩ := id hl
  have hi : i < items.size := (Array.getElem?_eq_some_iff.mp hx).1
  unfold pyNext
  refine wpAny_bind (wpAny_attempt (wpAny_callSpecial?_slot (name := Str.ofString "__next__") hit.typeIs slot_rvd_next
    (wpAny_call_entry slot_rvd_next hit.typeIs entry_rvd_next ?_ (args_rvd_next_1 _))))
  unfold Builtin.«reversed.__next__»
  refine wpAny_bind (wpAny_of_eq (a := (Value.ref it, [])) rfl ?_)
  try dsimp only
  refine wpAny_bind (wpAny_field ho hd (x := .ref l) rfl ?_)
  refine wpAny_bind (wpAny_field ho hd (x := rawInt (i : Int)) rfl ?_)
  show wpAny _ _ (if (i : Int) < 0 then _ else _) _ _ s
  rw [if_neg (by omega)]
  refine wpAny_bind (wpAny_specialOf (T := "tuple") ⟨ol, hol, hcl⟩ slot_tuple_getitem.lookup ?_)
  refine wpAny_ite_split (fun hab => absurd hab (by decide)) (fun _ => ?_)
  refine wpAny_bind (wpAny_mkInt ?_)
  refine wpAny_bind (wpAny_attempt (getItem_tuple (s := { s with toks := s.toks + 1 }) (j := i) (x := x) hl (by omega) (by omega) ?_ hx ?_))
  · unfold seqIndex?
    have n0 : ¬ (i : Int) < 0 := by omega
    simp only [if_neg n0]
    rw [if_pos (by simp; omega)]
    simp
  · try dsimp only
    refine wpAny_bind (wpAny_field (s := { s with toks := s.toks + 1 }) ho hd (x := rawInt (i : Int)) rfl ?_)
    refine wpAny_bind (wpAny_setField (s := { s with toks := s.toks + 1 }) ho hd (by simp) ?_)
    first
    | refine wpAny_pure ⟨x, rfl, wpAny_pure (hQ _ _ ?_ (Heap.SameBut.update ..))⟩
    | refine wpAny_bind (wpAny_pure (wpAny_pure ⟨x, rfl, wpAny_pure (hQ _ _ ?_ (Heap.SameBut.update ..))⟩))
    exact ⟨_, Heap.get?_update_self _ ho (Obj.isFreed_of_fields (Obj.data_mapFields hd _)), (Obj.cls_mapFields ..).trans hc, by
      rw [Obj.data_mapFields hd]; simp⟩
theorem wpAny_pyNext_rvd_end {it l : Addr} {Q : Option Value → Shared → Prop} (hh : A.handled = none) (hit : IsRvd s.heap it l (-1))
    (hQ : ∀ h', Heap.ExtBut it s.heap h' → Q none { s with heap := h' }) : wpAny (model prog w) A (pyNext (.ref it)) Q E s := by
  obtain ⟨o, ho, hc, hd⟩ := id hit
  unfold pyNext
  refine wpAny_bind (wpAny_attempt (wpAny_callSpecial?_slot (name := Str.ofString "__next__") hit.typeIs slot_rvd_next
    (wpAny_call_entry slot_rvd_next hit.typeIs entry_rvd_next ?_ (args_rvd_next_1 _))))
  unfold Builtin.«reversed.__next__»
  refine wpAny_bind (wpAny_of_eq (a := (Value.ref it, [])) rfl ?_)
  try dsimp only
  refine wpAny_bind (wpAny_field ho hd (x := .ref l) rfl ?_)
  refine wpAny_bind (wpAny_field ho hd (x := rawInt (-1)) rfl ?_)
  show wpAny _ _ (if (-1 : Int) < 0 then _ else _) _ _ s
  rw [if_pos (by decide)]
  refine wpAny_bind (wpAny_rule ?_)
  refine wpAny_bind ?_
  show wpAny _ _ (setField (.ref it) 1 (rawInt (-1)) >>= fun _ => setField (.ref it) 0 .none) _ _ _
  refine wpAny_bind (wpAny_setField ho hd (by simp) ?_)
  have hS := Heap.get?_update_self (Obj.mapFields fun a => a.setIfInBounds 1 (rawInt (-1))) ho (Obj.isFreed_of_fields (Obj.data_mapFields hd _))
  have hd2 := Obj.data_mapFields hd fun a => a.setIfInBounds 1 (rawInt (-1))
  refine wpAny_setField (s := { s with heap := s.heap.update it (Obj.mapFields fun x => x.setIfInBounds 1 (rawInt (-1))) }) hS hd2 (by simp) ?_
  first
  | show wpAny _ _ (newExc (.type "StopIteration") [] >>= _) _ _ _
  | (refine wpAny_bind ?_; show wpAny _ _ (newExc (.type "StopIteration") [] >>= _) _ _ _)
  refine wpAny_bind ?_
  simp only [newExc, newTuple]
  refine wpAny_bind (wpAny_newObj_type ?_ (by size_fits))
  refine wpAny_bind (m := firstArgMember _ _) (wpAny_of_eq (a := Value.none) (by first | rfl | (simp only [firstArgMember]; rfl)) ?_)
  refine wpAny_newObj_type ?_ (by size_fits)
  simp only [raiseNew]
  refine wpAny_bind (wpAny_handled ?_)
  first | rw [show A.in1.handled = none from hh] | rw [hh]
  refine wpAny_bind (wpAny_pure (wpAny_throw ?_))
  refine wpAny_bind (wpAny_isInstance (T := "StopIteration") (b := true) ⟨_, Heap.get?_push_size _ rfl, rfl⟩ isSubtype_stop ?_)
  refine wpAny_pure (hQ _ ((Heap.ExtBut.push (Heap.ExtBut.push (fun b o hb e => ?_) _) _)))
  exact (Heap.get?_update_other _ _ (Ne.symm hb)).trans ((Heap.get?_update_other _ _ (Ne.symm hb)).trans e)
theorem wpAny_pyIter_rvd {it l : Addr} {i : Int} {Q : Value → Shared → Prop} (hit : IsRvd s.heap it l i) (h : Q (.ref it) s) : wpAny (model prog w) A (pyIter (.ref it)) Q E s := by
  refine wpAny_pyIter_slot hit.typeIs slot_rvd_iter (wpAny_call_entry slot_rvd_iter hit.typeIs entry_rvd_iter ?_ (args_rvd_iter_1 _))
  show wpAny _ _ (ret (.ref it)) _ _ s
  exact wpAny_pure ⟨_, rfl, "reversed", _, hit.typeIs, slot_rvd_next.lookup, h⟩
theorem hint_rvd {I l : Addr} {items : Array Value} {Q : Bool → Shared → Prop} (x : IsRvd s.heap I l ((items.size : Int) - 1)) (hl : IsTup s.heap l items) (hz : items.size ≤ sizeLine) (h : ∀ b tk, s.toks ≤ tk → Q b { s with toks := tk }) : wpAny (model prog w) A (Builtin.List.listLengthHint (.ref I)) Q E s := by
  obtain ⟨o, ho, hc, hd⟩ := id x
  have hn := line63
  have hlt : items.size < 2 ^ 62 := by rw [sizeLine_eq] at hz; omega
  unfold Builtin.List.listLengthHint
  refine wpAny_bind (wpAny_specialOf x.typeIs rvd_no_len ?_)
  show wpAny _ A (specialOf (Value.ref I) (Str.ofString "__length_hint__") >>= _) _ _ _
  refine wpAny_bind (wpAny_specialOf x.typeIs slot_rvd_hint.lookup ?_)
  generalize hid : ("reversed.__length_hint__" : String) = id0
  wp_delta
  rw [show splitId id0 = some ("reversed", "__length_hint__") from by subst hid; decide +kernel]
  subst hid
  refine wpAny_bind (wpAny_isInstance (T := "reversed") (b := true) x.typeIs (by rw [isSubtype_type]; kernel_rfl) ?_)
  refine wpAny_ite_split (fun hab => absurd hab (by decide)) (fun _ => ?_)
  refine wpAny_ite_split (fun hab => absurd hab (by decide +kernel)) (fun _ => ?_)
  refine wpAny_bind (wpAny_rule ?_)
  refine wpAny_bind (wpAny_of_eq (slot_rvd_hint.bind _) ?_)
  try dsimp only
  refine wpAny_bind (wpAny_attempt (wpAny_call_entry slot_rvd_hint x.typeIs entry_rvd_hint ?_ (args_rvd_hint_1 _)))
  unfold Builtin.«reversed.__length_hint__»
  refine wpAny_bind (wpAny_of_eq (a := Value.ref I) rfl ?_)
  refine wpAny_bind (wpAny_field ho hd (x := .ref l) rfl ?_)
  refine wpAny_ite_split (fun hab => absurd hab (show ¬ ((Value.ref l == Value.none) = true) from Bool.false_ne_true)) (fun _ => ?_)
  refine wpAny_bind (len_tuple hl (by omega) ?_)
  refine wpAny_bind (m := asInt? _) (wpAny_pure ?_)
  try dsimp only
  refine wpAny_bind (wpAny_field (s := { s with toks := s.toks + 1 + 1 }) ho hd (x := rawInt ((items.size : Int) - 1)) rfl ?_)
  show wpAny _ _ (if (items.size : Int) < (items.size : Int) - 1 + 1 then _ else _) _ _ _
  rw [if_neg (by omega)]
  show wpAny _ _ (mkInt ((items.size : Int) - 1 + 1) >>= fun v => ret v) _ _ _
  refine wpAny_bind (wpAny_mkInt (wpAny_pure ⟨_, rfl, ?_⟩))
  show wpAny _ _ (asInt? (.int ((items.size : Int) - 1 + 1) _) >>= _) _ _ _
  refine wpAny_bind (m := asInt? _) (wpAny_pure ?_)
  rw [show (items.size : Int) - 1 + 1 = (items.size : Int) by omega]
  try dsimp only
  have htl : Builtin.List.listTooLong ((items.size : Int).toNat) = false := by
    show decide ((items.size : Int).toNat > sizeLine) = false
    rw [Int.toNat_natCast]
    exact decide_eq_false (by omega)
  have hfi : ¬ ((!Builtin.List.listFitsIndex (items.size : Int)) = true) := by
    have : Builtin.List.listFitsIndex (items.size : Int) = true := by
      unfold Builtin.List.listFitsIndex
      rw [Bool.and_eq_true]
      exact ⟨decide_eq_true (by omega), decide_eq_true (by omega)⟩
    rw [this]
    decide
  rw [if_neg hfi, if_neg (show ¬ ((items.size : Int) < 0) by omega), if_neg (show ¬ (Builtin.List.listTooLong (items.size : Int).toNat = true) by rw [htl]; decide)]
  exact wpAny_pure (h _ _ (by show s.toks ≤ s.toks + 1 + 1 + 1; omega))
end
theorem Walks.tupRev {prog : Program} {w : World} {A : Around} (hh : A.handled = none) (I l : Addr) (hne : l ≠ I) (items : Array Value) (hz : items.size ≤ sizeLine) :
    Walks prog w A I [I, l] [I] items.size (fun i v => items[items.size - 1 - i]? = some v) (fun i h => i ≤ items.size ∧ IsRvd h I l ((items.size : Int) - 1 - (i : Int)) ∧ IsTup h l items) where
  sub := fun b hb => by simp at hb; simp [hb]
  frame := fun _ _ _ x hk => ⟨x.1, x.2.1.at fun o e => hk I (by simp) o e, let ⟨o, ho, r⟩ := x.2.2; ⟨o, hk l (by simp) o ho, r⟩⟩
  item := fun i s Q E hi x hQ => by
    have e : (items.size : Int) - 1 - (i : Int) = ((items.size - 1 - i : Nat) : Int) := by omega
    have hit := x.2.1
    rw [e] at hit
    have hx : items[items.size - 1 - i]? = some (items[items.size - 1 - i]'(by omega)) := Array.getElem?_eq_getElem (by omega)
    refine wpAny_pyNext_rvd_item hit x.2.2 (by rw [sizeLine_eq] at hz; omega) hx fun h' tk hit' hs' => ?_
    have e2 : ((items.size - 1 - i : Nat) : Int) - 1 = (items.size : Int) - 1 - ((i + 1 : Nat) : Int) := by omega
    rw [e2] at hit'
    exact hQ _ h' tk hx ⟨hi, hit', let ⟨o, ho, r⟩ := x.2.2; ⟨o, (hs'.2 l hne).trans ho, r⟩⟩ fun b o hb eo => hs'.extBut b o (fun h => hb (by simp [h])) eo
  done := fun s Q E x hQ => by
    have e : (items.size : Int) - 1 - (items.size : Int) = -1 := by omega
    have hit := x.2.1
    rw [e] at hit
    exact wpAny_pyNext_rvd_end hh hit fun h' he' => hQ h' s.toks fun b o hb eo => he' b o (fun h => hb (by simp [h])) eo
  self := fun _ _ _ _ x hQ => wpAny_pyIter_rvd x.2.1 hQ
section
variable {X : Cx} {e : Expr} {t : TA} {p1 p2 pos1 pos2 : Pos}
theorem pe_listRev (hc : X.calm = true) (hg1 : Gl X "list") (hm1 : X.mg "list" = none) (hg2 : Gl X "reversed") (hm2 : X.mg "reversed" = none) (ha : PA X [e] t)
    (hst : starEach [e] X.env = (false, eval e X.env) :: starEach [] X.env := by rfl)
    (hst2 : starEach [.Call (.Name "reversed" p2) [e] [] pos2] X.env = (false, eval (.Call (.Name "reversed" p2) [e] [] pos2) X.env) :: starEach [] X.env := by rfl)
    (pl : ∀ pos, (backTo pos (starEach [] X.env)).any (·.1) = false := by intro _; rfl) : PE X (.Call (.Name "list" p1) [.Call (.Name "reversed" p2) [e] [] pos2] [] pos1) (tRev X.K t) := by
  intro pins s σ H Q I h
  refine wpAny_Call_Name_kw (ld_blt I hg1 hm1 b_list ?_)
  refine PyProof.Rows.callWith_type1 ?_ hst2 (pl _)
  rw [hst2]
  show wpAny _ _ (spliced ((false, eval (.Call (.Name "reversed" p2) [e] [] pos2) X.env) :: backTo pos1 (starEach [] X.env))) _ _ s
  refine Calls.spliced_cons ?_
  refine wpAny_Call_Name_kw (ld_blt I hg2 hm2 b_reversed ?_)
  refine PyProof.Rows.callWith_type1 (thn (ha pos2 pins s σ H _ I h) fun us s1 ⟨vs, H1, I1, r1, p, ys, e1, hq, q⟩ => ?_) hst (pl _)
  subst e1
  obtain ⟨u, rfl, rx⟩ := vals1 r1
  cases rx
  have hh : X.A.handled = none := I1.ok.hd hc
  have hn := line63
  rcases hq with hq | hq
  · obtain ⟨its, r', pl', hz⟩ := I1.list hq
    have hlen := r'.length
    have hp : p < s1.heap.objs.size := let ⟨_, e, _⟩ := pl'.isList; Heap.lt_size e
    refine call_reversed_list pl'.isList ?_
    refine Calls.spliced_nil ?_
    have W := (Walks.listRev (prog := X.prog) (w := X.w) (A := X.A.in1.in1) hh s1.heap.objs.size p (Nat.ne_of_lt hp) its.toArray).toS
    refine rev_end (T := "list_reverseiterator") I1 r' hz W (fun i s x => x.2.1.typeIs) (by decide) (by decide) (fun s2 Q2 E2 x k => hint_lri x.2.1 (k _ _ (Nat.le_refl _))) ⟨Nat.zero_le _, ⟨_, Heap.get?_push_size _ rfl, rfl, ?_⟩, pl'.isList.push _⟩ rfl (fun b hb => ?_) (by simp) q
    · show Data.fields #[.ref p, rawInt (((its.toArray.size : Nat) : Int) - 1)] = _
      simp
    · rcases List.mem_cons.mp hb with z | z
      · rw [z]; exact Nat.lt_succ_self _
      · rw [List.mem_singleton.mp z]; exact Nat.lt_succ_of_lt hp
  · obtain ⟨its, r', pl', hz⟩ := I1.tuple hq
    have hlen := r'.length
    have hz' : its.toArray.size ≤ sizeLine := by rw [List.size_toArray]; omega
    have hp : p < s1.heap.objs.size := let ⟨_, e, _⟩ := pl'; Heap.lt_size e
    refine call_reversed_tup pl' (by rw [sizeLine_eq] at hz'; omega) fun tk => ?_
    refine Calls.spliced_nil ?_
    have W := (Walks.tupRev (prog := X.prog) (w := X.w) (A := X.A.in1.in1) hh s1.heap.objs.size p (Nat.ne_of_lt hp) its.toArray hz').toS
    refine rev_end (s1 := { s1 with toks := tk }) (T := "reversed") (I1.tok _) r' hz W (fun i s x => x.2.1.typeIs) (by decide) (by decide) (fun s2 Q2 E2 x k => hint_rvd (items := its.toArray) (by simpa using x.2.1) x.2.2 hz' k) ⟨Nat.zero_le _, ⟨_, Heap.get?_push_size _ rfl, rfl, ?_⟩, let ⟨o, ho, r⟩ := pl'; ⟨o, Heap.get?_push_of_some _ ho, r⟩⟩ rfl (fun b hb => ?_) (by simp) q
    · show Data.fields #[.ref p, rawInt (((its.toArray.size : Nat) : Int) - 1)] = _
      simp
    · rcases List.mem_cons.mp hb with z | z
      · rw [z]; exact Nat.lt_succ_self _
      · rw [List.mem_singleton.mp z]; exact Nat.lt_succ_of_lt hp
end
end L2

namespace L2
open PySem PySem.Spec PyProof.Rows
def rIndexD (K : PySem.W.Frag) : V → List V → Hp → VK → Prop := fun x vs H Q => ∃ (l : Addr) (y : V) (d : PyData) (ds : List PyData) (j : Nat), x = .ref l ∧ vs = [y] ∧ j < 1000 ∧ Rep K H y d ∧ Rep K H (.ref l) (.list ds) ∧ flatD d ∧ flatD (.list ds) ∧
  (∃ z, ds[j]? = some z ∧ PyData.eqv z d = true) ∧ (∀ m z, m < j → ds[m]? = some z → PyData.eqv z d = false) ∧ Q (.int j) H
theorem mt_indexD {X : Cx} {K : PySem.W.Frag} (hK : X.K = K) (hu : X.A.units + 60 < cLine) : MtR X "list.index" (rIndexD K) := by
  subst hK
  intro pins s σ H x vs v us Q I rx rv h
  obtain ⟨l, y, d, ds, j, rfl, rfl, hj9, hd, he, fd, fe, ⟨z0, hz0, ez0⟩, hno, q⟩ := h
  cases rx
  cases rv with
  | @cons _ u1 _ _ r1 rv =>
    cases rv
    obtain ⟨as, R1⟩ := hd.reads I r1
    obtain ⟨bs, R2⟩ := he.reads I (show RelV (.ref l) (.ref l) from rfl)
    have dp : PyData.depthAll ds + 1 ≤ 40 := fe.2
    have fe1 : PyData.canLayAll0 ds = true := fe.1
    cases R2 with
    | @list _ o its n _ as' e1 e2 e3 e4 =>
      have emap := SeqAt.readsAll_map ds its.toList as' fe1 e4
      have at_ : ∀ (m : Nat) (hm : m < its.size), ds[m]? = some (SeqAt.readOf s.heap its[m]) := fun m hm => by
        rw [← emap, List.getElem?_map]
        simp [hm]
      have hj : j < its.size := by
        have := (List.getElem?_eq_some_iff.mp hz0).1
        have hl : ds.length = its.size := by rw [← emap]; simp
        omega
      have M := SeqAt.list_indexAt l its n o.dict o.slots u1 (fun z => PyData.eqv (SeqAt.readOf s.heap z) d) j hj (by omega) (by
        have := at_ j hj
        rw [hz0] at this
        cases this
        exact ez0) (fun m hm hlt => hno m _ hlt (at_ m hm))
      have eo : s.heap.get? l = some { cls := .type "list", dict := o.dict, data := .seq its n, slots := o.slots } := by
        rw [e1, ← e2, ← e3]
      refine call_meets F.slot_list_index ⟨_, e1, e2⟩ F.entry_list_index (F.args_list_index_2 _ _) M ⟨eo, fun z hz => ?_, ?_⟩
      · obtain ⟨d', as2, R3, c3, dp3⟩ := SeqAt.readsAll_mem ds its.toList as' fe1 e4 z (by simpa using hz)
        have er : SeqAt.readOf s.heap z = d' := by
          have := SeqAt.readsAll_map [d'] [z] _ (by show (PyData.canLay0 d' && true) = true; rw [c3]; rfl) (.cons R3 .nil)
          simpa using this
        rw [er]
        refine SeqAt.eqAt_reads d' d _ s z u1 as2 as R3 R1 c3 fd.1 ?_
        have := fd.2
        show X.A.units + 1 + min d'.depth d.depth < cLine
        omega
      · exact ⟨.int _, H, I.tok _, ⟨_, rfl⟩, q⟩
theorem call_setK {X : Cx} {K : PySem.W.Frag} (h : X.K = K) (hc : X.calm = true) : CallR X (.type "set") (fun xs H Q => ∃ (p : Addr) (ns : List Int), xs = [.ref p] ∧ SqL K H p (ns.map V.int) ∧ ns.length < 1000 ∧ ∀ l S m, H l = none → Q (.ref l) (upd H l (.set S m))) := by
  subst h
  intro pins s σ H xs us Q I r q
  obtain ⟨p, ns, e, a, b, q⟩ := q
  exact call_set_of hc pins s σ H xs us Q I r ⟨p, ns, e, a, b, fun l hl => q l _ _ hl⟩
end L2

namespace MthL
def pk (ws : List Int) (w : Int) (i : Nat) : Bool := decide (0 < ws.getD i 0 ∧ ws.getD i 0 ≤ w ∧ ∀ j, j < i → ws.getD j 0 ≠ ws.getD i 0)
def rk (ws : List Int) (w : Int) : Nat := ((List.range ws.length).filter (pk ws w)).length
theorem first {ws : List Int} {w : Int} (h : w ∈ ws) : ∃ i, i < ws.length ∧ ws.getD i 0 = w ∧ ∀ j, j < i → ws.getD j 0 ≠ w := by
  induction ws with
  | nil => cases h
  | cons a ws ih =>
    by_cases e : a = w
    · exact ⟨0, Nat.zero_lt_succ _, e, fun j hj => absurd hj (Nat.not_lt_zero _)⟩
    · obtain ⟨i, h1, h2, h3⟩ := ih ((List.mem_cons.mp h).resolve_left fun z => e z.symm)
      refine ⟨i + 1, Nat.succ_lt_succ h1, h2, fun j hj => ?_⟩
      cases j with
      | zero => exact e
      | succ j => exact h3 j (Nat.lt_of_succ_lt_succ hj)
theorem below {ws : List Int} (w : Int) : (∀ o ∈ ws, 0 < o → w ≤ o) ∨ ∃ v ∈ ws, 0 < v ∧ v < w ∧ ∀ o ∈ ws, o < w → o ≤ v := by
  induction ws with
  | nil => exact .inl fun o ho => by cases ho
  | cons a ws ih =>
    by_cases ha : 0 < a ∧ a < w
    · rcases ih with ih | ⟨v, h1, h2, h3, h4⟩
      · refine .inr ⟨a, List.mem_cons_self .., ha.1, ha.2, fun o ho hl => ?_⟩
        rcases List.mem_cons.mp ho with rfl | ho
        · exact Int.le_refl _
        · by_cases h0 : 0 < o
          · have := ih o ho h0
            omega
          · omega
      · by_cases hv : a ≤ v
        · refine .inr ⟨v, List.mem_cons_of_mem _ h1, h2, h3, fun o ho hl => ?_⟩
          rcases List.mem_cons.mp ho with rfl | ho
          · exact hv
          · exact h4 o ho hl
        · refine .inr ⟨a, List.mem_cons_self .., ha.1, ha.2, fun o ho hl => ?_⟩
          rcases List.mem_cons.mp ho with rfl | ho
          · exact Int.le_refl _
          · have := h4 o ho hl
            omega
    · rcases ih with ih | ⟨v, h1, h2, h3, h4⟩
      · refine .inl fun o ho h0 => ?_
        rcases List.mem_cons.mp ho with rfl | ho
        · omega
        · exact ih o ho h0
      · refine .inr ⟨v, List.mem_cons_of_mem _ h1, h2, h3, fun o ho hl => ?_⟩
        rcases List.mem_cons.mp ho with rfl | ho
        · omega
        · exact h4 o ho hl
def look (ws : List Int) : List Int := ws.map fun w => (rk ws w : Int)
end MthL

namespace Mth
def cell (ns : List Int) (k : Int) : Int :=
  if k < (ns.length : Int) then ns.getD k.toNat 0 % 10 ^ 60
  else (if 0 < (ns.length : Int) then ns.getD (k * 7 % (ns.length : Int)).toNat 0 % 10 ^ 60 * 48271 + k * k * 69621 else 7919 * k + 5) % 2147483647 * 16807 % 2147483629
theorem cell_in (ns : List Int) (k : Int) : 0 ≤ cell ns k ∧ cell ns k < 10 ^ 60 := by
  unfold cell
  split
  · have h1 := Int.emod_nonneg (ns.getD k.toNat 0) (show (10 ^ 60 : Int) ≠ 0 by decide)
    have h2 := Int.emod_lt_of_pos (ns.getD k.toNat 0) (show (0 : Int) < 10 ^ 60 by decide)
    exact ⟨h1, h2⟩
  · generalize (if 0 < (ns.length : Int) then ns.getD (k * 7 % (ns.length : Int)).toNat 0 % 10 ^ 60 * 48271 + k * k * 69621 else 7919 * k + 5) % 2147483647 * 16807 = z
    have h1 := Int.emod_nonneg z (show (2147483629 : Int) ≠ 0 by decide)
    have h2 := Int.emod_lt_of_pos z (show (0 : Int) < 2147483629 by decide)
    have h3 : (2147483629 : Int) ≤ 10 ^ 60 := by decide
    exact ⟨h1, by omega⟩

def gcd (a b : Int) : Int := (Int.gcd a b : Nat)
structure IsShare (t b x y : Int) : Prop where
  pos : 0 < y
  low : gcd x y = 1
  eq : x * b = t * y
  le1 : x.natAbs ≤ t.natAbs
  le2 : y.natAbs ≤ b.natAbs
def tot (s r : Int × Int) : Int × Int := (s.1 * r.2 + r.1 * s.2, s.2 * r.2)
structure Low (T : Int × Int) (x y : Int) : Prop where
  pos : 0 < y
  low : gcd x y = 1
  eq : x * T.2 = T.1 * y
end Mth

set_option maxHeartbeats 4000000
namespace My
open PySem L2
def spLaw (K : PySem.W.Frag) : Sp := fun vs H Q _ => ∃ (a : Addr) (ns : List Int), vs = [.ref a] ∧ SqL K H a (ns.map V.int) ∧ ns.length ≤ 63 ∧ ∀ H', Q (.bl true) H'
theorem atI_map {ns : List Int} {k : Int} (h0 : 0 ≤ k) (h1 : k < ns.length) : atI (ns.map V.int) k = some (.int (ns.getD k.toNat 0)) := by
  have e : k = ((k.toNat : Nat) : Int) := by omega
  have h2 : k.toNat < ns.length := by omega
  have q : (ns.map V.int)[k.toNat]? = some (.int (ns.getD k.toNat 0)) := by
    rw [List.getElem?_map, List.getElem?_eq_getElem h2]
    simp [List.getD, h2]
  have := atI_nat q
  rw [← e] at this
  exact this
theorem bitsN {n : Nat} {i : Int} (lo : -(10 ^ 61) ≤ i) (hi : i ≤ 10 ^ 61) (hn : 204 ≤ n := by decide) : Bits n i := (Bits.of (n := 204) (b := 10 ^ 61) lo hi (by decide)).mono hn
theorem same_new {H : Hp} {p : Addr} (h : H p = none) (o : HO) : Same H (upd H p o) := fun b u q => by rw [upd_ne (ne_of_none q h)]; exact q
theorem Same.tup {K : PySem.W.Frag} {H H' : Hp} {a : Addr} {xs : List V} (e : Same H H') (h : SqT K H a xs) : SqT K H' a xs := by
  rcases h with (h | ⟨o, h⟩) | h
  · exact .inl (.inl (e _ _ h))
  · exact .inl (.inr ⟨o, e _ _ h⟩)
  · exact .inr h
theorem cpow {n : Int} (h0 : 0 ≤ n := by decide) (h1 : n ≤ 1000000 := by decide) : CPow 10 n := ⟨h0, h1, by decide⟩
theorem ten_pos (n : Nat) : (0 : Int) < 10 ^ n := Int.pow_pos (by decide)
theorem cmul {i j : Int} (a : -(10 ^ 61) ≤ i) (b : i ≤ 10 ^ 61) (c : -(10 ^ 61) ≤ j) (d : j ≤ 10 ^ 61) : CMulB i j := ⟨bitsN a b, bitsN c d⟩
theorem cdiv {i j : Int} (a : 0 < j) (b : j ≤ 10 ^ 61) : CDivB i j := ⟨a, bitsN (by omega) b⟩
theorem getD_at {α : Type} {ws : List α} {j : Nat} {d : α} (h : j < ws.length) : ws.getD j d = ws[j] := by simp only [List.getD, List.getElem?_eq_getElem h, Option.getD_some]
theorem ixN_nat {n j : Nat} (h : j < n) : ixN n (j : Int) = some j := by
  unfold ixN
  rw [if_pos (by omega), if_pos (by omega)]
  rfl
theorem fresh_tup {K : PySem.W.Frag} {H : Hp} {p : Addr} (h : H p = none) (xs : List V) : ∃ H1, H1 = upd H p (.tup xs) ∧ Same H H1 ∧ SqT K H1 p xs := ⟨_, rfl, same_new h _, SqT.of upd_same⟩
theorem fresh_lst {K : PySem.W.Frag} {H : Hp} {p : Addr} (h : H p = none) (xs : List V) : ∃ H1, H1 = upd H p (.lst xs) ∧ Same H H1 ∧ SqL K H1 p xs := ⟨_, rfl, same_new h _, SqL.of upd_same⟩
theorem fresh_dct {K : PySem.W.Frag} {H : Hp} {p : Addr} (h : H p = none) : ∃ H1, H1 = upd H p (dctO p) ∧ Same H H1 ∧ Kd K H1 (.ref p) .dct := ⟨_, rfl, same_new h _, Kd.dct upd_same⟩
theorem same_upd {H H' : Hp} {l : Addr} (e : Same H H') (h : H l = none) (o : HO) : Same H (upd H' l o) := fun b u hb => by rw [upd_ne (ne_of_none hb h)]; exact e _ _ hb


def top (i : Nat) : Stmt := PySem.Challenge.pw_tariffgate_k32_joined_notes.main.body.getD i (.Pass ⟨0, 0, 0, 0⟩)
def inner : Stmt → Nat → Stmt
  | .ClassDef _ _ _ b _ _ _ _ _ _ _, j => b.getD j (.Pass ⟨0, 0, 0, 0⟩)
  | st, _ => st
theorem dn_thing : (("thing" : Str) == ("__debug__" : Str)) = false := by decide
theorem dc_thing : (("thing" : Str) == ("__classdict__" : Str)) = false := by decide
theorem nn_thing : ("thing" : Str) ≠ "__name__" := by decide
theorem dn_all : (("all" : Str) == ("__debug__" : Str)) = false := by decide
theorem dc_all : (("all" : Str) == ("__classdict__" : Str)) = false := by decide
theorem nn_all : ("all" : Str) ≠ "__name__" := by decide
theorem dn_isinstance : (("isinstance" : Str) == ("__debug__" : Str)) = false := by decide
theorem dc_isinstance : (("isinstance" : Str) == ("__classdict__" : Str)) = false := by decide
theorem nn_isinstance : ("isinstance" : Str) ≠ "__name__" := by decide
theorem dn_str : (("str" : Str) == ("__debug__" : Str)) = false := by decide
theorem dc_str : (("str" : Str) == ("__classdict__" : Str)) = false := by decide
theorem nn_str : ("str" : Str) ≠ "__name__" := by decide
theorem dn_letter : (("letter" : Str) == ("__debug__" : Str)) = false := by decide
theorem dc_letter : (("letter" : Str) == ("__classdict__" : Str)) = false := by decide
theorem nn_letter : ("letter" : Str) ≠ "__name__" := by decide
theorem dn_len : (("len" : Str) == ("__debug__" : Str)) = false := by decide
theorem dc_len : (("len" : Str) == ("__classdict__" : Str)) = false := by decide
theorem nn_len : ("len" : Str) ≠ "__name__" := by decide
theorem dn_is_name : (("is_name" : Str) == ("__debug__" : Str)) = false := by decide
theorem dc_is_name : (("is_name" : Str) == ("__classdict__" : Str)) = false := by decide
theorem nn_is_name : ("is_name" : Str) ≠ "__name__" := by decide
theorem dn_tuple : (("tuple" : Str) == ("__debug__" : Str)) = false := by decide
theorem dc_tuple : (("tuple" : Str) == ("__classdict__" : Str)) = false := by decide
theorem nn_tuple : ("tuple" : Str) ≠ "__name__" := by decide
theorem dn__law_script : (("_law_script" : Str) == ("__debug__" : Str)) = false := by decide
theorem dc__law_script : (("_law_script" : Str) == ("__classdict__" : Str)) = false := by decide
theorem nn__law_script : ("_law_script" : Str) ≠ "__name__" := by decide
theorem dn__law_k : (("_law_k" : Str) == ("__debug__" : Str)) = false := by decide
theorem dc__law_k : (("_law_k" : Str) == ("__classdict__" : Str)) = false := by decide
theorem nn__law_k : ("_law_k" : Str) ≠ "__name__" := by decide
theorem dn__law_number : (("_law_number" : Str) == ("__debug__" : Str)) = false := by decide
theorem dc__law_number : (("_law_number" : Str) == ("__classdict__" : Str)) = false := by decide
theorem nn__law_number : ("_law_number" : Str) ≠ "__name__" := by decide
theorem dn__law_many : (("_law_many" : Str) == ("__debug__" : Str)) = false := by decide
theorem dc__law_many : (("_law_many" : Str) == ("__classdict__" : Str)) = false := by decide
theorem nn__law_many : ("_law_many" : Str) ≠ "__name__" := by decide
theorem dn__law_cell_here : (("_law_cell_here" : Str) == ("__debug__" : Str)) = false := by decide
theorem dc__law_cell_here : (("_law_cell_here" : Str) == ("__classdict__" : Str)) = false := by decide
theorem nn__law_cell_here : ("_law_cell_here" : Str) ≠ "__name__" := by decide
theorem dn__law_letters : (("_law_letters" : Str) == ("__debug__" : Str)) = false := by decide
theorem dc__law_letters : (("_law_letters" : Str) == ("__classdict__" : Str)) = false := by decide
theorem nn__law_letters : ("_law_letters" : Str) ≠ "__name__" := by decide
theorem dn__law_base : (("_law_base" : Str) == ("__debug__" : Str)) = false := by decide
theorem dc__law_base : (("_law_base" : Str) == ("__classdict__" : Str)) = false := by decide
theorem nn__law_base : ("_law_base" : Str) ≠ "__name__" := by decide
theorem dn__law_size : (("_law_size" : Str) == ("__debug__" : Str)) = false := by decide
theorem dc__law_size : (("_law_size" : Str) == ("__classdict__" : Str)) = false := by decide
theorem nn__law_size : ("_law_size" : Str) ≠ "__name__" := by decide
theorem dn__law_at : (("_law_at" : Str) == ("__debug__" : Str)) = false := by decide
theorem dc__law_at : (("_law_at" : Str) == ("__classdict__" : Str)) = false := by decide
theorem nn__law_at : ("_law_at" : Str) ≠ "__name__" := by decide
theorem dn__law_words_here : (("_law_words_here" : Str) == ("__debug__" : Str)) = false := by decide
theorem dc__law_words_here : (("_law_words_here" : Str) == ("__classdict__" : Str)) = false := by decide
theorem nn__law_words_here : ("_law_words_here" : Str) ≠ "__name__" := by decide
theorem dn_range : (("range" : Str) == ("__debug__" : Str)) = false := by decide
theorem dc_range : (("range" : Str) == ("__classdict__" : Str)) = false := by decide
theorem nn_range : ("range" : Str) ≠ "__name__" := by decide
theorem dn__law_word : (("_law_word" : Str) == ("__debug__" : Str)) = false := by decide
theorem dc__law_word : (("_law_word" : Str) == ("__classdict__" : Str)) = false := by decide
theorem nn__law_word : ("_law_word" : Str) ≠ "__name__" := by decide
theorem dn__law_j : (("_law_j" : Str) == ("__debug__" : Str)) = false := by decide
theorem dc__law_j : (("_law_j" : Str) == ("__classdict__" : Str)) = false := by decide
theorem nn__law_j : ("_law_j" : Str) ≠ "__name__" := by decide
theorem dn_int : (("int" : Str) == ("__debug__" : Str)) = false := by decide
theorem dc_int : (("int" : Str) == ("__classdict__" : Str)) = false := by decide
theorem nn_int : ("int" : Str) ≠ "__name__" := by decide
theorem dn__law_step : (("_law_step" : Str) == ("__debug__" : Str)) = false := by decide
theorem dc__law_step : (("_law_step" : Str) == ("__classdict__" : Str)) = false := by decide
theorem nn__law_step : ("_law_step" : Str) ≠ "__name__" := by decide
theorem dn__law_shift : (("_law_shift" : Str) == ("__debug__" : Str)) = false := by decide
theorem dc__law_shift : (("_law_shift" : Str) == ("__classdict__" : Str)) = false := by decide
theorem nn__law_shift : ("_law_shift" : Str) ≠ "__name__" := by decide
theorem dn__law_kinds_here : (("_law_kinds_here" : Str) == ("__debug__" : Str)) = false := by decide
theorem dc__law_kinds_here : (("_law_kinds_here" : Str) == ("__classdict__" : Str)) = false := by decide
theorem nn__law_kinds_here : ("_law_kinds_here" : Str) ≠ "__name__" := by decide
theorem dn__law_place : (("_law_place" : Str) == ("__debug__" : Str)) = false := by decide
theorem dc__law_place : (("_law_place" : Str) == ("__classdict__" : Str)) = false := by decide
theorem nn__law_place : ("_law_place" : Str) ≠ "__name__" := by decide
theorem dn__law_way : (("_law_way" : Str) == ("__debug__" : Str)) = false := by decide
theorem dc__law_way : (("_law_way" : Str) == ("__classdict__" : Str)) = false := by decide
theorem nn__law_way : ("_law_way" : Str) ≠ "__name__" := by decide
theorem dn__law_name : (("_law_name" : Str) == ("__debug__" : Str)) = false := by decide
theorem dc__law_name : (("_law_name" : Str) == ("__classdict__" : Str)) = false := by decide
theorem nn__law_name : ("_law_name" : Str) ≠ "__name__" := by decide
theorem dn__law_some : (("_law_some" : Str) == ("__debug__" : Str)) = false := by decide
theorem dc__law_some : (("_law_some" : Str) == ("__classdict__" : Str)) = false := by decide
theorem nn__law_some : ("_law_some" : Str) ≠ "__name__" := by decide
theorem dn__law_one : (("_law_one" : Str) == ("__debug__" : Str)) = false := by decide
theorem dc__law_one : (("_law_one" : Str) == ("__classdict__" : Str)) = false := by decide
theorem nn__law_one : ("_law_one" : Str) ≠ "__name__" := by decide
theorem dn__law_mix : (("_law_mix" : Str) == ("__debug__" : Str)) = false := by decide
theorem dc__law_mix : (("_law_mix" : Str) == ("__classdict__" : Str)) = false := by decide
theorem nn__law_mix : ("_law_mix" : Str) ≠ "__name__" := by decide
theorem dn__law_deep : (("_law_deep" : Str) == ("__debug__" : Str)) = false := by decide
theorem dc__law_deep : (("_law_deep" : Str) == ("__classdict__" : Str)) = false := by decide
theorem nn__law_deep : ("_law_deep" : Str) ≠ "__name__" := by decide
theorem dn__law_other : (("_law_other" : Str) == ("__debug__" : Str)) = false := by decide
theorem dc__law_other : (("_law_other" : Str) == ("__classdict__" : Str)) = false := by decide
theorem nn__law_other : ("_law_other" : Str) ≠ "__name__" := by decide
theorem dn__law_note : (("_law_note" : Str) == ("__debug__" : Str)) = false := by decide
theorem dc__law_note : (("_law_note" : Str) == ("__classdict__" : Str)) = false := by decide
theorem nn__law_note : ("_law_note" : Str) ≠ "__name__" := by decide
theorem dn__law_plain : (("_law_plain" : Str) == ("__debug__" : Str)) = false := by decide
theorem dc__law_plain : (("_law_plain" : Str) == ("__classdict__" : Str)) = false := by decide
theorem nn__law_plain : ("_law_plain" : Str) ≠ "__name__" := by decide
theorem dn_self : (("self" : Str) == ("__debug__" : Str)) = false := by decide
theorem dc_self : (("self" : Str) == ("__classdict__" : Str)) = false := by decide
theorem nn_self : ("self" : Str) ≠ "__name__" := by decide
theorem dn_stuff : (("stuff" : Str) == ("__debug__" : Str)) = false := by decide
theorem dc_stuff : (("stuff" : Str) == ("__classdict__" : Str)) = false := by decide
theorem nn_stuff : ("stuff" : Str) ≠ "__name__" := by decide
theorem dn_use : (("use" : Str) == ("__debug__" : Str)) = false := by decide
theorem dc_use : (("use" : Str) == ("__classdict__" : Str)) = false := by decide
theorem nn_use : ("use" : Str) ≠ "__name__" := by decide
theorem dn_one : (("one" : Str) == ("__debug__" : Str)) = false := by decide
theorem dc_one : (("one" : Str) == ("__classdict__" : Str)) = false := by decide
theorem nn_one : ("one" : Str) ≠ "__name__" := by decide
theorem dn_other : (("other" : Str) == ("__debug__" : Str)) = false := by decide
theorem dc_other : (("other" : Str) == ("__classdict__" : Str)) = false := by decide
theorem nn_other : ("other" : Str) ≠ "__name__" := by decide
theorem dn_word : (("word" : Str) == ("__debug__" : Str)) = false := by decide
theorem dc_word : (("word" : Str) == ("__classdict__" : Str)) = false := by decide
theorem nn_word : ("word" : Str) ≠ "__name__" := by decide
theorem dn_name : (("name" : Str) == ("__debug__" : Str)) = false := by decide
theorem dc_name : (("name" : Str) == ("__classdict__" : Str)) = false := by decide
theorem nn_name : ("name" : Str) ≠ "__name__" := by decide
theorem dn_NoNote : (("NoNote" : Str) == ("__debug__" : Str)) = false := by decide
theorem dc_NoNote : (("NoNote" : Str) == ("__classdict__" : Str)) = false := by decide
theorem nn_NoNote : ("NoNote" : Str) ≠ "__name__" := by decide
theorem dn_Made : (("Made" : Str) == ("__debug__" : Str)) = false := by decide
theorem dc_Made : (("Made" : Str) == ("__classdict__" : Str)) = false := by decide
theorem nn_Made : ("Made" : Str) ≠ "__name__" := by decide
theorem dn_Used : (("Used" : Str) == ("__debug__" : Str)) = false := by decide
theorem dc_Used : (("Used" : Str) == ("__classdict__" : Str)) = false := by decide
theorem nn_Used : ("Used" : Str) ≠ "__name__" := by decide
theorem dn_Chief : (("Chief" : Str) == ("__debug__" : Str)) = false := by decide
theorem dc_Chief : (("Chief" : Str) == ("__classdict__" : Str)) = false := by decide
theorem nn_Chief : ("Chief" : Str) ≠ "__name__" := by decide
theorem dn_But : (("But" : Str) == ("__debug__" : Str)) = false := by decide
theorem dc_But : (("But" : Str) == ("__classdict__" : Str)) = false := by decide
theorem nn_But : ("But" : Str) ≠ "__name__" := by decide
theorem dn_Both : (("Both" : Str) == ("__debug__" : Str)) = false := by decide
theorem dc_Both : (("Both" : Str) == ("__classdict__" : Str)) = false := by decide
theorem nn_Both : ("Both" : Str) ≠ "__name__" := by decide
theorem dn_Either : (("Either" : Str) == ("__debug__" : Str)) = false := by decide
theorem dc_Either : (("Either" : Str) == ("__classdict__" : Str)) = false := by decide
theorem nn_Either : ("Either" : Str) ≠ "__name__" := by decide
theorem dn_told : (("told" : Str) == ("__debug__" : Str)) = false := by decide
theorem dc_told : (("told" : Str) == ("__classdict__" : Str)) = false := by decide
theorem nn_told : ("told" : Str) ≠ "__name__" := by decide
theorem dn_Anything : (("Anything" : Str) == ("__debug__" : Str)) = false := by decide
theorem dc_Anything : (("Anything" : Str) == ("__classdict__" : Str)) = false := by decide
theorem nn_Anything : ("Anything" : Str) ≠ "__name__" := by decide
theorem dn_note_of_name : (("note_of_name" : Str) == ("__debug__" : Str)) = false := by decide
theorem dc_note_of_name : (("note_of_name" : Str) == ("__classdict__" : Str)) = false := by decide
theorem nn_note_of_name : ("note_of_name" : Str) ≠ "__name__" := by decide
theorem dn_is_kind : (("is_kind" : Str) == ("__debug__" : Str)) = false := by decide
theorem dc_is_kind : (("is_kind" : Str) == ("__classdict__" : Str)) = false := by decide
theorem nn_is_kind : ("is_kind" : Str) ≠ "__name__" := by decide
theorem dn_Over : (("Over" : Str) == ("__debug__" : Str)) = false := by decide
theorem dc_Over : (("Over" : Str) == ("__classdict__" : Str)) = false := by decide
theorem nn_Over : ("Over" : Str) ≠ "__name__" := by decide
theorem dn_left : (("left" : Str) == ("__debug__" : Str)) = false := by decide
theorem dc_left : (("left" : Str) == ("__classdict__" : Str)) = false := by decide
theorem nn_left : ("left" : Str) ≠ "__name__" := by decide
theorem dn_note_of_one : (("note_of_one" : Str) == ("__debug__" : Str)) = false := by decide
theorem dc_note_of_one : (("note_of_one" : Str) == ("__classdict__" : Str)) = false := by decide
theorem nn_note_of_one : ("note_of_one" : Str) ≠ "__name__" := by decide
theorem dn_note_within : (("note_within" : Str) == ("__debug__" : Str)) = false := by decide
theorem dc_note_within : (("note_within" : Str) == ("__classdict__" : Str)) = false := by decide
theorem nn_note_within : ("note_within" : Str) ≠ "__name__" := by decide
theorem dn_note_of_notes : (("note_of_notes" : Str) == ("__debug__" : Str)) = false := by decide
theorem dc_note_of_notes : (("note_of_notes" : Str) == ("__classdict__" : Str)) = false := by decide
theorem nn_note_of_notes : ("note_of_notes" : Str) ≠ "__name__" := by decide
theorem dn_kinds : (("kinds" : Str) == ("__debug__" : Str)) = false := by decide
theorem dc_kinds : (("kinds" : Str) == ("__classdict__" : Str)) = false := by decide
theorem nn_kinds : ("kinds" : Str) ≠ "__name__" := by decide
theorem dn_look : (("look" : Str) == ("__debug__" : Str)) = false := by decide
theorem dc_look : (("look" : Str) == ("__classdict__" : Str)) = false := by decide
theorem nn_look : ("look" : Str) ≠ "__name__" := by decide
theorem dn_place : (("place" : Str) == ("__debug__" : Str)) = false := by decide
theorem dc_place : (("place" : Str) == ("__classdict__" : Str)) = false := by decide
theorem nn_place : ("place" : Str) ≠ "__name__" := by decide
theorem dn_kind : (("kind" : Str) == ("__debug__" : Str)) = false := by decide
theorem dc_kind : (("kind" : Str) == ("__classdict__" : Str)) = false := by decide
theorem nn_kind : ("kind" : Str) ≠ "__name__" := by decide
theorem dn_enumerate : (("enumerate" : Str) == ("__debug__" : Str)) = false := by decide
theorem dc_enumerate : (("enumerate" : Str) == ("__classdict__" : Str)) = false := by decide
theorem nn_enumerate : ("enumerate" : Str) ≠ "__name__" := by decide
theorem dn_greatest : (("greatest" : Str) == ("__debug__" : Str)) = false := by decide
theorem dc_greatest : (("greatest" : Str) == ("__classdict__" : Str)) = false := by decide
theorem nn_greatest : ("greatest" : Str) ≠ "__name__" := by decide
theorem dn_max : (("max" : Str) == ("__debug__" : Str)) = false := by decide
theorem dc_max : (("max" : Str) == ("__classdict__" : Str)) = false := by decide
theorem nn_max : ("max" : Str) ≠ "__name__" := by decide
theorem dn_number_in : (("number_in" : Str) == ("__debug__" : Str)) = false := by decide
theorem dc_number_in : (("number_in" : Str) == ("__classdict__" : Str)) = false := by decide
theorem nn_number_in : ("number_in" : Str) ≠ "__name__" := by decide
theorem dn_places : (("places" : Str) == ("__debug__" : Str)) = false := by decide
theorem dc_places : (("places" : Str) == ("__classdict__" : Str)) = false := by decide
theorem nn_places : ("places" : Str) ≠ "__name__" := by decide
theorem dn_place_reason : (("place_reason" : Str) == ("__debug__" : Str)) = false := by decide
theorem dc_place_reason : (("place_reason" : Str) == ("__classdict__" : Str)) = false := by decide
theorem nn_place_reason : ("place_reason" : Str) ≠ "__name__" := by decide
theorem dn_made_places : (("made_places" : Str) == ("__debug__" : Str)) = false := by decide
theorem dc_made_places : (("made_places" : Str) == ("__classdict__" : Str)) = false := by decide
theorem nn_made_places : ("made_places" : Str) ≠ "__name__" := by decide
theorem dn_used_places : (("used_places" : Str) == ("__debug__" : Str)) = false := by decide
theorem dc_used_places : (("used_places" : Str) == ("__classdict__" : Str)) = false := by decide
theorem nn_used_places : ("used_places" : Str) ≠ "__name__" := by decide
theorem dn_chief_places : (("chief_places" : Str) == ("__debug__" : Str)) = false := by decide
theorem dc_chief_places : (("chief_places" : Str) == ("__classdict__" : Str)) = false := by decide
theorem nn_chief_places : ("chief_places" : Str) ≠ "__name__" := by decide
theorem dn_is_over : (("is_over" : Str) == ("__debug__" : Str)) = false := by decide
theorem dc_is_over : (("is_over" : Str) == ("__classdict__" : Str)) = false := by decide
theorem nn_is_over : ("is_over" : Str) ≠ "__name__" := by decide
theorem dn_first : (("first" : Str) == ("__debug__" : Str)) = false := by decide
theorem dc_first : (("first" : Str) == ("__classdict__" : Str)) = false := by decide
theorem nn_first : ("first" : Str) ≠ "__name__" := by decide
theorem dn_second : (("second" : Str) == ("__debug__" : Str)) = false := by decide
theorem dc_second : (("second" : Str) == ("__classdict__" : Str)) = false := by decide
theorem nn_second : ("second" : Str) ≠ "__name__" := by decide
theorem dn__law_weights : (("_law_weights" : Str) == ("__debug__" : Str)) = false := by decide
theorem dc__law_weights : (("_law_weights" : Str) == ("__classdict__" : Str)) = false := by decide
theorem nn__law_weights : ("_law_weights" : Str) ≠ "__name__" := by decide
theorem dn__law_weight : (("_law_weight" : Str) == ("__debug__" : Str)) = false := by decide
theorem dc__law_weight : (("_law_weight" : Str) == ("__classdict__" : Str)) = false := by decide
theorem nn__law_weight : ("_law_weight" : Str) ≠ "__name__" := by decide
theorem dn_set : (("set" : Str) == ("__debug__" : Str)) = false := by decide
theorem dc_set : (("set" : Str) == ("__classdict__" : Str)) = false := by decide
theorem nn_set : ("set" : Str) ≠ "__name__" := by decide
theorem dn__law_w : (("_law_w" : Str) == ("__debug__" : Str)) = false := by decide
theorem dc__law_w : (("_law_w" : Str) == ("__classdict__" : Str)) = false := by decide
theorem nn__law_w : ("_law_w" : Str) ≠ "__name__" := by decide
theorem dn__law_look_here : (("_law_look_here" : Str) == ("__debug__" : Str)) = false := by decide
theorem dc__law_look_here : (("_law_look_here" : Str) == ("__classdict__" : Str)) = false := by decide
theorem nn__law_look_here : ("_law_look_here" : Str) ≠ "__name__" := by decide
theorem dn__law_kind : (("_law_kind" : Str) == ("__debug__" : Str)) = false := by decide
theorem dc__law_kind : (("_law_kind" : Str) == ("__classdict__" : Str)) = false := by decide
theorem nn__law_kind : ("_law_kind" : Str) ≠ "__name__" := by decide
theorem dn__law_told : (("_law_told" : Str) == ("__debug__" : Str)) = false := by decide
theorem dc__law_told : (("_law_told" : Str) == ("__classdict__" : Str)) = false := by decide
theorem nn__law_told : ("_law_told" : Str) ≠ "__name__" := by decide
theorem dn__law_least : (("_law_least" : Str) == ("__debug__" : Str)) = false := by decide
theorem dc__law_least : (("_law_least" : Str) == ("__classdict__" : Str)) = false := by decide
theorem nn__law_least : ("_law_least" : Str) ≠ "__name__" := by decide
theorem dn__law_weighs : (("_law_weighs" : Str) == ("__debug__" : Str)) = false := by decide
theorem dc__law_weighs : (("_law_weighs" : Str) == ("__classdict__" : Str)) = false := by decide
theorem nn__law_weighs : ("_law_weighs" : Str) ≠ "__name__" := by decide
theorem dn__law_shows : (("_law_shows" : Str) == ("__debug__" : Str)) = false := by decide
theorem dc__law_shows : (("_law_shows" : Str) == ("__classdict__" : Str)) = false := by decide
theorem nn__law_shows : ("_law_shows" : Str) ≠ "__name__" := by decide
theorem dn__law_plain_claims : (("_law_plain_claims" : Str) == ("__debug__" : Str)) = false := by decide
theorem dc__law_plain_claims : (("_law_plain_claims" : Str) == ("__classdict__" : Str)) = false := by decide
theorem nn__law_plain_claims : ("_law_plain_claims" : Str) ≠ "__name__" := by decide
theorem dn__law_claims : (("_law_claims" : Str) == ("__debug__" : Str)) = false := by decide
theorem dc__law_claims : (("_law_claims" : Str) == ("__classdict__" : Str)) = false := by decide
theorem nn__law_claims : ("_law_claims" : Str) ≠ "__name__" := by decide
theorem dn_note_of : (("note_of" : Str) == ("__debug__" : Str)) = false := by decide
theorem dc_note_of : (("note_of" : Str) == ("__classdict__" : Str)) = false := by decide
theorem nn_note_of : ("note_of" : Str) ≠ "__name__" := by decide
theorem dn__law_made : (("_law_made" : Str) == ("__debug__" : Str)) = false := by decide
theorem dc__law_made : (("_law_made" : Str) == ("__classdict__" : Str)) = false := by decide
theorem nn__law_made : ("_law_made" : Str) ≠ "__name__" := by decide
theorem dn__law_note_here : (("_law_note_here" : Str) == ("__debug__" : Str)) = false := by decide
theorem dc__law_note_here : (("_law_note_here" : Str) == ("__classdict__" : Str)) = false := by decide
theorem nn__law_note_here : ("_law_note_here" : Str) ≠ "__name__" := by decide
theorem dn__law_found : (("_law_found" : Str) == ("__debug__" : Str)) = false := by decide
theorem dc__law_found : (("_law_found" : Str) == ("__classdict__" : Str)) = false := by decide
theorem nn__law_found : ("_law_found" : Str) ≠ "__name__" := by decide
theorem dn_list : (("list" : Str) == ("__debug__" : Str)) = false := by decide
theorem dc_list : (("list" : Str) == ("__classdict__" : Str)) = false := by decide
theorem nn_list : ("list" : Str) ≠ "__name__" := by decide
theorem dn_bool : (("bool" : Str) == ("__debug__" : Str)) = false := by decide
theorem dc_bool : (("bool" : Str) == ("__classdict__" : Str)) = false := by decide
theorem nn_bool : ("bool" : Str) ≠ "__name__" := by decide
theorem dn__law_words : (("_law_words" : Str) == ("__debug__" : Str)) = false := by decide
theorem dc__law_words : (("_law_words" : Str) == ("__classdict__" : Str)) = false := by decide
theorem nn__law_words : ("_law_words" : Str) ≠ "__name__" := by decide
theorem dn__law_kinds : (("_law_kinds" : Str) == ("__debug__" : Str)) = false := by decide
theorem dc__law_kinds : (("_law_kinds" : Str) == ("__classdict__" : Str)) = false := by decide
theorem nn__law_kinds : ("_law_kinds" : Str) ≠ "__name__" := by decide
theorem dn__law_made_here : (("_law_made_here" : Str) == ("__debug__" : Str)) = false := by decide
theorem dc__law_made_here : (("_law_made_here" : Str) == ("__classdict__" : Str)) = false := by decide
theorem nn__law_made_here : ("_law_made_here" : Str) ≠ "__name__" := by decide
theorem dn__law_read : (("_law_read" : Str) == ("__debug__" : Str)) = false := by decide
theorem dc__law_read : (("_law_read" : Str) == ("__classdict__" : Str)) = false := by decide
theorem nn__law_read : ("_law_read" : Str) ≠ "__name__" := by decide
theorem dn__law_cell : (("_law_cell" : Str) == ("__debug__" : Str)) = false := by decide
theorem dc__law_cell : (("_law_cell" : Str) == ("__classdict__" : Str)) = false := by decide
theorem nn__law_cell : ("_law_cell" : Str) ≠ "__name__" := by decide
theorem dn__law_back : (("_law_back" : Str) == ("__debug__" : Str)) = false := by decide
theorem dc__law_back : (("_law_back" : Str) == ("__classdict__" : Str)) = false := by decide
theorem nn__law_back : ("_law_back" : Str) ≠ "__name__" := by decide
theorem dn_min : (("min" : Str) == ("__debug__" : Str)) = false := by decide
theorem dc_min : (("min" : Str) == ("__classdict__" : Str)) = false := by decide
theorem nn_min : ("min" : Str) ≠ "__name__" := by decide
theorem dn__law_look : (("_law_look" : Str) == ("__debug__" : Str)) = false := by decide
theorem dc__law_look : (("_law_look" : Str) == ("__classdict__" : Str)) = false := by decide
theorem nn__law_look : ("_law_look" : Str) ≠ "__name__" := by decide
theorem dn_Note : (("Note" : Str) == ("__debug__" : Str)) = false := by decide
theorem dc_Note : (("Note" : Str) == ("__classdict__" : Str)) = false := by decide
theorem nn_Note : ("Note" : Str) ≠ "__name__" := by decide
theorem dn__law_good : (("_law_good" : Str) == ("__debug__" : Str)) = false := by decide
theorem dc__law_good : (("_law_good" : Str) == ("__classdict__" : Str)) = false := by decide
theorem nn__law_good : ("_law_good" : Str) ≠ "__name__" := by decide
theorem dn_reversed : (("reversed" : Str) == ("__debug__" : Str)) = false := by decide
theorem dc_reversed : (("reversed" : Str) == ("__classdict__" : Str)) = false := by decide
theorem nn_reversed : ("reversed" : Str) ≠ "__name__" := by decide
abbrev s_is_name : Stmt := top 4
theorem sc_is_name : FnScope ["thing"] ["thing"] (defScope s_is_name) := ⟨rfl, rfl, rfl, by decide +kernel, rfl, by decide +kernel, by decide +kernel⟩
theorem v_is_name_0 : Vis (defScope s_is_name) "thing" := by first | exact Or.inl rfl | exact Or.inr (Or.inl rfl) | exact Or.inr (Or.inr rfl)
theorem l_is_name_0 : Loc (defScope s_is_name) "thing" := by first | exact Or.inl rfl | exact Or.inr rfl
theorem g_is_name_isinstance : (defScope s_is_name).names.lookup ("isinstance" : Str) = some .globalImplicit := by rfl
theorem g_is_name_str : (defScope s_is_name).names.lookup ("str" : Str) = some .globalImplicit := by rfl
theorem g_is_name_len : (defScope s_is_name).names.lookup ("len" : Str) = some .globalImplicit := by rfl
theorem g_is_name_all : (defScope s_is_name).names.lookup ("all" : Str) = some .globalImplicit := by rfl
abbrev s_is_kind : Stmt := top 6
theorem sc_is_kind : FnScope ["thing"] ["thing"] (defScope s_is_kind) := ⟨rfl, rfl, rfl, by decide +kernel, rfl, by decide +kernel, by decide +kernel⟩
theorem v_is_kind_0 : Vis (defScope s_is_kind) "thing" := by first | exact Or.inl rfl | exact Or.inr (Or.inl rfl) | exact Or.inr (Or.inr rfl)
theorem l_is_kind_0 : Loc (defScope s_is_kind) "thing" := by first | exact Or.inl rfl | exact Or.inr rfl
theorem g_is_kind_isinstance : (defScope s_is_kind).names.lookup ("isinstance" : Str) = some .globalImplicit := by rfl
theorem g_is_kind_tuple : (defScope s_is_kind).names.lookup ("tuple" : Str) = some .globalImplicit := by rfl
theorem g_is_kind_len : (defScope s_is_kind).names.lookup ("len" : Str) = some .globalImplicit := by rfl
theorem g_is_kind_is_name : (defScope s_is_kind).names.lookup ("is_name" : Str) = some .globalImplicit := by rfl
abbrev s_law_cell : Stmt := top 30
theorem sc_law_cell : FnScope ["_law_script", "_law_k", "_law_number"] ["_law_script", "_law_k"] (defScope s_law_cell) := ⟨rfl, rfl, rfl, by decide +kernel, rfl, by decide +kernel, by decide +kernel⟩
theorem v_law_cell_0 : Vis (defScope s_law_cell) "_law_script" := by first | exact Or.inl rfl | exact Or.inr (Or.inl rfl) | exact Or.inr (Or.inr rfl)
theorem l_law_cell_0 : Loc (defScope s_law_cell) "_law_script" := by first | exact Or.inl rfl | exact Or.inr rfl
theorem v_law_cell_1 : Vis (defScope s_law_cell) "_law_k" := by first | exact Or.inl rfl | exact Or.inr (Or.inl rfl) | exact Or.inr (Or.inr rfl)
theorem l_law_cell_1 : Loc (defScope s_law_cell) "_law_k" := by first | exact Or.inl rfl | exact Or.inr rfl
theorem v_law_cell_2 : Vis (defScope s_law_cell) "_law_number" := by first | exact Or.inl rfl | exact Or.inr (Or.inl rfl) | exact Or.inr (Or.inr rfl)
theorem l_law_cell_2 : Loc (defScope s_law_cell) "_law_number" := by first | exact Or.inl rfl | exact Or.inr rfl
theorem g_law_cell_len : (defScope s_law_cell).names.lookup ("len" : Str) = some .globalImplicit := by rfl
abbrev s_law_mix : Stmt := top 31
theorem sc_law_mix : FnScope ["_law_number", "_law_k", "_law_many"] ["_law_number", "_law_k", "_law_many"] (defScope s_law_mix) := ⟨rfl, rfl, rfl, by decide +kernel, rfl, by decide +kernel, by decide +kernel⟩
theorem v_law_mix_0 : Vis (defScope s_law_mix) "_law_number" := by first | exact Or.inl rfl | exact Or.inr (Or.inl rfl) | exact Or.inr (Or.inr rfl)
theorem l_law_mix_0 : Loc (defScope s_law_mix) "_law_number" := by first | exact Or.inl rfl | exact Or.inr rfl
theorem v_law_mix_1 : Vis (defScope s_law_mix) "_law_k" := by first | exact Or.inl rfl | exact Or.inr (Or.inl rfl) | exact Or.inr (Or.inr rfl)
theorem l_law_mix_1 : Loc (defScope s_law_mix) "_law_k" := by first | exact Or.inl rfl | exact Or.inr rfl
theorem v_law_mix_2 : Vis (defScope s_law_mix) "_law_many" := by first | exact Or.inl rfl | exact Or.inr (Or.inl rfl) | exact Or.inr (Or.inr rfl)
theorem l_law_mix_2 : Loc (defScope s_law_mix) "_law_many" := by first | exact Or.inl rfl | exact Or.inr rfl
abbrev s_law_words : Stmt := top 32
theorem sc_law_words : FnScope ["_law_cell_here", "_law_many", "_law_letters", "_law_base", "_law_size", "_law_at", "_law_words_here", "_law_k", "_law_word", "_law_j"] ["_law_cell_here", "_law_many"] (defScope s_law_words) := ⟨rfl, rfl, rfl, by decide +kernel, rfl, by decide +kernel, by decide +kernel⟩
theorem v_law_words_0 : Vis (defScope s_law_words) "_law_cell_here" := by first | exact Or.inl rfl | exact Or.inr (Or.inl rfl) | exact Or.inr (Or.inr rfl)
theorem l_law_words_0 : Loc (defScope s_law_words) "_law_cell_here" := by first | exact Or.inl rfl | exact Or.inr rfl
theorem v_law_words_1 : Vis (defScope s_law_words) "_law_many" := by first | exact Or.inl rfl | exact Or.inr (Or.inl rfl) | exact Or.inr (Or.inr rfl)
theorem l_law_words_1 : Loc (defScope s_law_words) "_law_many" := by first | exact Or.inl rfl | exact Or.inr rfl
theorem v_law_words_2 : Vis (defScope s_law_words) "_law_letters" := by first | exact Or.inl rfl | exact Or.inr (Or.inl rfl) | exact Or.inr (Or.inr rfl)
theorem l_law_words_2 : Loc (defScope s_law_words) "_law_letters" := by first | exact Or.inl rfl | exact Or.inr rfl
theorem v_law_words_3 : Vis (defScope s_law_words) "_law_base" := by first | exact Or.inl rfl | exact Or.inr (Or.inl rfl) | exact Or.inr (Or.inr rfl)
theorem l_law_words_3 : Loc (defScope s_law_words) "_law_base" := by first | exact Or.inl rfl | exact Or.inr rfl
theorem v_law_words_4 : Vis (defScope s_law_words) "_law_size" := by first | exact Or.inl rfl | exact Or.inr (Or.inl rfl) | exact Or.inr (Or.inr rfl)
theorem l_law_words_4 : Loc (defScope s_law_words) "_law_size" := by first | exact Or.inl rfl | exact Or.inr rfl
theorem v_law_words_5 : Vis (defScope s_law_words) "_law_at" := by first | exact Or.inl rfl | exact Or.inr (Or.inl rfl) | exact Or.inr (Or.inr rfl)
theorem l_law_words_5 : Loc (defScope s_law_words) "_law_at" := by first | exact Or.inl rfl | exact Or.inr rfl
theorem v_law_words_6 : Vis (defScope s_law_words) "_law_words_here" := by first | exact Or.inl rfl | exact Or.inr (Or.inl rfl) | exact Or.inr (Or.inr rfl)
theorem l_law_words_6 : Loc (defScope s_law_words) "_law_words_here" := by first | exact Or.inl rfl | exact Or.inr rfl
theorem v_law_words_7 : Vis (defScope s_law_words) "_law_k" := by first | exact Or.inl rfl | exact Or.inr (Or.inl rfl) | exact Or.inr (Or.inr rfl)
theorem l_law_words_7 : Loc (defScope s_law_words) "_law_k" := by first | exact Or.inl rfl | exact Or.inr rfl
theorem v_law_words_8 : Vis (defScope s_law_words) "_law_word" := by first | exact Or.inl rfl | exact Or.inr (Or.inl rfl) | exact Or.inr (Or.inr rfl)
theorem l_law_words_8 : Loc (defScope s_law_words) "_law_word" := by first | exact Or.inl rfl | exact Or.inr rfl
theorem v_law_words_9 : Vis (defScope s_law_words) "_law_j" := by first | exact Or.inl rfl | exact Or.inr (Or.inl rfl) | exact Or.inr (Or.inr rfl)
theorem l_law_words_9 : Loc (defScope s_law_words) "_law_j" := by first | exact Or.inl rfl | exact Or.inr rfl
theorem g_law_words_range : (defScope s_law_words).names.lookup ("range" : Str) = some .globalImplicit := by rfl
theorem g_law_words_int : (defScope s_law_words).names.lookup ("int" : Str) = some .globalImplicit := by rfl
abbrev s_law_kinds : Stmt := top 33
theorem sc_law_kinds : FnScope ["_law_cell_here", "_law_words_here", "_law_many", "_law_step", "_law_shift", "_law_kinds_here", "_law_k", "_law_place"] ["_law_cell_here", "_law_words_here"] (defScope s_law_kinds) := ⟨rfl, rfl, rfl, by decide +kernel, rfl, by decide +kernel, by decide +kernel⟩
theorem v_law_kinds_0 : Vis (defScope s_law_kinds) "_law_cell_here" := by first | exact Or.inl rfl | exact Or.inr (Or.inl rfl) | exact Or.inr (Or.inr rfl)
theorem l_law_kinds_0 : Loc (defScope s_law_kinds) "_law_cell_here" := by first | exact Or.inl rfl | exact Or.inr rfl
theorem v_law_kinds_1 : Vis (defScope s_law_kinds) "_law_words_here" := by first | exact Or.inl rfl | exact Or.inr (Or.inl rfl) | exact Or.inr (Or.inr rfl)
theorem l_law_kinds_1 : Loc (defScope s_law_kinds) "_law_words_here" := by first | exact Or.inl rfl | exact Or.inr rfl
theorem v_law_kinds_2 : Vis (defScope s_law_kinds) "_law_many" := by first | exact Or.inl rfl | exact Or.inr (Or.inl rfl) | exact Or.inr (Or.inr rfl)
theorem l_law_kinds_2 : Loc (defScope s_law_kinds) "_law_many" := by first | exact Or.inl rfl | exact Or.inr rfl
theorem v_law_kinds_3 : Vis (defScope s_law_kinds) "_law_step" := by first | exact Or.inl rfl | exact Or.inr (Or.inl rfl) | exact Or.inr (Or.inr rfl)
theorem l_law_kinds_3 : Loc (defScope s_law_kinds) "_law_step" := by first | exact Or.inl rfl | exact Or.inr rfl
theorem v_law_kinds_4 : Vis (defScope s_law_kinds) "_law_shift" := by first | exact Or.inl rfl | exact Or.inr (Or.inl rfl) | exact Or.inr (Or.inr rfl)
theorem l_law_kinds_4 : Loc (defScope s_law_kinds) "_law_shift" := by first | exact Or.inl rfl | exact Or.inr rfl
theorem v_law_kinds_5 : Vis (defScope s_law_kinds) "_law_kinds_here" := by first | exact Or.inl rfl | exact Or.inr (Or.inl rfl) | exact Or.inr (Or.inr rfl)
theorem l_law_kinds_5 : Loc (defScope s_law_kinds) "_law_kinds_here" := by first | exact Or.inl rfl | exact Or.inr rfl
theorem v_law_kinds_6 : Vis (defScope s_law_kinds) "_law_k" := by first | exact Or.inl rfl | exact Or.inr (Or.inl rfl) | exact Or.inr (Or.inr rfl)
theorem l_law_kinds_6 : Loc (defScope s_law_kinds) "_law_k" := by first | exact Or.inl rfl | exact Or.inr rfl
theorem v_law_kinds_7 : Vis (defScope s_law_kinds) "_law_place" := by first | exact Or.inl rfl | exact Or.inr (Or.inl rfl) | exact Or.inr (Or.inr rfl)
theorem l_law_kinds_7 : Loc (defScope s_law_kinds) "_law_place" := by first | exact Or.inl rfl | exact Or.inr rfl
theorem g_law_kinds_range : (defScope s_law_kinds).names.lookup ("range" : Str) = some .globalImplicit := by rfl
abbrev s_law_plain : Stmt := top 35
theorem sc_law_plain : FnScope ["_law_number", "_law_kinds_here", "_law_words_here", "_law_way", "_law_name", "_law_some", "_law_one"] ["_law_number", "_law_kinds_here", "_law_words_here"] (defScope s_law_plain) := ⟨rfl, rfl, rfl, by decide +kernel, rfl, by decide +kernel, by decide +kernel⟩
theorem v_law_plain_0 : Vis (defScope s_law_plain) "_law_number" := by first | exact Or.inl rfl | exact Or.inr (Or.inl rfl) | exact Or.inr (Or.inr rfl)
theorem l_law_plain_0 : Loc (defScope s_law_plain) "_law_number" := by first | exact Or.inl rfl | exact Or.inr rfl
theorem v_law_plain_1 : Vis (defScope s_law_plain) "_law_kinds_here" := by first | exact Or.inl rfl | exact Or.inr (Or.inl rfl) | exact Or.inr (Or.inr rfl)
theorem l_law_plain_1 : Loc (defScope s_law_plain) "_law_kinds_here" := by first | exact Or.inl rfl | exact Or.inr rfl
theorem v_law_plain_2 : Vis (defScope s_law_plain) "_law_words_here" := by first | exact Or.inl rfl | exact Or.inr (Or.inl rfl) | exact Or.inr (Or.inr rfl)
theorem l_law_plain_2 : Loc (defScope s_law_plain) "_law_words_here" := by first | exact Or.inl rfl | exact Or.inr rfl
theorem v_law_plain_3 : Vis (defScope s_law_plain) "_law_way" := by first | exact Or.inl rfl | exact Or.inr (Or.inl rfl) | exact Or.inr (Or.inr rfl)
theorem l_law_plain_3 : Loc (defScope s_law_plain) "_law_way" := by first | exact Or.inl rfl | exact Or.inr rfl
theorem v_law_plain_4 : Vis (defScope s_law_plain) "_law_name" := by first | exact Or.inl rfl | exact Or.inr (Or.inl rfl) | exact Or.inr (Or.inr rfl)
theorem l_law_plain_4 : Loc (defScope s_law_plain) "_law_name" := by first | exact Or.inl rfl | exact Or.inr rfl
theorem v_law_plain_5 : Vis (defScope s_law_plain) "_law_some" := by first | exact Or.inl rfl | exact Or.inr (Or.inl rfl) | exact Or.inr (Or.inr rfl)
theorem l_law_plain_5 : Loc (defScope s_law_plain) "_law_some" := by first | exact Or.inl rfl | exact Or.inr rfl
theorem v_law_plain_6 : Vis (defScope s_law_plain) "_law_one" := by first | exact Or.inl rfl | exact Or.inr (Or.inl rfl) | exact Or.inr (Or.inr rfl)
theorem l_law_plain_6 : Loc (defScope s_law_plain) "_law_one" := by first | exact Or.inl rfl | exact Or.inr rfl
theorem g_law_plain__law_mix : (defScope s_law_plain).names.lookup ("_law_mix" : Str) = some .globalImplicit := by rfl
theorem g_law_plain_len : (defScope s_law_plain).names.lookup ("len" : Str) = some .globalImplicit := by rfl
abbrev s_law_note : Stmt := top 36
theorem sc_law_note : FnScope ["_law_number", "_law_deep", "_law_kinds_here", "_law_words_here", "_law_one", "_law_other"] ["_law_number", "_law_deep", "_law_kinds_here", "_law_words_here"] (defScope s_law_note) := ⟨rfl, rfl, rfl, by decide +kernel, rfl, by decide +kernel, by decide +kernel⟩
theorem v_law_note_0 : Vis (defScope s_law_note) "_law_number" := by first | exact Or.inl rfl | exact Or.inr (Or.inl rfl) | exact Or.inr (Or.inr rfl)
theorem l_law_note_0 : Loc (defScope s_law_note) "_law_number" := by first | exact Or.inl rfl | exact Or.inr rfl
theorem v_law_note_1 : Vis (defScope s_law_note) "_law_deep" := by first | exact Or.inl rfl | exact Or.inr (Or.inl rfl) | exact Or.inr (Or.inr rfl)
theorem l_law_note_1 : Loc (defScope s_law_note) "_law_deep" := by first | exact Or.inl rfl | exact Or.inr rfl
theorem v_law_note_2 : Vis (defScope s_law_note) "_law_kinds_here" := by first | exact Or.inl rfl | exact Or.inr (Or.inl rfl) | exact Or.inr (Or.inr rfl)
theorem l_law_note_2 : Loc (defScope s_law_note) "_law_kinds_here" := by first | exact Or.inl rfl | exact Or.inr rfl
theorem v_law_note_3 : Vis (defScope s_law_note) "_law_words_here" := by first | exact Or.inl rfl | exact Or.inr (Or.inl rfl) | exact Or.inr (Or.inr rfl)
theorem l_law_note_3 : Loc (defScope s_law_note) "_law_words_here" := by first | exact Or.inl rfl | exact Or.inr rfl
theorem v_law_note_4 : Vis (defScope s_law_note) "_law_one" := by first | exact Or.inl rfl | exact Or.inr (Or.inl rfl) | exact Or.inr (Or.inr rfl)
theorem l_law_note_4 : Loc (defScope s_law_note) "_law_one" := by first | exact Or.inl rfl | exact Or.inr rfl
theorem v_law_note_5 : Vis (defScope s_law_note) "_law_other" := by first | exact Or.inl rfl | exact Or.inr (Or.inl rfl) | exact Or.inr (Or.inr rfl)
theorem l_law_note_5 : Loc (defScope s_law_note) "_law_other" := by first | exact Or.inl rfl | exact Or.inr rfl
theorem g_law_note__law_mix : (defScope s_law_note).names.lookup ("_law_mix" : Str) = some .globalImplicit := by rfl
theorem g_law_note__law_plain : (defScope s_law_note).names.lookup ("_law_plain" : Str) = some .globalImplicit := by rfl
theorem g_law_note__law_note : (defScope s_law_note).names.lookup ("_law_note" : Str) = some .globalImplicit := by rfl
abbrev s_Made_init : Stmt := inner (top 16) 0
theorem sc_Made_init : FnScope ["self", "stuff"] ["self", "stuff"] (defScope s_Made_init) := ⟨rfl, rfl, rfl, by decide +kernel, rfl, by decide +kernel, by decide +kernel⟩
theorem v_Made_init_0 : Vis (defScope s_Made_init) "self" := by first | exact Or.inl rfl | exact Or.inr (Or.inl rfl) | exact Or.inr (Or.inr rfl)
theorem l_Made_init_0 : Loc (defScope s_Made_init) "self" := by first | exact Or.inl rfl | exact Or.inr rfl
theorem v_Made_init_1 : Vis (defScope s_Made_init) "stuff" := by first | exact Or.inl rfl | exact Or.inr (Or.inl rfl) | exact Or.inr (Or.inr rfl)
theorem l_Made_init_1 : Loc (defScope s_Made_init) "stuff" := by first | exact Or.inl rfl | exact Or.inr rfl
abbrev s_Used_init : Stmt := inner (top 17) 0
theorem sc_Used_init : FnScope ["self", "use"] ["self", "use"] (defScope s_Used_init) := ⟨rfl, rfl, rfl, by decide +kernel, rfl, by decide +kernel, by decide +kernel⟩
theorem v_Used_init_0 : Vis (defScope s_Used_init) "self" := by first | exact Or.inl rfl | exact Or.inr (Or.inl rfl) | exact Or.inr (Or.inr rfl)
theorem l_Used_init_0 : Loc (defScope s_Used_init) "self" := by first | exact Or.inl rfl | exact Or.inr rfl
theorem v_Used_init_1 : Vis (defScope s_Used_init) "use" := by first | exact Or.inl rfl | exact Or.inr (Or.inl rfl) | exact Or.inr (Or.inr rfl)
theorem l_Used_init_1 : Loc (defScope s_Used_init) "use" := by first | exact Or.inl rfl | exact Or.inr rfl
abbrev s_Chief_init : Stmt := inner (top 18) 0
theorem sc_Chief_init : FnScope ["self", "stuff"] ["self", "stuff"] (defScope s_Chief_init) := ⟨rfl, rfl, rfl, by decide +kernel, rfl, by decide +kernel, by decide +kernel⟩
theorem v_Chief_init_0 : Vis (defScope s_Chief_init) "self" := by first | exact Or.inl rfl | exact Or.inr (Or.inl rfl) | exact Or.inr (Or.inr rfl)
theorem l_Chief_init_0 : Loc (defScope s_Chief_init) "self" := by first | exact Or.inl rfl | exact Or.inr rfl
theorem v_Chief_init_1 : Vis (defScope s_Chief_init) "stuff" := by first | exact Or.inl rfl | exact Or.inr (Or.inl rfl) | exact Or.inr (Or.inr rfl)
theorem l_Chief_init_1 : Loc (defScope s_Chief_init) "stuff" := by first | exact Or.inl rfl | exact Or.inr rfl
abbrev s_Over_init : Stmt := inner (top 19) 0
theorem sc_Over_init : FnScope ["self", "one", "other"] ["self", "one", "other"] (defScope s_Over_init) := ⟨rfl, rfl, rfl, by decide +kernel, rfl, by decide +kernel, by decide +kernel⟩
theorem v_Over_init_0 : Vis (defScope s_Over_init) "self" := by first | exact Or.inl rfl | exact Or.inr (Or.inl rfl) | exact Or.inr (Or.inr rfl)
theorem l_Over_init_0 : Loc (defScope s_Over_init) "self" := by first | exact Or.inl rfl | exact Or.inr rfl
theorem v_Over_init_1 : Vis (defScope s_Over_init) "one" := by first | exact Or.inl rfl | exact Or.inr (Or.inl rfl) | exact Or.inr (Or.inr rfl)
theorem l_Over_init_1 : Loc (defScope s_Over_init) "one" := by first | exact Or.inl rfl | exact Or.inr rfl
theorem v_Over_init_2 : Vis (defScope s_Over_init) "other" := by first | exact Or.inl rfl | exact Or.inr (Or.inl rfl) | exact Or.inr (Or.inr rfl)
theorem l_Over_init_2 : Loc (defScope s_Over_init) "other" := by first | exact Or.inl rfl | exact Or.inr rfl
abbrev s_OfTwo_init : Stmt := inner (top 20) 0
theorem sc_OfTwo_init : FnScope ["self", "one", "other"] ["self", "one", "other"] (defScope s_OfTwo_init) := ⟨rfl, rfl, rfl, by decide +kernel, rfl, by decide +kernel, by decide +kernel⟩
theorem v_OfTwo_init_0 : Vis (defScope s_OfTwo_init) "self" := by first | exact Or.inl rfl | exact Or.inr (Or.inl rfl) | exact Or.inr (Or.inr rfl)
theorem l_OfTwo_init_0 : Loc (defScope s_OfTwo_init) "self" := by first | exact Or.inl rfl | exact Or.inr rfl
theorem v_OfTwo_init_1 : Vis (defScope s_OfTwo_init) "one" := by first | exact Or.inl rfl | exact Or.inr (Or.inl rfl) | exact Or.inr (Or.inr rfl)
theorem l_OfTwo_init_1 : Loc (defScope s_OfTwo_init) "one" := by first | exact Or.inl rfl | exact Or.inr rfl
theorem v_OfTwo_init_2 : Vis (defScope s_OfTwo_init) "other" := by first | exact Or.inl rfl | exact Or.inr (Or.inl rfl) | exact Or.inr (Or.inr rfl)
theorem l_OfTwo_init_2 : Loc (defScope s_OfTwo_init) "other" := by first | exact Or.inl rfl | exact Or.inr rfl
abbrev s_note_of_name : Stmt := top 24
theorem sc_note_of_name : FnScope ["word", "name"] ["word", "name"] (defScope s_note_of_name) := ⟨rfl, rfl, rfl, by decide +kernel, rfl, by decide +kernel, by decide +kernel⟩
theorem v_note_of_name_0 : Vis (defScope s_note_of_name) "word" := by first | exact Or.inl rfl | exact Or.inr (Or.inl rfl) | exact Or.inr (Or.inr rfl)
theorem l_note_of_name_0 : Loc (defScope s_note_of_name) "word" := by first | exact Or.inl rfl | exact Or.inr rfl
theorem v_note_of_name_1 : Vis (defScope s_note_of_name) "name" := by first | exact Or.inl rfl | exact Or.inr (Or.inl rfl) | exact Or.inr (Or.inr rfl)
theorem l_note_of_name_1 : Loc (defScope s_note_of_name) "name" := by first | exact Or.inl rfl | exact Or.inr rfl
theorem g_note_of_name_Made : (defScope s_note_of_name).names.lookup ("Made" : Str) = some .globalImplicit := by rfl
theorem g_note_of_name_Used : (defScope s_note_of_name).names.lookup ("Used" : Str) = some .globalImplicit := by rfl
theorem g_note_of_name_Chief : (defScope s_note_of_name).names.lookup ("Chief" : Str) = some .globalImplicit := by rfl
theorem g_note_of_name_NoNote : (defScope s_note_of_name).names.lookup ("NoNote" : Str) = some .globalImplicit := by rfl
abbrev s_note_of_notes : Stmt := top 25
theorem sc_note_of_notes : FnScope ["word", "one", "other"] ["word", "one", "other"] (defScope s_note_of_notes) := ⟨rfl, rfl, rfl, by decide +kernel, rfl, by decide +kernel, by decide +kernel⟩
theorem v_note_of_notes_0 : Vis (defScope s_note_of_notes) "word" := by first | exact Or.inl rfl | exact Or.inr (Or.inl rfl) | exact Or.inr (Or.inr rfl)
theorem l_note_of_notes_0 : Loc (defScope s_note_of_notes) "word" := by first | exact Or.inl rfl | exact Or.inr rfl
theorem v_note_of_notes_1 : Vis (defScope s_note_of_notes) "one" := by first | exact Or.inl rfl | exact Or.inr (Or.inl rfl) | exact Or.inr (Or.inr rfl)
theorem l_note_of_notes_1 : Loc (defScope s_note_of_notes) "one" := by first | exact Or.inl rfl | exact Or.inr rfl
theorem v_note_of_notes_2 : Vis (defScope s_note_of_notes) "other" := by first | exact Or.inl rfl | exact Or.inr (Or.inl rfl) | exact Or.inr (Or.inr rfl)
theorem l_note_of_notes_2 : Loc (defScope s_note_of_notes) "other" := by first | exact Or.inl rfl | exact Or.inr rfl
theorem g_note_of_notes_Both : (defScope s_note_of_notes).names.lookup ("Both" : Str) = some .globalImplicit := by rfl
theorem g_note_of_notes_Either : (defScope s_note_of_notes).names.lookup ("Either" : Str) = some .globalImplicit := by rfl
theorem g_note_of_notes_But : (defScope s_note_of_notes).names.lookup ("But" : Str) = some .globalImplicit := by rfl
abbrev s_note_of_one : Stmt := top 26
theorem sc_note_of_one : FnScope ["told"] ["told"] (defScope s_note_of_one) := ⟨rfl, rfl, rfl, by decide +kernel, rfl, by decide +kernel, by decide +kernel⟩
theorem v_note_of_one_0 : Vis (defScope s_note_of_one) "told" := by first | exact Or.inl rfl | exact Or.inr (Or.inl rfl) | exact Or.inr (Or.inr rfl)
theorem l_note_of_one_0 : Loc (defScope s_note_of_one) "told" := by first | exact Or.inl rfl | exact Or.inr rfl
theorem g_note_of_one_len : (defScope s_note_of_one).names.lookup ("len" : Str) = some .globalImplicit := by rfl
theorem g_note_of_one_Anything : (defScope s_note_of_one).names.lookup ("Anything" : Str) = some .globalImplicit := by rfl
theorem g_note_of_one_is_name : (defScope s_note_of_one).names.lookup ("is_name" : Str) = some .globalImplicit := by rfl
theorem g_note_of_one_note_of_name : (defScope s_note_of_one).names.lookup ("note_of_name" : Str) = some .globalImplicit := by rfl
theorem g_note_of_one_is_kind : (defScope s_note_of_one).names.lookup ("is_kind" : Str) = some .globalImplicit := by rfl
theorem g_note_of_one_Over : (defScope s_note_of_one).names.lookup ("Over" : Str) = some .globalImplicit := by rfl
theorem g_note_of_one_NoNote : (defScope s_note_of_one).names.lookup ("NoNote" : Str) = some .globalImplicit := by rfl
abbrev s_note_within : Stmt := top 27
theorem sc_note_within : FnScope ["left", "told", "one", "other"] ["left", "told"] (defScope s_note_within) := ⟨rfl, rfl, rfl, by decide +kernel, rfl, by decide +kernel, by decide +kernel⟩
theorem v_note_within_0 : Vis (defScope s_note_within) "left" := by first | exact Or.inl rfl | exact Or.inr (Or.inl rfl) | exact Or.inr (Or.inr rfl)
theorem l_note_within_0 : Loc (defScope s_note_within) "left" := by first | exact Or.inl rfl | exact Or.inr rfl
theorem v_note_within_1 : Vis (defScope s_note_within) "told" := by first | exact Or.inl rfl | exact Or.inr (Or.inl rfl) | exact Or.inr (Or.inr rfl)
theorem l_note_within_1 : Loc (defScope s_note_within) "told" := by first | exact Or.inl rfl | exact Or.inr rfl
theorem v_note_within_2 : Vis (defScope s_note_within) "one" := by first | exact Or.inl rfl | exact Or.inr (Or.inl rfl) | exact Or.inr (Or.inr rfl)
theorem l_note_within_2 : Loc (defScope s_note_within) "one" := by first | exact Or.inl rfl | exact Or.inr rfl
theorem v_note_within_3 : Vis (defScope s_note_within) "other" := by first | exact Or.inl rfl | exact Or.inr (Or.inl rfl) | exact Or.inr (Or.inr rfl)
theorem l_note_within_3 : Loc (defScope s_note_within) "other" := by first | exact Or.inl rfl | exact Or.inr rfl
theorem g_note_within_NoNote : (defScope s_note_within).names.lookup ("NoNote" : Str) = some .globalImplicit := by rfl
theorem g_note_within_isinstance : (defScope s_note_within).names.lookup ("isinstance" : Str) = some .globalImplicit := by rfl
theorem g_note_within_tuple : (defScope s_note_within).names.lookup ("tuple" : Str) = some .globalImplicit := by rfl
theorem g_note_within_len : (defScope s_note_within).names.lookup ("len" : Str) = some .globalImplicit := by rfl
theorem g_note_within_str : (defScope s_note_within).names.lookup ("str" : Str) = some .globalImplicit := by rfl
theorem g_note_within_note_within : (defScope s_note_within).names.lookup ("note_within" : Str) = some .globalImplicit := by rfl
theorem g_note_within_note_of_notes : (defScope s_note_within).names.lookup ("note_of_notes" : Str) = some .globalImplicit := by rfl
theorem g_note_within_note_of_one : (defScope s_note_within).names.lookup ("note_of_one" : Str) = some .globalImplicit := by rfl
abbrev s_note_of : Stmt := top 28
theorem sc_note_of : FnScope ["told"] ["told"] (defScope s_note_of) := ⟨rfl, rfl, rfl, by decide +kernel, rfl, by decide +kernel, by decide +kernel⟩
theorem v_note_of_0 : Vis (defScope s_note_of) "told" := by first | exact Or.inl rfl | exact Or.inr (Or.inl rfl) | exact Or.inr (Or.inr rfl)
theorem l_note_of_0 : Loc (defScope s_note_of) "told" := by first | exact Or.inl rfl | exact Or.inr rfl
theorem g_note_of_note_within : (defScope s_note_of).names.lookup ("note_within" : Str) = some .globalImplicit := by rfl
abbrev s_made_places : Stmt := top 8
theorem sc_made_places : FnScope ["kinds", "look", "stuff"] ["kinds", "look", "stuff"] (defScope s_made_places) := ⟨rfl, rfl, rfl, by decide +kernel, rfl, by decide +kernel, by decide +kernel⟩
theorem v_made_places_0 : Vis (defScope s_made_places) "kinds" := by first | exact Or.inl rfl | exact Or.inr (Or.inl rfl) | exact Or.inr (Or.inr rfl)
theorem l_made_places_0 : Loc (defScope s_made_places) "kinds" := by first | exact Or.inl rfl | exact Or.inr rfl
theorem v_made_places_1 : Vis (defScope s_made_places) "look" := by first | exact Or.inl rfl | exact Or.inr (Or.inl rfl) | exact Or.inr (Or.inr rfl)
theorem l_made_places_1 : Loc (defScope s_made_places) "look" := by first | exact Or.inl rfl | exact Or.inr rfl
theorem v_made_places_2 : Vis (defScope s_made_places) "stuff" := by first | exact Or.inl rfl | exact Or.inr (Or.inl rfl) | exact Or.inr (Or.inr rfl)
theorem l_made_places_2 : Loc (defScope s_made_places) "stuff" := by first | exact Or.inl rfl | exact Or.inr rfl
theorem g_made_places_enumerate : (defScope s_made_places).names.lookup ("enumerate" : Str) = some .globalImplicit := by rfl
abbrev s_used_places : Stmt := top 9
theorem sc_used_places : FnScope ["kinds", "look", "use"] ["kinds", "look", "use"] (defScope s_used_places) := ⟨rfl, rfl, rfl, by decide +kernel, rfl, by decide +kernel, by decide +kernel⟩
theorem v_used_places_0 : Vis (defScope s_used_places) "kinds" := by first | exact Or.inl rfl | exact Or.inr (Or.inl rfl) | exact Or.inr (Or.inr rfl)
theorem l_used_places_0 : Loc (defScope s_used_places) "kinds" := by first | exact Or.inl rfl | exact Or.inr rfl
theorem v_used_places_1 : Vis (defScope s_used_places) "look" := by first | exact Or.inl rfl | exact Or.inr (Or.inl rfl) | exact Or.inr (Or.inr rfl)
theorem l_used_places_1 : Loc (defScope s_used_places) "look" := by first | exact Or.inl rfl | exact Or.inr rfl
theorem v_used_places_2 : Vis (defScope s_used_places) "use" := by first | exact Or.inl rfl | exact Or.inr (Or.inl rfl) | exact Or.inr (Or.inr rfl)
theorem l_used_places_2 : Loc (defScope s_used_places) "use" := by first | exact Or.inl rfl | exact Or.inr rfl
theorem g_used_places_enumerate : (defScope s_used_places).names.lookup ("enumerate" : Str) = some .globalImplicit := by rfl
abbrev s_chief_places : Stmt := top 10
theorem sc_chief_places : FnScope ["kinds", "look", "stuff", "greatest"] ["kinds", "look", "stuff"] (defScope s_chief_places) := ⟨rfl, rfl, rfl, by decide +kernel, rfl, by decide +kernel, by decide +kernel⟩
theorem v_chief_places_0 : Vis (defScope s_chief_places) "kinds" := by first | exact Or.inl rfl | exact Or.inr (Or.inl rfl) | exact Or.inr (Or.inr rfl)
theorem l_chief_places_0 : Loc (defScope s_chief_places) "kinds" := by first | exact Or.inl rfl | exact Or.inr rfl
theorem v_chief_places_1 : Vis (defScope s_chief_places) "look" := by first | exact Or.inl rfl | exact Or.inr (Or.inl rfl) | exact Or.inr (Or.inr rfl)
theorem l_chief_places_1 : Loc (defScope s_chief_places) "look" := by first | exact Or.inl rfl | exact Or.inr rfl
theorem v_chief_places_2 : Vis (defScope s_chief_places) "stuff" := by first | exact Or.inl rfl | exact Or.inr (Or.inl rfl) | exact Or.inr (Or.inr rfl)
theorem l_chief_places_2 : Loc (defScope s_chief_places) "stuff" := by first | exact Or.inl rfl | exact Or.inr rfl
theorem v_chief_places_3 : Vis (defScope s_chief_places) "greatest" := by first | exact Or.inl rfl | exact Or.inr (Or.inl rfl) | exact Or.inr (Or.inr rfl)
theorem l_chief_places_3 : Loc (defScope s_chief_places) "greatest" := by first | exact Or.inl rfl | exact Or.inr rfl
theorem g_chief_places_max : (defScope s_chief_places).names.lookup ("max" : Str) = some .globalImplicit := by rfl
theorem g_chief_places_enumerate : (defScope s_chief_places).names.lookup ("enumerate" : Str) = some .globalImplicit := by rfl
abbrev s_number_in : Stmt := top 11
theorem sc_number_in : FnScope ["kinds", "look", "kind"] ["kinds", "look", "kind"] (defScope s_number_in) := ⟨rfl, rfl, rfl, by decide +kernel, rfl, by decide +kernel, by decide +kernel⟩
theorem v_number_in_0 : Vis (defScope s_number_in) "kinds" := by first | exact Or.inl rfl | exact Or.inr (Or.inl rfl) | exact Or.inr (Or.inr rfl)
theorem l_number_in_0 : Loc (defScope s_number_in) "kinds" := by first | exact Or.inl rfl | exact Or.inr rfl
theorem v_number_in_1 : Vis (defScope s_number_in) "look" := by first | exact Or.inl rfl | exact Or.inr (Or.inl rfl) | exact Or.inr (Or.inr rfl)
theorem l_number_in_1 : Loc (defScope s_number_in) "look" := by first | exact Or.inl rfl | exact Or.inr rfl
theorem v_number_in_2 : Vis (defScope s_number_in) "kind" := by first | exact Or.inl rfl | exact Or.inr (Or.inl rfl) | exact Or.inr (Or.inr rfl)
theorem l_number_in_2 : Loc (defScope s_number_in) "kind" := by first | exact Or.inl rfl | exact Or.inr rfl
abbrev s_is_over : Stmt := top 12
theorem sc_is_over : FnScope ["kinds", "look", "one", "other"] ["kinds", "look", "one", "other"] (defScope s_is_over) := ⟨rfl, rfl, rfl, by decide +kernel, rfl, by decide +kernel, by decide +kernel⟩
theorem v_is_over_0 : Vis (defScope s_is_over) "kinds" := by first | exact Or.inl rfl | exact Or.inr (Or.inl rfl) | exact Or.inr (Or.inr rfl)
theorem l_is_over_0 : Loc (defScope s_is_over) "kinds" := by first | exact Or.inl rfl | exact Or.inr rfl
theorem v_is_over_1 : Vis (defScope s_is_over) "look" := by first | exact Or.inl rfl | exact Or.inr (Or.inl rfl) | exact Or.inr (Or.inr rfl)
theorem l_is_over_1 : Loc (defScope s_is_over) "look" := by first | exact Or.inl rfl | exact Or.inr rfl
theorem v_is_over_2 : Vis (defScope s_is_over) "one" := by first | exact Or.inl rfl | exact Or.inr (Or.inl rfl) | exact Or.inr (Or.inr rfl)
theorem l_is_over_2 : Loc (defScope s_is_over) "one" := by first | exact Or.inl rfl | exact Or.inr rfl
theorem v_is_over_3 : Vis (defScope s_is_over) "other" := by first | exact Or.inl rfl | exact Or.inr (Or.inl rfl) | exact Or.inr (Or.inr rfl)
theorem l_is_over_3 : Loc (defScope s_is_over) "other" := by first | exact Or.inl rfl | exact Or.inr rfl
theorem g_is_over_number_in : (defScope s_is_over).names.lookup ("number_in" : Str) = some .globalImplicit := by rfl
abbrev s_place_reason : Stmt := top 13
theorem sc_place_reason : FnScope ["places"] ["places"] (defScope s_place_reason) := ⟨rfl, rfl, rfl, by decide +kernel, rfl, by decide +kernel, by decide +kernel⟩
theorem v_place_reason_0 : Vis (defScope s_place_reason) "places" := by first | exact Or.inl rfl | exact Or.inr (Or.inl rfl) | exact Or.inr (Or.inr rfl)
theorem l_place_reason_0 : Loc (defScope s_place_reason) "places" := by first | exact Or.inl rfl | exact Or.inr rfl
theorem g_place_reason_len : (defScope s_place_reason).names.lookup ("len" : Str) = some .globalImplicit := by rfl
abbrev s_Anything_reason : Stmt := inner (top 15) 1
theorem sc_Anything_reason : FnScope ["self", "kinds", "look"] ["self", "kinds", "look"] (defScope s_Anything_reason) := ⟨rfl, rfl, rfl, by decide +kernel, rfl, by decide +kernel, by decide +kernel⟩
theorem v_Anything_reason_0 : Vis (defScope s_Anything_reason) "self" := by first | exact Or.inl rfl | exact Or.inr (Or.inl rfl) | exact Or.inr (Or.inr rfl)
theorem l_Anything_reason_0 : Loc (defScope s_Anything_reason) "self" := by first | exact Or.inl rfl | exact Or.inr rfl
theorem v_Anything_reason_1 : Vis (defScope s_Anything_reason) "kinds" := by first | exact Or.inl rfl | exact Or.inr (Or.inl rfl) | exact Or.inr (Or.inr rfl)
theorem l_Anything_reason_1 : Loc (defScope s_Anything_reason) "kinds" := by first | exact Or.inl rfl | exact Or.inr rfl
theorem v_Anything_reason_2 : Vis (defScope s_Anything_reason) "look" := by first | exact Or.inl rfl | exact Or.inr (Or.inl rfl) | exact Or.inr (Or.inr rfl)
theorem l_Anything_reason_2 : Loc (defScope s_Anything_reason) "look" := by first | exact Or.inl rfl | exact Or.inr rfl
abbrev s_Made_reason : Stmt := inner (top 16) 2
theorem sc_Made_reason : FnScope ["self", "kinds", "look"] ["self", "kinds", "look"] (defScope s_Made_reason) := ⟨rfl, rfl, rfl, by decide +kernel, rfl, by decide +kernel, by decide +kernel⟩
theorem v_Made_reason_0 : Vis (defScope s_Made_reason) "self" := by first | exact Or.inl rfl | exact Or.inr (Or.inl rfl) | exact Or.inr (Or.inr rfl)
theorem l_Made_reason_0 : Loc (defScope s_Made_reason) "self" := by first | exact Or.inl rfl | exact Or.inr rfl
theorem v_Made_reason_1 : Vis (defScope s_Made_reason) "kinds" := by first | exact Or.inl rfl | exact Or.inr (Or.inl rfl) | exact Or.inr (Or.inr rfl)
theorem l_Made_reason_1 : Loc (defScope s_Made_reason) "kinds" := by first | exact Or.inl rfl | exact Or.inr rfl
theorem v_Made_reason_2 : Vis (defScope s_Made_reason) "look" := by first | exact Or.inl rfl | exact Or.inr (Or.inl rfl) | exact Or.inr (Or.inr rfl)
theorem l_Made_reason_2 : Loc (defScope s_Made_reason) "look" := by first | exact Or.inl rfl | exact Or.inr rfl
theorem g_Made_reason_place_reason : (defScope s_Made_reason).names.lookup ("place_reason" : Str) = some .globalImplicit := by rfl
theorem g_Made_reason_made_places : (defScope s_Made_reason).names.lookup ("made_places" : Str) = some .globalImplicit := by rfl
abbrev s_Used_reason : Stmt := inner (top 17) 2
theorem sc_Used_reason : FnScope ["self", "kinds", "look"] ["self", "kinds", "look"] (defScope s_Used_reason) := ⟨rfl, rfl, rfl, by decide +kernel, rfl, by decide +kernel, by decide +kernel⟩
theorem v_Used_reason_0 : Vis (defScope s_Used_reason) "self" := by first | exact Or.inl rfl | exact Or.inr (Or.inl rfl) | exact Or.inr (Or.inr rfl)
theorem l_Used_reason_0 : Loc (defScope s_Used_reason) "self" := by first | exact Or.inl rfl | exact Or.inr rfl
theorem v_Used_reason_1 : Vis (defScope s_Used_reason) "kinds" := by first | exact Or.inl rfl | exact Or.inr (Or.inl rfl) | exact Or.inr (Or.inr rfl)
theorem l_Used_reason_1 : Loc (defScope s_Used_reason) "kinds" := by first | exact Or.inl rfl | exact Or.inr rfl
theorem v_Used_reason_2 : Vis (defScope s_Used_reason) "look" := by first | exact Or.inl rfl | exact Or.inr (Or.inl rfl) | exact Or.inr (Or.inr rfl)
theorem l_Used_reason_2 : Loc (defScope s_Used_reason) "look" := by first | exact Or.inl rfl | exact Or.inr rfl
theorem g_Used_reason_place_reason : (defScope s_Used_reason).names.lookup ("place_reason" : Str) = some .globalImplicit := by rfl
theorem g_Used_reason_used_places : (defScope s_Used_reason).names.lookup ("used_places" : Str) = some .globalImplicit := by rfl
abbrev s_Chief_reason : Stmt := inner (top 18) 2
theorem sc_Chief_reason : FnScope ["self", "kinds", "look"] ["self", "kinds", "look"] (defScope s_Chief_reason) := ⟨rfl, rfl, rfl, by decide +kernel, rfl, by decide +kernel, by decide +kernel⟩
theorem v_Chief_reason_0 : Vis (defScope s_Chief_reason) "self" := by first | exact Or.inl rfl | exact Or.inr (Or.inl rfl) | exact Or.inr (Or.inr rfl)
theorem l_Chief_reason_0 : Loc (defScope s_Chief_reason) "self" := by first | exact Or.inl rfl | exact Or.inr rfl
theorem v_Chief_reason_1 : Vis (defScope s_Chief_reason) "kinds" := by first | exact Or.inl rfl | exact Or.inr (Or.inl rfl) | exact Or.inr (Or.inr rfl)
theorem l_Chief_reason_1 : Loc (defScope s_Chief_reason) "kinds" := by first | exact Or.inl rfl | exact Or.inr rfl
theorem v_Chief_reason_2 : Vis (defScope s_Chief_reason) "look" := by first | exact Or.inl rfl | exact Or.inr (Or.inl rfl) | exact Or.inr (Or.inr rfl)
theorem l_Chief_reason_2 : Loc (defScope s_Chief_reason) "look" := by first | exact Or.inl rfl | exact Or.inr rfl
theorem g_Chief_reason_place_reason : (defScope s_Chief_reason).names.lookup ("place_reason" : Str) = some .globalImplicit := by rfl
theorem g_Chief_reason_chief_places : (defScope s_Chief_reason).names.lookup ("chief_places" : Str) = some .globalImplicit := by rfl
abbrev s_Over_reason : Stmt := inner (top 19) 2
theorem sc_Over_reason : FnScope ["self", "kinds", "look"] ["self", "kinds", "look"] (defScope s_Over_reason) := ⟨rfl, rfl, rfl, by decide +kernel, rfl, by decide +kernel, by decide +kernel⟩
theorem v_Over_reason_0 : Vis (defScope s_Over_reason) "self" := by first | exact Or.inl rfl | exact Or.inr (Or.inl rfl) | exact Or.inr (Or.inr rfl)
theorem l_Over_reason_0 : Loc (defScope s_Over_reason) "self" := by first | exact Or.inl rfl | exact Or.inr rfl
theorem v_Over_reason_1 : Vis (defScope s_Over_reason) "kinds" := by first | exact Or.inl rfl | exact Or.inr (Or.inl rfl) | exact Or.inr (Or.inr rfl)
theorem l_Over_reason_1 : Loc (defScope s_Over_reason) "kinds" := by first | exact Or.inl rfl | exact Or.inr rfl
theorem v_Over_reason_2 : Vis (defScope s_Over_reason) "look" := by first | exact Or.inl rfl | exact Or.inr (Or.inl rfl) | exact Or.inr (Or.inr rfl)
theorem l_Over_reason_2 : Loc (defScope s_Over_reason) "look" := by first | exact Or.inl rfl | exact Or.inr rfl
theorem g_Over_reason_is_over : (defScope s_Over_reason).names.lookup ("is_over" : Str) = some .globalImplicit := by rfl
abbrev s_Both_reason : Stmt := inner (top 21) 1
theorem sc_Both_reason : FnScope ["self", "kinds", "look", "first", "second"] ["self", "kinds", "look"] (defScope s_Both_reason) := ⟨rfl, rfl, rfl, by decide +kernel, rfl, by decide +kernel, by decide +kernel⟩
theorem v_Both_reason_0 : Vis (defScope s_Both_reason) "self" := by first | exact Or.inl rfl | exact Or.inr (Or.inl rfl) | exact Or.inr (Or.inr rfl)
theorem l_Both_reason_0 : Loc (defScope s_Both_reason) "self" := by first | exact Or.inl rfl | exact Or.inr rfl
theorem v_Both_reason_1 : Vis (defScope s_Both_reason) "kinds" := by first | exact Or.inl rfl | exact Or.inr (Or.inl rfl) | exact Or.inr (Or.inr rfl)
theorem l_Both_reason_1 : Loc (defScope s_Both_reason) "kinds" := by first | exact Or.inl rfl | exact Or.inr rfl
theorem v_Both_reason_2 : Vis (defScope s_Both_reason) "look" := by first | exact Or.inl rfl | exact Or.inr (Or.inl rfl) | exact Or.inr (Or.inr rfl)
theorem l_Both_reason_2 : Loc (defScope s_Both_reason) "look" := by first | exact Or.inl rfl | exact Or.inr rfl
theorem v_Both_reason_3 : Vis (defScope s_Both_reason) "first" := by first | exact Or.inl rfl | exact Or.inr (Or.inl rfl) | exact Or.inr (Or.inr rfl)
theorem l_Both_reason_3 : Loc (defScope s_Both_reason) "first" := by first | exact Or.inl rfl | exact Or.inr rfl
theorem v_Both_reason_4 : Vis (defScope s_Both_reason) "second" := by first | exact Or.inl rfl | exact Or.inr (Or.inl rfl) | exact Or.inr (Or.inr rfl)
theorem l_Both_reason_4 : Loc (defScope s_Both_reason) "second" := by first | exact Or.inl rfl | exact Or.inr rfl
abbrev s_Either_reason : Stmt := inner (top 22) 1
theorem sc_Either_reason : FnScope ["self", "kinds", "look", "first", "second"] ["self", "kinds", "look"] (defScope s_Either_reason) := ⟨rfl, rfl, rfl, by decide +kernel, rfl, by decide +kernel, by decide +kernel⟩
theorem v_Either_reason_0 : Vis (defScope s_Either_reason) "self" := by first | exact Or.inl rfl | exact Or.inr (Or.inl rfl) | exact Or.inr (Or.inr rfl)
theorem l_Either_reason_0 : Loc (defScope s_Either_reason) "self" := by first | exact Or.inl rfl | exact Or.inr rfl
theorem v_Either_reason_1 : Vis (defScope s_Either_reason) "kinds" := by first | exact Or.inl rfl | exact Or.inr (Or.inl rfl) | exact Or.inr (Or.inr rfl)
theorem l_Either_reason_1 : Loc (defScope s_Either_reason) "kinds" := by first | exact Or.inl rfl | exact Or.inr rfl
theorem v_Either_reason_2 : Vis (defScope s_Either_reason) "look" := by first | exact Or.inl rfl | exact Or.inr (Or.inl rfl) | exact Or.inr (Or.inr rfl)
theorem l_Either_reason_2 : Loc (defScope s_Either_reason) "look" := by first | exact Or.inl rfl | exact Or.inr rfl
theorem v_Either_reason_3 : Vis (defScope s_Either_reason) "first" := by first | exact Or.inl rfl | exact Or.inr (Or.inl rfl) | exact Or.inr (Or.inr rfl)
theorem l_Either_reason_3 : Loc (defScope s_Either_reason) "first" := by first | exact Or.inl rfl | exact Or.inr rfl
theorem v_Either_reason_4 : Vis (defScope s_Either_reason) "second" := by first | exact Or.inl rfl | exact Or.inr (Or.inl rfl) | exact Or.inr (Or.inr rfl)
theorem l_Either_reason_4 : Loc (defScope s_Either_reason) "second" := by first | exact Or.inl rfl | exact Or.inr rfl
abbrev s_But_reason : Stmt := inner (top 23) 1
theorem sc_But_reason : FnScope ["self", "kinds", "look", "first", "second"] ["self", "kinds", "look"] (defScope s_But_reason) := ⟨rfl, rfl, rfl, by decide +kernel, rfl, by decide +kernel, by decide +kernel⟩
theorem v_But_reason_0 : Vis (defScope s_But_reason) "self" := by first | exact Or.inl rfl | exact Or.inr (Or.inl rfl) | exact Or.inr (Or.inr rfl)
theorem l_But_reason_0 : Loc (defScope s_But_reason) "self" := by first | exact Or.inl rfl | exact Or.inr rfl
theorem v_But_reason_1 : Vis (defScope s_But_reason) "kinds" := by first | exact Or.inl rfl | exact Or.inr (Or.inl rfl) | exact Or.inr (Or.inr rfl)
theorem l_But_reason_1 : Loc (defScope s_But_reason) "kinds" := by first | exact Or.inl rfl | exact Or.inr rfl
theorem v_But_reason_2 : Vis (defScope s_But_reason) "look" := by first | exact Or.inl rfl | exact Or.inr (Or.inl rfl) | exact Or.inr (Or.inr rfl)
theorem l_But_reason_2 : Loc (defScope s_But_reason) "look" := by first | exact Or.inl rfl | exact Or.inr rfl
theorem v_But_reason_3 : Vis (defScope s_But_reason) "first" := by first | exact Or.inl rfl | exact Or.inr (Or.inl rfl) | exact Or.inr (Or.inr rfl)
theorem l_But_reason_3 : Loc (defScope s_But_reason) "first" := by first | exact Or.inl rfl | exact Or.inr rfl
theorem v_But_reason_4 : Vis (defScope s_But_reason) "second" := by first | exact Or.inl rfl | exact Or.inr (Or.inl rfl) | exact Or.inr (Or.inr rfl)
theorem l_But_reason_4 : Loc (defScope s_But_reason) "second" := by first | exact Or.inl rfl | exact Or.inr rfl
abbrev s_Note_claims : Stmt := inner (top 14) 0
theorem sc_Note_claims : FnScope ["self", "kinds", "look"] ["self", "kinds", "look"] (defScope s_Note_claims) := ⟨rfl, rfl, rfl, by decide +kernel, rfl, by decide +kernel, by decide +kernel⟩
theorem v_Note_claims_0 : Vis (defScope s_Note_claims) "self" := by first | exact Or.inl rfl | exact Or.inr (Or.inl rfl) | exact Or.inr (Or.inr rfl)
theorem l_Note_claims_0 : Loc (defScope s_Note_claims) "self" := by first | exact Or.inl rfl | exact Or.inr rfl
theorem v_Note_claims_1 : Vis (defScope s_Note_claims) "kinds" := by first | exact Or.inl rfl | exact Or.inr (Or.inl rfl) | exact Or.inr (Or.inr rfl)
theorem l_Note_claims_1 : Loc (defScope s_Note_claims) "kinds" := by first | exact Or.inl rfl | exact Or.inr rfl
theorem v_Note_claims_2 : Vis (defScope s_Note_claims) "look" := by first | exact Or.inl rfl | exact Or.inr (Or.inl rfl) | exact Or.inr (Or.inr rfl)
theorem l_Note_claims_2 : Loc (defScope s_Note_claims) "look" := by first | exact Or.inl rfl | exact Or.inr rfl
abbrev s_law_look : Stmt := top 34
theorem sc_law_look : FnScope ["_law_cell_here", "_law_many", "_law_weights"] ["_law_cell_here", "_law_many"] (defScope s_law_look) := ⟨rfl, rfl, rfl, by decide +kernel, rfl, by decide +kernel, by decide +kernel⟩
theorem v_law_look_0 : Vis (defScope s_law_look) "_law_cell_here" := by first | exact Or.inl rfl | exact Or.inr (Or.inl rfl) | exact Or.inr (Or.inr rfl)
theorem l_law_look_0 : Loc (defScope s_law_look) "_law_cell_here" := by first | exact Or.inl rfl | exact Or.inr rfl
theorem v_law_look_1 : Vis (defScope s_law_look) "_law_many" := by first | exact Or.inl rfl | exact Or.inr (Or.inl rfl) | exact Or.inr (Or.inr rfl)
theorem l_law_look_1 : Loc (defScope s_law_look) "_law_many" := by first | exact Or.inl rfl | exact Or.inr rfl
theorem v_law_look_2 : Vis (defScope s_law_look) "_law_weights" := by first | exact Or.inl rfl | exact Or.inr (Or.inl rfl) | exact Or.inr (Or.inr rfl)
theorem l_law_look_2 : Loc (defScope s_law_look) "_law_weights" := by first | exact Or.inl rfl | exact Or.inr rfl
theorem g_law_look_range : (defScope s_law_look).names.lookup ("range" : Str) = some .globalImplicit := by rfl
theorem g_law_look_max : (defScope s_law_look).names.lookup ("max" : Str) = some .globalImplicit := by rfl
theorem g_law_look_tuple : (defScope s_law_look).names.lookup ("tuple" : Str) = some .globalImplicit := by rfl
abbrev s_law_weighs : Stmt := top 37
theorem sc_law_weighs : FnScope ["_law_kinds_here", "_law_look_here", "_law_kind", "_law_k"] ["_law_kinds_here", "_law_look_here", "_law_kind"] (defScope s_law_weighs) := ⟨rfl, rfl, rfl, by decide +kernel, rfl, by decide +kernel, by decide +kernel⟩
theorem v_law_weighs_0 : Vis (defScope s_law_weighs) "_law_kinds_here" := by first | exact Or.inl rfl | exact Or.inr (Or.inl rfl) | exact Or.inr (Or.inr rfl)
theorem l_law_weighs_0 : Loc (defScope s_law_weighs) "_law_kinds_here" := by first | exact Or.inl rfl | exact Or.inr rfl
theorem v_law_weighs_1 : Vis (defScope s_law_weighs) "_law_look_here" := by first | exact Or.inl rfl | exact Or.inr (Or.inl rfl) | exact Or.inr (Or.inr rfl)
theorem l_law_weighs_1 : Loc (defScope s_law_weighs) "_law_look_here" := by first | exact Or.inl rfl | exact Or.inr rfl
theorem v_law_weighs_2 : Vis (defScope s_law_weighs) "_law_kind" := by first | exact Or.inl rfl | exact Or.inr (Or.inl rfl) | exact Or.inr (Or.inr rfl)
theorem l_law_weighs_2 : Loc (defScope s_law_weighs) "_law_kind" := by first | exact Or.inl rfl | exact Or.inr rfl
theorem v_law_weighs_3 : Vis (defScope s_law_weighs) "_law_k" := by first | exact Or.inl rfl | exact Or.inr (Or.inl rfl) | exact Or.inr (Or.inr rfl)
theorem l_law_weighs_3 : Loc (defScope s_law_weighs) "_law_k" := by first | exact Or.inl rfl | exact Or.inr rfl
theorem g_law_weighs_range : (defScope s_law_weighs).names.lookup ("range" : Str) = some .globalImplicit := by rfl
theorem g_law_weighs_len : (defScope s_law_weighs).names.lookup ("len" : Str) = some .globalImplicit := by rfl
abbrev s_law_shows : Stmt := top 38
theorem sc_law_shows : FnScope ["_law_told", "_law_kinds_here", "_law_look_here", "_law_k", "_law_least"] ["_law_told", "_law_kinds_here", "_law_look_here", "_law_k"] (defScope s_law_shows) := ⟨rfl, rfl, rfl, by decide +kernel, rfl, by decide +kernel, by decide +kernel⟩
theorem v_law_shows_0 : Vis (defScope s_law_shows) "_law_told" := by first | exact Or.inl rfl | exact Or.inr (Or.inl rfl) | exact Or.inr (Or.inr rfl)
theorem l_law_shows_0 : Loc (defScope s_law_shows) "_law_told" := by first | exact Or.inl rfl | exact Or.inr rfl
theorem v_law_shows_1 : Vis (defScope s_law_shows) "_law_kinds_here" := by first | exact Or.inl rfl | exact Or.inr (Or.inl rfl) | exact Or.inr (Or.inr rfl)
theorem l_law_shows_1 : Loc (defScope s_law_shows) "_law_kinds_here" := by first | exact Or.inl rfl | exact Or.inr rfl
theorem v_law_shows_2 : Vis (defScope s_law_shows) "_law_look_here" := by first | exact Or.inl rfl | exact Or.inr (Or.inl rfl) | exact Or.inr (Or.inr rfl)
theorem l_law_shows_2 : Loc (defScope s_law_shows) "_law_look_here" := by first | exact Or.inl rfl | exact Or.inr rfl
theorem v_law_shows_3 : Vis (defScope s_law_shows) "_law_k" := by first | exact Or.inl rfl | exact Or.inr (Or.inl rfl) | exact Or.inr (Or.inr rfl)
theorem l_law_shows_3 : Loc (defScope s_law_shows) "_law_k" := by first | exact Or.inl rfl | exact Or.inr rfl
theorem v_law_shows_4 : Vis (defScope s_law_shows) "_law_least" := by first | exact Or.inl rfl | exact Or.inr (Or.inl rfl) | exact Or.inr (Or.inr rfl)
theorem l_law_shows_4 : Loc (defScope s_law_shows) "_law_least" := by first | exact Or.inl rfl | exact Or.inr rfl
theorem g_law_shows_max : (defScope s_law_shows).names.lookup ("max" : Str) = some .globalImplicit := by rfl
theorem g_law_shows_int : (defScope s_law_shows).names.lookup ("int" : Str) = some .globalImplicit := by rfl
abbrev s_law_plain_claims : Stmt := top 39
theorem sc_law_plain_claims : FnScope ["_law_told", "_law_kinds_here", "_law_look_here"] ["_law_told", "_law_kinds_here", "_law_look_here"] (defScope s_law_plain_claims) := ⟨rfl, rfl, rfl, by decide +kernel, rfl, by decide +kernel, by decide +kernel⟩
theorem v_law_plain_claims_0 : Vis (defScope s_law_plain_claims) "_law_told" := by first | exact Or.inl rfl | exact Or.inr (Or.inl rfl) | exact Or.inr (Or.inr rfl)
theorem l_law_plain_claims_0 : Loc (defScope s_law_plain_claims) "_law_told" := by first | exact Or.inl rfl | exact Or.inr rfl
theorem v_law_plain_claims_1 : Vis (defScope s_law_plain_claims) "_law_kinds_here" := by first | exact Or.inl rfl | exact Or.inr (Or.inl rfl) | exact Or.inr (Or.inr rfl)
theorem l_law_plain_claims_1 : Loc (defScope s_law_plain_claims) "_law_kinds_here" := by first | exact Or.inl rfl | exact Or.inr rfl
theorem v_law_plain_claims_2 : Vis (defScope s_law_plain_claims) "_law_look_here" := by first | exact Or.inl rfl | exact Or.inr (Or.inl rfl) | exact Or.inr (Or.inr rfl)
theorem l_law_plain_claims_2 : Loc (defScope s_law_plain_claims) "_law_look_here" := by first | exact Or.inl rfl | exact Or.inr rfl
theorem g_law_plain_claims__law_weighs : (defScope s_law_plain_claims).names.lookup ("_law_weighs" : Str) = some .globalImplicit := by rfl
theorem g_law_plain_claims_len : (defScope s_law_plain_claims).names.lookup ("len" : Str) = some .globalImplicit := by rfl
theorem g_law_plain_claims_range : (defScope s_law_plain_claims).names.lookup ("range" : Str) = some .globalImplicit := by rfl
abbrev s_law_claims : Stmt := top 40
theorem sc_law_claims : FnScope ["_law_told", "_law_kinds_here", "_law_look_here"] ["_law_told", "_law_kinds_here", "_law_look_here"] (defScope s_law_claims) := ⟨rfl, rfl, rfl, by decide +kernel, rfl, by decide +kernel, by decide +kernel⟩
theorem v_law_claims_0 : Vis (defScope s_law_claims) "_law_told" := by first | exact Or.inl rfl | exact Or.inr (Or.inl rfl) | exact Or.inr (Or.inr rfl)
theorem l_law_claims_0 : Loc (defScope s_law_claims) "_law_told" := by first | exact Or.inl rfl | exact Or.inr rfl
theorem v_law_claims_1 : Vis (defScope s_law_claims) "_law_kinds_here" := by first | exact Or.inl rfl | exact Or.inr (Or.inl rfl) | exact Or.inr (Or.inr rfl)
theorem l_law_claims_1 : Loc (defScope s_law_claims) "_law_kinds_here" := by first | exact Or.inl rfl | exact Or.inr rfl
theorem v_law_claims_2 : Vis (defScope s_law_claims) "_law_look_here" := by first | exact Or.inl rfl | exact Or.inr (Or.inl rfl) | exact Or.inr (Or.inr rfl)
theorem l_law_claims_2 : Loc (defScope s_law_claims) "_law_look_here" := by first | exact Or.inl rfl | exact Or.inr rfl
theorem g_law_claims__law_claims : (defScope s_law_claims).names.lookup ("_law_claims" : Str) = some .globalImplicit := by rfl
theorem g_law_claims__law_plain_claims : (defScope s_law_claims).names.lookup ("_law_plain_claims" : Str) = some .globalImplicit := by rfl
abbrev s_law_made : Stmt := top 41
theorem sc_law_made : FnScope ["_law_told"] ["_law_told"] (defScope s_law_made) := ⟨rfl, rfl, rfl, by decide +kernel, rfl, by decide +kernel, by decide +kernel⟩
theorem v_law_made_0 : Vis (defScope s_law_made) "_law_told" := by first | exact Or.inl rfl | exact Or.inr (Or.inl rfl) | exact Or.inr (Or.inr rfl)
theorem l_law_made_0 : Loc (defScope s_law_made) "_law_told" := by first | exact Or.inl rfl | exact Or.inr rfl
theorem g_law_made_Both : (defScope s_law_made).names.lookup ("Both" : Str) = some .globalImplicit := by rfl
theorem g_law_made__law_made : (defScope s_law_made).names.lookup ("_law_made" : Str) = some .globalImplicit := by rfl
theorem g_law_made_Either : (defScope s_law_made).names.lookup ("Either" : Str) = some .globalImplicit := by rfl
theorem g_law_made_But : (defScope s_law_made).names.lookup ("But" : Str) = some .globalImplicit := by rfl
theorem g_law_made_note_of : (defScope s_law_made).names.lookup ("note_of" : Str) = some .globalImplicit := by rfl
abbrev s_law_good : Stmt := top 42
theorem sc_law_good : FnScope ["_law_note_here", "_law_told", "_law_kinds_here", "_law_look_here", "_law_found"] ["_law_note_here", "_law_told", "_law_kinds_here", "_law_look_here"] (defScope s_law_good) := ⟨rfl, rfl, rfl, by decide +kernel, rfl, by decide +kernel, by decide +kernel⟩
theorem v_law_good_0 : Vis (defScope s_law_good) "_law_note_here" := by first | exact Or.inl rfl | exact Or.inr (Or.inl rfl) | exact Or.inr (Or.inr rfl)
theorem l_law_good_0 : Loc (defScope s_law_good) "_law_note_here" := by first | exact Or.inl rfl | exact Or.inr rfl
theorem v_law_good_1 : Vis (defScope s_law_good) "_law_told" := by first | exact Or.inl rfl | exact Or.inr (Or.inl rfl) | exact Or.inr (Or.inr rfl)
theorem l_law_good_1 : Loc (defScope s_law_good) "_law_told" := by first | exact Or.inl rfl | exact Or.inr rfl
theorem v_law_good_2 : Vis (defScope s_law_good) "_law_kinds_here" := by first | exact Or.inl rfl | exact Or.inr (Or.inl rfl) | exact Or.inr (Or.inr rfl)
theorem l_law_good_2 : Loc (defScope s_law_good) "_law_kinds_here" := by first | exact Or.inl rfl | exact Or.inr rfl
theorem v_law_good_3 : Vis (defScope s_law_good) "_law_look_here" := by first | exact Or.inl rfl | exact Or.inr (Or.inl rfl) | exact Or.inr (Or.inr rfl)
theorem l_law_good_3 : Loc (defScope s_law_good) "_law_look_here" := by first | exact Or.inl rfl | exact Or.inr rfl
theorem v_law_good_4 : Vis (defScope s_law_good) "_law_found" := by first | exact Or.inl rfl | exact Or.inr (Or.inl rfl) | exact Or.inr (Or.inr rfl)
theorem l_law_good_4 : Loc (defScope s_law_good) "_law_found" := by first | exact Or.inl rfl | exact Or.inr rfl
theorem g_law_good_list : (defScope s_law_good).names.lookup ("list" : Str) = some .globalImplicit := by rfl
theorem g_law_good_isinstance : (defScope s_law_good).names.lookup ("isinstance" : Str) = some .globalImplicit := by rfl
theorem g_law_good_bool : (defScope s_law_good).names.lookup ("bool" : Str) = some .globalImplicit := by rfl
theorem g_law_good__law_claims : (defScope s_law_good).names.lookup ("_law_claims" : Str) = some .globalImplicit := by rfl
abbrev s_law : Stmt := top 43
theorem sc_law : FnScope ["_law_script", "_law_words_here", "_law_kinds_here", "_law_k", "_law_cell_here", "_law_told", "_law_made_here", "_law_read", "_law_j", "_law_look_here", "_law_back", "_law_some"] ["_law_script"] (defScope s_law) := ⟨rfl, rfl, rfl, by decide +kernel, rfl, by decide +kernel, by decide +kernel⟩
theorem v_law_0 : Vis (defScope s_law) "_law_script" := by first | exact Or.inl rfl | exact Or.inr (Or.inl rfl) | exact Or.inr (Or.inr rfl)
theorem l_law_0 : Loc (defScope s_law) "_law_script" := by first | exact Or.inl rfl | exact Or.inr rfl
theorem v_law_1 : Vis (defScope s_law) "_law_words_here" := by first | exact Or.inl rfl | exact Or.inr (Or.inl rfl) | exact Or.inr (Or.inr rfl)
theorem l_law_1 : Loc (defScope s_law) "_law_words_here" := by first | exact Or.inl rfl | exact Or.inr rfl
theorem v_law_2 : Vis (defScope s_law) "_law_kinds_here" := by first | exact Or.inl rfl | exact Or.inr (Or.inl rfl) | exact Or.inr (Or.inr rfl)
theorem l_law_2 : Loc (defScope s_law) "_law_kinds_here" := by first | exact Or.inl rfl | exact Or.inr rfl
theorem v_law_3 : Vis (defScope s_law) "_law_k" := by first | exact Or.inl rfl | exact Or.inr (Or.inl rfl) | exact Or.inr (Or.inr rfl)
theorem l_law_3 : Loc (defScope s_law) "_law_k" := by first | exact Or.inl rfl | exact Or.inr rfl
theorem v_law_4 : Vis (defScope s_law) "_law_cell_here" := by first | exact Or.inl rfl | exact Or.inr (Or.inl rfl) | exact Or.inr (Or.inr rfl)
theorem l_law_4 : Loc (defScope s_law) "_law_cell_here" := by first | exact Or.inl rfl | exact Or.inr rfl
theorem v_law_5 : Vis (defScope s_law) "_law_told" := by first | exact Or.inl rfl | exact Or.inr (Or.inl rfl) | exact Or.inr (Or.inr rfl)
theorem l_law_5 : Loc (defScope s_law) "_law_told" := by first | exact Or.inl rfl | exact Or.inr rfl
theorem v_law_6 : Vis (defScope s_law) "_law_made_here" := by first | exact Or.inl rfl | exact Or.inr (Or.inl rfl) | exact Or.inr (Or.inr rfl)
theorem l_law_6 : Loc (defScope s_law) "_law_made_here" := by first | exact Or.inl rfl | exact Or.inr rfl
theorem v_law_7 : Vis (defScope s_law) "_law_read" := by first | exact Or.inl rfl | exact Or.inr (Or.inl rfl) | exact Or.inr (Or.inr rfl)
theorem l_law_7 : Loc (defScope s_law) "_law_read" := by first | exact Or.inl rfl | exact Or.inr rfl
theorem v_law_8 : Vis (defScope s_law) "_law_j" := by first | exact Or.inl rfl | exact Or.inr (Or.inl rfl) | exact Or.inr (Or.inr rfl)
theorem l_law_8 : Loc (defScope s_law) "_law_j" := by first | exact Or.inl rfl | exact Or.inr rfl
theorem v_law_9 : Vis (defScope s_law) "_law_look_here" := by first | exact Or.inl rfl | exact Or.inr (Or.inl rfl) | exact Or.inr (Or.inr rfl)
theorem l_law_9 : Loc (defScope s_law) "_law_look_here" := by first | exact Or.inl rfl | exact Or.inr rfl
theorem v_law_10 : Vis (defScope s_law) "_law_back" := by first | exact Or.inl rfl | exact Or.inr (Or.inl rfl) | exact Or.inr (Or.inr rfl)
theorem l_law_10 : Loc (defScope s_law) "_law_back" := by first | exact Or.inl rfl | exact Or.inr rfl
theorem v_law_11 : Vis (defScope s_law) "_law_some" := by first | exact Or.inl rfl | exact Or.inr (Or.inl rfl) | exact Or.inr (Or.inr rfl)
theorem l_law_11 : Loc (defScope s_law) "_law_some" := by first | exact Or.inl rfl | exact Or.inr rfl
theorem g_law__law_words : (defScope s_law).names.lookup ("_law_words" : Str) = some .globalImplicit := by rfl
theorem g_law__law_cell : (defScope s_law).names.lookup ("_law_cell" : Str) = some .globalImplicit := by rfl
theorem g_law__law_kinds : (defScope s_law).names.lookup ("_law_kinds" : Str) = some .globalImplicit := by rfl
theorem g_law_range : (defScope s_law).names.lookup ("range" : Str) = some .globalImplicit := by rfl
theorem g_law_max : (defScope s_law).names.lookup ("max" : Str) = some .globalImplicit := by rfl
theorem g_law_min : (defScope s_law).names.lookup ("min" : Str) = some .globalImplicit := by rfl
theorem g_law_len : (defScope s_law).names.lookup ("len" : Str) = some .globalImplicit := by rfl
theorem g_law__law_note : (defScope s_law).names.lookup ("_law_note" : Str) = some .globalImplicit := by rfl
theorem g_law__law_mix : (defScope s_law).names.lookup ("_law_mix" : Str) = some .globalImplicit := by rfl
theorem g_law__law_made : (defScope s_law).names.lookup ("_law_made" : Str) = some .globalImplicit := by rfl
theorem g_law_note_of : (defScope s_law).names.lookup ("note_of" : Str) = some .globalImplicit := by rfl
theorem g_law_isinstance : (defScope s_law).names.lookup ("isinstance" : Str) = some .globalImplicit := by rfl
theorem g_law_Note : (defScope s_law).names.lookup ("Note" : Str) = some .globalImplicit := by rfl
theorem g_law__law_look : (defScope s_law).names.lookup ("_law_look" : Str) = some .globalImplicit := by rfl
theorem g_law__law_good : (defScope s_law).names.lookup ("_law_good" : Str) = some .globalImplicit := by rfl
theorem g_law_tuple : (defScope s_law).names.lookup ("tuple" : Str) = some .globalImplicit := by rfl
theorem g_law_list : (defScope s_law).names.lookup ("list" : Str) = some .globalImplicit := by rfl
theorem g_law_reversed : (defScope s_law).names.lookup ("reversed" : Str) = some .globalImplicit := by rfl

def spCell (K : PySem.W.Frag) : Sp := fun vs H Q _ => ∃ (a : Addr) (ns : List Int) (k : Int), vs = [.ref a, .int k] ∧ SqL K H a (ns.map V.int) ∧ ns.length ≤ 63 ∧ 0 ≤ k ∧ k ≤ 1000 ∧ Q (.int (Mth.cell ns k)) H
theorem spCell_of {K : PySem.W.Frag} {H : Hp} {a : Addr} {ns : List Int} {k : Int} {Q : VK} {E : XK} (h : SqL K H a (ns.map V.int)) (hl : ns.length ≤ 63) (h0 : 0 ≤ k) (h1 : k ≤ 1000) (q : Q (.int (Mth.cell ns k)) H) : spCell K [.ref a, .int k] H Q E := ⟨a, ns, k, rfl, h, hl, h0, h1, q⟩
section
variable {P : Program} {w : World} {K : PySem.W.Frag} {mg : Str → Option Value} {base : Heap} {f : Addr} {fd : FuncData}
theorem ok_law_cell (F : Fun K "_law_cell" "_law_cell" s_law_cell f fd) (M : Mg mg) : FnOk P w K mg base CX0 1 f fd ["_law_script", "_law_k"] (spCell K) := by
  refine F.ok sc_law_cell (fun vs H Q E h => ?_) (fun cdv A outer s H vs Q E hr h => ?_)
  · obtain ⟨a, ns, k, rfl, _⟩ := h
    rfl
  obtain ⟨a, ns, k, rfl, hS, hl, h0, h1, q⟩ := h
  refine ⟨_, (@pss_cons _ _ _ _ _ (@ps_if _ _ _ _ _ _ _ _ (@pt_cmpR _ _ _ _ _ _ _ _ (@op_lt _) (@pe_var _ 1 _ _ rfl v_law_cell_1 dn__law_k dc__law_k) (@pe_callB _ _ _ _ _ _ _ _ _ call_len_seq g_law_cell_len M.m_len b_len (@pa_cons _ _ _ _ _ (@pe_var _ 0 _ _ rfl v_law_cell_0 dn__law_script dc__law_script) (@pa_nil _) (star1 rfl)) nn_len dn_len (star1 rfl) nost0) (nomark _)) (@pss_one _ _ _ (@ps_ret _ _ _ _ (@pe_op _ _ _ _ _ _ _ _ (@op_mod _) (@pe_ix _ _ _ _ _ _ _ (@ix_list _) (@pe_var _ 0 _ _ rfl v_law_cell_0 dn__law_script dc__law_script) (@pe_var _ 1 _ _ rfl v_law_cell_1 dn__law_k dc__law_k) (fun _ _ => rfl)) (@pe_op _ _ _ _ _ _ _ _ (@op_pow _) (@pe_int _ _ _ _) (@pe_int _ _ _ _))))) (@pss_nil _)) (@pss_cons _ _ _ _ _ (@ps_set _ _ 2 _ _ _ _ sc_law_cell.nd rfl l_law_cell_2 (@pe_op _ _ _ _ _ _ _ _ (@op_add _) (@pe_op _ _ _ _ _ _ _ _ (@op_mulB _) (@pe_int _ _ _ _) (@pe_var _ 1 _ _ rfl v_law_cell_1 dn__law_k dc__law_k)) (@pe_int _ _ _ _)) (swap1 rfl) (.inl rfl)) (@pss_cons _ _ _ _ _ (@ps_if _ _ _ _ _ _ _ _ (@pt_cmpR _ _ _ _ _ _ _ _ (@op_gt _) (@pe_callB _ _ _ _ _ _ _ _ _ call_len_seq g_law_cell_len M.m_len b_len (@pa_cons _ _ _ _ _ (@pe_var _ 0 _ _ rfl v_law_cell_0 dn__law_script dc__law_script) (@pa_nil _) (star1 rfl)) nn_len dn_len (star1 rfl) nost0) (@pe_int _ _ _ _) (nomark _)) (@pss_one _ _ _ (@ps_set _ _ 2 _ _ _ _ sc_law_cell.nd rfl l_law_cell_2 (@pe_op _ _ _ _ _ _ _ _ (@op_add _) (@pe_op _ _ _ _ _ _ _ _ (@op_mulB _) (@pe_op _ _ _ _ _ _ _ _ (@op_mod _) (@pe_ix _ _ _ _ _ _ _ (@ix_list _) (@pe_var _ 0 _ _ rfl v_law_cell_0 dn__law_script dc__law_script) (@pe_op _ _ _ _ _ _ _ _ (@op_mod _) (@pe_op _ _ _ _ _ _ _ _ (@op_mulB _) (@pe_var _ 1 _ _ rfl v_law_cell_1 dn__law_k dc__law_k) (@pe_int _ _ _ _)) (@pe_callB _ _ _ _ _ _ _ _ _ call_len_seq g_law_cell_len M.m_len b_len (@pa_cons _ _ _ _ _ (@pe_var _ 0 _ _ rfl v_law_cell_0 dn__law_script dc__law_script) (@pa_nil _) (star1 rfl)) nn_len dn_len (star1 rfl) nost0)) (fun _ _ => rfl)) (@pe_op _ _ _ _ _ _ _ _ (@op_pow _) (@pe_int _ _ _ _) (@pe_int _ _ _ _))) (@pe_int _ _ _ _)) (@pe_op _ _ _ _ _ _ _ _ (@op_mulB _) (@pe_op _ _ _ _ _ _ _ _ (@op_mulB _) (@pe_var _ 1 _ _ rfl v_law_cell_1 dn__law_k dc__law_k) (@pe_var _ 1 _ _ rfl v_law_cell_1 dn__law_k dc__law_k)) (@pe_int _ _ _ _))) (swap1 rfl) (.inl rfl))) (@pss_nil _)) (@pss_one _ _ _ (@ps_ret _ _ _ _ (@pe_op _ _ _ _ _ _ _ _ (@op_mod _) (@pe_op _ _ _ _ _ _ _ _ (@op_mulB _) (@pe_op _ _ _ _ _ _ _ _ (@op_mod _) (@pe_var _ 2 _ _ rfl v_law_cell_2 dn__law_number dc__law_number) (@pe_int _ _ _ _)) (@pe_int _ _ _ _)) (@pe_int _ _ _ _))))))), ?_⟩
  unfold Mth.cell at q
  simp only [slots, Option.getD_some, Option.getD_none, tSeq, tAsg, gName, tOp, tC, tVar, tCB, tCons, tNil, rI, rI0, tRet, tIfS, tTest, tNext, rIxL, Kd_non, Kd_bl, Kd_int, Kd_str, decide_true, decide_false, L2.start, cxK, Int.reduceToNat, List.map_cons, List.map_nil, List.length_cons, List.length_nil, Nat.reduceAdd, Nat.reduceSub, Nat.zero_add, List.replicate_succ, List.replicate_zero, List.cons_append, List.nil_append, List.append_nil, List.getElem?_cons_zero, List.getElem?_cons_succ, List.set_cons_zero, List.set_cons_succ, Option.some.injEq, V.int.injEq, V.bl.injEq, V.ref.injEq, V.str.injEq, V.ty.injEq, List.cons.injEq, exists_eq_left', exists_eq_left, exists_eq_right, exists_and_left, exists_and_right, and_true, true_and, and_assoc, exists_const, decide_eq_true_eq, Bool.not_eq_true', Bool.not_true, Bool.not_false, Bool.not_not, decide_eq_false_iff_not, ite_not, Bool.false_eq_true, if_true, if_false, reduceCtorEq, and_false, false_and, exists_false, or_false, false_or, ↓reduceIte, eq_self, reduceIte]
  refine ⟨_, .inl hS, ?_⟩
  rw [List.length_map]
  by_cases hk : k < (ns.length : Int)
  · rw [if_pos hk]
    rw [if_pos hk] at q
    refine ⟨_, hS, _, atI_map h0 hk, cpow, _, rfl, ten_pos _, q⟩
  · rw [if_neg hk]
    rw [if_neg hk] at q
    have kk : 0 ≤ k * k ∧ k * k ≤ 1000 * 1000 := ⟨Int.mul_nonneg h0 h0, Int.mul_le_mul h1 h1 h0 (by decide)⟩
    refine ⟨cmul (by decide) (by decide) (by omega) (by omega), _, .inl hS, ?_⟩
    rw [List.length_map]
    by_cases hp : 0 < (ns.length : Int)
    · rw [if_pos hp]
      rw [if_pos hp] at q
      have hm := Int.emod_nonneg (k * 7) (show (ns.length : Int) ≠ 0 by omega)
      have hm2 := Int.emod_lt_of_pos (k * 7) hp
      have e1 := Int.emod_nonneg (ns.getD (k * 7 % (ns.length : Int)).toNat 0) (show (10 ^ 60 : Int) ≠ 0 by decide)
      have e2 := Int.emod_lt_of_pos (ns.getD (k * 7 % (ns.length : Int)).toNat 0) (show (0 : Int) < 10 ^ 60 by decide)
      have f1 := Int.emod_nonneg (ns.getD (k * 7 % (ns.length : Int)).toNat 0 % 10 ^ 60 * 48271 + k * k * 69621) (show (2147483647 : Int) ≠ 0 by decide)
      have f2 := Int.emod_lt_of_pos (ns.getD (k * 7 % (ns.length : Int)).toNat 0 % 10 ^ 60 * 48271 + k * k * 69621) (show (0 : Int) < 2147483647 by decide)
      refine ⟨cmul (by omega) (by omega) (by decide) (by decide), _, .inl hS, by rw [List.length_map]; exact hp, _, hS, _, by rw [List.length_map]; exact atI_map hm hm2, cpow, _, rfl, ten_pos _, cmul (by omega) (by omega) (by decide) (by decide), cmul (by omega) (by omega) (by omega) (by omega), cmul (by omega) (by omega) (by decide) (by decide), by decide, cmul (by omega) (by omega) (by decide) (by decide), by decide, q⟩
    · rw [if_neg hp]
      rw [if_neg hp] at q
      have e1 := Int.emod_nonneg (7919 * k + 5) (show (2147483647 : Int) ≠ 0 by decide)
      have e2 := Int.emod_lt_of_pos (7919 * k + 5) (show (0 : Int) < 2147483647 by decide)
      exact ⟨by decide, cmul (by omega) (by omega) (by decide) (by decide), by decide, q⟩
end

theorem kd_same {K : PySem.W.Frag} {H H' : Hp} {v : V} {k : Kn} (e : Same H H') (h : Kd K H v k) : Kd K H' v k := by
  cases v with
  | ref a =>
    rcases h with ⟨z, xs, h⟩ | ⟨z, xs, h⟩ | ⟨z, h⟩
    · exact .inl ⟨z, xs, e.seq h⟩
    · exact .inr (.inl ⟨z, xs, Same.tup e h⟩)
    · exact .inr (.inr ⟨z, e _ _ h⟩)
  | _ => exact h

def nameB (cs : List Nat) : Bool := decide (1 ≤ cs.length ∧ cs.length ≤ 8) && cs.all isLow
abbrev asc (cs : List Nat) : Prop := cs.all (fun c => decide (c < 128)) = true
inductive NameV (K : PySem.W.Frag) (H : Hp) : V → Bool → Prop
  | no {v : V} {k : Kn} : Kd K H v k → k ≠ .str → NameV K H v false
  | txt {cs : List Nat} : asc cs → cs.length ≤ 1000 → NameV K H (.str (txt cs)) (nameB cs)
def spIsName (K : PySem.W.Frag) : Sp := fun vs H Q _ => ∃ v b, vs = [v] ∧ NameV K H v b ∧ ∀ H', Same H H' → Q (.bl b) H'
theorem isi_str_ne {k : Kn} (h : k ≠ .str) : isiB k .str = false := by
  cases k <;> first | rfl | exact absurd rfl h
theorem txt_len (cs : List Nat) : (txt cs).length = cs.length := List.size_toArray ..
section
variable {P : Program} {w : World} {K : PySem.W.Frag} {mg : Str → Option Value} {base : Heap} {f : Addr} {fd : FuncData}
theorem ok_is_name (F : Fun K "is_name" "is_name" s_is_name f fd) (M : Mg mg) : FnOk P w K mg base CX0 1 f fd ["thing"] (spIsName K) := by
  refine F.ok sc_is_name (fun vs H Q E h => ?_) (fun cdv A outer s H vs Q E hr h => ?_)
  · obtain ⟨v, b, rfl, _⟩ := h
    rfl
  obtain ⟨v, b, rfl, N, q⟩ := h
  refine ⟨_, (@pss_cons _ _ _ _ _ (@ps_if _ _ _ _ _ _ _ _ (@PW.pt _ _ _ (@pw_or _ _ _ _ _ _ _ (@pt_not _ _ _ _ (@pt_val _ _ _ (@pe_callB _ _ _ _ _ _ _ _ _ call_isi g_is_name_isinstance M.m_isinstance b_isinstance (@pa_cons _ _ _ _ _ (@pe_var _ 0 _ _ rfl v_is_name_0 dn_thing dc_thing) (@pa_cons _ _ _ _ _ (@pe_bltn _ _ (.ty "str") _ _ g_is_name_str M.m_str b_str rfl nn_str dn_str) (@pa_nil _) (star1 rfl)) (star1 rfl)) nn_isinstance dn_isinstance (star1 rfl) (nost1 rfl nost0)) (test1 rfl))) (@pw_or1 _ _ _ _ (@pt_not _ _ _ _ (@pt_chain _ _ _ _ _ _ _ _ _ _ _ _ op_le op_le (@pe_int _ _ _ _) (@pe_callB _ _ _ _ _ _ _ _ _ call_len_str g_is_name_len M.m_len b_len (@pa_cons _ _ _ _ _ (@pe_var _ 0 _ _ rfl v_is_name_0 dn_thing dc_thing) (@pa_nil _) (star1 rfl)) nn_len dn_len (star1 rfl) nost0) (@pe_int _ _ _ _) (by with_unfolding_all rfl)))))) (@pss_one _ _ _ (@ps_ret _ _ _ _ (@pe_bl _ _ _ _))) (@pss_nil _)) (@pss_one _ _ _ (@ps_ret _ _ _ _ (@pe_callB _ _ _ _ _ _ _ _ _ (call_all1 rfl) g_is_name_all M.m_all b_all (@pa_cons _ _ _ _ _ (@pe_comp _ _ _ _ _ _ _ _ _ _ _ _ _ _ _ rfl (CompOk.make (N' := ["letter"]) (ix := []) (nl := 1) (by rfl) fm0 (by rfl) (by decide +kernel) rfl (by decide +kernel) rfl True.intro) (@pi_str _ _ _ _ (@pe_var _ 0 _ _ rfl v_is_name_0 dn_thing dc_thing)) (fun _ _ _ _ _ => (@pg_name _ _ 0 _ (show List.Nodup (["letter"] : List Str) from by decide) rfl (Or.inl rfl) (by first | exact .inl rfl | exact .inr rfl | assumption))) (fun _ _ _ _ _ => (@pif_nil _)) (fun _ _ _ _ _ => (@pe_chain _ _ _ _ _ _ _ _ _ _ _ _ op_leS op_leS (@pe_str _ _ _ _) (@pv _ 0 _ _ (by rfl) (by first | exact Or.inl rfl | exact Or.inr (Or.inl rfl) | exact Or.inr (Or.inr rfl)) (by decide) (by decide)) (@pe_str _ _ _ _) (by with_unfolding_all rfl))) (by intro _; rfl)) (@pa_nil _) (star1 rfl)) nn_all dn_all (star1 rfl) nost0)))), ?_⟩
  cases N with
  | no kd hk =>
    simp only [iStr, rLeS, tComp_eq, tComp1, slots, Option.getD_some, Option.getD_none, tYes, tSeq, gName, tC, tVar, tCB, tCons, tNil, rI0, tRet, tIfS, tTest, tB, tOr, tNot, tChain, tNext, rIsi, isi_non_bl, isi_non_int, isi_non_str, isi_non_lst, isi_non_tup, isi_bl_bl, isi_bl_int, isi_bl_str, isi_bl_lst, isi_bl_tup, isi_int_bl, isi_int_int, isi_int_str, isi_int_lst, isi_int_tup, isi_str_bl, isi_str_int, isi_str_str, isi_str_lst, isi_str_tup, isi_lst_bl, isi_lst_int, isi_lst_str, isi_lst_lst, isi_lst_tup, isi_tup_bl, isi_tup_int, isi_tup_str, isi_tup_lst, isi_tup_tup, isi_dct_bl, isi_dct_int, isi_dct_str, isi_dct_lst, isi_dct_tup, Kd_non, Kd_bl, Kd_int, Kd_str, decide_true, decide_false, tyK_int, tyK_bool, tyK_str, tyK_list, tyK_tuple, L2.start, cxK, Int.reduceToNat, List.map_cons, List.map_nil, List.length_cons, List.length_nil, Nat.reduceAdd, Nat.reduceSub, Nat.zero_add, List.replicate_succ, List.replicate_zero, List.cons_append, List.nil_append, List.append_nil, List.getElem?_cons_zero, List.getElem?_cons_succ, List.set_cons_zero, List.set_cons_succ, Option.some.injEq, V.int.injEq, V.bl.injEq, V.ref.injEq, V.str.injEq, V.ty.injEq, List.cons.injEq, exists_eq_left', exists_eq_left, exists_eq_right, exists_and_left, exists_and_right, and_true, true_and, and_assoc, exists_const, decide_eq_true_eq, Bool.not_eq_true', Bool.not_true, Bool.not_false, Bool.not_not, decide_eq_false_iff_not, ite_not, Bool.false_eq_true, if_true, if_false, reduceCtorEq, and_false, false_and, exists_false, or_false, false_or, ↓reduceIte, eq_self, reduceIte]
    refine ⟨_, kd, ?_⟩
    rw [if_pos (isi_str_ne hk)]
    exact q _ (Same.refl _)
  | @txt cs ha hn =>
    simp only [iStr, rLeS, tComp_eq, tComp1, slots, Option.getD_some, Option.getD_none, tYes, tSeq, gName, tC, tVar, tCB, tCons, tNil, rI0, tRet, tIfS, tTest, tB, tOr, tNot, tChain, tNext, rIsi, isi_non_bl, isi_non_int, isi_non_str, isi_non_lst, isi_non_tup, isi_bl_bl, isi_bl_int, isi_bl_str, isi_bl_lst, isi_bl_tup, isi_int_bl, isi_int_int, isi_int_str, isi_int_lst, isi_int_tup, isi_str_bl, isi_str_int, isi_str_str, isi_str_lst, isi_str_tup, isi_lst_bl, isi_lst_int, isi_lst_str, isi_lst_lst, isi_lst_tup, isi_tup_bl, isi_tup_int, isi_tup_str, isi_tup_lst, isi_tup_tup, isi_dct_bl, isi_dct_int, isi_dct_str, isi_dct_lst, isi_dct_tup, Kd_non, Kd_bl, Kd_int, Kd_str, decide_true, decide_false, tyK_int, tyK_bool, tyK_str, tyK_list, tyK_tuple, L2.start, cxK, Int.reduceToNat, List.map_cons, List.map_nil, List.length_cons, List.length_nil, Nat.reduceAdd, Nat.reduceSub, Nat.zero_add, List.replicate_succ, List.replicate_zero, List.cons_append, List.nil_append, List.append_nil, List.getElem?_cons_zero, List.getElem?_cons_succ, List.set_cons_zero, List.set_cons_succ, Option.some.injEq, V.int.injEq, V.bl.injEq, V.ref.injEq, V.str.injEq, V.ty.injEq, List.cons.injEq, exists_eq_left', exists_eq_left, exists_eq_right, exists_and_left, exists_and_right, and_true, true_and, and_assoc, exists_const, decide_eq_true_eq, Bool.not_eq_true', Bool.not_true, Bool.not_false, Bool.not_not, decide_eq_false_iff_not, ite_not, Bool.false_eq_true, if_true, if_false, reduceCtorEq, and_false, false_and, exists_false, or_false, false_or, ↓reduceIte, eq_self, reduceIte]
    rw [txt_len]
    have sl : cs.length ≤ sizeLine := Nat.le_trans hn (by decide)
    refine ⟨sl, ?_⟩
    by_cases h1 : 1 ≤ (cs.length : Int)
    · rw [if_pos h1]
      by_cases h2 : (cs.length : Int) ≤ 8
      · rw [if_pos h2]
        refine ⟨_, rfl, ha, fun D hD => ?_⟩
        obtain ⟨Pc, hC⟩ : ∃ Pc : Nat → St → Hp → Prop, Pc = fun i τ H' => ∃ z, H' D = some (.lst (((cs.map isLow).take i).map V.bl)) ∧ Same H H' ∧ τ = [z] := ⟨_, rfl⟩
        refine compS_str cs Pc ?_ ?_ ?_
        · rw [hC]
          exact ⟨_, upd_same, same_new hD _, rfl⟩
        · intro i c τ H' R hc h next
          rw [hC] at h
          obtain ⟨z, d1, d2, rfl⟩ := h
          have li : i < cs.length := (List.getElem?_eq_some_iff.mp hc).1
          have key : ∃ ys, H' D = some (.lst ys) ∧ ys.length < sizeLine ∧ R [some (sgn c)] (upd H' D (.lst (ys ++ [.bl (isLow c)]))) := by
            refine ⟨_, d1, ?_, next _ _ ?_⟩
            · rw [List.length_map, List.length_take, List.length_map]
              exact Nat.lt_of_lt_of_le (m := 64) (by omega) (by decide)
            · rw [hC]
              refine ⟨_, ?_, fun b o hb => by rw [upd_ne (ne_of_none hb hD)]; exact d2 _ _ hb, rfl⟩
              rw [upd_same, List.take_add_one, List.getElem?_map, hc, List.map_append]
              rfl
          simp only [iStr, rLeS, tComp_eq, tComp1, slots, Option.getD_some, Option.getD_none, tYes, tSeq, gName, tC, tVar, tCB, tCons, tNil, rI0, tRet, tIfS, tTest, tB, tOr, tNot, tChain, tNext, rIsi, isi_non_bl, isi_non_int, isi_non_str, isi_non_lst, isi_non_tup, isi_bl_bl, isi_bl_int, isi_bl_str, isi_bl_lst, isi_bl_tup, isi_int_bl, isi_int_int, isi_int_str, isi_int_lst, isi_int_tup, isi_str_bl, isi_str_int, isi_str_str, isi_str_lst, isi_str_tup, isi_lst_bl, isi_lst_int, isi_lst_str, isi_lst_lst, isi_lst_tup, isi_tup_bl, isi_tup_int, isi_tup_str, isi_tup_lst, isi_tup_tup, isi_dct_bl, isi_dct_int, isi_dct_str, isi_dct_lst, isi_dct_tup, Kd_non, Kd_bl, Kd_int, Kd_str, decide_true, decide_false, tyK_int, tyK_bool, tyK_str, tyK_list, tyK_tuple, L2.start, cxK, Int.reduceToNat, List.map_cons, List.map_nil, List.length_cons, List.length_nil, Nat.reduceAdd, Nat.reduceSub, Nat.zero_add, List.replicate_succ, List.replicate_zero, List.cons_append, List.nil_append, List.append_nil, List.getElem?_cons_zero, List.getElem?_cons_succ, List.set_cons_zero, List.set_cons_succ, Option.some.injEq, V.int.injEq, V.bl.injEq, V.ref.injEq, V.str.injEq, V.ty.injEq, List.cons.injEq, exists_eq_left', exists_eq_left, exists_eq_right, exists_and_left, exists_and_right, and_true, true_and, and_assoc, exists_const, decide_eq_true_eq, Bool.not_eq_true', Bool.not_true, Bool.not_false, Bool.not_not, decide_eq_false_iff_not, ite_not, Bool.false_eq_true, if_true, if_false, reduceCtorEq, and_false, false_and, exists_false, or_false, false_or, ↓reduceIte, eq_self, reduceIte]
          refine ⟨97, rfl, _, rfl, ?_⟩
          unfold isLow at key
          by_cases hc1 : 97 ≤ c
          · rw [decide_eq_true hc1, Bool.true_and] at key
            rw [if_pos hc1]
            exact ⟨_, rfl, 122, rfl, key⟩
          · rw [decide_eq_false hc1, Bool.false_and] at key
            rw [if_neg hc1]
            exact key
        · intro τ H' h
          rw [hC] at h
          obtain ⟨z, d1, d2, rfl⟩ := h
          rw [List.take_of_length_le (by rw [List.length_map]; exact Nat.le_refl _)] at d1
          refine ⟨_, rfl, _, SqL.of d1, ?_⟩
          have e : nameB cs = (cs.map isLow).all id := by
            unfold nameB
            rw [decide_eq_true ⟨by omega, by omega⟩, Bool.true_and, List.all_map]
            rfl
          rw [← e]
          exact q _ d2
      · rw [if_neg h2]
        have e : nameB cs = false := by
          unfold nameB
          rw [decide_eq_false (by omega)]
          rfl
        rw [← e]
        exact q _ (Same.refl _)
    · rw [if_neg h1]
      have e : nameB cs = false := by
        unfold nameB
        rw [decide_eq_false (by omega)]
        rfl
      rw [← e]
      exact q _ (Same.refl _)
end

inductive KindV (K : PySem.W.Frag) (H : Hp) : V → Bool → Prop
  | no {v : V} {k : Kn} : Kd K H v k → k ≠ .tup → KindV K H v false
  | len {p : Addr} {xs : List V} : SqT K H p xs → xs.length ≠ 2 → KindV K H (.ref p) false
  | two {p : Addr} {x y : V} {b c : Bool} : SqT K H p [x, y] → NameV K H x b → NameV K H y c → KindV K H (.ref p) (b && c)
theorem NameV.same {K : PySem.W.Frag} {H H' : Hp} {v : V} {b : Bool} (h : NameV K H v b) (e : Same H H') : NameV K H' v b := by
  cases h with
  | no a c => exact .no (kd_same e a) c
  | txt a c => exact .txt a c
theorem KindV.same {K : PySem.W.Frag} {H H' : Hp} {v : V} {b : Bool} (h : KindV K H v b) (e : Same H H') : KindV K H' v b := by
  cases h with
  | no a c => exact .no (kd_same e a) c
  | len a c => exact .len (Same.tup e a) c
  | two a c d => exact .two (Same.tup e a) (c.same e) (d.same e)
def spIsKind (K : PySem.W.Frag) : Sp := fun vs H Q _ => ∃ v b, vs = [v] ∧ KindV K H v b ∧ ∀ H', Same H H' → Q (.bl b) H'
theorem isiG_tup_ne {k : Kn} (h : k ≠ .tup) : isiB k .tup = false := by
  cases k <;> first | rfl | exact absurd rfl h
section
variable {P : Program} {w : World} {K : PySem.W.Frag} {mg : Str → Option Value} {base : Heap} {f : Addr} {fd : FuncData}
theorem ok_is_kind (F : Fun K "is_kind" "is_kind" s_is_kind f fd) (M : Mg mg) (C_is_name : Cal P w K mg base CX0 "is_name" 1 ["thing"] (spIsName K)) : FnOk P w K mg base CX0 2 f fd ["thing"] (spIsKind K) := by
  refine F.ok sc_is_kind (fun vs H Q E h => ?_) (fun cdv A outer s H vs Q E hr h => ?_)
  · obtain ⟨v, b, rfl, _⟩ := h
    rfl
  obtain ⟨v, b, rfl, N, q⟩ := h
  refine ⟨_, (@pss_cons _ _ _ _ _ (@ps_if _ _ _ _ _ _ _ _ (@PW.pt _ _ _ (@pw_or _ _ _ _ _ _ _ (@pt_not _ _ _ _ (@pt_val _ _ _ (@pe_callB _ _ _ _ _ _ _ _ _ call_isi g_is_kind_isinstance M.m_isinstance b_isinstance (@pa_cons _ _ _ _ _ (@pe_var _ 0 _ _ rfl v_is_kind_0 dn_thing dc_thing) (@pa_cons _ _ _ _ _ (@pe_bltn _ _ (.ty "tuple") _ _ g_is_kind_tuple M.m_tuple b_tuple rfl nn_tuple dn_tuple) (@pa_nil _) (star1 rfl)) (star1 rfl)) nn_isinstance dn_isinstance (star1 rfl) (nost1 rfl nost0)) (test1 rfl))) (@pw_or1 _ _ _ _ (@pt_cmpR _ _ _ _ _ _ _ _ (@op_ne _) (@pe_callB _ _ _ _ _ _ _ _ _ call_len_seq g_is_kind_len M.m_len b_len (@pa_cons _ _ _ _ _ (@pe_var _ 0 _ _ rfl v_is_kind_0 dn_thing dc_thing) (@pa_nil _) (star1 rfl)) nn_len dn_len (star1 rfl) nost0) (@pe_int _ _ _ _) (nomark _))))) (@pss_one _ _ _ (@ps_ret _ _ _ _ (@pe_bl _ _ _ _))) (@pss_nil _)) (@pss_one _ _ _ (@ps_ret _ _ _ _ (@pe_and _ _ _ _ _ _ _ (@pe_callC _ _ _ _ _ _ _ _ _ _ _ C_is_name hr g_is_kind_is_name (@pa_cons _ _ _ _ _ (@pe_ix _ _ _ _ _ _ _ (@ix_tup _) (@pe_var _ 0 _ _ rfl v_is_kind_0 dn_thing dc_thing) (@pe_int _ _ _ _) (fun _ _ => rfl)) (@pa_nil _) (star1 rfl)) (by decide) dn_is_name (star1 rfl) nost0) (@pe_one _ _ _ _ _ (@pe_callC _ _ _ _ _ _ _ _ _ _ _ C_is_name hr g_is_kind_is_name (@pa_cons _ _ _ _ _ (@pe_ix _ _ _ _ _ _ _ (@ix_tup _) (@pe_var _ 0 _ _ rfl v_is_kind_0 dn_thing dc_thing) (@pe_int _ _ _ _) (fun _ _ => rfl)) (@pa_nil _) (star1 rfl)) (by decide) dn_is_name (star1 rfl) nost0)))))), ?_⟩
  simp only [slots, Option.getD_some, Option.getD_none, tSeq, tOp, tC, tVar, tCB, tCons, tNil, tCall, tRet, tIfS, tTest, tB, tOr, tNot, tAndV, tNext, rNe, rIsi, rIxT, isi_non_bl, isi_non_int, isi_non_str, isi_non_lst, isi_non_tup, isi_bl_bl, isi_bl_int, isi_bl_str, isi_bl_lst, isi_bl_tup, isi_int_bl, isi_int_int, isi_int_str, isi_int_lst, isi_int_tup, isi_str_bl, isi_str_int, isi_str_str, isi_str_lst, isi_str_tup, isi_lst_bl, isi_lst_int, isi_lst_str, isi_lst_lst, isi_lst_tup, isi_tup_bl, isi_tup_int, isi_tup_str, isi_tup_lst, isi_tup_tup, isi_dct_bl, isi_dct_int, isi_dct_str, isi_dct_lst, isi_dct_tup, Kd_non, Kd_bl, Kd_int, Kd_str, sc_non_non, sc_non_int, sc_int_non, sc_non_bl, sc_bl_non, sc_non_str, sc_str_non, sc_int_int, sc_bl_bl, sc_str_str, sc_int_str, sc_str_int, sc_bl_str, sc_str_bl, decide_true, decide_false, tyK_int, tyK_bool, tyK_str, tyK_list, tyK_tuple, L2.start, cxK, Int.reduceToNat, List.map_cons, List.map_nil, List.length_cons, List.length_nil, Nat.reduceAdd, Nat.reduceSub, Nat.zero_add, List.replicate_succ, List.replicate_zero, List.cons_append, List.nil_append, List.append_nil, List.getElem?_cons_zero, List.getElem?_cons_succ, List.set_cons_zero, List.set_cons_succ, Option.some.injEq, V.int.injEq, V.bl.injEq, V.ref.injEq, V.str.injEq, V.ty.injEq, List.cons.injEq, exists_eq_left', exists_eq_left, exists_eq_right, exists_and_left, exists_and_right, and_true, true_and, and_assoc, exists_const, decide_eq_true_eq, Bool.not_eq_true', Bool.not_true, Bool.not_false, Bool.not_not, decide_eq_false_iff_not, ite_not, Bool.false_eq_true, if_true, if_false, reduceCtorEq, and_false, false_and, exists_false, or_false, false_or, ↓reduceIte, eq_self, reduceIte]
  cases N with
  | no kd hk =>
    refine ⟨_, kd, ?_⟩
    rw [if_pos (isiG_tup_ne hk)]
    exact q _ (Same.refl _)
  | len T hl =>
    refine ⟨_, Kd.tup T, ?_⟩
    rw [if_neg (by decide)]
    refine ⟨_, rfl, _, .inr T, ?_⟩
    rw [if_neg (by omega)]
    exact q _ (Same.refl _)
  | @two p x y b c T n1 n2 =>
    refine ⟨_, Kd.tup T, ?_⟩
    rw [if_neg (by decide)]
    refine ⟨_, rfl, _, .inr T, ?_⟩
    rw [if_pos (show (([x, y].length : Nat) : Int) = 2 from rfl)]
    refine ⟨_, rfl, _, T, _, rfl, _, _, rfl, n1, fun H1 e1 => ⟨_, rfl, ?_⟩⟩
    cases b with
    | true =>
      rw [if_pos rfl]
      exact ⟨_, rfl, _, Same.tup e1 T, _, rfl, _, _, rfl, n2.same e1, fun H2 e2 => q _ (e1.trans e2)⟩
    | false =>
      rw [if_neg (by decide)]
      exact q _ e1
end

inductive TpD (H : Hp) : List V → List (List V) → Prop
  | nil : TpD H [] []
  | cons {p : Addr} {r : List V} {xs : List V} {rs : List (List V)} : H p = some (.tup r) → TpD H xs rs → TpD H (.ref p :: xs) (r :: rs)
theorem TpD.same {H H' : Hp} {xs : List V} {rs : List (List V)} (h : TpD H xs rs) (e : Same H H') : TpD H' xs rs := by
  induction h with
  | nil => exact .nil
  | cons a _ ih => exact .cons (e _ _ a) ih
theorem TpD.upd {H : Hp} {l : Addr} {ys zs : List V} {xs : List V} {rs : List (List V)} (h : TpD H xs rs) (hl : H l = some (.lst ys)) : TpD (upd H l (.lst zs)) xs rs := by
  induction h with
  | nil => exact .nil
  | @cons p r xs rs a _ ih =>
    refine .cons ?_ ih
    have n : p ≠ l := fun e => by rw [e, hl] at a; cases a
    rw [upd_ne n]
    exact a
theorem TpD.snoc {H : Hp} {xs : List V} {rs : List (List V)} {p : Addr} {r : List V} (h : TpD H xs rs) (e : H p = some (.tup r)) : TpD H (xs ++ [.ref p]) (rs ++ [r]) := by
  induction h with
  | nil => exact .cons e .nil
  | cons a _ ih => exact .cons a ih
theorem TpD.length {H : Hp} {xs : List V} {rs : List (List V)} (h : TpD H xs rs) : xs.length = rs.length := by
  induction h with
  | nil => rfl
  | cons _ _ ih => rw [List.length_cons, List.length_cons, ih]
theorem TpD.at {H : Hp} {xs : List V} {rs : List (List V)} (h : TpD H xs rs) : ∀ {i : Nat} {r : List V}, rs[i]? = some r → ∃ p, xs[i]? = some (.ref p) ∧ H p = some (.tup r) := by
  induction h with
  | nil => intro i x e; simp at e
  | cons a _ ih =>
    intro i x e
    cases i with
    | zero => cases e; exact ⟨_, rfl, a⟩
    | succ i => exact ih e
abbrev Kd2 : Type := List Nat × List Nat
def kRow (k : Kd2) : List V := [.str (txt k.1), .str (txt k.2)]

abbrev lettersS : Str := "abcdefghijklmnopqrstuvwxyz"
theorem letters_at : ∀ r : Nat, r < 26 → lettersS.cps.toList[r]? = some (97 + r) := by decide +kernel
theorem low_of {r : Nat} (h : r < 26) : isLow (97 + r) = true := by
  unfold isLow
  rw [decide_eq_true (by omega), decide_eq_true (by omega)]
  rfl
def mix3 (n k m : Int) : Int := (n % 2147483647 + 1) * (16807 + 48271 * k * k) % 2147483629 * 69621 % 2147483587 % m
theorem mix3_in (n k : Int) {m : Int} (h : 0 < m) : 0 ≤ mix3 n k m ∧ mix3 n k m < m := ⟨Int.emod_nonneg _ (by omega), Int.emod_lt_of_pos _ h⟩
def spMix3 : Sp := fun vs H Q _ => ∃ n k m : Int, vs = [.int n, .int k, .int m] ∧ 0 ≤ k ∧ k ≤ 200 ∧ 0 < m ∧ Q (.int (mix3 n k m)) H
def spWords (K : PySem.W.Frag) : Sp := fun vs H Q _ => ∃ c : Int, vs = [.int c, .int 7] ∧ 0 ≤ c ∧ ∀ (l : Addr) (H' : Hp) (ws : List (List Nat)), Same H H' → H l = none → H' l = some (.lst (ws.map fun w => V.str (txt w))) → ws.length = 7 → (∀ w ∈ ws, nameB w = true) → Q (.ref l) H'
def spKinds3 (K : PySem.W.Frag) : Sp := fun vs H Q _ => ∃ (c : Int) (wl : Addr) (ws : List (List Nat)), vs = [.int c, .ref wl] ∧ 0 ≤ c ∧ H wl = some (.lst (ws.map fun w => V.str (txt w))) ∧ ws.length = 7 ∧ (∀ w ∈ ws, nameB w = true) ∧
  ∀ (l : Addr) (xs : List V) (ks : List Kd2) (H' : Hp), Same H H' → H l = none → H' l = some (.lst xs) → TpD H' xs (ks.map kRow) → 1 ≤ ks.length → ks.length ≤ 4 → (∀ k ∈ ks, nameB k.1 = true ∧ nameB k.2 = true) → Q (.ref l) H'
section
variable {P : Program} {w : World} {K : PySem.W.Frag} {mg : Str → Option Value} {base : Heap} {f : Addr} {fd : FuncData}
theorem ok_law_mix (F : Fun K "_law_mix" "_law_mix" s_law_mix f fd) (M : Mg mg) : FnOk P w K mg base CX0 1 f fd ["_law_number", "_law_k", "_law_many"] spMix3 := by
  refine F.ok sc_law_mix (fun vs H Q E h => ?_) (fun cdv A outer s H vs Q E hr h => ?_)
  · obtain ⟨n, k, m, rfl, _⟩ := h
    rfl
  obtain ⟨n, k, m, rfl, k0, k1, m0, q⟩ := h
  refine ⟨_, (@pss_cons _ _ _ _ _ (@ps_set _ _ 0 _ _ _ _ sc_law_mix.nd rfl l_law_mix_0 (@pe_op _ _ _ _ _ _ _ _ (@op_mod _) (@pe_op _ _ _ _ _ _ _ _ (@op_mulB _) (@pe_op _ _ _ _ _ _ _ _ (@op_add _) (@pe_op _ _ _ _ _ _ _ _ (@op_mod _) (@pe_var _ 0 _ _ rfl v_law_mix_0 dn__law_number dc__law_number) (@pe_int _ _ _ _)) (@pe_int _ _ _ _)) (@pe_op _ _ _ _ _ _ _ _ (@op_add _) (@pe_int _ _ _ _) (@pe_op _ _ _ _ _ _ _ _ (@op_mulB _) (@pe_op _ _ _ _ _ _ _ _ (@op_mulB _) (@pe_int _ _ _ _) (@pe_var _ 1 _ _ rfl v_law_mix_1 dn__law_k dc__law_k)) (@pe_var _ 1 _ _ rfl v_law_mix_1 dn__law_k dc__law_k)))) (@pe_int _ _ _ _)) (swap1 rfl) (.inl rfl)) (@pss_one _ _ _ (@ps_ret _ _ _ _ (@pe_op _ _ _ _ _ _ _ _ (@op_mod _) (@pe_op _ _ _ _ _ _ _ _ (@op_mod _) (@pe_op _ _ _ _ _ _ _ _ (@op_mulB _) (@pe_var _ 0 _ _ rfl v_law_mix_0 dn__law_number dc__law_number) (@pe_int _ _ _ _)) (@pe_int _ _ _ _)) (@pe_var _ 2 _ _ rfl v_law_mix_2 dn__law_many dc__law_many))))), ?_⟩
  simp only [slots, Option.getD_some, Option.getD_none, tSeq, tAsg, gName, tOp, tC, tVar, rI, rI0, tRet, Kd_non, Kd_bl, Kd_int, Kd_str, decide_true, decide_false, L2.start, cxK, Int.reduceToNat, List.map_cons, List.map_nil, List.length_cons, List.length_nil, Nat.reduceAdd, Nat.reduceSub, Nat.zero_add, List.replicate_succ, List.replicate_zero, List.cons_append, List.nil_append, List.append_nil, List.getElem?_cons_zero, List.getElem?_cons_succ, List.set_cons_zero, List.set_cons_succ, Option.some.injEq, V.int.injEq, V.bl.injEq, V.ref.injEq, V.str.injEq, V.ty.injEq, List.cons.injEq, exists_eq_left', exists_eq_left, exists_eq_right, exists_and_left, exists_and_right, and_true, true_and, and_assoc, exists_const, decide_eq_true_eq, Bool.not_eq_true', Bool.not_true, Bool.not_false, Bool.not_not, decide_eq_false_iff_not, ite_not, Bool.false_eq_true, if_true, if_false, reduceCtorEq, and_false, false_and, exists_false, or_false, false_or, ↓reduceIte, eq_self, reduceIte]
  have kk : 0 ≤ 48271 * k * k ∧ 48271 * k * k ≤ 48271 * 200 * 200 := ⟨Int.mul_nonneg (by omega) k0, Int.mul_le_mul (by omega) k1 k0 (by omega)⟩
  have e1 := Int.emod_nonneg n (show (2147483647 : Int) ≠ 0 by decide)
  have e2 := Int.emod_lt_of_pos n (show (0 : Int) < 2147483647 by decide)
  have f1 := Int.emod_nonneg ((n % 2147483647 + 1) * (16807 + 48271 * k * k)) (show (2147483629 : Int) ≠ 0 by decide)
  have f2 := Int.emod_lt_of_pos ((n % 2147483647 + 1) * (16807 + 48271 * k * k)) (show (0 : Int) < 2147483629 by decide)
  have big : (48271 * 200 * 200 + 2147483647 + 16807 : Int) ≤ 10 ^ 61 := by decide
  exact ⟨by decide, cmul (by decide) (by decide) (by omega) (by omega), cmul (by omega) (by omega) (by omega) (by omega), cmul (by omega) (by omega) (by omega) (by omega), by decide, cmul (by omega) (by omega) (by decide) (by decide), by decide, m0, q⟩
theorem ok_law_words (F : Fun K "_law_words" "_law_words" s_law_words f fd) (M : Mg mg) : FnOk P w K mg base CX0 1 f fd ["_law_cell_here", "_law_many"] (spWords K) := by
  refine F.ok sc_law_words (fun vs H Q E h => ?_) (fun cdv A outer s H vs Q E hr h => ?_)
  · obtain ⟨c, rfl, _⟩ := h
    rfl
  obtain ⟨c, rfl, c0, q⟩ := h
  refine ⟨_, (@pss_cons _ _ _ _ _ (@ps_set _ _ 2 _ _ _ _ sc_law_words.nd rfl l_law_words_2 (@pe_str _ _ _ _) (swap1 rfl) (.inl rfl)) (@pss_cons _ _ _ _ _ (@ps_set _ _ 3 _ _ _ _ sc_law_words.nd rfl l_law_words_3 (@pe_comp _ _ _ _ _ _ _ _ _ _ _ _ _ _ _ rfl (CompOk.make (N' := ["_law_cell_here", "_law_k"]) (ix := [0]) (nl := 1) (by rfl) (fm1 rfl fm0) (by rfl) (by decide +kernel) rfl (by decide +kernel) rfl (And.intro ⟨rfl, .inl rfl, .inl rfl⟩ True.intro)) (@pi_range1 _ _ _ _ _ _ g_law_words_range M.m_range (@pa_cons _ _ _ _ _ (@pe_int _ _ _ _) (@pa_nil _) (star1 rfl)) (star1' rfl)) (fun _ _ _ _ _ => (@pg_name _ _ 1 _ (show List.Nodup (["_law_cell_here", "_law_k"] : List Str) from by decide) rfl (Or.inl rfl) (by first | exact .inl rfl | exact .inr rfl | assumption))) (fun _ _ _ _ _ => (@pif_nil _)) (fun _ _ _ _ _ => (@pe_op _ _ _ _ _ _ _ _ (@op_mod _) (@pe_op _ _ _ _ _ _ _ _ (@op_add _) (@pe_op _ _ _ _ _ _ _ _ (@op_fdivB _) (@pe_op _ _ _ _ _ _ _ _ (@op_fdivB _) (@pv _ 0 _ _ (by rfl) (by first | exact Or.inl rfl | exact Or.inr (Or.inl rfl) | exact Or.inr (Or.inr rfl)) (by decide) (by decide)) (@pe_int _ _ _ _)) (@pe_op _ _ _ _ _ _ _ _ (@op_add _) (@pv _ 1 _ _ (by rfl) (by first | exact Or.inl rfl | exact Or.inr (Or.inl rfl) | exact Or.inr (Or.inr rfl)) (by decide) (by decide)) (@pe_int _ _ _ _))) (@pe_op _ _ _ _ _ _ _ _ (@op_mulB _) (@pv _ 1 _ _ (by rfl) (by first | exact Or.inl rfl | exact Or.inr (Or.inl rfl) | exact Or.inr (Or.inr rfl)) (by decide) (by decide)) (@pv _ 1 _ _ (by rfl) (by first | exact Or.inl rfl | exact Or.inr (Or.inl rfl) | exact Or.inr (Or.inr rfl)) (by decide) (by decide)))) (@pe_int _ _ _ _))) (by intro _; rfl)) (by rfl) (.inl rfl)) (@pss_cons _ _ _ _ _ (@ps_set _ _ 4 _ _ _ _ sc_law_words.nd rfl l_law_words_4 (@pe_op _ _ _ _ _ _ _ _ (@op_add _) (@pe_int _ _ _ _) (@pe_op _ _ _ _ _ _ _ _ (@op_mod _) (@pe_var _ 0 _ _ rfl v_law_words_0 dn__law_cell_here dc__law_cell_here) (@pe_int _ _ _ _))) (swap1 rfl) (.inl rfl)) (@pss_cons _ _ _ _ _ (@ps_set _ _ 5 _ _ _ _ sc_law_words.nd rfl l_law_words_5 (@pe_op _ _ _ _ _ _ _ _ (@op_mod _) (@pe_op _ _ _ _ _ _ _ _ (@op_fdivB _) (@pe_var _ 0 _ _ rfl v_law_words_0 dn__law_cell_here dc__law_cell_here) (@pe_int _ _ _ _)) (@pe_var _ 4 _ _ rfl v_law_words_4 dn__law_size dc__law_size)) (swap1 rfl) (.inl rfl)) (@pss_cons _ _ _ _ _ (@ps_set _ _ 6 _ _ _ _ sc_law_words.nd rfl l_law_words_6 (@pe_lst _ _ _ _ (@pa_nil _)) (swap1 rfl) (.inl rfl)) (@pss_cons _ _ _ _ _ (@ps_for _ _ _ _ _ _ _ _ PassesOwn.never rfl (@pi_range1 _ _ _ _ _ _ g_law_words_range M.m_range (@pa_cons _ _ _ _ _ (@pe_var _ 1 _ _ rfl v_law_words_1 dn__law_many dc__law_many) (@pa_nil _) (star1 rfl)) (star1' rfl)) (@pg_name _ _ 7 _ sc_law_words.nd rfl l_law_words_7 (.inl rfl)) (@pss_cons _ _ _ _ _ (@ps_set _ _ 8 _ _ _ _ sc_law_words.nd rfl l_law_words_8 (@pe_str _ _ _ _) (swap1 rfl) (.inl rfl)) (@pss_cons _ _ _ _ _ (@ps_for _ _ _ _ _ _ _ _ PassesOwn.never rfl (@pi_range1 _ _ _ _ _ _ g_law_words_range M.m_range (@pa_cons _ _ _ _ _ (@pe_var _ 4 _ _ rfl v_law_words_4 dn__law_size dc__law_size) (@pa_nil _) (star1 rfl)) (star1' rfl)) (@pg_name _ _ 9 _ sc_law_words.nd rfl l_law_words_9 (.inl rfl)) (@pss_one _ _ _ (@ps_set _ _ 8 _ _ _ _ sc_law_words.nd rfl l_law_words_8 (@pe_op _ _ _ _ _ _ _ _ op_catS (@pe_var _ 8 _ _ rfl v_law_words_8 dn__law_word dc__law_word) (@pe_ix _ _ _ _ _ _ _ ix_str (@pe_var _ 2 _ _ rfl v_law_words_2 dn__law_letters dc__law_letters) (@pe_op _ _ _ _ _ _ _ _ (@op_mod _) (@pe_op _ _ _ _ _ _ _ _ (@op_add _) (@pe_ix _ _ _ _ _ _ _ (@ix_list _) (@pe_var _ 3 _ _ rfl v_law_words_3 dn__law_base dc__law_base) (@pe_var _ 9 _ _ rfl v_law_words_9 dn__law_j dc__law_j) (fun _ _ => rfl)) (@pe_op _ _ _ _ _ _ _ _ (@op_mulB _) (@pe_var _ 7 _ _ rfl v_law_words_7 dn__law_k dc__law_k) (@pe_callTy _ _ _ _ _ _ _ _ _ call_int_bl g_law_words_int M.m_int b_int (@pa_cons _ _ _ _ _ (@pe_cmpR _ _ _ _ _ _ _ _ (@op_eq _) (@pe_var _ 9 _ _ rfl v_law_words_9 dn__law_j dc__law_j) (@pe_var _ 5 _ _ rfl v_law_words_5 dn__law_at dc__law_at) (nomark _)) (@pa_nil _) (star1 rfl)) nn_int dn_int (star1 rfl) nost0))) (@pe_int _ _ _ _)) (fun _ _ => rfl))) (swap1 rfl) (.inl rfl))) (by intro _; rfl)) (@pss_cons _ _ _ _ _ (@ps_if _ _ _ _ _ _ _ _ (@pt_cmpR _ _ _ _ _ _ _ _ (@op_eq _) (@pe_op _ _ _ _ _ _ _ _ (@op_mod _) (@pe_op _ _ _ _ _ _ _ _ (@op_fdivB _) (@pe_var _ 0 _ _ rfl v_law_words_0 dn__law_cell_here dc__law_cell_here) (@pe_int _ _ _ _)) (@pe_int _ _ _ _)) (@pe_int _ _ _ _) (nomark _)) (@pss_one _ _ _ (@ps_set _ _ 8 _ _ _ _ sc_law_words.nd rfl l_law_words_8 (@pe_bm _ _ _ _ _ _ _ _ _ _ _ _ PySem.F.plainAttrs_str PySem.F.slot_str_join PySem.F.type_str_join mt_join (@pe_str _ _ _ _) (@pa_cons _ _ _ _ _ (@pe_comp _ _ _ _ _ _ _ _ _ _ _ _ _ _ _ rfl (CompOk.make (N' := ["_law_letters", "_law_base", "_law_j"]) (ix := [2, 3]) (nl := 1) (by rfl) (fm1 rfl (fm1 rfl fm0)) (by rfl) (by decide +kernel) rfl (by decide +kernel) rfl (And.intro ⟨rfl, .inl rfl, .inl rfl⟩ (And.intro ⟨rfl, .inl rfl, .inl rfl⟩ True.intro))) (@pi_range1 _ _ _ _ _ _ g_law_words_range M.m_range (@pa_cons _ _ _ _ _ (@pe_op _ _ _ _ _ _ _ _ (@op_add _) (@pe_var _ 7 _ _ rfl v_law_words_7 dn__law_k dc__law_k) (@pe_int _ _ _ _)) (@pa_nil _) (star1 rfl)) (star1' rfl)) (fun _ _ _ _ _ => (@pg_name _ _ 2 _ (show List.Nodup (["_law_letters", "_law_base", "_law_j"] : List Str) from by decide) rfl (Or.inl rfl) (by first | exact .inl rfl | exact .inr rfl | assumption))) (fun _ _ _ _ _ => (@pif_nil _)) (fun _ _ _ _ _ => (@pe_ix _ _ _ _ _ _ _ ix_str (@pv _ 0 _ _ (by rfl) (by first | exact Or.inl rfl | exact Or.inr (Or.inl rfl) | exact Or.inr (Or.inr rfl)) (by decide) (by decide)) (@pe_ix _ _ _ _ _ _ _ (@ix_listK _ K rfl) (@pv _ 1 _ _ (by rfl) (by first | exact Or.inl rfl | exact Or.inr (Or.inl rfl) | exact Or.inr (Or.inr rfl)) (by decide) (by decide)) (@pv _ 2 _ _ (by rfl) (by first | exact Or.inl rfl | exact Or.inr (Or.inl rfl) | exact Or.inr (Or.inr rfl)) (by decide) (by decide)) (fun _ _ => rfl)) (fun _ _ => rfl))) (by intro _; rfl)) (@pa_nil _) (star1 rfl)) (by rfl) (by rfl) (by rfl) (by rfl) (by rfl)) (swap1 rfl) (.inl rfl))) (@pss_nil _)) (@pss_one _ _ _ (@ps_expr _ _ _ _ (@pe_bm _ _ _ _ _ _ _ _ _ _ _ _ PySem.F.plainAttrs_list PySem.F.slot_list_append PySem.F.type_list_append mt_append (@pe_var _ 6 _ _ rfl v_law_words_6 dn__law_words_here dc__law_words_here) (@pa_cons _ _ _ _ _ (@pe_var _ 8 _ _ rfl v_law_words_8 dn__law_word dc__law_word) (@pa_nil _) (star1 rfl)) (by rfl) (by rfl) (by rfl) (by rfl) (by rfl)) (swap1 rfl)))))) (by intro _; rfl)) (@pss_one _ _ _ (@ps_ret _ _ _ _ (@pe_var _ 6 _ _ rfl v_law_words_6 dn__law_words_here dc__law_words_here))))))))), ?_⟩
  simp only [rCatS, rJoin, tComp_eq, tComp1, slots, Option.getD_some, Option.getD_none, tYes, tSeq, tAsg, gName, tOp, tC, tVar, tCB, tCons, tNil, rI, rI0, tRet, tIfS, tTest, tDrop, tLst, tNext, tBM, rAppend, rEq, rIxL, rIxS, Kd_non, Kd_bl, Kd_int, Kd_str, sc_non_non, sc_non_int, sc_int_non, sc_non_bl, sc_bl_non, sc_non_str, sc_str_non, sc_int_int, sc_bl_bl, sc_str_str, sc_int_str, sc_str_int, sc_bl_str, sc_str_bl, decide_true, decide_false, tFor_eq, iRng1, L2.start, cxK, Int.reduceToNat, List.map_cons, List.map_nil, List.length_cons, List.length_nil, Nat.reduceAdd, Nat.reduceSub, Nat.zero_add, List.replicate_succ, List.replicate_zero, List.cons_append, List.nil_append, List.append_nil, List.getElem?_cons_zero, List.getElem?_cons_succ, List.set_cons_zero, List.set_cons_succ, Option.some.injEq, V.int.injEq, V.bl.injEq, V.ref.injEq, V.str.injEq, V.ty.injEq, List.cons.injEq, exists_eq_left', exists_eq_left, exists_eq_right, exists_and_left, exists_and_right, and_true, true_and, and_assoc, exists_const, decide_eq_true_eq, Bool.not_eq_true', Bool.not_true, Bool.not_false, Bool.not_not, decide_eq_false_iff_not, ite_not, Bool.false_eq_true, if_true, if_false, reduceCtorEq, and_false, false_and, exists_false, or_false, false_or, ↓reduceIte, eq_self, reduceIte]
  refine ⟨by decide, by decide, fun D hD => ?_⟩
  obtain ⟨Pc, hC⟩ : ∃ Pc : Nat → St → Hp → Prop, Pc = fun i τ H' => ∃ (z : Option V) (bs : List Int), H' D = some (.lst (bs.map V.int)) ∧ bs.length = i ∧ (∀ b ∈ bs, 0 ≤ b ∧ b < 26) ∧ Same H H' ∧ τ = [some (.int c), z] := ⟨_, rfl⟩
  refine compS_range Pc ?_ ?_ ?_
  · rw [hC]
    exact ⟨_, [], upd_same, rfl, (fun b hb => by cases hb), same_new hD _, rfl⟩
  · intro i τ H' R' hi h next
    rw [hC] at h
    obtain ⟨z, bs, d1, lb, b26, d2, rfl⟩ := h
    simp only [rCatS, rJoin, tComp_eq, tComp1, slots, Option.getD_some, Option.getD_none, tYes, tSeq, tAsg, gName, tOp, tC, tVar, tCB, tCons, tNil, rI, rI0, tRet, tIfS, tTest, tDrop, tLst, tNext, tBM, rAppend, rEq, rIxL, rIxS, Kd_non, Kd_bl, Kd_int, Kd_str, sc_non_non, sc_non_int, sc_int_non, sc_non_bl, sc_bl_non, sc_non_str, sc_str_non, sc_int_int, sc_bl_bl, sc_str_str, sc_int_str, sc_str_int, sc_bl_str, sc_str_bl, decide_true, decide_false, tFor_eq, iRng1, L2.start, cxK, Int.reduceToNat, List.map_cons, List.map_nil, List.length_cons, List.length_nil, Nat.reduceAdd, Nat.reduceSub, Nat.zero_add, List.replicate_succ, List.replicate_zero, List.cons_append, List.nil_append, List.append_nil, List.getElem?_cons_zero, List.getElem?_cons_succ, List.set_cons_zero, List.set_cons_succ, Option.some.injEq, V.int.injEq, V.bl.injEq, V.ref.injEq, V.str.injEq, V.ty.injEq, List.cons.injEq, exists_eq_left', exists_eq_left, exists_eq_right, exists_and_left, exists_and_right, and_true, true_and, and_assoc, exists_const, decide_eq_true_eq, Bool.not_eq_true', Bool.not_true, Bool.not_false, Bool.not_not, decide_eq_false_iff_not, ite_not, Bool.false_eq_true, if_true, if_false, reduceCtorEq, and_false, false_and, exists_false, or_false, false_or, ↓reduceIte, eq_self, reduceIte]
    have hi' : i < 8 := hi
    have e61 : (100 : Int) ≤ 10 ^ 61 := by decide
    refine ⟨cdiv (by decide) (by decide), cdiv (by omega) (by omega), cmul (by omega) (by omega) (by omega) (by omega), by decide, _, d1, by rw [List.length_map]; exact Nat.lt_of_lt_of_le (m := 64) (by omega) (by decide), next _ _ ?_⟩
    rw [hC]
    have r0 := Int.emod_nonneg (c / 8 / (0 + (i : Int) + 1) + (0 + (i : Int)) * (0 + (i : Int))) (show (26 : Int) ≠ 0 by decide)
    have r1 := Int.emod_lt_of_pos (c / 8 / (0 + (i : Int) + 1) + (0 + (i : Int)) * (0 + (i : Int))) (show (0 : Int) < 26 by decide)
    obtain ⟨bv, hbv⟩ : ∃ bv : Int, (c / 8 / (0 + (i : Int) + 1) + (0 + (i : Int)) * (0 + (i : Int))) % 26 = bv := ⟨_, rfl⟩
    rw [hbv] at r0 r1 ⊢
    refine ⟨_, bs ++ [bv], by rw [upd_same, List.map_append]; rfl, by rw [List.length_append, lb]; rfl, fun b hb => ?_, same_upd d2 hD _, rfl⟩
    rcases List.mem_append.mp hb with h | h
    · exact b26 b h
    · rw [List.mem_singleton.mp h]
      exact ⟨r0, r1⟩
  intro τ H1 h
  rw [hC] at h
  obtain ⟨z, bs, LB, lb, b26, S1, rfl⟩ := h
  clear hC Pc
  have lb8 : bs.length = 8 := lb
  obtain ⟨sz, hsz, sz1, sz8⟩ : ∃ sz : Nat, 1 + c % 8 = sz ∧ 1 ≤ sz ∧ sz ≤ 8 := ⟨(1 + c % 8).toNat, by omega, by omega, by omega⟩
  refine ⟨by decide, cdiv (by decide) (by decide), by omega, by decide, fun l hl => ⟨by decide, by decide, ?_⟩⟩
  rw [hsz]
  obtain ⟨at', hat⟩ : ∃ at' : Int, c / 8 % (sz : Int) = at' := ⟨_, rfl⟩
  rw [hat]
  obtain ⟨H2, g2, S2, LL⟩ : ∃ H2, H2 = upd H1 l (.lst []) ∧ Same H1 H2 ∧ H2 l = some (.lst []) := ⟨_, rfl, same_new hl _, upd_same⟩
  rw [← g2]
  clear g2
  have B : ∀ j : Nat, j < 8 → ∃ b : Nat, bs[j]? = some (b : Int) ∧ b < 26 := fun j hj => by
    have e := List.getElem?_eq_getElem (show j < bs.length by omega)
    have := b26 _ (List.getElem_mem (show j < bs.length by omega))
    exact ⟨(bs[j]'(by omega)).toNat, by rw [e]; congr 1; omega, by omega⟩
  obtain ⟨Pv, hP⟩ : ∃ Pv : Nat → St → Hp → Prop, Pv = fun k σ H' => ∃ (ws : List (List Nat)) (y7 y8 y9 : Option V), H' l = some (.lst (ws.map fun w => V.str (txt w))) ∧ ws.length = k ∧ (∀ w ∈ ws, nameB w = true) ∧ Same H1 H' ∧ σ = [some (V.int c), some (V.int 7), some (V.str lettersS), some (V.ref D), some (V.int sz), some (V.int at'), some (V.ref l), y7, y8, y9] := ⟨_, rfl⟩
  refine forW_range Pv ?_ ?_ ?_
  · rw [hP]
    exact ⟨[], _, _, _, LL, rfl, (fun w hw => by cases hw), S2, rfl⟩
  · intro k σ H' hk h
    rw [hP] at h
    obtain ⟨ws, y7, y8, y9, dl, lw, nw, e, rfl⟩ := h
    have hk' : k < 7 := hk
    simp only [rCatS, rJoin, tComp_eq, tComp1, slots, Option.getD_some, Option.getD_none, tYes, tSeq, tAsg, gName, tOp, tC, tVar, tCB, tCons, tNil, rI, rI0, tRet, tIfS, tTest, tDrop, tLst, tNext, tBM, rAppend, rEq, rIxL, rIxS, Kd_non, Kd_bl, Kd_int, Kd_str, sc_non_non, sc_non_int, sc_int_non, sc_non_bl, sc_bl_non, sc_non_str, sc_str_non, sc_int_int, sc_bl_bl, sc_str_str, sc_int_str, sc_str_int, sc_bl_str, sc_str_bl, decide_true, decide_false, tFor_eq, iRng1, L2.start, cxK, Int.reduceToNat, List.map_cons, List.map_nil, List.length_cons, List.length_nil, Nat.reduceAdd, Nat.reduceSub, Nat.zero_add, List.replicate_succ, List.replicate_zero, List.cons_append, List.nil_append, List.append_nil, List.getElem?_cons_zero, List.getElem?_cons_succ, List.set_cons_zero, List.set_cons_succ, Option.some.injEq, V.int.injEq, V.bl.injEq, V.ref.injEq, V.str.injEq, V.ty.injEq, List.cons.injEq, exists_eq_left', exists_eq_left, exists_eq_right, exists_and_left, exists_and_right, and_true, true_and, and_assoc, exists_const, decide_eq_true_eq, Bool.not_eq_true', Bool.not_true, Bool.not_false, Bool.not_not, decide_eq_false_iff_not, ite_not, Bool.false_eq_true, if_true, if_false, reduceCtorEq, and_false, false_and, exists_false, or_false, false_or, ↓reduceIte, eq_self, reduceIte]
    refine ⟨by omega, by omega, ?_⟩
    rw [Int.toNat_natCast]
    obtain ⟨Pw, hW⟩ : ∃ Pw : Nat → St → Hp → Prop, Pw = fun j σ H2 => ∃ (cs : List Nat) (y9 : Option V), cs.length = j ∧ cs.all isLow = true ∧ Same H' H2 ∧ σ = [some (V.int c), some (V.int 7), some (V.str lettersS), some (V.ref D), some (V.int sz), some (V.int at'), some (V.ref l), some (V.int (0 + k)), some (V.str (txt cs)), y9] := ⟨_, rfl⟩
    refine forW_range Pw ?_ ?_ ?_
    · rw [hW]
      exact ⟨[], _, rfl, rfl, Same.refl _, rfl⟩
    · intro j σ H2 hj h
      rw [hW] at h
      obtain ⟨cs, y9, lc, ac, e2, rfl⟩ := h
      obtain ⟨b, hb, b6⟩ := B j (by omega)
      simp only [rCatS, rJoin, tComp_eq, tComp1, slots, Option.getD_some, Option.getD_none, tYes, tSeq, tAsg, gName, tOp, tC, tVar, tCB, tCons, tNil, rI, rI0, tRet, tIfS, tTest, tDrop, tLst, tNext, tBM, rAppend, rEq, rIxL, rIxS, Kd_non, Kd_bl, Kd_int, Kd_str, sc_non_non, sc_non_int, sc_int_non, sc_non_bl, sc_bl_non, sc_non_str, sc_str_non, sc_int_int, sc_bl_bl, sc_str_str, sc_int_str, sc_str_int, sc_bl_str, sc_str_bl, decide_true, decide_false, tFor_eq, iRng1, L2.start, cxK, Int.reduceToNat, List.map_cons, List.map_nil, List.length_cons, List.length_nil, Nat.reduceAdd, Nat.reduceSub, Nat.zero_add, List.replicate_succ, List.replicate_zero, List.cons_append, List.nil_append, List.append_nil, List.getElem?_cons_zero, List.getElem?_cons_succ, List.set_cons_zero, List.set_cons_succ, Option.some.injEq, V.int.injEq, V.bl.injEq, V.ref.injEq, V.str.injEq, V.ty.injEq, List.cons.injEq, exists_eq_left', exists_eq_left, exists_eq_right, exists_and_left, exists_and_right, and_true, true_and, and_assoc, exists_const, decide_eq_true_eq, Bool.not_eq_true', Bool.not_true, Bool.not_false, Bool.not_not, decide_eq_false_iff_not, ite_not, Bool.false_eq_true, if_true, if_false, reduceCtorEq, and_false, false_and, exists_false, or_false, false_or, ↓reduceIte, eq_self, reduceIte]
      have LB2 := (e.trans e2) _ _ LB
      have aj : atI (bs.map V.int) (0 + (j : Int)) = some (.int (b : Int)) := by
        rw [Int.zero_add]
        exact atI_nat (by rw [List.getElem?_map, hb]; rfl)
      have e61 : (100 : Int) ≤ 10 ^ 61 := by decide
      have m0 := Int.emod_nonneg ((b : Int) + (0 + (k : Int)) * if 0 + (j : Int) = at' then 1 else 0) (show (26 : Int) ≠ 0 by decide)
      have m1 := Int.emod_lt_of_pos ((b : Int) + (0 + (k : Int)) * if 0 + (j : Int) = at' then 1 else 0) (show (0 : Int) < 26 by decide)
      obtain ⟨r, hr', r6⟩ : ∃ r : Nat, ((b : Int) + (0 + (k : Int)) * if 0 + (j : Int) = at' then 1 else 0) % 26 = r ∧ r < 26 := ⟨(((b : Int) + (0 + (k : Int)) * if 0 + (j : Int) = at' then 1 else 0) % 26).toNat, by omega, by omega⟩
      refine ⟨_, SqL.of LB2, _, aj, cmul (by omega) (by omega) (by split <;> omega) (by split <;> omega), _, rfl, by decide, by decide, 97 + r, (by rw [hr']; exact atI_nat (letters_at r r6)), _, rfl, [97 + r], rfl, by show _ + 1 ≤ 1000; omega, ?_⟩
      rw [hW]
      refine ⟨cs ++ [97 + r], _, by rw [List.length_append, lc]; rfl, ?_, e2, rfl⟩
      rw [List.all_append, ac, List.all_cons, low_of r6]
      rfl
    intro σ H2 h
    rw [hW] at h
    obtain ⟨cs, y9, lc, ac, e2, rfl⟩ := h
    clear hW Pw
    have nn : nameB cs = true := by
      unfold nameB
      rw [decide_eq_true (by omega), ac]
      rfl
    simp only [rCatS, rJoin, tComp_eq, tComp1, slots, Option.getD_some, Option.getD_none, tYes, tSeq, tAsg, gName, tOp, tC, tVar, tCB, tCons, tNil, rI, rI0, tRet, tIfS, tTest, tDrop, tLst, tNext, tBM, rAppend, rEq, rIxL, rIxS, Kd_non, Kd_bl, Kd_int, Kd_str, sc_non_non, sc_non_int, sc_int_non, sc_non_bl, sc_bl_non, sc_non_str, sc_str_non, sc_int_int, sc_bl_bl, sc_str_str, sc_int_str, sc_str_int, sc_bl_str, sc_str_bl, decide_true, decide_false, tFor_eq, iRng1, L2.start, cxK, Int.reduceToNat, List.map_cons, List.map_nil, List.length_cons, List.length_nil, Nat.reduceAdd, Nat.reduceSub, Nat.zero_add, List.replicate_succ, List.replicate_zero, List.cons_append, List.nil_append, List.append_nil, List.getElem?_cons_zero, List.getElem?_cons_succ, List.set_cons_zero, List.set_cons_succ, Option.some.injEq, V.int.injEq, V.bl.injEq, V.ref.injEq, V.str.injEq, V.ty.injEq, List.cons.injEq, exists_eq_left', exists_eq_left, exists_eq_right, exists_and_left, exists_and_right, and_true, true_and, and_assoc, exists_const, decide_eq_true_eq, Bool.not_eq_true', Bool.not_true, Bool.not_false, Bool.not_not, decide_eq_false_iff_not, ite_not, Bool.false_eq_true, if_true, if_false, reduceCtorEq, and_false, false_and, exists_false, or_false, false_or, ↓reduceIte, eq_self, reduceIte]
    refine ⟨cdiv (by decide) (by decide), by decide, ?_⟩
    have dl2 := e2 _ _ dl
    have lenw : (ws.map fun w => V.str (txt w)).length < sizeLine := by
      rw [List.length_map]
      exact Nat.lt_of_lt_of_le (m := 64) (by omega) (by decide)
    by_cases h64 : c / 64 % 4 = 1
    · rw [if_pos h64]
      refine ⟨rfl, by omega, by omega, fun D2 hD2 => ?_⟩
      have ek : (0 + (k : Int) + 1).toNat = k + 1 := by omega
      rw [ek]
      obtain ⟨Pd, hQ⟩ : ∃ Pd : Nat → St → Hp → Prop, Pd = fun j τ H3 => ∃ (z : Option V) (ds : List Nat), H3 D2 = some (.lst (ds.map sgn)) ∧ ds.length = j ∧ ds.all isLow = true ∧ Same H2 H3 ∧ τ = [some (.str lettersS), some (.ref D), z] := ⟨_, rfl⟩
      refine compS_range Pd ?_ ?_ ?_
      · rw [hQ]
        exact ⟨_, [], upd_same, rfl, rfl, same_new hD2 _, rfl⟩
      · intro j τ H3 R' hj h next
        rw [hQ] at h
        obtain ⟨z, ds, c1, ld, ad, c2, rfl⟩ := h
        obtain ⟨b, hb, b6⟩ := B j (by omega)
        have LB3 := (e.trans (e2.trans c2)) _ _ LB
        have aj : atI (bs.map V.int) (0 + (j : Int)) = some (.int (b : Int)) := by
          rw [Int.zero_add]
          exact atI_nat (by rw [List.getElem?_map, hb]; rfl)
        simp only [rCatS, rJoin, tComp_eq, tComp1, slots, Option.getD_some, Option.getD_none, tYes, tSeq, tAsg, gName, tOp, tC, tVar, tCB, tCons, tNil, rI, rI0, tRet, tIfS, tTest, tDrop, tLst, tNext, tBM, rAppend, rEq, rIxL, rIxS, Kd_non, Kd_bl, Kd_int, Kd_str, sc_non_non, sc_non_int, sc_int_non, sc_non_bl, sc_bl_non, sc_non_str, sc_str_non, sc_int_int, sc_bl_bl, sc_str_str, sc_int_str, sc_str_int, sc_bl_str, sc_str_bl, decide_true, decide_false, tFor_eq, iRng1, L2.start, cxK, Int.reduceToNat, List.map_cons, List.map_nil, List.length_cons, List.length_nil, Nat.reduceAdd, Nat.reduceSub, Nat.zero_add, List.replicate_succ, List.replicate_zero, List.cons_append, List.nil_append, List.append_nil, List.getElem?_cons_zero, List.getElem?_cons_succ, List.set_cons_zero, List.set_cons_succ, Option.some.injEq, V.int.injEq, V.bl.injEq, V.ref.injEq, V.str.injEq, V.ty.injEq, List.cons.injEq, exists_eq_left', exists_eq_left, exists_eq_right, exists_and_left, exists_and_right, and_true, true_and, and_assoc, exists_const, decide_eq_true_eq, Bool.not_eq_true', Bool.not_true, Bool.not_false, Bool.not_not, decide_eq_false_iff_not, ite_not, Bool.false_eq_true, if_true, if_false, reduceCtorEq, and_false, false_and, exists_false, or_false, false_or, ↓reduceIte, eq_self, reduceIte]
        refine ⟨_, SqL.of LB3, _, aj, _, rfl, by decide, 97 + b, atI_nat (letters_at b b6), _, c1, by rw [List.length_map]; exact Nat.lt_of_lt_of_le (m := 64) (by omega) (by decide), next _ _ ?_⟩
        rw [hQ]
        refine ⟨_, ds ++ [97 + b], ?_, by rw [List.length_append, ld]; rfl, ?_, same_upd c2 hD2 _, rfl⟩
        · rw [upd_same, List.map_append]
          rfl
        · rw [List.all_append, ad, List.all_cons, low_of b6]
          rfl
      intro τ H3 h
      rw [hQ] at h
      obtain ⟨z, ds, c1, ld, ad, c2, rfl⟩ := h
      have nd : nameB ds = true := by
        unfold nameB
        rw [decide_eq_true (by omega), ad]
        rfl
      refine ⟨_, rfl, ds, SqL.of c1, by omega, .inl ⟨rfl, _, SqL.of (c2 _ _ dl2)⟩, _, c2 _ _ dl2, lenw, ?_⟩
      rw [hP]
      refine ⟨ws ++ [ds], _, _, _, by rw [upd_same, List.map_append]; rfl, by rw [List.length_append, lw]; rfl, fun w hw => ?_, same_upd (e.trans (e2.trans c2)) hl _, rfl⟩
      rcases List.mem_append.mp hw with h | h
      · exact nw w h
      · rw [List.mem_singleton.mp h]
        exact nd
    · rw [if_neg h64]
      refine ⟨.inl ⟨rfl, _, SqL.of dl2⟩, _, dl2, lenw, ?_⟩
      rw [hP]
      refine ⟨ws ++ [cs], _, _, _, by rw [upd_same, List.map_append]; rfl, by rw [List.length_append, lw]; rfl, fun w hw => ?_, same_upd (e.trans e2) hl _, rfl⟩
      rcases List.mem_append.mp hw with h | h
      · exact nw w h
      · rw [List.mem_singleton.mp h]
        exact nn
  · intro σ H' h
    rw [hP] at h
    obtain ⟨ws, y7, y8, y9, dl, lw, nw, e, rfl⟩ := h
    simp only [rCatS, rJoin, tComp_eq, tComp1, slots, Option.getD_some, Option.getD_none, tYes, tSeq, tAsg, gName, tOp, tC, tVar, tCB, tCons, tNil, rI, rI0, tRet, tIfS, tTest, tDrop, tLst, tNext, tBM, rAppend, rEq, rIxL, rIxS, Kd_non, Kd_bl, Kd_int, Kd_str, sc_non_non, sc_non_int, sc_int_non, sc_non_bl, sc_bl_non, sc_non_str, sc_str_non, sc_int_int, sc_bl_bl, sc_str_str, sc_int_str, sc_str_int, sc_bl_str, sc_str_bl, decide_true, decide_false, tFor_eq, iRng1, L2.start, cxK, Int.reduceToNat, List.map_cons, List.map_nil, List.length_cons, List.length_nil, Nat.reduceAdd, Nat.reduceSub, Nat.zero_add, List.replicate_succ, List.replicate_zero, List.cons_append, List.nil_append, List.append_nil, List.getElem?_cons_zero, List.getElem?_cons_succ, List.set_cons_zero, List.set_cons_succ, Option.some.injEq, V.int.injEq, V.bl.injEq, V.ref.injEq, V.str.injEq, V.ty.injEq, List.cons.injEq, exists_eq_left', exists_eq_left, exists_eq_right, exists_and_left, exists_and_right, and_true, true_and, and_assoc, exists_const, decide_eq_true_eq, Bool.not_eq_true', Bool.not_true, Bool.not_false, Bool.not_not, decide_eq_false_iff_not, ite_not, Bool.false_eq_true, if_true, if_false, reduceCtorEq, and_false, false_and, exists_false, or_false, false_or, ↓reduceIte, eq_self, reduceIte]
    exact q _ _ ws (S1.trans e) (S1.free hl) dl lw nw
theorem ok_law_kinds (F : Fun K "_law_kinds" "_law_kinds" s_law_kinds f fd) (M : Mg mg) : FnOk P w K mg base CX0 1 f fd ["_law_cell_here", "_law_words_here"] (spKinds3 K) := by
  refine F.ok sc_law_kinds (fun vs H Q E h => ?_) (fun cdv A outer s H vs Q E hr h => ?_)
  · obtain ⟨c, wl, ws, rfl, _⟩ := h
    rfl
  obtain ⟨c, wl, ws, rfl, c0, LW, lw, nw, q⟩ := h
  refine ⟨_, (@pss_cons _ _ _ _ _ (@ps_set _ _ 2 _ _ _ _ sc_law_kinds.nd rfl l_law_kinds_2 (@pe_menu _ _ _ _ _ _ _ (@pa_cons _ _ _ _ _ (@pe_int _ _ _ _) (@pa_cons _ _ _ _ _ (@pe_int _ _ _ _) (@pa_cons _ _ _ _ _ (@pe_int _ _ _ _) (@pa_cons _ _ _ _ _ (@pe_int _ _ _ _) (@pa_cons _ _ _ _ _ (@pe_int _ _ _ _) (@pa_cons _ _ _ _ _ (@pe_int _ _ _ _) (@pa_cons _ _ _ _ _ (@pe_int _ _ _ _) (@pa_cons _ _ _ _ _ (@pe_int _ _ _ _) (@pa_cons _ _ _ _ _ (@pe_int _ _ _ _) (@pa_cons _ _ _ _ _ (@pe_int _ _ _ _) (@pa_cons _ _ _ _ _ (@pe_int _ _ _ _) (@pa_nil _) (star1 rfl)) (star1 rfl)) (star1 rfl)) (star1 rfl)) (star1 rfl)) (star1 rfl)) (star1 rfl)) (star1 rfl)) (star1 rfl)) (star1 rfl)) (star1 rfl)) (@pe_op _ _ _ _ _ _ _ _ (@op_mod _) (@pe_var _ 0 _ _ rfl v_law_kinds_0 dn__law_cell_here dc__law_cell_here) (@pe_int _ _ _ _)) (fun _ _ => rfl)) (swap1 rfl) (.inl rfl)) (@pss_cons _ _ _ _ _ (@ps_set _ _ 3 _ _ _ _ sc_law_kinds.nd rfl l_law_kinds_3 (@pe_menu _ _ _ _ _ _ _ (@pa_cons _ _ _ _ _ (@pe_int _ _ _ _) (@pa_cons _ _ _ _ _ (@pe_int _ _ _ _) (@pa_cons _ _ _ _ _ (@pe_int _ _ _ _) (@pa_cons _ _ _ _ _ (@pe_int _ _ _ _) (@pa_cons _ _ _ _ _ (@pe_int _ _ _ _) (@pa_cons _ _ _ _ _ (@pe_int _ _ _ _) (@pa_nil _) (star1 rfl)) (star1 rfl)) (star1 rfl)) (star1 rfl)) (star1 rfl)) (star1 rfl)) (@pe_op _ _ _ _ _ _ _ _ (@op_mod _) (@pe_op _ _ _ _ _ _ _ _ (@op_fdivB _) (@pe_var _ 0 _ _ rfl v_law_kinds_0 dn__law_cell_here dc__law_cell_here) (@pe_int _ _ _ _)) (@pe_int _ _ _ _)) (fun _ _ => rfl)) (swap1 rfl) (.inl rfl)) (@pss_cons _ _ _ _ _ (@ps_set _ _ 4 _ _ _ _ sc_law_kinds.nd rfl l_law_kinds_4 (@pe_menu _ _ _ _ _ _ _ (@pa_cons _ _ _ _ _ (@pe_int _ _ _ _) (@pa_cons _ _ _ _ _ (@pe_int _ _ _ _) (@pa_cons _ _ _ _ _ (@pe_int _ _ _ _) (@pa_nil _) (star1 rfl)) (star1 rfl)) (star1 rfl)) (@pe_op _ _ _ _ _ _ _ _ (@op_mod _) (@pe_op _ _ _ _ _ _ _ _ (@op_fdivB _) (@pe_var _ 0 _ _ rfl v_law_kinds_0 dn__law_cell_here dc__law_cell_here) (@pe_int _ _ _ _)) (@pe_int _ _ _ _)) (fun _ _ => rfl)) (swap1 rfl) (.inl rfl)) (@pss_cons _ _ _ _ _ (@ps_set _ _ 5 _ _ _ _ sc_law_kinds.nd rfl l_law_kinds_5 (@pe_lst _ _ _ _ (@pa_nil _)) (swap1 rfl) (.inl rfl)) (@pss_cons _ _ _ _ _ (@ps_for _ _ _ _ _ _ _ _ PassesOwn.never rfl (@pi_range1 _ _ _ _ _ _ g_law_kinds_range M.m_range (@pa_cons _ _ _ _ _ (@pe_var _ 2 _ _ rfl v_law_kinds_2 dn__law_many dc__law_many) (@pa_nil _) (star1 rfl)) (star1' rfl)) (@pg_name _ _ 6 _ sc_law_kinds.nd rfl l_law_kinds_6 (.inl rfl)) (@pss_cons _ _ _ _ _ (@ps_set _ _ 7 _ _ _ _ sc_law_kinds.nd rfl l_law_kinds_7 (@pe_op _ _ _ _ _ _ _ _ (@op_mod _) (@pe_op _ _ _ _ _ _ _ _ (@op_add _) (@pe_op _ _ _ _ _ _ _ _ (@op_fdivB _) (@pe_var _ 0 _ _ rfl v_law_kinds_0 dn__law_cell_here dc__law_cell_here) (@pe_int _ _ _ _)) (@pe_op _ _ _ _ _ _ _ _ (@op_mulB _) (@pe_var _ 6 _ _ rfl v_law_kinds_6 dn__law_k dc__law_k) (@pe_var _ 3 _ _ rfl v_law_kinds_3 dn__law_step dc__law_step))) (@pe_int _ _ _ _)) (swap1 rfl) (.inl rfl)) (@pss_one _ _ _ (@ps_expr _ _ _ _ (@pe_bm _ _ _ _ _ _ _ _ _ _ _ _ PySem.F.plainAttrs_list PySem.F.slot_list_append PySem.F.type_list_append mt_append (@pe_var _ 5 _ _ rfl v_law_kinds_5 dn__law_kinds_here dc__law_kinds_here) (@pa_cons _ _ _ _ _ (@pe_tup _ _ _ _ _ (@pa_cons _ _ _ _ _ (@pe_ix _ _ _ _ _ _ _ (@ix_list _) (@pe_var _ 1 _ _ rfl v_law_kinds_1 dn__law_words_here dc__law_words_here) (@pe_op _ _ _ _ _ _ _ _ (@op_mod _) (@pe_var _ 7 _ _ rfl v_law_kinds_7 dn__law_place dc__law_place) (@pe_int _ _ _ _)) (fun _ _ => rfl)) (@pa_cons _ _ _ _ _ (@pe_ix _ _ _ _ _ _ _ (@ix_list _) (@pe_var _ 1 _ _ rfl v_law_kinds_1 dn__law_words_here dc__law_words_here) (@pe_op _ _ _ _ _ _ _ _ (@op_add _) (@pe_var _ 4 _ _ rfl v_law_kinds_4 dn__law_shift dc__law_shift) (@pe_op _ _ _ _ _ _ _ _ (@op_fdivB _) (@pe_var _ 7 _ _ rfl v_law_kinds_7 dn__law_place dc__law_place) (@pe_int _ _ _ _))) (fun _ _ => rfl)) (@pa_nil _) (star1 rfl)) (star1 rfl))) (@pa_nil _) (star1 rfl)) (by rfl) (by rfl) (by rfl) (by rfl) (by rfl)) (swap1 rfl)))) (by intro _; rfl)) (@pss_one _ _ _ (@ps_ret _ _ _ _ (@pe_var _ 5 _ _ rfl v_law_kinds_5 dn__law_kinds_here dc__law_kinds_here)))))))), ?_⟩
  simp only [slots, Option.getD_some, Option.getD_none, tSeq, tAsg, gName, tOp, tC, tVar, tCons, tNil, rI, rI0, tRet, tMenu, tDrop, tTup, tLst, tBM, rAppend, rIxL, Kd_non, Kd_bl, Kd_int, Kd_str, decide_true, decide_false, tFor_eq, iRng1, L2.start, cxK, Int.reduceToNat, List.map_cons, List.map_nil, List.length_cons, List.length_nil, Nat.reduceAdd, Nat.reduceSub, Nat.zero_add, List.replicate_succ, List.replicate_zero, List.cons_append, List.nil_append, List.append_nil, List.getElem?_cons_zero, List.getElem?_cons_succ, List.set_cons_zero, List.set_cons_succ, Option.some.injEq, V.int.injEq, V.bl.injEq, V.ref.injEq, V.str.injEq, V.ty.injEq, List.cons.injEq, exists_eq_left', exists_eq_left, exists_eq_right, exists_and_left, exists_and_right, and_true, true_and, and_assoc, exists_const, decide_eq_true_eq, Bool.not_eq_true', Bool.not_true, Bool.not_false, Bool.not_not, decide_eq_false_iff_not, ite_not, Bool.false_eq_true, if_true, if_false, reduceCtorEq, and_false, false_and, exists_false, or_false, false_or, ↓reduceIte, eq_self, reduceIte]
  obtain ⟨mv, hmv, m1, m4⟩ : ∃ mv : Nat, [V.int 2, V.int 3, V.int 1, V.int 2, V.int 3, V.int 2, V.int 3, V.int 2, V.int 3, V.int 4, V.int 3][(c % 11).toNat]? = some (.int (mv : Int)) ∧ 1 ≤ mv ∧ mv ≤ 4 := by
    have : c % 11 = 0 ∨ c % 11 = 1 ∨ c % 11 = 2 ∨ c % 11 = 3 ∨ c % 11 = 4 ∨ c % 11 = 5 ∨ c % 11 = 6 ∨ c % 11 = 7 ∨ c % 11 = 8 ∨ c % 11 = 9 ∨ c % 11 = 10 := by omega
    rcases this with e | e | e | e | e | e | e | e | e | e | e <;> rw [e]
    · exact ⟨2, rfl, by decide, by decide⟩
    · exact ⟨3, rfl, by decide, by decide⟩
    · exact ⟨1, rfl, by decide, by decide⟩
    · exact ⟨2, rfl, by decide, by decide⟩
    · exact ⟨3, rfl, by decide, by decide⟩
    · exact ⟨2, rfl, by decide, by decide⟩
    · exact ⟨3, rfl, by decide, by decide⟩
    · exact ⟨2, rfl, by decide, by decide⟩
    · exact ⟨3, rfl, by decide, by decide⟩
    · exact ⟨4, rfl, by decide, by decide⟩
    · exact ⟨3, rfl, by decide, by decide⟩
  obtain ⟨st, hst, s1, s8⟩ : ∃ st : Int, [V.int 1, V.int 2, V.int 4, V.int 5, V.int 7, V.int 8][(c / 11 % 6).toNat]? = some (.int st) ∧ 1 ≤ st ∧ st ≤ 8 := by
    have : c / 11 % 6 = 0 ∨ c / 11 % 6 = 1 ∨ c / 11 % 6 = 2 ∨ c / 11 % 6 = 3 ∨ c / 11 % 6 = 4 ∨ c / 11 % 6 = 5 := by omega
    rcases this with e | e | e | e | e | e <;> rw [e]
    · exact ⟨1, rfl, by decide, by decide⟩
    · exact ⟨2, rfl, by decide, by decide⟩
    · exact ⟨4, rfl, by decide, by decide⟩
    · exact ⟨5, rfl, by decide, by decide⟩
    · exact ⟨7, rfl, by decide, by decide⟩
    · exact ⟨8, rfl, by decide, by decide⟩
  obtain ⟨sf, hsf, f0, f3⟩ : ∃ sf : Int, [V.int 3, V.int 3, V.int 0][(c / 66 % 3).toNat]? = some (.int sf) ∧ 0 ≤ sf ∧ sf ≤ 3 := by
    have : c / 66 % 3 = 0 ∨ c / 66 % 3 = 1 ∨ c / 66 % 3 = 2 := by omega
    rcases this with e | e | e <;> rw [e]
    · exact ⟨3, rfl, by decide, by decide⟩
    · exact ⟨3, rfl, by decide, by decide⟩
    · exact ⟨0, rfl, by decide, by decide⟩
  refine ⟨by decide, by decide, by omega, _, hmv, by decide, cdiv (by decide) (by decide), by decide, by omega, _, hst, by decide, cdiv (by decide) (by decide), by decide, by omega, _, hsf, by decide, fun l hl => ⟨_, rfl, by omega, by omega, ?_⟩⟩
  rw [Int.toNat_natCast]
  have wat : ∀ j : Nat, j < 7 → ∃ u : List Nat, ws[j]? = some u ∧ nameB u = true := fun j hj => ⟨ws[j]'(by omega), List.getElem?_eq_getElem _, nw _ (List.getElem_mem _)⟩
  obtain ⟨Pv, hP⟩ : ∃ Pv : Nat → St → Hp → Prop, Pv = fun i σ H' => ∃ (xs : List V) (ks : List Kd2) (y6 y7 : Option V), H' l = some (.lst xs) ∧ TpD H' xs (ks.map kRow) ∧ ks.length = i ∧ (∀ k ∈ ks, nameB k.1 = true ∧ nameB k.2 = true) ∧ Same H H' ∧ σ = [some (V.int c), some (V.ref wl), some (V.int mv), some (V.int st), some (V.int sf), some (V.ref l), y6, y7] := ⟨_, rfl⟩
  refine forW_range Pv ?_ ?_ ?_
  · rw [hP]
    exact ⟨[], [], _, _, upd_same, .nil, rfl, (fun k hk => by cases hk), same_new hl _, rfl⟩
  · intro i σ H' hi h
    rw [hP] at h
    obtain ⟨xs, ks, y6, y7, dl, td, lks, nk, e, rfl⟩ := h
    simp only [slots, Option.getD_some, Option.getD_none, tSeq, tAsg, gName, tOp, tC, tVar, tCons, tNil, rI, rI0, tRet, tMenu, tDrop, tTup, tLst, tBM, rAppend, rIxL, Kd_non, Kd_bl, Kd_int, Kd_str, decide_true, decide_false, tFor_eq, iRng1, L2.start, cxK, Int.reduceToNat, List.map_cons, List.map_nil, List.length_cons, List.length_nil, Nat.reduceAdd, Nat.reduceSub, Nat.zero_add, List.replicate_succ, List.replicate_zero, List.cons_append, List.nil_append, List.append_nil, List.getElem?_cons_zero, List.getElem?_cons_succ, List.set_cons_zero, List.set_cons_succ, Option.some.injEq, V.int.injEq, V.bl.injEq, V.ref.injEq, V.str.injEq, V.ty.injEq, List.cons.injEq, exists_eq_left', exists_eq_left, exists_eq_right, exists_and_left, exists_and_right, and_true, true_and, and_assoc, exists_const, decide_eq_true_eq, Bool.not_eq_true', Bool.not_true, Bool.not_false, Bool.not_not, decide_eq_false_iff_not, ite_not, Bool.false_eq_true, if_true, if_false, reduceCtorEq, and_false, false_and, exists_false, or_false, false_or, ↓reduceIte, eq_self, reduceIte]
    have p0 := Int.emod_nonneg (c / 198 + (0 + (i : Int)) * st) (show (9 : Int) ≠ 0 by decide)
    have p1 := Int.emod_lt_of_pos (c / 198 + (0 + (i : Int)) * st) (show (0 : Int) < 9 by decide)
    obtain ⟨pl, hpl⟩ : ∃ pl : Int, (c / 198 + (0 + (i : Int)) * st) % 9 = pl := ⟨_, rfl⟩
    have e61 : (100 : Int) ≤ 10 ^ 61 := by decide
    refine ⟨cdiv (by decide) (by decide), cmul (by omega) (by omega) (by omega) (by omega), by decide, ?_⟩
    rw [hpl] at p0 p1 ⊢
    obtain ⟨a1, h1⟩ : ∃ a1 : Nat, pl % 3 = a1 := ⟨(pl % 3).toNat, by omega⟩
    obtain ⟨a2, h2⟩ : ∃ a2 : Nat, sf + pl / 3 = a2 := ⟨(sf + pl / 3).toNat, by omega⟩
    obtain ⟨u1, hu1, n1⟩ := wat a1 (by omega)
    obtain ⟨u2, hu2, n2⟩ := wat a2 (by omega)
    have LW' := e _ _ LW
    have len := td.length
    rw [List.length_map] at len
    refine ⟨.inl ⟨rfl, _, SqL.of dl⟩, by decide, _, SqL.of LW', _, (by rw [h1]; exact atI_nat (by rw [List.getElem?_map, hu1]; rfl)), cdiv (by decide) (by decide), _, SqL.of LW', _, (by rw [h2]; exact atI_nat (by rw [List.getElem?_map, hu2]; rfl)), by decide, fun t ht => ?_⟩
    obtain ⟨H2, g2, S2, T2⟩ : ∃ H2, H2 = upd H' t (.tup (kRow (u1, u2))) ∧ Same H' H2 ∧ H2 t = some (.tup (kRow (u1, u2))) := ⟨_, rfl, same_new ht _, upd_same⟩
    have g2' : H2 = upd H' t (.tup [V.str (txt u1), V.str (txt u2)]) := g2
    rw [← g2']
    clear g2 g2'
    refine ⟨_, S2 _ _ dl, Nat.lt_of_lt_of_le (m := 64) (by omega) (by decide), ?_⟩
    rw [hP]
    refine ⟨_, ks ++ [(u1, u2)], _, _, upd_same, ?_, by rw [List.length_append, lks]; rfl, fun k hk => ?_, same_upd (e.trans S2) hl _, rfl⟩
    · rw [List.map_append]
      exact ((td.same S2).snoc T2).upd (S2 _ _ dl)
    · rcases List.mem_append.mp hk with h | h
      · exact nk k h
      · rw [List.mem_singleton.mp h]
        exact ⟨n1, n2⟩
  · intro σ H' h
    rw [hP] at h
    obtain ⟨xs, ks, y6, y7, dl, td, lks, nk, e, rfl⟩ := h
    simp only [slots, Option.getD_some, Option.getD_none, tSeq, tAsg, gName, tOp, tC, tVar, tCons, tNil, rI, rI0, tRet, tMenu, tDrop, tTup, tLst, tBM, rAppend, rIxL, Kd_non, Kd_bl, Kd_int, Kd_str, decide_true, decide_false, tFor_eq, iRng1, L2.start, cxK, Int.reduceToNat, List.map_cons, List.map_nil, List.length_cons, List.length_nil, Nat.reduceAdd, Nat.reduceSub, Nat.zero_add, List.replicate_succ, List.replicate_zero, List.cons_append, List.nil_append, List.append_nil, List.getElem?_cons_zero, List.getElem?_cons_succ, List.set_cons_zero, List.set_cons_succ, Option.some.injEq, V.int.injEq, V.bl.injEq, V.ref.injEq, V.str.injEq, V.ty.injEq, List.cons.injEq, exists_eq_left', exists_eq_left, exists_eq_right, exists_and_left, exists_and_right, and_true, true_and, and_assoc, exists_const, decide_eq_true_eq, Bool.not_eq_true', Bool.not_true, Bool.not_false, Bool.not_not, decide_eq_false_iff_not, ite_not, Bool.false_eq_true, if_true, if_false, reduceCtorEq, and_false, false_and, exists_false, or_false, false_or, ↓reduceIte, eq_self, reduceIte]
    exact q _ _ _ _ e hl dl td (by omega) (by omega) nk
end

abbrev okKind (k : Kd2) : Prop := nameB k.1 = true ∧ nameB k.2 = true
theorem name_asc {cs : List Nat} (h : nameB cs = true) : asc cs ∧ cs.length ≤ 8 := by
  unfold nameB at h
  rw [Bool.and_eq_true, decide_eq_true_iff] at h
  refine ⟨List.all_eq_true.mpr fun c hc => decide_eq_true ?_, h.1.2⟩
  have := List.all_eq_true.mp h.2 c hc
  unfold isLow at this
  rw [Bool.and_eq_true, decide_eq_true_iff, decide_eq_true_iff] at this
  omega
theorem name_v {K : PySem.W.Frag} {H : Hp} {cs : List Nat} (h : nameB cs = true) : NameV K H (.str (txt cs)) true := by
  have a := name_asc h
  have := NameV.txt (K := K) (H := H) a.1 (show cs.length ≤ 1000 by omega)
  rwa [h] at this
def kD (k : Kd2) : PyData := .tuple [.str (txt k.1), .str (txt k.2)]
theorem rep_kind {K : PySem.W.Frag} {H : Hp} {p : Addr} {k : Kd2} (h : SqT K H p (kRow k)) : Rep K H (.ref p) (kD k) := .tup h (.cons (.str _) (.cons (.str _) .nil))
theorem flat_kind {k : Kd2} (h : okKind k) : flatD (kD k) := by
  have sk : ∀ {cs : List Nat}, nameB cs = true → PyData.canLay0 (.str (txt cs)) = true := fun {cs} hn => by
    have a := (name_asc hn).1
    show (txt cs).cps.all (· < 0x110000) = true
    rw [List.all_toArray, List.all_eq_true]
    intro c hc
    have := of_decide_eq_true (List.all_eq_true.mp a c hc)
    exact decide_eq_true (by omega)
  refine ⟨?_, by show max 0 (max 0 0) + 1 ≤ 40; decide⟩
  show (PyData.canLay0 (.str (txt k.1)) && (PyData.canLay0 (.str (txt k.2)) && true)) = true
  rw [sk h.1, sk h.2]
  rfl
theorem txt_inj {a b : List Nat} : (txt a == txt b) = decide (a = b) := by
  by_cases h : a = b
  · subst h
    rw [decide_eq_true rfl]
    exact beq_self_eq_true _
  · rw [decide_eq_false h]
    refine beq_false_of_ne fun e => h ?_
    have := congrArg (fun s : Str => s.cps.toList) e
    simpa using this
theorem eqv_kind (k k' : Kd2) : PyData.eqv (kD k) (kD k') = decide (k = k') := by
  obtain ⟨a, b⟩ := k
  obtain ⟨c, d⟩ := k'
  show ((txt a == txt c) && ((txt b == txt d) && true)) = _
  rw [txt_inj, txt_inj]
  by_cases h1 : a = c <;> by_cases h2 : b = d <;> simp [h1, h2]
theorem rEqD_kind {K : PySem.W.Frag} {H : Hp} {p q : Addr} {k k' : Kd2} {neg : Bool} {Q : VK} (h1 : SqT K H p (kRow k)) (h2 : SqT K H q (kRow k')) (o1 : okKind k) (o2 : okKind k') (hq : Q (.bl (if neg then !decide (k = k') else decide (k = k'))) H) : rEqD K neg (.ref p) (.ref q) H Q :=
  ⟨_, _, rep_kind h1, rep_kind h2, flat_kind o1, flat_kind o2, by rw [eqv_kind]; exact hq⟩

inductive KnA (K : PySem.W.Frag) (H : Hp) : List V → List Kd2 → Prop
  | nil : KnA K H [] []
  | cons {p : Addr} {k : Kd2} {xs : List V} {ks : List Kd2} : SqT K H p (kRow k) → KnA K H xs ks → KnA K H (.ref p :: xs) (k :: ks)
theorem KnA.same {K : PySem.W.Frag} {H H' : Hp} {xs : List V} {ks : List Kd2} (h : KnA K H xs ks) (e : Same H H') : KnA K H' xs ks := by
  induction h with
  | nil => exact .nil
  | cons a _ ih => exact .cons (Same.tup e a) ih
theorem KnA.length {K : PySem.W.Frag} {H : Hp} {xs : List V} {ks : List Kd2} (h : KnA K H xs ks) : xs.length = ks.length := by
  induction h with
  | nil => rfl
  | cons _ _ ih => rw [List.length_cons, List.length_cons, ih]
theorem KnA.at {K : PySem.W.Frag} {H : Hp} {xs : List V} {ks : List Kd2} (h : KnA K H xs ks) : ∀ {i : Nat} {x : V}, xs[i]? = some x → ∃ p k, x = .ref p ∧ ks[i]? = some k ∧ SqT K H p (kRow k) := by
  induction h with
  | nil => intro i x e; simp at e
  | cons a _ ih =>
    intro i x e
    cases i with
    | zero => cases e; exact ⟨_, _, rfl, rfl, a⟩
    | succ i => exact ih e
theorem KnA.rep {K : PySem.W.Frag} {H : Hp} {xs : List V} {ks : List Kd2} (h : KnA K H xs ks) : RepAll K H xs (ks.map kD) := by
  induction h with
  | nil => exact .nil
  | cons a _ ih => exact .cons (rep_kind a) ih
theorem TpD.kna {K : PySem.W.Frag} {H : Hp} : ∀ {ks : List Kd2} {xs : List V}, TpD H xs (ks.map kRow) → KnA K H xs ks
  | [], _, .nil => .nil
  | k :: ks, _, .cons a t => .cons (SqT.of a) (TpD.kna t)
theorem flat_kinds : ∀ {ks : List Kd2}, (∀ k ∈ ks, okKind k) → PyData.canLayAll0 (ks.map kD) = true ∧ PyData.depthAll (ks.map kD) ≤ 1
  | [], _ => ⟨rfl, by decide⟩
  | k :: ks, h => by
    obtain ⟨a, b⟩ := flat_kinds fun k' hk => h k' (List.mem_cons_of_mem _ hk)
    have f := flat_kind (h k (List.mem_cons_self ..))
    refine ⟨?_, ?_⟩
    · show (PyData.canLay0 (kD k) && PyData.canLayAll0 (ks.map kD)) = true
      rw [f.1, a]
      rfl
    · show max (max 0 (max 0 0) + 1) (PyData.depthAll (ks.map kD)) ≤ 1
      omega
theorem any_kind (k : Kd2) : ∀ ks : List Kd2, ((ks.map kD).any fun y => PyData.eqv y (kD k)) = decide (k ∈ ks)
  | [] => rfl
  | c :: ks => by
    rw [List.map_cons, List.any_cons, any_kind k ks, eqv_kind]
    by_cases h : c = k
    · subst h
      simp
    · rw [decide_eq_false h, Bool.false_or]
      by_cases h2 : k ∈ ks
      · rw [decide_eq_true h2, decide_eq_true (List.mem_cons_of_mem _ h2)]
      · rw [decide_eq_false h2, decide_eq_false (by simp only [List.mem_cons, not_or]; exact ⟨fun e => h e.symm, h2⟩)]
theorem rInD_kind {K : PySem.W.Frag} {H : Hp} {p l : Addr} {k : Kd2} {xs : List V} {ks : List Kd2} {neg : Bool} {Q : VK} (h1 : SqT K H p (kRow k)) (o1 : okKind k) (L : SqL K H l xs) (A : KnA K H xs ks) (ok : ∀ k ∈ ks, okKind k) (hq : Q (.bl (if neg then !decide (k ∈ ks) else decide (k ∈ ks))) H) : rInD K neg (.ref p) (.ref l) H Q := by
  obtain ⟨f1, f2⟩ := flat_kinds ok
  refine ⟨l, kD k, ks.map kD, rfl, rep_kind h1, .inl (.lst L A.rep), flat_kind o1, ⟨f1, ?_⟩, ?_⟩
  · show PyData.depthAll (ks.map kD) + 1 ≤ 40
    omega
  · rw [any_kind]
    exact hq

inductive Nt where
  | any
  | made (s : List Nat)
  | used (s : List Nat)
  | chief (s : List Nat)
  | over (a b : Kd2)
  | both (x y : Nt)
  | either (x y : Nt)
  | but (x y : Nt)
def Nt.dp : Nt → Nat
  | .both x y => max x.dp y.dp + 1
  | .either x y => max x.dp y.dp + 1
  | .but x y => max x.dp y.dp + 1
  | _ => 1
def Nt.ok : Nt → Prop
  | .any => True
  | .made s => nameB s = true
  | .used s => nameB s = true
  | .chief s => nameB s = true
  | .over a b => okKind a ∧ okKind b
  | .both x y => x.ok ∧ y.ok
  | .either x y => x.ok ∧ y.ok
  | .but x y => x.ok ∧ y.ok
def Nt.data : Nt → PyData
  | .any => .tuple [.str "any"]
  | .made s => .tuple [.str "made", .str (txt s)]
  | .used s => .tuple [.str "used", .str (txt s)]
  | .chief s => .tuple [.str "chief", .str (txt s)]
  | .over a b => .tuple [.str "over", kD a, kD b]
  | .both x y => .tuple [.str "both", x.data, y.data]
  | .either x y => .tuple [.str "either", x.data, y.data]
  | .but x y => .tuple [.str "but", x.data, y.data]
theorem Nt.dp_pos (n : Nt) : 1 ≤ n.dp := by
  cases n <;> (unfold Nt.dp; omega)
abbrev ToldAt (K : PySem.W.Frag) (H : Hp) (v : V) (n : Nt) : Prop := Rep K H v n.data
theorem knA_snoc {K : PySem.W.Frag} {H : Hp} {xs : List V} {ks : List Kd2} {p : Addr} {k : Kd2} (h : KnA K H xs ks) (T : SqT K H p (kRow k)) : KnA K H (xs ++ [.ref p]) (ks ++ [k]) := by
  induction h with
  | nil => exact .cons T .nil
  | cons a _ ih => exact .cons a ih
def spPlain (K : PySem.W.Frag) : Sp := fun vs H Q _ => ∃ (c : Int) (kl wl : Addr) (kx : List V) (ks : List Kd2) (ws : List (List Nat)), vs = [.int c, .ref kl, .ref wl] ∧ H kl = some (.lst kx) ∧ KnA K H kx ks ∧ 1 ≤ ks.length ∧ ks.length ≤ 4 ∧ (∀ k ∈ ks, okKind k) ∧ H wl = some (.lst (ws.map fun w => V.str (txt w))) ∧ ws.length = 7 ∧ (∀ w ∈ ws, nameB w = true) ∧
  ∀ (p : Addr) (H' : Hp) (n : Nt), Same H H' → ToldAt K H' (.ref p) n → n.ok → n.dp = 1 → Q (.ref p) H'
section
variable {P : Program} {w : World} {K : PySem.W.Frag} {mg : Str → Option Value} {base : Heap} {f : Addr} {fd : FuncData}
theorem ok_law_plain (F : Fun K "_law_plain" "_law_plain" s_law_plain f fd) (M : Mg mg) (C_law_mix : Cal P w K mg base CX0 "_law_mix" 1 ["_law_number", "_law_k", "_law_many"] spMix3) : FnOk P w K mg base CX0 2 f fd ["_law_number", "_law_kinds_here", "_law_words_here"] (spPlain K) := by
  refine F.ok sc_law_plain (fun vs H Q E h => ?_) (fun cdv A outer s H vs Q E hr h => ?_)
  · obtain ⟨c, kl, wl, kx, ks, ws, rfl, _⟩ := h
    rfl
  obtain ⟨c, kl, wl, kx, ks, ws, rfl, LK, KA, k1, k4, okk, LW, lw, nw, q⟩ := h
  have lk := KA.length
  refine ⟨_, (@pss_cons _ _ _ _ _ (@ps_set _ _ 3 _ _ _ _ sc_law_plain.nd rfl l_law_plain_3 (@pe_callC _ _ _ _ _ _ _ _ _ _ _ C_law_mix hr g_law_plain__law_mix (@pa_cons _ _ _ _ _ (@pe_var _ 0 _ _ rfl v_law_plain_0 dn__law_number dc__law_number) (@pa_cons _ _ _ _ _ (@pe_int _ _ _ _) (@pa_cons _ _ _ _ _ (@pe_int _ _ _ _) (@pa_nil _) (star1 rfl)) (star1 rfl)) (star1 rfl)) (by decide) dn__law_mix (star1 rfl) (nost1 rfl (nost1 rfl nost0))) (swap1 rfl) (.inl rfl)) (@pss_cons _ _ _ _ _ (@ps_set _ _ 4 _ _ _ _ sc_law_plain.nd rfl l_law_plain_4 (@pe_ix _ _ _ _ _ _ _ (@ix_list _) (@pe_var _ 2 _ _ rfl v_law_plain_2 dn__law_words_here dc__law_words_here) (@pe_callC _ _ _ _ _ _ _ _ _ _ _ C_law_mix hr g_law_plain__law_mix (@pa_cons _ _ _ _ _ (@pe_var _ 0 _ _ rfl v_law_plain_0 dn__law_number dc__law_number) (@pa_cons _ _ _ _ _ (@pe_int _ _ _ _) (@pa_cons _ _ _ _ _ (@pe_int _ _ _ _) (@pa_nil _) (star1 rfl)) (star1 rfl)) (star1 rfl)) (by decide) dn__law_mix (star1 rfl) (nost1 rfl (nost1 rfl nost0))) (fun _ _ => rfl)) (swap1 rfl) (.inl rfl)) (@pss_cons _ _ _ _ _ (@ps_set _ _ 5 _ _ _ _ sc_law_plain.nd rfl l_law_plain_5 (@pe_op _ _ _ _ _ _ _ _ (@op_cat _) (@pe_var _ 1 _ _ rfl v_law_plain_1 dn__law_kinds_here dc__law_kinds_here) (@pe_lst _ _ _ _ (@pa_cons _ _ _ _ _ (@pe_tup _ _ _ _ _ (@pa_cons _ _ _ _ _ (@pe_ix _ _ _ _ _ _ _ (@ix_list _) (@pe_var _ 2 _ _ rfl v_law_plain_2 dn__law_words_here dc__law_words_here) (@pe_int _ _ _ _) (fun _ _ => rfl)) (@pa_cons _ _ _ _ _ (@pe_ix _ _ _ _ _ _ _ (@ix_list _) (@pe_var _ 2 _ _ rfl v_law_plain_2 dn__law_words_here dc__law_words_here) (@pe_int _ _ _ _) (fun _ _ => rfl)) (@pa_nil _) (star1 rfl)) (star1 rfl))) (@pa_nil _) (star1 rfl)))) (swap1 rfl) (.inl rfl)) (@pss_cons _ _ _ _ _ (@ps_if _ _ _ _ _ _ _ _ (@pt_cmpR _ _ _ _ _ _ _ _ (@op_lt _) (@pe_var _ 3 _ _ rfl v_law_plain_3 dn__law_way dc__law_way) (@pe_int _ _ _ _) (nomark _)) (@pss_one _ _ _ (@ps_ret _ _ _ _ (@pe_menu _ _ _ _ _ _ _ (@pa_cons _ _ _ _ _ (@pe_tup _ _ _ _ _ (@pa_cons _ _ _ _ _ (@pe_str _ _ _ _) (@pa_nil _) (star1 rfl))) (@pa_cons _ _ _ _ _ (@pe_tup _ _ _ _ _ (@pa_cons _ _ _ _ _ (@pe_str _ _ _ _) (@pa_cons _ _ _ _ _ (@pe_var _ 4 _ _ rfl v_law_plain_4 dn__law_name dc__law_name) (@pa_nil _) (star1 rfl)) (star1 rfl))) (@pa_cons _ _ _ _ _ (@pe_tup _ _ _ _ _ (@pa_cons _ _ _ _ _ (@pe_str _ _ _ _) (@pa_cons _ _ _ _ _ (@pe_var _ 4 _ _ rfl v_law_plain_4 dn__law_name dc__law_name) (@pa_nil _) (star1 rfl)) (star1 rfl))) (@pa_cons _ _ _ _ _ (@pe_tup _ _ _ _ _ (@pa_cons _ _ _ _ _ (@pe_str _ _ _ _) (@pa_cons _ _ _ _ _ (@pe_var _ 4 _ _ rfl v_law_plain_4 dn__law_name dc__law_name) (@pa_nil _) (star1 rfl)) (star1 rfl))) (@pa_cons _ _ _ _ _ (@pe_tup _ _ _ _ _ (@pa_cons _ _ _ _ _ (@pe_str _ _ _ _) (@pa_cons _ _ _ _ _ (@pe_var _ 4 _ _ rfl v_law_plain_4 dn__law_name dc__law_name) (@pa_nil _) (star1 rfl)) (star1 rfl))) (@pa_cons _ _ _ _ _ (@pe_tup _ _ _ _ _ (@pa_cons _ _ _ _ _ (@pe_str _ _ _ _) (@pa_cons _ _ _ _ _ (@pe_var _ 4 _ _ rfl v_law_plain_4 dn__law_name dc__law_name) (@pa_nil _) (star1 rfl)) (star1 rfl))) (@pa_nil _) (star1 rfl)) (star1 rfl)) (star1 rfl)) (star1 rfl)) (star1 rfl)) (star1 rfl)) (@pe_var _ 3 _ _ rfl v_law_plain_3 dn__law_way dc__law_way) (fun _ _ => rfl)))) (@pss_nil _)) (@pss_cons _ _ _ _ _ (@ps_set _ _ 6 _ _ _ _ sc_law_plain.nd rfl l_law_plain_6 (@pe_ix _ _ _ _ _ _ _ (@ix_list _) (@pe_var _ 5 _ _ rfl v_law_plain_5 dn__law_some dc__law_some) (@pe_callC _ _ _ _ _ _ _ _ _ _ _ C_law_mix hr g_law_plain__law_mix (@pa_cons _ _ _ _ _ (@pe_var _ 0 _ _ rfl v_law_plain_0 dn__law_number dc__law_number) (@pa_cons _ _ _ _ _ (@pe_int _ _ _ _) (@pa_cons _ _ _ _ _ (@pe_callB _ _ _ _ _ _ _ _ _ call_len_seq g_law_plain_len M.m_len b_len (@pa_cons _ _ _ _ _ (@pe_var _ 5 _ _ rfl v_law_plain_5 dn__law_some dc__law_some) (@pa_nil _) (star1 rfl)) nn_len dn_len (star1 rfl) nost0) (@pa_nil _) (star1 rfl)) (star1 rfl)) (star1 rfl)) (by decide) dn__law_mix (star1 rfl) (nost1 rfl (nost1 rfl nost0))) (fun _ _ => rfl)) (swap1 rfl) (.inl rfl)) (@pss_one _ _ _ (@ps_ret _ _ _ _ (@pe_tup _ _ _ _ _ (@pa_cons _ _ _ _ _ (@pe_str _ _ _ _) (@pa_cons _ _ _ _ _ (@pe_var _ 6 _ _ rfl v_law_plain_6 dn__law_one dc__law_one) (@pa_cons _ _ _ _ _ (@pe_ix _ _ _ _ _ _ _ (@ix_list _) (@pe_var _ 5 _ _ rfl v_law_plain_5 dn__law_some dc__law_some) (@pe_callC _ _ _ _ _ _ _ _ _ _ _ C_law_mix hr g_law_plain__law_mix (@pa_cons _ _ _ _ _ (@pe_var _ 0 _ _ rfl v_law_plain_0 dn__law_number dc__law_number) (@pa_cons _ _ _ _ _ (@pe_int _ _ _ _) (@pa_cons _ _ _ _ _ (@pe_callB _ _ _ _ _ _ _ _ _ call_len_seq g_law_plain_len M.m_len b_len (@pa_cons _ _ _ _ _ (@pe_var _ 5 _ _ rfl v_law_plain_5 dn__law_some dc__law_some) (@pa_nil _) (star1 rfl)) nn_len dn_len (star1 rfl) nost0) (@pa_nil _) (star1 rfl)) (star1 rfl)) (star1 rfl)) (by decide) dn__law_mix (star1 rfl) (nost1 rfl (nost1 rfl nost0))) (fun _ _ => rfl)) (@pa_nil _) (star1 rfl)) (star1 rfl)) (star1 rfl)))))))))), ?_⟩
  simp only [slots, Option.getD_some, Option.getD_none, tSeq, tAsg, gName, tOp, tC, tVar, tCB, tCons, tNil, tCall, rI0, tRet, tIfS, tTest, tMenu, tTup, tLst, tNext, rIxL, Kd_non, Kd_bl, Kd_int, Kd_str, decide_true, decide_false, L2.start, cxK, Int.reduceToNat, List.map_cons, List.map_nil, List.length_cons, List.length_nil, Nat.reduceAdd, Nat.reduceSub, Nat.zero_add, List.replicate_succ, List.replicate_zero, List.cons_append, List.nil_append, List.append_nil, List.getElem?_cons_zero, List.getElem?_cons_succ, List.set_cons_zero, List.set_cons_succ, Option.some.injEq, V.int.injEq, V.bl.injEq, V.ref.injEq, V.str.injEq, V.ty.injEq, List.cons.injEq, exists_eq_left', exists_eq_left, exists_eq_right, exists_and_left, exists_and_right, and_true, true_and, and_assoc, exists_const, decide_eq_true_eq, Bool.not_eq_true', Bool.not_true, Bool.not_false, Bool.not_not, decide_eq_false_iff_not, ite_not, Bool.false_eq_true, if_true, if_false, reduceCtorEq, and_false, false_and, exists_false, or_false, false_or, ↓reduceIte, eq_self, reduceIte]
  have i9 := mix3_in c 1 (show (0 : Int) < 9 by decide)
  have i7 := mix3_in c 2 (show (0 : Int) < 7 by decide)
  refine ⟨_, _, _, rfl, by decide, by decide, by decide, _, _, _, rfl, by decide, by decide, by decide, ?_⟩
  obtain ⟨wy, hwy⟩ : ∃ wy : Int, mix3 c 1 9 = wy := ⟨_, rfl⟩
  rw [hwy] at i9 ⊢
  obtain ⟨j, hj⟩ : ∃ j : Nat, mix3 c 2 7 = j := ⟨(mix3 c 2 7).toNat, by omega⟩
  rw [hj] at i7 ⊢
  have wat : ∀ j : Nat, j < 7 → ∃ u : List Nat, (ws.map fun w => V.str (txt w))[j]? = some (V.str (txt u)) ∧ nameB u = true := fun j hj => ⟨ws[j]'(by omega), by rw [List.getElem?_map, List.getElem?_eq_getElem (by omega)]; rfl, nw _ (List.getElem_mem _)⟩
  obtain ⟨nm, hnm, nn⟩ := wat j (by omega)
  obtain ⟨w6, h6, n6⟩ := wat 6 (by decide)
  obtain ⟨w0, h0, n0⟩ := wat 0 (by decide)
  refine ⟨_, _, rfl, SqL.of LW, _, atI_nat hnm, _, SqL.of LW, _, (show atI _ ((6 : Nat) : Int) = some _ from atI_nat h6), _, SqL.of LW, _, (show atI _ ((0 : Nat) : Int) = some _ from atI_nat h0), by decide, fun p hp => ?_⟩
  obtain ⟨H3, g3, S3, T3⟩ := fresh_tup (K := K) hp (kRow (w6, w0))
  have g3' : H3 = upd H p (.tup [V.str (txt w6), V.str (txt w0)]) := g3
  rw [← g3']
  clear g3 g3'
  refine ⟨by decide, fun p1 hp1 => ?_⟩
  obtain ⟨H4, g4, S4, L4⟩ : ∃ H4, H4 = upd H3 p1 (.lst [V.ref p]) ∧ Same H3 H4 ∧ H4 p1 = some (.lst [V.ref p]) := ⟨_, rfl, same_new hp1 _, upd_same⟩
  rw [← g4]
  clear g4
  refine ⟨kl, p1, kx, [V.ref p], rfl, rfl, S4 _ _ (S3 _ _ LK), L4, Nat.le_trans (m := 64) (by show kx.length + 1 ≤ 64; omega) (by decide), fun sl hsl => ?_⟩
  obtain ⟨H5, g5, S5, L5⟩ : ∃ H5, H5 = upd H4 sl (.lst (kx ++ [V.ref p])) ∧ Same H4 H5 ∧ H5 sl = some (.lst (kx ++ [V.ref p])) := ⟨_, rfl, same_new hsl _, upd_same⟩
  rw [← g5]
  clear g5
  have S05 := S3.trans (S4.trans S5)
  have KA5 : KnA K H5 (kx ++ [V.ref p]) (ks ++ [(w6, w0)]) := knA_snoc (KA.same S05) (Same.tup (S4.trans S5) T3)
  have ok5 : ∀ k ∈ ks ++ [(w6, w0)], okKind k := fun k hk => by
    rcases List.mem_append.mp hk with h | h
    · exact okk k h
    · rw [List.mem_singleton.mp h]
      exact ⟨n6, n0⟩
  refine ⟨_, rfl, ?_⟩
  by_cases h6' : wy < 6
  · rw [if_pos h6']
    refine ⟨by decide, fun t0 ht0 => ?_⟩
    obtain ⟨H6, g6, S6, T6⟩ := fresh_tup (K := K) ht0 [V.str (Str.ofString "any")]
    rw [← g6]
    clear g6
    refine ⟨by decide, fun t1 ht1 => ?_⟩
    obtain ⟨H7, g7, S7, T7⟩ := fresh_tup (K := K) ht1 [V.str (Str.ofString "made"), V.str (txt nm)]
    rw [← g7]
    clear g7
    refine ⟨by decide, fun t2 ht2 => ?_⟩
    obtain ⟨H8, g8, S8, T8⟩ := fresh_tup (K := K) ht2 [V.str (Str.ofString "used"), V.str (txt nm)]
    rw [← g8]
    clear g8
    refine ⟨by decide, fun t3 ht3 => ?_⟩
    obtain ⟨H9, g9, S9, T9⟩ := fresh_tup (K := K) ht3 [V.str (Str.ofString "chief"), V.str (txt nm)]
    rw [← g9]
    clear g9
    refine ⟨by decide, fun t4 ht4 => ?_⟩
    obtain ⟨H10, g10, S10, T10⟩ := fresh_tup (K := K) ht4 [V.str (Str.ofString "made"), V.str (txt nm)]
    rw [← g10]
    clear g10
    refine ⟨by decide, fun t5 ht5 => ?_⟩
    obtain ⟨H11, g11, S11, T11⟩ := fresh_tup (K := K) ht5 [V.str (Str.ofString "used"), V.str (txt nm)]
    rw [← g11]
    clear g11
    obtain ⟨i, hi, li⟩ : ∃ i : Nat, wy = i ∧ i < 6 := ⟨wy.toNat, by omega, by omega⟩
    have S511 : Same H5 H11 := S6.trans (S7.trans (S8.trans (S9.trans (S10.trans (S11)))))
    have all : ∀ v ∈ [V.ref t0, V.ref t1, V.ref t2, V.ref t3, V.ref t4, V.ref t5], ∃ (t : Addr) (n : Nt), v = .ref t ∧ ToldAt K H11 (.ref t) n ∧ n.ok ∧ n.dp = 1 := by
      simp only [List.forall_mem_cons]
      exact ⟨⟨_, .any, rfl, .tup (Same.tup (S7.trans (S8.trans (S9.trans (S10.trans (S11))))) T6) (.cons (.str _) .nil), trivial, rfl⟩,
        ⟨_, .made nm, rfl, .tup (Same.tup (S8.trans (S9.trans (S10.trans (S11)))) T7) (.cons (.str _) (.cons (.str _) .nil)), nn, rfl⟩,
        ⟨_, .used nm, rfl, .tup (Same.tup (S9.trans (S10.trans (S11))) T8) (.cons (.str _) (.cons (.str _) .nil)), nn, rfl⟩,
        ⟨_, .chief nm, rfl, .tup (Same.tup (S10.trans (S11)) T9) (.cons (.str _) (.cons (.str _) .nil)), nn, rfl⟩,
        ⟨_, .made nm, rfl, .tup (Same.tup (S11) T10) (.cons (.str _) (.cons (.str _) .nil)), nn, rfl⟩,
        ⟨_, .used nm, rfl, .tup (Same.tup (Same.refl _) T11) (.cons (.str _) (.cons (.str _) .nil)), nn, rfl⟩, fun _ h => by cases h⟩
    obtain ⟨v, hv⟩ : ∃ v, ([V.ref t0, V.ref t1, V.ref t2, V.ref t3, V.ref t4, V.ref t5] : List V)[i]? = some v := ⟨_, List.getElem?_eq_getElem (by show i < 6; omega)⟩
    obtain ⟨t, n, rfl, R, o, d⟩ := all v (List.mem_of_getElem? hv)
    exact ⟨by decide, _, rfl, by omega, _, (by rw [hi, Int.toNat_natCast]; exact hv), q _ _ n (S05.trans S511) R o d⟩
  · rw [if_neg h6']
    have ll : (kx ++ [V.ref p]).length = kx.length + 1 := by rw [List.length_append]; rfl
    have j3 := mix3_in c 3 (show (0 : Int) < ((kx ++ [V.ref p]).length : Int) by omega)
    have j4 := mix3_in c 4 (show (0 : Int) < ((kx ++ [V.ref p]).length : Int) by omega)
    obtain ⟨m3, hm3⟩ : ∃ m : Nat, mix3 c 3 ((kx ++ [V.ref p]).length : Int) = m := ⟨(mix3 c 3 ((kx ++ [V.ref p]).length : Int)).toNat, by omega⟩
    obtain ⟨m4, hm4⟩ : ∃ m : Nat, mix3 c 4 ((kx ++ [V.ref p]).length : Int) = m := ⟨(mix3 c 4 ((kx ++ [V.ref p]).length : Int)).toNat, by omega⟩
    obtain ⟨x3, hx3⟩ : ∃ x, (kx ++ [V.ref p])[m3]? = some x := ⟨_, List.getElem?_eq_getElem (by omega)⟩
    obtain ⟨x4, hx4⟩ : ∃ x, (kx ++ [V.ref p])[m4]? = some x := ⟨_, List.getElem?_eq_getElem (by omega)⟩
    obtain ⟨a3, c3, rfl, hc3, Tc3⟩ := KA5.at hx3
    obtain ⟨a4, c4, rfl, hc4, Tc4⟩ := KA5.at hx4
    refine ⟨_, rfl, _, .inl (SqL.of L5), _, _, _, rfl, by decide, by decide, by omega, _, rfl, _, _, rfl, SqL.of L5, _, (by rw [hm3]; exact atI_nat hx3), _, rfl, _, .inl (SqL.of L5), _, _, _, rfl, by decide, by decide, by omega, _, rfl, _, _, rfl, SqL.of L5, _, (by rw [hm4]; exact atI_nat hx4), by decide, fun t ht => ?_⟩
    exact q _ _ (.over c3 c4) (S05.trans (same_new ht _)) (.tup (SqT.of upd_same) (.cons (.str _) (.cons (rep_kind (Same.tup (same_new ht _) Tc3)) (.cons (rep_kind (Same.tup (same_new ht _) Tc4)) .nil)))) ⟨ok5 _ (List.mem_of_getElem? hc3), ok5 _ (List.mem_of_getElem? hc4)⟩ rfl
def spNoteG (K : PySem.W.Frag) (d : Nat) : Sp := fun vs H Q _ => ∃ (c : Int) (kl wl : Addr) (kx : List V) (ks : List Kd2) (ws : List (List Nat)), vs = [.int c, .int (d : Int), .ref kl, .ref wl] ∧ 1 ≤ d ∧ H kl = some (.lst kx) ∧ KnA K H kx ks ∧ 1 ≤ ks.length ∧ ks.length ≤ 4 ∧ (∀ k ∈ ks, okKind k) ∧ H wl = some (.lst (ws.map fun w => V.str (txt w))) ∧ ws.length = 7 ∧ (∀ w ∈ ws, nameB w = true) ∧
  ∀ (p : Addr) (H' : Hp) (n : Nt), Same H H' → ToldAt K H' (.ref p) n → n.ok → n.dp ≤ d → Q (.ref p) H'
theorem step_note {d : Nat} (F : Fun K "_law_note" "_law_note" s_law_note f fd) (M : Mg mg) (C_law_mix : Cal P w K mg base CX0 "_law_mix" 1 ["_law_number", "_law_k", "_law_many"] spMix3) (C_law_plain : Cal P w K mg base CX0 "_law_plain" 2 ["_law_number", "_law_kinds_here", "_law_words_here"] (spPlain K))
    (C_law_note : Cal P w K mg base CX0 "_law_note" (3 + d) ["_law_number", "_law_deep", "_law_kinds_here", "_law_words_here"] (spNoteG K d)) : FnOk P w K mg base CX0 (3 + d + 1) f fd ["_law_number", "_law_deep", "_law_kinds_here", "_law_words_here"] (spNoteG K (d + 1)) := by
  refine F.ok sc_law_note (fun vs H Q E h => ?_) (fun cdv A outer s H vs Q E hr h => ?_)
  · obtain ⟨c, kl, wl, kx, ks, ws, rfl, _⟩ := h
    rfl
  obtain ⟨c, kl, wl, kx, ks, ws, rfl, d1, LK, KA, k1, k4, okk, LW, lw, nw, q⟩ := h
  refine ⟨_, (@pss_cons _ _ _ _ _ (@ps_if _ _ _ _ _ _ _ _ (@PW.pt _ _ _ (@pw_or _ _ _ _ _ _ _ (@pt_cmpR _ _ _ _ _ _ _ _ (@op_lt _) (@pe_var _ 1 _ _ rfl v_law_note_1 dn__law_deep dc__law_deep) (@pe_int _ _ _ _) (nomark _)) (@pw_or1 _ _ _ _ (@pt_cmpR _ _ _ _ _ _ _ _ (@op_eq _) (@pe_callC _ _ _ _ _ _ _ _ _ _ _ C_law_mix hr g_law_note__law_mix (@pa_cons _ _ _ _ _ (@pe_var _ 0 _ _ rfl v_law_note_0 dn__law_number dc__law_number) (@pa_cons _ _ _ _ _ (@pe_int _ _ _ _) (@pa_cons _ _ _ _ _ (@pe_int _ _ _ _) (@pa_nil _) (star1 rfl)) (star1 rfl)) (star1 rfl)) (by omega) dn__law_mix (star1 rfl) (nost1 rfl (nost1 rfl nost0))) (@pe_int _ _ _ _) (nomark _))))) (@pss_one _ _ _ (@ps_ret _ _ _ _ (@pe_callC _ _ _ _ _ _ _ _ _ _ _ C_law_plain hr g_law_note__law_plain (@pa_cons _ _ _ _ _ (@pe_var _ 0 _ _ rfl v_law_note_0 dn__law_number dc__law_number) (@pa_cons _ _ _ _ _ (@pe_var _ 2 _ _ rfl v_law_note_2 dn__law_kinds_here dc__law_kinds_here) (@pa_cons _ _ _ _ _ (@pe_var _ 3 _ _ rfl v_law_note_3 dn__law_words_here dc__law_words_here) (@pa_nil _) (star1 rfl)) (star1 rfl)) (star1 rfl)) (by omega) dn__law_plain (star1 rfl) (nost1 rfl (nost1 rfl nost0))))) (@pss_nil _)) (@pss_cons _ _ _ _ _ (@ps_set _ _ 4 _ _ _ _ sc_law_note.nd rfl l_law_note_4 (@pe_callC _ _ _ _ _ _ _ _ _ _ _ C_law_note hr g_law_note__law_note (@pa_cons _ _ _ _ _ (@pe_callC _ _ _ _ _ _ _ _ _ _ _ C_law_mix hr g_law_note__law_mix (@pa_cons _ _ _ _ _ (@pe_var _ 0 _ _ rfl v_law_note_0 dn__law_number dc__law_number) (@pa_cons _ _ _ _ _ (@pe_int _ _ _ _) (@pa_cons _ _ _ _ _ (@pe_int _ _ _ _) (@pa_nil _) (star1 rfl)) (star1 rfl)) (star1 rfl)) (by omega) dn__law_mix (star1 rfl) (nost1 rfl (nost1 rfl nost0))) (@pa_cons _ _ _ _ _ (@pe_op _ _ _ _ _ _ _ _ (@op_sub _) (@pe_var _ 1 _ _ rfl v_law_note_1 dn__law_deep dc__law_deep) (@pe_int _ _ _ _)) (@pa_cons _ _ _ _ _ (@pe_var _ 2 _ _ rfl v_law_note_2 dn__law_kinds_here dc__law_kinds_here) (@pa_cons _ _ _ _ _ (@pe_var _ 3 _ _ rfl v_law_note_3 dn__law_words_here dc__law_words_here) (@pa_nil _) (star1 rfl)) (star1 rfl)) (star1 rfl)) (star1 rfl)) (by omega) dn__law_note (star1 rfl) (nost1 rfl (nost1 rfl (nost1 rfl nost0)))) (swap1 rfl) (.inl rfl)) (@pss_cons _ _ _ _ _ (@ps_set _ _ 5 _ _ _ _ sc_law_note.nd rfl l_law_note_5 (@pe_callC _ _ _ _ _ _ _ _ _ _ _ C_law_note hr g_law_note__law_note (@pa_cons _ _ _ _ _ (@pe_callC _ _ _ _ _ _ _ _ _ _ _ C_law_mix hr g_law_note__law_mix (@pa_cons _ _ _ _ _ (@pe_var _ 0 _ _ rfl v_law_note_0 dn__law_number dc__law_number) (@pa_cons _ _ _ _ _ (@pe_int _ _ _ _) (@pa_cons _ _ _ _ _ (@pe_int _ _ _ _) (@pa_nil _) (star1 rfl)) (star1 rfl)) (star1 rfl)) (by omega) dn__law_mix (star1 rfl) (nost1 rfl (nost1 rfl nost0))) (@pa_cons _ _ _ _ _ (@pe_op _ _ _ _ _ _ _ _ (@op_sub _) (@pe_var _ 1 _ _ rfl v_law_note_1 dn__law_deep dc__law_deep) (@pe_int _ _ _ _)) (@pa_cons _ _ _ _ _ (@pe_var _ 2 _ _ rfl v_law_note_2 dn__law_kinds_here dc__law_kinds_here) (@pa_cons _ _ _ _ _ (@pe_var _ 3 _ _ rfl v_law_note_3 dn__law_words_here dc__law_words_here) (@pa_nil _) (star1 rfl)) (star1 rfl)) (star1 rfl)) (star1 rfl)) (by omega) dn__law_note (star1 rfl) (nost1 rfl (nost1 rfl (nost1 rfl nost0)))) (swap1 rfl) (.inl rfl)) (@pss_one _ _ _ (@ps_ret _ _ _ _ (@pe_tup _ _ _ _ _ (@pa_cons _ _ _ _ _ (@pe_menu _ _ _ _ _ _ _ (@pa_cons _ _ _ _ _ (@pe_str _ _ _ _) (@pa_cons _ _ _ _ _ (@pe_str _ _ _ _) (@pa_cons _ _ _ _ _ (@pe_str _ _ _ _) (@pa_nil _) (star1 rfl)) (star1 rfl)) (star1 rfl)) (@pe_callC _ _ _ _ _ _ _ _ _ _ _ C_law_mix hr g_law_note__law_mix (@pa_cons _ _ _ _ _ (@pe_var _ 0 _ _ rfl v_law_note_0 dn__law_number dc__law_number) (@pa_cons _ _ _ _ _ (@pe_int _ _ _ _) (@pa_cons _ _ _ _ _ (@pe_int _ _ _ _) (@pa_nil _) (star1 rfl)) (star1 rfl)) (star1 rfl)) (by omega) dn__law_mix (star1 rfl) (nost1 rfl (nost1 rfl nost0))) (fun _ _ => rfl)) (@pa_cons _ _ _ _ _ (@pe_var _ 4 _ _ rfl v_law_note_4 dn__law_one dc__law_one) (@pa_cons _ _ _ _ _ (@pe_var _ 5 _ _ rfl v_law_note_5 dn__law_other dc__law_other) (@pa_nil _) (star1 rfl)) (star1 rfl)) (star1 rfl)))))))), ?_⟩
  simp only [slots, Option.getD_some, Option.getD_none, tSeq, tAsg, gName, tOp, tC, tVar, tCons, tNil, tCall, rI0, tRet, tIfS, tTest, tOr, tMenu, tTup, tNext, rEq, Kd_non, Kd_bl, Kd_int, Kd_str, sc_non_non, sc_non_int, sc_int_non, sc_non_bl, sc_bl_non, sc_non_str, sc_str_non, sc_int_int, sc_bl_bl, sc_str_str, sc_int_str, sc_str_int, sc_bl_str, sc_str_bl, decide_true, decide_false, L2.start, cxK, Int.reduceToNat, List.map_cons, List.map_nil, List.length_cons, List.length_nil, Nat.reduceAdd, Nat.reduceSub, Nat.zero_add, List.replicate_succ, List.replicate_zero, List.cons_append, List.nil_append, List.append_nil, List.getElem?_cons_zero, List.getElem?_cons_succ, List.set_cons_zero, List.set_cons_succ, Option.some.injEq, V.int.injEq, V.bl.injEq, V.ref.injEq, V.str.injEq, V.ty.injEq, List.cons.injEq, exists_eq_left', exists_eq_left, exists_eq_right, exists_and_left, exists_and_right, and_true, true_and, and_assoc, exists_const, decide_eq_true_eq, Bool.not_eq_true', Bool.not_true, Bool.not_false, Bool.not_not, decide_eq_false_iff_not, ite_not, Bool.false_eq_true, if_true, if_false, reduceCtorEq, and_false, false_and, exists_false, or_false, false_or, ↓reduceIte, eq_self, reduceIte]
  have plain : spPlain K [V.int c, V.ref kl, V.ref wl] H Q E0 := ⟨c, kl, wl, kx, ks, ws, rfl, LK, KA, k1, k4, okk, LW, lw, nw, fun p H' n e R o dd => q p H' n e R o (by omega)⟩
  by_cases h2 : ((d + 1 : Nat) : Int) < 2
  · rw [if_pos h2]
    exact plain
  · rw [if_neg h2]
    refine ⟨_, _, _, rfl, by decide, by decide, by decide, rfl, ?_⟩
    by_cases hm : V.int (mix3 c 5 5) = V.int 0
    · rw [if_pos hm]
      exact plain
    · rw [if_neg hm]
      have ed : ((d + 1 : Nat) : Int) - 1 = (d : Int) := by omega
      rw [ed]
      refine ⟨_, _, _, rfl, by decide, by decide, by decide, _, kl, wl, kx, ks, ws, rfl, by omega, LK, KA, k1, k4, okk, LW, lw, nw, fun p1 H1 x S1 R1 o1 dp1 => ?_⟩
      refine ⟨_, _, _, rfl, by decide, by decide, by decide, _, kl, wl, kx, ks, ws, rfl, by omega, S1 _ _ LK, KA.same S1, k1, k4, okk, S1 _ _ LW, lw, nw, fun p2 H2 y S2 R2 o2 dp2 => ?_⟩
      have i3 := mix3_in c 6 (show (0 : Int) < 3 by decide)
      obtain ⟨j, hj⟩ : ∃ j : Int, mix3 c 6 3 = j := ⟨_, rfl⟩
      refine ⟨by decide, _, _, _, rfl, by decide, by decide, by decide, _, rfl, i3.1, ?_⟩
      rw [hj] at i3 ⊢
      have R1' := R1.same S2
      have : j = 0 ∨ j = 1 ∨ j = 2 := by omega
      rcases this with e | e | e <;> subst e
      · refine ⟨_, rfl, by decide, fun t ht => q _ _ (.both x y) (S1.trans (S2.trans (same_new ht _))) (.tup (SqT.of upd_same) (.cons (.str _) (.cons (R1'.same (same_new ht _)) (.cons (R2.same (same_new ht _)) .nil)))) ⟨o1, o2⟩ ?_⟩
        show max x.dp y.dp + 1 ≤ d + 1
        omega
      · refine ⟨_, rfl, by decide, fun t ht => q _ _ (.either x y) (S1.trans (S2.trans (same_new ht _))) (.tup (SqT.of upd_same) (.cons (.str _) (.cons (R1'.same (same_new ht _)) (.cons (R2.same (same_new ht _)) .nil)))) ⟨o1, o2⟩ ?_⟩
        show max x.dp y.dp + 1 ≤ d + 1
        omega
      · refine ⟨_, rfl, by decide, fun t ht => q _ _ (.but x y) (S1.trans (S2.trans (same_new ht _))) (.tup (SqT.of upd_same) (.cons (.str _) (.cons (R1'.same (same_new ht _)) (.cons (R2.same (same_new ht _)) .nil)))) ⟨o1, o2⟩ ?_⟩
        show max x.dp y.dp + 1 ≤ d + 1
        omega
theorem ok_law_note (F : Fun K "_law_note" "_law_note" s_law_note f fd) (M : Mg mg) (C_law_mix : Cal P w K mg base CX0 "_law_mix" 1 ["_law_number", "_law_k", "_law_many"] spMix3) (C_law_plain : Cal P w K mg base CX0 "_law_plain" 2 ["_law_number", "_law_kinds_here", "_law_words_here"] (spPlain K))
    (b : Binds K fd ["_law_number", "_law_deep", "_law_kinds_here", "_law_words_here"] []) (kp : PySem.W.keepIn K (.ref f) = true) (m : mg "_law_note" = some (.ref f)) : ∀ d : Nat, FnOk P w K mg base CX0 (3 + d) f fd ["_law_number", "_law_deep", "_law_kinds_here", "_law_words_here"] (spNoteG K d)
  | 0 => by
    refine F.ok sc_law_note (fun vs H Q E h => ?_) (fun cdv A outer s H vs Q E hr h => ?_)
    · obtain ⟨c, kl, wl, kx, ks, ws, rfl, _⟩ := h
      rfl
    obtain ⟨c, kl, wl, kx, ks, ws, rfl, d1, _⟩ := h
    exact absurd d1 (by decide)
  | d + 1 => step_note F M C_law_mix C_law_plain ⟨⟨f, fd, ok_law_note F M C_law_mix C_law_plain b kp m d, b, kp, m⟩⟩
end

structure NC where
  any : Addr
  made : Addr
  used : Addr
  chief : Addr
  over : Addr
  both : Addr
  either : Addr
  but : Addr
def ObjN (K : PySem.W.Frag) (cs : NC) (H : Hp) (a : Addr) : Nt → Prop
  | .any => ∃ dx, H a = some (.ins cs.any dx [])
  | .made s => ∃ dx, H a = some (.ins cs.made dx [("stuff", .str (txt s))])
  | .used s => ∃ dx, H a = some (.ins cs.used dx [("use", .str (txt s))])
  | .chief s => ∃ dx, H a = some (.ins cs.chief dx [("stuff", .str (txt s))])
  | .over k1 k2 => ∃ dx p1 p2, H a = some (.ins cs.over dx [("one", .ref p1), ("other", .ref p2)]) ∧ SqT K H p1 (kRow k1) ∧ SqT K H p2 (kRow k2)
  | .both x y => ∃ dx a1 a2, H a = some (.ins cs.both dx [("one", .ref a1), ("other", .ref a2)]) ∧ ObjN K cs H a1 x ∧ ObjN K cs H a2 y
  | .either x y => ∃ dx a1 a2, H a = some (.ins cs.either dx [("one", .ref a1), ("other", .ref a2)]) ∧ ObjN K cs H a1 x ∧ ObjN K cs H a2 y
  | .but x y => ∃ dx a1 a2, H a = some (.ins cs.but dx [("one", .ref a1), ("other", .ref a2)]) ∧ ObjN K cs H a1 x ∧ ObjN K cs H a2 y
theorem ObjN.same {K : PySem.W.Frag} {cs : NC} {H H' : Hp} (e : Same H H') : ∀ {n : Nt} {a : Addr}, ObjN K cs H a n → ObjN K cs H' a n
  | .any, _, ⟨dx, h⟩ => ⟨dx, e _ _ h⟩
  | .made _, _, ⟨dx, h⟩ => ⟨dx, e _ _ h⟩
  | .used _, _, ⟨dx, h⟩ => ⟨dx, e _ _ h⟩
  | .chief _, _, ⟨dx, h⟩ => ⟨dx, e _ _ h⟩
  | .over _ _, _, ⟨dx, p1, p2, h, t1, t2⟩ => ⟨dx, p1, p2, e _ _ h, Same.tup e t1, Same.tup e t2⟩
  | .both _ _, _, ⟨dx, p1, p2, h, t1, t2⟩ => ⟨dx, p1, p2, e _ _ h, ObjN.same e t1, ObjN.same e t2⟩
  | .either _ _, _, ⟨dx, p1, p2, h, t1, t2⟩ => ⟨dx, p1, p2, e _ _ h, ObjN.same e t1, ObjN.same e t2⟩
  | .but _ _, _, ⟨dx, p1, p2, h, t1, t2⟩ => ⟨dx, p1, p2, e _ _ h, ObjN.same e t1, ObjN.same e t2⟩
def spInitA (K : PySem.W.Frag) (C : Addr) (fld : Str) : Sp := fun vs H Q _ => ∃ x dx v, vs = [.ref x, v] ∧ H x = some (.ins C dx []) ∧ Q .non (upd H x (.ins C dx [(fld, v)]))
def spInit2 (K : PySem.W.Frag) : Sp := fun vs H Q _ => ∃ x C dx v1 v2, vs = [.ref x, v1, v2] ∧ H x = some (.ins C dx []) ∧ Cls K C ∧ NoAttr K C "one" ∧ NoAttr K C "other" ∧ ∀ H', H' x = some (.ins C dx [("one", v1), ("other", v2)]) → (∀ b, b ≠ x → H' b = H b) → Q .non H'
theorem make2 {H H' : Hp} {C x dx : Addr} (hx : H x = none) (hd : H dx = none) (e : ∀ b, b ≠ x → H' b = upd (upd H dx (.own x)) x (.ins C dx []) b) : Same H H' := fun b u q => by
  rw [e b (ne_of_none q hx), upd_ne (ne_of_none q hx), upd_ne (ne_of_none q hd)]
  exact q
theorem make1' {H : Hp} {C x dx : Addr} {fld : Str} {v : V} (hx : H x = none) (hd : H dx = none) : Same H (upd (upd (upd H dx (.own x)) x (.ins C dx [])) x (.ins C dx [(fld, v)])) :=
  fun b u q => by rw [upd_ne (ne_of_none q hx), upd_ne (ne_of_none q hx), upd_ne (ne_of_none q hd)]; exact q
section
variable {P : Program} {w : World} {K : PySem.W.Frag} {mg : Str → Option Value} {base : Heap} {f : Addr} {fd : FuncData} {cs : NC}
theorem ok_Made_init (F : Fun K "__init__" "Made.__init__" s_Made_init f fd) (M : Mg mg) (cl : Cls K cs.made) (na : NoAttr K cs.made "stuff") : FnOk P w K mg base CX0 1 f fd ["self", "stuff"] (spInitA K cs.made "stuff") := by
  refine F.ok sc_Made_init (fun vs H Q E h => ?_) (fun cdv A outer s H vs Q E hr h => ?_)
  · obtain ⟨x, dx, v, rfl, _⟩ := h
    rfl
  obtain ⟨x, dx, v, rfl, hx, q⟩ := h
  refine ⟨_, (@pss_one _ _ _ (@ps_fld _ _ _ _ _ _ _ _ (@pe_var _ 0 _ _ rfl v_Made_init_0 dn_self dc_self) (@pe_var _ 1 _ _ rfl v_Made_init_1 dn_stuff dc_stuff) (swap1 rfl))), ?_⟩
  simp only [sFld, slots, Option.getD_some, Option.getD_none, tVar, Kd_non, Kd_bl, Kd_int, Kd_str, decide_true, decide_false, L2.start, cxK, Int.reduceToNat, List.map_cons, List.map_nil, List.length_cons, List.length_nil, Nat.reduceAdd, Nat.reduceSub, Nat.zero_add, List.replicate_succ, List.replicate_zero, List.cons_append, List.nil_append, List.append_nil, List.getElem?_cons_zero, List.getElem?_cons_succ, List.set_cons_zero, List.set_cons_succ, Option.some.injEq, V.int.injEq, V.bl.injEq, V.ref.injEq, V.str.injEq, V.ty.injEq, List.cons.injEq, exists_eq_left', exists_eq_left, exists_eq_right, exists_and_left, exists_and_right, and_true, true_and, and_assoc, exists_const, decide_eq_true_eq, Bool.not_eq_true', Bool.not_true, Bool.not_false, Bool.not_not, decide_eq_false_iff_not, ite_not, Bool.false_eq_true, if_true, if_false, reduceCtorEq, and_false, false_and, exists_false, or_false, false_or, ↓reduceIte, eq_self, reduceIte]
  exact ⟨_, _, _, hx, cl, na, by decide, q⟩
theorem ok_Used_init (F : Fun K "__init__" "Used.__init__" s_Used_init f fd) (M : Mg mg) (cl : Cls K cs.used) (na : NoAttr K cs.used "use") : FnOk P w K mg base CX0 1 f fd ["self", "use"] (spInitA K cs.used "use") := by
  refine F.ok sc_Used_init (fun vs H Q E h => ?_) (fun cdv A outer s H vs Q E hr h => ?_)
  · obtain ⟨x, dx, v, rfl, _⟩ := h
    rfl
  obtain ⟨x, dx, v, rfl, hx, q⟩ := h
  refine ⟨_, (@pss_one _ _ _ (@ps_fld _ _ _ _ _ _ _ _ (@pe_var _ 0 _ _ rfl v_Used_init_0 dn_self dc_self) (@pe_var _ 1 _ _ rfl v_Used_init_1 dn_use dc_use) (swap1 rfl))), ?_⟩
  simp only [sFld, slots, Option.getD_some, Option.getD_none, tVar, Kd_non, Kd_bl, Kd_int, Kd_str, decide_true, decide_false, L2.start, cxK, Int.reduceToNat, List.map_cons, List.map_nil, List.length_cons, List.length_nil, Nat.reduceAdd, Nat.reduceSub, Nat.zero_add, List.replicate_succ, List.replicate_zero, List.cons_append, List.nil_append, List.append_nil, List.getElem?_cons_zero, List.getElem?_cons_succ, List.set_cons_zero, List.set_cons_succ, Option.some.injEq, V.int.injEq, V.bl.injEq, V.ref.injEq, V.str.injEq, V.ty.injEq, List.cons.injEq, exists_eq_left', exists_eq_left, exists_eq_right, exists_and_left, exists_and_right, and_true, true_and, and_assoc, exists_const, decide_eq_true_eq, Bool.not_eq_true', Bool.not_true, Bool.not_false, Bool.not_not, decide_eq_false_iff_not, ite_not, Bool.false_eq_true, if_true, if_false, reduceCtorEq, and_false, false_and, exists_false, or_false, false_or, ↓reduceIte, eq_self, reduceIte]
  exact ⟨_, _, _, hx, cl, na, by decide, q⟩
theorem ok_Chief_init (F : Fun K "__init__" "Chief.__init__" s_Chief_init f fd) (M : Mg mg) (cl : Cls K cs.chief) (na : NoAttr K cs.chief "stuff") : FnOk P w K mg base CX0 1 f fd ["self", "stuff"] (spInitA K cs.chief "stuff") := by
  refine F.ok sc_Chief_init (fun vs H Q E h => ?_) (fun cdv A outer s H vs Q E hr h => ?_)
  · obtain ⟨x, dx, v, rfl, _⟩ := h
    rfl
  obtain ⟨x, dx, v, rfl, hx, q⟩ := h
  refine ⟨_, (@pss_one _ _ _ (@ps_fld _ _ _ _ _ _ _ _ (@pe_var _ 0 _ _ rfl v_Chief_init_0 dn_self dc_self) (@pe_var _ 1 _ _ rfl v_Chief_init_1 dn_stuff dc_stuff) (swap1 rfl))), ?_⟩
  simp only [sFld, slots, Option.getD_some, Option.getD_none, tVar, Kd_non, Kd_bl, Kd_int, Kd_str, decide_true, decide_false, L2.start, cxK, Int.reduceToNat, List.map_cons, List.map_nil, List.length_cons, List.length_nil, Nat.reduceAdd, Nat.reduceSub, Nat.zero_add, List.replicate_succ, List.replicate_zero, List.cons_append, List.nil_append, List.append_nil, List.getElem?_cons_zero, List.getElem?_cons_succ, List.set_cons_zero, List.set_cons_succ, Option.some.injEq, V.int.injEq, V.bl.injEq, V.ref.injEq, V.str.injEq, V.ty.injEq, List.cons.injEq, exists_eq_left', exists_eq_left, exists_eq_right, exists_and_left, exists_and_right, and_true, true_and, and_assoc, exists_const, decide_eq_true_eq, Bool.not_eq_true', Bool.not_true, Bool.not_false, Bool.not_not, decide_eq_false_iff_not, ite_not, Bool.false_eq_true, if_true, if_false, reduceCtorEq, and_false, false_and, exists_false, or_false, false_or, ↓reduceIte, eq_self, reduceIte]
  exact ⟨_, _, _, hx, cl, na, by decide, q⟩
theorem ok_Over_init (F : Fun K "__init__" "Over.__init__" s_Over_init f fd) (M : Mg mg) : FnOk P w K mg base CX0 1 f fd ["self", "one", "other"] (spInit2 K) := by
  refine F.ok sc_Over_init (fun vs H Q E h => ?_) (fun cdv A outer s H vs Q E hr h => ?_)
  · obtain ⟨x, C, dx, v1, v2, rfl, _⟩ := h
    rfl
  obtain ⟨x, C, dx, v1, v2, rfl, hx, cl, n1, n2, q⟩ := h
  refine ⟨_, (@pss_cons _ _ _ _ _ (@ps_fld _ _ _ _ _ _ _ _ (@pe_var _ 0 _ _ rfl v_Over_init_0 dn_self dc_self) (@pe_var _ 1 _ _ rfl v_Over_init_1 dn_one dc_one) (swap1 rfl)) (@pss_one _ _ _ (@ps_fld _ _ _ _ _ _ _ _ (@pe_var _ 0 _ _ rfl v_Over_init_0 dn_self dc_self) (@pe_var _ 2 _ _ rfl v_Over_init_2 dn_other dc_other) (swap1 rfl)))), ?_⟩
  simp only [sFld, slots, Option.getD_some, Option.getD_none, tSeq, tVar, Kd_non, Kd_bl, Kd_int, Kd_str, decide_true, decide_false, L2.start, cxK, Int.reduceToNat, List.map_cons, List.map_nil, List.length_cons, List.length_nil, Nat.reduceAdd, Nat.reduceSub, Nat.zero_add, List.replicate_succ, List.replicate_zero, List.cons_append, List.nil_append, List.append_nil, List.getElem?_cons_zero, List.getElem?_cons_succ, List.set_cons_zero, List.set_cons_succ, Option.some.injEq, V.int.injEq, V.bl.injEq, V.ref.injEq, V.str.injEq, V.ty.injEq, List.cons.injEq, exists_eq_left', exists_eq_left, exists_eq_right, exists_and_left, exists_and_right, and_true, true_and, and_assoc, exists_const, decide_eq_true_eq, Bool.not_eq_true', Bool.not_true, Bool.not_false, Bool.not_not, decide_eq_false_iff_not, ite_not, Bool.false_eq_true, if_true, if_false, reduceCtorEq, and_false, false_and, exists_false, or_false, false_or, ↓reduceIte, eq_self, reduceIte]
  exact ⟨_, _, _, hx, cl, n1, by decide, _, _, _, upd_same, cl, n2, (show 1 < 1000 by decide), q _ upd_same fun b hb => by rw [upd_ne hb, upd_ne hb]⟩
theorem ok_OfTwo_init (F : Fun K "__init__" "OfTwo.__init__" s_OfTwo_init f fd) (M : Mg mg) : FnOk P w K mg base CX0 1 f fd ["self", "one", "other"] (spInit2 K) := by
  refine F.ok sc_OfTwo_init (fun vs H Q E h => ?_) (fun cdv A outer s H vs Q E hr h => ?_)
  · obtain ⟨x, C, dx, v1, v2, rfl, _⟩ := h
    rfl
  obtain ⟨x, C, dx, v1, v2, rfl, hx, cl, n1, n2, q⟩ := h
  refine ⟨_, (@pss_cons _ _ _ _ _ (@ps_fld _ _ _ _ _ _ _ _ (@pe_var _ 0 _ _ rfl v_OfTwo_init_0 dn_self dc_self) (@pe_var _ 1 _ _ rfl v_OfTwo_init_1 dn_one dc_one) (swap1 rfl)) (@pss_one _ _ _ (@ps_fld _ _ _ _ _ _ _ _ (@pe_var _ 0 _ _ rfl v_OfTwo_init_0 dn_self dc_self) (@pe_var _ 2 _ _ rfl v_OfTwo_init_2 dn_other dc_other) (swap1 rfl)))), ?_⟩
  simp only [sFld, slots, Option.getD_some, Option.getD_none, tSeq, tVar, Kd_non, Kd_bl, Kd_int, Kd_str, decide_true, decide_false, L2.start, cxK, Int.reduceToNat, List.map_cons, List.map_nil, List.length_cons, List.length_nil, Nat.reduceAdd, Nat.reduceSub, Nat.zero_add, List.replicate_succ, List.replicate_zero, List.cons_append, List.nil_append, List.append_nil, List.getElem?_cons_zero, List.getElem?_cons_succ, List.set_cons_zero, List.set_cons_succ, Option.some.injEq, V.int.injEq, V.bl.injEq, V.ref.injEq, V.str.injEq, V.ty.injEq, List.cons.injEq, exists_eq_left', exists_eq_left, exists_eq_right, exists_and_left, exists_and_right, and_true, true_and, and_assoc, exists_const, decide_eq_true_eq, Bool.not_eq_true', Bool.not_true, Bool.not_false, Bool.not_not, decide_eq_false_iff_not, ite_not, Bool.false_eq_true, if_true, if_false, reduceCtorEq, and_false, false_and, exists_false, or_false, false_or, ↓reduceIte, eq_self, reduceIte]
  exact ⟨_, _, _, hx, cl, n1, by decide, _, _, _, upd_same, cl, n2, (show 1 < 1000 by decide), q _ upd_same fun b hb => by rw [upd_ne hb, upd_ne hb]⟩
end

theorem rep_tup {K : PySem.W.Frag} {H : Hp} {p : Addr} {ds : List PyData} (R : Rep K H (.ref p) (.tuple ds)) : ∃ xs, SqT K H p xs ∧ RepAll K H xs ds := by
  cases R with
  | tup T A => exact ⟨_, T, A⟩
theorem rep_cons {K : PySem.W.Frag} {H : Hp} {xs : List V} {d : PyData} {ds : List PyData} (R : RepAll K H xs (d :: ds)) : ∃ x ys, xs = x :: ys ∧ Rep K H x d ∧ RepAll K H ys ds := by
  cases R with
  | cons a b => exact ⟨_, _, rfl, a, b⟩
theorem rep_nil {K : PySem.W.Frag} {H : Hp} {xs : List V} (R : RepAll K H xs []) : xs = [] := by
  cases R
  rfl
theorem rep_str {K : PySem.W.Frag} {H : Hp} {x : V} {z : Str} (R : Rep K H x (.str z)) : x = .str z := by
  cases R
  rfl
theorem rep_one {K : PySem.W.Frag} {H : Hp} {p : Addr} {d : PyData} (R : Rep K H (.ref p) (.tuple [d])) : ∃ x, SqT K H p [x] ∧ Rep K H x d := by
  obtain ⟨xs, T, A⟩ := rep_tup R
  obtain ⟨x, ys, rfl, a, b⟩ := rep_cons A
  rw [rep_nil b] at T
  exact ⟨x, T, a⟩
theorem rep_two {K : PySem.W.Frag} {H : Hp} {p : Addr} {d e : PyData} (R : Rep K H (.ref p) (.tuple [d, e])) : ∃ x y, SqT K H p [x, y] ∧ Rep K H x d ∧ Rep K H y e := by
  obtain ⟨xs, T, A⟩ := rep_tup R
  obtain ⟨x, ys, rfl, a, b⟩ := rep_cons A
  obtain ⟨y, zs, rfl, c, d⟩ := rep_cons b
  rw [rep_nil d] at T
  exact ⟨x, y, T, a, c⟩
theorem rep_three {K : PySem.W.Frag} {H : Hp} {p : Addr} {d e g : PyData} (R : Rep K H (.ref p) (.tuple [d, e, g])) : ∃ x y z, SqT K H p [x, y, z] ∧ Rep K H x d ∧ Rep K H y e ∧ Rep K H z g := by
  obtain ⟨xs, T, A⟩ := rep_tup R
  obtain ⟨x, ys, rfl, a, b⟩ := rep_cons A
  obtain ⟨y, zs, rfl, c, d⟩ := rep_cons b
  obtain ⟨z, us, rfl, e, f⟩ := rep_cons d
  rw [rep_nil f] at T
  exact ⟨x, y, z, T, a, c, e⟩
theorem kind_inv {K : PySem.W.Frag} {H : Hp} {v : V} {k : Kd2} (R : Rep K H v (kD k)) : ∃ p, v = .ref p ∧ SqT K H p (kRow k) := by
  unfold kD at R
  cases R with
  | tup T A =>
    obtain ⟨x, ys, rfl, a, b⟩ := rep_cons A
    obtain ⟨y, zs, rfl, c, d⟩ := rep_cons b
    rw [rep_nil d, rep_str a, rep_str c] at T
    exact ⟨_, rfl, T⟩
theorem told_ref {K : PySem.W.Frag} {H : Hp} {v : V} {n : Nt} (R : ToldAt K H v n) : ∃ a, v = .ref a := by
  unfold ToldAt at R
  cases n <;> (unfold Nt.data at R; cases R; exact ⟨_, rfl⟩)
def spOfName (K : PySem.W.Frag) (cs : NC) : Sp := fun vs H Q _ => ∃ (wd : Str) (s : List Nat) (n : Nt), vs = [.str wd, .str (txt s)] ∧ ((wd = "made" ∧ n = .made s) ∨ (wd = "used" ∧ n = .used s) ∨ (wd = "chief" ∧ n = .chief s)) ∧ ∀ a H', Same H H' → ObjN K cs H' a n → Q (.ref a) H'
def spOfNotes (K : PySem.W.Frag) (cs : NC) : Sp := fun vs H Q _ => ∃ (wd : Str) (a1 a2 : Addr) (x y n : Nt), vs = [.str wd, .ref a1, .ref a2] ∧ ((wd = "both" ∧ n = .both x y) ∨ (wd = "either" ∧ n = .either x y) ∨ (wd = "but" ∧ n = .but x y)) ∧ ObjN K cs H a1 x ∧ ObjN K cs H a2 y ∧ ∀ a H', Same H H' → ObjN K cs H' a n → Q (.ref a) H'
def spOfOne (K : PySem.W.Frag) (cs : NC) : Sp := fun vs H Q _ => ∃ (p : Addr) (n : Nt), vs = [.ref p] ∧ ToldAt K H (.ref p) n ∧ n.ok ∧ n.dp = 1 ∧ ∀ a H', Same H H' → ObjN K cs H' a n → Q (.ref a) H'
def spWithinN (K : PySem.W.Frag) (cs : NC) (d : Nat) : Sp := fun vs H Q _ => ∃ (l : Int) (p : Addr) (n : Nt), vs = [.int l, .ref p] ∧ (d : Int) ≤ l ∧ ToldAt K H (.ref p) n ∧ n.ok ∧ n.dp ≤ d ∧ ∀ a H', Same H H' → ObjN K cs H' a n → Q (.ref a) H'
def spNoteOf (K : PySem.W.Frag) (cs : NC) : Sp := fun vs H Q _ => ∃ (p : Addr) (n : Nt), vs = [.ref p] ∧ ToldAt K H (.ref p) n ∧ n.ok ∧ n.dp ≤ 5 ∧ ∀ a H', Same H H' → ObjN K cs H' a n → Q (.ref a) H'
structure TwoC (K : PySem.W.Frag) (C : Addr) : Prop where
  cl : Cls K C
  n1 : NoAttr K C "one"
  n2 : NoAttr K C "other"
section
variable {P : Program} {w : World} {K : PySem.W.Frag} {mg : Str → Option Value} {base : Heap} {f : Addr} {fd : FuncData} {cs : NC}
theorem ok_note_of_name (F : Fun K "note_of_name" "note_of_name" s_note_of_name f fd) (M : Mg mg) (Z_Made : MkC P w K mg base "Made" cs.made 1 ["self", "stuff"] (spInitA K cs.made "stuff")) (Z_Used : MkC P w K mg base "Used" cs.used 1 ["self", "use"] (spInitA K cs.used "use")) (Z_Chief : MkC P w K mg base "Chief" cs.chief 1 ["self", "stuff"] (spInitA K cs.chief "stuff")) : FnOk P w K mg base CX0 3 f fd ["word", "name"] (spOfName K cs) := by
  refine F.ok sc_note_of_name (fun vs H Q E h => ?_) (fun cdv A outer s H vs Q E hr h => ?_)
  · obtain ⟨wd, s, n, rfl, _⟩ := h
    rfl
  obtain ⟨wd, s, n, rfl, hw, q⟩ := h
  refine ⟨_, (@pss_cons _ _ _ _ _ (@ps_if _ _ _ _ _ _ _ _ (@pt_cmpR _ _ _ _ _ _ _ _ (@op_eq _) (@pe_var _ 0 _ _ rfl v_note_of_name_0 dn_word dc_word) (@pe_str _ _ _ _) (nomark _)) (@pss_one _ _ _ (@ps_ret _ _ _ _ (@pe_makeC _ _ _ _ _ _ _ _ _ _ _ _ Z_Made hr g_note_of_name_Made (@pa_cons _ _ _ _ _ (@pe_var _ 1 _ _ rfl v_note_of_name_1 dn_name dc_name) (@pa_nil _) (star1 rfl)) (by decide) dn_Made (star1 rfl) nost0))) (@pss_nil _)) (@pss_cons _ _ _ _ _ (@ps_if _ _ _ _ _ _ _ _ (@pt_cmpR _ _ _ _ _ _ _ _ (@op_eq _) (@pe_var _ 0 _ _ rfl v_note_of_name_0 dn_word dc_word) (@pe_str _ _ _ _) (nomark _)) (@pss_one _ _ _ (@ps_ret _ _ _ _ (@pe_makeC _ _ _ _ _ _ _ _ _ _ _ _ Z_Used hr g_note_of_name_Used (@pa_cons _ _ _ _ _ (@pe_var _ 1 _ _ rfl v_note_of_name_1 dn_name dc_name) (@pa_nil _) (star1 rfl)) (by decide) dn_Used (star1 rfl) nost0))) (@pss_nil _)) (@pss_cons _ _ _ _ _ (@ps_if _ _ _ _ _ _ _ _ (@pt_cmpR _ _ _ _ _ _ _ _ (@op_eq _) (@pe_var _ 0 _ _ rfl v_note_of_name_0 dn_word dc_word) (@pe_str _ _ _ _) (nomark _)) (@pss_one _ _ _ (@ps_ret _ _ _ _ (@pe_makeC _ _ _ _ _ _ _ _ _ _ _ _ Z_Chief hr g_note_of_name_Chief (@pa_cons _ _ _ _ _ (@pe_var _ 1 _ _ rfl v_note_of_name_1 dn_name dc_name) (@pa_nil _) (star1 rfl)) (by decide) dn_Chief (star1 rfl) nost0))) (@pss_nil _)) (@pss_one _ _ _ (@ps_never _ _))))), ?_⟩
  simp only [tMake, slots, Option.getD_some, Option.getD_none, tSeq, tOp, tC, tVar, tCons, tNil, tRet, tIfS, tTest, tNext, tNever, rEq, Kd_non, Kd_bl, Kd_int, Kd_str, sc_non_non, sc_non_int, sc_int_non, sc_non_bl, sc_bl_non, sc_non_str, sc_str_non, sc_int_int, sc_bl_bl, sc_str_str, sc_int_str, sc_str_int, sc_bl_str, sc_str_bl, decide_true, decide_false, L2.start, cxK, Int.reduceToNat, List.map_cons, List.map_nil, List.length_cons, List.length_nil, Nat.reduceAdd, Nat.reduceSub, Nat.zero_add, List.replicate_succ, List.replicate_zero, List.cons_append, List.nil_append, List.append_nil, List.getElem?_cons_zero, List.getElem?_cons_succ, List.set_cons_zero, List.set_cons_succ, Option.some.injEq, V.int.injEq, V.bl.injEq, V.ref.injEq, V.str.injEq, V.ty.injEq, List.cons.injEq, exists_eq_left', exists_eq_left, exists_eq_right, exists_and_left, exists_and_right, and_true, true_and, and_assoc, exists_const, decide_eq_true_eq, Bool.not_eq_true', Bool.not_true, Bool.not_false, Bool.not_not, decide_eq_false_iff_not, ite_not, Bool.false_eq_true, if_true, if_false, reduceCtorEq, and_false, false_and, exists_false, or_false, false_or, ↓reduceIte, eq_self, reduceIte]
  rcases hw with ⟨rfl, rfl⟩ | ⟨rfl, rfl⟩ | ⟨rfl, rfl⟩
  · rw [if_pos rfl]
    exact fun x dx hx hd ne => ⟨x, dx, _, rfl, upd_same, rfl, q _ _ (make1' hx hd) ⟨dx, upd_same⟩⟩
  · rw [if_neg (by decide), if_pos rfl]
    exact fun x dx hx hd ne => ⟨x, dx, _, rfl, upd_same, rfl, q _ _ (make1' hx hd) ⟨dx, upd_same⟩⟩
  · rw [if_neg (by decide), if_neg (by decide), if_pos rfl]
    exact fun x dx hx hd ne => ⟨x, dx, _, rfl, upd_same, rfl, q _ _ (make1' hx hd) ⟨dx, upd_same⟩⟩
theorem ok_note_of_notes (F : Fun K "note_of_notes" "note_of_notes" s_note_of_notes f fd) (M : Mg mg) (Z_Both : MkC P w K mg base "Both" cs.both 1 ["self", "one", "other"] (spInit2 K)) (Z_Either : MkC P w K mg base "Either" cs.either 1 ["self", "one", "other"] (spInit2 K)) (Z_But : MkC P w K mg base "But" cs.but 1 ["self", "one", "other"] (spInit2 K))
    (t1 : TwoC K cs.both) (t2 : TwoC K cs.either) (t3 : TwoC K cs.but) : FnOk P w K mg base CX0 3 f fd ["word", "one", "other"] (spOfNotes K cs) := by
  refine F.ok sc_note_of_notes (fun vs H Q E h => ?_) (fun cdv A outer s H vs Q E hr h => ?_)
  · obtain ⟨wd, a1, a2, x, y, n, rfl, _⟩ := h
    rfl
  obtain ⟨wd, a1, a2, x, y, n, rfl, hw, O1, O2, q⟩ := h
  refine ⟨_, (@pss_cons _ _ _ _ _ (@ps_if _ _ _ _ _ _ _ _ (@pt_cmpR _ _ _ _ _ _ _ _ (@op_eq _) (@pe_var _ 0 _ _ rfl v_note_of_notes_0 dn_word dc_word) (@pe_str _ _ _ _) (nomark _)) (@pss_one _ _ _ (@ps_ret _ _ _ _ (@pe_makeC _ _ _ _ _ _ _ _ _ _ _ _ Z_Both hr g_note_of_notes_Both (@pa_cons _ _ _ _ _ (@pe_var _ 1 _ _ rfl v_note_of_notes_1 dn_one dc_one) (@pa_cons _ _ _ _ _ (@pe_var _ 2 _ _ rfl v_note_of_notes_2 dn_other dc_other) (@pa_nil _) (star1 rfl)) (star1 rfl)) (by decide) dn_Both (star1 rfl) (nost1 rfl nost0)))) (@pss_nil _)) (@pss_cons _ _ _ _ _ (@ps_if _ _ _ _ _ _ _ _ (@pt_cmpR _ _ _ _ _ _ _ _ (@op_eq _) (@pe_var _ 0 _ _ rfl v_note_of_notes_0 dn_word dc_word) (@pe_str _ _ _ _) (nomark _)) (@pss_one _ _ _ (@ps_ret _ _ _ _ (@pe_makeC _ _ _ _ _ _ _ _ _ _ _ _ Z_Either hr g_note_of_notes_Either (@pa_cons _ _ _ _ _ (@pe_var _ 1 _ _ rfl v_note_of_notes_1 dn_one dc_one) (@pa_cons _ _ _ _ _ (@pe_var _ 2 _ _ rfl v_note_of_notes_2 dn_other dc_other) (@pa_nil _) (star1 rfl)) (star1 rfl)) (by decide) dn_Either (star1 rfl) (nost1 rfl nost0)))) (@pss_nil _)) (@pss_one _ _ _ (@ps_ret _ _ _ _ (@pe_makeC _ _ _ _ _ _ _ _ _ _ _ _ Z_But hr g_note_of_notes_But (@pa_cons _ _ _ _ _ (@pe_var _ 1 _ _ rfl v_note_of_notes_1 dn_one dc_one) (@pa_cons _ _ _ _ _ (@pe_var _ 2 _ _ rfl v_note_of_notes_2 dn_other dc_other) (@pa_nil _) (star1 rfl)) (star1 rfl)) (by decide) dn_But (star1 rfl) (nost1 rfl nost0)))))), ?_⟩
  simp only [tMake, slots, Option.getD_some, Option.getD_none, tSeq, tOp, tC, tVar, tCons, tNil, tRet, tIfS, tTest, tNext, rEq, Kd_non, Kd_bl, Kd_int, Kd_str, sc_non_non, sc_non_int, sc_int_non, sc_non_bl, sc_bl_non, sc_non_str, sc_str_non, sc_int_int, sc_bl_bl, sc_str_str, sc_int_str, sc_str_int, sc_bl_str, sc_str_bl, decide_true, decide_false, L2.start, cxK, Int.reduceToNat, List.map_cons, List.map_nil, List.length_cons, List.length_nil, Nat.reduceAdd, Nat.reduceSub, Nat.zero_add, List.replicate_succ, List.replicate_zero, List.cons_append, List.nil_append, List.append_nil, List.getElem?_cons_zero, List.getElem?_cons_succ, List.set_cons_zero, List.set_cons_succ, Option.some.injEq, V.int.injEq, V.bl.injEq, V.ref.injEq, V.str.injEq, V.ty.injEq, List.cons.injEq, exists_eq_left', exists_eq_left, exists_eq_right, exists_and_left, exists_and_right, and_true, true_and, and_assoc, exists_const, decide_eq_true_eq, Bool.not_eq_true', Bool.not_true, Bool.not_false, Bool.not_not, decide_eq_false_iff_not, ite_not, Bool.false_eq_true, if_true, if_false, reduceCtorEq, and_false, false_and, exists_false, or_false, false_or, ↓reduceIte, eq_self, reduceIte]
  rcases hw with ⟨rfl, rfl⟩ | ⟨rfl, rfl⟩ | ⟨rfl, rfl⟩
  · rw [if_pos rfl]
    exact fun x dx hx hd ne => ⟨x, _, dx, _, _, rfl, upd_same, t1.cl, t1.n1, t1.n2, fun H' h1 h2 => ⟨rfl, q _ _ (make2 hx hd h2) ⟨dx, _, _, h1, ObjN.same (make2 hx hd h2) O1, ObjN.same (make2 hx hd h2) O2⟩⟩⟩
  · rw [if_neg (by decide), if_pos rfl]
    exact fun x dx hx hd ne => ⟨x, _, dx, _, _, rfl, upd_same, t2.cl, t2.n1, t2.n2, fun H' h1 h2 => ⟨rfl, q _ _ (make2 hx hd h2) ⟨dx, _, _, h1, ObjN.same (make2 hx hd h2) O1, ObjN.same (make2 hx hd h2) O2⟩⟩⟩
  · rw [if_neg (by decide), if_neg (by decide)]
    exact fun x dx hx hd ne => ⟨x, _, dx, _, _, rfl, upd_same, t3.cl, t3.n1, t3.n2, fun H' h1 h2 => ⟨rfl, q _ _ (make2 hx hd h2) ⟨dx, _, _, h1, ObjN.same (make2 hx hd h2) O1, ObjN.same (make2 hx hd h2) O2⟩⟩⟩
theorem ok_note_of_one (F : Fun K "note_of_one" "note_of_one" s_note_of_one f fd) (M : Mg mg) (C_is_name : Cal P w K mg base CX0 "is_name" 1 ["thing"] (spIsName K)) (C_is_kind : Cal P w K mg base CX0 "is_kind" 2 ["thing"] (spIsKind K)) (C_note_of_name : Cal P w K mg base CX0 "note_of_name" 3 ["word", "name"] (spOfName K cs))
    (Z_Anything : Mk0 K cs.any) (A_Anything : mg "Anything" = some (.ref cs.any)) (Z_Over : MkC P w K mg base "Over" cs.over 1 ["self", "one", "other"] (spInit2 K)) (t4 : TwoC K cs.over) : FnOk P w K mg base CX0 4 f fd ["told"] (spOfOne K cs) := by
  refine F.ok sc_note_of_one (fun vs H Q E h => ?_) (fun cdv A outer s H vs Q E hr h => ?_)
  · obtain ⟨p, n, rfl, _⟩ := h
    rfl
  obtain ⟨p, n, rfl, R, ok, dp, q⟩ := h
  refine ⟨_, (@pss_cons _ _ _ _ _ (@ps_if _ _ _ _ _ _ _ _ (@PW.pt _ _ _ (@pw_and _ _ _ _ _ _ _ (@pt_cmpR _ _ _ _ _ _ _ _ (@op_eq _) (@pe_callB _ _ _ _ _ _ _ _ _ call_len_seq g_note_of_one_len M.m_len b_len (@pa_cons _ _ _ _ _ (@pe_var _ 0 _ _ rfl v_note_of_one_0 dn_told dc_told) (@pa_nil _) (star1 rfl)) nn_len dn_len (star1 rfl) nost0) (@pe_int _ _ _ _) (nomark _)) (@pw_and1 _ _ _ _ (@pt_cmpR _ _ _ _ _ _ _ _ (@op_eq _) (@pe_ix _ _ _ _ _ _ _ (@ix_tup _) (@pe_var _ 0 _ _ rfl v_note_of_one_0 dn_told dc_told) (@pe_int _ _ _ _) (fun _ _ => rfl)) (@pe_str _ _ _ _) (nomark _))))) (@pss_one _ _ _ (@ps_ret _ _ _ _ (@pe_makeN _ _ _ _ _ Z_Anything g_note_of_one_Anything A_Anything dn_Anything))) (@pss_nil _)) (@pss_cons _ _ _ _ _ (@ps_if _ _ _ _ _ _ _ _ (@PW.pt _ _ _ (@pw_and _ _ _ _ _ _ _ (@pt_cmpR _ _ _ _ _ _ _ _ (@op_eq _) (@pe_callB _ _ _ _ _ _ _ _ _ call_len_seq g_note_of_one_len M.m_len b_len (@pa_cons _ _ _ _ _ (@pe_var _ 0 _ _ rfl v_note_of_one_0 dn_told dc_told) (@pa_nil _) (star1 rfl)) nn_len dn_len (star1 rfl) nost0) (@pe_int _ _ _ _) (nomark _)) (@pw_and1 _ _ _ _ (@pt_val _ _ _ (@pe_callC _ _ _ _ _ _ _ _ _ _ _ C_is_name hr g_note_of_one_is_name (@pa_cons _ _ _ _ _ (@pe_ix _ _ _ _ _ _ _ (@ix_tup _) (@pe_var _ 0 _ _ rfl v_note_of_one_0 dn_told dc_told) (@pe_int _ _ _ _) (fun _ _ => rfl)) (@pa_nil _) (star1 rfl)) (by decide) dn_is_name (star1 rfl) nost0) (test1 rfl))))) (@pss_one _ _ _ (@ps_ret _ _ _ _ (@pe_callC _ _ _ _ _ _ _ _ _ _ _ C_note_of_name hr g_note_of_one_note_of_name (@pa_cons _ _ _ _ _ (@pe_ix _ _ _ _ _ _ _ (@ix_tup _) (@pe_var _ 0 _ _ rfl v_note_of_one_0 dn_told dc_told) (@pe_int _ _ _ _) (fun _ _ => rfl)) (@pa_cons _ _ _ _ _ (@pe_ix _ _ _ _ _ _ _ (@ix_tup _) (@pe_var _ 0 _ _ rfl v_note_of_one_0 dn_told dc_told) (@pe_int _ _ _ _) (fun _ _ => rfl)) (@pa_nil _) (star1 rfl)) (star1 rfl)) (by decide) dn_note_of_name (star1 rfl) (nost1 rfl nost0)))) (@pss_nil _)) (@pss_cons _ _ _ _ _ (@ps_if _ _ _ _ _ _ _ _ (@PW.pt _ _ _ (@pw_and _ _ _ _ _ _ _ (@pt_cmpR _ _ _ _ _ _ _ _ (@op_eq _) (@pe_callB _ _ _ _ _ _ _ _ _ call_len_seq g_note_of_one_len M.m_len b_len (@pa_cons _ _ _ _ _ (@pe_var _ 0 _ _ rfl v_note_of_one_0 dn_told dc_told) (@pa_nil _) (star1 rfl)) nn_len dn_len (star1 rfl) nost0) (@pe_int _ _ _ _) (nomark _)) (@pw_and _ _ _ _ _ _ _ (@pt_cmpR _ _ _ _ _ _ _ _ (@op_eq _) (@pe_ix _ _ _ _ _ _ _ (@ix_tup _) (@pe_var _ 0 _ _ rfl v_note_of_one_0 dn_told dc_told) (@pe_int _ _ _ _) (fun _ _ => rfl)) (@pe_str _ _ _ _) (nomark _)) (@pw_and _ _ _ _ _ _ _ (@pt_val _ _ _ (@pe_callC _ _ _ _ _ _ _ _ _ _ _ C_is_kind hr g_note_of_one_is_kind (@pa_cons _ _ _ _ _ (@pe_ix _ _ _ _ _ _ _ (@ix_tup _) (@pe_var _ 0 _ _ rfl v_note_of_one_0 dn_told dc_told) (@pe_int _ _ _ _) (fun _ _ => rfl)) (@pa_nil _) (star1 rfl)) (by decide) dn_is_kind (star1 rfl) nost0) (test1 rfl)) (@pw_and1 _ _ _ _ (@pt_val _ _ _ (@pe_callC _ _ _ _ _ _ _ _ _ _ _ C_is_kind hr g_note_of_one_is_kind (@pa_cons _ _ _ _ _ (@pe_ix _ _ _ _ _ _ _ (@ix_tup _) (@pe_var _ 0 _ _ rfl v_note_of_one_0 dn_told dc_told) (@pe_int _ _ _ _) (fun _ _ => rfl)) (@pa_nil _) (star1 rfl)) (by decide) dn_is_kind (star1 rfl) nost0) (test1 rfl))))))) (@pss_one _ _ _ (@ps_ret _ _ _ _ (@pe_makeC _ _ _ _ _ _ _ _ _ _ _ _ Z_Over hr g_note_of_one_Over (@pa_cons _ _ _ _ _ (@pe_ix _ _ _ _ _ _ _ (@ix_tup _) (@pe_var _ 0 _ _ rfl v_note_of_one_0 dn_told dc_told) (@pe_int _ _ _ _) (fun _ _ => rfl)) (@pa_cons _ _ _ _ _ (@pe_ix _ _ _ _ _ _ _ (@ix_tup _) (@pe_var _ 0 _ _ rfl v_note_of_one_0 dn_told dc_told) (@pe_int _ _ _ _) (fun _ _ => rfl)) (@pa_nil _) (star1 rfl)) (star1 rfl)) (by decide) dn_Over (star1 rfl) (nost1 rfl nost0)))) (@pss_nil _)) (@pss_one _ _ _ (@ps_never _ _))))), ?_⟩
  simp only [tMake, tMake0, slots, Option.getD_some, Option.getD_none, tSeq, tOp, tC, tVar, tCB, tCons, tNil, tCall, tRet, tIfS, tTest, tB, tAnd, tNext, tNever, rEq, rIxT, Kd_non, Kd_bl, Kd_int, Kd_str, sc_non_non, sc_non_int, sc_int_non, sc_non_bl, sc_bl_non, sc_non_str, sc_str_non, sc_int_int, sc_bl_bl, sc_str_str, sc_int_str, sc_str_int, sc_bl_str, sc_str_bl, decide_true, decide_false, L2.start, cxK, Int.reduceToNat, List.map_cons, List.map_nil, List.length_cons, List.length_nil, Nat.reduceAdd, Nat.reduceSub, Nat.zero_add, List.replicate_succ, List.replicate_zero, List.cons_append, List.nil_append, List.append_nil, List.getElem?_cons_zero, List.getElem?_cons_succ, List.set_cons_zero, List.set_cons_succ, Option.some.injEq, V.int.injEq, V.bl.injEq, V.ref.injEq, V.str.injEq, V.ty.injEq, List.cons.injEq, exists_eq_left', exists_eq_left, exists_eq_right, exists_and_left, exists_and_right, and_true, true_and, and_assoc, exists_const, decide_eq_true_eq, Bool.not_eq_true', Bool.not_true, Bool.not_false, Bool.not_not, decide_eq_false_iff_not, ite_not, Bool.false_eq_true, if_true, if_false, reduceCtorEq, and_false, false_and, exists_false, or_false, false_or, ↓reduceIte, eq_self, reduceIte]
  cases n with
  | any =>
    obtain ⟨x, T, a⟩ := rep_one R
    rw [rep_str a] at T
    refine ⟨_, .inr T, ?_⟩
    rw [if_pos (by rfl)]
    refine ⟨_, T, _, rfl, rfl, ?_⟩
    rw [if_pos rfl]
    intro x dx hx hd ne
    refine q _ _ (fun b u z => ?_) ⟨dx, upd_same⟩
    rw [upd_ne (ne_of_none z hx), upd_ne (ne_of_none z hd)]
    exact z
  | made s =>
    obtain ⟨x, y, T, a, b⟩ := rep_two R
    rw [rep_str a, rep_str b] at T
    refine ⟨_, .inr T, ?_⟩
    rw [if_neg (by simp)]
    refine ⟨_, .inr T, ?_⟩
    rw [if_pos (by simp)]
    refine ⟨_, T, _, rfl, _, true, rfl, name_v ok, fun H1 S1 => ⟨_, rfl, ?_⟩⟩
    rw [if_pos rfl]
    exact ⟨_, Same.tup S1 T, _, rfl, _, Same.tup S1 T, _, rfl, _, s, _, rfl, .inl ⟨rfl, rfl⟩, fun a H' e => q a H' (S1.trans e)⟩
  | used s =>
    obtain ⟨x, y, T, a, b⟩ := rep_two R
    rw [rep_str a, rep_str b] at T
    refine ⟨_, .inr T, ?_⟩
    rw [if_neg (by simp)]
    refine ⟨_, .inr T, ?_⟩
    rw [if_pos (by simp)]
    refine ⟨_, T, _, rfl, _, true, rfl, name_v ok, fun H1 S1 => ⟨_, rfl, ?_⟩⟩
    rw [if_pos rfl]
    exact ⟨_, Same.tup S1 T, _, rfl, _, Same.tup S1 T, _, rfl, _, s, _, rfl, .inr (.inl ⟨rfl, rfl⟩), fun a H' e => q a H' (S1.trans e)⟩
  | chief s =>
    obtain ⟨x, y, T, a, b⟩ := rep_two R
    rw [rep_str a, rep_str b] at T
    refine ⟨_, .inr T, ?_⟩
    rw [if_neg (by simp)]
    refine ⟨_, .inr T, ?_⟩
    rw [if_pos (by simp)]
    refine ⟨_, T, _, rfl, _, true, rfl, name_v ok, fun H1 S1 => ⟨_, rfl, ?_⟩⟩
    rw [if_pos rfl]
    exact ⟨_, Same.tup S1 T, _, rfl, _, Same.tup S1 T, _, rfl, _, s, _, rfl, .inr (.inr ⟨rfl, rfl⟩), fun a H' e => q a H' (S1.trans e)⟩
  | over k1 k2 =>
    obtain ⟨x, y, z, T, a, b, c⟩ := rep_three R
    rw [rep_str a] at T
    obtain ⟨p1, rfl, T1⟩ := kind_inv b
    obtain ⟨p2, rfl, T2⟩ := kind_inv c
    obtain ⟨ok1, ok2⟩ := ok
    refine ⟨_, .inr T, ?_⟩
    rw [if_neg (by simp)]
    refine ⟨_, .inr T, ?_⟩
    rw [if_neg (by simp)]
    refine ⟨_, .inr T, ?_⟩
    rw [if_pos (by simp)]
    refine ⟨_, T, _, rfl, rfl, ?_⟩
    rw [if_pos rfl]
    refine ⟨_, T, _, rfl, _, true, rfl, KindV.two T1 (name_v ok1.1) (name_v ok1.2), fun H1 S1 => ⟨_, rfl, ?_⟩⟩
    rw [if_pos rfl]
    refine ⟨_, Same.tup S1 T, _, rfl, _, true, rfl, KindV.two (Same.tup S1 T2) (name_v ok2.1) (name_v ok2.2), fun H2 S2 => ⟨_, rfl, ?_⟩⟩
    rw [if_pos rfl]
    have S12 := S1.trans S2
    refine ⟨_, Same.tup S12 T, _, rfl, _, Same.tup S12 T, _, rfl, fun x dx hx hd ne => ⟨x, _, dx, _, _, rfl, upd_same, t4.cl, t4.n1, t4.n2, fun H' h1 h2 => ⟨rfl, q _ _ (S12.trans (make2 hx hd h2)) ⟨dx, _, _, h1, Same.tup (S12.trans (make2 hx hd h2)) T1, Same.tup (S12.trans (make2 hx hd h2)) T2⟩⟩⟩⟩
  | both x y => exact absurd dp (by have := Nt.dp_pos x; show ¬(max x.dp y.dp + 1 = 1); omega)
  | either x y => exact absurd dp (by have := Nt.dp_pos x; show ¬(max x.dp y.dp + 1 = 1); omega)
  | but x y => exact absurd dp (by have := Nt.dp_pos x; show ¬(max x.dp y.dp + 1 = 1); omega)
theorem step_within {d : Nat} (F : Fun K "note_within" "note_within" s_note_within f fd) (M : Mg mg) (C_note_of_one : Cal P w K mg base CX0 "note_of_one" 4 ["told"] (spOfOne K cs)) (C_note_of_notes : Cal P w K mg base CX0 "note_of_notes" 3 ["word", "one", "other"] (spOfNotes K cs)) (C_note_within : Cal P w K mg base CX0 "note_within" (5 + d) ["left", "told"] (spWithinN K cs d)) : FnOk P w K mg base CX0 (5 + d + 1) f fd ["left", "told"] (spWithinN K cs (d + 1)) := by
  refine F.ok sc_note_within (fun vs H Q E h => ?_) (fun cdv A outer s H vs Q E hr h => ?_)
  · obtain ⟨l, p, n, rfl, _⟩ := h
    rfl
  obtain ⟨l, p, n, rfl, hl, R, ok, dp, q⟩ := h
  refine ⟨_, (@pss_cons _ _ _ _ _ (@ps_if _ _ _ _ _ _ _ _ (@pt_cmpR _ _ _ _ _ _ _ _ (@op_eq _) (@pe_var _ 0 _ _ rfl v_note_within_0 dn_left dc_left) (@pe_int _ _ _ _) (nomark _)) (@pss_one _ _ _ (@ps_never _ _)) (@pss_nil _)) (@pss_cons _ _ _ _ _ (@ps_if _ _ _ _ _ _ _ _ (@PW.pt _ _ _ (@pw_or _ _ _ _ _ _ _ (@pt_not _ _ _ _ (@pt_val _ _ _ (@pe_callB _ _ _ _ _ _ _ _ _ call_isi g_note_within_isinstance M.m_isinstance b_isinstance (@pa_cons _ _ _ _ _ (@pe_var _ 1 _ _ rfl v_note_within_1 dn_told dc_told) (@pa_cons _ _ _ _ _ (@pe_bltn _ _ (.ty "tuple") _ _ g_note_within_tuple M.m_tuple b_tuple rfl nn_tuple dn_tuple) (@pa_nil _) (star1 rfl)) (star1 rfl)) nn_isinstance dn_isinstance (star1 rfl) (nost1 rfl nost0)) (test1 rfl))) (@pw_or _ _ _ _ _ _ _ (@pt_cmpR _ _ _ _ _ _ _ _ (@op_eq _) (@pe_callB _ _ _ _ _ _ _ _ _ call_len_seq g_note_within_len M.m_len b_len (@pa_cons _ _ _ _ _ (@pe_var _ 1 _ _ rfl v_note_within_1 dn_told dc_told) (@pa_nil _) (star1 rfl)) nn_len dn_len (star1 rfl) nost0) (@pe_int _ _ _ _) (nomark _)) (@pw_or1 _ _ _ _ (@pt_not _ _ _ _ (@pt_val _ _ _ (@pe_callB _ _ _ _ _ _ _ _ _ call_isi g_note_within_isinstance M.m_isinstance b_isinstance (@pa_cons _ _ _ _ _ (@pe_ix _ _ _ _ _ _ _ (@ix_tup _) (@pe_var _ 1 _ _ rfl v_note_within_1 dn_told dc_told) (@pe_int _ _ _ _) (fun _ _ => rfl)) (@pa_cons _ _ _ _ _ (@pe_bltn _ _ (.ty "str") _ _ g_note_within_str M.m_str b_str rfl nn_str dn_str) (@pa_nil _) (star1 rfl)) (star1 rfl)) nn_isinstance dn_isinstance (star1 rfl) (nost1 rfl nost0)) (test1 rfl))))))) (@pss_one _ _ _ (@ps_never _ _)) (@pss_nil _)) (@pss_cons _ _ _ _ _ (@ps_if _ _ _ _ _ _ _ _ (@PW.pt _ _ _ (@pw_and _ _ _ _ _ _ _ (@pt_cmpR _ _ _ _ _ _ _ _ (@op_eq _) (@pe_callB _ _ _ _ _ _ _ _ _ call_len_seq g_note_within_len M.m_len b_len (@pa_cons _ _ _ _ _ (@pe_var _ 1 _ _ rfl v_note_within_1 dn_told dc_told) (@pa_nil _) (star1 rfl)) nn_len dn_len (star1 rfl) nost0) (@pe_int _ _ _ _) (nomark _)) (@pw_and1 _ _ _ _ (@pt_cmpR _ _ _ _ _ _ _ _ op_in_seq (@pe_ix _ _ _ _ _ _ _ (@ix_tup _) (@pe_var _ 1 _ _ rfl v_note_within_1 dn_told dc_told) (@pe_int _ _ _ _) (fun _ _ => rfl)) (@pe_tup _ _ _ _ _ (@pa_cons _ _ _ _ _ (@pe_str _ _ _ _) (@pa_cons _ _ _ _ _ (@pe_str _ _ _ _) (@pa_cons _ _ _ _ _ (@pe_str _ _ _ _) (@pa_nil _) (star1 rfl)) (star1 rfl)) (star1 rfl))) (by with_unfolding_all rfl))))) (@pss_cons _ _ _ _ _ (@ps_set _ _ 2 _ _ _ _ sc_note_within.nd rfl l_note_within_2 (@pe_callC _ _ _ _ _ _ _ _ _ _ _ C_note_within hr g_note_within_note_within (@pa_cons _ _ _ _ _ (@pe_op _ _ _ _ _ _ _ _ (@op_sub _) (@pe_var _ 0 _ _ rfl v_note_within_0 dn_left dc_left) (@pe_int _ _ _ _)) (@pa_cons _ _ _ _ _ (@pe_ix _ _ _ _ _ _ _ (@ix_tup _) (@pe_var _ 1 _ _ rfl v_note_within_1 dn_told dc_told) (@pe_int _ _ _ _) (fun _ _ => rfl)) (@pa_nil _) (star1 rfl)) (star1 rfl)) (by omega) dn_note_within (star1 rfl) (nost1 rfl nost0)) (swap1 rfl) (.inl rfl)) (@pss_cons _ _ _ _ _ (@ps_set _ _ 3 _ _ _ _ sc_note_within.nd rfl l_note_within_3 (@pe_callC _ _ _ _ _ _ _ _ _ _ _ C_note_within hr g_note_within_note_within (@pa_cons _ _ _ _ _ (@pe_op _ _ _ _ _ _ _ _ (@op_sub _) (@pe_var _ 0 _ _ rfl v_note_within_0 dn_left dc_left) (@pe_int _ _ _ _)) (@pa_cons _ _ _ _ _ (@pe_ix _ _ _ _ _ _ _ (@ix_tup _) (@pe_var _ 1 _ _ rfl v_note_within_1 dn_told dc_told) (@pe_int _ _ _ _) (fun _ _ => rfl)) (@pa_nil _) (star1 rfl)) (star1 rfl)) (by omega) dn_note_within (star1 rfl) (nost1 rfl nost0)) (swap1 rfl) (.inl rfl)) (@pss_one _ _ _ (@ps_ret _ _ _ _ (@pe_callC _ _ _ _ _ _ _ _ _ _ _ C_note_of_notes hr g_note_within_note_of_notes (@pa_cons _ _ _ _ _ (@pe_ix _ _ _ _ _ _ _ (@ix_tup _) (@pe_var _ 1 _ _ rfl v_note_within_1 dn_told dc_told) (@pe_int _ _ _ _) (fun _ _ => rfl)) (@pa_cons _ _ _ _ _ (@pe_var _ 2 _ _ rfl v_note_within_2 dn_one dc_one) (@pa_cons _ _ _ _ _ (@pe_var _ 3 _ _ rfl v_note_within_3 dn_other dc_other) (@pa_nil _) (star1 rfl)) (star1 rfl)) (star1 rfl)) (by omega) dn_note_of_notes (star1 rfl) (nost1 rfl (nost1 rfl nost0))))))) (@pss_nil _)) (@pss_one _ _ _ (@ps_ret _ _ _ _ (@pe_callC _ _ _ _ _ _ _ _ _ _ _ C_note_of_one hr g_note_within_note_of_one (@pa_cons _ _ _ _ _ (@pe_var _ 1 _ _ rfl v_note_within_1 dn_told dc_told) (@pa_nil _) (star1 rfl)) (by omega) dn_note_of_one (star1 rfl) nost0)))))), ?_⟩
  simp only [slots, Option.getD_some, Option.getD_none, tSeq, tAsg, gName, tOp, tC, tVar, tCB, tCons, tNil, tCall, rI0, tRet, tIfS, tTest, tB, tAnd, tOr, tNot, tTup, tNext, tNever, rEq, rIsi, rIxT, isi_non_bl, isi_non_int, isi_non_str, isi_non_lst, isi_non_tup, isi_bl_bl, isi_bl_int, isi_bl_str, isi_bl_lst, isi_bl_tup, isi_int_bl, isi_int_int, isi_int_str, isi_int_lst, isi_int_tup, isi_str_bl, isi_str_int, isi_str_str, isi_str_lst, isi_str_tup, isi_lst_bl, isi_lst_int, isi_lst_str, isi_lst_lst, isi_lst_tup, isi_tup_bl, isi_tup_int, isi_tup_str, isi_tup_lst, isi_tup_tup, isi_dct_bl, isi_dct_int, isi_dct_str, isi_dct_lst, isi_dct_tup, Kd_non, Kd_bl, Kd_int, Kd_str, sc_non_non, sc_non_int, sc_int_non, sc_non_bl, sc_bl_non, sc_non_str, sc_str_non, sc_int_int, sc_bl_bl, sc_str_str, sc_int_str, sc_str_int, sc_bl_str, sc_str_bl, decide_true, decide_false, tyK_int, tyK_bool, tyK_str, tyK_list, tyK_tuple, L2.start, cxK, Int.reduceToNat, List.map_cons, List.map_nil, List.length_cons, List.length_nil, Nat.reduceAdd, Nat.reduceSub, Nat.zero_add, List.replicate_succ, List.replicate_zero, List.cons_append, List.nil_append, List.append_nil, List.getElem?_cons_zero, List.getElem?_cons_succ, List.set_cons_zero, List.set_cons_succ, Option.some.injEq, V.int.injEq, V.bl.injEq, V.ref.injEq, V.str.injEq, V.ty.injEq, List.cons.injEq, exists_eq_left', exists_eq_left, exists_eq_right, exists_and_left, exists_and_right, and_true, true_and, and_assoc, exists_const, decide_eq_true_eq, Bool.not_eq_true', Bool.not_true, Bool.not_false, Bool.not_not, decide_eq_false_iff_not, ite_not, Bool.false_eq_true, if_true, if_false, reduceCtorEq, and_false, false_and, exists_false, or_false, false_or, ↓reduceIte, eq_self, reduceIte]
  have one : n.dp = 1 → ∀ H', Same H H' → spOfOne K cs [V.ref p] H' Q E0 := fun h H' e => ⟨p, n, rfl, R.same e, ok, h, fun a H2 e2 => q a H2 (e.trans e2)⟩
  rw [if_neg (by omega)]
  cases n with
  | any =>
    obtain ⟨x, T, a⟩ := rep_one R
    rw [rep_str a] at T
    refine ⟨_, Kd.tup T, ?_⟩
    rw [if_neg (by decide)]
    refine ⟨_, .inr T, ?_⟩
    rw [if_neg (by simp)]
    refine ⟨_, T, _, rfl, _, (show Kd K H (.str _) .str from rfl), ?_⟩
    rw [if_neg (by decide)]
    refine ⟨_, .inr T, ?_⟩
    rw [if_neg (by simp)]
    exact one rfl _ (Same.refl _)
  | made s =>
    obtain ⟨x, y, T, a, b⟩ := rep_two R
    rw [rep_str a, rep_str b] at T
    refine ⟨_, Kd.tup T, ?_⟩
    rw [if_neg (by decide)]
    refine ⟨_, .inr T, ?_⟩
    rw [if_neg (by simp)]
    refine ⟨_, T, _, rfl, _, (show Kd K H (.str _) .str from rfl), ?_⟩
    rw [if_neg (by decide)]
    refine ⟨_, .inr T, ?_⟩
    rw [if_neg (by simp)]
    exact one rfl _ (Same.refl _)
  | used s =>
    obtain ⟨x, y, T, a, b⟩ := rep_two R
    rw [rep_str a, rep_str b] at T
    refine ⟨_, Kd.tup T, ?_⟩
    rw [if_neg (by decide)]
    refine ⟨_, .inr T, ?_⟩
    rw [if_neg (by simp)]
    refine ⟨_, T, _, rfl, _, (show Kd K H (.str _) .str from rfl), ?_⟩
    rw [if_neg (by decide)]
    refine ⟨_, .inr T, ?_⟩
    rw [if_neg (by simp)]
    exact one rfl _ (Same.refl _)
  | chief s =>
    obtain ⟨x, y, T, a, b⟩ := rep_two R
    rw [rep_str a, rep_str b] at T
    refine ⟨_, Kd.tup T, ?_⟩
    rw [if_neg (by decide)]
    refine ⟨_, .inr T, ?_⟩
    rw [if_neg (by simp)]
    refine ⟨_, T, _, rfl, _, (show Kd K H (.str _) .str from rfl), ?_⟩
    rw [if_neg (by decide)]
    refine ⟨_, .inr T, ?_⟩
    rw [if_neg (by simp)]
    exact one rfl _ (Same.refl _)
  | over k1 k2 =>
    obtain ⟨x, y, z, T, a, b, c⟩ := rep_three R
    rw [rep_str a] at T
    refine ⟨_, Kd.tup T, ?_⟩
    rw [if_neg (by decide)]
    refine ⟨_, .inr T, ?_⟩
    rw [if_neg (by simp)]
    refine ⟨_, T, _, rfl, _, (show Kd K H (.str _) .str from rfl), ?_⟩
    rw [if_neg (by decide)]
    refine ⟨_, .inr T, ?_⟩
    rw [if_pos (by simp)]
    refine ⟨_, T, _, rfl, by decide, fun p1 hp1 => ?_⟩
    obtain ⟨H1, g1, S1, T1⟩ := fresh_tup (K := K) hp1 [V.str (Str.ofString "both"), V.str (Str.ofString "either"), V.str (Str.ofString "but")]
    rw [← g1]
    clear g1
    refine ⟨p1, _, rfl, .inr T1, rfl, rfl, _, rfl, ?_⟩
    rw [if_neg (by decide)]
    exact one rfl _ S1
  | both x y =>
    obtain ⟨x1, v1, v2, T, a, b, c⟩ := rep_three R
    rw [rep_str a] at T
    obtain ⟨a1, rfl⟩ := told_ref b
    obtain ⟨a2, rfl⟩ := told_ref c
    obtain ⟨ok1, ok2⟩ := ok
    refine ⟨_, Kd.tup T, ?_⟩
    rw [if_neg (by decide)]
    refine ⟨_, .inr T, ?_⟩
    rw [if_neg (by simp)]
    refine ⟨_, T, _, rfl, _, (show Kd K H (.str _) .str from rfl), ?_⟩
    rw [if_neg (by decide)]
    refine ⟨_, .inr T, ?_⟩
    rw [if_pos (by simp)]
    refine ⟨_, T, _, rfl, by decide, fun p1 hp1 => ?_⟩
    obtain ⟨H1, g1, S1, T1⟩ := fresh_tup (K := K) hp1 [V.str (Str.ofString "both"), V.str (Str.ofString "either"), V.str (Str.ofString "but")]
    rw [← g1]
    clear g1
    refine ⟨p1, _, rfl, .inr T1, rfl, rfl, _, rfl, ?_⟩
    rw [if_pos (by decide)]
    have dd : max x.dp y.dp + 1 ≤ d + 1 := dp
    refine ⟨_, Same.tup S1 T, _, rfl, _, a1, x, rfl, by omega, b.same S1, ok1, by omega, fun o1 H2 S2 O1 => ?_⟩
    have S12 := S1.trans S2
    refine ⟨_, Same.tup S12 T, _, rfl, _, a2, y, rfl, by omega, c.same S12, ok2, by omega, fun o2 H3 S3 O2 => ?_⟩
    have S13 := S12.trans S3
    exact ⟨_, Same.tup S13 T, _, rfl, _, o1, o2, x, y, _, rfl, (.inl ⟨rfl, rfl⟩), ObjN.same S3 O1, O2, fun a H' e => q a H' (S13.trans e)⟩
  | either x y =>
    obtain ⟨x1, v1, v2, T, a, b, c⟩ := rep_three R
    rw [rep_str a] at T
    obtain ⟨a1, rfl⟩ := told_ref b
    obtain ⟨a2, rfl⟩ := told_ref c
    obtain ⟨ok1, ok2⟩ := ok
    refine ⟨_, Kd.tup T, ?_⟩
    rw [if_neg (by decide)]
    refine ⟨_, .inr T, ?_⟩
    rw [if_neg (by simp)]
    refine ⟨_, T, _, rfl, _, (show Kd K H (.str _) .str from rfl), ?_⟩
    rw [if_neg (by decide)]
    refine ⟨_, .inr T, ?_⟩
    rw [if_pos (by simp)]
    refine ⟨_, T, _, rfl, by decide, fun p1 hp1 => ?_⟩
    obtain ⟨H1, g1, S1, T1⟩ := fresh_tup (K := K) hp1 [V.str (Str.ofString "both"), V.str (Str.ofString "either"), V.str (Str.ofString "but")]
    rw [← g1]
    clear g1
    refine ⟨p1, _, rfl, .inr T1, rfl, rfl, _, rfl, ?_⟩
    rw [if_pos (by decide)]
    have dd : max x.dp y.dp + 1 ≤ d + 1 := dp
    refine ⟨_, Same.tup S1 T, _, rfl, _, a1, x, rfl, by omega, b.same S1, ok1, by omega, fun o1 H2 S2 O1 => ?_⟩
    have S12 := S1.trans S2
    refine ⟨_, Same.tup S12 T, _, rfl, _, a2, y, rfl, by omega, c.same S12, ok2, by omega, fun o2 H3 S3 O2 => ?_⟩
    have S13 := S12.trans S3
    exact ⟨_, Same.tup S13 T, _, rfl, _, o1, o2, x, y, _, rfl, (.inr (.inl ⟨rfl, rfl⟩)), ObjN.same S3 O1, O2, fun a H' e => q a H' (S13.trans e)⟩
  | but x y =>
    obtain ⟨x1, v1, v2, T, a, b, c⟩ := rep_three R
    rw [rep_str a] at T
    obtain ⟨a1, rfl⟩ := told_ref b
    obtain ⟨a2, rfl⟩ := told_ref c
    obtain ⟨ok1, ok2⟩ := ok
    refine ⟨_, Kd.tup T, ?_⟩
    rw [if_neg (by decide)]
    refine ⟨_, .inr T, ?_⟩
    rw [if_neg (by simp)]
    refine ⟨_, T, _, rfl, _, (show Kd K H (.str _) .str from rfl), ?_⟩
    rw [if_neg (by decide)]
    refine ⟨_, .inr T, ?_⟩
    rw [if_pos (by simp)]
    refine ⟨_, T, _, rfl, by decide, fun p1 hp1 => ?_⟩
    obtain ⟨H1, g1, S1, T1⟩ := fresh_tup (K := K) hp1 [V.str (Str.ofString "both"), V.str (Str.ofString "either"), V.str (Str.ofString "but")]
    rw [← g1]
    clear g1
    refine ⟨p1, _, rfl, .inr T1, rfl, rfl, _, rfl, ?_⟩
    rw [if_pos (by decide)]
    have dd : max x.dp y.dp + 1 ≤ d + 1 := dp
    refine ⟨_, Same.tup S1 T, _, rfl, _, a1, x, rfl, by omega, b.same S1, ok1, by omega, fun o1 H2 S2 O1 => ?_⟩
    have S12 := S1.trans S2
    refine ⟨_, Same.tup S12 T, _, rfl, _, a2, y, rfl, by omega, c.same S12, ok2, by omega, fun o2 H3 S3 O2 => ?_⟩
    have S13 := S12.trans S3
    exact ⟨_, Same.tup S13 T, _, rfl, _, o1, o2, x, y, _, rfl, (.inr (.inr ⟨rfl, rfl⟩)), ObjN.same S3 O1, O2, fun a H' e => q a H' (S13.trans e)⟩
theorem ok_note_within (F : Fun K "note_within" "note_within" s_note_within f fd) (M : Mg mg) (C_note_of_one : Cal P w K mg base CX0 "note_of_one" 4 ["told"] (spOfOne K cs)) (C_note_of_notes : Cal P w K mg base CX0 "note_of_notes" 3 ["word", "one", "other"] (spOfNotes K cs)) (b : Binds K fd ["left", "told"] []) (kp : PySem.W.keepIn K (.ref f) = true) (m : mg "note_within" = some (.ref f)) : ∀ d : Nat, FnOk P w K mg base CX0 (5 + d) f fd ["left", "told"] (spWithinN K cs d)
  | 0 => by
    refine F.ok sc_note_within (fun vs H Q E h => ?_) (fun cdv A outer s H vs Q E hr h => ?_)
    · obtain ⟨l, p, n, rfl, _⟩ := h
      rfl
    obtain ⟨l, p, n, rfl, hl, R, ok, dp, q⟩ := h
    have := Nt.dp_pos n
    omega
  | d + 1 => step_within F M C_note_of_one C_note_of_notes ⟨⟨f, fd, ok_note_within F M C_note_of_one C_note_of_notes b kp m d, b, kp, m⟩⟩
theorem ok_note_of (F : Fun K "note_of" "note_of" s_note_of f fd) (M : Mg mg) (C_note_within : Cal P w K mg base CX0 "note_within" 10 ["left", "told"] (spWithinN K cs 5)) : FnOk P w K mg base CX0 11 f fd ["told"] (spNoteOf K cs) := by
  refine F.ok sc_note_of (fun vs H Q E h => ?_) (fun cdv A outer s H vs Q E hr h => ?_)
  · obtain ⟨p, n, rfl, _⟩ := h
    rfl
  obtain ⟨p, n, rfl, R, ok, dp, q⟩ := h
  refine ⟨_, (@pss_one _ _ _ (@ps_ret _ _ _ _ (@pe_callC _ _ _ _ _ _ _ _ _ _ _ C_note_within hr g_note_of_note_within (@pa_cons _ _ _ _ _ (@pe_int _ _ _ _) (@pa_cons _ _ _ _ _ (@pe_var _ 0 _ _ rfl v_note_of_0 dn_told dc_told) (@pa_nil _) (star1 rfl)) (star1 rfl)) (by decide) dn_note_within (star1 rfl) (nost1 rfl nost0)))), ?_⟩
  simp only [slots, Option.getD_some, Option.getD_none, tC, tVar, tCons, tNil, tCall, tRet, Kd_non, Kd_bl, Kd_int, Kd_str, decide_true, decide_false, L2.start, cxK, Int.reduceToNat, List.map_cons, List.map_nil, List.length_cons, List.length_nil, Nat.reduceAdd, Nat.reduceSub, Nat.zero_add, List.replicate_succ, List.replicate_zero, List.cons_append, List.nil_append, List.append_nil, List.getElem?_cons_zero, List.getElem?_cons_succ, List.set_cons_zero, List.set_cons_succ, Option.some.injEq, V.int.injEq, V.bl.injEq, V.ref.injEq, V.str.injEq, V.ty.injEq, List.cons.injEq, exists_eq_left', exists_eq_left, exists_eq_right, exists_and_left, exists_and_right, and_true, true_and, and_assoc, exists_const, decide_eq_true_eq, Bool.not_eq_true', Bool.not_true, Bool.not_false, Bool.not_not, decide_eq_false_iff_not, ite_not, Bool.false_eq_true, if_true, if_false, reduceCtorEq, and_false, false_and, exists_false, or_false, false_or, ↓reduceIte, eq_self, reduceIte]
  exact ⟨5, p, n, rfl, by decide, R, ok, dp, q⟩
end

structure Ground (K : PySem.W.Frag) (H : Hp) (kl lt : Addr) (ks : List Kd2) (lk : List Int) : Prop where
  kx : ∃ xs, SqL K H kl xs ∧ KnA K H xs ks
  look : SqT K H lt (lk.map V.int)
  len : lk.length = ks.length
  pos : 1 ≤ ks.length
  le : ks.length ≤ 4
  ok : ∀ k ∈ ks, okKind k
  nn : ∀ x ∈ lk, 0 ≤ x
theorem Ground.same {K : PySem.W.Frag} {H H' : Hp} {kl lt : Addr} {ks : List Kd2} {lk : List Int} (G : Ground K H kl lt ks lk) (e : Same H H') : Ground K H' kl lt ks lk :=
  ⟨let ⟨xs, a, b⟩ := G.kx; ⟨xs, e.seq a, b.same e⟩, Same.tup e G.look, G.len, G.pos, G.le, G.ok, G.nn⟩
theorem Ground.at {K : PySem.W.Frag} {H : Hp} {kl lt : Addr} {ks : List Kd2} {lk : List Int} (G : Ground K H kl lt ks lk) {i : Nat} {k : Kd2} (h : ks[i]? = some k) : ∃ x, lk[i]? = some x ∧ atI (lk.map V.int) (i : Int) = some (.int x) ∧ x ∈ lk ∧ 0 ≤ x := by
  have hi := (List.getElem?_eq_some_iff.mp h).1
  have hj : i < lk.length := by rw [G.len]; exact hi
  have e : lk[i]? = some lk[i] := List.getElem?_eq_getElem hj
  have m : lk[i] ∈ lk := List.getElem_mem _
  exact ⟨_, e, atI_nat (by rw [List.getElem?_map, e]; rfl), m, G.nn _ m⟩
def anyAt (ks : List Kd2) (lk : List Int) (p : Kd2 → Int → Bool) : Bool := (ks.zip lk).any fun q => p q.1 q.2
def anyTo (ks : List Kd2) (lk : List Int) (p : Kd2 → Int → Bool) (i : Nat) : Bool := ((ks.zip lk).take i).any fun q => p q.1 q.2
theorem anyTo_zero {ks : List Kd2} {lk : List Int} {p : Kd2 → Int → Bool} : anyTo ks lk p 0 = false := rfl
theorem anyTo_succ {ks : List Kd2} {lk : List Int} {p : Kd2 → Int → Bool} {i : Nat} {k : Kd2} {x : Int} (h1 : ks[i]? = some k) (h2 : lk[i]? = some x) : anyTo ks lk p (i + 1) = (anyTo ks lk p i || p k x) := by
  unfold anyTo
  have e : (ks.zip lk)[i]? = some (k, x) := by
    rw [List.getElem?_zip_eq_some]
    exact ⟨h1, h2⟩
  rw [List.take_succ, e, List.any_append]
  simp
theorem anyTo_end {ks : List Kd2} {lk : List Int} {p : Kd2 → Int → Bool} (h : lk.length = ks.length) : anyTo ks lk p ks.length = anyAt ks lk p := by
  unfold anyTo anyAt
  rw [List.take_of_length_le (by rw [List.length_zip]; omega)]
def pMade (lk : List Int) (s : List Nat) (k : Kd2) (x : Int) : Bool := decide (x ≠ 0) && decide (k.1 = s)
def pUsed (lk : List Int) (s : List Nat) (k : Kd2) (x : Int) : Bool := decide (x ≠ 0) && decide (k.2 = s)
def pChief (lk : List Int) (s : List Nat) (k : Kd2) (x : Int) : Bool := decide (∀ y ∈ lk, y ≤ x) && decide (k.1 = s)
def spPlaces (K : PySem.W.Frag) (p : List Int → List Nat → Kd2 → Int → Bool) : Sp := fun vs H Q _ => ∃ (kl lt : Addr) (s : List Nat) (ks : List Kd2) (lk : List Int), vs = [.ref kl, .ref lt, .str (txt s)] ∧ Ground K H kl lt ks lk ∧
  ∀ l xs H', Same H H' → H' l = some (.lst xs) → xs.length ≤ 4 → xs.isEmpty = !(anyAt ks lk (p lk s)) → Q (.ref l) H'
def spPlaceR (K : PySem.W.Frag) : Sp := fun vs H Q _ => ∃ (l : Addr) (xs : List V), vs = [.ref l] ∧ H l = some (.lst xs) ∧ ∀ p y H', Same H H' → SqT K H' p [.bl (!xs.isEmpty), y] → Q (.ref p) H'
def numIn (ks : List Kd2) (lk : List Int) (k : Kd2) : Int := (((ks.zip lk).find? fun q => decide (q.1 = k)).map (·.2)).getD 0
def spNumIn (K : PySem.W.Frag) : Sp := fun vs H Q _ => ∃ (kl lt p : Addr) (ks : List Kd2) (lk : List Int) (k : Kd2), vs = [.ref kl, .ref lt, .ref p] ∧ Ground K H kl lt ks lk ∧ SqT K H p (kRow k) ∧ okKind k ∧ ∀ H', Same H H' → Q (.int (numIn ks lk k)) H'
def spOver (K : PySem.W.Frag) : Sp := fun vs H Q _ => ∃ (kl lt p1 p2 : Addr) (ks : List Kd2) (lk : List Int) (k1 k2 : Kd2), vs = [.ref kl, .ref lt, .ref p1, .ref p2] ∧ Ground K H kl lt ks lk ∧ SqT K H p1 (kRow k1) ∧ okKind k1 ∧ SqT K H p2 (kRow k2) ∧ okKind k2 ∧ ∀ H', Same H H' → Q (.bl (decide (numIn ks lk k1 > numIn ks lk k2))) H'
theorem first_at {ks : List Kd2} {k : Kd2} (h : k ∈ ks) : ∃ j : Nat, ks[j]? = some k ∧ ∀ (m : Nat) (z : Kd2), m < j → ks[m]? = some z → z ≠ k := by
  induction ks with
  | nil => cases h
  | cons c ks ih =>
    by_cases e : c = k
    · exact ⟨0, by rw [e]; rfl, fun m z hm => absurd hm (by omega)⟩
    · have h' : k ∈ ks := by
        rcases List.mem_cons.mp h with z | z
        · exact absurd z.symm e
        · exact z
      obtain ⟨j, h1, h2⟩ := ih h'
      refine ⟨j + 1, by simpa using h1, fun m z hm hz => ?_⟩
      cases m with
      | zero => simp at hz; rw [← hz]; exact e
      | succ m => exact h2 m z (by omega) (by simpa using hz)
theorem numIn_at {k : Kd2} {x : Int} : ∀ {j : Nat} {ks : List Kd2} {lk : List Int}, ks[j]? = some k → (∀ (m : Nat) (z : Kd2), m < j → ks[m]? = some z → z ≠ k) → lk[j]? = some x → numIn ks lk k = x
  | _, [], _, h, _, _ => by simp at h
  | _, _ :: _, [], _, _, h => by simp at h
  | 0, c :: ks, y :: lk, h, _, h2 => by
    simp at h h2
    subst h h2
    unfold numIn
    simp
  | j + 1, c :: ks, y :: lk, h, hno, h2 => by
    have e : c ≠ k := hno 0 c (by omega) rfl
    have ih := numIn_at (j := j) (ks := ks) (lk := lk) (k := k) (x := x) (by simpa using h) (fun m z hm hz => hno (m + 1) z (by omega) (by simpa using hz)) (by simpa using h2)
    unfold numIn at ih ⊢
    rw [List.zip_cons_cons, List.find?_cons_of_neg (by simpa using e)]
    exact ih
theorem numIn_not {k : Kd2} : ∀ {ks : List Kd2} {lk : List Int}, k ∉ ks → numIn ks lk k = 0
  | [], _, _ => rfl
  | _ :: _, [], _ => rfl
  | c :: ks, y :: lk, h => by
    have e : c ≠ k := fun z => h (by rw [z]; exact List.mem_cons_self)
    have ih := numIn_not (ks := ks) (lk := lk) (k := k) fun z => h (List.mem_cons_of_mem _ z)
    unfold numIn at ih ⊢
    rw [List.zip_cons_cons, List.find?_cons_of_neg (by simpa using e)]
    exact ih
theorem txtV {a b : List Nat} : V.str (txt a) = V.str (txt b) ↔ a = b := by
  constructor
  · intro e
    have e2 : txt a = txt b := by injection e
    refine of_decide_eq_true ?_
    rw [← txt_inj, e2]
    exact beq_self_eq_true _
  · intro e
    rw [e]
section
variable {P : Program} {w : World} {K : PySem.W.Frag} {mg : Str → Option Value} {base : Heap} {f : Addr} {fd : FuncData}
theorem ok_made_places (F : Fun K "made_places" "made_places" s_made_places f fd) (M : Mg mg) : FnOk P w K mg base CX0 1 f fd ["kinds", "look", "stuff"] (spPlaces K pMade) := by
  refine F.ok sc_made_places (fun vs H Q E h => ?_) (fun cdv A outer s H vs Q E hr h => ?_)
  · obtain ⟨kl, lt, s, ks, lk, rfl, _⟩ := h
    rfl
  obtain ⟨kl, lt, st, ks, lk, rfl, G, q⟩ := h
  obtain ⟨kx, L, A⟩ := G.kx
  have lx := A.length
  refine ⟨_, (@pss_one _ _ _ (@ps_ret _ _ _ _ (@pe_comp _ _ _ _ _ _ _ _ _ _ _ _ _ _ _ rfl (CompOk.make (N' := ["stuff", "look", "place", "kind"]) (ix := [2, 1]) (nl := 2) (by rfl) (fm1 rfl (fm1 rfl fm0)) (by rfl) (by decide +kernel) rfl (by decide +kernel) rfl (And.intro ⟨rfl, .inl rfl, .inl rfl⟩ (And.intro ⟨rfl, .inl rfl, .inl rfl⟩ True.intro))) (@pi_or _ _ _ _ _ (@pi_enumL _ _ _ _ _ _ _ _ g_made_places_enumerate M.m_enumerate (@pa_cons _ _ _ _ _ (@pe_var _ 0 _ _ rfl v_made_places_0 dn_kinds dc_kinds) (@pa_nil _) (star1 rfl)) (by rfl)) (@pi_enumT _ _ _ _ _ _ _ _ g_made_places_enumerate M.m_enumerate (@pa_cons _ _ _ _ _ (@pe_var _ 0 _ _ rfl v_made_places_0 dn_kinds dc_kinds) (@pa_nil _) (star1 rfl)) (by rfl))) (fun _ _ _ _ _ => (@pg_tupK _ K _ _ 2 _ _ rfl rfl (@pgs_cons _ _ _ _ _ (@pg_name _ _ 2 _ (show List.Nodup (["stuff", "look", "place", "kind"] : List Str) from by decide) rfl (Or.inl rfl) (by first | exact .inl rfl | exact .inr rfl | assumption)) (@pgs_cons _ _ _ _ _ (@pg_name _ _ 3 _ (show List.Nodup (["stuff", "look", "place", "kind"] : List Str) from by decide) rfl (Or.inl rfl) (by first | exact .inl rfl | exact .inr rfl | assumption)) (@pgs_nil _) (by rfl)) (by rfl)) (by rfl) (by rfl))) (fun _ _ _ _ _ => (@pif_one _ _ _ (@PW.pt _ _ _ (@pw_and _ _ _ _ _ _ _ (@pt_cmpR _ _ _ _ _ _ _ _ (@op_ne _) (@pe_ix _ _ _ _ _ _ _ (ix_tupK (K := K) rfl) (@pv _ 1 _ _ (by rfl) (by first | exact Or.inl rfl | exact Or.inr (Or.inl rfl) | exact Or.inr (Or.inr rfl)) (by decide) (by decide)) (@pv _ 2 _ _ (by rfl) (by first | exact Or.inl rfl | exact Or.inr (Or.inl rfl) | exact Or.inr (Or.inr rfl)) (by decide) (by decide)) (fun _ _ => rfl)) (@pe_int _ _ _ _) (nomark _)) (@pw_and1 _ _ _ _ (@pt_cmpR _ _ _ _ _ _ _ _ (@op_eq _) (@pe_ix _ _ _ _ _ _ _ (ix_tupK (K := K) rfl) (@pv _ 3 _ _ (by rfl) (by first | exact Or.inl rfl | exact Or.inr (Or.inl rfl) | exact Or.inr (Or.inr rfl)) (by decide) (by decide)) (@pe_int _ _ _ _) (fun _ _ => rfl)) (@pv _ 0 _ _ (by rfl) (by first | exact Or.inl rfl | exact Or.inr (Or.inl rfl) | exact Or.inr (Or.inr rfl)) (by decide) (by decide)) (nomark _))))))) (fun _ _ _ _ _ => (@pv _ 2 _ _ (by rfl) (by first | exact Or.inl rfl | exact Or.inr (Or.inl rfl) | exact Or.inr (Or.inr rfl)) (by decide) (by decide))) (by intro _; rfl)))), ?_⟩
  simp only [iEnumL, iEnumT, iOr, tComp_eq, tComp1, slots, Option.getD_some, Option.getD_none, gName, tOp, tC, tVar, tCons, tNil, tRet, tTest, tAnd, gTup, gCons, gNil, rEq, rNe, rIxT, Kd_non, Kd_bl, Kd_int, Kd_str, sc_non_non, sc_non_int, sc_int_non, sc_non_bl, sc_bl_non, sc_non_str, sc_str_non, sc_int_int, sc_bl_bl, sc_str_str, sc_int_str, sc_str_int, sc_bl_str, sc_str_bl, decide_true, decide_false, L2.start, cxK, Int.reduceToNat, List.map_cons, List.map_nil, List.length_cons, List.length_nil, Nat.reduceAdd, Nat.reduceSub, Nat.zero_add, List.replicate_succ, List.replicate_zero, List.cons_append, List.nil_append, List.append_nil, List.getElem?_cons_zero, List.getElem?_cons_succ, List.set_cons_zero, List.set_cons_succ, Option.some.injEq, V.int.injEq, V.bl.injEq, V.ref.injEq, V.str.injEq, V.ty.injEq, List.cons.injEq, exists_eq_left', exists_eq_left, exists_eq_right, exists_and_left, exists_and_right, and_true, true_and, and_assoc, exists_const, decide_eq_true_eq, Bool.not_eq_true', Bool.not_true, Bool.not_false, Bool.not_not, decide_eq_false_iff_not, ite_not, Bool.false_eq_true, if_true, if_false, reduceCtorEq, and_false, false_and, exists_false, or_false, false_or, ↓reduceIte, eq_self, reduceIte]
  obtain ⟨Pc, hC⟩ : ∃ Pc : Addr → Nat → St → Hp → Prop, Pc = fun D i τ H' => ∃ y z xs, H' D = some (.lst xs) ∧ xs.length ≤ i ∧ xs.isEmpty = !(anyTo ks lk (pMade lk st) i) ∧ Same H H' ∧ τ = [some (.str (txt st)), some (.ref lt), y, z] := ⟨_, rfl⟩
  refine compS_enumQ kx (.inl L) _ Pc ?_ (fun D i τ H' hD h => by rw [hC] at h; obtain ⟨y, z, xs, _, _, _, e, _⟩ := h; exact e) ?_ ?_
  · intro D hD
    rw [hC]
    exact ⟨_, _, _, upd_same, Nat.le_refl _, rfl, same_new hD _, rfl⟩
  · intro D i x T τ H' R' hD hx h hT next
    rw [hC] at h
    obtain ⟨y, z, xs, d1, d3, d4, d2, rfl⟩ := h
    obtain ⟨p, k, rfl, hk, hp⟩ := A.at hx
    obtain ⟨x, e1, e2, m, nn⟩ := G.at hk
    have li := (List.getElem?_eq_some_iff.mp hk).1
    have l4 := G.le
    obtain ⟨H2, g2, S2, T2⟩ := fresh_tup (K := K) hT [.int i, .ref p]
    rw [← g2]
    clear g2
    replace d1 := S2 _ _ d1
    replace d2 := d2.trans S2
    simp only [iEnumL, iEnumT, iOr, tComp_eq, tComp1, slots, Option.getD_some, Option.getD_none, gName, tOp, tC, tVar, tCons, tNil, tRet, tTest, tAnd, gTup, gCons, gNil, rEq, rNe, rIxT, Kd_non, Kd_bl, Kd_int, Kd_str, sc_non_non, sc_non_int, sc_int_non, sc_non_bl, sc_bl_non, sc_non_str, sc_str_non, sc_int_int, sc_bl_bl, sc_str_str, sc_int_str, sc_str_int, sc_bl_str, sc_str_bl, decide_true, decide_false, L2.start, cxK, Int.reduceToNat, List.map_cons, List.map_nil, List.length_cons, List.length_nil, Nat.reduceAdd, Nat.reduceSub, Nat.zero_add, List.replicate_succ, List.replicate_zero, List.cons_append, List.nil_append, List.append_nil, List.getElem?_cons_zero, List.getElem?_cons_succ, List.set_cons_zero, List.set_cons_succ, Option.some.injEq, V.int.injEq, V.bl.injEq, V.ref.injEq, V.str.injEq, V.ty.injEq, List.cons.injEq, exists_eq_left', exists_eq_left, exists_eq_right, exists_and_left, exists_and_right, and_true, true_and, and_assoc, exists_const, decide_eq_true_eq, Bool.not_eq_true', Bool.not_true, Bool.not_false, Bool.not_not, decide_eq_false_iff_not, ite_not, Bool.false_eq_true, if_true, if_false, reduceCtorEq, and_false, false_and, exists_false, or_false, false_or, ↓reduceIte, eq_self, reduceIte]
    refine ⟨_, T2, rfl, ?_⟩
    simp only [iEnumL, iEnumT, iOr, tComp_eq, tComp1, slots, Option.getD_some, Option.getD_none, gName, tOp, tC, tVar, tCons, tNil, tRet, tTest, tAnd, gTup, gCons, gNil, rEq, rNe, rIxT, Kd_non, Kd_bl, Kd_int, Kd_str, sc_non_non, sc_non_int, sc_int_non, sc_non_bl, sc_bl_non, sc_non_str, sc_str_non, sc_int_int, sc_bl_bl, sc_str_str, sc_int_str, sc_str_int, sc_bl_str, sc_str_bl, decide_true, decide_false, L2.start, cxK, Int.reduceToNat, List.map_cons, List.map_nil, List.length_cons, List.length_nil, Nat.reduceAdd, Nat.reduceSub, Nat.zero_add, List.replicate_succ, List.replicate_zero, List.cons_append, List.nil_append, List.append_nil, List.getElem?_cons_zero, List.getElem?_cons_succ, List.set_cons_zero, List.set_cons_succ, Option.some.injEq, V.int.injEq, V.bl.injEq, V.ref.injEq, V.str.injEq, V.ty.injEq, List.cons.injEq, exists_eq_left', exists_eq_left, exists_eq_right, exists_and_left, exists_and_right, and_true, true_and, and_assoc, exists_const, decide_eq_true_eq, Bool.not_eq_true', Bool.not_true, Bool.not_false, Bool.not_not, decide_eq_false_iff_not, ite_not, Bool.false_eq_true, if_true, if_false, reduceCtorEq, and_false, false_and, exists_false, or_false, false_or, ↓reduceIte, eq_self, reduceIte]
    refine ⟨_, Same.tup d2 G.look, _, e2, rfl, ?_⟩
    have stp := anyTo_succ (p := pMade lk st) hk e1
    have nx : ∀ (xs' : List V) (H3 : Hp), H3 D = some (.lst xs') → xs'.length ≤ i + 1 → xs'.isEmpty = !(anyTo ks lk (pMade lk st) (i + 1)) → Same H H3 → R' [some (.str (txt st)), some (.ref lt), some (.int i), some (.ref p)] H3 := fun xs' H3 a1 a2 a3 a4 => next _ _ (by rw [hC]; exact ⟨_, _, _, a1, a2, a3, a4, rfl⟩)
    by_cases hz : x = 0
    · rw [if_pos (by rw [hz])]
      exact nx _ _ d1 (by omega) (by rw [stp, d4]; simp [pMade, hz]) d2
    · rw [if_neg (fun e => hz (by injection e))]
      refine ⟨_, Same.tup d2 hp, _, rfl, rfl, ?_⟩
      by_cases hs : k.1 = st
      · rw [if_pos (txtV.mpr hs)]
        refine ⟨_, d1, Nat.lt_of_le_of_lt d3 (Nat.lt_of_lt_of_le (m := 64) (by omega) (by decide)), nx _ _ upd_same (by rw [List.length_append]; simp; omega) (by rw [stp]; simp [pMade, hz, hs]) (same_upd d2 hD _)⟩
      · rw [if_neg fun e => hs (txtV.mp e)]
        exact nx _ _ d1 (by omega) (by rw [stp, d4]; simp [pMade, hs]) d2
  · intro D τ H' hD h
    rw [hC] at h
    obtain ⟨y, z, xs, d1, d3, d4, d2, rfl⟩ := h
    have l4 := G.le
    rw [lx] at d3 d4
    rw [anyTo_end G.len] at d4
    exact q _ _ _ d2 d1 (by omega) d4
theorem ok_used_places (F : Fun K "used_places" "used_places" s_used_places f fd) (M : Mg mg) : FnOk P w K mg base CX0 1 f fd ["kinds", "look", "use"] (spPlaces K pUsed) := by
  refine F.ok sc_used_places (fun vs H Q E h => ?_) (fun cdv A outer s H vs Q E hr h => ?_)
  · obtain ⟨kl, lt, s, ks, lk, rfl, _⟩ := h
    rfl
  obtain ⟨kl, lt, st, ks, lk, rfl, G, q⟩ := h
  obtain ⟨kx, L, A⟩ := G.kx
  have lx := A.length
  refine ⟨_, (@pss_one _ _ _ (@ps_ret _ _ _ _ (@pe_comp _ _ _ _ _ _ _ _ _ _ _ _ _ _ _ rfl (CompOk.make (N' := ["use", "look", "place", "kind"]) (ix := [2, 1]) (nl := 2) (by rfl) (fm1 rfl (fm1 rfl fm0)) (by rfl) (by decide +kernel) rfl (by decide +kernel) rfl (And.intro ⟨rfl, .inl rfl, .inl rfl⟩ (And.intro ⟨rfl, .inl rfl, .inl rfl⟩ True.intro))) (@pi_or _ _ _ _ _ (@pi_enumL _ _ _ _ _ _ _ _ g_used_places_enumerate M.m_enumerate (@pa_cons _ _ _ _ _ (@pe_var _ 0 _ _ rfl v_used_places_0 dn_kinds dc_kinds) (@pa_nil _) (star1 rfl)) (by rfl)) (@pi_enumT _ _ _ _ _ _ _ _ g_used_places_enumerate M.m_enumerate (@pa_cons _ _ _ _ _ (@pe_var _ 0 _ _ rfl v_used_places_0 dn_kinds dc_kinds) (@pa_nil _) (star1 rfl)) (by rfl))) (fun _ _ _ _ _ => (@pg_tupK _ K _ _ 2 _ _ rfl rfl (@pgs_cons _ _ _ _ _ (@pg_name _ _ 2 _ (show List.Nodup (["use", "look", "place", "kind"] : List Str) from by decide) rfl (Or.inl rfl) (by first | exact .inl rfl | exact .inr rfl | assumption)) (@pgs_cons _ _ _ _ _ (@pg_name _ _ 3 _ (show List.Nodup (["use", "look", "place", "kind"] : List Str) from by decide) rfl (Or.inl rfl) (by first | exact .inl rfl | exact .inr rfl | assumption)) (@pgs_nil _) (by rfl)) (by rfl)) (by rfl) (by rfl))) (fun _ _ _ _ _ => (@pif_one _ _ _ (@PW.pt _ _ _ (@pw_and _ _ _ _ _ _ _ (@pt_cmpR _ _ _ _ _ _ _ _ (@op_ne _) (@pe_ix _ _ _ _ _ _ _ (ix_tupK (K := K) rfl) (@pv _ 1 _ _ (by rfl) (by first | exact Or.inl rfl | exact Or.inr (Or.inl rfl) | exact Or.inr (Or.inr rfl)) (by decide) (by decide)) (@pv _ 2 _ _ (by rfl) (by first | exact Or.inl rfl | exact Or.inr (Or.inl rfl) | exact Or.inr (Or.inr rfl)) (by decide) (by decide)) (fun _ _ => rfl)) (@pe_int _ _ _ _) (nomark _)) (@pw_and1 _ _ _ _ (@pt_cmpR _ _ _ _ _ _ _ _ (@op_eq _) (@pe_ix _ _ _ _ _ _ _ (ix_tupK (K := K) rfl) (@pv _ 3 _ _ (by rfl) (by first | exact Or.inl rfl | exact Or.inr (Or.inl rfl) | exact Or.inr (Or.inr rfl)) (by decide) (by decide)) (@pe_int _ _ _ _) (fun _ _ => rfl)) (@pv _ 0 _ _ (by rfl) (by first | exact Or.inl rfl | exact Or.inr (Or.inl rfl) | exact Or.inr (Or.inr rfl)) (by decide) (by decide)) (nomark _))))))) (fun _ _ _ _ _ => (@pv _ 2 _ _ (by rfl) (by first | exact Or.inl rfl | exact Or.inr (Or.inl rfl) | exact Or.inr (Or.inr rfl)) (by decide) (by decide))) (by intro _; rfl)))), ?_⟩
  simp only [iEnumL, iEnumT, iOr, tComp_eq, tComp1, slots, Option.getD_some, Option.getD_none, gName, tOp, tC, tVar, tCons, tNil, tRet, tTest, tAnd, gTup, gCons, gNil, rEq, rNe, rIxT, Kd_non, Kd_bl, Kd_int, Kd_str, sc_non_non, sc_non_int, sc_int_non, sc_non_bl, sc_bl_non, sc_non_str, sc_str_non, sc_int_int, sc_bl_bl, sc_str_str, sc_int_str, sc_str_int, sc_bl_str, sc_str_bl, decide_true, decide_false, L2.start, cxK, Int.reduceToNat, List.map_cons, List.map_nil, List.length_cons, List.length_nil, Nat.reduceAdd, Nat.reduceSub, Nat.zero_add, List.replicate_succ, List.replicate_zero, List.cons_append, List.nil_append, List.append_nil, List.getElem?_cons_zero, List.getElem?_cons_succ, List.set_cons_zero, List.set_cons_succ, Option.some.injEq, V.int.injEq, V.bl.injEq, V.ref.injEq, V.str.injEq, V.ty.injEq, List.cons.injEq, exists_eq_left', exists_eq_left, exists_eq_right, exists_and_left, exists_and_right, and_true, true_and, and_assoc, exists_const, decide_eq_true_eq, Bool.not_eq_true', Bool.not_true, Bool.not_false, Bool.not_not, decide_eq_false_iff_not, ite_not, Bool.false_eq_true, if_true, if_false, reduceCtorEq, and_false, false_and, exists_false, or_false, false_or, ↓reduceIte, eq_self, reduceIte]
  obtain ⟨Pc, hC⟩ : ∃ Pc : Addr → Nat → St → Hp → Prop, Pc = fun D i τ H' => ∃ y z xs, H' D = some (.lst xs) ∧ xs.length ≤ i ∧ xs.isEmpty = !(anyTo ks lk (pUsed lk st) i) ∧ Same H H' ∧ τ = [some (.str (txt st)), some (.ref lt), y, z] := ⟨_, rfl⟩
  refine compS_enumQ kx (.inl L) _ Pc ?_ (fun D i τ H' hD h => by rw [hC] at h; obtain ⟨y, z, xs, _, _, _, e, _⟩ := h; exact e) ?_ ?_
  · intro D hD
    rw [hC]
    exact ⟨_, _, _, upd_same, Nat.le_refl _, rfl, same_new hD _, rfl⟩
  · intro D i x T τ H' R' hD hx h hT next
    rw [hC] at h
    obtain ⟨y, z, xs, d1, d3, d4, d2, rfl⟩ := h
    obtain ⟨p, k, rfl, hk, hp⟩ := A.at hx
    obtain ⟨x, e1, e2, m, nn⟩ := G.at hk
    have li := (List.getElem?_eq_some_iff.mp hk).1
    have l4 := G.le
    obtain ⟨H2, g2, S2, T2⟩ := fresh_tup (K := K) hT [.int i, .ref p]
    rw [← g2]
    clear g2
    replace d1 := S2 _ _ d1
    replace d2 := d2.trans S2
    simp only [iEnumL, iEnumT, iOr, tComp_eq, tComp1, slots, Option.getD_some, Option.getD_none, gName, tOp, tC, tVar, tCons, tNil, tRet, tTest, tAnd, gTup, gCons, gNil, rEq, rNe, rIxT, Kd_non, Kd_bl, Kd_int, Kd_str, sc_non_non, sc_non_int, sc_int_non, sc_non_bl, sc_bl_non, sc_non_str, sc_str_non, sc_int_int, sc_bl_bl, sc_str_str, sc_int_str, sc_str_int, sc_bl_str, sc_str_bl, decide_true, decide_false, L2.start, cxK, Int.reduceToNat, List.map_cons, List.map_nil, List.length_cons, List.length_nil, Nat.reduceAdd, Nat.reduceSub, Nat.zero_add, List.replicate_succ, List.replicate_zero, List.cons_append, List.nil_append, List.append_nil, List.getElem?_cons_zero, List.getElem?_cons_succ, List.set_cons_zero, List.set_cons_succ, Option.some.injEq, V.int.injEq, V.bl.injEq, V.ref.injEq, V.str.injEq, V.ty.injEq, List.cons.injEq, exists_eq_left', exists_eq_left, exists_eq_right, exists_and_left, exists_and_right, and_true, true_and, and_assoc, exists_const, decide_eq_true_eq, Bool.not_eq_true', Bool.not_true, Bool.not_false, Bool.not_not, decide_eq_false_iff_not, ite_not, Bool.false_eq_true, if_true, if_false, reduceCtorEq, and_false, false_and, exists_false, or_false, false_or, ↓reduceIte, eq_self, reduceIte]
    refine ⟨_, T2, rfl, ?_⟩
    simp only [iEnumL, iEnumT, iOr, tComp_eq, tComp1, slots, Option.getD_some, Option.getD_none, gName, tOp, tC, tVar, tCons, tNil, tRet, tTest, tAnd, gTup, gCons, gNil, rEq, rNe, rIxT, Kd_non, Kd_bl, Kd_int, Kd_str, sc_non_non, sc_non_int, sc_int_non, sc_non_bl, sc_bl_non, sc_non_str, sc_str_non, sc_int_int, sc_bl_bl, sc_str_str, sc_int_str, sc_str_int, sc_bl_str, sc_str_bl, decide_true, decide_false, L2.start, cxK, Int.reduceToNat, List.map_cons, List.map_nil, List.length_cons, List.length_nil, Nat.reduceAdd, Nat.reduceSub, Nat.zero_add, List.replicate_succ, List.replicate_zero, List.cons_append, List.nil_append, List.append_nil, List.getElem?_cons_zero, List.getElem?_cons_succ, List.set_cons_zero, List.set_cons_succ, Option.some.injEq, V.int.injEq, V.bl.injEq, V.ref.injEq, V.str.injEq, V.ty.injEq, List.cons.injEq, exists_eq_left', exists_eq_left, exists_eq_right, exists_and_left, exists_and_right, and_true, true_and, and_assoc, exists_const, decide_eq_true_eq, Bool.not_eq_true', Bool.not_true, Bool.not_false, Bool.not_not, decide_eq_false_iff_not, ite_not, Bool.false_eq_true, if_true, if_false, reduceCtorEq, and_false, false_and, exists_false, or_false, false_or, ↓reduceIte, eq_self, reduceIte]
    refine ⟨_, Same.tup d2 G.look, _, e2, rfl, ?_⟩
    have stp := anyTo_succ (p := pUsed lk st) hk e1
    have nx : ∀ (xs' : List V) (H3 : Hp), H3 D = some (.lst xs') → xs'.length ≤ i + 1 → xs'.isEmpty = !(anyTo ks lk (pUsed lk st) (i + 1)) → Same H H3 → R' [some (.str (txt st)), some (.ref lt), some (.int i), some (.ref p)] H3 := fun xs' H3 a1 a2 a3 a4 => next _ _ (by rw [hC]; exact ⟨_, _, _, a1, a2, a3, a4, rfl⟩)
    by_cases hz : x = 0
    · rw [if_pos (by rw [hz])]
      exact nx _ _ d1 (by omega) (by rw [stp, d4]; simp [pUsed, hz]) d2
    · rw [if_neg (fun e => hz (by injection e))]
      refine ⟨_, Same.tup d2 hp, _, rfl, rfl, ?_⟩
      by_cases hs : k.2 = st
      · rw [if_pos (txtV.mpr hs)]
        refine ⟨_, d1, Nat.lt_of_le_of_lt d3 (Nat.lt_of_lt_of_le (m := 64) (by omega) (by decide)), nx _ _ upd_same (by rw [List.length_append]; simp; omega) (by rw [stp]; simp [pUsed, hz, hs]) (same_upd d2 hD _)⟩
      · rw [if_neg fun e => hs (txtV.mp e)]
        exact nx _ _ d1 (by omega) (by rw [stp, d4]; simp [pUsed, hs]) d2
  · intro D τ H' hD h
    rw [hC] at h
    obtain ⟨y, z, xs, d1, d3, d4, d2, rfl⟩ := h
    have l4 := G.le
    rw [lx] at d3 d4
    rw [anyTo_end G.len] at d4
    exact q _ _ _ d2 d1 (by omega) d4
theorem ok_chief_places (F : Fun K "chief_places" "chief_places" s_chief_places f fd) (M : Mg mg) : FnOk P w K mg base CX0 1 f fd ["kinds", "look", "stuff"] (spPlaces K pChief) := by
  refine F.ok sc_chief_places (fun vs H Q E h => ?_) (fun cdv A outer s H vs Q E hr h => ?_)
  · obtain ⟨kl, lt, s, ks, lk, rfl, _⟩ := h
    rfl
  obtain ⟨kl, lt, st, ks, lk, rfl, G, q⟩ := h
  obtain ⟨kx, L, A⟩ := G.kx
  have lx := A.length
  refine ⟨_, (@pss_cons _ _ _ _ _ (@ps_set _ _ 3 _ _ _ _ sc_chief_places.nd rfl l_chief_places_3 (@pe_callB _ _ _ _ _ _ _ _ _ (call_max1 rfl) g_chief_places_max M.m_max b_max (@pa_cons _ _ _ _ _ (@pe_var _ 1 _ _ rfl v_chief_places_1 dn_look dc_look) (@pa_nil _) (star1 rfl)) nn_max dn_max (star1 rfl) nost0) (swap1 rfl) (.inl rfl)) (@pss_one _ _ _ (@ps_ret _ _ _ _ (@pe_comp _ _ _ _ _ _ _ _ _ _ _ _ _ _ _ rfl (CompOk.make (N' := ["greatest", "stuff", "look", "place", "kind"]) (ix := [3, 2, 1]) (nl := 2) (by rfl) (fm1 rfl (fm1 rfl (fm1 rfl fm0))) (by rfl) (by decide +kernel) rfl (by decide +kernel) rfl (And.intro ⟨rfl, .inl rfl, .inl rfl⟩ (And.intro ⟨rfl, .inl rfl, .inl rfl⟩ (And.intro ⟨rfl, .inl rfl, .inl rfl⟩ True.intro)))) (@pi_or _ _ _ _ _ (@pi_enumL _ _ _ _ _ _ _ _ g_chief_places_enumerate M.m_enumerate (@pa_cons _ _ _ _ _ (@pe_var _ 0 _ _ rfl v_chief_places_0 dn_kinds dc_kinds) (@pa_nil _) (star1 rfl)) (by rfl)) (@pi_enumT _ _ _ _ _ _ _ _ g_chief_places_enumerate M.m_enumerate (@pa_cons _ _ _ _ _ (@pe_var _ 0 _ _ rfl v_chief_places_0 dn_kinds dc_kinds) (@pa_nil _) (star1 rfl)) (by rfl))) (fun _ _ _ _ _ => (@pg_tupK _ K _ _ 2 _ _ rfl rfl (@pgs_cons _ _ _ _ _ (@pg_name _ _ 3 _ (show List.Nodup (["greatest", "stuff", "look", "place", "kind"] : List Str) from by decide) rfl (Or.inl rfl) (by first | exact .inl rfl | exact .inr rfl | assumption)) (@pgs_cons _ _ _ _ _ (@pg_name _ _ 4 _ (show List.Nodup (["greatest", "stuff", "look", "place", "kind"] : List Str) from by decide) rfl (Or.inl rfl) (by first | exact .inl rfl | exact .inr rfl | assumption)) (@pgs_nil _) (by rfl)) (by rfl)) (by rfl) (by rfl))) (fun _ _ _ _ _ => (@pif_one _ _ _ (@PW.pt _ _ _ (@pw_and _ _ _ _ _ _ _ (@pt_cmpR _ _ _ _ _ _ _ _ (@op_eq _) (@pe_ix _ _ _ _ _ _ _ (ix_tupK (K := K) rfl) (@pv _ 2 _ _ (by rfl) (by first | exact Or.inl rfl | exact Or.inr (Or.inl rfl) | exact Or.inr (Or.inr rfl)) (by decide) (by decide)) (@pv _ 3 _ _ (by rfl) (by first | exact Or.inl rfl | exact Or.inr (Or.inl rfl) | exact Or.inr (Or.inr rfl)) (by decide) (by decide)) (fun _ _ => rfl)) (@pv _ 0 _ _ (by rfl) (by first | exact Or.inl rfl | exact Or.inr (Or.inl rfl) | exact Or.inr (Or.inr rfl)) (by decide) (by decide)) (nomark _)) (@pw_and1 _ _ _ _ (@pt_cmpR _ _ _ _ _ _ _ _ (@op_eq _) (@pe_ix _ _ _ _ _ _ _ (ix_tupK (K := K) rfl) (@pv _ 4 _ _ (by rfl) (by first | exact Or.inl rfl | exact Or.inr (Or.inl rfl) | exact Or.inr (Or.inr rfl)) (by decide) (by decide)) (@pe_int _ _ _ _) (fun _ _ => rfl)) (@pv _ 1 _ _ (by rfl) (by first | exact Or.inl rfl | exact Or.inr (Or.inl rfl) | exact Or.inr (Or.inr rfl)) (by decide) (by decide)) (nomark _))))))) (fun _ _ _ _ _ => (@pv _ 3 _ _ (by rfl) (by first | exact Or.inl rfl | exact Or.inr (Or.inl rfl) | exact Or.inr (Or.inr rfl)) (by decide) (by decide))) (by intro _; rfl))))), ?_⟩
  simp only [iEnumL, iEnumT, iOr, tComp_eq, tComp1, slots, Option.getD_some, Option.getD_none, tSeq, tAsg, gName, tOp, tC, tVar, tCB, tCons, tNil, tRet, tTest, tAnd, gTup, gCons, gNil, rEq, rIxT, Kd_non, Kd_bl, Kd_int, Kd_str, sc_non_non, sc_non_int, sc_int_non, sc_non_bl, sc_bl_non, sc_non_str, sc_str_non, sc_int_int, sc_bl_bl, sc_str_str, sc_int_str, sc_str_int, sc_bl_str, sc_str_bl, decide_true, decide_false, L2.start, cxK, Int.reduceToNat, List.map_cons, List.map_nil, List.length_cons, List.length_nil, Nat.reduceAdd, Nat.reduceSub, Nat.zero_add, List.replicate_succ, List.replicate_zero, List.cons_append, List.nil_append, List.append_nil, List.getElem?_cons_zero, List.getElem?_cons_succ, List.set_cons_zero, List.set_cons_succ, Option.some.injEq, V.int.injEq, V.bl.injEq, V.ref.injEq, V.str.injEq, V.ty.injEq, List.cons.injEq, exists_eq_left', exists_eq_left, exists_eq_right, exists_and_left, exists_and_right, and_true, true_and, and_assoc, exists_const, decide_eq_true_eq, Bool.not_eq_true', Bool.not_true, Bool.not_false, Bool.not_not, decide_eq_false_iff_not, ite_not, Bool.false_eq_true, if_true, if_false, reduceCtorEq, and_false, false_and, exists_false, or_false, false_or, ↓reduceIte, eq_self, reduceIte]
  refine ⟨lk, .inr G.look, by rw [G.len]; exact G.pos, fun mx hm htop => ?_⟩
  obtain ⟨Pc, hC⟩ : ∃ Pc : Addr → Nat → St → Hp → Prop, Pc = fun D i τ H' => ∃ y z xs, H' D = some (.lst xs) ∧ xs.length ≤ i ∧ xs.isEmpty = !(anyTo ks lk (pChief lk st) i) ∧ Same H H' ∧ τ = [some (.int mx), some (.str (txt st)), some (.ref lt), y, z] := ⟨_, rfl⟩
  refine compS_enumQ kx (.inl L) _ Pc ?_ (fun D i τ H' hD h => by rw [hC] at h; obtain ⟨y, z, xs, _, _, _, e, _⟩ := h; exact e) ?_ ?_
  · intro D hD
    rw [hC]
    exact ⟨_, _, _, upd_same, Nat.le_refl _, rfl, same_new hD _, rfl⟩
  · intro D i x T τ H' R' hD hx h hT next
    rw [hC] at h
    obtain ⟨y, z, xs, d1, d3, d4, d2, rfl⟩ := h
    obtain ⟨p, k, rfl, hk, hp⟩ := A.at hx
    obtain ⟨x, e1, e2, m, nn⟩ := G.at hk
    have li := (List.getElem?_eq_some_iff.mp hk).1
    have l4 := G.le
    obtain ⟨H2, g2, S2, T2⟩ := fresh_tup (K := K) hT [.int i, .ref p]
    rw [← g2]
    clear g2
    replace d1 := S2 _ _ d1
    replace d2 := d2.trans S2
    simp only [iEnumL, iEnumT, iOr, tComp_eq, tComp1, slots, Option.getD_some, Option.getD_none, tSeq, tAsg, gName, tOp, tC, tVar, tCB, tCons, tNil, tRet, tTest, tAnd, gTup, gCons, gNil, rEq, rIxT, Kd_non, Kd_bl, Kd_int, Kd_str, sc_non_non, sc_non_int, sc_int_non, sc_non_bl, sc_bl_non, sc_non_str, sc_str_non, sc_int_int, sc_bl_bl, sc_str_str, sc_int_str, sc_str_int, sc_bl_str, sc_str_bl, decide_true, decide_false, L2.start, cxK, Int.reduceToNat, List.map_cons, List.map_nil, List.length_cons, List.length_nil, Nat.reduceAdd, Nat.reduceSub, Nat.zero_add, List.replicate_succ, List.replicate_zero, List.cons_append, List.nil_append, List.append_nil, List.getElem?_cons_zero, List.getElem?_cons_succ, List.set_cons_zero, List.set_cons_succ, Option.some.injEq, V.int.injEq, V.bl.injEq, V.ref.injEq, V.str.injEq, V.ty.injEq, List.cons.injEq, exists_eq_left', exists_eq_left, exists_eq_right, exists_and_left, exists_and_right, and_true, true_and, and_assoc, exists_const, decide_eq_true_eq, Bool.not_eq_true', Bool.not_true, Bool.not_false, Bool.not_not, decide_eq_false_iff_not, ite_not, Bool.false_eq_true, if_true, if_false, reduceCtorEq, and_false, false_and, exists_false, or_false, false_or, ↓reduceIte, eq_self, reduceIte]
    refine ⟨_, T2, rfl, ?_⟩
    simp only [iEnumL, iEnumT, iOr, tComp_eq, tComp1, slots, Option.getD_some, Option.getD_none, tSeq, tAsg, gName, tOp, tC, tVar, tCB, tCons, tNil, tRet, tTest, tAnd, gTup, gCons, gNil, rEq, rIxT, Kd_non, Kd_bl, Kd_int, Kd_str, sc_non_non, sc_non_int, sc_int_non, sc_non_bl, sc_bl_non, sc_non_str, sc_str_non, sc_int_int, sc_bl_bl, sc_str_str, sc_int_str, sc_str_int, sc_bl_str, sc_str_bl, decide_true, decide_false, L2.start, cxK, Int.reduceToNat, List.map_cons, List.map_nil, List.length_cons, List.length_nil, Nat.reduceAdd, Nat.reduceSub, Nat.zero_add, List.replicate_succ, List.replicate_zero, List.cons_append, List.nil_append, List.append_nil, List.getElem?_cons_zero, List.getElem?_cons_succ, List.set_cons_zero, List.set_cons_succ, Option.some.injEq, V.int.injEq, V.bl.injEq, V.ref.injEq, V.str.injEq, V.ty.injEq, List.cons.injEq, exists_eq_left', exists_eq_left, exists_eq_right, exists_and_left, exists_and_right, and_true, true_and, and_assoc, exists_const, decide_eq_true_eq, Bool.not_eq_true', Bool.not_true, Bool.not_false, Bool.not_not, decide_eq_false_iff_not, ite_not, Bool.false_eq_true, if_true, if_false, reduceCtorEq, and_false, false_and, exists_false, or_false, false_or, ↓reduceIte, eq_self, reduceIte]
    refine ⟨_, Same.tup d2 G.look, _, e2, rfl, ?_⟩
    have stp := anyTo_succ (p := pChief lk st) hk e1
    have nx : ∀ (xs' : List V) (H3 : Hp), H3 D = some (.lst xs') → xs'.length ≤ i + 1 → xs'.isEmpty = !(anyTo ks lk (pChief lk st) (i + 1)) → Same H H3 → R' [some (.int mx), some (.str (txt st)), some (.ref lt), some (.int i), some (.ref p)] H3 := fun xs' H3 a1 a2 a3 a4 => next _ _ (by rw [hC]; exact ⟨_, _, _, a1, a2, a3, a4, rfl⟩)
    have hz' : x = mx ↔ ∀ y ∈ lk, y ≤ x := ⟨fun e y hy => e ▸ htop y hy, fun h => by
      have a := htop x m
      have b := h mx hm
      omega⟩
    by_cases hz : ¬ ∀ y ∈ lk, y ≤ x
    · rw [if_neg (fun e => hz (hz'.mp (by injection e)))]
      exact nx _ _ d1 (by omega) (by rw [stp, d4]; simp [pChief, hz]) d2
    · rw [if_pos (by rw [hz'.mpr (Decidable.not_not.mp hz)])]
      refine ⟨_, Same.tup d2 hp, _, rfl, rfl, ?_⟩
      by_cases hs : k.1 = st
      · rw [if_pos (txtV.mpr hs)]
        refine ⟨_, d1, Nat.lt_of_le_of_lt d3 (Nat.lt_of_lt_of_le (m := 64) (by omega) (by decide)), nx _ _ upd_same (by rw [List.length_append]; simp; omega) (by rw [stp, show pChief lk st k x = true from by unfold pChief; rw [decide_eq_true (Decidable.not_not.mp hz), decide_eq_true hs]; rfl]; simp) (same_upd d2 hD _)⟩
      · rw [if_neg fun e => hs (txtV.mp e)]
        exact nx _ _ d1 (by omega) (by rw [stp, d4]; simp [pChief, hs]) d2
  · intro D τ H' hD h
    rw [hC] at h
    obtain ⟨y, z, xs, d1, d3, d4, d2, rfl⟩ := h
    have l4 := G.le
    rw [lx] at d3 d4
    rw [anyTo_end G.len] at d4
    exact q _ _ _ d2 d1 (by omega) d4
theorem ok_place_reason (F : Fun K "place_reason" "place_reason" s_place_reason f fd) (M : Mg mg) : FnOk P w K mg base CX0 1 f fd ["places"] (spPlaceR K) := by
  refine F.ok sc_place_reason (fun vs H Q E h => ?_) (fun cdv A outer s H vs Q E hr h => ?_)
  · obtain ⟨l, xs, rfl, _⟩ := h
    rfl
  obtain ⟨l, xs, rfl, hl, q⟩ := h
  refine ⟨_, (@pss_cons _ _ _ _ _ (@ps_if _ _ _ _ _ _ _ _ (@pt_cmpR _ _ _ _ _ _ _ _ (@op_eq _) (@pe_callB _ _ _ _ _ _ _ _ _ call_len_seq g_place_reason_len M.m_len b_len (@pa_cons _ _ _ _ _ (@pe_var _ 0 _ _ rfl v_place_reason_0 dn_places dc_places) (@pa_nil _) (star1 rfl)) nn_len dn_len (star1 rfl) nost0) (@pe_int _ _ _ _) (nomark _)) (@pss_one _ _ _ (@ps_ret _ _ _ _ (@pe_tup _ _ _ _ _ (@pa_cons _ _ _ _ _ (@pe_bl _ _ _ _) (@pa_cons _ _ _ _ _ (@pe_non _ _ _) (@pa_nil _) (star1 rfl)) (star1 rfl))))) (@pss_nil _)) (@pss_one _ _ _ (@ps_ret _ _ _ _ (@pe_tup _ _ _ _ _ (@pa_cons _ _ _ _ _ (@pe_bl _ _ _ _) (@pa_cons _ _ _ _ _ (@pe_ix _ _ _ _ _ _ _ (@ix_list _) (@pe_var _ 0 _ _ rfl v_place_reason_0 dn_places dc_places) (@pe_int _ _ _ _) (fun _ _ => rfl)) (@pa_nil _) (star1 rfl)) (star1 rfl)))))), ?_⟩
  simp only [slots, Option.getD_some, Option.getD_none, tSeq, tOp, tC, tVar, tCB, tCons, tNil, tRet, tIfS, tTest, tTup, tNext, rEq, rIxL, Kd_non, Kd_bl, Kd_int, Kd_str, sc_non_non, sc_non_int, sc_int_non, sc_non_bl, sc_bl_non, sc_non_str, sc_str_non, sc_int_int, sc_bl_bl, sc_str_str, sc_int_str, sc_str_int, sc_bl_str, sc_str_bl, decide_true, decide_false, L2.start, cxK, Int.reduceToNat, List.map_cons, List.map_nil, List.length_cons, List.length_nil, Nat.reduceAdd, Nat.reduceSub, Nat.zero_add, List.replicate_succ, List.replicate_zero, List.cons_append, List.nil_append, List.append_nil, List.getElem?_cons_zero, List.getElem?_cons_succ, List.set_cons_zero, List.set_cons_succ, Option.some.injEq, V.int.injEq, V.bl.injEq, V.ref.injEq, V.str.injEq, V.ty.injEq, List.cons.injEq, exists_eq_left', exists_eq_left, exists_eq_right, exists_and_left, exists_and_right, and_true, true_and, and_assoc, exists_const, decide_eq_true_eq, Bool.not_eq_true', Bool.not_true, Bool.not_false, Bool.not_not, decide_eq_false_iff_not, ite_not, Bool.false_eq_true, if_true, if_false, reduceCtorEq, and_false, false_and, exists_false, or_false, false_or, ↓reduceIte, eq_self, reduceIte]
  refine ⟨xs, .inl (SqL.of hl), ?_⟩
  cases xs with
  | nil =>
    rw [if_pos (show ((([] : List V).length : Nat) : Int) = 0 from rfl)]
    exact ⟨by decide, fun p hp => q _ _ _ (same_new hp _) (SqT.of upd_same)⟩
  | cons x xs =>
    rw [if_neg (by rw [List.length_cons]; omega)]
    exact ⟨_, SqL.of hl, x, (atI_nat (j := 0) rfl : atI (x :: xs) ((0 : Nat) : Int) = some x), by decide, fun p hp => q _ _ _ (same_new hp _) (SqT.of upd_same)⟩
theorem ok_number_in (F : Fun K "number_in" "number_in" s_number_in f fd) (M : Mg mg) : FnOk P w K mg base CX0 1 f fd ["kinds", "look", "kind"] (spNumIn K) := by
  refine F.ok sc_number_in (fun vs H Q E h => ?_) (fun cdv A outer s H vs Q E hr h => ?_)
  · obtain ⟨kl, lt, p, ks, lk, k, rfl, _⟩ := h
    rfl
  obtain ⟨kl, lt, p, ks, lk, k, rfl, G, hp, ok, q⟩ := h
  obtain ⟨kx, L, A⟩ := G.kx
  have lx := A.length
  refine ⟨_, (@pss_cons _ _ _ _ _ (@ps_if _ _ _ _ _ _ _ _ (@pt_cmpR _ _ _ _ _ _ _ _ (op_notInD (hu60 hr)) (@pe_var _ 2 _ _ rfl v_number_in_2 dn_kind dc_kind) (@pe_var _ 0 _ _ rfl v_number_in_0 dn_kinds dc_kinds) (by with_unfolding_all rfl)) (@pss_one _ _ _ (@ps_ret _ _ _ _ (@pe_int _ _ _ _))) (@pss_nil _)) (@pss_one _ _ _ (@ps_ret _ _ _ _ (@pe_ix _ _ _ _ _ _ _ (@ix_tup _) (@pe_var _ 1 _ _ rfl v_number_in_1 dn_look dc_look) (@pe_bm _ _ _ _ _ _ _ _ _ _ _ _ PySem.F.plainAttrs_list PySem.F.slot_list_index PySem.F.type_list_index (mt_indexD (K := K) rfl (hu60 hr)) (@pe_var _ 0 _ _ rfl v_number_in_0 dn_kinds dc_kinds) (@pa_cons _ _ _ _ _ (@pe_var _ 2 _ _ rfl v_number_in_2 dn_kind dc_kind) (@pa_nil _) (star1 rfl)) (by rfl) (by rfl) (by rfl) (by rfl) (by rfl)) (fun _ _ => rfl))))), ?_⟩
  simp only [slots, Option.getD_some, Option.getD_none, tSeq, tOp, tC, tVar, tCons, tNil, tRet, tIfS, tTest, tNext, tBM, rIxT, Kd_non, Kd_bl, Kd_int, Kd_str, decide_true, decide_false, L2.start, cxK, Int.reduceToNat, List.map_cons, List.map_nil, List.length_cons, List.length_nil, Nat.reduceAdd, Nat.reduceSub, Nat.zero_add, List.replicate_succ, List.replicate_zero, List.cons_append, List.nil_append, List.append_nil, List.getElem?_cons_zero, List.getElem?_cons_succ, List.set_cons_zero, List.set_cons_succ, Option.some.injEq, V.int.injEq, V.bl.injEq, V.ref.injEq, V.str.injEq, V.ty.injEq, List.cons.injEq, exists_eq_left', exists_eq_left, exists_eq_right, exists_and_left, exists_and_right, and_true, true_and, and_assoc, exists_const, decide_eq_true_eq, Bool.not_eq_true', Bool.not_true, Bool.not_false, Bool.not_not, decide_eq_false_iff_not, ite_not, Bool.false_eq_true, if_true, if_false, reduceCtorEq, and_false, false_and, exists_false, or_false, false_or, ↓reduceIte, eq_self, reduceIte]
  refine rInD_kind hp ok L A G.ok ⟨_, rfl, ?_⟩
  by_cases hk : k ∈ ks
  · rw [if_neg (by simp [hk])]
    refine ⟨.inl ⟨rfl, _, L⟩, ?_⟩
    obtain ⟨j, hj, hno⟩ := first_at hk
    have lj := (List.getElem?_eq_some_iff.mp hj).1
    have l4 := G.le
    obtain ⟨x, e1, e2, _, _⟩ := G.at hj
    obtain ⟨f1, f2⟩ := flat_kinds G.ok
    refine ⟨kl, .ref p, kD k, ks.map kD, j, rfl, rfl, by omega, rep_kind hp, .lst L A.rep, flat_kind ok, ⟨f1, ?_⟩, ⟨kD k, by rw [List.getElem?_map, hj]; rfl, by rw [eqv_kind]; exact decide_eq_true rfl⟩, fun m z hm hz => ?_, ?_⟩
    · show PyData.depthAll (ks.map kD) + 1 ≤ 40
      omega
    · rw [List.getElem?_map] at hz
      obtain ⟨z', ez, rfl⟩ := Option.map_eq_some_iff.mp hz
      rw [eqv_kind]
      exact decide_eq_false (hno m z' hm ez)
    · refine ⟨_, _, rfl, G.look, _, e2, ?_⟩
      rw [← numIn_at hj hno e1]
      exact q _ (Same.refl _)
  · rw [if_pos (by simp [hk])]
    rw [← numIn_not (lk := lk) hk]
    exact q _ (Same.refl _)
theorem ok_is_over (F : Fun K "is_over" "is_over" s_is_over f fd) (M : Mg mg) (C_number_in : Cal P w K mg base CX0 "number_in" 1 ["kinds", "look", "kind"] (spNumIn K)) : FnOk P w K mg base CX0 2 f fd ["kinds", "look", "one", "other"] (spOver K) := by
  refine F.ok sc_is_over (fun vs H Q E h => ?_) (fun cdv A outer s H vs Q E hr h => ?_)
  · obtain ⟨kl, lt, p1, p2, ks, lk, k1, k2, rfl, _⟩ := h
    rfl
  obtain ⟨kl, lt, p1, p2, ks, lk, k1, k2, rfl, G, h1, o1, h2, o2, q⟩ := h
  refine ⟨_, (@pss_one _ _ _ (@ps_ret _ _ _ _ (@pe_cmpR _ _ _ _ _ _ _ _ (@op_gt _) (@pe_callC _ _ _ _ _ _ _ _ _ _ _ C_number_in hr g_is_over_number_in (@pa_cons _ _ _ _ _ (@pe_var _ 0 _ _ rfl v_is_over_0 dn_kinds dc_kinds) (@pa_cons _ _ _ _ _ (@pe_var _ 1 _ _ rfl v_is_over_1 dn_look dc_look) (@pa_cons _ _ _ _ _ (@pe_var _ 2 _ _ rfl v_is_over_2 dn_one dc_one) (@pa_nil _) (star1 rfl)) (star1 rfl)) (star1 rfl)) (by decide) dn_number_in (star1 rfl) (nost1 rfl (nost1 rfl nost0))) (@pe_callC _ _ _ _ _ _ _ _ _ _ _ C_number_in hr g_is_over_number_in (@pa_cons _ _ _ _ _ (@pe_var _ 0 _ _ rfl v_is_over_0 dn_kinds dc_kinds) (@pa_cons _ _ _ _ _ (@pe_var _ 1 _ _ rfl v_is_over_1 dn_look dc_look) (@pa_cons _ _ _ _ _ (@pe_var _ 3 _ _ rfl v_is_over_3 dn_other dc_other) (@pa_nil _) (star1 rfl)) (star1 rfl)) (star1 rfl)) (by decide) dn_number_in (star1 rfl) (nost1 rfl (nost1 rfl nost0))) (nomark _)))), ?_⟩
  simp only [slots, Option.getD_some, Option.getD_none, tOp, tVar, tCons, tNil, tCall, rI0, tRet, Kd_non, Kd_bl, Kd_int, Kd_str, decide_true, decide_false, L2.start, cxK, Int.reduceToNat, List.map_cons, List.map_nil, List.length_cons, List.length_nil, Nat.reduceAdd, Nat.reduceSub, Nat.zero_add, List.replicate_succ, List.replicate_zero, List.cons_append, List.nil_append, List.append_nil, List.getElem?_cons_zero, List.getElem?_cons_succ, List.set_cons_zero, List.set_cons_succ, Option.some.injEq, V.int.injEq, V.bl.injEq, V.ref.injEq, V.str.injEq, V.ty.injEq, List.cons.injEq, exists_eq_left', exists_eq_left, exists_eq_right, exists_and_left, exists_and_right, and_true, true_and, and_assoc, exists_const, decide_eq_true_eq, Bool.not_eq_true', Bool.not_true, Bool.not_false, Bool.not_not, decide_eq_false_iff_not, ite_not, Bool.false_eq_true, if_true, if_false, reduceCtorEq, and_false, false_and, exists_false, or_false, false_or, ↓reduceIte, eq_self, reduceIte]
  refine ⟨_, _, _, ks, lk, k1, rfl, G, h1, o1, fun H1 S1 => ?_⟩
  simp only [slots, Option.getD_some, Option.getD_none, tOp, tVar, tCons, tNil, tCall, rI0, tRet, Kd_non, Kd_bl, Kd_int, Kd_str, decide_true, decide_false, L2.start, cxK, Int.reduceToNat, List.map_cons, List.map_nil, List.length_cons, List.length_nil, Nat.reduceAdd, Nat.reduceSub, Nat.zero_add, List.replicate_succ, List.replicate_zero, List.cons_append, List.nil_append, List.append_nil, List.getElem?_cons_zero, List.getElem?_cons_succ, List.set_cons_zero, List.set_cons_succ, Option.some.injEq, V.int.injEq, V.bl.injEq, V.ref.injEq, V.str.injEq, V.ty.injEq, List.cons.injEq, exists_eq_left', exists_eq_left, exists_eq_right, exists_and_left, exists_and_right, and_true, true_and, and_assoc, exists_const, decide_eq_true_eq, Bool.not_eq_true', Bool.not_true, Bool.not_false, Bool.not_not, decide_eq_false_iff_not, ite_not, Bool.false_eq_true, if_true, if_false, reduceCtorEq, and_false, false_and, exists_false, or_false, false_or, ↓reduceIte, eq_self, reduceIte]
  refine ⟨_, _, _, ks, lk, k2, rfl, G.same S1, Same.tup S1 h2, o2, fun H2 S2 => ?_⟩
  simp only [slots, Option.getD_some, Option.getD_none, tOp, tVar, tCons, tNil, tCall, rI0, tRet, Kd_non, Kd_bl, Kd_int, Kd_str, decide_true, decide_false, L2.start, cxK, Int.reduceToNat, List.map_cons, List.map_nil, List.length_cons, List.length_nil, Nat.reduceAdd, Nat.reduceSub, Nat.zero_add, List.replicate_succ, List.replicate_zero, List.cons_append, List.nil_append, List.append_nil, List.getElem?_cons_zero, List.getElem?_cons_succ, List.set_cons_zero, List.set_cons_succ, Option.some.injEq, V.int.injEq, V.bl.injEq, V.ref.injEq, V.str.injEq, V.ty.injEq, List.cons.injEq, exists_eq_left', exists_eq_left, exists_eq_right, exists_and_left, exists_and_right, and_true, true_and, and_assoc, exists_const, decide_eq_true_eq, Bool.not_eq_true', Bool.not_true, Bool.not_false, Bool.not_not, decide_eq_false_iff_not, ite_not, Bool.false_eq_true, if_true, if_false, reduceCtorEq, and_false, false_and, exists_false, or_false, false_or, ↓reduceIte, eq_self, reduceIte]
  exact q _ (S1.trans S2)
end

theorem at0 {v : V} {xs : List V} : atI (v :: xs) 0 = some v := (atI_nat (j := 0) rfl : atI (v :: xs) ((0 : Nat) : Int) = some v)
def ntKd : Nt → Nat
  | .any => 0
  | .made _ => 1
  | .used _ => 2
  | .chief _ => 3
  | .over _ _ => 4
  | .both _ _ => 5
  | .either _ _ => 6
  | .but _ _ => 7
def ncCls (cs : NC) : Nat → Addr
  | 0 => cs.any
  | 1 => cs.made
  | 2 => cs.used
  | 3 => cs.chief
  | 4 => cs.over
  | 5 => cs.both
  | 6 => cs.either
  | _ => cs.but
def claimsB (ks : List Kd2) (lk : List Int) : Nt → Bool
  | .any => true
  | .made s => anyAt ks lk (pMade lk s)
  | .used s => anyAt ks lk (pUsed lk s)
  | .chief s => anyAt ks lk (pChief lk s)
  | .over a b => decide (numIn ks lk a > numIn ks lk b)
  | .both x y => claimsB ks lk x && claimsB ks lk y
  | .either x y => claimsB ks lk x || claimsB ks lk y
  | .but x y => claimsB ks lk x && !claimsB ks lk y
def spReasonN (K : PySem.W.Frag) (cs : NC) (d j : Nat) : Sp := fun vs H Q _ => ∃ (a kl lt : Addr) (n : Nt) (ks : List Kd2) (lk : List Int), vs = [.ref a, .ref kl, .ref lt] ∧ ntKd n = j ∧ ObjN K cs H a n ∧ n.ok ∧ n.dp ≤ d ∧ Ground K H kl lt ks lk ∧ ∀ p ys H', Same H H' → SqT K H' p (.bl (claimsB ks lk n) :: ys) → Q (.ref p) H'
def DReasonN (K : PySem.W.Frag) (cs : NC) (d : Nat) (C : Addr) (sp : Sp) : Prop := ∃ j, j < 8 ∧ C = ncCls cs j ∧ sp = spReasonN K cs d j
theorem reason_byN {K : PySem.W.Frag} {cs : NC} {H : Hp} {a kl lt : Addr} {n : Nt} {ks : List Kd2} {lk : List Int} {d : Nat} {Q : VK} (O : ObjN K cs H a n) (ok : n.ok) (dp : n.dp ≤ d) (G : Ground K H kl lt ks lk) (q : ∀ p ys H', Same H H' → SqT K H' p (.bl (claimsB ks lk n) :: ys) → Q (.ref p) H') : ∃ C dx fs, H a = some (.ins C dx fs) ∧ fs.lookup ("reason" : Str) = none ∧ ∃ sp, DReasonN K cs d C sp ∧ sp [.ref a, .ref kl, .ref lt] H Q E0 := by
  have fin : spReasonN K cs d (ntKd n) [.ref a, .ref kl, .ref lt] H Q E0 := ⟨a, kl, lt, n, ks, lk, rfl, rfl, O, ok, dp, G, q⟩
  cases n with
  | any => obtain ⟨dx, h⟩ := O; exact ⟨_, _, _, h, rfl, _, ⟨0, by decide, rfl, rfl⟩, fin⟩
  | made s => obtain ⟨dx, h⟩ := O; exact ⟨_, _, _, h, rfl, _, ⟨1, by decide, rfl, rfl⟩, fin⟩
  | used s => obtain ⟨dx, h⟩ := O; exact ⟨_, _, _, h, rfl, _, ⟨2, by decide, rfl, rfl⟩, fin⟩
  | chief s => obtain ⟨dx, h⟩ := O; exact ⟨_, _, _, h, rfl, _, ⟨3, by decide, rfl, rfl⟩, fin⟩
  | over k1 k2 => obtain ⟨dx, _, _, h, _⟩ := O; exact ⟨_, _, _, h, rfl, _, ⟨4, by decide, rfl, rfl⟩, fin⟩
  | both x y => obtain ⟨dx, _, _, h, _⟩ := O; exact ⟨_, _, _, h, rfl, _, ⟨5, by decide, rfl, rfl⟩, fin⟩
  | either x y => obtain ⟨dx, _, _, h, _⟩ := O; exact ⟨_, _, _, h, rfl, _, ⟨6, by decide, rfl, rfl⟩, fin⟩
  | but x y => obtain ⟨dx, _, _, h, _⟩ := O; exact ⟨_, _, _, h, rfl, _, ⟨7, by decide, rfl, rfl⟩, fin⟩
section
variable {P : Program} {w : World} {K : PySem.W.Frag} {mg : Str → Option Value} {base : Heap} {f : Addr} {fd : FuncData} {cs : NC}
theorem ok_Anything_reason {k d : Nat} (F : Fun K "reason" "Anything.reason" s_Anything_reason f fd) (M : Mg mg) : FnOk P w K mg base CX0 (k + 3) f fd ["self", "kinds", "look"] (spReasonN K cs d 0) := by
  refine F.ok sc_Anything_reason (fun vs H Q E h => ?_) (fun cdv A outer s H vs Q E hr h => ?_)
  · obtain ⟨a, kl, lt, n, ks, lk, rfl, _⟩ := h
    rfl
  obtain ⟨a, kl, lt, n, ks, lk, rfl, hk, O, ok, dp, G, q⟩ := h
  refine ⟨_, (@pss_one _ _ _ (@ps_ret _ _ _ _ (@pe_tup _ _ _ _ _ (@pa_cons _ _ _ _ _ (@pe_bl _ _ _ _) (@pa_cons _ _ _ _ _ (@pe_non _ _ _) (@pa_nil _) (star1 rfl)) (star1 rfl))))), ?_⟩
  simp only [slots, Option.getD_some, Option.getD_none, tC, tCons, tNil, tRet, tTup, Kd_non, Kd_bl, Kd_int, Kd_str, decide_true, decide_false, L2.start, cxK, Int.reduceToNat, List.map_cons, List.map_nil, List.length_cons, List.length_nil, Nat.reduceAdd, Nat.reduceSub, Nat.zero_add, List.replicate_succ, List.replicate_zero, List.cons_append, List.nil_append, List.append_nil, List.getElem?_cons_zero, List.getElem?_cons_succ, List.set_cons_zero, List.set_cons_succ, Option.some.injEq, V.int.injEq, V.bl.injEq, V.ref.injEq, V.str.injEq, V.ty.injEq, List.cons.injEq, exists_eq_left', exists_eq_left, exists_eq_right, exists_and_left, exists_and_right, and_true, true_and, and_assoc, exists_const, decide_eq_true_eq, Bool.not_eq_true', Bool.not_true, Bool.not_false, Bool.not_not, decide_eq_false_iff_not, ite_not, Bool.false_eq_true, if_true, if_false, reduceCtorEq, and_false, false_and, exists_false, or_false, false_or, ↓reduceIte, eq_self, reduceIte]
  cases n with
  | any =>
    exact ⟨by decide, fun p hp => q _ _ _ (same_new hp _) (SqT.of upd_same)⟩
  | made s => exact absurd hk (by show ¬(1 = 0); decide)
  | used s => exact absurd hk (by show ¬(2 = 0); decide)
  | chief s => exact absurd hk (by show ¬(3 = 0); decide)
  | over k1 k2 => exact absurd hk (by show ¬(4 = 0); decide)
  | both x y => exact absurd hk (by show ¬(5 = 0); decide)
  | either x y => exact absurd hk (by show ¬(6 = 0); decide)
  | but x y => exact absurd hk (by show ¬(7 = 0); decide)
theorem ok_Made_reason {k d : Nat} (F : Fun K "reason" "Made.reason" s_Made_reason f fd) (M : Mg mg) (cl : Cls K cs.made) (na : NoAttr K cs.made "stuff") (C_made_places : Cal P w K mg base CX0 "made_places" 1 ["kinds", "look", "stuff"] (spPlaces K pMade)) (C_place_reason : Cal P w K mg base CX0 "place_reason" 1 ["places"] (spPlaceR K)) : FnOk P w K mg base CX0 (k + 3) f fd ["self", "kinds", "look"] (spReasonN K cs d 1) := by
  refine F.ok sc_Made_reason (fun vs H Q E h => ?_) (fun cdv A outer s H vs Q E hr h => ?_)
  · obtain ⟨a, kl, lt, n, ks, lk, rfl, _⟩ := h
    rfl
  obtain ⟨a, kl, lt, n, ks, lk, rfl, hk, O, ok, dp, G, q⟩ := h
  refine ⟨_, (@pss_one _ _ _ (@ps_ret _ _ _ _ (@pe_callC _ _ _ _ _ _ _ _ _ _ _ C_place_reason hr g_Made_reason_place_reason (@pa_cons _ _ _ _ _ (@pe_callC _ _ _ _ _ _ _ _ _ _ _ C_made_places hr g_Made_reason_made_places (@pa_cons _ _ _ _ _ (@pe_var _ 1 _ _ rfl v_Made_reason_1 dn_kinds dc_kinds) (@pa_cons _ _ _ _ _ (@pe_var _ 2 _ _ rfl v_Made_reason_2 dn_look dc_look) (@pa_cons _ _ _ _ _ (@pe_fld _ _ _ _ _ (@pe_var _ 0 _ _ rfl v_Made_reason_0 dn_self dc_self) (by rfl)) (@pa_nil _) (star1 rfl)) (star1 rfl)) (star1 rfl)) (by omega) dn_made_places (star1 rfl) (nost1 rfl (nost1 rfl nost0))) (@pa_nil _) (star1 rfl)) (by omega) dn_place_reason (star1 rfl) nost0))), ?_⟩
  simp only [tFld, slots, Option.getD_some, Option.getD_none, tVar, tCons, tNil, tCall, tRet, Kd_non, Kd_bl, Kd_int, Kd_str, decide_true, decide_false, L2.start, cxK, Int.reduceToNat, List.map_cons, List.map_nil, List.length_cons, List.length_nil, Nat.reduceAdd, Nat.reduceSub, Nat.zero_add, List.replicate_succ, List.replicate_zero, List.cons_append, List.nil_append, List.append_nil, List.getElem?_cons_zero, List.getElem?_cons_succ, List.set_cons_zero, List.set_cons_succ, Option.some.injEq, V.int.injEq, V.bl.injEq, V.ref.injEq, V.str.injEq, V.ty.injEq, List.cons.injEq, exists_eq_left', exists_eq_left, exists_eq_right, exists_and_left, exists_and_right, and_true, true_and, and_assoc, exists_const, decide_eq_true_eq, Bool.not_eq_true', Bool.not_true, Bool.not_false, Bool.not_not, decide_eq_false_iff_not, ite_not, Bool.false_eq_true, if_true, if_false, reduceCtorEq, and_false, false_and, exists_false, or_false, false_or, ↓reduceIte, eq_self, reduceIte]
  cases n with
  | any => exact absurd hk (by show ¬(0 = 1); decide)
  | made s =>
    obtain ⟨dx, h⟩ := O
    refine ⟨_, _, _, h, cl, na, _, rfl, ?_⟩
    refine ⟨_, _, _, ks, lk, rfl, G, fun l xs H1 S1 hl l4 he => ?_⟩
    refine ⟨_, xs, rfl, hl, fun p y H2 S2 T => ?_⟩
    rw [he, Bool.not_not] at T
    exact q _ _ _ (S1.trans S2) T
  | used s => exact absurd hk (by show ¬(2 = 1); decide)
  | chief s => exact absurd hk (by show ¬(3 = 1); decide)
  | over k1 k2 => exact absurd hk (by show ¬(4 = 1); decide)
  | both x y => exact absurd hk (by show ¬(5 = 1); decide)
  | either x y => exact absurd hk (by show ¬(6 = 1); decide)
  | but x y => exact absurd hk (by show ¬(7 = 1); decide)
theorem ok_Used_reason {k d : Nat} (F : Fun K "reason" "Used.reason" s_Used_reason f fd) (M : Mg mg) (cl : Cls K cs.used) (na : NoAttr K cs.used "use") (C_used_places : Cal P w K mg base CX0 "used_places" 1 ["kinds", "look", "use"] (spPlaces K pUsed)) (C_place_reason : Cal P w K mg base CX0 "place_reason" 1 ["places"] (spPlaceR K)) : FnOk P w K mg base CX0 (k + 3) f fd ["self", "kinds", "look"] (spReasonN K cs d 2) := by
  refine F.ok sc_Used_reason (fun vs H Q E h => ?_) (fun cdv A outer s H vs Q E hr h => ?_)
  · obtain ⟨a, kl, lt, n, ks, lk, rfl, _⟩ := h
    rfl
  obtain ⟨a, kl, lt, n, ks, lk, rfl, hk, O, ok, dp, G, q⟩ := h
  refine ⟨_, (@pss_one _ _ _ (@ps_ret _ _ _ _ (@pe_callC _ _ _ _ _ _ _ _ _ _ _ C_place_reason hr g_Used_reason_place_reason (@pa_cons _ _ _ _ _ (@pe_callC _ _ _ _ _ _ _ _ _ _ _ C_used_places hr g_Used_reason_used_places (@pa_cons _ _ _ _ _ (@pe_var _ 1 _ _ rfl v_Used_reason_1 dn_kinds dc_kinds) (@pa_cons _ _ _ _ _ (@pe_var _ 2 _ _ rfl v_Used_reason_2 dn_look dc_look) (@pa_cons _ _ _ _ _ (@pe_fld _ _ _ _ _ (@pe_var _ 0 _ _ rfl v_Used_reason_0 dn_self dc_self) (by rfl)) (@pa_nil _) (star1 rfl)) (star1 rfl)) (star1 rfl)) (by omega) dn_used_places (star1 rfl) (nost1 rfl (nost1 rfl nost0))) (@pa_nil _) (star1 rfl)) (by omega) dn_place_reason (star1 rfl) nost0))), ?_⟩
  simp only [tFld, slots, Option.getD_some, Option.getD_none, tVar, tCons, tNil, tCall, tRet, Kd_non, Kd_bl, Kd_int, Kd_str, decide_true, decide_false, L2.start, cxK, Int.reduceToNat, List.map_cons, List.map_nil, List.length_cons, List.length_nil, Nat.reduceAdd, Nat.reduceSub, Nat.zero_add, List.replicate_succ, List.replicate_zero, List.cons_append, List.nil_append, List.append_nil, List.getElem?_cons_zero, List.getElem?_cons_succ, List.set_cons_zero, List.set_cons_succ, Option.some.injEq, V.int.injEq, V.bl.injEq, V.ref.injEq, V.str.injEq, V.ty.injEq, List.cons.injEq, exists_eq_left', exists_eq_left, exists_eq_right, exists_and_left, exists_and_right, and_true, true_and, and_assoc, exists_const, decide_eq_true_eq, Bool.not_eq_true', Bool.not_true, Bool.not_false, Bool.not_not, decide_eq_false_iff_not, ite_not, Bool.false_eq_true, if_true, if_false, reduceCtorEq, and_false, false_and, exists_false, or_false, false_or, ↓reduceIte, eq_self, reduceIte]
  cases n with
  | any => exact absurd hk (by show ¬(0 = 2); decide)
  | made s => exact absurd hk (by show ¬(1 = 2); decide)
  | used s =>
    obtain ⟨dx, h⟩ := O
    refine ⟨_, _, _, h, cl, na, _, rfl, ?_⟩
    refine ⟨_, _, _, ks, lk, rfl, G, fun l xs H1 S1 hl l4 he => ?_⟩
    refine ⟨_, xs, rfl, hl, fun p y H2 S2 T => ?_⟩
    rw [he, Bool.not_not] at T
    exact q _ _ _ (S1.trans S2) T
  | chief s => exact absurd hk (by show ¬(3 = 2); decide)
  | over k1 k2 => exact absurd hk (by show ¬(4 = 2); decide)
  | both x y => exact absurd hk (by show ¬(5 = 2); decide)
  | either x y => exact absurd hk (by show ¬(6 = 2); decide)
  | but x y => exact absurd hk (by show ¬(7 = 2); decide)
theorem ok_Chief_reason {k d : Nat} (F : Fun K "reason" "Chief.reason" s_Chief_reason f fd) (M : Mg mg) (cl : Cls K cs.chief) (na : NoAttr K cs.chief "stuff") (C_chief_places : Cal P w K mg base CX0 "chief_places" 1 ["kinds", "look", "stuff"] (spPlaces K pChief)) (C_place_reason : Cal P w K mg base CX0 "place_reason" 1 ["places"] (spPlaceR K)) : FnOk P w K mg base CX0 (k + 3) f fd ["self", "kinds", "look"] (spReasonN K cs d 3) := by
  refine F.ok sc_Chief_reason (fun vs H Q E h => ?_) (fun cdv A outer s H vs Q E hr h => ?_)
  · obtain ⟨a, kl, lt, n, ks, lk, rfl, _⟩ := h
    rfl
  obtain ⟨a, kl, lt, n, ks, lk, rfl, hk, O, ok, dp, G, q⟩ := h
  refine ⟨_, (@pss_one _ _ _ (@ps_ret _ _ _ _ (@pe_callC _ _ _ _ _ _ _ _ _ _ _ C_place_reason hr g_Chief_reason_place_reason (@pa_cons _ _ _ _ _ (@pe_callC _ _ _ _ _ _ _ _ _ _ _ C_chief_places hr g_Chief_reason_chief_places (@pa_cons _ _ _ _ _ (@pe_var _ 1 _ _ rfl v_Chief_reason_1 dn_kinds dc_kinds) (@pa_cons _ _ _ _ _ (@pe_var _ 2 _ _ rfl v_Chief_reason_2 dn_look dc_look) (@pa_cons _ _ _ _ _ (@pe_fld _ _ _ _ _ (@pe_var _ 0 _ _ rfl v_Chief_reason_0 dn_self dc_self) (by rfl)) (@pa_nil _) (star1 rfl)) (star1 rfl)) (star1 rfl)) (by omega) dn_chief_places (star1 rfl) (nost1 rfl (nost1 rfl nost0))) (@pa_nil _) (star1 rfl)) (by omega) dn_place_reason (star1 rfl) nost0))), ?_⟩
  simp only [tFld, slots, Option.getD_some, Option.getD_none, tVar, tCons, tNil, tCall, tRet, Kd_non, Kd_bl, Kd_int, Kd_str, decide_true, decide_false, L2.start, cxK, Int.reduceToNat, List.map_cons, List.map_nil, List.length_cons, List.length_nil, Nat.reduceAdd, Nat.reduceSub, Nat.zero_add, List.replicate_succ, List.replicate_zero, List.cons_append, List.nil_append, List.append_nil, List.getElem?_cons_zero, List.getElem?_cons_succ, List.set_cons_zero, List.set_cons_succ, Option.some.injEq, V.int.injEq, V.bl.injEq, V.ref.injEq, V.str.injEq, V.ty.injEq, List.cons.injEq, exists_eq_left', exists_eq_left, exists_eq_right, exists_and_left, exists_and_right, and_true, true_and, and_assoc, exists_const, decide_eq_true_eq, Bool.not_eq_true', Bool.not_true, Bool.not_false, Bool.not_not, decide_eq_false_iff_not, ite_not, Bool.false_eq_true, if_true, if_false, reduceCtorEq, and_false, false_and, exists_false, or_false, false_or, ↓reduceIte, eq_self, reduceIte]
  cases n with
  | any => exact absurd hk (by show ¬(0 = 3); decide)
  | made s => exact absurd hk (by show ¬(1 = 3); decide)
  | used s => exact absurd hk (by show ¬(2 = 3); decide)
  | chief s =>
    obtain ⟨dx, h⟩ := O
    refine ⟨_, _, _, h, cl, na, _, rfl, ?_⟩
    refine ⟨_, _, _, ks, lk, rfl, G, fun l xs H1 S1 hl l4 he => ?_⟩
    refine ⟨_, xs, rfl, hl, fun p y H2 S2 T => ?_⟩
    rw [he, Bool.not_not] at T
    exact q _ _ _ (S1.trans S2) T
  | over k1 k2 => exact absurd hk (by show ¬(4 = 3); decide)
  | both x y => exact absurd hk (by show ¬(5 = 3); decide)
  | either x y => exact absurd hk (by show ¬(6 = 3); decide)
  | but x y => exact absurd hk (by show ¬(7 = 3); decide)
theorem ok_Over_reason {k d : Nat} (F : Fun K "reason" "Over.reason" s_Over_reason f fd) (M : Mg mg) (t4 : TwoC K cs.over) (C_is_over : Cal P w K mg base CX0 "is_over" 2 ["kinds", "look", "one", "other"] (spOver K)) : FnOk P w K mg base CX0 (k + 3) f fd ["self", "kinds", "look"] (spReasonN K cs d 4) := by
  refine F.ok sc_Over_reason (fun vs H Q E h => ?_) (fun cdv A outer s H vs Q E hr h => ?_)
  · obtain ⟨a, kl, lt, n, ks, lk, rfl, _⟩ := h
    rfl
  obtain ⟨a, kl, lt, n, ks, lk, rfl, hk, O, ok, dp, G, q⟩ := h
  refine ⟨_, (@pss_one _ _ _ (@ps_ret _ _ _ _ (@pe_tup _ _ _ _ _ (@pa_cons _ _ _ _ _ (@pe_callC _ _ _ _ _ _ _ _ _ _ _ C_is_over hr g_Over_reason_is_over (@pa_cons _ _ _ _ _ (@pe_var _ 1 _ _ rfl v_Over_reason_1 dn_kinds dc_kinds) (@pa_cons _ _ _ _ _ (@pe_var _ 2 _ _ rfl v_Over_reason_2 dn_look dc_look) (@pa_cons _ _ _ _ _ (@pe_fld _ _ _ _ _ (@pe_var _ 0 _ _ rfl v_Over_reason_0 dn_self dc_self) (by rfl)) (@pa_cons _ _ _ _ _ (@pe_fld _ _ _ _ _ (@pe_var _ 0 _ _ rfl v_Over_reason_0 dn_self dc_self) (by rfl)) (@pa_nil _) (star1 rfl)) (star1 rfl)) (star1 rfl)) (star1 rfl)) (by omega) dn_is_over (star1 rfl) (nost1 rfl (nost1 rfl (nost1 rfl nost0)))) (@pa_cons _ _ _ _ _ (@pe_non _ _ _) (@pa_nil _) (star1 rfl)) (star1 rfl))))), ?_⟩
  simp only [tFld, slots, Option.getD_some, Option.getD_none, tC, tVar, tCons, tNil, tCall, tRet, tTup, Kd_non, Kd_bl, Kd_int, Kd_str, decide_true, decide_false, L2.start, cxK, Int.reduceToNat, List.map_cons, List.map_nil, List.length_cons, List.length_nil, Nat.reduceAdd, Nat.reduceSub, Nat.zero_add, List.replicate_succ, List.replicate_zero, List.cons_append, List.nil_append, List.append_nil, List.getElem?_cons_zero, List.getElem?_cons_succ, List.set_cons_zero, List.set_cons_succ, Option.some.injEq, V.int.injEq, V.bl.injEq, V.ref.injEq, V.str.injEq, V.ty.injEq, List.cons.injEq, exists_eq_left', exists_eq_left, exists_eq_right, exists_and_left, exists_and_right, and_true, true_and, and_assoc, exists_const, decide_eq_true_eq, Bool.not_eq_true', Bool.not_true, Bool.not_false, Bool.not_not, decide_eq_false_iff_not, ite_not, Bool.false_eq_true, if_true, if_false, reduceCtorEq, and_false, false_and, exists_false, or_false, false_or, ↓reduceIte, eq_self, reduceIte]
  cases n with
  | any => exact absurd hk (by show ¬(0 = 4); decide)
  | made s => exact absurd hk (by show ¬(1 = 4); decide)
  | used s => exact absurd hk (by show ¬(2 = 4); decide)
  | chief s => exact absurd hk (by show ¬(3 = 4); decide)
  | over k1 k2 =>
    obtain ⟨dx, p1, p2, h, T1, T2⟩ := O
    refine ⟨_, _, _, h, t4.cl, t4.n1, _, rfl, _, _, _, h, t4.cl, t4.n2, _, rfl, ?_⟩
    refine ⟨_, _, _, _, ks, lk, k1, k2, rfl, G, T1, ok.1, T2, ok.2, fun H1 S1 => ?_⟩
    exact ⟨by decide, fun p hp => q _ _ _ (S1.trans (same_new hp _)) (SqT.of upd_same)⟩
  | both x y => exact absurd hk (by show ¬(5 = 4); decide)
  | either x y => exact absurd hk (by show ¬(6 = 4); decide)
  | but x y => exact absurd hk (by show ¬(7 = 4); decide)
theorem ok_Both_reason {d : Nat} (F : Fun K "reason" "Both.reason" s_Both_reason f fd) (M : Mg mg) (tt : TwoC K cs.both) (D_reason : ∀ C sp, DReasonN K cs d C sp → Disp P w K mg base "reason" (3 + d) ["self", "kinds", "look"] C sp) : FnOk P w K mg base CX0 (3 + d + 1) f fd ["self", "kinds", "look"] (spReasonN K cs (d + 1) 5) := by
  refine F.ok sc_Both_reason (fun vs H Q E h => ?_) (fun cdv A outer s H vs Q E hr h => ?_)
  · obtain ⟨a, kl, lt, n, ks, lk, rfl, _⟩ := h
    rfl
  obtain ⟨a, kl, lt, n, ks, lk, rfl, hk, O, ok, dp, G, q⟩ := h
  refine ⟨_, (@pss_cons _ _ _ _ _ (@ps_set _ _ 3 _ _ _ _ sc_Both_reason.nd rfl l_Both_reason_3 (@pe_methD _ _ _ _ _ _ _ _ _ _ _ _ _ _ (@pe_fld _ _ _ _ _ (@pe_var _ 0 _ _ rfl v_Both_reason_0 dn_self dc_self) (by rfl)) D_reason hr (@pa_cons _ _ _ _ _ (@pe_var _ 1 _ _ rfl v_Both_reason_1 dn_kinds dc_kinds) (@pa_cons _ _ _ _ _ (@pe_var _ 2 _ _ rfl v_Both_reason_2 dn_look dc_look) (@pa_nil _) (star1 rfl)) (star1 rfl)) (by omega) (star1 rfl) (nost1 rfl nost0) (by rfl)) (swap1 rfl) (.inl rfl)) (@pss_cons _ _ _ _ _ (@ps_set _ _ 4 _ _ _ _ sc_Both_reason.nd rfl l_Both_reason_4 (@pe_methD _ _ _ _ _ _ _ _ _ _ _ _ _ _ (@pe_fld _ _ _ _ _ (@pe_var _ 0 _ _ rfl v_Both_reason_0 dn_self dc_self) (by rfl)) D_reason hr (@pa_cons _ _ _ _ _ (@pe_var _ 1 _ _ rfl v_Both_reason_1 dn_kinds dc_kinds) (@pa_cons _ _ _ _ _ (@pe_var _ 2 _ _ rfl v_Both_reason_2 dn_look dc_look) (@pa_nil _) (star1 rfl)) (star1 rfl)) (by omega) (star1 rfl) (nost1 rfl nost0) (by rfl)) (swap1 rfl) (.inl rfl)) (@pss_cons _ _ _ _ _ (@ps_if _ _ _ _ _ _ _ _ (@pt_not _ _ _ _ (@pt_val _ _ _ (@pe_ix _ _ _ _ _ _ _ (@ix_tup _) (@pe_var _ 3 _ _ rfl v_Both_reason_3 dn_first dc_first) (@pe_int _ _ _ _) (fun _ _ => rfl)) (test1 rfl))) (@pss_one _ _ _ (@ps_ret _ _ _ _ (@pe_tup _ _ _ _ _ (@pa_cons _ _ _ _ _ (@pe_bl _ _ _ _) (@pa_cons _ _ _ _ _ (@pe_int _ _ _ _) (@pa_cons _ _ _ _ _ (@pe_var _ 3 _ _ rfl v_Both_reason_3 dn_first dc_first) (@pa_nil _) (star1 rfl)) (star1 rfl)) (star1 rfl))))) (@pss_nil _)) (@pss_cons _ _ _ _ _ (@ps_if _ _ _ _ _ _ _ _ (@pt_not _ _ _ _ (@pt_val _ _ _ (@pe_ix _ _ _ _ _ _ _ (@ix_tup _) (@pe_var _ 4 _ _ rfl v_Both_reason_4 dn_second dc_second) (@pe_int _ _ _ _) (fun _ _ => rfl)) (test1 rfl))) (@pss_one _ _ _ (@ps_ret _ _ _ _ (@pe_tup _ _ _ _ _ (@pa_cons _ _ _ _ _ (@pe_bl _ _ _ _) (@pa_cons _ _ _ _ _ (@pe_int _ _ _ _) (@pa_cons _ _ _ _ _ (@pe_var _ 4 _ _ rfl v_Both_reason_4 dn_second dc_second) (@pa_nil _) (star1 rfl)) (star1 rfl)) (star1 rfl))))) (@pss_nil _)) (@pss_one _ _ _ (@ps_ret _ _ _ _ (@pe_tup _ _ _ _ _ (@pa_cons _ _ _ _ _ (@pe_bl _ _ _ _) (@pa_cons _ _ _ _ _ (@pe_var _ 3 _ _ rfl v_Both_reason_3 dn_first dc_first) (@pa_cons _ _ _ _ _ (@pe_var _ 4 _ _ rfl v_Both_reason_4 dn_second dc_second) (@pa_nil _) (star1 rfl)) (star1 rfl)) (star1 rfl))))))))), ?_⟩
  simp only [tFld, tMethD, slots, Option.getD_some, Option.getD_none, tSeq, tAsg, gName, tOp, tC, tVar, tCons, tNil, tRet, tIfS, tB, tNot, tTup, tNext, rIxT, Kd_non, Kd_bl, Kd_int, Kd_str, decide_true, decide_false, L2.start, cxK, Int.reduceToNat, List.map_cons, List.map_nil, List.length_cons, List.length_nil, Nat.reduceAdd, Nat.reduceSub, Nat.zero_add, List.replicate_succ, List.replicate_zero, List.cons_append, List.nil_append, List.append_nil, List.getElem?_cons_zero, List.getElem?_cons_succ, List.set_cons_zero, List.set_cons_succ, Option.some.injEq, V.int.injEq, V.bl.injEq, V.ref.injEq, V.str.injEq, V.ty.injEq, List.cons.injEq, exists_eq_left', exists_eq_left, exists_eq_right, exists_and_left, exists_and_right, and_true, true_and, and_assoc, exists_const, decide_eq_true_eq, Bool.not_eq_true', Bool.not_true, Bool.not_false, Bool.not_not, decide_eq_false_iff_not, ite_not, Bool.false_eq_true, if_true, if_false, reduceCtorEq, and_false, false_and, exists_false, or_false, false_or, ↓reduceIte, eq_self, reduceIte]
  cases n with
  | any => exact absurd hk (by show ¬(0 = 5); decide)
  | made s => exact absurd hk (by show ¬(1 = 5); decide)
  | used s => exact absurd hk (by show ¬(2 = 5); decide)
  | chief s => exact absurd hk (by show ¬(3 = 5); decide)
  | over k1 k2 => exact absurd hk (by show ¬(4 = 5); decide)
  | both x y =>
    obtain ⟨dx, a1, a2, h, O1, O2⟩ := O
    have dd : max x.dp y.dp + 1 ≤ d + 1 := dp
    refine ⟨_, _, _, h, tt.cl, tt.n1, _, rfl, _, rfl, ?_⟩
    refine reason_byN O1 ok.1 (show x.dp ≤ d by omega) G fun p1 y1 H1 S1 R1 => ?_
    refine ⟨_, _, _, S1 _ _ h, tt.cl, tt.n2, _, rfl, _, rfl, ?_⟩
    refine reason_byN (ObjN.same S1 O2) ok.2 (show y.dp ≤ d by omega) (G.same S1) fun p2 y2 H2 S2 R2 => ?_
    refine ⟨_, rfl, _, Same.tup S2 R1, _, at0, _, rfl, ?_⟩
    have S3 := S1.trans S2
    by_cases hx : claimsB ks lk x = false
    · rw [if_pos hx]
      exact ⟨by decide, fun p hp => q p [.int 0, .ref p1] _ (S3.trans (same_new hp _)) (by rw [show claimsB ks lk (.both x y) = false from by simp [claimsB, hx]]; exact SqT.of upd_same)⟩
    · rw [if_neg hx]
      have hx' : claimsB ks lk x = true := by revert hx; cases claimsB ks lk x <;> simp
      refine ⟨_, rfl, _, R2, _, at0, _, rfl, ?_⟩
      by_cases hy : claimsB ks lk y = false
      · rw [if_pos hy]
        exact ⟨by decide, fun p hp => q p [.int 1, .ref p2] _ (S3.trans (same_new hp _)) (by rw [show claimsB ks lk (.both x y) = false from by simp [claimsB, hx', hy]]; exact SqT.of upd_same)⟩
      · rw [if_neg hy]
        have hy' : claimsB ks lk y = true := by revert hy; cases claimsB ks lk y <;> simp
        exact ⟨by decide, fun p hp => q p [.ref p1, .ref p2] _ (S3.trans (same_new hp _)) (by rw [show claimsB ks lk (.both x y) = true from by simp [claimsB, hx', hy']]; exact SqT.of upd_same)⟩
  | either x y => exact absurd hk (by show ¬(6 = 5); decide)
  | but x y => exact absurd hk (by show ¬(7 = 5); decide)

theorem no_Both_reason {k j : Nat} (F : Fun K "reason" "Both.reason" s_Both_reason f fd) : FnOk P w K mg base CX0 (k + 3) f fd ["self", "kinds", "look"] (spReasonN K cs 0 j) := by
  refine F.ok sc_Both_reason (fun vs H Q E h => ?_) (fun cdv A outer s H vs Q E hr h => ?_)
  · obtain ⟨a, kl, lt, n, ks, lk, rfl, _⟩ := h
    rfl
  obtain ⟨a, kl, lt, n, ks, lk, rfl, hk, O, ok, dp, G, q⟩ := h
  have := Nt.dp_pos n
  omega
theorem ok_Either_reason {d : Nat} (F : Fun K "reason" "Either.reason" s_Either_reason f fd) (M : Mg mg) (tt : TwoC K cs.either) (D_reason : ∀ C sp, DReasonN K cs d C sp → Disp P w K mg base "reason" (3 + d) ["self", "kinds", "look"] C sp) : FnOk P w K mg base CX0 (3 + d + 1) f fd ["self", "kinds", "look"] (spReasonN K cs (d + 1) 6) := by
  refine F.ok sc_Either_reason (fun vs H Q E h => ?_) (fun cdv A outer s H vs Q E hr h => ?_)
  · obtain ⟨a, kl, lt, n, ks, lk, rfl, _⟩ := h
    rfl
  obtain ⟨a, kl, lt, n, ks, lk, rfl, hk, O, ok, dp, G, q⟩ := h
  refine ⟨_, (@pss_cons _ _ _ _ _ (@ps_set _ _ 3 _ _ _ _ sc_Either_reason.nd rfl l_Either_reason_3 (@pe_methD _ _ _ _ _ _ _ _ _ _ _ _ _ _ (@pe_fld _ _ _ _ _ (@pe_var _ 0 _ _ rfl v_Either_reason_0 dn_self dc_self) (by rfl)) D_reason hr (@pa_cons _ _ _ _ _ (@pe_var _ 1 _ _ rfl v_Either_reason_1 dn_kinds dc_kinds) (@pa_cons _ _ _ _ _ (@pe_var _ 2 _ _ rfl v_Either_reason_2 dn_look dc_look) (@pa_nil _) (star1 rfl)) (star1 rfl)) (by omega) (star1 rfl) (nost1 rfl nost0) (by rfl)) (swap1 rfl) (.inl rfl)) (@pss_cons _ _ _ _ _ (@ps_set _ _ 4 _ _ _ _ sc_Either_reason.nd rfl l_Either_reason_4 (@pe_methD _ _ _ _ _ _ _ _ _ _ _ _ _ _ (@pe_fld _ _ _ _ _ (@pe_var _ 0 _ _ rfl v_Either_reason_0 dn_self dc_self) (by rfl)) D_reason hr (@pa_cons _ _ _ _ _ (@pe_var _ 1 _ _ rfl v_Either_reason_1 dn_kinds dc_kinds) (@pa_cons _ _ _ _ _ (@pe_var _ 2 _ _ rfl v_Either_reason_2 dn_look dc_look) (@pa_nil _) (star1 rfl)) (star1 rfl)) (by omega) (star1 rfl) (nost1 rfl nost0) (by rfl)) (swap1 rfl) (.inl rfl)) (@pss_cons _ _ _ _ _ (@ps_if _ _ _ _ _ _ _ _ (@pt_val _ _ _ (@pe_ix _ _ _ _ _ _ _ (@ix_tup _) (@pe_var _ 3 _ _ rfl v_Either_reason_3 dn_first dc_first) (@pe_int _ _ _ _) (fun _ _ => rfl)) (test1 rfl)) (@pss_one _ _ _ (@ps_ret _ _ _ _ (@pe_tup _ _ _ _ _ (@pa_cons _ _ _ _ _ (@pe_bl _ _ _ _) (@pa_cons _ _ _ _ _ (@pe_int _ _ _ _) (@pa_cons _ _ _ _ _ (@pe_var _ 3 _ _ rfl v_Either_reason_3 dn_first dc_first) (@pa_nil _) (star1 rfl)) (star1 rfl)) (star1 rfl))))) (@pss_nil _)) (@pss_cons _ _ _ _ _ (@ps_if _ _ _ _ _ _ _ _ (@pt_val _ _ _ (@pe_ix _ _ _ _ _ _ _ (@ix_tup _) (@pe_var _ 4 _ _ rfl v_Either_reason_4 dn_second dc_second) (@pe_int _ _ _ _) (fun _ _ => rfl)) (test1 rfl)) (@pss_one _ _ _ (@ps_ret _ _ _ _ (@pe_tup _ _ _ _ _ (@pa_cons _ _ _ _ _ (@pe_bl _ _ _ _) (@pa_cons _ _ _ _ _ (@pe_int _ _ _ _) (@pa_cons _ _ _ _ _ (@pe_var _ 4 _ _ rfl v_Either_reason_4 dn_second dc_second) (@pa_nil _) (star1 rfl)) (star1 rfl)) (star1 rfl))))) (@pss_nil _)) (@pss_one _ _ _ (@ps_ret _ _ _ _ (@pe_tup _ _ _ _ _ (@pa_cons _ _ _ _ _ (@pe_bl _ _ _ _) (@pa_cons _ _ _ _ _ (@pe_var _ 3 _ _ rfl v_Either_reason_3 dn_first dc_first) (@pa_cons _ _ _ _ _ (@pe_var _ 4 _ _ rfl v_Either_reason_4 dn_second dc_second) (@pa_nil _) (star1 rfl)) (star1 rfl)) (star1 rfl))))))))), ?_⟩
  simp only [tFld, tMethD, slots, Option.getD_some, Option.getD_none, tSeq, tAsg, gName, tOp, tC, tVar, tCons, tNil, tRet, tIfS, tB, tTup, tNext, rIxT, Kd_non, Kd_bl, Kd_int, Kd_str, decide_true, decide_false, L2.start, cxK, Int.reduceToNat, List.map_cons, List.map_nil, List.length_cons, List.length_nil, Nat.reduceAdd, Nat.reduceSub, Nat.zero_add, List.replicate_succ, List.replicate_zero, List.cons_append, List.nil_append, List.append_nil, List.getElem?_cons_zero, List.getElem?_cons_succ, List.set_cons_zero, List.set_cons_succ, Option.some.injEq, V.int.injEq, V.bl.injEq, V.ref.injEq, V.str.injEq, V.ty.injEq, List.cons.injEq, exists_eq_left', exists_eq_left, exists_eq_right, exists_and_left, exists_and_right, and_true, true_and, and_assoc, exists_const, decide_eq_true_eq, Bool.not_eq_true', Bool.not_true, Bool.not_false, Bool.not_not, decide_eq_false_iff_not, ite_not, Bool.false_eq_true, if_true, if_false, reduceCtorEq, and_false, false_and, exists_false, or_false, false_or, ↓reduceIte, eq_self, reduceIte]
  cases n with
  | any => exact absurd hk (by show ¬(0 = 6); decide)
  | made s => exact absurd hk (by show ¬(1 = 6); decide)
  | used s => exact absurd hk (by show ¬(2 = 6); decide)
  | chief s => exact absurd hk (by show ¬(3 = 6); decide)
  | over k1 k2 => exact absurd hk (by show ¬(4 = 6); decide)
  | both x y => exact absurd hk (by show ¬(5 = 6); decide)
  | either x y =>
    obtain ⟨dx, a1, a2, h, O1, O2⟩ := O
    have dd : max x.dp y.dp + 1 ≤ d + 1 := dp
    refine ⟨_, _, _, h, tt.cl, tt.n1, _, rfl, _, rfl, ?_⟩
    refine reason_byN O1 ok.1 (show x.dp ≤ d by omega) G fun p1 y1 H1 S1 R1 => ?_
    refine ⟨_, _, _, S1 _ _ h, tt.cl, tt.n2, _, rfl, _, rfl, ?_⟩
    refine reason_byN (ObjN.same S1 O2) ok.2 (show y.dp ≤ d by omega) (G.same S1) fun p2 y2 H2 S2 R2 => ?_
    refine ⟨_, rfl, _, Same.tup S2 R1, _, at0, _, rfl, ?_⟩
    have S3 := S1.trans S2
    by_cases hx : claimsB ks lk x = true
    · rw [if_pos hx]
      exact ⟨by decide, fun p hp => q p [.int 0, .ref p1] _ (S3.trans (same_new hp _)) (by rw [show claimsB ks lk (.either x y) = true from by simp [claimsB, hx]]; exact SqT.of upd_same)⟩
    · rw [if_neg hx]
      have hx' : claimsB ks lk x = false := by revert hx; cases claimsB ks lk x <;> simp
      refine ⟨_, rfl, _, R2, _, at0, _, rfl, ?_⟩
      by_cases hy : claimsB ks lk y = true
      · rw [if_pos hy]
        exact ⟨by decide, fun p hp => q p [.int 1, .ref p2] _ (S3.trans (same_new hp _)) (by rw [show claimsB ks lk (.either x y) = true from by simp [claimsB, hx', hy]]; exact SqT.of upd_same)⟩
      · rw [if_neg hy]
        have hy' : claimsB ks lk y = false := by revert hy; cases claimsB ks lk y <;> simp
        exact ⟨by decide, fun p hp => q p [.ref p1, .ref p2] _ (S3.trans (same_new hp _)) (by rw [show claimsB ks lk (.either x y) = false from by simp [claimsB, hx', hy']]; exact SqT.of upd_same)⟩
  | but x y => exact absurd hk (by show ¬(7 = 6); decide)

theorem no_Either_reason {k j : Nat} (F : Fun K "reason" "Either.reason" s_Either_reason f fd) : FnOk P w K mg base CX0 (k + 3) f fd ["self", "kinds", "look"] (spReasonN K cs 0 j) := by
  refine F.ok sc_Either_reason (fun vs H Q E h => ?_) (fun cdv A outer s H vs Q E hr h => ?_)
  · obtain ⟨a, kl, lt, n, ks, lk, rfl, _⟩ := h
    rfl
  obtain ⟨a, kl, lt, n, ks, lk, rfl, hk, O, ok, dp, G, q⟩ := h
  have := Nt.dp_pos n
  omega
theorem ok_But_reason {d : Nat} (F : Fun K "reason" "But.reason" s_But_reason f fd) (M : Mg mg) (tt : TwoC K cs.but) (D_reason : ∀ C sp, DReasonN K cs d C sp → Disp P w K mg base "reason" (3 + d) ["self", "kinds", "look"] C sp) : FnOk P w K mg base CX0 (3 + d + 1) f fd ["self", "kinds", "look"] (spReasonN K cs (d + 1) 7) := by
  refine F.ok sc_But_reason (fun vs H Q E h => ?_) (fun cdv A outer s H vs Q E hr h => ?_)
  · obtain ⟨a, kl, lt, n, ks, lk, rfl, _⟩ := h
    rfl
  obtain ⟨a, kl, lt, n, ks, lk, rfl, hk, O, ok, dp, G, q⟩ := h
  refine ⟨_, (@pss_cons _ _ _ _ _ (@ps_set _ _ 3 _ _ _ _ sc_But_reason.nd rfl l_But_reason_3 (@pe_methD _ _ _ _ _ _ _ _ _ _ _ _ _ _ (@pe_fld _ _ _ _ _ (@pe_var _ 0 _ _ rfl v_But_reason_0 dn_self dc_self) (by rfl)) D_reason hr (@pa_cons _ _ _ _ _ (@pe_var _ 1 _ _ rfl v_But_reason_1 dn_kinds dc_kinds) (@pa_cons _ _ _ _ _ (@pe_var _ 2 _ _ rfl v_But_reason_2 dn_look dc_look) (@pa_nil _) (star1 rfl)) (star1 rfl)) (by omega) (star1 rfl) (nost1 rfl nost0) (by rfl)) (swap1 rfl) (.inl rfl)) (@pss_cons _ _ _ _ _ (@ps_set _ _ 4 _ _ _ _ sc_But_reason.nd rfl l_But_reason_4 (@pe_methD _ _ _ _ _ _ _ _ _ _ _ _ _ _ (@pe_fld _ _ _ _ _ (@pe_var _ 0 _ _ rfl v_But_reason_0 dn_self dc_self) (by rfl)) D_reason hr (@pa_cons _ _ _ _ _ (@pe_var _ 1 _ _ rfl v_But_reason_1 dn_kinds dc_kinds) (@pa_cons _ _ _ _ _ (@pe_var _ 2 _ _ rfl v_But_reason_2 dn_look dc_look) (@pa_nil _) (star1 rfl)) (star1 rfl)) (by omega) (star1 rfl) (nost1 rfl nost0) (by rfl)) (swap1 rfl) (.inl rfl)) (@pss_cons _ _ _ _ _ (@ps_if _ _ _ _ _ _ _ _ (@pt_not _ _ _ _ (@pt_val _ _ _ (@pe_ix _ _ _ _ _ _ _ (@ix_tup _) (@pe_var _ 3 _ _ rfl v_But_reason_3 dn_first dc_first) (@pe_int _ _ _ _) (fun _ _ => rfl)) (test1 rfl))) (@pss_one _ _ _ (@ps_ret _ _ _ _ (@pe_tup _ _ _ _ _ (@pa_cons _ _ _ _ _ (@pe_bl _ _ _ _) (@pa_cons _ _ _ _ _ (@pe_int _ _ _ _) (@pa_cons _ _ _ _ _ (@pe_var _ 3 _ _ rfl v_But_reason_3 dn_first dc_first) (@pa_nil _) (star1 rfl)) (star1 rfl)) (star1 rfl))))) (@pss_nil _)) (@pss_cons _ _ _ _ _ (@ps_if _ _ _ _ _ _ _ _ (@pt_val _ _ _ (@pe_ix _ _ _ _ _ _ _ (@ix_tup _) (@pe_var _ 4 _ _ rfl v_But_reason_4 dn_second dc_second) (@pe_int _ _ _ _) (fun _ _ => rfl)) (test1 rfl)) (@pss_one _ _ _ (@ps_ret _ _ _ _ (@pe_tup _ _ _ _ _ (@pa_cons _ _ _ _ _ (@pe_bl _ _ _ _) (@pa_cons _ _ _ _ _ (@pe_int _ _ _ _) (@pa_cons _ _ _ _ _ (@pe_var _ 4 _ _ rfl v_But_reason_4 dn_second dc_second) (@pa_nil _) (star1 rfl)) (star1 rfl)) (star1 rfl))))) (@pss_nil _)) (@pss_one _ _ _ (@ps_ret _ _ _ _ (@pe_tup _ _ _ _ _ (@pa_cons _ _ _ _ _ (@pe_bl _ _ _ _) (@pa_cons _ _ _ _ _ (@pe_var _ 3 _ _ rfl v_But_reason_3 dn_first dc_first) (@pa_cons _ _ _ _ _ (@pe_var _ 4 _ _ rfl v_But_reason_4 dn_second dc_second) (@pa_nil _) (star1 rfl)) (star1 rfl)) (star1 rfl))))))))), ?_⟩
  simp only [tFld, tMethD, slots, Option.getD_some, Option.getD_none, tSeq, tAsg, gName, tOp, tC, tVar, tCons, tNil, tRet, tIfS, tB, tNot, tTup, tNext, rIxT, Kd_non, Kd_bl, Kd_int, Kd_str, decide_true, decide_false, L2.start, cxK, Int.reduceToNat, List.map_cons, List.map_nil, List.length_cons, List.length_nil, Nat.reduceAdd, Nat.reduceSub, Nat.zero_add, List.replicate_succ, List.replicate_zero, List.cons_append, List.nil_append, List.append_nil, List.getElem?_cons_zero, List.getElem?_cons_succ, List.set_cons_zero, List.set_cons_succ, Option.some.injEq, V.int.injEq, V.bl.injEq, V.ref.injEq, V.str.injEq, V.ty.injEq, List.cons.injEq, exists_eq_left', exists_eq_left, exists_eq_right, exists_and_left, exists_and_right, and_true, true_and, and_assoc, exists_const, decide_eq_true_eq, Bool.not_eq_true', Bool.not_true, Bool.not_false, Bool.not_not, decide_eq_false_iff_not, ite_not, Bool.false_eq_true, if_true, if_false, reduceCtorEq, and_false, false_and, exists_false, or_false, false_or, ↓reduceIte, eq_self, reduceIte]
  cases n with
  | any => exact absurd hk (by show ¬(0 = 7); decide)
  | made s => exact absurd hk (by show ¬(1 = 7); decide)
  | used s => exact absurd hk (by show ¬(2 = 7); decide)
  | chief s => exact absurd hk (by show ¬(3 = 7); decide)
  | over k1 k2 => exact absurd hk (by show ¬(4 = 7); decide)
  | both x y => exact absurd hk (by show ¬(5 = 7); decide)
  | either x y => exact absurd hk (by show ¬(6 = 7); decide)
  | but x y =>
    obtain ⟨dx, a1, a2, h, O1, O2⟩ := O
    have dd : max x.dp y.dp + 1 ≤ d + 1 := dp
    refine ⟨_, _, _, h, tt.cl, tt.n1, _, rfl, _, rfl, ?_⟩
    refine reason_byN O1 ok.1 (show x.dp ≤ d by omega) G fun p1 y1 H1 S1 R1 => ?_
    refine ⟨_, _, _, S1 _ _ h, tt.cl, tt.n2, _, rfl, _, rfl, ?_⟩
    refine reason_byN (ObjN.same S1 O2) ok.2 (show y.dp ≤ d by omega) (G.same S1) fun p2 y2 H2 S2 R2 => ?_
    refine ⟨_, rfl, _, Same.tup S2 R1, _, at0, _, rfl, ?_⟩
    have S3 := S1.trans S2
    by_cases hx : claimsB ks lk x = false
    · rw [if_pos hx]
      exact ⟨by decide, fun p hp => q p [.int 0, .ref p1] _ (S3.trans (same_new hp _)) (by rw [show claimsB ks lk (.but x y) = false from by simp [claimsB, hx]]; exact SqT.of upd_same)⟩
    · rw [if_neg hx]
      have hx' : claimsB ks lk x = true := by revert hx; cases claimsB ks lk x <;> simp
      refine ⟨_, rfl, _, R2, _, at0, _, rfl, ?_⟩
      by_cases hy : claimsB ks lk y = true
      · rw [if_pos hy]
        exact ⟨by decide, fun p hp => q p [.int 1, .ref p2] _ (S3.trans (same_new hp _)) (by rw [show claimsB ks lk (.but x y) = false from by simp [claimsB, hx', hy]]; exact SqT.of upd_same)⟩
      · rw [if_neg hy]
        have hy' : claimsB ks lk y = false := by revert hy; cases claimsB ks lk y <;> simp
        exact ⟨by decide, fun p hp => q p [.ref p1, .ref p2] _ (S3.trans (same_new hp _)) (by rw [show claimsB ks lk (.but x y) = true from by simp [claimsB, hx', hy']]; exact SqT.of upd_same)⟩

theorem no_But_reason {k j : Nat} (F : Fun K "reason" "But.reason" s_But_reason f fd) : FnOk P w K mg base CX0 (k + 3) f fd ["self", "kinds", "look"] (spReasonN K cs 0 j) := by
  refine F.ok sc_But_reason (fun vs H Q E h => ?_) (fun cdv A outer s H vs Q E hr h => ?_)
  · obtain ⟨a, kl, lt, n, ks, lk, rfl, _⟩ := h
    rfl
  obtain ⟨a, kl, lt, n, ks, lk, rfl, hk, O, ok, dp, G, q⟩ := h
  have := Nt.dp_pos n
  omega
abbrev ReasP (P : Program) (w : World) (K : PySem.W.Frag) (mg : Str → Option Value) (base : Heap) (cs : NC) (j : Nat) : Prop := ∀ k d, ∃ f fd, Meth K (ncCls cs j) "reason" f ∧ FnOk P w K mg base CX0 (k + 3) f fd ["self", "kinds", "look"] (spReasonN K cs d j) ∧ Binds K fd ["self", "kinds", "look"] []
abbrev ReasJ (P : Program) (w : World) (K : PySem.W.Frag) (mg : Str → Option Value) (base : Heap) (cs : NC) (j : Nat) : Prop := (∀ k, ∃ f fd, Meth K (ncCls cs j) "reason" f ∧ FnOk P w K mg base CX0 (k + 3) f fd ["self", "kinds", "look"] (spReasonN K cs 0 j) ∧ Binds K fd ["self", "kinds", "look"] []) ∧
  ∀ d, (∀ C sp, DReasonN K cs d C sp → Disp P w K mg base "reason" (3 + d) ["self", "kinds", "look"] C sp) → ∃ f fd, Meth K (ncCls cs j) "reason" f ∧ FnOk P w K mg base CX0 (3 + d + 1) f fd ["self", "kinds", "look"] (spReasonN K cs (d + 1) j) ∧ Binds K fd ["self", "kinds", "look"] []
theorem all_reason (cl : ∀ j, j < 8 → Cls K (ncCls cs j)) (h0 : ReasP P w K mg base cs 0) (h1 : ReasP P w K mg base cs 1) (h2 : ReasP P w K mg base cs 2) (h3 : ReasP P w K mg base cs 3) (h4 : ReasP P w K mg base cs 4) (h5 : ReasJ P w K mg base cs 5) (h6 : ReasJ P w K mg base cs 6) (h7 : ReasJ P w K mg base cs 7) :
    ∀ d C sp, DReasonN K cs d C sp → Disp P w K mg base "reason" (3 + d) ["self", "kinds", "look"] C sp := by
  intro d
  induction d with
  | zero =>
    rintro C sp ⟨j, hj, rfl, rfl⟩
    refine ⟨cl j hj, ?_⟩
    have : j = 0 ∨ j = 1 ∨ j = 2 ∨ j = 3 ∨ j = 4 ∨ j = 5 ∨ j = 6 ∨ j = 7 := by omega
    rcases this with e | e | e | e | e | e | e | e <;> subst e
    · exact h0 0 0
    · exact h1 0 0
    · exact h2 0 0
    · exact h3 0 0
    · exact h4 0 0
    · exact h5.1 0
    · exact h6.1 0
    · exact h7.1 0
  | succ d ih =>
    rintro C sp ⟨j, hj, rfl, rfl⟩
    refine ⟨cl j hj, ?_⟩
    have : j = 0 ∨ j = 1 ∨ j = 2 ∨ j = 3 ∨ j = 4 ∨ j = 5 ∨ j = 6 ∨ j = 7 := by omega
    rcases this with e | e | e | e | e | e | e | e <;> subst e
    · have := h0 (d + 1) (d + 1)
      rwa [show d + 1 + 3 = 3 + (d + 1) by omega] at this
    · have := h1 (d + 1) (d + 1)
      rwa [show d + 1 + 3 = 3 + (d + 1) by omega] at this
    · have := h2 (d + 1) (d + 1)
      rwa [show d + 1 + 3 = 3 + (d + 1) by omega] at this
    · have := h3 (d + 1) (d + 1)
      rwa [show d + 1 + 3 = 3 + (d + 1) by omega] at this
    · have := h4 (d + 1) (d + 1)
      rwa [show d + 1 + 3 = 3 + (d + 1) by omega] at this
    · exact h5.2 d ih
    · exact h6.2 d ih
    · exact h7.2 d ih
end

def spClaims (K : PySem.W.Frag) (cs : NC) : Sp := fun vs H Q _ => ∃ (a kl lt : Addr) (n : Nt) (ks : List Kd2) (lk : List Int), vs = [.ref a, .ref kl, .ref lt] ∧ ObjN K cs H a n ∧ n.ok ∧ n.dp ≤ 5 ∧ Ground K H kl lt ks lk ∧ ∀ H', Same H H' → Q (.bl (claimsB ks lk n)) H'
def spLook (K : PySem.W.Frag) : Sp := fun vs H Q _ => ∃ (c : Int) (n : Nat), vs = [.int c, .int (n : Int)] ∧ 1 ≤ n ∧ n ≤ 4 ∧ ∀ p lk H', Same H H' → SqT K H' p ((lk : List Int).map V.int) → lk.length = n → (∀ x ∈ lk, 0 ≤ x) → Q (.ref p) H'
section
variable {P : Program} {w : World} {K : PySem.W.Frag} {mg : Str → Option Value} {base : Heap} {f : Addr} {fd : FuncData} {cs : NC}
theorem ok_Note_claims (F : Fun K "claims" "Note.claims" s_Note_claims f fd) (M : Mg mg) (D_reason : ∀ C sp, DReasonN K cs 5 C sp → Disp P w K mg base "reason" 8 ["self", "kinds", "look"] C sp) : FnOk P w K mg base CX0 9 f fd ["self", "kinds", "look"] (spClaims K cs) := by
  refine F.ok sc_Note_claims (fun vs H Q E h => ?_) (fun cdv A outer s H vs Q E hr h => ?_)
  · obtain ⟨a, kl, lt, n, ks, lk, rfl, _⟩ := h
    rfl
  obtain ⟨a, kl, lt, n, ks, lk, rfl, O, ok, dp, G, q⟩ := h
  refine ⟨_, (@pss_one _ _ _ (@ps_ret _ _ _ _ (@pe_ix _ _ _ _ _ _ _ (@ix_tup _) (@pe_methD _ _ _ _ _ _ _ _ _ _ _ _ _ _ (@pe_var _ 0 _ _ rfl v_Note_claims_0 dn_self dc_self) D_reason hr (@pa_cons _ _ _ _ _ (@pe_var _ 1 _ _ rfl v_Note_claims_1 dn_kinds dc_kinds) (@pa_cons _ _ _ _ _ (@pe_var _ 2 _ _ rfl v_Note_claims_2 dn_look dc_look) (@pa_nil _) (star1 rfl)) (star1 rfl)) (by decide) (star1 rfl) (nost1 rfl nost0) (by rfl)) (@pe_int _ _ _ _) (fun _ _ => rfl)))), ?_⟩
  simp only [tMethD, slots, Option.getD_some, Option.getD_none, tOp, tC, tVar, tCons, tNil, tRet, rIxT, Kd_non, Kd_bl, Kd_int, Kd_str, decide_true, decide_false, L2.start, cxK, Int.reduceToNat, List.map_cons, List.map_nil, List.length_cons, List.length_nil, Nat.reduceAdd, Nat.reduceSub, Nat.zero_add, List.replicate_succ, List.replicate_zero, List.cons_append, List.nil_append, List.append_nil, List.getElem?_cons_zero, List.getElem?_cons_succ, List.set_cons_zero, List.set_cons_succ, Option.some.injEq, V.int.injEq, V.bl.injEq, V.ref.injEq, V.str.injEq, V.ty.injEq, List.cons.injEq, exists_eq_left', exists_eq_left, exists_eq_right, exists_and_left, exists_and_right, and_true, true_and, and_assoc, exists_const, decide_eq_true_eq, Bool.not_eq_true', Bool.not_true, Bool.not_false, Bool.not_not, decide_eq_false_iff_not, ite_not, Bool.false_eq_true, if_true, if_false, reduceCtorEq, and_false, false_and, exists_false, or_false, false_or, ↓reduceIte, eq_self, reduceIte]
  refine reason_byN O ok dp G fun p ys H1 S1 T => ?_
  exact ⟨_, rfl, _, T, _, at0, q _ S1⟩
theorem ok_law_look (F : Fun K "_law_look" "_law_look" s_law_look f fd) (M : Mg mg) (C_law_mix : Cal P w K mg base CX0 "_law_mix" 1 ["_law_number", "_law_k", "_law_many"] spMix3) : FnOk P w K mg base CX0 2 f fd ["_law_cell_here", "_law_many"] (spLook K) := by
  refine F.ok sc_law_look (fun vs H Q E h => ?_) (fun cdv A outer s H vs Q E hr h => ?_)
  · obtain ⟨c, n, rfl, _⟩ := h
    rfl
  obtain ⟨c, n, rfl, n1, n4, q⟩ := h
  refine ⟨_, (@pss_cons _ _ _ _ _ (@ps_set _ _ 2 _ _ _ _ sc_law_look.nd rfl l_law_look_2 (@pe_comp _ _ _ _ _ _ _ _ _ _ _ _ _ _ _ rfl (CompOk.make (N' := ["_law_cell_here", "_law_k"]) (ix := [0]) (nl := 1) (by rfl) (fm1 rfl fm0) (by rfl) (by decide +kernel) rfl (by decide +kernel) rfl (And.intro ⟨rfl, .inl rfl, .inl rfl⟩ True.intro)) (@pi_range1 _ _ _ _ _ _ g_law_look_range M.m_range (@pa_cons _ _ _ _ _ (@pe_var _ 1 _ _ rfl v_law_look_1 dn__law_many dc__law_many) (@pa_nil _) (star1 rfl)) (star1' rfl)) (fun _ _ _ _ _ => (@pg_name _ _ 1 _ (show List.Nodup (["_law_cell_here", "_law_k"] : List Str) from by decide) rfl (Or.inl rfl) (by first | exact .inl rfl | exact .inr rfl | assumption))) (fun _ _ _ _ _ => (@pif_nil _)) (fun _ _ _ _ _ => (@pe_callC _ _ _ _ _ _ _ _ _ _ _ C_law_mix hr rfl (@pa_cons _ _ _ _ _ (@pv _ 0 _ _ (by rfl) (by first | exact Or.inl rfl | exact Or.inr (Or.inl rfl) | exact Or.inr (Or.inr rfl)) (by decide) (by decide)) (@pa_cons _ _ _ _ _ (@pv _ 1 _ _ (by rfl) (by first | exact Or.inl rfl | exact Or.inr (Or.inl rfl) | exact Or.inr (Or.inr rfl)) (by decide) (by decide)) (@pa_cons _ _ _ _ _ (@pe_int _ _ _ _) (@pa_nil _) (star1 rfl)) (star1 rfl)) (star1 rfl)) (by decide) dn__law_mix (star1 rfl) (nost1 rfl (nost1 rfl nost0)))) (by intro _; rfl)) (by rfl) (.inl rfl)) (@pss_cons _ _ _ _ _ (@ps_if _ _ _ _ _ _ _ _ (@pt_cmpR _ _ _ _ _ _ _ _ (@op_eq _) (@pe_callB _ _ _ _ _ _ _ _ _ (call_max1 rfl) g_law_look_max M.m_max b_max (@pa_cons _ _ _ _ _ (@pe_var _ 2 _ _ rfl v_law_look_2 dn__law_weights dc__law_weights) (@pa_nil _) (star1 rfl)) nn_max dn_max (star1 rfl) nost0) (@pe_int _ _ _ _) (nomark _)) (@pss_one _ _ _ (@ps_asg _ _ _ _ _ _ (@pe_int _ _ _ _) (@pg_sub _ _ _ _ _ _ _ (@pe_var _ 2 _ _ rfl v_law_look_2 dn__law_weights dc__law_weights) (@pe_op _ _ _ _ _ _ _ _ (@op_mod _) (@pe_var _ 0 _ _ rfl v_law_look_0 dn__law_cell_here dc__law_cell_here) (@pe_var _ 1 _ _ rfl v_law_look_1 dn__law_many dc__law_many)) set_list (by intro _; rfl)) (by rfl) (by rfl) (by rfl))) (@pss_nil _)) (@pss_one _ _ _ (@ps_ret _ _ _ _ (@pe_callTy _ _ _ _ _ _ _ _ _ call_tupleL g_law_look_tuple M.m_tuple b_tuple (@pa_cons _ _ _ _ _ (pe_compc rfl (CompOkC.make (y := "_law_weight") (N' := ["_law_weights", "_law_weight"]) (ix := [2]) (nl := 1) (by rfl) (fm1 rfl fm0) (by rfl) (fun _ => rfl) (fun _ => rfl) rfl (by decide +kernel) rfl (And.intro ⟨rfl, rfl, .inl rfl, .inl rfl⟩ True.intro)) (@pi_list _ _ _ _ (@pe_var _ 2 _ _ rfl v_law_look_2 dn__law_weights dc__law_weights)) (fun _ _ _ _ _ => (@pg_name _ _ 1 _ (show List.Nodup (["_law_weights", "_law_weight"] : List Str) from by decide) rfl (Or.inr rfl) (by first | exact .inl rfl | exact .inr rfl | assumption))) (fun _ _ _ _ _ => (@pif_nil _)) (fun _ _ _ _ _ => (@pe_callB _ _ _ _ _ _ _ _ _ call_len_setO rfl M.m_len b_len (@pa_cons _ _ _ _ _ (@pe_callTy _ _ _ _ _ _ _ _ _ (call_setK (K := K) rfl rfl) rfl M.m_set b_set (@pa_cons _ _ _ _ _ (@pe_comp _ _ _ _ _ _ _ _ _ _ _ _ _ _ _ rfl (CompOk.make (N' := ["_law_weight", "_law_w"]) (ix := [1]) (nl := 1) (by rfl) (fm1 rfl fm0) (by rfl) (by decide +kernel) rfl (by decide +kernel) rfl (And.intro ⟨rfl, (by first | exact .inl rfl | exact .inr rfl), (by first | exact .inl rfl | exact .inr rfl)⟩ True.intro)) (@pi_listK _ K _ _ _ rfl (@pv _ 0 _ _ (by rfl) (by first | exact Or.inl rfl | exact Or.inr (Or.inl rfl) | exact Or.inr (Or.inr rfl)) (by decide) (by decide))) (fun _ _ _ _ _ => (@pg_name _ _ 1 _ (show List.Nodup (["_law_weight", "_law_w"] : List Str) from by decide) rfl (Or.inl rfl) (by first | exact .inl rfl | exact .inr rfl | assumption))) (fun _ _ _ _ _ => (@pif_one _ _ _ (@pt_chain _ _ _ _ _ _ _ _ _ _ _ _ (@op_lt _) op_le (@pe_int _ _ _ _) (@pv _ 1 _ _ (by rfl) (by first | exact Or.inl rfl | exact Or.inr (Or.inl rfl) | exact Or.inr (Or.inr rfl)) (by decide) (by decide)) (@pv _ 0 _ _ (by rfl) (by first | exact Or.inl rfl | exact Or.inr (Or.inl rfl) | exact Or.inr (Or.inr rfl)) (by decide) (by decide)) (by with_unfolding_all rfl)))) (fun _ _ _ _ _ => (@pv _ 1 _ _ (by rfl) (by first | exact Or.inl rfl | exact Or.inr (Or.inl rfl) | exact Or.inr (Or.inr rfl)) (by decide) (by decide))) (by intro _; rfl)) (@pa_nil _) (star1 rfl)) nn_set dn_set (star1 rfl) nost0) (@pa_nil _) (star1 rfl)) nn_len dn_len (star1 rfl) nost0))) (@pa_nil _) (star1 rfl)) nn_tuple dn_tuple (star1 rfl) nost0))))), ?_⟩
  simp only [tComp_eq, tComp1, slots, Option.getD_some, Option.getD_none, tYes, tSeq, tAsg, gName, tOp, tC, tVar, tCB, tCons, tNil, tCall, rI, rI0, tRet, tIfS, tTest, tChain, tNext, gSub, rSetL, rEq, Kd_non, Kd_bl, Kd_int, Kd_str, sc_non_non, sc_non_int, sc_int_non, sc_non_bl, sc_bl_non, sc_non_str, sc_str_non, sc_int_int, sc_bl_bl, sc_str_str, sc_int_str, sc_str_int, sc_bl_str, sc_str_bl, decide_true, decide_false, iList, iRng1, L2.start, cxK, Int.reduceToNat, List.map_cons, List.map_nil, List.length_cons, List.length_nil, Nat.reduceAdd, Nat.reduceSub, Nat.zero_add, List.replicate_succ, List.replicate_zero, List.cons_append, List.nil_append, List.append_nil, List.getElem?_cons_zero, List.getElem?_cons_succ, List.set_cons_zero, List.set_cons_succ, Option.some.injEq, V.int.injEq, V.bl.injEq, V.ref.injEq, V.str.injEq, V.ty.injEq, List.cons.injEq, exists_eq_left', exists_eq_left, exists_eq_right, exists_and_left, exists_and_right, and_true, true_and, and_assoc, exists_const, decide_eq_true_eq, Bool.not_eq_true', Bool.not_true, Bool.not_false, Bool.not_not, decide_eq_false_iff_not, ite_not, Bool.false_eq_true, if_true, if_false, reduceCtorEq, and_false, false_and, exists_false, or_false, false_or, ↓reduceIte, eq_self, reduceIte]
  refine ⟨by omega, by omega, fun D0 hD0 => ?_⟩
  obtain ⟨Pc, hC⟩ : ∃ Pc : Nat → St → Hp → Prop, Pc = fun i τ H' => ∃ (z : Option V) (ws : List Int), H' D0 = some (.lst (ws.map V.int)) ∧ ws.length = i ∧ Same H H' ∧ τ = [some (.int c), z] := ⟨_, rfl⟩
  refine compS_range Pc ?_ ?_ ?_
  · rw [hC]
    exact ⟨_, [], upd_same, rfl, same_new hD0 _, rfl⟩
  · intro i τ H' R' hi h next
    rw [hC] at h
    obtain ⟨z, ws, d1, d2, d3, rfl⟩ := h
    simp only [tComp_eq, tComp1, slots, Option.getD_some, Option.getD_none, tYes, tSeq, tAsg, gName, tOp, tC, tVar, tCB, tCons, tNil, tCall, rI, rI0, tRet, tIfS, tTest, tChain, tNext, gSub, rSetL, rEq, Kd_non, Kd_bl, Kd_int, Kd_str, sc_non_non, sc_non_int, sc_int_non, sc_non_bl, sc_bl_non, sc_non_str, sc_str_non, sc_int_int, sc_bl_bl, sc_str_str, sc_int_str, sc_str_int, sc_bl_str, sc_str_bl, decide_true, decide_false, iList, iRng1, L2.start, cxK, Int.reduceToNat, List.map_cons, List.map_nil, List.length_cons, List.length_nil, Nat.reduceAdd, Nat.reduceSub, Nat.zero_add, List.replicate_succ, List.replicate_zero, List.cons_append, List.nil_append, List.append_nil, List.getElem?_cons_zero, List.getElem?_cons_succ, List.set_cons_zero, List.set_cons_succ, Option.some.injEq, V.int.injEq, V.bl.injEq, V.ref.injEq, V.str.injEq, V.ty.injEq, List.cons.injEq, exists_eq_left', exists_eq_left, exists_eq_right, exists_and_left, exists_and_right, and_true, true_and, and_assoc, exists_const, decide_eq_true_eq, Bool.not_eq_true', Bool.not_true, Bool.not_false, Bool.not_not, decide_eq_false_iff_not, ite_not, Bool.false_eq_true, if_true, if_false, reduceCtorEq, and_false, false_and, exists_false, or_false, false_or, ↓reduceIte, eq_self, reduceIte]
    refine ⟨_, _, _, rfl, by omega, by omega, by decide, ?_⟩
    simp only [tComp_eq, tComp1, slots, Option.getD_some, Option.getD_none, tYes, tSeq, tAsg, gName, tOp, tC, tVar, tCB, tCons, tNil, tCall, rI, rI0, tRet, tIfS, tTest, tChain, tNext, gSub, rSetL, rEq, Kd_non, Kd_bl, Kd_int, Kd_str, sc_non_non, sc_non_int, sc_int_non, sc_non_bl, sc_bl_non, sc_non_str, sc_str_non, sc_int_int, sc_bl_bl, sc_str_str, sc_int_str, sc_str_int, sc_bl_str, sc_str_bl, decide_true, decide_false, iList, iRng1, L2.start, cxK, Int.reduceToNat, List.map_cons, List.map_nil, List.length_cons, List.length_nil, Nat.reduceAdd, Nat.reduceSub, Nat.zero_add, List.replicate_succ, List.replicate_zero, List.cons_append, List.nil_append, List.append_nil, List.getElem?_cons_zero, List.getElem?_cons_succ, List.set_cons_zero, List.set_cons_succ, Option.some.injEq, V.int.injEq, V.bl.injEq, V.ref.injEq, V.str.injEq, V.ty.injEq, List.cons.injEq, exists_eq_left', exists_eq_left, exists_eq_right, exists_and_left, exists_and_right, and_true, true_and, and_assoc, exists_const, decide_eq_true_eq, Bool.not_eq_true', Bool.not_true, Bool.not_false, Bool.not_not, decide_eq_false_iff_not, ite_not, Bool.false_eq_true, if_true, if_false, reduceCtorEq, and_false, false_and, exists_false, or_false, false_or, ↓reduceIte, eq_self, reduceIte]
    refine ⟨_, d1, by rw [List.length_map]; exact Nat.lt_of_lt_of_le (m := 64) (by omega) (by decide), next _ _ ?_⟩
    rw [hC]
    exact ⟨_, ws ++ [mix3 c (0 + (i : Int)) 5], by rw [upd_same, List.map_append]; rfl, by rw [List.length_append, d2]; rfl, same_upd d3 hD0 _, rfl⟩
  · intro τ H1 h
    rw [hC] at h
    obtain ⟨z, ws, d1, d2, d3, rfl⟩ := h
    have lw : ws.length = n := by omega
    refine ⟨_, rfl, ws, .inl (SqL.of d1), by omega, fun m hm htop => ?_⟩
    by_cases hm0 : m = 0
    · rw [if_pos hm0]
      have lc : (c % (n : Int)) < n := Int.emod_lt_of_pos _ (by omega)
      have l0 : 0 ≤ c % (n : Int) := Int.emod_nonneg _ (by omega)
      obtain ⟨j, hj⟩ : ∃ j : Nat, c % (n : Int) = j := ⟨(c % (n : Int)).toNat, by omega⟩
      refine ⟨by omega, _, rfl, _, d1, j, by rw [hj, List.length_map, lw]; exact ixN_nat (by omega), ?_⟩
      have hw : upd H1 D0 (.lst ((ws.map V.int).set j (.int 1))) D0 = some (.lst ((ws.set j 1).map V.int)) := by rw [upd_same, List.map_set]
      obtain ⟨H2, hH2⟩ : ∃ H2, H2 = upd H1 D0 (.lst ((ws.map V.int).set j (.int 1))) := ⟨_, rfl⟩
      rw [← hH2] at hw ⊢
      have S2 : Same H H2 := by rw [hH2]; exact same_upd d3 hD0 _
      obtain ⟨vs, hvs⟩ : ∃ vs, vs = ws.set j 1 := ⟨_, rfl⟩
      rw [← hvs] at hw
      have lv : vs.length = n := by rw [hvs, List.length_set]; exact lw
      refine ⟨_, rfl, ⟨_, SqL.of hw⟩, fun E2 hE => ?_⟩
      obtain ⟨Pe, hPe⟩ : ∃ Pe : Nat → St → Hp → Prop, Pe = fun i τ H' => ∃ (z : Option V) (ls : List Int), H' E2 = some (.lst (ls.map V.int)) ∧ ls.length = i ∧ (∀ x ∈ ls, 0 ≤ x) ∧ Same H2 H' ∧ τ = [some (.ref D0), z] := ⟨_, rfl⟩
      refine compS_list (vs.map V.int) Pe ?_ (fun i τ H' _ h => by rw [hPe] at h; obtain ⟨_, _, _, _, _, e, _⟩ := h; exact SqL.of (e _ _ hw)) ?_ ?_
      · rw [hPe]
        exact ⟨_, [], upd_same, rfl, (fun x hx => absurd hx List.not_mem_nil), same_new hE _, rfl⟩
      · intro i x τ H' R' hx h next
        rw [hPe] at h
        obtain ⟨z, ls, e1, e2, e3, e4, rfl⟩ := h
        rw [List.getElem?_map] at hx
        obtain ⟨o, ho, rfl⟩ := Option.map_eq_some_iff.mp hx
        have li := (List.getElem?_eq_some_iff.mp ho).1
        simp only [tComp_eq, tComp1, slots, Option.getD_some, Option.getD_none, tYes, tSeq, tAsg, gName, tOp, tC, tVar, tCB, tCons, tNil, tCall, rI, rI0, tRet, tIfS, tTest, tChain, tNext, gSub, rSetL, rEq, Kd_non, Kd_bl, Kd_int, Kd_str, sc_non_non, sc_non_int, sc_int_non, sc_non_bl, sc_bl_non, sc_non_str, sc_str_non, sc_int_int, sc_bl_bl, sc_str_str, sc_int_str, sc_str_int, sc_bl_str, sc_str_bl, decide_true, decide_false, iList, iRng1, L2.start, cxK, Int.reduceToNat, List.map_cons, List.map_nil, List.length_cons, List.length_nil, Nat.reduceAdd, Nat.reduceSub, Nat.zero_add, List.replicate_succ, List.replicate_zero, List.cons_append, List.nil_append, List.append_nil, List.getElem?_cons_zero, List.getElem?_cons_succ, List.set_cons_zero, List.set_cons_succ, Option.some.injEq, V.int.injEq, V.bl.injEq, V.ref.injEq, V.str.injEq, V.ty.injEq, List.cons.injEq, exists_eq_left', exists_eq_left, exists_eq_right, exists_and_left, exists_and_right, and_true, true_and, and_assoc, exists_const, decide_eq_true_eq, Bool.not_eq_true', Bool.not_true, Bool.not_false, Bool.not_not, decide_eq_false_iff_not, ite_not, Bool.false_eq_true, if_true, if_false, reduceCtorEq, and_false, false_and, exists_false, or_false, false_or, ↓reduceIte, eq_self, reduceIte]
        have hw' := e4 _ _ hw
        refine ⟨⟨_, SqL.of hw'⟩, fun F2 hF => ?_⟩
        obtain ⟨Pf, hPf⟩ : ∃ Pf : Nat → St → Hp → Prop, Pf = fun j τ H3 => ∃ (z : Option V) (us : List Int), H3 F2 = some (.lst (us.map V.int)) ∧ us.length ≤ j ∧ Same H' H3 ∧ τ = [some (.int o), z] := ⟨_, rfl⟩
        refine compS_list (vs.map V.int) Pf ?_ (fun i τ H' _ h => by rw [hPf] at h; obtain ⟨_, _, _, _, e, _⟩ := h; exact SqL.of (e _ _ hw')) ?_ ?_
        · rw [hPf]
          exact ⟨_, [], upd_same, Nat.le_refl _, same_new hF _, rfl⟩
        · intro j y τ H3 R3 hy h next3
          rw [hPf] at h
          obtain ⟨z3, us, f1, f2, f3, rfl⟩ := h
          rw [List.getElem?_map] at hy
          obtain ⟨o3, ho3, rfl⟩ := Option.map_eq_some_iff.mp hy
          have lj := (List.getElem?_eq_some_iff.mp ho3).1
          simp only [tComp_eq, tComp1, slots, Option.getD_some, Option.getD_none, tYes, tSeq, tAsg, gName, tOp, tC, tVar, tCB, tCons, tNil, tCall, rI, rI0, tRet, tIfS, tTest, tChain, tNext, gSub, rSetL, rEq, Kd_non, Kd_bl, Kd_int, Kd_str, sc_non_non, sc_non_int, sc_int_non, sc_non_bl, sc_bl_non, sc_non_str, sc_str_non, sc_int_int, sc_bl_bl, sc_str_str, sc_int_str, sc_str_int, sc_bl_str, sc_str_bl, decide_true, decide_false, iList, iRng1, L2.start, cxK, Int.reduceToNat, List.map_cons, List.map_nil, List.length_cons, List.length_nil, Nat.reduceAdd, Nat.reduceSub, Nat.zero_add, List.replicate_succ, List.replicate_zero, List.cons_append, List.nil_append, List.append_nil, List.getElem?_cons_zero, List.getElem?_cons_succ, List.set_cons_zero, List.set_cons_succ, Option.some.injEq, V.int.injEq, V.bl.injEq, V.ref.injEq, V.str.injEq, V.ty.injEq, List.cons.injEq, exists_eq_left', exists_eq_left, exists_eq_right, exists_and_left, exists_and_right, and_true, true_and, and_assoc, exists_const, decide_eq_true_eq, Bool.not_eq_true', Bool.not_true, Bool.not_false, Bool.not_not, decide_eq_false_iff_not, ite_not, Bool.false_eq_true, if_true, if_false, reduceCtorEq, and_false, false_and, exists_false, or_false, false_or, ↓reduceIte, eq_self, reduceIte]
          have stay : R3 [some (.int o), some (.int o3)] H3 := next3 _ _ (by rw [hPf]; exact ⟨_, us, f1, by omega, f3, rfl⟩)
          have grow : ∃ ys, H3 F2 = some (.lst ys) ∧ ys.length < sizeLine ∧ R3 [some (.int o), some (.int o3)] (upd H3 F2 (.lst (ys ++ [.int o3]))) :=
            ⟨_, f1, by rw [List.length_map]; exact Nat.lt_of_lt_of_le (m := 64) (by omega) (by decide), next3 _ _ (by rw [hPf]; exact ⟨_, us ++ [o3], by rw [upd_same, List.map_append]; rfl, by rw [List.length_append]; simp; omega, same_upd f3 hF _, rfl⟩)⟩
          split
          · split
            · exact grow
            · exact stay
          · exact stay
        · intro τ H3 h
          rw [hPf] at h
          obtain ⟨z3, us, f1, f2, f3, rfl⟩ := h
          rw [List.length_map] at f2
          refine ⟨_, rfl, us, SqL.of f1, by omega, fun l S m' hl => ?_⟩
          have el : upd H3 l (.set S m') E2 = some (.lst (ls.map V.int)) := by rw [upd_ne (ne_of_none (f3 _ _ e1) hl)]; exact f3 _ _ e1
          refine ⟨_, _, upd_same, _, el, by rw [List.length_map]; exact Nat.lt_of_lt_of_le (m := 64) (by omega) (by decide), next _ _ ?_⟩
          rw [hPe]
          refine ⟨_, ls ++ [(m' : Int)], by rw [upd_same, List.map_append]; rfl, by rw [List.length_append, e2]; rfl, fun x hx => ?_, same_upd (e4.trans (f3.trans (same_new hl _))) hE _, rfl⟩
          rcases List.mem_append.mp hx with hx | hx
          · exact e3 x hx
          · rw [List.mem_singleton.mp hx]; omega
      · intro τ H' h
        rw [hPe] at h
        obtain ⟨z, ls, e1, e2, e3, e4, rfl⟩ := h
        rw [List.length_map] at e2
        exact ⟨_, rfl, _, SqL.of e1, fun l hl => q _ ls _ (S2.trans (e4.trans (same_new hl _))) (SqT.of upd_same) (by omega) e3⟩
    · rw [if_neg hm0]
      have hw := d1
      obtain ⟨H2, hH2⟩ : ∃ H2, H2 = H1 := ⟨_, rfl⟩
      rw [← hH2] at hw d3 ⊢
      have S2 := d3
      obtain ⟨vs, hvs⟩ : ∃ vs, vs = ws := ⟨_, rfl⟩
      rw [← hvs] at hw
      have lv : vs.length = n := by rw [hvs]; exact lw
      refine ⟨_, rfl, ⟨_, SqL.of hw⟩, fun E2 hE => ?_⟩
      obtain ⟨Pe, hPe⟩ : ∃ Pe : Nat → St → Hp → Prop, Pe = fun i τ H' => ∃ (z : Option V) (ls : List Int), H' E2 = some (.lst (ls.map V.int)) ∧ ls.length = i ∧ (∀ x ∈ ls, 0 ≤ x) ∧ Same H2 H' ∧ τ = [some (.ref D0), z] := ⟨_, rfl⟩
      refine compS_list (vs.map V.int) Pe ?_ (fun i τ H' _ h => by rw [hPe] at h; obtain ⟨_, _, _, _, _, e, _⟩ := h; exact SqL.of (e _ _ hw)) ?_ ?_
      · rw [hPe]
        exact ⟨_, [], upd_same, rfl, (fun x hx => absurd hx List.not_mem_nil), same_new hE _, rfl⟩
      · intro i x τ H' R' hx h next
        rw [hPe] at h
        obtain ⟨z, ls, e1, e2, e3, e4, rfl⟩ := h
        rw [List.getElem?_map] at hx
        obtain ⟨o, ho, rfl⟩ := Option.map_eq_some_iff.mp hx
        have li := (List.getElem?_eq_some_iff.mp ho).1
        simp only [tComp_eq, tComp1, slots, Option.getD_some, Option.getD_none, tYes, tSeq, tAsg, gName, tOp, tC, tVar, tCB, tCons, tNil, tCall, rI, rI0, tRet, tIfS, tTest, tChain, tNext, gSub, rSetL, rEq, Kd_non, Kd_bl, Kd_int, Kd_str, sc_non_non, sc_non_int, sc_int_non, sc_non_bl, sc_bl_non, sc_non_str, sc_str_non, sc_int_int, sc_bl_bl, sc_str_str, sc_int_str, sc_str_int, sc_bl_str, sc_str_bl, decide_true, decide_false, iList, iRng1, L2.start, cxK, Int.reduceToNat, List.map_cons, List.map_nil, List.length_cons, List.length_nil, Nat.reduceAdd, Nat.reduceSub, Nat.zero_add, List.replicate_succ, List.replicate_zero, List.cons_append, List.nil_append, List.append_nil, List.getElem?_cons_zero, List.getElem?_cons_succ, List.set_cons_zero, List.set_cons_succ, Option.some.injEq, V.int.injEq, V.bl.injEq, V.ref.injEq, V.str.injEq, V.ty.injEq, List.cons.injEq, exists_eq_left', exists_eq_left, exists_eq_right, exists_and_left, exists_and_right, and_true, true_and, and_assoc, exists_const, decide_eq_true_eq, Bool.not_eq_true', Bool.not_true, Bool.not_false, Bool.not_not, decide_eq_false_iff_not, ite_not, Bool.false_eq_true, if_true, if_false, reduceCtorEq, and_false, false_and, exists_false, or_false, false_or, ↓reduceIte, eq_self, reduceIte]
        have hw' := e4 _ _ hw
        refine ⟨⟨_, SqL.of hw'⟩, fun F2 hF => ?_⟩
        obtain ⟨Pf, hPf⟩ : ∃ Pf : Nat → St → Hp → Prop, Pf = fun j τ H3 => ∃ (z : Option V) (us : List Int), H3 F2 = some (.lst (us.map V.int)) ∧ us.length ≤ j ∧ Same H' H3 ∧ τ = [some (.int o), z] := ⟨_, rfl⟩
        refine compS_list (vs.map V.int) Pf ?_ (fun i τ H' _ h => by rw [hPf] at h; obtain ⟨_, _, _, _, e, _⟩ := h; exact SqL.of (e _ _ hw')) ?_ ?_
        · rw [hPf]
          exact ⟨_, [], upd_same, Nat.le_refl _, same_new hF _, rfl⟩
        · intro j y τ H3 R3 hy h next3
          rw [hPf] at h
          obtain ⟨z3, us, f1, f2, f3, rfl⟩ := h
          rw [List.getElem?_map] at hy
          obtain ⟨o3, ho3, rfl⟩ := Option.map_eq_some_iff.mp hy
          have lj := (List.getElem?_eq_some_iff.mp ho3).1
          simp only [tComp_eq, tComp1, slots, Option.getD_some, Option.getD_none, tYes, tSeq, tAsg, gName, tOp, tC, tVar, tCB, tCons, tNil, tCall, rI, rI0, tRet, tIfS, tTest, tChain, tNext, gSub, rSetL, rEq, Kd_non, Kd_bl, Kd_int, Kd_str, sc_non_non, sc_non_int, sc_int_non, sc_non_bl, sc_bl_non, sc_non_str, sc_str_non, sc_int_int, sc_bl_bl, sc_str_str, sc_int_str, sc_str_int, sc_bl_str, sc_str_bl, decide_true, decide_false, iList, iRng1, L2.start, cxK, Int.reduceToNat, List.map_cons, List.map_nil, List.length_cons, List.length_nil, Nat.reduceAdd, Nat.reduceSub, Nat.zero_add, List.replicate_succ, List.replicate_zero, List.cons_append, List.nil_append, List.append_nil, List.getElem?_cons_zero, List.getElem?_cons_succ, List.set_cons_zero, List.set_cons_succ, Option.some.injEq, V.int.injEq, V.bl.injEq, V.ref.injEq, V.str.injEq, V.ty.injEq, List.cons.injEq, exists_eq_left', exists_eq_left, exists_eq_right, exists_and_left, exists_and_right, and_true, true_and, and_assoc, exists_const, decide_eq_true_eq, Bool.not_eq_true', Bool.not_true, Bool.not_false, Bool.not_not, decide_eq_false_iff_not, ite_not, Bool.false_eq_true, if_true, if_false, reduceCtorEq, and_false, false_and, exists_false, or_false, false_or, ↓reduceIte, eq_self, reduceIte]
          have stay : R3 [some (.int o), some (.int o3)] H3 := next3 _ _ (by rw [hPf]; exact ⟨_, us, f1, by omega, f3, rfl⟩)
          have grow : ∃ ys, H3 F2 = some (.lst ys) ∧ ys.length < sizeLine ∧ R3 [some (.int o), some (.int o3)] (upd H3 F2 (.lst (ys ++ [.int o3]))) :=
            ⟨_, f1, by rw [List.length_map]; exact Nat.lt_of_lt_of_le (m := 64) (by omega) (by decide), next3 _ _ (by rw [hPf]; exact ⟨_, us ++ [o3], by rw [upd_same, List.map_append]; rfl, by rw [List.length_append]; simp; omega, same_upd f3 hF _, rfl⟩)⟩
          split
          · split
            · exact grow
            · exact stay
          · exact stay
        · intro τ H3 h
          rw [hPf] at h
          obtain ⟨z3, us, f1, f2, f3, rfl⟩ := h
          rw [List.length_map] at f2
          refine ⟨_, rfl, us, SqL.of f1, by omega, fun l S m' hl => ?_⟩
          have el : upd H3 l (.set S m') E2 = some (.lst (ls.map V.int)) := by rw [upd_ne (ne_of_none (f3 _ _ e1) hl)]; exact f3 _ _ e1
          refine ⟨_, _, upd_same, _, el, by rw [List.length_map]; exact Nat.lt_of_lt_of_le (m := 64) (by omega) (by decide), next _ _ ?_⟩
          rw [hPe]
          refine ⟨_, ls ++ [(m' : Int)], by rw [upd_same, List.map_append]; rfl, by rw [List.length_append, e2]; rfl, fun x hx => ?_, same_upd (e4.trans (f3.trans (same_new hl _))) hE _, rfl⟩
          rcases List.mem_append.mp hx with hx | hx
          · exact e3 x hx
          · rw [List.mem_singleton.mp hx]; omega
      · intro τ H' h
        rw [hPe] at h
        obtain ⟨z, ls, e1, e2, e3, e4, rfl⟩ := h
        rw [List.length_map] at e2
        exact ⟨_, rfl, _, SqL.of e1, fun l hl => q _ ls _ (S2.trans (e4.trans (same_new hl _))) (SqT.of upd_same) (by omega) e3⟩
end

def spWeighs (K : PySem.W.Frag) : Sp := spNumIn K
def showsB (lk : List Int) : Nt → Kd2 → Int → Bool
  | .made s => pMade lk s
  | .used s => pUsed lk s
  | .chief s => pChief lk s
  | _ => fun _ _ => false
def oneName : Nt → Prop
  | .made _ => True
  | .used _ => True
  | .chief _ => True
  | _ => False
def spShows (K : PySem.W.Frag) : Sp := fun vs H Q _ => ∃ (t kl lt : Addr) (i : Nat) (n : Nt) (ks : List Kd2) (lk : List Int) (k : Kd2) (x : Int), vs = [.ref t, .ref kl, .ref lt, .int (i : Int)] ∧ ToldAt K H (.ref t) n ∧ oneName n ∧ Ground K H kl lt ks lk ∧ ks[i]? = some k ∧ lk[i]? = some x ∧ ∀ H', Same H H' → Q (.bl (showsB lk n k x)) H'
def spPlainC (K : PySem.W.Frag) : Sp := fun vs H Q _ => ∃ (t kl lt : Addr) (n : Nt) (ks : List Kd2) (lk : List Int), vs = [.ref t, .ref kl, .ref lt] ∧ ToldAt K H (.ref t) n ∧ n.ok ∧ n.dp = 1 ∧ Ground K H kl lt ks lk ∧ ∀ H', Same H H' → Q (.bl (claimsB ks lk n)) H'
theorem at1 {u v : V} {xs : List V} : atI (u :: v :: xs) 1 = some v := (atI_nat (j := 1) rfl : atI (u :: v :: xs) ((1 : Nat) : Int) = some v)
theorem at2 {u v x : V} {xs : List V} : atI (u :: v :: x :: xs) 2 = some x := (atI_nat (j := 2) rfl : atI (u :: v :: x :: xs) ((2 : Nat) : Int) = some x)
section
variable {P : Program} {w : World} {K : PySem.W.Frag} {mg : Str → Option Value} {base : Heap} {f : Addr} {fd : FuncData} {cs : NC}
theorem ok_law_weighs (F : Fun K "_law_weighs" "_law_weighs" s_law_weighs f fd) (M : Mg mg) : FnOk P w K mg base CX0 1 f fd ["_law_kinds_here", "_law_look_here", "_law_kind"] (spNumIn K) := by
  refine F.ok sc_law_weighs (fun vs H Q E h => ?_) (fun cdv A outer s H vs Q E hr h => ?_)
  · obtain ⟨kl, lt, p, ks, lk, k, rfl, _⟩ := h
    rfl
  obtain ⟨kl, lt, p, ks, lk, k, rfl, G, hp, ok, q⟩ := h
  obtain ⟨kx, L, A⟩ := G.kx
  have lx := A.length
  have l4 := G.le
  refine ⟨_, (@pss_cons _ _ _ _ _ (@ps_for _ _ _ _ _ _ _ _ PassesOwn.never rfl (@pi_range1 _ _ _ _ _ _ g_law_weighs_range M.m_range (@pa_cons _ _ _ _ _ (@pe_callB _ _ _ _ _ _ _ _ _ call_len_seq g_law_weighs_len M.m_len b_len (@pa_cons _ _ _ _ _ (@pe_var _ 0 _ _ rfl v_law_weighs_0 dn__law_kinds_here dc__law_kinds_here) (@pa_nil _) (star1 rfl)) nn_len dn_len (star1 rfl) nost0) (@pa_nil _) (star1 rfl)) (star1' rfl)) (@pg_name _ _ 3 _ sc_law_weighs.nd rfl l_law_weighs_3 (.inl rfl)) (@pss_one _ _ _ (@ps_if _ _ _ _ _ _ _ _ (@pt_cmpR _ _ _ _ _ _ _ _ (op_eqD (hu60 hr)) (@pe_ix _ _ _ _ _ _ _ (@ix_list _) (@pe_var _ 0 _ _ rfl v_law_weighs_0 dn__law_kinds_here dc__law_kinds_here) (@pe_var _ 3 _ _ rfl v_law_weighs_3 dn__law_k dc__law_k) (fun _ _ => rfl)) (@pe_var _ 2 _ _ rfl v_law_weighs_2 dn__law_kind dc__law_kind) (nomark _)) (@pss_one _ _ _ (@ps_ret _ _ _ _ (@pe_ix _ _ _ _ _ _ _ (@ix_tup _) (@pe_var _ 1 _ _ rfl v_law_weighs_1 dn__law_look_here dc__law_look_here) (@pe_var _ 3 _ _ rfl v_law_weighs_3 dn__law_k dc__law_k) (fun _ _ => rfl)))) (@pss_nil _))) (by intro _; rfl)) (@pss_one _ _ _ (@ps_ret _ _ _ _ (@pe_int _ _ _ _)))), ?_⟩
  simp only [slots, Option.getD_some, Option.getD_none, tSeq, gName, tOp, tC, tVar, tCB, tCons, tNil, tRet, tIfS, tTest, tNext, rIxL, rIxT, Kd_non, Kd_bl, Kd_int, Kd_str, decide_true, decide_false, tFor_eq, iRng1, L2.start, cxK, Int.reduceToNat, List.map_cons, List.map_nil, List.length_cons, List.length_nil, Nat.reduceAdd, Nat.reduceSub, Nat.zero_add, List.replicate_succ, List.replicate_zero, List.cons_append, List.nil_append, List.append_nil, List.getElem?_cons_zero, List.getElem?_cons_succ, List.set_cons_zero, List.set_cons_succ, Option.some.injEq, V.int.injEq, V.bl.injEq, V.ref.injEq, V.str.injEq, V.ty.injEq, List.cons.injEq, exists_eq_left', exists_eq_left, exists_eq_right, exists_and_left, exists_and_right, and_true, true_and, and_assoc, exists_const, decide_eq_true_eq, Bool.not_eq_true', Bool.not_true, Bool.not_false, Bool.not_not, decide_eq_false_iff_not, ite_not, Bool.false_eq_true, if_true, if_false, reduceCtorEq, and_false, false_and, exists_false, or_false, false_or, ↓reduceIte, eq_self, reduceIte]
  refine ⟨_, .inl L, by omega, by omega, ?_⟩
  obtain ⟨Pv, hP⟩ : ∃ Pv : Nat → St → Hp → Prop, Pv = fun i σ H' => Same H H' ∧ (∃ y, σ = [some (.ref kl), some (.ref lt), some (.ref p), y]) ∧ ∀ (m : Nat) (z : Kd2), m < i → ks[m]? = some z → z ≠ k := ⟨_, rfl⟩
  refine forW_range Pv ?_ ?_ ?_
  · rw [hP]
    exact ⟨Same.refl _, ⟨_, rfl⟩, fun m z hm => absurd hm (by omega)⟩
  · intro i σ H' hi h
    rw [hP] at h
    obtain ⟨e, ⟨y, rfl⟩, hno⟩ := h
    have hik : i < ks.length := by omega
    have ek : ks[i]? = some ks[i] := List.getElem?_eq_getElem hik
    obtain ⟨x, e1, e2, m, nn⟩ := G.at ek
    have ex : kx[i]? = some kx[i] := List.getElem?_eq_getElem (by omega)
    obtain ⟨p', k', ep, ek', hp'⟩ := A.at ex
    rw [ek] at ek'
    have ek2 : ks[i] = k' := by injection ek'
    simp only [slots, Option.getD_some, Option.getD_none, tSeq, gName, tOp, tC, tVar, tCB, tCons, tNil, tRet, tIfS, tTest, tNext, rIxL, rIxT, Kd_non, Kd_bl, Kd_int, Kd_str, decide_true, decide_false, tFor_eq, iRng1, L2.start, cxK, Int.reduceToNat, List.map_cons, List.map_nil, List.length_cons, List.length_nil, Nat.reduceAdd, Nat.reduceSub, Nat.zero_add, List.replicate_succ, List.replicate_zero, List.cons_append, List.nil_append, List.append_nil, List.getElem?_cons_zero, List.getElem?_cons_succ, List.set_cons_zero, List.set_cons_succ, Option.some.injEq, V.int.injEq, V.bl.injEq, V.ref.injEq, V.str.injEq, V.ty.injEq, List.cons.injEq, exists_eq_left', exists_eq_left, exists_eq_right, exists_and_left, exists_and_right, and_true, true_and, and_assoc, exists_const, decide_eq_true_eq, Bool.not_eq_true', Bool.not_true, Bool.not_false, Bool.not_not, decide_eq_false_iff_not, ite_not, Bool.false_eq_true, if_true, if_false, reduceCtorEq, and_false, false_and, exists_false, or_false, false_or, ↓reduceIte, eq_self, reduceIte]
    refine ⟨_, e.seq L, .ref p', by rw [Int.zero_add, ← ep]; exact atI_nat ex, ?_⟩
    refine rEqD_kind (Same.tup e hp') (Same.tup e hp) (ek2 ▸ G.ok _ (List.getElem_mem hik)) ok ⟨_, rfl, ?_⟩
    by_cases hk : k' = k
    · rw [if_pos (by simp [hk])]
      refine ⟨_, Same.tup e G.look, _, by rw [Int.zero_add]; exact e2, ?_⟩
      rw [← numIn_at (k := k) (by rw [ek, ek2, hk]) hno e1]
      exact q _ e
    · rw [if_neg (by simp [hk]), hP]
      refine ⟨e, ⟨_, rfl⟩, fun m z hm hz => ?_⟩
      by_cases hmi : m = i
      · subst hmi
        rw [ek, ek2] at hz
        injection hz with hz
        exact hz ▸ hk
      · exact hno m z (by omega) hz
  · intro σ H' h
    rw [hP] at h
    obtain ⟨e, ⟨y, rfl⟩, hno⟩ := h
    simp only [slots, Option.getD_some, Option.getD_none, tSeq, gName, tOp, tC, tVar, tCB, tCons, tNil, tRet, tIfS, tTest, tNext, rIxL, rIxT, Kd_non, Kd_bl, Kd_int, Kd_str, decide_true, decide_false, tFor_eq, iRng1, L2.start, cxK, Int.reduceToNat, List.map_cons, List.map_nil, List.length_cons, List.length_nil, Nat.reduceAdd, Nat.reduceSub, Nat.zero_add, List.replicate_succ, List.replicate_zero, List.cons_append, List.nil_append, List.append_nil, List.getElem?_cons_zero, List.getElem?_cons_succ, List.set_cons_zero, List.set_cons_succ, Option.some.injEq, V.int.injEq, V.bl.injEq, V.ref.injEq, V.str.injEq, V.ty.injEq, List.cons.injEq, exists_eq_left', exists_eq_left, exists_eq_right, exists_and_left, exists_and_right, and_true, true_and, and_assoc, exists_const, decide_eq_true_eq, Bool.not_eq_true', Bool.not_true, Bool.not_false, Bool.not_not, decide_eq_false_iff_not, ite_not, Bool.false_eq_true, if_true, if_false, reduceCtorEq, and_false, false_and, exists_false, or_false, false_or, ↓reduceIte, eq_self, reduceIte]
    have : k ∉ ks := fun hk => by
      obtain ⟨j, hj, _⟩ := List.mem_iff_getElem.mp hk
      exact hno j k (by omega) (by rw [List.getElem?_eq_getElem hj]; congr) rfl
    rw [← numIn_not (lk := lk) this]
    exact q _ e
theorem ok_law_shows (F : Fun K "_law_shows" "_law_shows" s_law_shows f fd) (M : Mg mg) : FnOk P w K mg base CX0 1 f fd ["_law_told", "_law_kinds_here", "_law_look_here", "_law_k"] (spShows K) := by
  refine F.ok sc_law_shows (fun vs H Q E h => ?_) (fun cdv A outer s H vs Q E hr h => ?_)
  · obtain ⟨t, kl, lt, i, n, ks, lk, k, x, rfl, _⟩ := h
    rfl
  obtain ⟨t, kl, lt, i, n, ks, lk, k, x, rfl, R, on, G, ek, ex, q⟩ := h
  obtain ⟨kx, L, A⟩ := G.kx
  have lx := A.length
  have l4 := G.le
  refine ⟨_, (@pss_cons _ _ _ _ _ (@ps_set _ _ 4 _ _ _ _ sc_law_shows.nd rfl l_law_shows_4 (@pe_int _ _ _ _) (swap1 rfl) (.inl rfl)) (@pss_cons _ _ _ _ _ (@ps_if _ _ _ _ _ _ _ _ (@pt_cmpR _ _ _ _ _ _ _ _ (@op_eq _) (@pe_ix _ _ _ _ _ _ _ (@ix_tup _) (@pe_var _ 0 _ _ rfl v_law_shows_0 dn__law_told dc__law_told) (@pe_int _ _ _ _) (fun _ _ => rfl)) (@pe_str _ _ _ _) (nomark _)) (@pss_one _ _ _ (@ps_set _ _ 4 _ _ _ _ sc_law_shows.nd rfl l_law_shows_4 (@pe_callB _ _ _ _ _ _ _ _ _ (call_max1 rfl) g_law_shows_max M.m_max b_max (@pa_cons _ _ _ _ _ (@pe_var _ 2 _ _ rfl v_law_shows_2 dn__law_look_here dc__law_look_here) (@pa_nil _) (star1 rfl)) nn_max dn_max (star1 rfl) nost0) (swap1 rfl) (.inl rfl))) (@pss_nil _)) (@pss_one _ _ _ (@ps_ret _ _ _ _ (@pe_and _ _ _ _ _ _ _ (@pe_cmpR _ _ _ _ _ _ _ _ (@op_ge _) (@pe_ix _ _ _ _ _ _ _ (@ix_tup _) (@pe_var _ 2 _ _ rfl v_law_shows_2 dn__law_look_here dc__law_look_here) (@pe_var _ 3 _ _ rfl v_law_shows_3 dn__law_k dc__law_k) (fun _ _ => rfl)) (@pe_var _ 4 _ _ rfl v_law_shows_4 dn__law_least dc__law_least) (nomark _)) (@pe_one _ _ _ _ _ (@pe_cmpR _ _ _ _ _ _ _ _ (@op_eq _) (@pe_ix _ _ _ _ _ _ _ (@ix_tup _) (@pe_ix _ _ _ _ _ _ _ (@ix_list _) (@pe_var _ 1 _ _ rfl v_law_shows_1 dn__law_kinds_here dc__law_kinds_here) (@pe_var _ 3 _ _ rfl v_law_shows_3 dn__law_k dc__law_k) (fun _ _ => rfl)) (@pe_callTy _ _ _ _ _ _ _ _ _ call_int_bl g_law_shows_int M.m_int b_int (@pa_cons _ _ _ _ _ (@pe_cmpR _ _ _ _ _ _ _ _ (@op_eq _) (@pe_ix _ _ _ _ _ _ _ (@ix_tup _) (@pe_var _ 0 _ _ rfl v_law_shows_0 dn__law_told dc__law_told) (@pe_int _ _ _ _) (fun _ _ => rfl)) (@pe_str _ _ _ _) (nomark _)) (@pa_nil _) (star1 rfl)) nn_int dn_int (star1 rfl) nost0) (fun _ _ => rfl)) (@pe_ix _ _ _ _ _ _ _ (@ix_tup _) (@pe_var _ 0 _ _ rfl v_law_shows_0 dn__law_told dc__law_told) (@pe_int _ _ _ _) (fun _ _ => rfl)) (nomark _)))))))), ?_⟩
  simp only [slots, Option.getD_some, Option.getD_none, tSeq, tAsg, gName, tOp, tC, tVar, tCB, tCons, tNil, rI0, tRet, tIfS, tTest, tAndV, tNext, rEq, rIxL, rIxT, Kd_non, Kd_bl, Kd_int, Kd_str, sc_non_non, sc_non_int, sc_int_non, sc_non_bl, sc_bl_non, sc_non_str, sc_str_non, sc_int_int, sc_bl_bl, sc_str_str, sc_int_str, sc_str_int, sc_bl_str, sc_str_bl, decide_true, decide_false, L2.start, cxK, Int.reduceToNat, List.map_cons, List.map_nil, List.length_cons, List.length_nil, Nat.reduceAdd, Nat.reduceSub, Nat.zero_add, List.replicate_succ, List.replicate_zero, List.cons_append, List.nil_append, List.append_nil, List.getElem?_cons_zero, List.getElem?_cons_succ, List.set_cons_zero, List.set_cons_succ, Option.some.injEq, V.int.injEq, V.bl.injEq, V.ref.injEq, V.str.injEq, V.ty.injEq, List.cons.injEq, exists_eq_left', exists_eq_left, exists_eq_right, exists_and_left, exists_and_right, and_true, true_and, and_assoc, exists_const, decide_eq_true_eq, Bool.not_eq_true', Bool.not_true, Bool.not_false, Bool.not_not, decide_eq_false_iff_not, ite_not, Bool.false_eq_true, if_true, if_false, reduceCtorEq, and_false, false_and, exists_false, or_false, false_or, ↓reduceIte, eq_self, reduceIte]
  obtain ⟨x', e1, e2, mm, nn⟩ := G.at ek
  rw [ex] at e1
  injection e1 with e1
  subst e1
  have li := (List.getElem?_eq_some_iff.mp ek).1
  have exx : kx[i]? = some kx[i] := List.getElem?_eq_getElem (by omega)
  obtain ⟨p', k', ep, ek', hp'⟩ := A.at exx
  rw [ek] at ek'
  injection ek' with ek'
  subst ek'
  have akx : atI kx (i : Int) = some (.ref p') := by rw [← ep]; exact atI_nat exx
  cases n with
  | any => exact on.elim
  | made s =>
    obtain ⟨x0, y0, T, r0, r1⟩ := rep_two R
    cases rep_str r0
    cases rep_str r1
    refine ⟨_, T, _, at0, rfl, ?_⟩
    rw [if_neg (by decide)]
    refine ⟨_, G.look, _, e2, _, rfl, ?_⟩
    by_cases hx : 1 ≤ x
    · rw [if_pos hx]
      have e9 : showsB lk (.made s) k x = decide (V.str (txt k.1) = V.str (txt s)) := by
        show (decide (x ≠ 0) && decide (k.1 = s)) = _
        rw [decide_eq_true (show x ≠ 0 by omega), Bool.true_and]
        exact decide_eq_decide.mpr txtV.symm
      refine ⟨_, L, .ref p', akx, _, T, _, at0, rfl, _, rfl, _, hp', .str (txt k.1), by rw [if_neg (by decide)]; exact at0, _, T, _, at1, rfl, ?_⟩
      rw [← e9]
      exact q _ (Same.refl _)
    · rw [if_neg hx]
      have e9 : showsB lk (.made s) k x = false := by
        show (decide (x ≠ 0) && decide (k.1 = s)) = _
        rw [decide_eq_false (show ¬ (x ≠ 0) by omega), Bool.false_and]
      rw [← e9]
      exact q _ (Same.refl _)
  | used s =>
    obtain ⟨x0, y0, T, r0, r1⟩ := rep_two R
    cases rep_str r0
    cases rep_str r1
    refine ⟨_, T, _, at0, rfl, ?_⟩
    rw [if_neg (by decide)]
    refine ⟨_, G.look, _, e2, _, rfl, ?_⟩
    by_cases hx : 1 ≤ x
    · rw [if_pos hx]
      have e9 : showsB lk (.used s) k x = decide (V.str (txt k.2) = V.str (txt s)) := by
        show (decide (x ≠ 0) && decide (k.2 = s)) = _
        rw [decide_eq_true (show x ≠ 0 by omega), Bool.true_and]
        exact decide_eq_decide.mpr txtV.symm
      refine ⟨_, L, .ref p', akx, _, T, _, at0, rfl, _, rfl, _, hp', .str (txt k.2), by rw [if_pos (by decide)]; exact at1, _, T, _, at1, rfl, ?_⟩
      rw [← e9]
      exact q _ (Same.refl _)
    · rw [if_neg hx]
      have e9 : showsB lk (.used s) k x = false := by
        show (decide (x ≠ 0) && decide (k.2 = s)) = _
        rw [decide_eq_false (show ¬ (x ≠ 0) by omega), Bool.false_and]
      rw [← e9]
      exact q _ (Same.refl _)
  | chief s =>
    obtain ⟨x0, y0, T, r0, r1⟩ := rep_two R
    cases rep_str r0
    cases rep_str r1
    refine ⟨_, T, _, at0, rfl, ?_⟩
    rw [if_pos (by decide)]
    refine ⟨lk, .inr G.look, by have := G.len; have := G.pos; omega, fun mx hm htop => ?_⟩
    refine ⟨_, G.look, _, e2, _, rfl, ?_⟩
    by_cases hx : mx ≤ x
    · rw [if_pos hx]
      have e9 : showsB lk (.chief s) k x = decide (V.str (txt k.1) = V.str (txt s)) := by
        show (decide (∀ y ∈ lk, y ≤ x) && decide (k.1 = s)) = _
        rw [decide_eq_true (show ∀ y ∈ lk, y ≤ x from fun y hy => Int.le_trans (htop y hy) hx), Bool.true_and]
        exact decide_eq_decide.mpr txtV.symm
      refine ⟨_, L, .ref p', akx, _, T, _, at0, rfl, _, rfl, _, hp', .str (txt k.1), by rw [if_neg (by decide)]; exact at0, _, T, _, at1, rfl, ?_⟩
      rw [← e9]
      exact q _ (Same.refl _)
    · rw [if_neg hx]
      have e9 : showsB lk (.chief s) k x = false := by
        show (decide (∀ y ∈ lk, y ≤ x) && decide (k.1 = s)) = _
        rw [decide_eq_false (show ¬ ∀ y ∈ lk, y ≤ x from fun h => hx (h mx hm)), Bool.false_and]
      rw [← e9]
      exact q _ (Same.refl _)
  | over a b => exact on.elim
  | both a b => exact on.elim
  | either a b => exact on.elim
  | but a b => exact on.elim
theorem ok_law_plain_claims (F : Fun K "_law_plain_claims" "_law_plain_claims" s_law_plain_claims f fd) (M : Mg mg) (C_law_weighs : Cal P w K mg base CX0 "_law_weighs" 1 ["_law_kinds_here", "_law_look_here", "_law_kind"] (spNumIn K)) (C_law_shows : Cal P w K mg base CX0 "_law_shows" 1 ["_law_told", "_law_kinds_here", "_law_look_here", "_law_k"] (spShows K)) : FnOk P w K mg base CX0 2 f fd ["_law_told", "_law_kinds_here", "_law_look_here"] (spPlainC K) := by
  refine F.ok sc_law_plain_claims (fun vs H Q E h => ?_) (fun cdv A outer s H vs Q E hr h => ?_)
  · obtain ⟨t, kl, lt, n, ks, lk, rfl, _⟩ := h
    rfl
  obtain ⟨t, kl, lt, n, ks, lk, rfl, R, ok, dp, G, q⟩ := h
  obtain ⟨kx, L, A⟩ := G.kx
  have lx := A.length
  have l4 := G.le
  refine ⟨_, (@pss_cons _ _ _ _ _ (@ps_if _ _ _ _ _ _ _ _ (@pt_cmpR _ _ _ _ _ _ _ _ (@op_eq _) (@pe_ix _ _ _ _ _ _ _ (@ix_tup _) (@pe_var _ 0 _ _ rfl v_law_plain_claims_0 dn__law_told dc__law_told) (@pe_int _ _ _ _) (fun _ _ => rfl)) (@pe_str _ _ _ _) (nomark _)) (@pss_one _ _ _ (@ps_ret _ _ _ _ (@pe_bl _ _ _ _))) (@pss_nil _)) (@pss_cons _ _ _ _ _ (@ps_if _ _ _ _ _ _ _ _ (@pt_cmpR _ _ _ _ _ _ _ _ (@op_eq _) (@pe_ix _ _ _ _ _ _ _ (@ix_tup _) (@pe_var _ 0 _ _ rfl v_law_plain_claims_0 dn__law_told dc__law_told) (@pe_int _ _ _ _) (fun _ _ => rfl)) (@pe_str _ _ _ _) (nomark _)) (@pss_one _ _ _ (@ps_ret _ _ _ _ (@pe_cmpR _ _ _ _ _ _ _ _ (@op_gt _) (@pe_callC _ _ _ _ _ _ _ _ _ _ _ C_law_weighs hr g_law_plain_claims__law_weighs (@pa_cons _ _ _ _ _ (@pe_var _ 1 _ _ rfl v_law_plain_claims_1 dn__law_kinds_here dc__law_kinds_here) (@pa_cons _ _ _ _ _ (@pe_var _ 2 _ _ rfl v_law_plain_claims_2 dn__law_look_here dc__law_look_here) (@pa_cons _ _ _ _ _ (@pe_ix _ _ _ _ _ _ _ (@ix_tup _) (@pe_var _ 0 _ _ rfl v_law_plain_claims_0 dn__law_told dc__law_told) (@pe_int _ _ _ _) (fun _ _ => rfl)) (@pa_nil _) (star1 rfl)) (star1 rfl)) (star1 rfl)) (by decide) dn__law_weighs (star1 rfl) (nost1 rfl (nost1 rfl nost0))) (@pe_callC _ _ _ _ _ _ _ _ _ _ _ C_law_weighs hr g_law_plain_claims__law_weighs (@pa_cons _ _ _ _ _ (@pe_var _ 1 _ _ rfl v_law_plain_claims_1 dn__law_kinds_here dc__law_kinds_here) (@pa_cons _ _ _ _ _ (@pe_var _ 2 _ _ rfl v_law_plain_claims_2 dn__law_look_here dc__law_look_here) (@pa_cons _ _ _ _ _ (@pe_ix _ _ _ _ _ _ _ (@ix_tup _) (@pe_var _ 0 _ _ rfl v_law_plain_claims_0 dn__law_told dc__law_told) (@pe_int _ _ _ _) (fun _ _ => rfl)) (@pa_nil _) (star1 rfl)) (star1 rfl)) (star1 rfl)) (by decide) dn__law_weighs (star1 rfl) (nost1 rfl (nost1 rfl nost0))) (nomark _)))) (@pss_nil _)) (@pss_one _ _ _ (@ps_ret _ _ _ _ (@pe_cmpR _ _ _ _ _ _ _ _ (@op_gt _) (@pe_callB _ _ _ _ _ _ _ _ _ call_len_seq g_law_plain_claims_len M.m_len b_len (@pa_cons _ _ _ _ _ (@pe_comp _ _ _ _ _ _ _ _ _ _ _ _ _ _ _ rfl (CompOk.make (N' := ["_law_told", "_law_kinds_here", "_law_look_here", "_law_k"]) (ix := [0, 1, 2]) (nl := 1) (by rfl) (fm1 rfl (fm1 rfl (fm1 rfl fm0))) (by rfl) (by decide +kernel) rfl (by decide +kernel) rfl (And.intro ⟨rfl, .inl rfl, .inl rfl⟩ (And.intro ⟨rfl, .inl rfl, .inl rfl⟩ (And.intro ⟨rfl, .inl rfl, .inl rfl⟩ True.intro)))) (@pi_range1 _ _ _ _ _ _ g_law_plain_claims_range M.m_range (@pa_cons _ _ _ _ _ (@pe_callB _ _ _ _ _ _ _ _ _ call_len_seq g_law_plain_claims_len M.m_len b_len (@pa_cons _ _ _ _ _ (@pe_var _ 1 _ _ rfl v_law_plain_claims_1 dn__law_kinds_here dc__law_kinds_here) (@pa_nil _) (star1 rfl)) nn_len dn_len (star1 rfl) nost0) (@pa_nil _) (star1 rfl)) (star1' rfl)) (fun _ _ _ _ _ => (@pg_name _ _ 3 _ (show List.Nodup (["_law_told", "_law_kinds_here", "_law_look_here", "_law_k"] : List Str) from by decide) rfl (Or.inl rfl) (by first | exact .inl rfl | exact .inr rfl | assumption))) (fun _ _ _ _ _ => (@pif_one _ _ _ (@pt_val _ _ _ (@pe_callC _ _ _ _ _ _ _ _ _ _ _ C_law_shows hr rfl (@pa_cons _ _ _ _ _ (@pv _ 0 _ _ (by rfl) (by first | exact Or.inl rfl | exact Or.inr (Or.inl rfl) | exact Or.inr (Or.inr rfl)) (by decide) (by decide)) (@pa_cons _ _ _ _ _ (@pv _ 1 _ _ (by rfl) (by first | exact Or.inl rfl | exact Or.inr (Or.inl rfl) | exact Or.inr (Or.inr rfl)) (by decide) (by decide)) (@pa_cons _ _ _ _ _ (@pv _ 2 _ _ (by rfl) (by first | exact Or.inl rfl | exact Or.inr (Or.inl rfl) | exact Or.inr (Or.inr rfl)) (by decide) (by decide)) (@pa_cons _ _ _ _ _ (@pv _ 3 _ _ (by rfl) (by first | exact Or.inl rfl | exact Or.inr (Or.inl rfl) | exact Or.inr (Or.inr rfl)) (by decide) (by decide)) (@pa_nil _) (star1 rfl)) (star1 rfl)) (star1 rfl)) (star1 rfl)) (by decide) dn__law_shows (star1 rfl) (nost1 rfl (nost1 rfl (nost1 rfl nost0)))) (test1 rfl)))) (fun _ _ _ _ _ => (@pv _ 3 _ _ (by rfl) (by first | exact Or.inl rfl | exact Or.inr (Or.inl rfl) | exact Or.inr (Or.inr rfl)) (by decide) (by decide))) (by intro _; rfl)) (@pa_nil _) (star1 rfl)) nn_len dn_len (star1 rfl) nost0) (@pe_int _ _ _ _) (nomark _)))))), ?_⟩
  simp only [tComp_eq, tComp1, slots, Option.getD_some, Option.getD_none, tSeq, gName, tOp, tC, tVar, tCB, tCons, tNil, tCall, rI0, tRet, tIfS, tTest, tB, tNext, rEq, rIxT, Kd_non, Kd_bl, Kd_int, Kd_str, sc_non_non, sc_non_int, sc_int_non, sc_non_bl, sc_bl_non, sc_non_str, sc_str_non, sc_int_int, sc_bl_bl, sc_str_str, sc_int_str, sc_str_int, sc_bl_str, sc_str_bl, decide_true, decide_false, iRng1, L2.start, cxK, Int.reduceToNat, List.map_cons, List.map_nil, List.length_cons, List.length_nil, Nat.reduceAdd, Nat.reduceSub, Nat.zero_add, List.replicate_succ, List.replicate_zero, List.cons_append, List.nil_append, List.append_nil, List.getElem?_cons_zero, List.getElem?_cons_succ, List.set_cons_zero, List.set_cons_succ, Option.some.injEq, V.int.injEq, V.bl.injEq, V.ref.injEq, V.str.injEq, V.ty.injEq, List.cons.injEq, exists_eq_left', exists_eq_left, exists_eq_right, exists_and_left, exists_and_right, and_true, true_and, and_assoc, exists_const, decide_eq_true_eq, Bool.not_eq_true', Bool.not_true, Bool.not_false, Bool.not_not, decide_eq_false_iff_not, ite_not, Bool.false_eq_true, if_true, if_false, reduceCtorEq, and_false, false_and, exists_false, or_false, false_or, ↓reduceIte, eq_self, reduceIte]
  have fin : oneName n → claimsB ks lk n = anyAt ks lk (showsB lk n) → ∃ x, (SqL K H kl x ∨ SqT K H kl x) ∧ -2 ^ 62 ≤ ((x.length : Nat) : Int) ∧ ((x.length : Nat) : Int) < 2 ^ 62 ∧ ∀ D, H D = none → CompS D (Itr 0 ((x.length : Nat) : Int).toNat) (gName 3) (tB (tCall (spShows K) [] E0 (tCons (tVar 0) (tCons (tVar 1) (tCons (tVar 2) (tCons (tVar 3) tNil)))))) (tVar 3)
      (fun x H1 => ∃ p, x = V.ref p ∧ ∃ x, (SqL K H1 p x ∨ SqT K H1 p x) ∧ Q (V.bl (decide (0 < ((x.length : Nat) : Int)))) H1) [some (V.ref t), some (V.ref kl), some (V.ref lt), none] (upd H D (HO.lst [])) := by
    intro on ec
    refine ⟨kx, .inl L, by omega, by omega, fun D hD => ?_⟩
    obtain ⟨Pc, hC⟩ : ∃ Pc : Nat → St → Hp → Prop, Pc = fun i τ H' => ∃ (z : Option V) (xs : List V), H' D = some (.lst xs) ∧ xs.length ≤ i ∧ xs.isEmpty = !(anyTo ks lk (showsB lk n) i) ∧ Same H H' ∧ τ = [some (V.ref t), some (V.ref kl), some (V.ref lt), z] := ⟨_, rfl⟩
    refine compS_range Pc ?_ ?_ ?_
    · rw [hC]
      exact ⟨_, [], upd_same, Nat.le_refl _, rfl, same_new hD _, rfl⟩
    · intro i τ H' R' hi h next
      rw [hC] at h
      obtain ⟨z, xs, d1, d2, d3, d4, rfl⟩ := h
      have hik : i < ks.length := by omega
      have ek : ks[i]? = some ks[i] := List.getElem?_eq_getElem hik
      obtain ⟨x, e1, e2, mm, nn⟩ := G.at ek
      have stp := anyTo_succ (p := showsB lk n) ek e1
      simp only [tComp_eq, tComp1, slots, Option.getD_some, Option.getD_none, tSeq, gName, tOp, tC, tVar, tCB, tCons, tNil, tCall, rI0, tRet, tIfS, tTest, tB, tNext, rEq, rIxT, Kd_non, Kd_bl, Kd_int, Kd_str, sc_non_non, sc_non_int, sc_int_non, sc_non_bl, sc_bl_non, sc_non_str, sc_str_non, sc_int_int, sc_bl_bl, sc_str_str, sc_int_str, sc_str_int, sc_bl_str, sc_str_bl, decide_true, decide_false, iRng1, L2.start, cxK, Int.reduceToNat, List.map_cons, List.map_nil, List.length_cons, List.length_nil, Nat.reduceAdd, Nat.reduceSub, Nat.zero_add, List.replicate_succ, List.replicate_zero, List.cons_append, List.nil_append, List.append_nil, List.getElem?_cons_zero, List.getElem?_cons_succ, List.set_cons_zero, List.set_cons_succ, Option.some.injEq, V.int.injEq, V.bl.injEq, V.ref.injEq, V.str.injEq, V.ty.injEq, List.cons.injEq, exists_eq_left', exists_eq_left, exists_eq_right, exists_and_left, exists_and_right, and_true, true_and, and_assoc, exists_const, decide_eq_true_eq, Bool.not_eq_true', Bool.not_true, Bool.not_false, Bool.not_not, decide_eq_false_iff_not, ite_not, Bool.false_eq_true, if_true, if_false, reduceCtorEq, and_false, false_and, exists_false, or_false, false_or, ↓reduceIte, eq_self, reduceIte]
      refine ⟨t, kl, lt, i, n, ks, lk, ks[i], x, by rw [Int.zero_add], R.same d4, on, G.same d4, ek, e1, fun H2 S2 => ?_⟩
      have nx : ∀ (xs' : List V) (H3 : Hp), H3 D = some (.lst xs') → xs'.length ≤ i + 1 → xs'.isEmpty = !(anyTo ks lk (showsB lk n) (i + 1)) → Same H H3 → R' [some (V.ref t), some (V.ref kl), some (V.ref lt), some (.int (0 + (i : Int)))] H3 := fun xs' H3 a1 a2 a3 a4 => next _ _ (by rw [hC]; exact ⟨_, _, a1, a2, a3, a4, rfl⟩)
      simp only [tComp_eq, tComp1, slots, Option.getD_some, Option.getD_none, tSeq, gName, tOp, tC, tVar, tCB, tCons, tNil, tCall, rI0, tRet, tIfS, tTest, tB, tNext, rEq, rIxT, Kd_non, Kd_bl, Kd_int, Kd_str, sc_non_non, sc_non_int, sc_int_non, sc_non_bl, sc_bl_non, sc_non_str, sc_str_non, sc_int_int, sc_bl_bl, sc_str_str, sc_int_str, sc_str_int, sc_bl_str, sc_str_bl, decide_true, decide_false, iRng1, L2.start, cxK, Int.reduceToNat, List.map_cons, List.map_nil, List.length_cons, List.length_nil, Nat.reduceAdd, Nat.reduceSub, Nat.zero_add, List.replicate_succ, List.replicate_zero, List.cons_append, List.nil_append, List.append_nil, List.getElem?_cons_zero, List.getElem?_cons_succ, List.set_cons_zero, List.set_cons_succ, Option.some.injEq, V.int.injEq, V.bl.injEq, V.ref.injEq, V.str.injEq, V.ty.injEq, List.cons.injEq, exists_eq_left', exists_eq_left, exists_eq_right, exists_and_left, exists_and_right, and_true, true_and, and_assoc, exists_const, decide_eq_true_eq, Bool.not_eq_true', Bool.not_true, Bool.not_false, Bool.not_not, decide_eq_false_iff_not, ite_not, Bool.false_eq_true, if_true, if_false, reduceCtorEq, and_false, false_and, exists_false, or_false, false_or, ↓reduceIte, eq_self, reduceIte]
      have d1' := S2 _ _ d1
      have d4' := d4.trans S2
      by_cases hs : showsB lk n ks[i] x = true
      · rw [if_pos hs]
        exact ⟨_, d1', Nat.lt_of_le_of_lt d2 (Nat.lt_of_lt_of_le (m := 64) (by omega) (by decide)), nx _ _ upd_same (by rw [List.length_append]; simp; omega) (by rw [stp, hs]; simp) (same_upd d4' hD _)⟩
      · rw [if_neg hs]
        exact nx _ _ d1' (by omega) (by rw [stp, d3]; simp [hs]) d4'
    · intro τ H' h
      rw [hC] at h
      obtain ⟨z, xs, d1, d2, d3, d4, rfl⟩ := h
      refine ⟨_, rfl, xs, .inl (SqL.of d1), ?_⟩
      have en : anyTo ks lk (showsB lk n) ((kx.length : Nat) : Int).toNat = claimsB ks lk n := by rw [ec, ← anyTo_end G.len, show ((kx.length : Nat) : Int).toNat = ks.length by omega]
      rw [en] at d3
      have e9 : decide (0 < ((xs.length : Nat) : Int)) = claimsB ks lk n := by
        cases xs with
        | nil => simp at d3; rw [d3]; rfl
        | cons a b => simp at d3; rw [d3]; simp
      rw [e9]
      exact q _ d4
  cases n with
  | any =>
    obtain ⟨x0, T, r0⟩ := rep_one R
    cases rep_str r0
    refine ⟨_, T, _, at0, rfl, ?_⟩
    rw [if_pos (by decide)]
    exact q _ (Same.refl _)
  | made s =>
    obtain ⟨x0, y0, T, r0, r1⟩ := rep_two R
    cases rep_str r0
    cases rep_str r1
    refine ⟨_, T, _, at0, rfl, ?_⟩
    rw [if_neg (by decide)]
    refine ⟨_, T, _, at0, rfl, ?_⟩
    rw [if_neg (by decide)]
    exact fin trivial rfl
  | used s =>
    obtain ⟨x0, y0, T, r0, r1⟩ := rep_two R
    cases rep_str r0
    cases rep_str r1
    refine ⟨_, T, _, at0, rfl, ?_⟩
    rw [if_neg (by decide)]
    refine ⟨_, T, _, at0, rfl, ?_⟩
    rw [if_neg (by decide)]
    exact fin trivial rfl
  | chief s =>
    obtain ⟨x0, y0, T, r0, r1⟩ := rep_two R
    cases rep_str r0
    cases rep_str r1
    refine ⟨_, T, _, at0, rfl, ?_⟩
    rw [if_neg (by decide)]
    refine ⟨_, T, _, at0, rfl, ?_⟩
    rw [if_neg (by decide)]
    exact fin trivial rfl
  | over a b =>
    obtain ⟨x0, y0, z0, T, r0, r1, r2⟩ := rep_three R
    cases rep_str r0
    obtain ⟨p1, rfl, T1⟩ := kind_inv r1
    obtain ⟨p2, rfl, T2⟩ := kind_inv r2
    refine ⟨_, T, _, at0, rfl, ?_⟩
    rw [if_neg (by decide)]
    refine ⟨_, T, _, at0, rfl, ?_⟩
    rw [if_pos (by decide)]
    refine ⟨_, T, _, at1, _, _, _, ks, lk, a, rfl, G, T1, ok.1, fun H1 S1 => ?_⟩
    refine ⟨_, Same.tup S1 T, _, at2, _, _, _, ks, lk, b, rfl, G.same S1, Same.tup S1 T2, ok.2, fun H2 S2 => ?_⟩
    exact ⟨_, rfl, _, rfl, q _ (S1.trans S2)⟩
  | both a b =>
    have h1 := Nt.dp_pos a
    have h2 : max a.dp b.dp + 1 = 1 := dp
    omega
  | either a b =>
    have h1 := Nt.dp_pos a
    have h2 : max a.dp b.dp + 1 = 1 := dp
    omega
  | but a b =>
    have h1 := Nt.dp_pos a
    have h2 : max a.dp b.dp + 1 = 1 := dp
    omega
end

def spLClaims (K : PySem.W.Frag) (d : Nat) : Sp := fun vs H Q _ => ∃ (t kl lt : Addr) (n : Nt) (ks : List Kd2) (lk : List Int), vs = [.ref t, .ref kl, .ref lt] ∧ ToldAt K H (.ref t) n ∧ n.ok ∧ n.dp ≤ d ∧ Ground K H kl lt ks lk ∧ ∀ H', Same H H' → Q (.bl (claimsB ks lk n)) H'
def spLMade (K : PySem.W.Frag) (cs : NC) (d : Nat) : Sp := fun vs H Q _ => ∃ (t : Addr) (n : Nt), vs = [.ref t] ∧ ToldAt K H (.ref t) n ∧ n.ok ∧ n.dp ≤ d ∧ n.dp ≤ 5 ∧ ∀ a H', Same H H' → ObjN K cs H' a n → Q (.ref a) H'
def spGood (K : PySem.W.Frag) (cs : NC) : Sp := fun vs H Q _ => ∃ (a t kl lt : Addr) (n : Nt) (ks : List Kd2) (lk : List Int), vs = [.ref a, .ref t, .ref kl, .ref lt] ∧ ObjN K cs H a n ∧ ToldAt K H (.ref t) n ∧ n.ok ∧ n.dp ≤ 5 ∧ Ground K H kl lt ks lk ∧ ∀ H', Same H H' → Q (.bl true) H'
def DClaimsN (K : PySem.W.Frag) (cs : NC) (C : Addr) (sp : Sp) : Prop := ∃ j, j < 8 ∧ C = ncCls cs j ∧ sp = spClaims K cs
theorem cls_byN {K : PySem.W.Frag} {cs : NC} {H : Hp} {a : Addr} {n : Nt} (O : ObjN K cs H a n) : ∃ C dx fs, H a = some (.ins C dx fs) ∧ fs.lookup ("claims" : Str) = none ∧ DClaimsN K cs C (spClaims K cs) := by
  cases n with
  | any => obtain ⟨dx, h⟩ := O; exact ⟨_, _, _, h, rfl, 0, by decide, rfl, rfl⟩
  | made s => obtain ⟨dx, h⟩ := O; exact ⟨_, _, _, h, rfl, 1, by decide, rfl, rfl⟩
  | used s => obtain ⟨dx, h⟩ := O; exact ⟨_, _, _, h, rfl, 2, by decide, rfl, rfl⟩
  | chief s => obtain ⟨dx, h⟩ := O; exact ⟨_, _, _, h, rfl, 3, by decide, rfl, rfl⟩
  | over k1 k2 => obtain ⟨dx, _, _, h, _⟩ := O; exact ⟨_, _, _, h, rfl, 4, by decide, rfl, rfl⟩
  | both x y => obtain ⟨dx, _, _, h, _⟩ := O; exact ⟨_, _, _, h, rfl, 5, by decide, rfl, rfl⟩
  | either x y => obtain ⟨dx, _, _, h, _⟩ := O; exact ⟨_, _, _, h, rfl, 6, by decide, rfl, rfl⟩
  | but x y => obtain ⟨dx, _, _, h, _⟩ := O; exact ⟨_, _, _, h, rfl, 7, by decide, rfl, rfl⟩
section
variable {P : Program} {w : World} {K : PySem.W.Frag} {mg : Str → Option Value} {base : Heap} {f : Addr} {fd : FuncData} {cs : NC}
theorem step_claims {d : Nat} (F : Fun K "_law_claims" "_law_claims" s_law_claims f fd) (M : Mg mg) (C_law_plain_claims : Cal P w K mg base CX0 "_law_plain_claims" 2 ["_law_told", "_law_kinds_here", "_law_look_here"] (spPlainC K)) (C_law_claims : Cal P w K mg base CX0 "_law_claims" (3 + d) ["_law_told", "_law_kinds_here", "_law_look_here"] (spLClaims K d)) : FnOk P w K mg base CX0 (3 + d + 1) f fd ["_law_told", "_law_kinds_here", "_law_look_here"] (spLClaims K (d + 1)) := by
  refine F.ok sc_law_claims (fun vs H Q E h => ?_) (fun cdv A outer s H vs Q E hr h => ?_)
  · obtain ⟨t, kl, lt, n, ks, lk, rfl, _⟩ := h
    rfl
  obtain ⟨t, kl, lt, n, ks, lk, rfl, R, ok, dp, G, q⟩ := h
  refine ⟨_, (@pss_cons _ _ _ _ _ (@ps_if _ _ _ _ _ _ _ _ (@pt_cmpR _ _ _ _ _ _ _ _ (@op_eq _) (@pe_ix _ _ _ _ _ _ _ (@ix_tup _) (@pe_var _ 0 _ _ rfl v_law_claims_0 dn__law_told dc__law_told) (@pe_int _ _ _ _) (fun _ _ => rfl)) (@pe_str _ _ _ _) (nomark _)) (@pss_one _ _ _ (@ps_ret _ _ _ _ (@pe_and _ _ _ _ _ _ _ (@pe_callC _ _ _ _ _ _ _ _ _ _ _ C_law_claims hr g_law_claims__law_claims (@pa_cons _ _ _ _ _ (@pe_ix _ _ _ _ _ _ _ (@ix_tup _) (@pe_var _ 0 _ _ rfl v_law_claims_0 dn__law_told dc__law_told) (@pe_int _ _ _ _) (fun _ _ => rfl)) (@pa_cons _ _ _ _ _ (@pe_var _ 1 _ _ rfl v_law_claims_1 dn__law_kinds_here dc__law_kinds_here) (@pa_cons _ _ _ _ _ (@pe_var _ 2 _ _ rfl v_law_claims_2 dn__law_look_here dc__law_look_here) (@pa_nil _) (star1 rfl)) (star1 rfl)) (star1 rfl)) (by omega) dn__law_claims (star1 rfl) (nost1 rfl (nost1 rfl nost0))) (@pe_one _ _ _ _ _ (@pe_callC _ _ _ _ _ _ _ _ _ _ _ C_law_claims hr g_law_claims__law_claims (@pa_cons _ _ _ _ _ (@pe_ix _ _ _ _ _ _ _ (@ix_tup _) (@pe_var _ 0 _ _ rfl v_law_claims_0 dn__law_told dc__law_told) (@pe_int _ _ _ _) (fun _ _ => rfl)) (@pa_cons _ _ _ _ _ (@pe_var _ 1 _ _ rfl v_law_claims_1 dn__law_kinds_here dc__law_kinds_here) (@pa_cons _ _ _ _ _ (@pe_var _ 2 _ _ rfl v_law_claims_2 dn__law_look_here dc__law_look_here) (@pa_nil _) (star1 rfl)) (star1 rfl)) (star1 rfl)) (by omega) dn__law_claims (star1 rfl) (nost1 rfl (nost1 rfl nost0))))))) (@pss_nil _)) (@pss_cons _ _ _ _ _ (@ps_if _ _ _ _ _ _ _ _ (@pt_cmpR _ _ _ _ _ _ _ _ (@op_eq _) (@pe_ix _ _ _ _ _ _ _ (@ix_tup _) (@pe_var _ 0 _ _ rfl v_law_claims_0 dn__law_told dc__law_told) (@pe_int _ _ _ _) (fun _ _ => rfl)) (@pe_str _ _ _ _) (nomark _)) (@pss_one _ _ _ (@ps_ret _ _ _ _ (@pe_or _ _ _ _ _ _ _ (@pe_callC _ _ _ _ _ _ _ _ _ _ _ C_law_claims hr g_law_claims__law_claims (@pa_cons _ _ _ _ _ (@pe_ix _ _ _ _ _ _ _ (@ix_tup _) (@pe_var _ 0 _ _ rfl v_law_claims_0 dn__law_told dc__law_told) (@pe_int _ _ _ _) (fun _ _ => rfl)) (@pa_cons _ _ _ _ _ (@pe_var _ 1 _ _ rfl v_law_claims_1 dn__law_kinds_here dc__law_kinds_here) (@pa_cons _ _ _ _ _ (@pe_var _ 2 _ _ rfl v_law_claims_2 dn__law_look_here dc__law_look_here) (@pa_nil _) (star1 rfl)) (star1 rfl)) (star1 rfl)) (by omega) dn__law_claims (star1 rfl) (nost1 rfl (nost1 rfl nost0))) (@pe_one _ _ _ _ _ (@pe_callC _ _ _ _ _ _ _ _ _ _ _ C_law_claims hr g_law_claims__law_claims (@pa_cons _ _ _ _ _ (@pe_ix _ _ _ _ _ _ _ (@ix_tup _) (@pe_var _ 0 _ _ rfl v_law_claims_0 dn__law_told dc__law_told) (@pe_int _ _ _ _) (fun _ _ => rfl)) (@pa_cons _ _ _ _ _ (@pe_var _ 1 _ _ rfl v_law_claims_1 dn__law_kinds_here dc__law_kinds_here) (@pa_cons _ _ _ _ _ (@pe_var _ 2 _ _ rfl v_law_claims_2 dn__law_look_here dc__law_look_here) (@pa_nil _) (star1 rfl)) (star1 rfl)) (star1 rfl)) (by omega) dn__law_claims (star1 rfl) (nost1 rfl (nost1 rfl nost0))))))) (@pss_nil _)) (@pss_cons _ _ _ _ _ (@ps_if _ _ _ _ _ _ _ _ (@pt_cmpR _ _ _ _ _ _ _ _ (@op_eq _) (@pe_ix _ _ _ _ _ _ _ (@ix_tup _) (@pe_var _ 0 _ _ rfl v_law_claims_0 dn__law_told dc__law_told) (@pe_int _ _ _ _) (fun _ _ => rfl)) (@pe_str _ _ _ _) (nomark _)) (@pss_one _ _ _ (@ps_ret _ _ _ _ (@pe_and _ _ _ _ _ _ _ (@pe_callC _ _ _ _ _ _ _ _ _ _ _ C_law_claims hr g_law_claims__law_claims (@pa_cons _ _ _ _ _ (@pe_ix _ _ _ _ _ _ _ (@ix_tup _) (@pe_var _ 0 _ _ rfl v_law_claims_0 dn__law_told dc__law_told) (@pe_int _ _ _ _) (fun _ _ => rfl)) (@pa_cons _ _ _ _ _ (@pe_var _ 1 _ _ rfl v_law_claims_1 dn__law_kinds_here dc__law_kinds_here) (@pa_cons _ _ _ _ _ (@pe_var _ 2 _ _ rfl v_law_claims_2 dn__law_look_here dc__law_look_here) (@pa_nil _) (star1 rfl)) (star1 rfl)) (star1 rfl)) (by omega) dn__law_claims (star1 rfl) (nost1 rfl (nost1 rfl nost0))) (@pe_one _ _ _ _ _ (@pe_not _ _ _ _ (@pe_callC _ _ _ _ _ _ _ _ _ _ _ C_law_claims hr g_law_claims__law_claims (@pa_cons _ _ _ _ _ (@pe_ix _ _ _ _ _ _ _ (@ix_tup _) (@pe_var _ 0 _ _ rfl v_law_claims_0 dn__law_told dc__law_told) (@pe_int _ _ _ _) (fun _ _ => rfl)) (@pa_cons _ _ _ _ _ (@pe_var _ 1 _ _ rfl v_law_claims_1 dn__law_kinds_here dc__law_kinds_here) (@pa_cons _ _ _ _ _ (@pe_var _ 2 _ _ rfl v_law_claims_2 dn__law_look_here dc__law_look_here) (@pa_nil _) (star1 rfl)) (star1 rfl)) (star1 rfl)) (by omega) dn__law_claims (star1 rfl) (nost1 rfl (nost1 rfl nost0)))))))) (@pss_nil _)) (@pss_one _ _ _ (@ps_ret _ _ _ _ (@pe_callC _ _ _ _ _ _ _ _ _ _ _ C_law_plain_claims hr g_law_claims__law_plain_claims (@pa_cons _ _ _ _ _ (@pe_var _ 0 _ _ rfl v_law_claims_0 dn__law_told dc__law_told) (@pa_cons _ _ _ _ _ (@pe_var _ 1 _ _ rfl v_law_claims_1 dn__law_kinds_here dc__law_kinds_here) (@pa_cons _ _ _ _ _ (@pe_var _ 2 _ _ rfl v_law_claims_2 dn__law_look_here dc__law_look_here) (@pa_nil _) (star1 rfl)) (star1 rfl)) (star1 rfl)) (by omega) dn__law_plain_claims (star1 rfl) (nost1 rfl (nost1 rfl nost0)))))))), ?_⟩
  simp only [slots, Option.getD_some, Option.getD_none, tSeq, tOp, tC, tVar, tCons, tNil, tCall, tRet, tIfS, tTest, tAndV, tOrV, tNotV, tNext, rEq, rIxT, Kd_non, Kd_bl, Kd_int, Kd_str, sc_non_non, sc_non_int, sc_int_non, sc_non_bl, sc_bl_non, sc_non_str, sc_str_non, sc_int_int, sc_bl_bl, sc_str_str, sc_int_str, sc_str_int, sc_bl_str, sc_str_bl, decide_true, decide_false, L2.start, cxK, Int.reduceToNat, List.map_cons, List.map_nil, List.length_cons, List.length_nil, Nat.reduceAdd, Nat.reduceSub, Nat.zero_add, List.replicate_succ, List.replicate_zero, List.cons_append, List.nil_append, List.append_nil, List.getElem?_cons_zero, List.getElem?_cons_succ, List.set_cons_zero, List.set_cons_succ, Option.some.injEq, V.int.injEq, V.bl.injEq, V.ref.injEq, V.str.injEq, V.ty.injEq, List.cons.injEq, exists_eq_left', exists_eq_left, exists_eq_right, exists_and_left, exists_and_right, and_true, true_and, and_assoc, exists_const, decide_eq_true_eq, Bool.not_eq_true', Bool.not_true, Bool.not_false, Bool.not_not, decide_eq_false_iff_not, ite_not, Bool.false_eq_true, if_true, if_false, reduceCtorEq, and_false, false_and, exists_false, or_false, false_or, ↓reduceIte, eq_self, reduceIte]
  cases n with
  | any =>
    obtain ⟨x0, T, r0⟩ := rep_one R
    cases rep_str r0
    refine ⟨_, T, _, at0, rfl, ?_⟩
    rw [if_neg (by decide)]
    refine ⟨_, T, _, at0, rfl, ?_⟩
    rw [if_neg (by decide)]
    refine ⟨_, T, _, at0, rfl, ?_⟩
    rw [if_neg (by decide)]
    exact ⟨t, kl, lt, _, ks, lk, rfl, R, ok, rfl, G, q⟩
  | made s =>
    obtain ⟨x0, y0, T, r0, r1⟩ := rep_two R
    cases rep_str r0
    cases rep_str r1
    refine ⟨_, T, _, at0, rfl, ?_⟩
    rw [if_neg (by decide)]
    refine ⟨_, T, _, at0, rfl, ?_⟩
    rw [if_neg (by decide)]
    refine ⟨_, T, _, at0, rfl, ?_⟩
    rw [if_neg (by decide)]
    exact ⟨t, kl, lt, _, ks, lk, rfl, R, ok, rfl, G, q⟩
  | used s =>
    obtain ⟨x0, y0, T, r0, r1⟩ := rep_two R
    cases rep_str r0
    cases rep_str r1
    refine ⟨_, T, _, at0, rfl, ?_⟩
    rw [if_neg (by decide)]
    refine ⟨_, T, _, at0, rfl, ?_⟩
    rw [if_neg (by decide)]
    refine ⟨_, T, _, at0, rfl, ?_⟩
    rw [if_neg (by decide)]
    exact ⟨t, kl, lt, _, ks, lk, rfl, R, ok, rfl, G, q⟩
  | chief s =>
    obtain ⟨x0, y0, T, r0, r1⟩ := rep_two R
    cases rep_str r0
    cases rep_str r1
    refine ⟨_, T, _, at0, rfl, ?_⟩
    rw [if_neg (by decide)]
    refine ⟨_, T, _, at0, rfl, ?_⟩
    rw [if_neg (by decide)]
    refine ⟨_, T, _, at0, rfl, ?_⟩
    rw [if_neg (by decide)]
    exact ⟨t, kl, lt, _, ks, lk, rfl, R, ok, rfl, G, q⟩
  | over a b =>
    obtain ⟨x0, y0, z0, T, r0, r1, r2⟩ := rep_three R
    cases rep_str r0
    refine ⟨_, T, _, at0, rfl, ?_⟩
    rw [if_neg (by decide)]
    refine ⟨_, T, _, at0, rfl, ?_⟩
    rw [if_neg (by decide)]
    refine ⟨_, T, _, at0, rfl, ?_⟩
    rw [if_neg (by decide)]
    exact ⟨t, kl, lt, _, ks, lk, rfl, R, ok, rfl, G, q⟩
  | both x y =>
    obtain ⟨x0, y0, z0, T, r0, r1, r2⟩ := rep_three R
    cases rep_str r0
    obtain ⟨t1, rfl⟩ := told_ref r1
    obtain ⟨t2, rfl⟩ := told_ref r2
    have dd : max x.dp y.dp + 1 ≤ d + 1 := dp
    refine ⟨_, T, _, at0, rfl, ?_⟩
    rw [if_pos (by decide)]
    refine ⟨_, T, _, at1, t1, kl, lt, x, ks, lk, rfl, r1, ok.1, (by omega), G, fun H1 S1 => ?_⟩
    refine ⟨_, rfl, ?_⟩
    by_cases hx : claimsB ks lk x = true
    · rw [if_pos hx]
      refine ⟨_, Same.tup S1 T, _, at2, t2, kl, lt, y, ks, lk, rfl, r2.same S1, ok.2, (by omega), G.same S1, fun H2 S2 => ?_⟩
      have e9 : claimsB ks lk (.both x y) = claimsB ks lk y := by simp [claimsB, hx]
      rw [← e9]
      exact q _ (S1.trans S2)
    · rw [if_neg hx]
      have e9 : claimsB ks lk (.both x y) = false := by simp [claimsB, hx]
      rw [← e9]
      exact q _ S1
  | either x y =>
    obtain ⟨x0, y0, z0, T, r0, r1, r2⟩ := rep_three R
    cases rep_str r0
    obtain ⟨t1, rfl⟩ := told_ref r1
    obtain ⟨t2, rfl⟩ := told_ref r2
    have dd : max x.dp y.dp + 1 ≤ d + 1 := dp
    refine ⟨_, T, _, at0, rfl, ?_⟩
    rw [if_neg (by decide)]
    refine ⟨_, T, _, at0, rfl, ?_⟩
    rw [if_pos (by decide)]
    refine ⟨_, T, _, at1, t1, kl, lt, x, ks, lk, rfl, r1, ok.1, (by omega), G, fun H1 S1 => ?_⟩
    refine ⟨_, rfl, ?_⟩
    by_cases hx : claimsB ks lk x = true
    · rw [if_pos hx]
      have e9 : claimsB ks lk (.either x y) = true := by simp [claimsB, hx]
      rw [← e9]
      exact q _ S1
    · rw [if_neg hx]
      refine ⟨_, Same.tup S1 T, _, at2, t2, kl, lt, y, ks, lk, rfl, r2.same S1, ok.2, (by omega), G.same S1, fun H2 S2 => ?_⟩
      have e9 : claimsB ks lk (.either x y) = claimsB ks lk y := by simp [claimsB, hx]
      rw [← e9]
      exact q _ (S1.trans S2)
  | but x y =>
    obtain ⟨x0, y0, z0, T, r0, r1, r2⟩ := rep_three R
    cases rep_str r0
    obtain ⟨t1, rfl⟩ := told_ref r1
    obtain ⟨t2, rfl⟩ := told_ref r2
    have dd : max x.dp y.dp + 1 ≤ d + 1 := dp
    refine ⟨_, T, _, at0, rfl, ?_⟩
    rw [if_neg (by decide)]
    refine ⟨_, T, _, at0, rfl, ?_⟩
    rw [if_neg (by decide)]
    refine ⟨_, T, _, at0, rfl, ?_⟩
    rw [if_pos (by decide)]
    refine ⟨_, T, _, at1, t1, kl, lt, x, ks, lk, rfl, r1, ok.1, (by omega), G, fun H1 S1 => ?_⟩
    refine ⟨_, rfl, ?_⟩
    by_cases hx : claimsB ks lk x = true
    · rw [if_pos hx]
      refine ⟨_, Same.tup S1 T, _, at2, t2, kl, lt, y, ks, lk, rfl, r2.same S1, ok.2, (by omega), G.same S1, fun H2 S2 => ?_⟩
      have e9 : claimsB ks lk (.but x y) = !claimsB ks lk y := by simp [claimsB, hx]
      refine ⟨_, rfl, ?_⟩
      rw [← e9]
      exact q _ (S1.trans S2)
    · rw [if_neg hx]
      have e9 : claimsB ks lk (.but x y) = false := by simp [claimsB, hx]
      rw [← e9]
      exact q _ S1
theorem ok_law_claims (F : Fun K "_law_claims" "_law_claims" s_law_claims f fd) (M : Mg mg) (C_law_plain_claims : Cal P w K mg base CX0 "_law_plain_claims" 2 ["_law_told", "_law_kinds_here", "_law_look_here"] (spPlainC K)) (b : Binds K fd ["_law_told", "_law_kinds_here", "_law_look_here"] []) (kp : PySem.W.keepIn K (.ref f) = true) (m : mg "_law_claims" = some (.ref f)) : ∀ d : Nat, FnOk P w K mg base CX0 (3 + d) f fd ["_law_told", "_law_kinds_here", "_law_look_here"] (spLClaims K d)
  | 0 => by
    refine F.ok sc_law_claims (fun vs H Q E h => ?_) (fun cdv A outer s H vs Q E hr h => ?_)
    · obtain ⟨t, kl, lt, n, ks, lk, rfl, _⟩ := h
      rfl
    obtain ⟨t, kl, lt, n, ks, lk, rfl, R, ok, dp, G, q⟩ := h
    have := Nt.dp_pos n
    omega
  | d + 1 => step_claims F M C_law_plain_claims ⟨⟨f, fd, ok_law_claims F M C_law_plain_claims b kp m d, b, kp, m⟩⟩
theorem step_made {d : Nat} (F : Fun K "_law_made" "_law_made" s_law_made f fd) (M : Mg mg) (C_note_of : Cal P w K mg base CX0 "note_of" 11 ["told"] (spNoteOf K cs)) (Z_Both : MkC P w K mg base "Both" cs.both 1 ["self", "one", "other"] (spInit2 K)) (Z_Either : MkC P w K mg base "Either" cs.either 1 ["self", "one", "other"] (spInit2 K)) (Z_But : MkC P w K mg base "But" cs.but 1 ["self", "one", "other"] (spInit2 K)) (t5 : TwoC K cs.both) (t6 : TwoC K cs.either) (t7 : TwoC K cs.but) (C_law_made : Cal P w K mg base CX0 "_law_made" (12 + d) ["_law_told"] (spLMade K cs d)) : FnOk P w K mg base CX0 (12 + d + 1) f fd ["_law_told"] (spLMade K cs (d + 1)) := by
  refine F.ok sc_law_made (fun vs H Q E h => ?_) (fun cdv A outer s H vs Q E hr h => ?_)
  · obtain ⟨t, n, rfl, _⟩ := h
    rfl
  obtain ⟨t, n, rfl, R, ok, dp, dp5, q⟩ := h
  refine ⟨_, (@pss_cons _ _ _ _ _ (@ps_if _ _ _ _ _ _ _ _ (@pt_cmpR _ _ _ _ _ _ _ _ (@op_eq _) (@pe_ix _ _ _ _ _ _ _ (@ix_tup _) (@pe_var _ 0 _ _ rfl v_law_made_0 dn__law_told dc__law_told) (@pe_int _ _ _ _) (fun _ _ => rfl)) (@pe_str _ _ _ _) (nomark _)) (@pss_one _ _ _ (@ps_ret _ _ _ _ (@pe_makeC _ _ _ _ _ _ _ _ _ _ _ _ Z_Both hr g_law_made_Both (@pa_cons _ _ _ _ _ (@pe_callC _ _ _ _ _ _ _ _ _ _ _ C_law_made hr g_law_made__law_made (@pa_cons _ _ _ _ _ (@pe_ix _ _ _ _ _ _ _ (@ix_tup _) (@pe_var _ 0 _ _ rfl v_law_made_0 dn__law_told dc__law_told) (@pe_int _ _ _ _) (fun _ _ => rfl)) (@pa_nil _) (star1 rfl)) (by omega) dn__law_made (star1 rfl) nost0) (@pa_cons _ _ _ _ _ (@pe_callC _ _ _ _ _ _ _ _ _ _ _ C_law_made hr g_law_made__law_made (@pa_cons _ _ _ _ _ (@pe_ix _ _ _ _ _ _ _ (@ix_tup _) (@pe_var _ 0 _ _ rfl v_law_made_0 dn__law_told dc__law_told) (@pe_int _ _ _ _) (fun _ _ => rfl)) (@pa_nil _) (star1 rfl)) (by omega) dn__law_made (star1 rfl) nost0) (@pa_nil _) (star1 rfl)) (star1 rfl)) (by omega) dn_Both (star1 rfl) (nost1 rfl nost0)))) (@pss_nil _)) (@pss_cons _ _ _ _ _ (@ps_if _ _ _ _ _ _ _ _ (@pt_cmpR _ _ _ _ _ _ _ _ (@op_eq _) (@pe_ix _ _ _ _ _ _ _ (@ix_tup _) (@pe_var _ 0 _ _ rfl v_law_made_0 dn__law_told dc__law_told) (@pe_int _ _ _ _) (fun _ _ => rfl)) (@pe_str _ _ _ _) (nomark _)) (@pss_one _ _ _ (@ps_ret _ _ _ _ (@pe_makeC _ _ _ _ _ _ _ _ _ _ _ _ Z_Either hr g_law_made_Either (@pa_cons _ _ _ _ _ (@pe_callC _ _ _ _ _ _ _ _ _ _ _ C_law_made hr g_law_made__law_made (@pa_cons _ _ _ _ _ (@pe_ix _ _ _ _ _ _ _ (@ix_tup _) (@pe_var _ 0 _ _ rfl v_law_made_0 dn__law_told dc__law_told) (@pe_int _ _ _ _) (fun _ _ => rfl)) (@pa_nil _) (star1 rfl)) (by omega) dn__law_made (star1 rfl) nost0) (@pa_cons _ _ _ _ _ (@pe_callC _ _ _ _ _ _ _ _ _ _ _ C_law_made hr g_law_made__law_made (@pa_cons _ _ _ _ _ (@pe_ix _ _ _ _ _ _ _ (@ix_tup _) (@pe_var _ 0 _ _ rfl v_law_made_0 dn__law_told dc__law_told) (@pe_int _ _ _ _) (fun _ _ => rfl)) (@pa_nil _) (star1 rfl)) (by omega) dn__law_made (star1 rfl) nost0) (@pa_nil _) (star1 rfl)) (star1 rfl)) (by omega) dn_Either (star1 rfl) (nost1 rfl nost0)))) (@pss_nil _)) (@pss_cons _ _ _ _ _ (@ps_if _ _ _ _ _ _ _ _ (@pt_cmpR _ _ _ _ _ _ _ _ (@op_eq _) (@pe_ix _ _ _ _ _ _ _ (@ix_tup _) (@pe_var _ 0 _ _ rfl v_law_made_0 dn__law_told dc__law_told) (@pe_int _ _ _ _) (fun _ _ => rfl)) (@pe_str _ _ _ _) (nomark _)) (@pss_one _ _ _ (@ps_ret _ _ _ _ (@pe_makeC _ _ _ _ _ _ _ _ _ _ _ _ Z_But hr g_law_made_But (@pa_cons _ _ _ _ _ (@pe_callC _ _ _ _ _ _ _ _ _ _ _ C_law_made hr g_law_made__law_made (@pa_cons _ _ _ _ _ (@pe_ix _ _ _ _ _ _ _ (@ix_tup _) (@pe_var _ 0 _ _ rfl v_law_made_0 dn__law_told dc__law_told) (@pe_int _ _ _ _) (fun _ _ => rfl)) (@pa_nil _) (star1 rfl)) (by omega) dn__law_made (star1 rfl) nost0) (@pa_cons _ _ _ _ _ (@pe_callC _ _ _ _ _ _ _ _ _ _ _ C_law_made hr g_law_made__law_made (@pa_cons _ _ _ _ _ (@pe_ix _ _ _ _ _ _ _ (@ix_tup _) (@pe_var _ 0 _ _ rfl v_law_made_0 dn__law_told dc__law_told) (@pe_int _ _ _ _) (fun _ _ => rfl)) (@pa_nil _) (star1 rfl)) (by omega) dn__law_made (star1 rfl) nost0) (@pa_nil _) (star1 rfl)) (star1 rfl)) (by omega) dn_But (star1 rfl) (nost1 rfl nost0)))) (@pss_nil _)) (@pss_one _ _ _ (@ps_ret _ _ _ _ (@pe_callC _ _ _ _ _ _ _ _ _ _ _ C_note_of hr g_law_made_note_of (@pa_cons _ _ _ _ _ (@pe_var _ 0 _ _ rfl v_law_made_0 dn__law_told dc__law_told) (@pa_nil _) (star1 rfl)) (by omega) dn_note_of (star1 rfl) nost0)))))), ?_⟩
  simp only [tMake, slots, Option.getD_some, Option.getD_none, tSeq, tOp, tC, tVar, tCons, tNil, tCall, tRet, tIfS, tTest, tNext, rEq, rIxT, Kd_non, Kd_bl, Kd_int, Kd_str, sc_non_non, sc_non_int, sc_int_non, sc_non_bl, sc_bl_non, sc_non_str, sc_str_non, sc_int_int, sc_bl_bl, sc_str_str, sc_int_str, sc_str_int, sc_bl_str, sc_str_bl, decide_true, decide_false, L2.start, cxK, Int.reduceToNat, List.map_cons, List.map_nil, List.length_cons, List.length_nil, Nat.reduceAdd, Nat.reduceSub, Nat.zero_add, List.replicate_succ, List.replicate_zero, List.cons_append, List.nil_append, List.append_nil, List.getElem?_cons_zero, List.getElem?_cons_succ, List.set_cons_zero, List.set_cons_succ, Option.some.injEq, V.int.injEq, V.bl.injEq, V.ref.injEq, V.str.injEq, V.ty.injEq, List.cons.injEq, exists_eq_left', exists_eq_left, exists_eq_right, exists_and_left, exists_and_right, and_true, true_and, and_assoc, exists_const, decide_eq_true_eq, Bool.not_eq_true', Bool.not_true, Bool.not_false, Bool.not_not, decide_eq_false_iff_not, ite_not, Bool.false_eq_true, if_true, if_false, reduceCtorEq, and_false, false_and, exists_false, or_false, false_or, ↓reduceIte, eq_self, reduceIte]
  cases n with
  | any =>
    obtain ⟨x0, T, r0⟩ := rep_one R
    cases rep_str r0
    refine ⟨_, T, _, at0, rfl, ?_⟩
    rw [if_neg (by decide)]
    refine ⟨_, T, _, at0, rfl, ?_⟩
    rw [if_neg (by decide)]
    refine ⟨_, T, _, at0, rfl, ?_⟩
    rw [if_neg (by decide)]
    exact ⟨t, _, rfl, R, ok, dp5, q⟩
  | made s =>
    obtain ⟨x0, y0, T, r0, r1⟩ := rep_two R
    cases rep_str r0
    cases rep_str r1
    refine ⟨_, T, _, at0, rfl, ?_⟩
    rw [if_neg (by decide)]
    refine ⟨_, T, _, at0, rfl, ?_⟩
    rw [if_neg (by decide)]
    refine ⟨_, T, _, at0, rfl, ?_⟩
    rw [if_neg (by decide)]
    exact ⟨t, _, rfl, R, ok, dp5, q⟩
  | used s =>
    obtain ⟨x0, y0, T, r0, r1⟩ := rep_two R
    cases rep_str r0
    cases rep_str r1
    refine ⟨_, T, _, at0, rfl, ?_⟩
    rw [if_neg (by decide)]
    refine ⟨_, T, _, at0, rfl, ?_⟩
    rw [if_neg (by decide)]
    refine ⟨_, T, _, at0, rfl, ?_⟩
    rw [if_neg (by decide)]
    exact ⟨t, _, rfl, R, ok, dp5, q⟩
  | chief s =>
    obtain ⟨x0, y0, T, r0, r1⟩ := rep_two R
    cases rep_str r0
    cases rep_str r1
    refine ⟨_, T, _, at0, rfl, ?_⟩
    rw [if_neg (by decide)]
    refine ⟨_, T, _, at0, rfl, ?_⟩
    rw [if_neg (by decide)]
    refine ⟨_, T, _, at0, rfl, ?_⟩
    rw [if_neg (by decide)]
    exact ⟨t, _, rfl, R, ok, dp5, q⟩
  | over a b =>
    obtain ⟨x0, y0, z0, T, r0, r1, r2⟩ := rep_three R
    cases rep_str r0
    refine ⟨_, T, _, at0, rfl, ?_⟩
    rw [if_neg (by decide)]
    refine ⟨_, T, _, at0, rfl, ?_⟩
    rw [if_neg (by decide)]
    refine ⟨_, T, _, at0, rfl, ?_⟩
    rw [if_neg (by decide)]
    exact ⟨t, _, rfl, R, ok, dp5, q⟩
  | both x y =>
    obtain ⟨x0, y0, z0, T, r0, r1, r2⟩ := rep_three R
    cases rep_str r0
    obtain ⟨t1, rfl⟩ := told_ref r1
    obtain ⟨t2, rfl⟩ := told_ref r2
    have dd : max x.dp y.dp + 1 ≤ d + 1 := dp
    refine ⟨_, T, _, at0, rfl, ?_⟩
    rw [if_pos (by decide)]
    have d5 : max x.dp y.dp + 1 ≤ 5 := dp5
    refine ⟨_, T, _, at1, t1, x, rfl, r1, ok.1, (by omega), (by omega), fun a1 H1 S1 O1 => ?_⟩
    refine ⟨_, Same.tup S1 T, _, at2, t2, y, rfl, r2.same S1, ok.2, (by omega), (by omega), fun a2 H2 S2 O2 => ?_⟩
    exact fun x4 dx hx hd ne => ⟨x4, _, dx, _, _, rfl, upd_same, t5.cl, t5.n1, t5.n2, fun H' h1 h2 => ⟨rfl, q _ _ (S1.trans (S2.trans (make2 hx hd h2))) ⟨dx, _, _, h1, ObjN.same (make2 hx hd h2) (ObjN.same S2 O1), ObjN.same (make2 hx hd h2) O2⟩⟩⟩
  | either x y =>
    obtain ⟨x0, y0, z0, T, r0, r1, r2⟩ := rep_three R
    cases rep_str r0
    obtain ⟨t1, rfl⟩ := told_ref r1
    obtain ⟨t2, rfl⟩ := told_ref r2
    have dd : max x.dp y.dp + 1 ≤ d + 1 := dp
    refine ⟨_, T, _, at0, rfl, ?_⟩
    rw [if_neg (by decide)]
    refine ⟨_, T, _, at0, rfl, ?_⟩
    rw [if_pos (by decide)]
    have d5 : max x.dp y.dp + 1 ≤ 5 := dp5
    refine ⟨_, T, _, at1, t1, x, rfl, r1, ok.1, (by omega), (by omega), fun a1 H1 S1 O1 => ?_⟩
    refine ⟨_, Same.tup S1 T, _, at2, t2, y, rfl, r2.same S1, ok.2, (by omega), (by omega), fun a2 H2 S2 O2 => ?_⟩
    exact fun x4 dx hx hd ne => ⟨x4, _, dx, _, _, rfl, upd_same, t6.cl, t6.n1, t6.n2, fun H' h1 h2 => ⟨rfl, q _ _ (S1.trans (S2.trans (make2 hx hd h2))) ⟨dx, _, _, h1, ObjN.same (make2 hx hd h2) (ObjN.same S2 O1), ObjN.same (make2 hx hd h2) O2⟩⟩⟩
  | but x y =>
    obtain ⟨x0, y0, z0, T, r0, r1, r2⟩ := rep_three R
    cases rep_str r0
    obtain ⟨t1, rfl⟩ := told_ref r1
    obtain ⟨t2, rfl⟩ := told_ref r2
    have dd : max x.dp y.dp + 1 ≤ d + 1 := dp
    refine ⟨_, T, _, at0, rfl, ?_⟩
    rw [if_neg (by decide)]
    refine ⟨_, T, _, at0, rfl, ?_⟩
    rw [if_neg (by decide)]
    refine ⟨_, T, _, at0, rfl, ?_⟩
    rw [if_pos (by decide)]
    have d5 : max x.dp y.dp + 1 ≤ 5 := dp5
    refine ⟨_, T, _, at1, t1, x, rfl, r1, ok.1, (by omega), (by omega), fun a1 H1 S1 O1 => ?_⟩
    refine ⟨_, Same.tup S1 T, _, at2, t2, y, rfl, r2.same S1, ok.2, (by omega), (by omega), fun a2 H2 S2 O2 => ?_⟩
    exact fun x4 dx hx hd ne => ⟨x4, _, dx, _, _, rfl, upd_same, t7.cl, t7.n1, t7.n2, fun H' h1 h2 => ⟨rfl, q _ _ (S1.trans (S2.trans (make2 hx hd h2))) ⟨dx, _, _, h1, ObjN.same (make2 hx hd h2) (ObjN.same S2 O1), ObjN.same (make2 hx hd h2) O2⟩⟩⟩
theorem ok_law_made (F : Fun K "_law_made" "_law_made" s_law_made f fd) (M : Mg mg) (C_note_of : Cal P w K mg base CX0 "note_of" 11 ["told"] (spNoteOf K cs)) (Z_Both : MkC P w K mg base "Both" cs.both 1 ["self", "one", "other"] (spInit2 K)) (Z_Either : MkC P w K mg base "Either" cs.either 1 ["self", "one", "other"] (spInit2 K)) (Z_But : MkC P w K mg base "But" cs.but 1 ["self", "one", "other"] (spInit2 K)) (t5 : TwoC K cs.both) (t6 : TwoC K cs.either) (t7 : TwoC K cs.but) (b : Binds K fd ["_law_told"] []) (kp : PySem.W.keepIn K (.ref f) = true) (m : mg "_law_made" = some (.ref f)) : ∀ d : Nat, FnOk P w K mg base CX0 (12 + d) f fd ["_law_told"] (spLMade K cs d)
  | 0 => by
    refine F.ok sc_law_made (fun vs H Q E h => ?_) (fun cdv A outer s H vs Q E hr h => ?_)
    · obtain ⟨t, n, rfl, _⟩ := h
      rfl
    obtain ⟨t, n, rfl, R, ok, dp, dp5, q⟩ := h
    have := Nt.dp_pos n
    omega
  | d + 1 => step_made F M C_note_of Z_Both Z_Either Z_But t5 t6 t7 ⟨⟨f, fd, ok_law_made F M C_note_of Z_Both Z_Either Z_But t5 t6 t7 b kp m d, b, kp, m⟩⟩
theorem ok_law_good (F : Fun K "_law_good" "_law_good" s_law_good f fd) (M : Mg mg) (C_law_claims : Cal P w K mg base CX0 "_law_claims" 8 ["_law_told", "_law_kinds_here", "_law_look_here"] (spLClaims K 5)) (D_claims : ∀ C sp, DClaimsN K cs C sp → Disp P w K mg base "claims" 9 ["self", "kinds", "look"] C sp) : FnOk P w K mg base CX0 10 f fd ["_law_note_here", "_law_told", "_law_kinds_here", "_law_look_here"] (spGood K cs) := by
  refine F.ok sc_law_good (fun vs H Q E h => ?_) (fun cdv A outer s H vs Q E hr h => ?_)
  · obtain ⟨a, t, kl, lt, n, ks, lk, rfl, _⟩ := h
    rfl
  obtain ⟨a, t, kl, lt, n, ks, lk, rfl, O, R, ok, dp, G, q⟩ := h
  obtain ⟨kx, L, A⟩ := G.kx
  refine ⟨_, (@pss_cons _ _ _ _ _ (@ps_set _ _ 4 _ _ _ _ sc_law_good.nd rfl l_law_good_4 (@pe_methD _ _ _ _ _ _ _ _ _ _ _ _ _ _ (@pe_var _ 0 _ _ rfl v_law_good_0 dn__law_note_here dc__law_note_here) D_claims hr (@pa_cons _ _ _ _ _ (@pe_callTy _ _ _ _ _ _ _ _ _ call_listL g_law_good_list M.m_list b_list (@pa_cons _ _ _ _ _ (@pe_var _ 2 _ _ rfl v_law_good_2 dn__law_kinds_here dc__law_kinds_here) (@pa_nil _) (star1 rfl)) nn_list dn_list (star1 rfl) nost0) (@pa_cons _ _ _ _ _ (@pe_var _ 3 _ _ rfl v_law_good_3 dn__law_look_here dc__law_look_here) (@pa_nil _) (star1 rfl)) (star1 rfl)) (by decide) (star1 rfl) (nost1 rfl nost0) (by rfl)) (swap1 rfl) (.inl rfl)) (@pss_one _ _ _ (@ps_ret _ _ _ _ (@pe_and _ _ _ _ _ _ _ (@pe_callB _ _ _ _ _ _ _ _ _ call_isi g_law_good_isinstance M.m_isinstance b_isinstance (@pa_cons _ _ _ _ _ (@pe_var _ 4 _ _ rfl v_law_good_4 dn__law_found dc__law_found) (@pa_cons _ _ _ _ _ (@pe_bltn _ _ (.ty "bool") _ _ g_law_good_bool M.m_bool b_bool rfl nn_bool dn_bool) (@pa_nil _) (star1 rfl)) (star1 rfl)) nn_isinstance dn_isinstance (star1 rfl) (nost1 rfl nost0)) (@pe_one _ _ _ _ _ (@pe_cmpR _ _ _ _ _ _ _ _ (@op_eq _) (@pe_var _ 4 _ _ rfl v_law_good_4 dn__law_found dc__law_found) (@pe_callC _ _ _ _ _ _ _ _ _ _ _ C_law_claims hr g_law_good__law_claims (@pa_cons _ _ _ _ _ (@pe_var _ 1 _ _ rfl v_law_good_1 dn__law_told dc__law_told) (@pa_cons _ _ _ _ _ (@pe_var _ 2 _ _ rfl v_law_good_2 dn__law_kinds_here dc__law_kinds_here) (@pa_cons _ _ _ _ _ (@pe_var _ 3 _ _ rfl v_law_good_3 dn__law_look_here dc__law_look_here) (@pa_nil _) (star1 rfl)) (star1 rfl)) (star1 rfl)) (by decide) dn__law_claims (star1 rfl) (nost1 rfl (nost1 rfl nost0))) (nomark _))))))), ?_⟩
  simp only [tMethD, slots, Option.getD_some, Option.getD_none, tSeq, tAsg, gName, tOp, tC, tVar, tCB, tCons, tNil, tCall, tRet, tAndV, rEq, rIsi, isi_non_bl, isi_non_int, isi_non_str, isi_non_lst, isi_non_tup, isi_bl_bl, isi_bl_int, isi_bl_str, isi_bl_lst, isi_bl_tup, isi_int_bl, isi_int_int, isi_int_str, isi_int_lst, isi_int_tup, isi_str_bl, isi_str_int, isi_str_str, isi_str_lst, isi_str_tup, isi_lst_bl, isi_lst_int, isi_lst_str, isi_lst_lst, isi_lst_tup, isi_tup_bl, isi_tup_int, isi_tup_str, isi_tup_lst, isi_tup_tup, isi_dct_bl, isi_dct_int, isi_dct_str, isi_dct_lst, isi_dct_tup, Kd_non, Kd_bl, Kd_int, Kd_str, sc_non_non, sc_non_int, sc_int_non, sc_non_bl, sc_bl_non, sc_non_str, sc_str_non, sc_int_int, sc_bl_bl, sc_str_str, sc_int_str, sc_str_int, sc_bl_str, sc_str_bl, decide_true, decide_false, tyK_int, tyK_bool, tyK_str, tyK_list, tyK_tuple, L2.start, cxK, Int.reduceToNat, List.map_cons, List.map_nil, List.length_cons, List.length_nil, Nat.reduceAdd, Nat.reduceSub, Nat.zero_add, List.replicate_succ, List.replicate_zero, List.cons_append, List.nil_append, List.append_nil, List.getElem?_cons_zero, List.getElem?_cons_succ, List.set_cons_zero, List.set_cons_succ, Option.some.injEq, V.int.injEq, V.bl.injEq, V.ref.injEq, V.str.injEq, V.ty.injEq, List.cons.injEq, exists_eq_left', exists_eq_left, exists_eq_right, exists_and_left, exists_and_right, and_true, true_and, and_assoc, exists_const, decide_eq_true_eq, Bool.not_eq_true', Bool.not_true, Bool.not_false, Bool.not_not, decide_eq_false_iff_not, ite_not, Bool.false_eq_true, if_true, if_false, reduceCtorEq, and_false, false_and, exists_false, or_false, false_or, ↓reduceIte, eq_self, reduceIte]
  obtain ⟨C, dx, fs, h1, h2, hD⟩ := cls_byN O
  refine ⟨C, dx, fs, h1, h2, _, hD, kx, L, fun l hl => ?_⟩
  have S0 := same_new hl (.lst kx)
  refine ⟨a, l, lt, n, ks, lk, rfl, ObjN.same S0 O, ok, dp, ⟨⟨kx, SqL.of upd_same, A.same S0⟩, Same.tup S0 G.look, G.len, G.pos, G.le, G.ok, G.nn⟩, fun H1 S1 => ?_⟩
  simp only [tMethD, slots, Option.getD_some, Option.getD_none, tSeq, tAsg, gName, tOp, tC, tVar, tCB, tCons, tNil, tCall, tRet, tAndV, rEq, rIsi, isi_non_bl, isi_non_int, isi_non_str, isi_non_lst, isi_non_tup, isi_bl_bl, isi_bl_int, isi_bl_str, isi_bl_lst, isi_bl_tup, isi_int_bl, isi_int_int, isi_int_str, isi_int_lst, isi_int_tup, isi_str_bl, isi_str_int, isi_str_str, isi_str_lst, isi_str_tup, isi_lst_bl, isi_lst_int, isi_lst_str, isi_lst_lst, isi_lst_tup, isi_tup_bl, isi_tup_int, isi_tup_str, isi_tup_lst, isi_tup_tup, isi_dct_bl, isi_dct_int, isi_dct_str, isi_dct_lst, isi_dct_tup, Kd_non, Kd_bl, Kd_int, Kd_str, sc_non_non, sc_non_int, sc_int_non, sc_non_bl, sc_bl_non, sc_non_str, sc_str_non, sc_int_int, sc_bl_bl, sc_str_str, sc_int_str, sc_str_int, sc_bl_str, sc_str_bl, decide_true, decide_false, tyK_int, tyK_bool, tyK_str, tyK_list, tyK_tuple, L2.start, cxK, Int.reduceToNat, List.map_cons, List.map_nil, List.length_cons, List.length_nil, Nat.reduceAdd, Nat.reduceSub, Nat.zero_add, List.replicate_succ, List.replicate_zero, List.cons_append, List.nil_append, List.append_nil, List.getElem?_cons_zero, List.getElem?_cons_succ, List.set_cons_zero, List.set_cons_succ, Option.some.injEq, V.int.injEq, V.bl.injEq, V.ref.injEq, V.str.injEq, V.ty.injEq, List.cons.injEq, exists_eq_left', exists_eq_left, exists_eq_right, exists_and_left, exists_and_right, and_true, true_and, and_assoc, exists_const, decide_eq_true_eq, Bool.not_eq_true', Bool.not_true, Bool.not_false, Bool.not_not, decide_eq_false_iff_not, ite_not, Bool.false_eq_true, if_true, if_false, reduceCtorEq, and_false, false_and, exists_false, or_false, false_or, ↓reduceIte, eq_self, reduceIte]
  have S2 := S0.trans S1
  refine ⟨t, kl, lt, n, ks, lk, rfl, R.same S2, ok, dp, G.same S2, fun H2 S3 => ?_⟩
  refine ⟨rfl, ?_⟩
  rw [decide_eq_true rfl]
  exact q _ (S2.trans S3)
end

theorem fnok_union {P : Program} {w : World} {K : PySem.W.Frag} {mg : Str → Option Value} {base : Heap} {f : Addr} {fd : FuncData} {ps : List Str} {spd : Nat → Sp} {L n : Nat} (h : ∀ d, FnOk P w K mg base CX0 (L + d) f fd ps (spd d)) : FnOk P w K mg base CX0 (L + n) f fd ps (fun vs H Q E => ∃ d, d ≤ n ∧ spd d vs H Q E) := by
  refine ⟨fun vs H Q E ⟨d, hd, s⟩ => (h d).len _ _ _ _ s, fun A st s H bd us vs Q E hr I hb r ⟨d, hd, sp⟩ => ?_⟩
  exact (h d).run A st s H bd us vs Q E (hr.mono (by omega)) I hb r sp
structure NCok (K : PySem.W.Frag) (cs : NC) (cN : Addr) : Prop where
  ic : ∀ j, j < 8 → ICls K (ncCls cs j)
  kit : ∀ j, j < 8 → PySem.W.kitOne K (.ref (ncCls cs j)) (.ref cN) = some true
theorem isi_note {K : PySem.W.Frag} {cs : NC} {cN : Addr} {H : Hp} {a : Addr} {n : Nt} {Q : VK} (ok : NCok K cs cN) (O : ObjN K cs H a n) (q : Q (.bl true) H) : rIsiO K [.ref a, .ref cN] H Q := by
  cases n with
  | any => obtain ⟨dx, h⟩ := O; exact ⟨a, cN, _, dx, _, true, rfl, h, ok.ic 0 (by decide), ok.kit 0 (by decide), q⟩
  | made s => obtain ⟨dx, h⟩ := O; exact ⟨a, cN, _, dx, _, true, rfl, h, ok.ic 1 (by decide), ok.kit 1 (by decide), q⟩
  | used s => obtain ⟨dx, h⟩ := O; exact ⟨a, cN, _, dx, _, true, rfl, h, ok.ic 2 (by decide), ok.kit 2 (by decide), q⟩
  | chief s => obtain ⟨dx, h⟩ := O; exact ⟨a, cN, _, dx, _, true, rfl, h, ok.ic 3 (by decide), ok.kit 3 (by decide), q⟩
  | over k1 k2 => obtain ⟨dx, _, _, h, _⟩ := O; exact ⟨a, cN, _, dx, _, true, rfl, h, ok.ic 4 (by decide), ok.kit 4 (by decide), q⟩
  | both x y => obtain ⟨dx, _, _, h, _⟩ := O; exact ⟨a, cN, _, dx, _, true, rfl, h, ok.ic 5 (by decide), ok.kit 5 (by decide), q⟩
  | either x y => obtain ⟨dx, _, _, h, _⟩ := O; exact ⟨a, cN, _, dx, _, true, rfl, h, ok.ic 6 (by decide), ok.kit 6 (by decide), q⟩
  | but x y => obtain ⟨dx, _, _, h, _⟩ := O; exact ⟨a, cN, _, dx, _, true, rfl, h, ok.ic 7 (by decide), ok.kit 7 (by decide), q⟩
def spNoteU (K : PySem.W.Frag) : Sp := fun vs H Q E => ∃ d, d ≤ 5 ∧ spNoteG K d vs H Q E
theorem _root_.My.KnA.rev {K : PySem.W.Frag} {H : Hp} {xs : List V} {ks : List Kd2} (h : KnA K H xs ks) : KnA K H xs.reverse ks.reverse := by
  induction h with
  | nil => exact .nil
  | cons a _ ih =>
    rw [List.reverse_cons, List.reverse_cons]
    exact knA_snoc ih a
section
variable {P : Program} {w : World} {K : PySem.W.Frag} {mg : Str → Option Value} {base : Heap} {f : Addr} {fd : FuncData} {cs : NC} {c_Note : Addr}
theorem ok_law (F : Fun K "law" "law" s_law f fd) (M : Mg mg) (C_law_cell : Cal P w K mg base CX0 "_law_cell" 1 ["_law_script", "_law_k"] (spCell K)) (C_law_mix : Cal P w K mg base CX0 "_law_mix" 1 ["_law_number", "_law_k", "_law_many"] spMix3) (C_law_words : Cal P w K mg base CX0 "_law_words" 1 ["_law_cell_here", "_law_many"] (spWords K)) (C_law_kinds : Cal P w K mg base CX0 "_law_kinds" 1 ["_law_cell_here", "_law_words_here"] (spKinds3 K)) (C_note_of : Cal P w K mg base CX0 "note_of" 11 ["told"] (spNoteOf K cs))
    (C_law_note : Cal P w K mg base CX0 "_law_note" 8 ["_law_number", "_law_deep", "_law_kinds_here", "_law_words_here"] (spNoteU K)) (C_law_look : Cal P w K mg base CX0 "_law_look" 2 ["_law_cell_here", "_law_many"] (spLook K)) (C_law_made : Cal P w K mg base CX0 "_law_made" 17 ["_law_told"] (spLMade K cs 5)) (C_law_good : Cal P w K mg base CX0 "_law_good" 10 ["_law_note_here", "_law_told", "_law_kinds_here", "_law_look_here"] (spGood K cs))
    (A_Note : mg "Note" = some (.ref c_Note)) (ok : NCok K cs c_Note) (m_reversed : mg "reversed" = none) : FnOk P w K mg base CX0 18 f fd ["_law_script"] (spLaw K) := by
  refine F.ok sc_law (fun vs H Q E h => ?_) (fun cdv A outer s H vs Q E hr h => ?_)
  · obtain ⟨a, ns, rfl, _⟩ := h
    rfl
  obtain ⟨a, ns, rfl, hS, hl, q⟩ := h
  refine ⟨_, (@pss_cons _ _ _ _ _ (@ps_set _ _ 1 _ _ _ _ sc_law.nd rfl l_law_1 (@pe_callC _ _ _ _ _ _ _ _ _ _ _ C_law_words hr g_law__law_words (@pa_cons _ _ _ _ _ (@pe_callC _ _ _ _ _ _ _ _ _ _ _ C_law_cell hr g_law__law_cell (@pa_cons _ _ _ _ _ (@pe_var _ 0 _ _ rfl v_law_0 dn__law_script dc__law_script) (@pa_cons _ _ _ _ _ (@pe_int _ _ _ _) (@pa_nil _) (star1 rfl)) (star1 rfl)) (by decide) dn__law_cell (star1 rfl) (nost1 rfl nost0)) (@pa_cons _ _ _ _ _ (@pe_int _ _ _ _) (@pa_nil _) (star1 rfl)) (star1 rfl)) (by decide) dn__law_words (star1 rfl) (nost1 rfl nost0)) (swap1 rfl) (.inl rfl)) (@pss_cons _ _ _ _ _ (@ps_set _ _ 2 _ _ _ _ sc_law.nd rfl l_law_2 (@pe_callC _ _ _ _ _ _ _ _ _ _ _ C_law_kinds hr g_law__law_kinds (@pa_cons _ _ _ _ _ (@pe_callC _ _ _ _ _ _ _ _ _ _ _ C_law_cell hr g_law__law_cell (@pa_cons _ _ _ _ _ (@pe_var _ 0 _ _ rfl v_law_0 dn__law_script dc__law_script) (@pa_cons _ _ _ _ _ (@pe_int _ _ _ _) (@pa_nil _) (star1 rfl)) (star1 rfl)) (by decide) dn__law_cell (star1 rfl) (nost1 rfl nost0)) (@pa_cons _ _ _ _ _ (@pe_var _ 1 _ _ rfl v_law_1 dn__law_words_here dc__law_words_here) (@pa_nil _) (star1 rfl)) (star1 rfl)) (by decide) dn__law_kinds (star1 rfl) (nost1 rfl nost0)) (swap1 rfl) (.inl rfl)) (@pss_cons _ _ _ _ _ (@ps_for _ _ _ _ _ _ _ _ PassesOwn.never rfl (@pi_range2 _ _ _ _ _ _ _ g_law_range M.m_range (@pa_cons _ _ _ _ _ (@pe_int _ _ _ _) (@pa_cons _ _ _ _ _ (@pe_callB _ _ _ _ _ _ _ _ _ (call_max2 rfl) g_law_max M.m_max b_max (@pa_cons _ _ _ _ _ (@pe_int _ _ _ _) (@pa_cons _ _ _ _ _ (@pe_callB _ _ _ _ _ _ _ _ _ (call_min2 rfl) g_law_min M.m_min b_min (@pa_cons _ _ _ _ _ (@pe_callB _ _ _ _ _ _ _ _ _ call_len_seq g_law_len M.m_len b_len (@pa_cons _ _ _ _ _ (@pe_var _ 0 _ _ rfl v_law_0 dn__law_script dc__law_script) (@pa_nil _) (star1 rfl)) nn_len dn_len (star1 rfl) nost0) (@pa_cons _ _ _ _ _ (@pe_int _ _ _ _) (@pa_nil _) (star1 rfl)) (star1 rfl)) nn_min dn_min (star1 rfl) (nost1 rfl nost0)) (@pa_nil _) (star1 rfl)) (star1 rfl)) nn_max dn_max (star1 rfl) (nost1 rfl nost0)) (@pa_nil _) (star1 rfl)) (star1 rfl)) (star2' rfl rfl) (star1' rfl)) (@pg_name _ _ 3 _ sc_law.nd rfl l_law_3 (.inl rfl)) (@pss_cons _ _ _ _ _ (@ps_set _ _ 4 _ _ _ _ sc_law.nd rfl l_law_4 (@pe_callC _ _ _ _ _ _ _ _ _ _ _ C_law_cell hr g_law__law_cell (@pa_cons _ _ _ _ _ (@pe_var _ 0 _ _ rfl v_law_0 dn__law_script dc__law_script) (@pa_cons _ _ _ _ _ (@pe_var _ 3 _ _ rfl v_law_3 dn__law_k dc__law_k) (@pa_nil _) (star1 rfl)) (star1 rfl)) (by decide) dn__law_cell (star1 rfl) (nost1 rfl nost0)) (swap1 rfl) (.inl rfl)) (@pss_cons _ _ _ _ _ (@ps_set _ _ 5 _ _ _ _ sc_law.nd rfl l_law_5 (@pe_callC _ _ _ _ _ _ _ _ _ _ _ C_law_note hr g_law__law_note (@pa_cons _ _ _ _ _ (@pe_var _ 4 _ _ rfl v_law_4 dn__law_cell_here dc__law_cell_here) (@pa_cons _ _ _ _ _ (@pe_menu _ _ _ _ _ _ _ (@pa_cons _ _ _ _ _ (@pe_int _ _ _ _) (@pa_cons _ _ _ _ _ (@pe_int _ _ _ _) (@pa_cons _ _ _ _ _ (@pe_int _ _ _ _) (@pa_cons _ _ _ _ _ (@pe_int _ _ _ _) (@pa_cons _ _ _ _ _ (@pe_int _ _ _ _) (@pa_cons _ _ _ _ _ (@pe_int _ _ _ _) (@pa_cons _ _ _ _ _ (@pe_int _ _ _ _) (@pa_cons _ _ _ _ _ (@pe_int _ _ _ _) (@pa_nil _) (star1 rfl)) (star1 rfl)) (star1 rfl)) (star1 rfl)) (star1 rfl)) (star1 rfl)) (star1 rfl)) (star1 rfl)) (@pe_callC _ _ _ _ _ _ _ _ _ _ _ C_law_mix hr g_law__law_mix (@pa_cons _ _ _ _ _ (@pe_var _ 4 _ _ rfl v_law_4 dn__law_cell_here dc__law_cell_here) (@pa_cons _ _ _ _ _ (@pe_int _ _ _ _) (@pa_cons _ _ _ _ _ (@pe_int _ _ _ _) (@pa_nil _) (star1 rfl)) (star1 rfl)) (star1 rfl)) (by decide) dn__law_mix (star1 rfl) (nost1 rfl (nost1 rfl nost0))) (fun _ _ => rfl)) (@pa_cons _ _ _ _ _ (@pe_var _ 2 _ _ rfl v_law_2 dn__law_kinds_here dc__law_kinds_here) (@pa_cons _ _ _ _ _ (@pe_var _ 1 _ _ rfl v_law_1 dn__law_words_here dc__law_words_here) (@pa_nil _) (star1 rfl)) (star1 rfl)) (star1 rfl)) (star1 rfl)) (by decide) dn__law_note (star1 rfl) (nost1 rfl (nost1 rfl (nost1 rfl nost0)))) (swap1 rfl) (.inl rfl)) (@pss_cons _ _ _ _ _ (@ps_set _ _ 6 _ _ _ _ sc_law.nd rfl l_law_6 (@pe_callC _ _ _ _ _ _ _ _ _ _ _ C_law_made hr g_law__law_made (@pa_cons _ _ _ _ _ (@pe_var _ 5 _ _ rfl v_law_5 dn__law_told dc__law_told) (@pa_nil _) (star1 rfl)) (by decide) dn__law_made (star1 rfl) nost0) (swap1 rfl) (.inl rfl)) (@pss_cons _ _ _ _ _ (@ps_set _ _ 7 _ _ _ _ sc_law.nd rfl l_law_7 (@pe_callC _ _ _ _ _ _ _ _ _ _ _ C_note_of hr g_law_note_of (@pa_cons _ _ _ _ _ (@pe_var _ 5 _ _ rfl v_law_5 dn__law_told dc__law_told) (@pa_nil _) (star1 rfl)) (by decide) dn_note_of (star1 rfl) nost0) (swap1 rfl) (.inl rfl)) (@pss_cons _ _ _ _ _ (@ps_if _ _ _ _ _ _ _ _ (@PW.pt _ _ _ (@pw_or _ _ _ _ _ _ _ (@pt_not _ _ _ _ (@pt_val _ _ _ (@pe_callB _ _ _ _ _ _ _ _ _ call_isiO g_law_isinstance M.m_isinstance b_isinstance (@pa_cons _ _ _ _ _ (@pe_var _ 6 _ _ rfl v_law_6 dn__law_made_here dc__law_made_here) (@pa_cons _ _ _ _ _ (@pe_glob _ _ _ _ _ g_law_Note A_Note (show RelV (.ref c_Note) _ from rfl) dn_Note) (@pa_nil _) (star1 rfl)) (star1 rfl)) nn_isinstance dn_isinstance (star1 rfl) (nost1 rfl nost0)) (test1 rfl))) (@pw_or1 _ _ _ _ (@pt_not _ _ _ _ (@pt_val _ _ _ (@pe_callB _ _ _ _ _ _ _ _ _ call_isiO g_law_isinstance M.m_isinstance b_isinstance (@pa_cons _ _ _ _ _ (@pe_var _ 7 _ _ rfl v_law_7 dn__law_read dc__law_read) (@pa_cons _ _ _ _ _ (@pe_glob _ _ _ _ _ g_law_Note A_Note (show RelV (.ref c_Note) _ from rfl) dn_Note) (@pa_nil _) (star1 rfl)) (star1 rfl)) nn_isinstance dn_isinstance (star1 rfl) (nost1 rfl nost0)) (test1 rfl)))))) (@pss_one _ _ _ (@ps_ret _ _ _ _ (@pe_bl _ _ _ _))) (@pss_nil _)) (@pss_one _ _ _ (@ps_for _ _ _ _ _ _ _ _ PassesOwn.never rfl (@pi_range1 _ _ _ _ _ _ g_law_range M.m_range (@pa_cons _ _ _ _ _ (@pe_int _ _ _ _) (@pa_nil _) (star1 rfl)) (star1' rfl)) (@pg_name _ _ 8 _ sc_law.nd rfl l_law_8 (.inl rfl)) (@pss_cons _ _ _ _ _ (@ps_set _ _ 9 _ _ _ _ sc_law.nd rfl l_law_9 (@pe_callC _ _ _ _ _ _ _ _ _ _ _ C_law_look hr g_law__law_look (@pa_cons _ _ _ _ _ (@pe_op _ _ _ _ _ _ _ _ (@op_add _) (@pe_op _ _ _ _ _ _ _ _ (@op_fdivB _) (@pe_var _ 4 _ _ rfl v_law_4 dn__law_cell_here dc__law_cell_here) (@pe_int _ _ _ _)) (@pe_op _ _ _ _ _ _ _ _ (@op_mulB _) (@pe_op _ _ _ _ _ _ _ _ (@op_mulB _) (@pe_int _ _ _ _) (@pe_var _ 8 _ _ rfl v_law_8 dn__law_j dc__law_j)) (@pe_var _ 8 _ _ rfl v_law_8 dn__law_j dc__law_j))) (@pa_cons _ _ _ _ _ (@pe_callB _ _ _ _ _ _ _ _ _ call_len_seq g_law_len M.m_len b_len (@pa_cons _ _ _ _ _ (@pe_var _ 2 _ _ rfl v_law_2 dn__law_kinds_here dc__law_kinds_here) (@pa_nil _) (star1 rfl)) nn_len dn_len (star1 rfl) nost0) (@pa_nil _) (star1 rfl)) (star1 rfl)) (by decide) dn__law_look (star1 rfl) (nost1 rfl nost0)) (swap1 rfl) (.inl rfl)) (@pss_cons _ _ _ _ _ (@ps_if _ _ _ _ _ _ _ _ (@PW.pt _ _ _ (@pw_or _ _ _ _ _ _ _ (@pt_not _ _ _ _ (@pt_val _ _ _ (@pe_callC _ _ _ _ _ _ _ _ _ _ _ C_law_good hr g_law__law_good (@pa_cons _ _ _ _ _ (@pe_var _ 6 _ _ rfl v_law_6 dn__law_made_here dc__law_made_here) (@pa_cons _ _ _ _ _ (@pe_var _ 5 _ _ rfl v_law_5 dn__law_told dc__law_told) (@pa_cons _ _ _ _ _ (@pe_var _ 2 _ _ rfl v_law_2 dn__law_kinds_here dc__law_kinds_here) (@pa_cons _ _ _ _ _ (@pe_var _ 9 _ _ rfl v_law_9 dn__law_look_here dc__law_look_here) (@pa_nil _) (star1 rfl)) (star1 rfl)) (star1 rfl)) (star1 rfl)) (by decide) dn__law_good (star1 rfl) (nost1 rfl (nost1 rfl (nost1 rfl nost0)))) (test1 rfl))) (@pw_or1 _ _ _ _ (@pt_not _ _ _ _ (@pt_val _ _ _ (@pe_callC _ _ _ _ _ _ _ _ _ _ _ C_law_good hr g_law__law_good (@pa_cons _ _ _ _ _ (@pe_var _ 7 _ _ rfl v_law_7 dn__law_read dc__law_read) (@pa_cons _ _ _ _ _ (@pe_var _ 5 _ _ rfl v_law_5 dn__law_told dc__law_told) (@pa_cons _ _ _ _ _ (@pe_var _ 2 _ _ rfl v_law_2 dn__law_kinds_here dc__law_kinds_here) (@pa_cons _ _ _ _ _ (@pe_var _ 9 _ _ rfl v_law_9 dn__law_look_here dc__law_look_here) (@pa_nil _) (star1 rfl)) (star1 rfl)) (star1 rfl)) (star1 rfl)) (by decide) dn__law_good (star1 rfl) (nost1 rfl (nost1 rfl (nost1 rfl nost0)))) (test1 rfl)))))) (@pss_one _ _ _ (@ps_ret _ _ _ _ (@pe_bl _ _ _ _))) (@pss_nil _)) (@pss_cons _ _ _ _ _ (@ps_set _ _ 10 _ _ _ _ sc_law.nd rfl l_law_10 (@pe_callTy _ _ _ _ _ _ _ _ _ call_tupleL g_law_tuple M.m_tuple b_tuple (@pa_cons _ _ _ _ _ (pe_listRev rfl g_law_list M.m_list g_law_reversed m_reversed (@pa_cons _ _ _ _ _ (@pe_var _ 9 _ _ rfl v_law_9 dn__law_look_here dc__law_look_here) (@pa_nil _) (star1 rfl))) (@pa_nil _) (star1 rfl)) nn_tuple dn_tuple (star1 rfl) nost0) (swap1 rfl) (.inl rfl)) (@pss_one _ _ _ (@ps_for _ _ _ _ _ _ _ _ PassesOwn.never rfl (@pi_list _ _ _ _ (@pe_lst _ _ _ _ (@pa_cons _ _ _ _ _ (@pe_var _ 10 _ _ rfl v_law_10 dn__law_back dc__law_back) (@pa_cons _ _ _ _ _ (@pe_var _ 9 _ _ rfl v_law_9 dn__law_look_here dc__law_look_here) (@pa_nil _) (star1 rfl)) (star1 rfl)))) (@pg_name _ _ 11 _ sc_law.nd rfl l_law_11 (.inl rfl)) (@pss_one _ _ _ (@ps_if _ _ _ _ _ _ _ _ (@pt_not _ _ _ _ (@pt_val _ _ _ (@pe_callC _ _ _ _ _ _ _ _ _ _ _ C_law_good hr g_law__law_good (@pa_cons _ _ _ _ _ (@pe_var _ 6 _ _ rfl v_law_6 dn__law_made_here dc__law_made_here) (@pa_cons _ _ _ _ _ (@pe_var _ 5 _ _ rfl v_law_5 dn__law_told dc__law_told) (@pa_cons _ _ _ _ _ (pe_listRev rfl g_law_list M.m_list g_law_reversed m_reversed (@pa_cons _ _ _ _ _ (@pe_var _ 2 _ _ rfl v_law_2 dn__law_kinds_here dc__law_kinds_here) (@pa_nil _) (star1 rfl))) (@pa_cons _ _ _ _ _ (@pe_var _ 11 _ _ rfl v_law_11 dn__law_some dc__law_some) (@pa_nil _) (star1 rfl)) (star1 rfl)) (star1 rfl)) (star1 rfl)) (by decide) dn__law_good (star1 rfl) (nost1 rfl (nost1 rfl (nost1 rfl nost0)))) (test1 rfl))) (@pss_one _ _ _ (@ps_ret _ _ _ _ (@pe_bl _ _ _ _))) (@pss_nil _))) (by intro _; rfl)))))) (by intro _; rfl)))))))) (by intro _; rfl)) (@pss_one _ _ _ (@ps_ret _ _ _ _ (@pe_bl _ _ _ _)))))), ?_⟩
  simp only [tRev, slots, Option.getD_some, Option.getD_none, tSeq, tAsg, gName, tOp, tC, tVar, tCB, tCons, tNil, tCall, rI, rI0, tRet, tIfS, tB, tOr, tNot, tMenu, tLst, tNext, Kd_non, Kd_bl, Kd_int, Kd_str, decide_true, decide_false, tFor_eq, iList, iRng1, iRng2, L2.start, cxK, Int.reduceToNat, List.map_cons, List.map_nil, List.length_cons, List.length_nil, Nat.reduceAdd, Nat.reduceSub, Nat.zero_add, List.replicate_succ, List.replicate_zero, List.cons_append, List.nil_append, List.append_nil, List.getElem?_cons_zero, List.getElem?_cons_succ, List.set_cons_zero, List.set_cons_succ, Option.some.injEq, V.int.injEq, V.bl.injEq, V.ref.injEq, V.str.injEq, V.ty.injEq, List.cons.injEq, exists_eq_left', exists_eq_left, exists_eq_right, exists_and_left, exists_and_right, and_true, true_and, and_assoc, exists_const, decide_eq_true_eq, Bool.not_eq_true', Bool.not_true, Bool.not_false, Bool.not_not, decide_eq_false_iff_not, ite_not, Bool.false_eq_true, if_true, if_false, reduceCtorEq, and_false, false_and, exists_false, or_false, false_or, ↓reduceIte, eq_self, reduceIte]
  refine spCell_of hS hl (by decide) (by decide) ⟨_, rfl, (Mth.cell_in _ _).1, fun wl H1 ws S1 nw LW lw nmw => ?_⟩
  refine spCell_of (S1.seq hS) hl (by decide) (by decide) ⟨_, wl, ws, rfl, (Mth.cell_in _ _).1, LW, lw, nmw, fun kl kx ks H4 S2 nk LK TK k1 k4 okk => ?_⟩
  have S04 : Same H H4 := S1.trans S2
  have hS4 := S04.seq hS
  refine ⟨_, .inl hS4, by decide, by decide, ?_⟩
  obtain ⟨m, hm, m5, m26⟩ : ∃ m : Int, (if (if (26 : Int) < ((ns.map V.int).length : Int) then 26 else ((ns.map V.int).length : Int)) > 5 then if (26 : Int) < ((ns.map V.int).length : Int) then 26 else ((ns.map V.int).length : Int) else 5) = m ∧ 5 ≤ m ∧ m ≤ 26 := by
    refine ⟨_, rfl, ?_, ?_⟩ <;> repeat (first | omega | split)
  rw [hm]
  clear hm
  refine ⟨by omega, by omega, ?_⟩
  have KA : KnA K H4 kx ks := TpD.kna TK
  replace LW := S2 _ _ LW
  have q' := q
  have lx := KA.length
  clear S1 S2 S04 hS q
  obtain ⟨Pv, hP⟩ : ∃ Pv : Nat → St → Hp → Prop, Pv = fun _ σ H' => ∃ o3 o4 o5 o6 o7 o8 o9 o10 o11, σ = [some (V.ref a), some (.ref wl), some (.ref kl), o3, o4, o5, o6, o7, o8, o9, o10, o11] ∧ Same H4 H' := ⟨_, rfl⟩
  refine forW_range Pv ?_ ?_ ?_
  · rw [hP]
    exact ⟨_, _, _, _, _, _, _, _, _, rfl, Same.refl _⟩
  · intro i σ H' hi h
    rw [hP] at h
    obtain ⟨o3, o4, o5, o6, o7, o8, o9, o10, o11, rfl, S5⟩ := h
    simp only [tRev, slots, Option.getD_some, Option.getD_none, tSeq, tAsg, gName, tOp, tC, tVar, tCB, tCons, tNil, tCall, rI, rI0, tRet, tIfS, tB, tOr, tNot, tMenu, tLst, tNext, Kd_non, Kd_bl, Kd_int, Kd_str, decide_true, decide_false, tFor_eq, iList, iRng1, iRng2, L2.start, cxK, Int.reduceToNat, List.map_cons, List.map_nil, List.length_cons, List.length_nil, Nat.reduceAdd, Nat.reduceSub, Nat.zero_add, List.replicate_succ, List.replicate_zero, List.cons_append, List.nil_append, List.append_nil, List.getElem?_cons_zero, List.getElem?_cons_succ, List.set_cons_zero, List.set_cons_succ, Option.some.injEq, V.int.injEq, V.bl.injEq, V.ref.injEq, V.str.injEq, V.ty.injEq, List.cons.injEq, exists_eq_left', exists_eq_left, exists_eq_right, exists_and_left, exists_and_right, and_true, true_and, and_assoc, exists_const, decide_eq_true_eq, Bool.not_eq_true', Bool.not_true, Bool.not_false, Bool.not_not, decide_eq_false_iff_not, ite_not, Bool.false_eq_true, if_true, if_false, reduceCtorEq, and_false, false_and, exists_false, or_false, false_or, ↓reduceIte, eq_self, reduceIte]
    refine spCell_of (S5.seq hS4) hl (by omega) (by omega) ?_
    obtain ⟨c, hc⟩ : ∃ c, Mth.cell ns (2 + (i : Int)) = c := ⟨_, rfl⟩
    rw [hc]
    clear hc
    refine ⟨by decide, c, 9, 8, rfl, by decide, by decide, by decide, ?_⟩
    have i8 := mix3_in c 9 (show (0 : Int) < 8 by decide)
    obtain ⟨j, hj⟩ : ∃ j : Int, mix3 c 9 8 = j := ⟨_, rfl⟩
    rw [hj] at i8 ⊢
    clear hj
    obtain ⟨d, hd, d1, d5⟩ : ∃ d : Nat, ([V.int 3, V.int 2, V.int 3, V.int 5, V.int 3, V.int 2, V.int 3, V.int 3] : List V)[j.toNat]? = some (.int (d : Int)) ∧ 1 ≤ d ∧ d ≤ 5 := by
      have : j = 0 ∨ j = 1 ∨ j = 2 ∨ j = 3 ∨ j = 4 ∨ j = 5 ∨ j = 6 ∨ j = 7 := by omega
      rcases this with e | e | e | e | e | e | e | e <;> subst e
      · exact ⟨3, rfl, by decide, by decide⟩
      · exact ⟨2, rfl, by decide, by decide⟩
      · exact ⟨3, rfl, by decide, by decide⟩
      · exact ⟨5, rfl, by decide, by decide⟩
      · exact ⟨3, rfl, by decide, by decide⟩
      · exact ⟨2, rfl, by decide, by decide⟩
      · exact ⟨3, rfl, by decide, by decide⟩
      · exact ⟨3, rfl, by decide, by decide⟩
    refine ⟨j, rfl, i8.1, _, hd, d, d5, c, kl, wl, kx, ks, ws, rfl, d1, S5 _ _ LK, KA.same S5, k1, k4, okk, S5 _ _ LW, lw, nmw, fun pm J1 nm S6 Rm okm dpm => ?_⟩
    refine ⟨pm, nm, rfl, Rm, okm, by omega, by omega, fun am J2 S7 Om => ?_⟩
    refine ⟨pm, nm, rfl, Rm.same S7, okm, by omega, fun ar J3 S8 Or => ?_⟩
    refine isi_note ok (ObjN.same S8 Om) ⟨_, rfl, ?_⟩
    rw [if_neg (by decide)]
    refine isi_note ok Or ⟨_, rfl, ?_⟩
    rw [if_neg (by decide)]
    refine ⟨by decide, by decide, ?_⟩
    have S9 : Same H4 J3 := S5.trans (S6.trans (S7.trans S8))
    have Rm3 := (Rm.same S7).same S8
    have Om3 := ObjN.same S8 Om
    have LK3 := S9 _ _ LK
    have KA3 := KA.same S9
    obtain ⟨Pw, hPw⟩ : ∃ Pw : Nat → St → Hp → Prop, Pw = fun _ σ H' => ∃ o8 o9 o10 o11, σ = [some (V.ref a), some (.ref wl), some (.ref kl), some (.int (2 + (i : Int))), some (.int c), some (.ref pm), some (.ref am), some (.ref ar), o8, o9, o10, o11] ∧ Same J3 H' := ⟨_, rfl⟩
    refine forW_range Pw ?_ ?_ ?_
    · rw [hPw]
      exact ⟨_, _, _, _, rfl, Same.refl _⟩
    · intro jj σ G hjj h
      rw [hPw] at h
      obtain ⟨o8, o9, o10, o11, rfl, T5⟩ := h
      simp only [tRev, slots, Option.getD_some, Option.getD_none, tSeq, tAsg, gName, tOp, tC, tVar, tCB, tCons, tNil, tCall, rI, rI0, tRet, tIfS, tB, tOr, tNot, tMenu, tLst, tNext, Kd_non, Kd_bl, Kd_int, Kd_str, decide_true, decide_false, tFor_eq, iList, iRng1, iRng2, L2.start, cxK, Int.reduceToNat, List.map_cons, List.map_nil, List.length_cons, List.length_nil, Nat.reduceAdd, Nat.reduceSub, Nat.zero_add, List.replicate_succ, List.replicate_zero, List.cons_append, List.nil_append, List.append_nil, List.getElem?_cons_zero, List.getElem?_cons_succ, List.set_cons_zero, List.set_cons_succ, Option.some.injEq, V.int.injEq, V.bl.injEq, V.ref.injEq, V.str.injEq, V.ty.injEq, List.cons.injEq, exists_eq_left', exists_eq_left, exists_eq_right, exists_and_left, exists_and_right, and_true, true_and, and_assoc, exists_const, decide_eq_true_eq, Bool.not_eq_true', Bool.not_true, Bool.not_false, Bool.not_not, decide_eq_false_iff_not, ite_not, Bool.false_eq_true, if_true, if_false, reduceCtorEq, and_false, false_and, exists_false, or_false, false_or, ↓reduceIte, eq_self, reduceIte]
      refine ⟨cdiv (by decide) (by decide), cmul (by decide) (by decide) (by omega) (by omega), cmul (by omega) (by omega) (by omega) (by omega), kx, .inl (SqL.of (T5 _ _ LK3)), ?_⟩
      refine ⟨_, ks.length, by rw [lx], k1, k4, fun lp lk G1 U1 TL ll nn => ?_⟩
      have U01 := T5.trans U1
      have gr : Ground K G1 kl lp ks lk := ⟨⟨kx, SqL.of (U01 _ _ LK3), KA3.same U01⟩, TL, ll, k1, k4, okk, nn⟩
      refine ⟨am, pm, kl, lp, nm, ks, lk, rfl, ObjN.same U01 Om3, Rm3.same U01, okm, by omega, gr, fun G2 U2 => ⟨_, rfl, ?_⟩⟩
      rw [if_neg (by decide)]
      have U02 := U01.trans U2
      refine ⟨ar, pm, kl, lp, nm, ks, lk, rfl, ObjN.same U02 Or, Rm3.same U02, okm, by omega, gr.same U2, fun G3 U3 => ⟨_, rfl, ?_⟩⟩
      rw [if_neg (by decide)]
      have U03 := U02.trans U3
      refine ⟨lp, rfl, lk.map V.int, .inr (Same.tup (U2.trans U3) TL), fun l hl => ?_⟩
      refine ⟨_, SqL.of upd_same, fun l1 hl1 => ⟨by decide, fun p hp => ?_⟩⟩
      have V4 := same_new hl (.lst (lk.map V.int).reverse)
      have V5 := same_new hl1 (.tup (lk.map V.int).reverse)
      have V6 := same_new hp (.lst [V.ref l1, V.ref lp])
      have TB : SqT K (upd (upd G3 l (.lst (lk.map V.int).reverse)) l1 (.tup (lk.map V.int).reverse)) l1 (lk.reverse.map V.int) := by rw [List.map_reverse]; exact SqT.of upd_same
      have TB6 := Same.tup V6 TB
      have TL6 := Same.tup (U2.trans (U3.trans (V4.trans (V5.trans V6)))) TL
      have U06 := U03.trans (V4.trans (V5.trans V6))
      obtain ⟨G6, hG6⟩ : ∃ G6, G6 = upd (upd (upd G3 l (.lst (lk.map V.int).reverse)) l1 (.tup (lk.map V.int).reverse)) p (.lst [V.ref l1, V.ref lp]) := ⟨_, rfl⟩
      have LP : G6 p = some (.lst [V.ref l1, V.ref lp]) := by rw [hG6, upd_same]
      rw [← hG6] at TB6 TL6 U06 ⊢
      clear hG6 V4 V5 V6 TB hp hl1 hl U1 U2 U3 U01 U02 U03 gr TL
      refine ⟨⟨_, SqL.of LP⟩, ?_⟩
      obtain ⟨Pz, hPz⟩ : ∃ Pz : Nat → St → Hp → Prop, Pz = fun _ σ H' => ∃ o11, σ = [some (V.ref a), some (.ref wl), some (.ref kl), some (.int (2 + (i : Int))), some (.int c), some (.ref pm), some (.ref am), some (.ref ar), some (.int (0 + (jj : Int))), some (.ref lp), some (.ref l1), o11] ∧ Same G6 H' := ⟨_, rfl⟩
      refine forW_list [V.ref l1, V.ref lp] Pz ?_ (fun i σ H' _ h => by rw [hPz] at h; obtain ⟨_, _, e⟩ := h; exact SqL.of (e _ _ LP)) ?_ ?_
      · rw [hPz]
        exact ⟨_, rfl, Same.refl _⟩
      · intro ii x σ G7 hx h
        rw [hPz] at h
        obtain ⟨o11, rfl, W7⟩ := h
        obtain ⟨pt, lk', rfl, T', ll', nn'⟩ : ∃ (pt : Addr) (lk' : List Int), x = .ref pt ∧ SqT K G6 pt (lk'.map V.int) ∧ lk'.length = ks.length ∧ ∀ y ∈ lk', 0 ≤ y := by
          match ii, hx with
          | 0, hx =>
            simp at hx
            exact ⟨l1, lk.reverse, hx.symm, TB6, by rw [List.length_reverse]; exact ll, fun y hy => nn y (List.mem_reverse.mp hy)⟩
          | 1, hx =>
            simp at hx
            exact ⟨lp, lk, hx.symm, TL6, ll, nn⟩
          | ii + 2, hx => simp at hx
        have U07 := U06.trans W7
        simp only [tRev, slots, Option.getD_some, Option.getD_none, tSeq, tAsg, gName, tOp, tC, tVar, tCB, tCons, tNil, tCall, rI, rI0, tRet, tIfS, tB, tOr, tNot, tMenu, tLst, tNext, Kd_non, Kd_bl, Kd_int, Kd_str, decide_true, decide_false, tFor_eq, iList, iRng1, iRng2, L2.start, cxK, Int.reduceToNat, List.map_cons, List.map_nil, List.length_cons, List.length_nil, Nat.reduceAdd, Nat.reduceSub, Nat.zero_add, List.replicate_succ, List.replicate_zero, List.cons_append, List.nil_append, List.append_nil, List.getElem?_cons_zero, List.getElem?_cons_succ, List.set_cons_zero, List.set_cons_succ, Option.some.injEq, V.int.injEq, V.bl.injEq, V.ref.injEq, V.str.injEq, V.ty.injEq, List.cons.injEq, exists_eq_left', exists_eq_left, exists_eq_right, exists_and_left, exists_and_right, and_true, true_and, and_assoc, exists_const, decide_eq_true_eq, Bool.not_eq_true', Bool.not_true, Bool.not_false, Bool.not_not, decide_eq_false_iff_not, ite_not, Bool.false_eq_true, if_true, if_false, reduceCtorEq, and_false, false_and, exists_false, or_false, false_or, ↓reduceIte, eq_self, reduceIte]
        refine ⟨kx, .inl (SqL.of (U07 _ _ LK3)), fun l9 hl9 => ?_⟩
        have V9 := same_new hl9 (.lst kx.reverse)
        have U09 := U07.trans V9
        refine ⟨am, pm, l9, pt, nm, ks.reverse, lk', rfl, ObjN.same U09 Om3, Rm3.same U09, okm, by omega, ⟨⟨kx.reverse, SqL.of upd_same, (KA3.same U09).rev⟩, Same.tup (W7.trans V9) T', by rw [List.length_reverse]; exact ll', by rw [List.length_reverse]; exact k1, by rw [List.length_reverse]; exact k4, fun k hk => okk k (List.mem_reverse.mp hk), nn'⟩, fun G8 U8 => ⟨_, rfl, ?_⟩⟩
        rw [if_neg (by decide), hPz]
        exact ⟨_, rfl, W7.trans (V9.trans U8)⟩
      · intro σ G7 h
        rw [hPz] at h
        obtain ⟨o11, rfl, W7⟩ := h
        show Pw (jj + 1) _ _
        rw [hPw]
        exact ⟨_, _, _, _, rfl, U06.trans W7⟩
    · intro σ G h
      rw [hPw] at h
      obtain ⟨o8, o9, o10, o11, rfl, T5⟩ := h
      show Pv (i + 1) _ _
      rw [hP]
      exact ⟨_, _, _, _, _, _, _, _, _, rfl, S9.trans T5⟩
  · intro σ H' h
    exact q' _
end

theorem all_mk {l : PySem.W.OpenLaw} {w : World} {K : PySem.W.Frag} {h : Heap} {mg : Str → Option Value} {fa f1 f2 f3 f4 f5 f6 f7 f8 f9 f10 f11 f12 f13 f14 f15 f16 f17 f18 f19 f20 f21 f22 f23 f24 f25 f26 f27 f28 f29 f30 f31 f32 f33 f34 f35 f36 f37 f38 f39 f40 f41 : Addr} (X : K.In h) (G : h.Ns mainGlobals mg) (hfa : mg "law" = some (.ref fa))
    {c_Note c_OfTwo c_Anything c_Made c_Used c_Chief c_Over c_Both c_Either c_But : Addr}
    {od1 an1 od2 an2 od3 an3 od4 an4 od5 an5 od6 an6 od7 an7 od8 an8 od9 an9 od10 an10 od11 an11 od12 an12 od13 an13 od14 an14 od15 an15 od16 an16 od17 an17 od18 an18 od19 an19 od20 an20 od21 an21 od22 an22 od23 an23 od24 an24 od25 an25 od26 an26 od27 an27 od28 an28 od29 an29 od30 an30 od31 an31 od32 an32 od33 an33 od34 an34 od35 an35 od36 an36 od37 an37 od38 an38 od39 an39 od40 an40 od41 an41 : Option Addr} {sl1 sl2 sl3 sl4 sl5 sl6 sl7 sl8 sl9 sl10 sl11 sl12 sl13 sl14 sl15 sl16 sl17 sl18 sl19 sl20 sl21 sl22 sl23 sl24 sl25 sl26 sl27 sl28 sl29 sl30 sl31 sl32 sl33 sl34 sl35 sl36 sl37 sl38 sl39 sl40 sl41 : Array (Option Value)} {oc1 kV1 dc1 pm1 cd1 ct1 oc2 kV2 dc2 pm2 cd2 ct2 oc3 kV3 dc3 pm3 cd3 ct3 oc4 kV4 dc4 pm4 cd4 ct4 oc5 kV5 dc5 pm5 cd5 ct5 oc6 kV6 dc6 pm6 cd6 ct6 oc7 kV7 dc7 pm7 cd7 ct7 oc8 kV8 dc8 pm8 cd8 ct8 oc9 kV9 dc9 pm9 cd9 ct9 oc10 kV10 dc10 pm10 cd10 ct10 oc11 kV11 dc11 pm11 cd11 ct11 oc12 kV12 dc12 pm12 cd12 ct12 oc13 kV13 dc13 pm13 cd13 ct13 oc14 kV14 dc14 pm14 cd14 ct14 oc15 kV15 dc15 pm15 cd15 ct15 oc16 kV16 dc16 pm16 cd16 ct16 oc17 kV17 dc17 pm17 cd17 ct17 oc18 kV18 dc18 pm18 cd18 ct18 oc19 kV19 dc19 pm19 cd19 ct19 oc20 kV20 dc20 pm20 cd20 ct20 oc21 kV21 dc21 pm21 cd21 ct21 oc22 kV22 dc22 pm22 cd22 ct22 oc23 kV23 dc23 pm23 cd23 ct23 oc24 kV24 dc24 pm24 cd24 ct24 oc25 kV25 dc25 pm25 cd25 ct25 oc26 kV26 dc26 pm26 cd26 ct26 oc27 kV27 dc27 pm27 cd27 ct27 oc28 kV28 dc28 pm28 cd28 ct28 oc29 kV29 dc29 pm29 cd29 ct29 oc30 kV30 dc30 pm30 cd30 ct30 oc31 kV31 dc31 pm31 cd31 ct31 oc32 kV32 dc32 pm32 cd32 ct32 oc33 kV33 dc33 pm33 cd33 ct33 oc34 kV34 dc34 pm34 cd34 ct34 oc35 kV35 dc35 pm35 cd35 ct35 oc36 kV36 dc36 pm36 cd36 ct36 oc37 kV37 dc37 pm37 cd37 ct37 oc38 kV38 dc38 pm38 cd38 ct38 oc39 kV39 dc39 pm39 cd39 ct39 oc40 kV40 dc40 pm40 cd40 ct40 oc41 kV41 dc41 pm41 cd41 ct41 : Value}
    (n_Note : PySem.W.nsIn K mainGlobals "Note" = some (some (.ref c_Note)))
    (n_OfTwo : PySem.W.nsIn K mainGlobals "OfTwo" = some (some (.ref c_OfTwo)))
    (n_Anything : PySem.W.nsIn K mainGlobals "Anything" = some (some (.ref c_Anything)))
    (n_Made : PySem.W.nsIn K mainGlobals "Made" = some (some (.ref c_Made)))
    (n_Used : PySem.W.nsIn K mainGlobals "Used" = some (some (.ref c_Used)))
    (n_Chief : PySem.W.nsIn K mainGlobals "Chief" = some (some (.ref c_Chief)))
    (n_Over : PySem.W.nsIn K mainGlobals "Over" = some (some (.ref c_Over)))
    (n_Both : PySem.W.nsIn K mainGlobals "Both" = some (some (.ref c_Both)))
    (n_Either : PySem.W.nsIn K mainGlobals "Either" = some (some (.ref c_Either)))
    (n_But : PySem.W.nsIn K mainGlobals "But" = some (some (.ref c_But)))
    (a1 : PySem.W.nsIn K mainGlobals "is_name" = some (some (.ref f1))) (l1 : K.lookup f1 = some ⟨oc1, od1, .func (PySem.W.fnOf "is_name" "is_name" (defArgs s_is_name) (defBody s_is_name) (defScope s_is_name) .none kV1 dc1 pm1 an1 cd1 ct1), sl1⟩) (c1 : PySem.W.codeIn K cd1 "is_name" = true) (k1 : PySem.W.keepIn K (.ref f1) = true)
    (a2 : PySem.W.nsIn K mainGlobals "is_kind" = some (some (.ref f2))) (l2 : K.lookup f2 = some ⟨oc2, od2, .func (PySem.W.fnOf "is_kind" "is_kind" (defArgs s_is_kind) (defBody s_is_kind) (defScope s_is_kind) .none kV2 dc2 pm2 an2 cd2 ct2), sl2⟩) (c2 : PySem.W.codeIn K cd2 "is_kind" = true) (k2 : PySem.W.keepIn K (.ref f2) = true)
    (a3 : PySem.W.nsIn K mainGlobals "_law_cell" = some (some (.ref f3))) (l3 : K.lookup f3 = some ⟨oc3, od3, .func (PySem.W.fnOf "_law_cell" "_law_cell" (defArgs s_law_cell) (defBody s_law_cell) (defScope s_law_cell) .none kV3 dc3 pm3 an3 cd3 ct3), sl3⟩) (c3 : PySem.W.codeIn K cd3 "_law_cell" = true) (k3 : PySem.W.keepIn K (.ref f3) = true)
    (a4 : PySem.W.nsIn K mainGlobals "_law_mix" = some (some (.ref f4))) (l4 : K.lookup f4 = some ⟨oc4, od4, .func (PySem.W.fnOf "_law_mix" "_law_mix" (defArgs s_law_mix) (defBody s_law_mix) (defScope s_law_mix) .none kV4 dc4 pm4 an4 cd4 ct4), sl4⟩) (c4 : PySem.W.codeIn K cd4 "_law_mix" = true) (k4 : PySem.W.keepIn K (.ref f4) = true)
    (a5 : PySem.W.nsIn K mainGlobals "_law_words" = some (some (.ref f5))) (l5 : K.lookup f5 = some ⟨oc5, od5, .func (PySem.W.fnOf "_law_words" "_law_words" (defArgs s_law_words) (defBody s_law_words) (defScope s_law_words) .none kV5 dc5 pm5 an5 cd5 ct5), sl5⟩) (c5 : PySem.W.codeIn K cd5 "_law_words" = true) (k5 : PySem.W.keepIn K (.ref f5) = true)
    (a6 : PySem.W.nsIn K mainGlobals "_law_kinds" = some (some (.ref f6))) (l6 : K.lookup f6 = some ⟨oc6, od6, .func (PySem.W.fnOf "_law_kinds" "_law_kinds" (defArgs s_law_kinds) (defBody s_law_kinds) (defScope s_law_kinds) .none kV6 dc6 pm6 an6 cd6 ct6), sl6⟩) (c6 : PySem.W.codeIn K cd6 "_law_kinds" = true) (k6 : PySem.W.keepIn K (.ref f6) = true)
    (a7 : PySem.W.nsIn K mainGlobals "_law_plain" = some (some (.ref f7))) (l7 : K.lookup f7 = some ⟨oc7, od7, .func (PySem.W.fnOf "_law_plain" "_law_plain" (defArgs s_law_plain) (defBody s_law_plain) (defScope s_law_plain) .none kV7 dc7 pm7 an7 cd7 ct7), sl7⟩) (c7 : PySem.W.codeIn K cd7 "_law_plain" = true) (k7 : PySem.W.keepIn K (.ref f7) = true)
    (a8 : PySem.W.nsIn K mainGlobals "_law_note" = some (some (.ref f8))) (l8 : K.lookup f8 = some ⟨oc8, od8, .func (PySem.W.fnOf "_law_note" "_law_note" (defArgs s_law_note) (defBody s_law_note) (defScope s_law_note) .none kV8 dc8 pm8 an8 cd8 ct8), sl8⟩) (c8 : PySem.W.codeIn K cd8 "_law_note" = true) (k8 : PySem.W.keepIn K (.ref f8) = true)
    (a9 : PySem.W.findIn K (.ref c_Made) "__init__" = some (some (.ref f9))) (l9 : K.lookup f9 = some ⟨oc9, od9, .func (PySem.W.fnOf "__init__" "Made.__init__" (defArgs s_Made_init) (defBody s_Made_init) (defScope s_Made_init) .none kV9 dc9 pm9 an9 cd9 ct9), sl9⟩) (c9 : PySem.W.codeIn K cd9 "Made.__init__" = true) (k9 : PySem.W.keepIn K (.ref f9) = true)
    (t9 : PySem.W.isFn K (.ref f9) = true)
    (a10 : PySem.W.findIn K (.ref c_Used) "__init__" = some (some (.ref f10))) (l10 : K.lookup f10 = some ⟨oc10, od10, .func (PySem.W.fnOf "__init__" "Used.__init__" (defArgs s_Used_init) (defBody s_Used_init) (defScope s_Used_init) .none kV10 dc10 pm10 an10 cd10 ct10), sl10⟩) (c10 : PySem.W.codeIn K cd10 "Used.__init__" = true) (k10 : PySem.W.keepIn K (.ref f10) = true)
    (t10 : PySem.W.isFn K (.ref f10) = true)
    (a11 : PySem.W.findIn K (.ref c_Chief) "__init__" = some (some (.ref f11))) (l11 : K.lookup f11 = some ⟨oc11, od11, .func (PySem.W.fnOf "__init__" "Chief.__init__" (defArgs s_Chief_init) (defBody s_Chief_init) (defScope s_Chief_init) .none kV11 dc11 pm11 an11 cd11 ct11), sl11⟩) (c11 : PySem.W.codeIn K cd11 "Chief.__init__" = true) (k11 : PySem.W.keepIn K (.ref f11) = true)
    (t11 : PySem.W.isFn K (.ref f11) = true)
    (a12 : PySem.W.findIn K (.ref c_Over) "__init__" = some (some (.ref f12))) (l12 : K.lookup f12 = some ⟨oc12, od12, .func (PySem.W.fnOf "__init__" "Over.__init__" (defArgs s_Over_init) (defBody s_Over_init) (defScope s_Over_init) .none kV12 dc12 pm12 an12 cd12 ct12), sl12⟩) (c12 : PySem.W.codeIn K cd12 "Over.__init__" = true) (k12 : PySem.W.keepIn K (.ref f12) = true)
    (t12 : PySem.W.isFn K (.ref f12) = true)
    (a13 : PySem.W.findIn K (.ref c_OfTwo) "__init__" = some (some (.ref f13))) (l13 : K.lookup f13 = some ⟨oc13, od13, .func (PySem.W.fnOf "__init__" "OfTwo.__init__" (defArgs s_OfTwo_init) (defBody s_OfTwo_init) (defScope s_OfTwo_init) .none kV13 dc13 pm13 an13 cd13 ct13), sl13⟩) (c13 : PySem.W.codeIn K cd13 "OfTwo.__init__" = true) (k13 : PySem.W.keepIn K (.ref f13) = true)
    (t13 : PySem.W.isFn K (.ref f13) = true)
    (a14 : PySem.W.nsIn K mainGlobals "note_of_name" = some (some (.ref f14))) (l14 : K.lookup f14 = some ⟨oc14, od14, .func (PySem.W.fnOf "note_of_name" "note_of_name" (defArgs s_note_of_name) (defBody s_note_of_name) (defScope s_note_of_name) .none kV14 dc14 pm14 an14 cd14 ct14), sl14⟩) (c14 : PySem.W.codeIn K cd14 "note_of_name" = true) (k14 : PySem.W.keepIn K (.ref f14) = true)
    (a15 : PySem.W.nsIn K mainGlobals "note_of_notes" = some (some (.ref f15))) (l15 : K.lookup f15 = some ⟨oc15, od15, .func (PySem.W.fnOf "note_of_notes" "note_of_notes" (defArgs s_note_of_notes) (defBody s_note_of_notes) (defScope s_note_of_notes) .none kV15 dc15 pm15 an15 cd15 ct15), sl15⟩) (c15 : PySem.W.codeIn K cd15 "note_of_notes" = true) (k15 : PySem.W.keepIn K (.ref f15) = true)
    (a16 : PySem.W.nsIn K mainGlobals "note_of_one" = some (some (.ref f16))) (l16 : K.lookup f16 = some ⟨oc16, od16, .func (PySem.W.fnOf "note_of_one" "note_of_one" (defArgs s_note_of_one) (defBody s_note_of_one) (defScope s_note_of_one) .none kV16 dc16 pm16 an16 cd16 ct16), sl16⟩) (c16 : PySem.W.codeIn K cd16 "note_of_one" = true) (k16 : PySem.W.keepIn K (.ref f16) = true)
    (a17 : PySem.W.nsIn K mainGlobals "note_within" = some (some (.ref f17))) (l17 : K.lookup f17 = some ⟨oc17, od17, .func (PySem.W.fnOf "note_within" "note_within" (defArgs s_note_within) (defBody s_note_within) (defScope s_note_within) .none kV17 dc17 pm17 an17 cd17 ct17), sl17⟩) (c17 : PySem.W.codeIn K cd17 "note_within" = true) (k17 : PySem.W.keepIn K (.ref f17) = true)
    (a18 : PySem.W.nsIn K mainGlobals "note_of" = some (some (.ref f18))) (l18 : K.lookup f18 = some ⟨oc18, od18, .func (PySem.W.fnOf "note_of" "note_of" (defArgs s_note_of) (defBody s_note_of) (defScope s_note_of) .none kV18 dc18 pm18 an18 cd18 ct18), sl18⟩) (c18 : PySem.W.codeIn K cd18 "note_of" = true) (k18 : PySem.W.keepIn K (.ref f18) = true)
    (a19 : PySem.W.nsIn K mainGlobals "made_places" = some (some (.ref f19))) (l19 : K.lookup f19 = some ⟨oc19, od19, .func (PySem.W.fnOf "made_places" "made_places" (defArgs s_made_places) (defBody s_made_places) (defScope s_made_places) .none kV19 dc19 pm19 an19 cd19 ct19), sl19⟩) (c19 : PySem.W.codeIn K cd19 "made_places" = true) (k19 : PySem.W.keepIn K (.ref f19) = true)
    (a20 : PySem.W.nsIn K mainGlobals "used_places" = some (some (.ref f20))) (l20 : K.lookup f20 = some ⟨oc20, od20, .func (PySem.W.fnOf "used_places" "used_places" (defArgs s_used_places) (defBody s_used_places) (defScope s_used_places) .none kV20 dc20 pm20 an20 cd20 ct20), sl20⟩) (c20 : PySem.W.codeIn K cd20 "used_places" = true) (k20 : PySem.W.keepIn K (.ref f20) = true)
    (a21 : PySem.W.nsIn K mainGlobals "chief_places" = some (some (.ref f21))) (l21 : K.lookup f21 = some ⟨oc21, od21, .func (PySem.W.fnOf "chief_places" "chief_places" (defArgs s_chief_places) (defBody s_chief_places) (defScope s_chief_places) .none kV21 dc21 pm21 an21 cd21 ct21), sl21⟩) (c21 : PySem.W.codeIn K cd21 "chief_places" = true) (k21 : PySem.W.keepIn K (.ref f21) = true)
    (a22 : PySem.W.nsIn K mainGlobals "number_in" = some (some (.ref f22))) (l22 : K.lookup f22 = some ⟨oc22, od22, .func (PySem.W.fnOf "number_in" "number_in" (defArgs s_number_in) (defBody s_number_in) (defScope s_number_in) .none kV22 dc22 pm22 an22 cd22 ct22), sl22⟩) (c22 : PySem.W.codeIn K cd22 "number_in" = true) (k22 : PySem.W.keepIn K (.ref f22) = true)
    (a23 : PySem.W.nsIn K mainGlobals "is_over" = some (some (.ref f23))) (l23 : K.lookup f23 = some ⟨oc23, od23, .func (PySem.W.fnOf "is_over" "is_over" (defArgs s_is_over) (defBody s_is_over) (defScope s_is_over) .none kV23 dc23 pm23 an23 cd23 ct23), sl23⟩) (c23 : PySem.W.codeIn K cd23 "is_over" = true) (k23 : PySem.W.keepIn K (.ref f23) = true)
    (a24 : PySem.W.nsIn K mainGlobals "place_reason" = some (some (.ref f24))) (l24 : K.lookup f24 = some ⟨oc24, od24, .func (PySem.W.fnOf "place_reason" "place_reason" (defArgs s_place_reason) (defBody s_place_reason) (defScope s_place_reason) .none kV24 dc24 pm24 an24 cd24 ct24), sl24⟩) (c24 : PySem.W.codeIn K cd24 "place_reason" = true) (k24 : PySem.W.keepIn K (.ref f24) = true)
    (a25 : PySem.W.findIn K (.ref c_Anything) "reason" = some (some (.ref f25))) (l25 : K.lookup f25 = some ⟨oc25, od25, .func (PySem.W.fnOf "reason" "Anything.reason" (defArgs s_Anything_reason) (defBody s_Anything_reason) (defScope s_Anything_reason) .none kV25 dc25 pm25 an25 cd25 ct25), sl25⟩) (c25 : PySem.W.codeIn K cd25 "Anything.reason" = true) (k25 : PySem.W.keepIn K (.ref f25) = true)
    (t25 : PySem.W.isFn K (.ref f25) = true)
    (a26 : PySem.W.findIn K (.ref c_Made) "reason" = some (some (.ref f26))) (l26 : K.lookup f26 = some ⟨oc26, od26, .func (PySem.W.fnOf "reason" "Made.reason" (defArgs s_Made_reason) (defBody s_Made_reason) (defScope s_Made_reason) .none kV26 dc26 pm26 an26 cd26 ct26), sl26⟩) (c26 : PySem.W.codeIn K cd26 "Made.reason" = true) (k26 : PySem.W.keepIn K (.ref f26) = true)
    (t26 : PySem.W.isFn K (.ref f26) = true)
    (a27 : PySem.W.findIn K (.ref c_Used) "reason" = some (some (.ref f27))) (l27 : K.lookup f27 = some ⟨oc27, od27, .func (PySem.W.fnOf "reason" "Used.reason" (defArgs s_Used_reason) (defBody s_Used_reason) (defScope s_Used_reason) .none kV27 dc27 pm27 an27 cd27 ct27), sl27⟩) (c27 : PySem.W.codeIn K cd27 "Used.reason" = true) (k27 : PySem.W.keepIn K (.ref f27) = true)
    (t27 : PySem.W.isFn K (.ref f27) = true)
    (a28 : PySem.W.findIn K (.ref c_Chief) "reason" = some (some (.ref f28))) (l28 : K.lookup f28 = some ⟨oc28, od28, .func (PySem.W.fnOf "reason" "Chief.reason" (defArgs s_Chief_reason) (defBody s_Chief_reason) (defScope s_Chief_reason) .none kV28 dc28 pm28 an28 cd28 ct28), sl28⟩) (c28 : PySem.W.codeIn K cd28 "Chief.reason" = true) (k28 : PySem.W.keepIn K (.ref f28) = true)
    (t28 : PySem.W.isFn K (.ref f28) = true)
    (a29 : PySem.W.findIn K (.ref c_Over) "reason" = some (some (.ref f29))) (l29 : K.lookup f29 = some ⟨oc29, od29, .func (PySem.W.fnOf "reason" "Over.reason" (defArgs s_Over_reason) (defBody s_Over_reason) (defScope s_Over_reason) .none kV29 dc29 pm29 an29 cd29 ct29), sl29⟩) (c29 : PySem.W.codeIn K cd29 "Over.reason" = true) (k29 : PySem.W.keepIn K (.ref f29) = true)
    (t29 : PySem.W.isFn K (.ref f29) = true)
    (a30 : PySem.W.findIn K (.ref c_Both) "reason" = some (some (.ref f30))) (l30 : K.lookup f30 = some ⟨oc30, od30, .func (PySem.W.fnOf "reason" "Both.reason" (defArgs s_Both_reason) (defBody s_Both_reason) (defScope s_Both_reason) .none kV30 dc30 pm30 an30 cd30 ct30), sl30⟩) (c30 : PySem.W.codeIn K cd30 "Both.reason" = true) (k30 : PySem.W.keepIn K (.ref f30) = true)
    (t30 : PySem.W.isFn K (.ref f30) = true)
    (a31 : PySem.W.findIn K (.ref c_Either) "reason" = some (some (.ref f31))) (l31 : K.lookup f31 = some ⟨oc31, od31, .func (PySem.W.fnOf "reason" "Either.reason" (defArgs s_Either_reason) (defBody s_Either_reason) (defScope s_Either_reason) .none kV31 dc31 pm31 an31 cd31 ct31), sl31⟩) (c31 : PySem.W.codeIn K cd31 "Either.reason" = true) (k31 : PySem.W.keepIn K (.ref f31) = true)
    (t31 : PySem.W.isFn K (.ref f31) = true)
    (a32 : PySem.W.findIn K (.ref c_But) "reason" = some (some (.ref f32))) (l32 : K.lookup f32 = some ⟨oc32, od32, .func (PySem.W.fnOf "reason" "But.reason" (defArgs s_But_reason) (defBody s_But_reason) (defScope s_But_reason) .none kV32 dc32 pm32 an32 cd32 ct32), sl32⟩) (c32 : PySem.W.codeIn K cd32 "But.reason" = true) (k32 : PySem.W.keepIn K (.ref f32) = true)
    (t32 : PySem.W.isFn K (.ref f32) = true)
    (a33 : PySem.W.findIn K (.ref c_Note) "claims" = some (some (.ref f33))) (l33 : K.lookup f33 = some ⟨oc33, od33, .func (PySem.W.fnOf "claims" "Note.claims" (defArgs s_Note_claims) (defBody s_Note_claims) (defScope s_Note_claims) .none kV33 dc33 pm33 an33 cd33 ct33), sl33⟩) (c33 : PySem.W.codeIn K cd33 "Note.claims" = true) (k33 : PySem.W.keepIn K (.ref f33) = true)
    (t33 : PySem.W.isFn K (.ref f33) = true)
    (a34 : PySem.W.nsIn K mainGlobals "_law_look" = some (some (.ref f34))) (l34 : K.lookup f34 = some ⟨oc34, od34, .func (PySem.W.fnOf "_law_look" "_law_look" (defArgs s_law_look) (defBody s_law_look) (defScope s_law_look) .none kV34 dc34 pm34 an34 cd34 ct34), sl34⟩) (c34 : PySem.W.codeIn K cd34 "_law_look" = true) (k34 : PySem.W.keepIn K (.ref f34) = true)
    (a35 : PySem.W.nsIn K mainGlobals "_law_weighs" = some (some (.ref f35))) (l35 : K.lookup f35 = some ⟨oc35, od35, .func (PySem.W.fnOf "_law_weighs" "_law_weighs" (defArgs s_law_weighs) (defBody s_law_weighs) (defScope s_law_weighs) .none kV35 dc35 pm35 an35 cd35 ct35), sl35⟩) (c35 : PySem.W.codeIn K cd35 "_law_weighs" = true) (k35 : PySem.W.keepIn K (.ref f35) = true)
    (a36 : PySem.W.nsIn K mainGlobals "_law_shows" = some (some (.ref f36))) (l36 : K.lookup f36 = some ⟨oc36, od36, .func (PySem.W.fnOf "_law_shows" "_law_shows" (defArgs s_law_shows) (defBody s_law_shows) (defScope s_law_shows) .none kV36 dc36 pm36 an36 cd36 ct36), sl36⟩) (c36 : PySem.W.codeIn K cd36 "_law_shows" = true) (k36 : PySem.W.keepIn K (.ref f36) = true)
    (a37 : PySem.W.nsIn K mainGlobals "_law_plain_claims" = some (some (.ref f37))) (l37 : K.lookup f37 = some ⟨oc37, od37, .func (PySem.W.fnOf "_law_plain_claims" "_law_plain_claims" (defArgs s_law_plain_claims) (defBody s_law_plain_claims) (defScope s_law_plain_claims) .none kV37 dc37 pm37 an37 cd37 ct37), sl37⟩) (c37 : PySem.W.codeIn K cd37 "_law_plain_claims" = true) (k37 : PySem.W.keepIn K (.ref f37) = true)
    (a38 : PySem.W.nsIn K mainGlobals "_law_claims" = some (some (.ref f38))) (l38 : K.lookup f38 = some ⟨oc38, od38, .func (PySem.W.fnOf "_law_claims" "_law_claims" (defArgs s_law_claims) (defBody s_law_claims) (defScope s_law_claims) .none kV38 dc38 pm38 an38 cd38 ct38), sl38⟩) (c38 : PySem.W.codeIn K cd38 "_law_claims" = true) (k38 : PySem.W.keepIn K (.ref f38) = true)
    (a39 : PySem.W.nsIn K mainGlobals "_law_made" = some (some (.ref f39))) (l39 : K.lookup f39 = some ⟨oc39, od39, .func (PySem.W.fnOf "_law_made" "_law_made" (defArgs s_law_made) (defBody s_law_made) (defScope s_law_made) .none kV39 dc39 pm39 an39 cd39 ct39), sl39⟩) (c39 : PySem.W.codeIn K cd39 "_law_made" = true) (k39 : PySem.W.keepIn K (.ref f39) = true)
    (a40 : PySem.W.nsIn K mainGlobals "_law_good" = some (some (.ref f40))) (l40 : K.lookup f40 = some ⟨oc40, od40, .func (PySem.W.fnOf "_law_good" "_law_good" (defArgs s_law_good) (defBody s_law_good) (defScope s_law_good) .none kV40 dc40 pm40 an40 cd40 ct40), sl40⟩) (c40 : PySem.W.codeIn K cd40 "_law_good" = true) (k40 : PySem.W.keepIn K (.ref f40) = true)
    (a41 : PySem.W.nsIn K mainGlobals "law" = some (some (.ref f41))) (l41 : K.lookup f41 = some ⟨oc41, od41, .func (PySem.W.fnOf "law" "law" (defArgs s_law) (defBody s_law) (defScope s_law) .none kV41 dc41 pm41 an41 cd41 ct41), sl41⟩) (c41 : PySem.W.codeIn K cd41 "law" = true) (k41 : PySem.W.keepIn K (.ref f41) = true)
    (pg_Anything : PySem.W.plainGet K c_Anything Str.empty = true)
    (hd_Anything : PySem.W.hasDictIn K c_Anything = true)
    (po_Anything : PySem.W.plainOver K c_Anything = true)
    (sa_Anything : PySem.W.findIn K (.ref c_Anything) "__setattr__" = some (some (.builtin "object.__setattr__")))
    (ia_Anything : PySem.W.findIn K (.ref c_Anything) "__class__" = some (some (.builtin "object.__class__")))
    (im_Anything : PySem.W.mroIn K c_Anything (.type "object") = some true)
    (mk_Anything : PySem.W.makesIn K c_Anything = true)
    (kc_Anything : PySem.W.keepIn K (.ref c_Anything) = true)
    (in_Anything : PySem.W.findIn K (.ref c_Anything) "__init__" = some (some (.builtin "object.__init__")))
    (pg_Made : PySem.W.plainGet K c_Made Str.empty = true)
    (hd_Made : PySem.W.hasDictIn K c_Made = true)
    (po_Made : PySem.W.plainOver K c_Made = true)
    (sa_Made : PySem.W.findIn K (.ref c_Made) "__setattr__" = some (some (.builtin "object.__setattr__")))
    (ia_Made : PySem.W.findIn K (.ref c_Made) "__class__" = some (some (.builtin "object.__class__")))
    (im_Made : PySem.W.mroIn K c_Made (.type "object") = some true)
    (mk_Made : PySem.W.makesIn K c_Made = true)
    (kc_Made : PySem.W.keepIn K (.ref c_Made) = true)
    (pg_Used : PySem.W.plainGet K c_Used Str.empty = true)
    (hd_Used : PySem.W.hasDictIn K c_Used = true)
    (po_Used : PySem.W.plainOver K c_Used = true)
    (sa_Used : PySem.W.findIn K (.ref c_Used) "__setattr__" = some (some (.builtin "object.__setattr__")))
    (ia_Used : PySem.W.findIn K (.ref c_Used) "__class__" = some (some (.builtin "object.__class__")))
    (im_Used : PySem.W.mroIn K c_Used (.type "object") = some true)
    (mk_Used : PySem.W.makesIn K c_Used = true)
    (kc_Used : PySem.W.keepIn K (.ref c_Used) = true)
    (pg_Chief : PySem.W.plainGet K c_Chief Str.empty = true)
    (hd_Chief : PySem.W.hasDictIn K c_Chief = true)
    (po_Chief : PySem.W.plainOver K c_Chief = true)
    (sa_Chief : PySem.W.findIn K (.ref c_Chief) "__setattr__" = some (some (.builtin "object.__setattr__")))
    (ia_Chief : PySem.W.findIn K (.ref c_Chief) "__class__" = some (some (.builtin "object.__class__")))
    (im_Chief : PySem.W.mroIn K c_Chief (.type "object") = some true)
    (mk_Chief : PySem.W.makesIn K c_Chief = true)
    (kc_Chief : PySem.W.keepIn K (.ref c_Chief) = true)
    (pg_Over : PySem.W.plainGet K c_Over Str.empty = true)
    (hd_Over : PySem.W.hasDictIn K c_Over = true)
    (po_Over : PySem.W.plainOver K c_Over = true)
    (sa_Over : PySem.W.findIn K (.ref c_Over) "__setattr__" = some (some (.builtin "object.__setattr__")))
    (ia_Over : PySem.W.findIn K (.ref c_Over) "__class__" = some (some (.builtin "object.__class__")))
    (im_Over : PySem.W.mroIn K c_Over (.type "object") = some true)
    (mk_Over : PySem.W.makesIn K c_Over = true)
    (kc_Over : PySem.W.keepIn K (.ref c_Over) = true)
    (pg_Both : PySem.W.plainGet K c_Both Str.empty = true)
    (hd_Both : PySem.W.hasDictIn K c_Both = true)
    (po_Both : PySem.W.plainOver K c_Both = true)
    (sa_Both : PySem.W.findIn K (.ref c_Both) "__setattr__" = some (some (.builtin "object.__setattr__")))
    (ia_Both : PySem.W.findIn K (.ref c_Both) "__class__" = some (some (.builtin "object.__class__")))
    (im_Both : PySem.W.mroIn K c_Both (.type "object") = some true)
    (mk_Both : PySem.W.makesIn K c_Both = true)
    (kc_Both : PySem.W.keepIn K (.ref c_Both) = true)
    (pg_Either : PySem.W.plainGet K c_Either Str.empty = true)
    (hd_Either : PySem.W.hasDictIn K c_Either = true)
    (po_Either : PySem.W.plainOver K c_Either = true)
    (sa_Either : PySem.W.findIn K (.ref c_Either) "__setattr__" = some (some (.builtin "object.__setattr__")))
    (ia_Either : PySem.W.findIn K (.ref c_Either) "__class__" = some (some (.builtin "object.__class__")))
    (im_Either : PySem.W.mroIn K c_Either (.type "object") = some true)
    (mk_Either : PySem.W.makesIn K c_Either = true)
    (kc_Either : PySem.W.keepIn K (.ref c_Either) = true)
    (pg_But : PySem.W.plainGet K c_But Str.empty = true)
    (hd_But : PySem.W.hasDictIn K c_But = true)
    (po_But : PySem.W.plainOver K c_But = true)
    (sa_But : PySem.W.findIn K (.ref c_But) "__setattr__" = some (some (.builtin "object.__setattr__")))
    (ia_But : PySem.W.findIn K (.ref c_But) "__class__" = some (some (.builtin "object.__class__")))
    (im_But : PySem.W.mroIn K c_But (.type "object") = some true)
    (mk_But : PySem.W.makesIn K c_But = true)
    (kc_But : PySem.W.keepIn K (.ref c_But) = true)
    (oget : PySem.W.specialIn K (.builtin "object.__class__") "__get__" = some (some (.builtin "getset_descriptor.__get__")))
    (otakes : PySem.W.takesIn K (.builtin "object.__class__") = some true)
    (na_Made_stuff : PySem.W.findIn K (.ref c_Made) "stuff" = some none)
    (na_Used_use : PySem.W.findIn K (.ref c_Used) "use" = some none)
    (na_Chief_stuff : PySem.W.findIn K (.ref c_Chief) "stuff" = some none)
    (na_Over_one : PySem.W.findIn K (.ref c_Over) "one" = some none)
    (na_Over_other : PySem.W.findIn K (.ref c_Over) "other" = some none)
    (na_Both_one : PySem.W.findIn K (.ref c_Both) "one" = some none)
    (na_Both_other : PySem.W.findIn K (.ref c_Both) "other" = some none)
    (na_Either_one : PySem.W.findIn K (.ref c_Either) "one" = some none)
    (na_Either_other : PySem.W.findIn K (.ref c_Either) "other" = some none)
    (na_But_one : PySem.W.findIn K (.ref c_But) "one" = some none)
    (na_But_other : PySem.W.findIn K (.ref c_But) "other" = some none)
    (kit_Anything : PySem.W.kitOne K (.ref c_Anything) (.ref c_Note) = some true)
    (kit_Made : PySem.W.kitOne K (.ref c_Made) (.ref c_Note) = some true)
    (kit_Used : PySem.W.kitOne K (.ref c_Used) (.ref c_Note) = some true)
    (kit_Chief : PySem.W.kitOne K (.ref c_Chief) (.ref c_Note) = some true)
    (kit_Over : PySem.W.kitOne K (.ref c_Over) (.ref c_Note) = some true)
    (kit_Both : PySem.W.kitOne K (.ref c_Both) (.ref c_Note) = some true)
    (kit_Either : PySem.W.kitOne K (.ref c_Either) (.ref c_Note) = some true)
    (kit_But : PySem.W.kitOne K (.ref c_But) (.ref c_Note) = some true)
    (in_Both : PySem.W.findIn K (.ref c_Both) "__init__" = some (some (.ref f13)))
    (in_Either : PySem.W.findIn K (.ref c_Either) "__init__" = some (some (.ref f13)))
    (in_But : PySem.W.findIn K (.ref c_But) "__init__" = some (some (.ref f13)))
    (cm_Anything : PySem.W.findIn K (.ref c_Anything) "claims" = some (some (.ref f33)))
    (cm_Made : PySem.W.findIn K (.ref c_Made) "claims" = some (some (.ref f33)))
    (cm_Used : PySem.W.findIn K (.ref c_Used) "claims" = some (some (.ref f33)))
    (cm_Chief : PySem.W.findIn K (.ref c_Chief) "claims" = some (some (.ref f33)))
    (cm_Over : PySem.W.findIn K (.ref c_Over) "claims" = some (some (.ref f33)))
    (cm_Both : PySem.W.findIn K (.ref c_Both) "claims" = some (some (.ref f33)))
    (cm_Either : PySem.W.findIn K (.ref c_Either) "claims" = some (some (.ref f33)))
    (cm_But : PySem.W.findIn K (.ref c_But) "claims" = some (some (.ref f33)))
    (z_reversed : PySem.W.nsIn K mainGlobals "reversed" = some none)
    (z_len : PySem.W.nsIn K mainGlobals "len" = some none)
    (z_range : PySem.W.nsIn K mainGlobals "range" = some none)
    (z_abs : PySem.W.nsIn K mainGlobals "abs" = some none)
    (z_max : PySem.W.nsIn K mainGlobals "max" = some none)
    (z_min : PySem.W.nsIn K mainGlobals "min" = some none)
    (z_isinstance : PySem.W.nsIn K mainGlobals "isinstance" = some none)
    (z_int : PySem.W.nsIn K mainGlobals "int" = some none)
    (z_bool : PySem.W.nsIn K mainGlobals "bool" = some none)
    (z_str : PySem.W.nsIn K mainGlobals "str" = some none)
    (z_list : PySem.W.nsIn K mainGlobals "list" = some none)
    (z_tuple : PySem.W.nsIn K mainGlobals "tuple" = some none)
    (z_sum : PySem.W.nsIn K mainGlobals "sum" = some none)
    (z_all : PySem.W.nsIn K mainGlobals "all" = some none)
    (z_enumerate : PySem.W.nsIn K mainGlobals "enumerate" = some none)
    (z_zip : PySem.W.nsIn K mainGlobals "zip" = some none)
    (z_ValueError : PySem.W.nsIn K mainGlobals "ValueError" = some none)
    (z_any : PySem.W.nsIn K mainGlobals "any" = some none)
    (z_set : PySem.W.nsIn K mainGlobals "set" = some none)
    (z_sorted : PySem.W.nsIn K mainGlobals "sorted" = some none)
    : ∃ fd : FuncData, (∀ (s : Shared) (v : Value), BindsTo s fd ⟨[v], []⟩ [("_law_script", v)]) ∧ ∀ base : Heap, K.In base → base.Ns mainGlobals mg → FnOk l.prog w K mg base CX0 18 fa fd ["_law_script"] (spLaw K) := by
  have e := hfa.symm.trans (PySem.W.mg_of X G a41)
  cases e
  have F1 := fun_mk (st := s_is_name) l1 c1 k1
  have F2 := fun_mk (st := s_is_kind) l2 c2 k2
  have F3 := fun_mk (st := s_law_cell) l3 c3 k3
  have F4 := fun_mk (st := s_law_mix) l4 c4 k4
  have F5 := fun_mk (st := s_law_words) l5 c5 k5
  have F6 := fun_mk (st := s_law_kinds) l6 c6 k6
  have F7 := fun_mk (st := s_law_plain) l7 c7 k7
  have F8 := fun_mk (st := s_law_note) l8 c8 k8
  have F9 := fun_mk (st := s_Made_init) l9 c9 k9
  have F10 := fun_mk (st := s_Used_init) l10 c10 k10
  have F11 := fun_mk (st := s_Chief_init) l11 c11 k11
  have F12 := fun_mk (st := s_Over_init) l12 c12 k12
  have F13 := fun_mk (st := s_OfTwo_init) l13 c13 k13
  have F14 := fun_mk (st := s_note_of_name) l14 c14 k14
  have F15 := fun_mk (st := s_note_of_notes) l15 c15 k15
  have F16 := fun_mk (st := s_note_of_one) l16 c16 k16
  have F17 := fun_mk (st := s_note_within) l17 c17 k17
  have F18 := fun_mk (st := s_note_of) l18 c18 k18
  have F19 := fun_mk (st := s_made_places) l19 c19 k19
  have F20 := fun_mk (st := s_used_places) l20 c20 k20
  have F21 := fun_mk (st := s_chief_places) l21 c21 k21
  have F22 := fun_mk (st := s_number_in) l22 c22 k22
  have F23 := fun_mk (st := s_is_over) l23 c23 k23
  have F24 := fun_mk (st := s_place_reason) l24 c24 k24
  have F25 := fun_mk (st := s_Anything_reason) l25 c25 k25
  have F26 := fun_mk (st := s_Made_reason) l26 c26 k26
  have F27 := fun_mk (st := s_Used_reason) l27 c27 k27
  have F28 := fun_mk (st := s_Chief_reason) l28 c28 k28
  have F29 := fun_mk (st := s_Over_reason) l29 c29 k29
  have F30 := fun_mk (st := s_Both_reason) l30 c30 k30
  have F31 := fun_mk (st := s_Either_reason) l31 c31 k31
  have F32 := fun_mk (st := s_But_reason) l32 c32 k32
  have F33 := fun_mk (st := s_Note_claims) l33 c33 k33
  have F34 := fun_mk (st := s_law_look) l34 c34 k34
  have F35 := fun_mk (st := s_law_weighs) l35 c35 k35
  have F36 := fun_mk (st := s_law_shows) l36 c36 k36
  have F37 := fun_mk (st := s_law_plain_claims) l37 c37 k37
  have F38 := fun_mk (st := s_law_claims) l38 c38 k38
  have F39 := fun_mk (st := s_law_made) l39 c39 k39
  have F40 := fun_mk (st := s_law_good) l40 c40 k40
  have F41 := fun_mk (st := s_law) l41 c41 k41
  have b1 := F1.binds (ps := ["thing"]) fun _ _ _ _ _ _ us hl => match us, hl with | [_], _ => rfl
  have b2 := F2.binds (ps := ["thing"]) fun _ _ _ _ _ _ us hl => match us, hl with | [_], _ => rfl
  have b3 := F3.binds (ps := ["_law_script", "_law_k"]) fun _ _ _ _ _ _ us hl => match us, hl with | [_, _], _ => rfl
  have b4 := F4.binds (ps := ["_law_number", "_law_k", "_law_many"]) fun _ _ _ _ _ _ us hl => match us, hl with | [_, _, _], _ => rfl
  have b5 := F5.binds (ps := ["_law_cell_here", "_law_many"]) fun _ _ _ _ _ _ us hl => match us, hl with | [_, _], _ => rfl
  have b6 := F6.binds (ps := ["_law_cell_here", "_law_words_here"]) fun _ _ _ _ _ _ us hl => match us, hl with | [_, _], _ => rfl
  have b7 := F7.binds (ps := ["_law_number", "_law_kinds_here", "_law_words_here"]) fun _ _ _ _ _ _ us hl => match us, hl with | [_, _, _], _ => rfl
  have b8 := F8.binds (ps := ["_law_number", "_law_deep", "_law_kinds_here", "_law_words_here"]) fun _ _ _ _ _ _ us hl => match us, hl with | [_, _, _, _], _ => rfl
  have b9 := F9.binds (ps := ["self", "stuff"]) fun _ _ _ _ _ _ us hl => match us, hl with | [_, _], _ => rfl
  have b10 := F10.binds (ps := ["self", "use"]) fun _ _ _ _ _ _ us hl => match us, hl with | [_, _], _ => rfl
  have b11 := F11.binds (ps := ["self", "stuff"]) fun _ _ _ _ _ _ us hl => match us, hl with | [_, _], _ => rfl
  have b12 := F12.binds (ps := ["self", "one", "other"]) fun _ _ _ _ _ _ us hl => match us, hl with | [_, _, _], _ => rfl
  have b13 := F13.binds (ps := ["self", "one", "other"]) fun _ _ _ _ _ _ us hl => match us, hl with | [_, _, _], _ => rfl
  have b14 := F14.binds (ps := ["word", "name"]) fun _ _ _ _ _ _ us hl => match us, hl with | [_, _], _ => rfl
  have b15 := F15.binds (ps := ["word", "one", "other"]) fun _ _ _ _ _ _ us hl => match us, hl with | [_, _, _], _ => rfl
  have b16 := F16.binds (ps := ["told"]) fun _ _ _ _ _ _ us hl => match us, hl with | [_], _ => rfl
  have b17 := F17.binds (ps := ["left", "told"]) fun _ _ _ _ _ _ us hl => match us, hl with | [_, _], _ => rfl
  have b18 := F18.binds (ps := ["told"]) fun _ _ _ _ _ _ us hl => match us, hl with | [_], _ => rfl
  have b19 := F19.binds (ps := ["kinds", "look", "stuff"]) fun _ _ _ _ _ _ us hl => match us, hl with | [_, _, _], _ => rfl
  have b20 := F20.binds (ps := ["kinds", "look", "use"]) fun _ _ _ _ _ _ us hl => match us, hl with | [_, _, _], _ => rfl
  have b21 := F21.binds (ps := ["kinds", "look", "stuff"]) fun _ _ _ _ _ _ us hl => match us, hl with | [_, _, _], _ => rfl
  have b22 := F22.binds (ps := ["kinds", "look", "kind"]) fun _ _ _ _ _ _ us hl => match us, hl with | [_, _, _], _ => rfl
  have b23 := F23.binds (ps := ["kinds", "look", "one", "other"]) fun _ _ _ _ _ _ us hl => match us, hl with | [_, _, _, _], _ => rfl
  have b24 := F24.binds (ps := ["places"]) fun _ _ _ _ _ _ us hl => match us, hl with | [_], _ => rfl
  have b25 := F25.binds (ps := ["self", "kinds", "look"]) fun _ _ _ _ _ _ us hl => match us, hl with | [_, _, _], _ => rfl
  have b26 := F26.binds (ps := ["self", "kinds", "look"]) fun _ _ _ _ _ _ us hl => match us, hl with | [_, _, _], _ => rfl
  have b27 := F27.binds (ps := ["self", "kinds", "look"]) fun _ _ _ _ _ _ us hl => match us, hl with | [_, _, _], _ => rfl
  have b28 := F28.binds (ps := ["self", "kinds", "look"]) fun _ _ _ _ _ _ us hl => match us, hl with | [_, _, _], _ => rfl
  have b29 := F29.binds (ps := ["self", "kinds", "look"]) fun _ _ _ _ _ _ us hl => match us, hl with | [_, _, _], _ => rfl
  have b30 := F30.binds (ps := ["self", "kinds", "look"]) fun _ _ _ _ _ _ us hl => match us, hl with | [_, _, _], _ => rfl
  have b31 := F31.binds (ps := ["self", "kinds", "look"]) fun _ _ _ _ _ _ us hl => match us, hl with | [_, _, _], _ => rfl
  have b32 := F32.binds (ps := ["self", "kinds", "look"]) fun _ _ _ _ _ _ us hl => match us, hl with | [_, _, _], _ => rfl
  have b33 := F33.binds (ps := ["self", "kinds", "look"]) fun _ _ _ _ _ _ us hl => match us, hl with | [_, _, _], _ => rfl
  have b34 := F34.binds (ps := ["_law_cell_here", "_law_many"]) fun _ _ _ _ _ _ us hl => match us, hl with | [_, _], _ => rfl
  have b35 := F35.binds (ps := ["_law_kinds_here", "_law_look_here", "_law_kind"]) fun _ _ _ _ _ _ us hl => match us, hl with | [_, _, _], _ => rfl
  have b36 := F36.binds (ps := ["_law_told", "_law_kinds_here", "_law_look_here", "_law_k"]) fun _ _ _ _ _ _ us hl => match us, hl with | [_, _, _, _], _ => rfl
  have b37 := F37.binds (ps := ["_law_told", "_law_kinds_here", "_law_look_here"]) fun _ _ _ _ _ _ us hl => match us, hl with | [_, _, _], _ => rfl
  have b38 := F38.binds (ps := ["_law_told", "_law_kinds_here", "_law_look_here"]) fun _ _ _ _ _ _ us hl => match us, hl with | [_, _, _], _ => rfl
  have b39 := F39.binds (ps := ["_law_told"]) fun _ _ _ _ _ _ us hl => match us, hl with | [_], _ => rfl
  have b40 := F40.binds (ps := ["_law_note_here", "_law_told", "_law_kinds_here", "_law_look_here"]) fun _ _ _ _ _ _ us hl => match us, hl with | [_, _, _, _], _ => rfl
  have M : Mg mg := ⟨PySem.W.mg_none_of X G z_len, PySem.W.mg_none_of X G z_range, PySem.W.mg_none_of X G z_abs, PySem.W.mg_none_of X G z_max, PySem.W.mg_none_of X G z_min, PySem.W.mg_none_of X G z_isinstance, PySem.W.mg_none_of X G z_int, PySem.W.mg_none_of X G z_bool, PySem.W.mg_none_of X G z_str, PySem.W.mg_none_of X G z_list, PySem.W.mg_none_of X G z_tuple, PySem.W.mg_none_of X G z_sum, PySem.W.mg_none_of X G z_all, PySem.W.mg_none_of X G z_enumerate, PySem.W.mg_none_of X G z_zip, PySem.W.mg_none_of X G z_ValueError, PySem.W.mg_none_of X G z_any, PySem.W.mg_none_of X G z_set, PySem.W.mg_none_of X G z_sorted⟩
  refine ⟨PySem.W.fnOf "law" "law" (defArgs s_law) (defBody s_law) (defScope s_law) .none kV41 dc41 pm41 an41 cd41 ct41, fun s v => .of_eq rfl, fun base _ _ => ?_⟩
  have A_Note := PySem.W.mg_of X G n_Note
  have A_OfTwo := PySem.W.mg_of X G n_OfTwo
  have A_Anything := PySem.W.mg_of X G n_Anything
  have A_Made := PySem.W.mg_of X G n_Made
  have A_Used := PySem.W.mg_of X G n_Used
  have A_Chief := PySem.W.mg_of X G n_Chief
  have A_Over := PySem.W.mg_of X G n_Over
  have A_Both := PySem.W.mg_of X G n_Both
  have A_Either := PySem.W.mg_of X G n_Either
  have A_But := PySem.W.mg_of X G n_But
  have cls_Anything : Cls K c_Anything := ⟨pg_Anything, hd_Anything, po_Anything, sa_Anything⟩
  have ic_Anything : ICls K c_Anything := ⟨cls_Anything, ia_Anything, oget, otakes, im_Anything⟩
  have Z_Anything : Mk0 K c_Anything := ⟨mk_Anything, in_Anything, kc_Anything⟩
  have cls_Made : Cls K c_Made := ⟨pg_Made, hd_Made, po_Made, sa_Made⟩
  have ic_Made : ICls K c_Made := ⟨cls_Made, ia_Made, oget, otakes, im_Made⟩
  have cls_Used : Cls K c_Used := ⟨pg_Used, hd_Used, po_Used, sa_Used⟩
  have ic_Used : ICls K c_Used := ⟨cls_Used, ia_Used, oget, otakes, im_Used⟩
  have cls_Chief : Cls K c_Chief := ⟨pg_Chief, hd_Chief, po_Chief, sa_Chief⟩
  have ic_Chief : ICls K c_Chief := ⟨cls_Chief, ia_Chief, oget, otakes, im_Chief⟩
  have cls_Over : Cls K c_Over := ⟨pg_Over, hd_Over, po_Over, sa_Over⟩
  have ic_Over : ICls K c_Over := ⟨cls_Over, ia_Over, oget, otakes, im_Over⟩
  have cls_Both : Cls K c_Both := ⟨pg_Both, hd_Both, po_Both, sa_Both⟩
  have ic_Both : ICls K c_Both := ⟨cls_Both, ia_Both, oget, otakes, im_Both⟩
  have cls_Either : Cls K c_Either := ⟨pg_Either, hd_Either, po_Either, sa_Either⟩
  have ic_Either : ICls K c_Either := ⟨cls_Either, ia_Either, oget, otakes, im_Either⟩
  have cls_But : Cls K c_But := ⟨pg_But, hd_But, po_But, sa_But⟩
  have ic_But : ICls K c_But := ⟨cls_But, ia_But, oget, otakes, im_But⟩
  have m_reversed : mg "reversed" = none := PySem.W.mg_none_of X G z_reversed
  have tc_Over : TwoC K c_Over := ⟨cls_Over, na_Over_one, na_Over_other⟩
  have tc_Both : TwoC K c_Both := ⟨cls_Both, na_Both_one, na_Both_other⟩
  have tc_Either : TwoC K c_Either := ⟨cls_Either, na_Either_one, na_Either_other⟩
  have tc_But : TwoC K c_But := ⟨cls_But, na_But_one, na_But_other⟩
  have okN : NCok K ⟨c_Anything, c_Made, c_Used, c_Chief, c_Over, c_Both, c_Either, c_But⟩ c_Note := ⟨fun j hj => match j, hj with | 0, _ => ic_Anything | 1, _ => ic_Made | 2, _ => ic_Used | 3, _ => ic_Chief | 4, _ => ic_Over | 5, _ => ic_Both | 6, _ => ic_Either | 7, _ => ic_But | j + 8, h => absurd h (by omega), fun j hj => match j, hj with | 0, _ => kit_Anything | 1, _ => kit_Made | 2, _ => kit_Used | 3, _ => kit_Chief | 4, _ => kit_Over | 5, _ => kit_Both | 6, _ => kit_Either | 7, _ => kit_But | j + 8, h => absurd h (by omega)⟩
  have C_is_name : Cal l.prog w K mg base CX0 "is_name" 1 ["thing"] (spIsName K) := ⟨⟨_, _, ok_is_name F1 M, b1, k1, PySem.W.mg_of X G a1⟩⟩
  have C_is_kind : Cal l.prog w K mg base CX0 "is_kind" 2 ["thing"] (spIsKind K) := ⟨⟨_, _, ok_is_kind F2 M C_is_name, b2, k2, PySem.W.mg_of X G a2⟩⟩
  have C_law_cell : Cal l.prog w K mg base CX0 "_law_cell" 1 ["_law_script", "_law_k"] (spCell K) := ⟨⟨_, _, ok_law_cell F3 M, b3, k3, PySem.W.mg_of X G a3⟩⟩
  have C_law_mix : Cal l.prog w K mg base CX0 "_law_mix" 1 ["_law_number", "_law_k", "_law_many"] (spMix3) := ⟨⟨_, _, ok_law_mix F4 M, b4, k4, PySem.W.mg_of X G a4⟩⟩
  have C_law_words : Cal l.prog w K mg base CX0 "_law_words" 1 ["_law_cell_here", "_law_many"] (spWords K) := ⟨⟨_, _, ok_law_words F5 M, b5, k5, PySem.W.mg_of X G a5⟩⟩
  have C_law_kinds : Cal l.prog w K mg base CX0 "_law_kinds" 1 ["_law_cell_here", "_law_words_here"] (spKinds3 K) := ⟨⟨_, _, ok_law_kinds F6 M, b6, k6, PySem.W.mg_of X G a6⟩⟩
  have C_law_plain : Cal l.prog w K mg base CX0 "_law_plain" 2 ["_law_number", "_law_kinds_here", "_law_words_here"] (spPlain K) := ⟨⟨_, _, ok_law_plain F7 M C_law_mix, b7, k7, PySem.W.mg_of X G a7⟩⟩
  have C_law_note : Cal l.prog w K mg base CX0 "_law_note" 8 ["_law_number", "_law_deep", "_law_kinds_here", "_law_words_here"] (spNoteU K) := ⟨⟨_, _, fnok_union (L := 3) (n := 5) (ok_law_note F8 M C_law_mix C_law_plain b8 k8 (PySem.W.mg_of X G a8)), b8, k8, PySem.W.mg_of X G a8⟩⟩
  have Z_Made : MkC l.prog w K mg base "Made" c_Made 1 ["self", "stuff"] (spInitA K c_Made "stuff") := ⟨⟨_, _, ⟨mk_Made, a9, t9, kc_Made⟩, ok_Made_init F9 M (cs:=⟨c_Anything,c_Made,c_Used,c_Chief,c_Over,c_Both,c_Either,c_But⟩) cls_Made na_Made_stuff, b9⟩, A_Made⟩
  have Z_Used : MkC l.prog w K mg base "Used" c_Used 1 ["self", "use"] (spInitA K c_Used "use") := ⟨⟨_, _, ⟨mk_Used, a10, t10, kc_Used⟩, ok_Used_init F10 M (cs:=⟨c_Anything,c_Made,c_Used,c_Chief,c_Over,c_Both,c_Either,c_But⟩) cls_Used na_Used_use, b10⟩, A_Used⟩
  have Z_Chief : MkC l.prog w K mg base "Chief" c_Chief 1 ["self", "stuff"] (spInitA K c_Chief "stuff") := ⟨⟨_, _, ⟨mk_Chief, a11, t11, kc_Chief⟩, ok_Chief_init F11 M (cs:=⟨c_Anything,c_Made,c_Used,c_Chief,c_Over,c_Both,c_Either,c_But⟩) cls_Chief na_Chief_stuff, b11⟩, A_Chief⟩
  have Z_Over : MkC l.prog w K mg base "Over" c_Over 1 ["self", "one", "other"] (spInit2 K) := ⟨⟨_, _, ⟨mk_Over, a12, t12, kc_Over⟩, ok_Over_init F12 M, b12⟩, A_Over⟩
  have Z_Both : MkC l.prog w K mg base "Both" c_Both 1 ["self", "one", "other"] (spInit2 K) := ⟨⟨_, _, ⟨mk_Both, in_Both, t13, kc_Both⟩, ok_OfTwo_init F13 M, b13⟩, A_Both⟩
  have Z_Either : MkC l.prog w K mg base "Either" c_Either 1 ["self", "one", "other"] (spInit2 K) := ⟨⟨_, _, ⟨mk_Either, in_Either, t13, kc_Either⟩, ok_OfTwo_init F13 M, b13⟩, A_Either⟩
  have Z_But : MkC l.prog w K mg base "But" c_But 1 ["self", "one", "other"] (spInit2 K) := ⟨⟨_, _, ⟨mk_But, in_But, t13, kc_But⟩, ok_OfTwo_init F13 M, b13⟩, A_But⟩
  have C_note_of_name : Cal l.prog w K mg base CX0 "note_of_name" 3 ["word", "name"] (spOfName K ⟨c_Anything, c_Made, c_Used, c_Chief, c_Over, c_Both, c_Either, c_But⟩) := ⟨⟨_, _, ok_note_of_name F14 M Z_Made Z_Used Z_Chief, b14, k14, PySem.W.mg_of X G a14⟩⟩
  have C_note_of_notes : Cal l.prog w K mg base CX0 "note_of_notes" 3 ["word", "one", "other"] (spOfNotes K ⟨c_Anything, c_Made, c_Used, c_Chief, c_Over, c_Both, c_Either, c_But⟩) := ⟨⟨_, _, ok_note_of_notes F15 M Z_Both Z_Either Z_But tc_Both tc_Either tc_But, b15, k15, PySem.W.mg_of X G a15⟩⟩
  have C_note_of_one : Cal l.prog w K mg base CX0 "note_of_one" 4 ["told"] (spOfOne K ⟨c_Anything, c_Made, c_Used, c_Chief, c_Over, c_Both, c_Either, c_But⟩) := ⟨⟨_, _, ok_note_of_one F16 M C_is_name C_is_kind C_note_of_name Z_Anything A_Anything Z_Over tc_Over, b16, k16, PySem.W.mg_of X G a16⟩⟩
  have C_note_within : Cal l.prog w K mg base CX0 "note_within" 10 ["left", "told"] (spWithinN K ⟨c_Anything, c_Made, c_Used, c_Chief, c_Over, c_Both, c_Either, c_But⟩ 5) := ⟨⟨_, _, ok_note_within F17 M C_note_of_one C_note_of_notes b17 k17 (PySem.W.mg_of X G a17) 5, b17, k17, PySem.W.mg_of X G a17⟩⟩
  have C_note_of : Cal l.prog w K mg base CX0 "note_of" 11 ["told"] (spNoteOf K ⟨c_Anything, c_Made, c_Used, c_Chief, c_Over, c_Both, c_Either, c_But⟩) := ⟨⟨_, _, ok_note_of F18 M C_note_within, b18, k18, PySem.W.mg_of X G a18⟩⟩
  have C_made_places : Cal l.prog w K mg base CX0 "made_places" 1 ["kinds", "look", "stuff"] (spPlaces K pMade) := ⟨⟨_, _, ok_made_places F19 M, b19, k19, PySem.W.mg_of X G a19⟩⟩
  have C_used_places : Cal l.prog w K mg base CX0 "used_places" 1 ["kinds", "look", "use"] (spPlaces K pUsed) := ⟨⟨_, _, ok_used_places F20 M, b20, k20, PySem.W.mg_of X G a20⟩⟩
  have C_chief_places : Cal l.prog w K mg base CX0 "chief_places" 1 ["kinds", "look", "stuff"] (spPlaces K pChief) := ⟨⟨_, _, ok_chief_places F21 M, b21, k21, PySem.W.mg_of X G a21⟩⟩
  have C_number_in : Cal l.prog w K mg base CX0 "number_in" 1 ["kinds", "look", "kind"] (spNumIn K) := ⟨⟨_, _, ok_number_in F22 M, b22, k22, PySem.W.mg_of X G a22⟩⟩
  have C_is_over : Cal l.prog w K mg base CX0 "is_over" 2 ["kinds", "look", "one", "other"] (spOver K) := ⟨⟨_, _, ok_is_over F23 M C_number_in, b23, k23, PySem.W.mg_of X G a23⟩⟩
  have C_place_reason : Cal l.prog w K mg base CX0 "place_reason" 1 ["places"] (spPlaceR K) := ⟨⟨_, _, ok_place_reason F24 M, b24, k24, PySem.W.mg_of X G a24⟩⟩
  have cl8 : ∀ j, j < 8 → Cls K (ncCls ⟨c_Anything, c_Made, c_Used, c_Chief, c_Over, c_Both, c_Either, c_But⟩ j) := fun j hj => match j, hj with | 0, _ => cls_Anything | 1, _ => cls_Made | 2, _ => cls_Used | 3, _ => cls_Chief | 4, _ => cls_Over | 5, _ => cls_Both | 6, _ => cls_Either | 7, _ => cls_But | j + 8, h => absurd h (by omega)
  have R0 : ReasP l.prog w K mg base ⟨c_Anything, c_Made, c_Used, c_Chief, c_Over, c_Both, c_Either, c_But⟩ 0 := fun k d => ⟨_, _, ⟨a25, t25, k25⟩, ok_Anything_reason F25 M, b25⟩
  have R1 : ReasP l.prog w K mg base ⟨c_Anything, c_Made, c_Used, c_Chief, c_Over, c_Both, c_Either, c_But⟩ 1 := fun k d => ⟨_, _, ⟨a26, t26, k26⟩, ok_Made_reason F26 M cls_Made na_Made_stuff C_made_places C_place_reason, b26⟩
  have R2 : ReasP l.prog w K mg base ⟨c_Anything, c_Made, c_Used, c_Chief, c_Over, c_Both, c_Either, c_But⟩ 2 := fun k d => ⟨_, _, ⟨a27, t27, k27⟩, ok_Used_reason F27 M cls_Used na_Used_use C_used_places C_place_reason, b27⟩
  have R3 : ReasP l.prog w K mg base ⟨c_Anything, c_Made, c_Used, c_Chief, c_Over, c_Both, c_Either, c_But⟩ 3 := fun k d => ⟨_, _, ⟨a28, t28, k28⟩, ok_Chief_reason F28 M cls_Chief na_Chief_stuff C_chief_places C_place_reason, b28⟩
  have R4 : ReasP l.prog w K mg base ⟨c_Anything, c_Made, c_Used, c_Chief, c_Over, c_Both, c_Either, c_But⟩ 4 := fun k d => ⟨_, _, ⟨a29, t29, k29⟩, ok_Over_reason F29 M tc_Over C_is_over, b29⟩
  have R5 : ReasJ l.prog w K mg base ⟨c_Anything, c_Made, c_Used, c_Chief, c_Over, c_Both, c_Either, c_But⟩ 5 := ⟨fun k => ⟨_, _, ⟨a30, t30, k30⟩, no_Both_reason F30, b30⟩, fun d D => ⟨_, _, ⟨a30, t30, k30⟩, ok_Both_reason F30 M tc_Both D, b30⟩⟩
  have R6 : ReasJ l.prog w K mg base ⟨c_Anything, c_Made, c_Used, c_Chief, c_Over, c_Both, c_Either, c_But⟩ 6 := ⟨fun k => ⟨_, _, ⟨a31, t31, k31⟩, no_Either_reason F31, b31⟩, fun d D => ⟨_, _, ⟨a31, t31, k31⟩, ok_Either_reason F31 M tc_Either D, b31⟩⟩
  have R7 : ReasJ l.prog w K mg base ⟨c_Anything, c_Made, c_Used, c_Chief, c_Over, c_Both, c_Either, c_But⟩ 7 := ⟨fun k => ⟨_, _, ⟨a32, t32, k32⟩, no_But_reason F32, b32⟩, fun d D => ⟨_, _, ⟨a32, t32, k32⟩, ok_But_reason F32 M tc_But D, b32⟩⟩
  have D_reason : ∀ C sp, DReasonN K ⟨c_Anything, c_Made, c_Used, c_Chief, c_Over, c_Both, c_Either, c_But⟩ 5 C sp → Disp l.prog w K mg base "reason" 8 ["self", "kinds", "look"] C sp := all_reason cl8 R0 R1 R2 R3 R4 R5 R6 R7 5
  have okc : FnOk l.prog w K mg base CX0 9 _ _ ["self", "kinds", "look"] (spClaims K ⟨c_Anything, c_Made, c_Used, c_Chief, c_Over, c_Both, c_Either, c_But⟩) := ok_Note_claims F33 M D_reason
  have cm8 : ∀ j, j < 8 → PySem.W.findIn K (.ref (ncCls ⟨c_Anything, c_Made, c_Used, c_Chief, c_Over, c_Both, c_Either, c_But⟩ j)) "claims" = some (some (.ref f33)) := fun j hj => match j, hj with | 0, _ => cm_Anything | 1, _ => cm_Made | 2, _ => cm_Used | 3, _ => cm_Chief | 4, _ => cm_Over | 5, _ => cm_Both | 6, _ => cm_Either | 7, _ => cm_But | j + 8, h => absurd h (by omega)
  have D_claims : ∀ C sp, DClaimsN K ⟨c_Anything, c_Made, c_Used, c_Chief, c_Over, c_Both, c_Either, c_But⟩ C sp → Disp l.prog w K mg base "claims" 9 ["self", "kinds", "look"] C sp := by rintro C sp ⟨j, hj, rfl, rfl⟩; exact ⟨cl8 j hj, _, _, ⟨cm8 j hj, t33, k33⟩, okc, b33⟩
  have C_law_look : Cal l.prog w K mg base CX0 "_law_look" 2 ["_law_cell_here", "_law_many"] (spLook K) := ⟨⟨_, _, ok_law_look F34 M C_law_mix, b34, k34, PySem.W.mg_of X G a34⟩⟩
  have C_law_weighs : Cal l.prog w K mg base CX0 "_law_weighs" 1 ["_law_kinds_here", "_law_look_here", "_law_kind"] (spNumIn K) := ⟨⟨_, _, ok_law_weighs F35 M, b35, k35, PySem.W.mg_of X G a35⟩⟩
  have C_law_shows : Cal l.prog w K mg base CX0 "_law_shows" 1 ["_law_told", "_law_kinds_here", "_law_look_here", "_law_k"] (spShows K) := ⟨⟨_, _, ok_law_shows F36 M, b36, k36, PySem.W.mg_of X G a36⟩⟩
  have C_law_plain_claims : Cal l.prog w K mg base CX0 "_law_plain_claims" 2 ["_law_told", "_law_kinds_here", "_law_look_here"] (spPlainC K) := ⟨⟨_, _, ok_law_plain_claims F37 M C_law_weighs C_law_shows, b37, k37, PySem.W.mg_of X G a37⟩⟩
  have C_law_claims : Cal l.prog w K mg base CX0 "_law_claims" 8 ["_law_told", "_law_kinds_here", "_law_look_here"] (spLClaims K 5) := ⟨⟨_, _, ok_law_claims F38 M C_law_plain_claims b38 k38 (PySem.W.mg_of X G a38) 5, b38, k38, PySem.W.mg_of X G a38⟩⟩
  have C_law_made : Cal l.prog w K mg base CX0 "_law_made" 17 ["_law_told"] (spLMade K ⟨c_Anything, c_Made, c_Used, c_Chief, c_Over, c_Both, c_Either, c_But⟩ 5) := ⟨⟨_, _, ok_law_made F39 M C_note_of Z_Both Z_Either Z_But tc_Both tc_Either tc_But b39 k39 (PySem.W.mg_of X G a39) 5, b39, k39, PySem.W.mg_of X G a39⟩⟩
  have C_law_good : Cal l.prog w K mg base CX0 "_law_good" 10 ["_law_note_here", "_law_told", "_law_kinds_here", "_law_look_here"] (spGood K ⟨c_Anything, c_Made, c_Used, c_Chief, c_Over, c_Both, c_Either, c_But⟩) := ⟨⟨_, _, ok_law_good F40 M C_law_claims D_claims, b40, k40, PySem.W.mg_of X G a40⟩⟩
  exact ok_law F41 M C_law_cell C_law_mix C_law_words C_law_kinds C_note_of C_law_note C_law_look C_law_made C_law_good A_Note okN m_reversed
theorem walk {l : PySem.W.OpenLaw} {q : Program} {loose : List Str} {XP : (Str → Option Value) → Heap → Prop} {YP : World → Heap → Prop} {d : DefRec} {K : Params → PySem.W.Frag} (hn : l.most = some 63) (hdf : d.params.defaults = [])
    (hY : ∀ (w : World) (h : Heap), YP w h → (K w.params).In h)
    (F : ∀ (w : World) (mg : Str → Option Value) (fa : Addr) (h : Heap), (K w.params).In h → h.Ns mainGlobals mg → mg d.name = some (.ref fa) →
      ∃ fd : FuncData, (∀ (s : Shared) (u : Value), BindsTo s fd ⟨[u], []⟩ [("_law_script", u)]) ∧ ∀ base : Heap, (K w.params).In base → base.Ns mainGlobals mg → FnOk l.prog w (K w.params) mg base CX0 18 fa fd ["_law_script"] (spLaw (K w.params))) :
    PySem.W.WalkO q loose XP YP l.row.toRowW d [] (fun f vs => PySem.call f vs) :=
  L2.walk_of (n := 63) (k := 18) (x := "_law_script") (CX := fun _ => CX0) (sp := fun w => spLaw (K w.params)) hn (by decide) hdf ⟨rfl, by decide, by decide⟩ hY F (fun _ _ a ns hl _ hS => ⟨a, ns, rfl, hS, hl, fun _ => rfl⟩) fun _ _ _ _ _ z => z
end My
namespace PySem.W.Fast
theorem tw4172076296695494386:True:=⟨⟩
theorem tw4733226730902482701:True:=⟨⟩
theorem tw10654322888605033414:True:=⟨⟩
theorem tw890863537398076601:True:=⟨⟩
theorem tw3853082974201268117:True:=⟨⟩
theorem tw14055698465020228351:True:=⟨⟩
theorem tw3673200998985508865:True:=⟨⟩
theorem tw4829223746929849684:True:=⟨⟩
theorem tw7862668877052100325:True:=⟨⟩
theorem tw6514792385248722026:True:=⟨⟩
theorem tw10394540392357971873:True:=⟨⟩
theorem tw14046974850949932998:True:=⟨⟩
theorem tw4290537013001101116:True:=⟨⟩
theorem tw2430725216195700537:True:=⟨⟩
theorem tw2535200444282682764:True:=⟨⟩
theorem tw8846166873767338042:True:=⟨⟩
theorem tw4993107200754969721:True:=⟨⟩
theorem tw5364544908990061163:True:=⟨⟩
theorem tw2654567291378897235:True:=⟨⟩
theorem tw16785716924135533162:True:=⟨⟩
theorem tw186436696070819048:True:=⟨⟩
theorem tw3188374825483030484:True:=⟨⟩
theorem tw9720463707849819333:True:=⟨⟩
theorem tw3421011071726812599:True:=⟨⟩
theorem tw16928710117796099879:True:=⟨⟩
theorem tw15273728527069245501:True:=⟨⟩
theorem tw17377950201377011748:True:=⟨⟩
theorem tw10872532964290388054:True:=⟨⟩
theorem tw5833050049197660875:True:=⟨⟩
theorem tw16196689262510634844:True:=⟨⟩
theorem tw6217391564046967018:True:=⟨⟩
theorem tw3584316158688501376:True:=⟨⟩
theorem tw7408479621249173919:True:=⟨⟩
theorem tw187239154814344761:True:=⟨⟩
theorem tw4950235786318540778:True:=⟨⟩
theorem tw9395740595945235661:True:=⟨⟩
theorem tw1733108723867429992:True:=⟨⟩
theorem tw5299017547196092826:True:=⟨⟩
theorem tw16200669873773950111:True:=⟨⟩
theorem tw8989487098313719073:True:=⟨⟩
theorem tw13360403231990926208:True:=⟨⟩
theorem tw7700834619059513637:True:=⟨⟩
theorem tw986728441660857756:True:=⟨⟩
theorem tw159920344944660324:True:=⟨⟩
theorem tw7581067765120009770:True:=⟨⟩
theorem tw135762071482042509:True:=⟨⟩
theorem tw11988342970966041037:True:=⟨⟩
theorem tw10661325422708194799:True:=⟨⟩
theorem tw5568816076682515013:True:=⟨⟩
theorem tw15172801625220719180:True:=⟨⟩
theorem tw14189068293119392938:True:=⟨⟩
theorem tw7799652643513348344:True:=⟨⟩
theorem tw4685507978406426556:True:=⟨⟩
theorem tw685249996825303365:True:=⟨⟩
theorem tw5943459032854582345:True:=⟨⟩
theorem tw2835421459057927472:True:=⟨⟩
theorem tw2043275917158270839:True:=⟨⟩
theorem tw11969408615856107821:True:=⟨⟩
theorem tw5636080926333263698:True:=⟨⟩
theorem tw15466899083475529947:True:=⟨⟩
theorem tw2062313272079593258:True:=⟨⟩
theorem tw17170964749301931497:True:=⟨⟩
theorem tw9025918822217211357:True:=⟨⟩
theorem tw11818809406809544516:True:=⟨⟩
theorem tw10990573703355331750:True:=⟨⟩
theorem tw9263061013065267709:True:=⟨⟩
theorem tw3947397955335505327:True:=⟨⟩
theorem tw12899842033662105186:True:=⟨⟩
theorem tw14006733428179422821:True:=⟨⟩
theorem tw6621378552827598773:True:=⟨⟩
theorem tw7679724531929539977:True:=⟨⟩
theorem tw14414523097361984006:True:=⟨⟩
theorem tw3847789825975565463:True:=⟨⟩
theorem tw223561972094281121:True:=⟨⟩
theorem tw5313834778815659884:True:=⟨⟩
theorem tw17689028567761000397:True:=⟨⟩
theorem tw620919299330998724:True:=⟨⟩
theorem tw16661438257111675100:True:=⟨⟩
theorem tw17614878411658291930:True:=⟨⟩
theorem tw16714647812809415036:True:=⟨⟩
theorem tw16742211341837674801:True:=⟨⟩
theorem tw8561348268017098218:True:=⟨⟩
theorem tw10542409694391493132:True:=⟨⟩
theorem tw9593748822857922923:True:=⟨⟩
theorem tw9845615150261371471:True:=⟨⟩
theorem tw14868158822792241796:True:=⟨⟩
theorem tw11015064175686576598:True:=⟨⟩
theorem tw10452654358283559529:True:=⟨⟩
theorem tw14322874882426194231:True:=⟨⟩
theorem tw2188126752466703948:True:=⟨⟩
theorem tw7199579650481207049:True:=⟨⟩
theorem tw14903165886080576004:True:=⟨⟩
theorem tw10579191877550047439:True:=⟨⟩
theorem tw15332456369473227355:True:=⟨⟩
theorem tw11078303923223321195:True:=⟨⟩
theorem tw921947693633949996:True:=⟨⟩
theorem tw5237795588272257022:True:=⟨⟩
theorem tw15361996389281476705:True:=⟨⟩
theorem tw10460324408994744414:True:=⟨⟩
theorem tw7859396362424124806:True:=⟨⟩
theorem tw561127615567304073:True:=⟨⟩
theorem tw665696492172803585:True:=⟨⟩
theorem tw894642585586918449:True:=⟨⟩
theorem tw15083283299166135741:True:=⟨⟩
theorem tw8147057646760774609:True:=⟨⟩
theorem tw15577080421091576580:True:=⟨⟩
theorem tw63125729697964916:True:=⟨⟩
theorem tw17201189434978289105:True:=⟨⟩
theorem tw3565581460051873164:True:=⟨⟩
theorem tw12014273599653547211:True:=⟨⟩
theorem tw7552758731802912783:True:=⟨⟩
theorem tw12587686827021461276:True:=⟨⟩
theorem tw14571814438792815224:True:=⟨⟩
theorem tw11752723020064976063:True:=⟨⟩
theorem tw2259002162324173020:True:=⟨⟩
theorem tw1719978045762531713:True:=⟨⟩
theorem tw15251973098141641421:True:=⟨⟩
theorem tw3137961005587191194:True:=⟨⟩
theorem tw7322123536768416255:True:=⟨⟩
theorem tw16096601784507411512:True:=⟨⟩
theorem tw10098750621855469875:True:=⟨⟩
theorem tw9709346481191593268:True:=⟨⟩
theorem tw9303709454129371362:True:=⟨⟩
theorem tw9608936633213915688:True:=⟨⟩
theorem tw9249233970748604198:True:=⟨⟩
theorem tw14997517062292278747:True:=⟨⟩
theorem tw10967528191555524474:True:=⟨⟩
theorem tw4885646380712141623:True:=⟨⟩
theorem tw18098554244296414546:True:=⟨⟩
theorem tw7997276303338173630:True:=⟨⟩
theorem tw6640641389401023242:True:=⟨⟩
theorem tw3106322750668433344:True:=⟨⟩
theorem tw2919734820221153161:True:=⟨⟩
theorem tw5315603363417453426:True:=⟨⟩
theorem tw12837271946982161520:True:=⟨⟩
theorem tw12327679970972678299:True:=⟨⟩
theorem tw17200804337099359351:True:=⟨⟩
theorem tw8532178496790460539:True:=⟨⟩
theorem tw4299048646560161312:True:=⟨⟩
theorem tw15535612941918582352:True:=⟨⟩
theorem tw12487418913398194269:True:=⟨⟩
theorem tw15181184008835914659:True:=⟨⟩
theorem tw5951309722396827920:True:=⟨⟩
theorem tw703901752935640493:True:=⟨⟩
theorem tw9562898932700584474:True:=⟨⟩
theorem tw12644524306020648014:True:=⟨⟩
theorem tw8407894104756579279:True:=⟨⟩
theorem tw8362595295423048783:True:=⟨⟩
theorem tw9976176007557489122:True:=⟨⟩
theorem tw9116118999122558553:True:=⟨⟩
theorem tw11538477776615876126:True:=⟨⟩
theorem tw976691713437973146:True:=⟨⟩
theorem tw1578233486684358289:True:=⟨⟩
theorem tw12881495030283216210:True:=⟨⟩
theorem tw3000667936523772993:True:=⟨⟩
theorem tw11130378684313142064:True:=⟨⟩
theorem tw1835886341472262268:True:=⟨⟩
theorem tw13082536656010517040:True:=⟨⟩
theorem tw328530614544595758:True:=⟨⟩
theorem tw5475973754293539062:True:=⟨⟩
theorem tw6492596649547271279:True:=⟨⟩
theorem tw5755157248234302455:True:=⟨⟩
theorem tw1699593736959222447:True:=⟨⟩
theorem tw11966275226145718530:True:=⟨⟩
theorem tw17280285500607012501:True:=⟨⟩
theorem tw2482311146569578924:True:=⟨⟩
theorem tw12044625755057723737:True:=⟨⟩
theorem tw17901434634924849064:True:=⟨⟩
theorem tw173725898828707990:True:=⟨⟩
theorem tw8628307219564943322:True:=⟨⟩
theorem tw6024384541592881083:True:=⟨⟩
theorem tw9577312947408118435:True:=⟨⟩
theorem tw17958808739458039970:True:=⟨⟩
theorem tw481573399789167668:True:=⟨⟩
theorem tw11631951800649196666:True:=⟨⟩
theorem tw10756945554716845030:True:=⟨⟩
theorem tw14720202006955121075:True:=⟨⟩
theorem tw9089968974276006956:True:=⟨⟩
theorem tw10357038313738950291:True:=⟨⟩
theorem tw1227984949133555653:True:=⟨⟩
theorem tw3168158795628501507:True:=⟨⟩
theorem tw14278045023530751248:True:=⟨⟩
theorem tw2922105943122495166:True:=⟨⟩
theorem tw17404990030849176550:True:=⟨⟩
theorem tw6283019722363035817:True:=⟨⟩
theorem tw14844715894973786505:True:=⟨⟩
theorem tw6617813183316472431:True:=⟨⟩
theorem tw5564581815087522197:True:=⟨⟩
theorem tw16204621781115724990:True:=⟨⟩
theorem tw6994476695713753367:True:=⟨⟩
theorem tw9617741759319384414:True:=⟨⟩
theorem tw10701200065276210575:True:=⟨⟩
theorem tw1452853854322865024:True:=⟨⟩
theorem tw8243606694446135972:True:=⟨⟩
theorem tw14798060860138768644:True:=⟨⟩
theorem tw3402190294988857051:True:=⟨⟩
theorem tw13335370229730516957:True:=⟨⟩
theorem tw9801021084596297318:True:=⟨⟩
theorem tw9419244180298750326:True:=⟨⟩
theorem tw18300260069266484357:True:=⟨⟩
theorem tw6171176920994442749:True:=⟨⟩
theorem tw7698361342875544941:True:=⟨⟩
theorem tw16538430712142745243:True:=⟨⟩
theorem tw8864444932885164068:True:=⟨⟩
theorem tw4537496857803889139:True:=⟨⟩
theorem tw13877989028782123143:True:=⟨⟩
theorem tw17169341329770529757:True:=⟨⟩
theorem tw16101975688669575911:True:=⟨⟩
theorem tw17604475243017102415:True:=⟨⟩
theorem tw2689137026837170177:True:=⟨⟩
theorem tw15423761167596954052:True:=⟨⟩
theorem tw2897967070663044106:True:=⟨⟩
theorem tw5619692711603574384:True:=⟨⟩
theorem tw11380242760605988644:True:=⟨⟩
theorem tw1512696793977642731:True:=⟨⟩
theorem tw9158722214495591119:True:=⟨⟩
theorem tw37204574032193860:True:=⟨⟩
theorem tw14485145247190206407:True:=⟨⟩
theorem tw2871282119885353219:True:=⟨⟩
theorem tw3127387134794386387:True:=⟨⟩
theorem tw2128960015235835556:True:=⟨⟩
theorem tw7267943544212919415:True:=⟨⟩
theorem tw14445352619063965574:True:=⟨⟩
theorem tw11914059941980366867:True:=⟨⟩
theorem tw18302714051983291773:True:=⟨⟩
theorem tw16509189740347638405:True:=⟨⟩
theorem tw5975018739320918745:True:=⟨⟩
theorem tw1070774566147030563:True:=⟨⟩
theorem tw15532074465937733229:True:=⟨⟩
theorem tw16960976985313961830:True:=⟨⟩
theorem tw16462639332995239981:True:=⟨⟩
theorem tw12245977663693320150:True:=⟨⟩
theorem tw14436026326289929412:True:=⟨⟩
theorem tw2818205069837168430:True:=⟨⟩
theorem tw13000631374279057802:True:=⟨⟩
theorem tw14812614867169514381:True:=⟨⟩
theorem tw16383917078742495977:True:=⟨⟩
theorem tw15139401764518701712:True:=⟨⟩
theorem tw1101104902105718186:True:=⟨⟩
theorem tw17197543424335912789:True:=⟨⟩
theorem tw6635498057269996170:True:=⟨⟩
theorem tw16059239094179909622:True:=⟨⟩
theorem tw7346024964024103376:True:=⟨⟩
theorem tw2634528482023293029:True:=⟨⟩
theorem tw17124303706504829977:True:=⟨⟩
theorem tw4052326488035294047:True:=⟨⟩
theorem tw16234536169664996584:True:=⟨⟩
theorem tw2427450455767670482:True:=⟨⟩
theorem tw12669324297781345037:True:=⟨⟩
theorem tw12750553795881722628:True:=⟨⟩
theorem tw2341004627553952974:True:=⟨⟩
theorem tw15856535554830716018:True:=⟨⟩
theorem tw17358040129710036123:True:=⟨⟩
theorem tw5264625620026981667:True:=⟨⟩
theorem tw17732818392320459061:True:=⟨⟩
theorem tw6422493362634090739:True:=⟨⟩
theorem tw17603947819138787038:True:=⟨⟩
theorem tw1110020751283127753:True:=⟨⟩
theorem tw9648116533508986896:True:=⟨⟩
theorem tw15307104880750600279:True:=⟨⟩
theorem tw9380123767393952767:True:=⟨⟩
theorem tw10131311089180138385:True:=⟨⟩
theorem tw8076073981703955933:True:=⟨⟩
theorem tw1620572481322689548:True:=⟨⟩
theorem tw12479267524208397860:True:=⟨⟩
theorem tw13355601507645680420:True:=⟨⟩
theorem tw10045173666652472638:True:=⟨⟩
theorem tw5790696084583384210:True:=⟨⟩
theorem tw16290238971938925778:True:=⟨⟩
theorem tw12738467391491034884:True:=⟨⟩
theorem tw1599993812224991784:True:=⟨⟩
theorem tw4633028719132873090:True:=⟨⟩
theorem tw17103735631225372025:True:=⟨⟩
theorem tw8669554474353644335:True:=⟨⟩
theorem tw3002638035073448285:True:=⟨⟩
theorem tw5201966459059394949:True:=⟨⟩
theorem tw18422843475990006245:True:=⟨⟩
theorem tw5137663393395261418:True:=⟨⟩
theorem tw254380943087541045:True:=⟨⟩
theorem tw17724958620932012074:True:=⟨⟩
theorem tw3924529566341370222:True:=⟨⟩
theorem tw981421385548638197:True:=⟨⟩
theorem tw3128233707456148699:True:=⟨⟩
theorem tw13233657861100321052:True:=⟨⟩
theorem tw4011072453913586535:True:=⟨⟩
theorem tw4525785733509511593:True:=⟨⟩
theorem tw5743212087230774544:True:=⟨⟩
theorem tw6259146218890603510:True:=⟨⟩
theorem tw7605981925463678661:True:=⟨⟩
theorem tw1989223579288593295:True:=⟨⟩
theorem tw14323550054472364816:True:=⟨⟩
theorem tw6518866249445225558:True:=⟨⟩
theorem tw4890088839971673032:True:=⟨⟩
theorem tw13749625784517243129:True:=⟨⟩
theorem tw5903808640174615609:True:=⟨⟩
theorem tw5880424551523787988:True:=⟨⟩
theorem tw6918415439316006749:True:=⟨⟩
theorem tw6122501681876438022:True:=⟨⟩
theorem tw6356088004650435711:True:=⟨⟩
theorem tw17057991538158837674:True:=⟨⟩
theorem tw4949494863145085453:True:=⟨⟩
theorem tw7224694409653838933:True:=⟨⟩
theorem tw883362543906373264:True:=⟨⟩
theorem tw11613810521673056998:True:=⟨⟩
theorem tw14941065859290838485:True:=⟨⟩
theorem tw7685084456278971029:True:=⟨⟩
theorem tw16011345086233555306:True:=⟨⟩
theorem tw12221536347187164247:True:=⟨⟩
theorem tw17879267636450730782:True:=⟨⟩
theorem tw6489011638937772022:True:=⟨⟩
theorem tw17437140968247277772:True:=⟨⟩
theorem tw17998909834363480436:True:=⟨⟩
theorem tw9471626342434481485:True:=⟨⟩
theorem tw2359085555932078916:True:=⟨⟩
theorem tw14377324857223944487:True:=⟨⟩
theorem tw6985661714598553621:True:=⟨⟩
theorem tw1367332717404453632:True:=⟨⟩
theorem tw16575693774979823250:True:=⟨⟩
theorem tw3008045201282151621:True:=⟨⟩
theorem tw7280673349676437441:True:=⟨⟩
theorem tw11670005184345269575:True:=⟨⟩
theorem tw866796838253521402:True:=⟨⟩
theorem tw12793126640392847508:True:=⟨⟩
theorem tw3803448896807473135:True:=⟨⟩
theorem tw1823844952745551580:True:=⟨⟩
theorem tw17775953945329948018:True:=⟨⟩
theorem tw4282567509609625117:True:=⟨⟩
theorem tw7814155924923958493:True:=⟨⟩
theorem tw3967958626369832108:True:=⟨⟩
theorem tw7170170421026969061:True:=⟨⟩
theorem tw14192903063611345043:True:=⟨⟩
theorem tw9402419400645849712:True:=⟨⟩
theorem tw6641514208404426758:True:=⟨⟩
theorem tw11465337384545888691:True:=⟨⟩
theorem tw10847642218410069821:True:=⟨⟩
theorem tw1900480301379049800:True:=⟨⟩
theorem tw9941624245788519822:True:=⟨⟩
theorem tw13286320039770903186:True:=⟨⟩
theorem tw9071656060367825185:True:=⟨⟩
theorem tw12241073636089592305:True:=⟨⟩
theorem tw5110588100104893556:True:=⟨⟩
theorem tw15143020948096453344:True:=⟨⟩
theorem tw17549257242825097032:True:=⟨⟩
theorem tw8610782144750659834:True:=⟨⟩
theorem tw14380498860465884175:True:=⟨⟩
theorem tw16656472498912877418:True:=⟨⟩
theorem tw11440803766003249457:True:=⟨⟩
theorem tw6038185289898195352:True:=⟨⟩
theorem tw11634551239377994227:True:=⟨⟩
theorem tw13382478321850812869:True:=⟨⟩
theorem tw9049130593330966160:True:=⟨⟩
theorem tw17765935305919687618:True:=⟨⟩
theorem tw1016486901185975210:True:=⟨⟩
theorem tw10967060616455084152:True:=⟨⟩
theorem tw7662009987186601589:True:=⟨⟩
theorem tw12881629790938500601:True:=⟨⟩
theorem tw10135940623166983931:True:=⟨⟩
theorem tw5386506282712294571:True:=⟨⟩
theorem tw1500381630525767238:True:=⟨⟩
theorem tw5582931818921931260:True:=⟨⟩
theorem tw8020794473863217722:True:=⟨⟩
theorem tw14545498780163509936:True:=⟨⟩
theorem tw7519076875184832153:True:=⟨⟩
theorem tw6692378814878490556:True:=⟨⟩
theorem tw18413054029756490468:True:=⟨⟩
theorem tw10545351063652627:True:=⟨⟩
theorem tw64320109924016399:True:=⟨⟩
theorem tw9469988470284366750:True:=⟨⟩
theorem tw3745321130565981291:True:=⟨⟩
theorem tw1554909679824998780:True:=⟨⟩
theorem tw3386075465446437682:True:=⟨⟩
theorem tw18320732086005690084:True:=⟨⟩
theorem tw10981987105142848252:True:=⟨⟩
theorem tw2977613693840056985:True:=⟨⟩
theorem tw12469650630483724845:True:=⟨⟩
theorem tw2803997089330004001:True:=⟨⟩
theorem tw14848030464493919396:True:=⟨⟩
theorem tw8520734758459116156:True:=⟨⟩
theorem tw5730948251935597676:True:=⟨⟩
theorem tw2928730905978707604:True:=⟨⟩
theorem tw11339961908960016475:True:=⟨⟩
theorem tw17798675855417708103:True:=⟨⟩
theorem tw2090884248052387556:True:=⟨⟩
theorem tw323402861837956225:True:=⟨⟩
theorem tw8523700758840482870:True:=⟨⟩
theorem tw12252861216793438521:True:=⟨⟩
theorem tw2684553340859122897:True:=⟨⟩
theorem tw633076142155328235:True:=⟨⟩
theorem tw779585647951632075:True:=⟨⟩
theorem tw11901576373650841035:True:=⟨⟩
theorem tw11966029909251326122:True:=⟨⟩
theorem tw8028067449425109796:True:=⟨⟩
theorem tw7641675813492992384:True:=⟨⟩
theorem tw13814498138257098168:True:=⟨⟩
theorem tw17839410861317482148:True:=⟨⟩
theorem tw11361415953757903960:True:=⟨⟩
theorem tw11647946570168543046:True:=⟨⟩
theorem tw425530472600577305:True:=⟨⟩
theorem tw15644375481020868487:True:=⟨⟩
theorem tw16222997269325478407:True:=⟨⟩
theorem tw10377115854265981307:True:=⟨⟩
theorem tw15063122594336302709:True:=⟨⟩
theorem tw14704014307446710549:True:=⟨⟩
theorem tw3837035237297296747:True:=⟨⟩
theorem tw11504133848733622970:True:=⟨⟩
theorem tw2461578093203348372:True:=⟨⟩
theorem tw14278869287668811371:True:=⟨⟩
theorem tw3209807147725832351:True:=⟨⟩
theorem tw12021126577053381299:True:=⟨⟩
theorem tw6372474422934384879:True:=⟨⟩
theorem tw10164824454380311312:True:=⟨⟩
theorem tw16525646507595084633:True:=⟨⟩
theorem tw3214296498540939499:True:=⟨⟩
theorem tw466186024021151124:True:=⟨⟩
theorem tw2562686203839600813:True:=⟨⟩
theorem tw13658533408329201560:True:=⟨⟩
theorem tw3832309309687516434:True:=⟨⟩
theorem tw16557863201332184465:True:=⟨⟩
theorem tw18026350961908960916:True:=⟨⟩
theorem tw9174290176743831791:True:=⟨⟩
theorem tw12044883930277997402:True:=⟨⟩
theorem tw12237247835815902167:True:=⟨⟩
theorem tw84787010333751490:True:=⟨⟩
theorem tw1110080783306585358:True:=⟨⟩
theorem tw9627395214694799849:True:=⟨⟩
theorem tw4565960689013144425:True:=⟨⟩
theorem tw12944226986434258057:True:=⟨⟩
theorem tw11626784004562513617:True:=⟨⟩
theorem tw12706070206761084145:True:=⟨⟩
theorem tw11716830027813233780:True:=⟨⟩
theorem tw16268482793560506205:True:=⟨⟩
theorem tw8164076737736209230:True:=⟨⟩
theorem tw6092714688782841764:True:=⟨⟩
theorem tw16840616657761346284:True:=⟨⟩
theorem tw3594749889704930655:True:=⟨⟩
theorem tw16739841388474045912:True:=⟨⟩
theorem tw13023844405986596290:True:=⟨⟩
theorem tw11339871466604487315:True:=⟨⟩
theorem tw6191408935545596425:True:=⟨⟩
theorem tw5836689020270939507:True:=⟨⟩
theorem tw14070250918182223044:True:=⟨⟩
theorem tw6356553908338678274:True:=⟨⟩
theorem tw6669285106898345343:True:=⟨⟩
theorem tw3930810300188849277:True:=⟨⟩
theorem tw12950081390216131404:True:=⟨⟩
theorem tw4145965778492618358:True:=⟨⟩
theorem tw6754783789607341849:True:=⟨⟩
theorem tw13980421728099100789:True:=⟨⟩
theorem tw2461926258230355097:True:=⟨⟩
theorem tw14886290544988098025:True:=⟨⟩
theorem tw2879530587419578715:True:=⟨⟩
theorem tw10250368413885025159:True:=⟨⟩
theorem tw14585322770638218829:True:=⟨⟩
theorem tw12602968222771355099:True:=⟨⟩
theorem tw5231506173459029161:True:=⟨⟩
theorem tw5732673886586586924:True:=⟨⟩
theorem tw16978229136175764633:True:=⟨⟩
theorem tw2929842606306752493:True:=⟨⟩
theorem tw15839036739805180974:True:=⟨⟩
theorem tw5581939586978904927:True:=⟨⟩
theorem tw102671520138404724:True:=⟨⟩
theorem tw3965008271722004665:True:=⟨⟩
theorem tw17907981674435473916:True:=⟨⟩
theorem tw9417344717902787317:True:=⟨⟩
theorem tw12105306867767650757:True:=⟨⟩
theorem tw3099389113178230567:True:=⟨⟩
theorem tw5199448249584266879:True:=⟨⟩
theorem tw8089070930047948712:True:=⟨⟩
theorem tw13665799793908789305:True:=⟨⟩
theorem tw8041488291864305605:True:=⟨⟩
theorem tw3779496265049378274:True:=⟨⟩
theorem tw9721234458969254010:True:=⟨⟩
theorem tw6898868241106973872:True:=⟨⟩
theorem tw955691370439923900:True:=⟨⟩
theorem tw10443588754503951873:True:=⟨⟩
theorem tw2046703906315671436:True:=⟨⟩
theorem tw14534080742952236159:True:=⟨⟩
theorem tw4729253651102495747:True:=⟨⟩
theorem tw10725592782763063707:True:=⟨⟩
theorem tw5664196600707430578:True:=⟨⟩
theorem tw8655257175489224149:True:=⟨⟩
theorem tw17577411173868216275:True:=⟨⟩
theorem tw5688547224666131976:True:=⟨⟩
theorem tw18151488076951689250:True:=⟨⟩
theorem tw7497830380758905563:True:=⟨⟩
theorem tw3160267254892294778:True:=⟨⟩
theorem tw458114916873350520:True:=⟨⟩
theorem tw11142029921483927562:True:=⟨⟩
theorem tw15967443644092127404:True:=⟨⟩
theorem tw930378057534291889:True:=⟨⟩
theorem tw16779229213336973392:True:=⟨⟩
theorem tw585974534556158172:True:=⟨⟩
theorem tw18018731831718562918:True:=⟨⟩
theorem tw93387052628046053:True:=⟨⟩
theorem tw2468301703113230682:True:=⟨⟩
theorem tw6096588278974457387:True:=⟨⟩
theorem tw14233633093424076666:True:=⟨⟩
theorem tw1318243810602670702:True:=⟨⟩
theorem tw6430099825546069200:True:=⟨⟩
theorem tw12859604217074272039:True:=⟨⟩
theorem tw2074811278789229267:True:=⟨⟩
theorem tw9997184985994361030:True:=⟨⟩
theorem tw2427765678147171712:True:=⟨⟩
theorem tw2843592701197480620:True:=⟨⟩
theorem tw4786905960095900908:True:=⟨⟩
theorem tw4978204021000856223:True:=⟨⟩
theorem tw6231265250556223621:True:=⟨⟩
theorem tw17625878291153028673:True:=⟨⟩
theorem tw3905381252438185703:True:=⟨⟩
theorem tw14839099633209508537:True:=⟨⟩
theorem tw5022806172398701927:True:=⟨⟩
theorem tw10289396426407738883:True:=⟨⟩
theorem tw792679047129974108:True:=⟨⟩
theorem tw8530000264801353789:True:=⟨⟩
theorem tw3902831690439064640:True:=⟨⟩
theorem tw7727847767237978389:True:=⟨⟩
theorem tw16987692465418956051:True:=⟨⟩
theorem tw632522760494595334:True:=⟨⟩
theorem tw18019138971538117282:True:=⟨⟩
theorem tw3777262565727824319:True:=⟨⟩
theorem tw16146648496613214173:True:=⟨⟩
theorem tw6614150099506412952:True:=⟨⟩
theorem tw17249361460088065006:True:=⟨⟩
theorem tw13265130010388612092:True:=⟨⟩
theorem tw3015236338626039144:True:=⟨⟩
theorem tw16936812531120511691:True:=⟨⟩
theorem tw5157609515679252097:True:=⟨⟩
theorem tw3108785557541735687:True:=⟨⟩
theorem tw10377955036788435019:True:=⟨⟩
theorem tw3907423979996597328:True:=⟨⟩
theorem tw8135197128888383490:True:=⟨⟩
theorem tw14571730569643034535:True:=⟨⟩
theorem tw13185837898639238979:True:=⟨⟩
theorem tw3238029166994515726:True:=⟨⟩
theorem tw12826229270367897301:True:=⟨⟩
theorem tw9743493969546260790:True:=⟨⟩
theorem tw8264919238598047575:True:=⟨⟩
theorem tw11027254196228150347:True:=⟨⟩
theorem tw2702752962901171250:True:=⟨⟩
theorem tw7723335819875154429:True:=⟨⟩
theorem tw11002711558151964621:True:=⟨⟩
theorem tw11565560346543549415:True:=⟨⟩
theorem tw639051841630262085:True:=⟨⟩
theorem tw11768239139737999087:True:=⟨⟩
theorem tw7209794222799288117:True:=⟨⟩
theorem tw5185778573835296327:True:=⟨⟩
theorem tw2141107988832456430:True:=⟨⟩
theorem tw9915135260649202361:True:=⟨⟩
theorem tw15103298504124878161:True:=⟨⟩
theorem tw9720586671365972613:True:=⟨⟩
theorem tw9844358316987070928:True:=⟨⟩
theorem tw13727188703516564937:True:=⟨⟩
theorem tw10715770352954977493:True:=⟨⟩
theorem tw2880975526414997035:True:=⟨⟩
theorem tw5772822402315333347:True:=⟨⟩
theorem tw2011210838055534460:True:=⟨⟩
theorem tw16683656424817688732:True:=⟨⟩
theorem tw5259743163785420106:True:=⟨⟩
theorem tw14891511760856047077:True:=⟨⟩
theorem tw14370715751490829888:True:=⟨⟩
theorem tw10232665924017073858:True:=⟨⟩
theorem tw11865957693743921029:True:=⟨⟩
end PySem.W.Fast
open PySem PySem.W PyProof.Rows
set_option maxRecDepth 100000 in
set_option maxHeartbeats 0 in
theorem PySem.Challenge.cw_tariffgate_k32_joined_notes_holds : PySem.Challenge.rw_tariffgate_k32_joined_notes.Holds := by
  w_on; o_law; k_head; (case hw => w_witness2)
  k_fill
  refine My.walk (l := PySem.Challenge.rw_tariffgate_k32_joined_notes) rfl rfl (fun w h Y => PySem.W.kIn_of Y) ?F
  case F =>
    intro w mg fa h KX G hmg
    refine' My.all_mk KX G hmg ?n_Note ?n_OfTwo ?n_Anything ?n_Made ?n_Used ?n_Chief ?n_Over ?n_Both ?n_Either ?n_But ?a1 ?l1 ?c1 ?k1 ?a2 ?l2 ?c2 ?k2 ?a3 ?l3 ?c3 ?k3 ?a4 ?l4 ?c4 ?k4 ?a5 ?l5 ?c5 ?k5 ?a6 ?l6 ?c6 ?k6 ?a7 ?l7 ?c7 ?k7 ?a8 ?l8 ?c8 ?k8 ?a9 ?l9 ?c9 ?k9 ?t9 ?a10 ?l10 ?c10 ?k10 ?t10 ?a11 ?l11 ?c11 ?k11 ?t11 ?a12 ?l12 ?c12 ?k12 ?t12 ?a13 ?l13 ?c13 ?k13 ?t13 ?a14 ?l14 ?c14 ?k14 ?a15 ?l15 ?c15 ?k15 ?a16 ?l16 ?c16 ?k16 ?a17 ?l17 ?c17 ?k17 ?a18 ?l18 ?c18 ?k18 ?a19 ?l19 ?c19 ?k19 ?a20 ?l20 ?c20 ?k20 ?a21 ?l21 ?c21 ?k21 ?a22 ?l22 ?c22 ?k22 ?a23 ?l23 ?c23 ?k23 ?a24 ?l24 ?c24 ?k24 ?a25 ?l25 ?c25 ?k25 ?t25 ?a26 ?l26 ?c26 ?k26 ?t26 ?a27 ?l27 ?c27 ?k27 ?t27 ?a28 ?l28 ?c28 ?k28 ?t28 ?a29 ?l29 ?c29 ?k29 ?t29 ?a30 ?l30 ?c30 ?k30 ?t30 ?a31 ?l31 ?c31 ?k31 ?t31 ?a32 ?l32 ?c32 ?k32 ?t32 ?a33 ?l33 ?c33 ?k33 ?t33 ?a34 ?l34 ?c34 ?k34 ?a35 ?l35 ?c35 ?k35 ?a36 ?l36 ?c36 ?k36 ?a37 ?l37 ?c37 ?k37 ?a38 ?l38 ?c38 ?k38 ?a39 ?l39 ?c39 ?k39 ?a40 ?l40 ?c40 ?k40 ?a41 ?l41 ?c41 ?k41 ?pg_Anything ?hd_Anything ?po_Anything ?sa_Anything ?ia_Anything ?im_Anything ?mk_Anything ?kc_Anything ?in_Anything ?pg_Made ?hd_Made ?po_Made ?sa_Made ?ia_Made ?im_Made ?mk_Made ?kc_Made ?pg_Used ?hd_Used ?po_Used ?sa_Used ?ia_Used ?im_Used ?mk_Used ?kc_Used ?pg_Chief ?hd_Chief ?po_Chief ?sa_Chief ?ia_Chief ?im_Chief ?mk_Chief ?kc_Chief ?pg_Over ?hd_Over ?po_Over ?sa_Over ?ia_Over ?im_Over ?mk_Over ?kc_Over ?pg_Both ?hd_Both ?po_Both ?sa_Both ?ia_Both ?im_Both ?mk_Both ?kc_Both ?pg_Either ?hd_Either ?po_Either ?sa_Either ?ia_Either ?im_Either ?mk_Either ?kc_Either ?pg_But ?hd_But ?po_But ?sa_But ?ia_But ?im_But ?mk_But ?kc_But ?oget ?otakes ?na_Made_stuff ?na_Used_use ?na_Chief_stuff ?na_Over_one ?na_Over_other ?na_Both_one ?na_Both_other ?na_Either_one ?na_Either_other ?na_But_one ?na_But_other ?kit_Anything ?kit_Made ?kit_Used ?kit_Chief ?kit_Over ?kit_Both ?kit_Either ?kit_But ?in_Both ?in_Either ?in_But ?cm_Anything ?cm_Made ?cm_Used ?cm_Chief ?cm_Over ?cm_Both ?cm_Either ?cm_But ?z_reversed ?z_len ?z_range ?z_abs ?z_max ?z_min ?z_isinstance ?z_int ?z_bool ?z_str ?z_list ?z_tuple ?z_sum ?z_all ?z_enumerate ?z_zip ?z_ValueError ?z_any ?z_set ?z_sorted
    (case n_Note => first | k_is | k_exc | kit_is)
    (case n_OfTwo => first | k_is | k_exc | kit_is)
    (case n_Anything => first | k_is | k_exc | kit_is)
    (case n_Made => first | k_is | k_exc | kit_is)
    (case n_Used => first | k_is | k_exc | kit_is)
    (case n_Chief => first | k_is | k_exc | kit_is)
    (case n_Over => first | k_is | k_exc | kit_is)
    (case n_Both => first | k_is | k_exc | kit_is)
    (case n_Either => first | k_is | k_exc | kit_is)
    (case n_But => first | k_is | k_exc | kit_is)
    (case a1 => first | k_is | k_exc | kit_is)
    (case l1 => first | k_is | k_exc | kit_is)
    (case c1 => first | k_is | k_exc | kit_is)
    (case k1 => first | k_is | k_exc | kit_is)
    (case a2 => first | k_is | k_exc | kit_is)
    (case l2 => first | k_is | k_exc | kit_is)
    (case c2 => first | k_is | k_exc | kit_is)
    (case k2 => first | k_is | k_exc | kit_is)
    (case a3 => first | k_is | k_exc | kit_is)
    (case l3 => first | k_is | k_exc | kit_is)
    (case c3 => first | k_is | k_exc | kit_is)
    (case k3 => first | k_is | k_exc | kit_is)
    (case a4 => first | k_is | k_exc | kit_is)
    (case l4 => first | k_is | k_exc | kit_is)
    (case c4 => first | k_is | k_exc | kit_is)
    (case k4 => first | k_is | k_exc | kit_is)
    (case a5 => first | k_is | k_exc | kit_is)
    (case l5 => first | k_is | k_exc | kit_is)
    (case c5 => first | k_is | k_exc | kit_is)
    (case k5 => first | k_is | k_exc | kit_is)
    (case a6 => first | k_is | k_exc | kit_is)
    (case l6 => first | k_is | k_exc | kit_is)
    (case c6 => first | k_is | k_exc | kit_is)
    (case k6 => first | k_is | k_exc | kit_is)
    (case a7 => first | k_is | k_exc | kit_is)
    (case l7 => first | k_is | k_exc | kit_is)
    (case c7 => first | k_is | k_exc | kit_is)
    (case k7 => first | k_is | k_exc | kit_is)
    (case a8 => first | k_is | k_exc | kit_is)
    (case l8 => first | k_is | k_exc | kit_is)
    (case c8 => first | k_is | k_exc | kit_is)
    (case k8 => first | k_is | k_exc | kit_is)
    (case a9 => first | k_is | k_exc | kit_is)
    (case l9 => first | k_is | k_exc | kit_is)
    (case c9 => first | k_is | k_exc | kit_is)
    (case k9 => first | k_is | k_exc | kit_is)
    (case t9 => first | k_is | k_exc | kit_is)
    (case a10 => first | k_is | k_exc | kit_is)
    (case l10 => first | k_is | k_exc | kit_is)
    (case c10 => first | k_is | k_exc | kit_is)
    (case k10 => first | k_is | k_exc | kit_is)
    (case t10 => first | k_is | k_exc | kit_is)
    (case a11 => first | k_is | k_exc | kit_is)
    (case l11 => first | k_is | k_exc | kit_is)
    (case c11 => first | k_is | k_exc | kit_is)
    (case k11 => first | k_is | k_exc | kit_is)
    (case t11 => first | k_is | k_exc | kit_is)
    (case a12 => first | k_is | k_exc | kit_is)
    (case l12 => first | k_is | k_exc | kit_is)
    (case c12 => first | k_is | k_exc | kit_is)
    (case k12 => first | k_is | k_exc | kit_is)
    (case t12 => first | k_is | k_exc | kit_is)
    (case a13 => first | k_is | k_exc | kit_is)
    (case l13 => first | k_is | k_exc | kit_is)
    (case c13 => first | k_is | k_exc | kit_is)
    (case k13 => first | k_is | k_exc | kit_is)
    (case t13 => first | k_is | k_exc | kit_is)
    (case a14 => first | k_is | k_exc | kit_is)
    (case l14 => first | k_is | k_exc | kit_is)
    (case c14 => first | k_is | k_exc | kit_is)
    (case k14 => first | k_is | k_exc | kit_is)
    (case a15 => first | k_is | k_exc | kit_is)
    (case l15 => first | k_is | k_exc | kit_is)
    (case c15 => first | k_is | k_exc | kit_is)
    (case k15 => first | k_is | k_exc | kit_is)
    (case a16 => first | k_is | k_exc | kit_is)
    (case l16 => first | k_is | k_exc | kit_is)
    (case c16 => first | k_is | k_exc | kit_is)
    (case k16 => first | k_is | k_exc | kit_is)
    (case a17 => first | k_is | k_exc | kit_is)
    (case l17 => first | k_is | k_exc | kit_is)
    (case c17 => first | k_is | k_exc | kit_is)
    (case k17 => first | k_is | k_exc | kit_is)
    (case a18 => first | k_is | k_exc | kit_is)
    (case l18 => first | k_is | k_exc | kit_is)
    (case c18 => first | k_is | k_exc | kit_is)
    (case k18 => first | k_is | k_exc | kit_is)
    (case a19 => first | k_is | k_exc | kit_is)
    (case l19 => first | k_is | k_exc | kit_is)
    (case c19 => first | k_is | k_exc | kit_is)
    (case k19 => first | k_is | k_exc | kit_is)
    (case a20 => first | k_is | k_exc | kit_is)
    (case l20 => first | k_is | k_exc | kit_is)
    (case c20 => first | k_is | k_exc | kit_is)
    (case k20 => first | k_is | k_exc | kit_is)
    (case a21 => first | k_is | k_exc | kit_is)
    (case l21 => first | k_is | k_exc | kit_is)
    (case c21 => first | k_is | k_exc | kit_is)
    (case k21 => first | k_is | k_exc | kit_is)
    (case a22 => first | k_is | k_exc | kit_is)
    (case l22 => first | k_is | k_exc | kit_is)
    (case c22 => first | k_is | k_exc | kit_is)
    (case k22 => first | k_is | k_exc | kit_is)
    (case a23 => first | k_is | k_exc | kit_is)
    (case l23 => first | k_is | k_exc | kit_is)
    (case c23 => first | k_is | k_exc | kit_is)
    (case k23 => first | k_is | k_exc | kit_is)
    (case a24 => first | k_is | k_exc | kit_is)
    (case l24 => first | k_is | k_exc | kit_is)
    (case c24 => first | k_is | k_exc | kit_is)
    (case k24 => first | k_is | k_exc | kit_is)
    (case a25 => first | k_is | k_exc | kit_is)
    (case l25 => first | k_is | k_exc | kit_is)
    (case c25 => first | k_is | k_exc | kit_is)
    (case k25 => first | k_is | k_exc | kit_is)
    (case t25 => first | k_is | k_exc | kit_is)
    (case a26 => first | k_is | k_exc | kit_is)
    (case l26 => first | k_is | k_exc | kit_is)
    (case c26 => first | k_is | k_exc | kit_is)
    (case k26 => first | k_is | k_exc | kit_is)
    (case t26 => first | k_is | k_exc | kit_is)
    (case a27 => first | k_is | k_exc | kit_is)
    (case l27 => first | k_is | k_exc | kit_is)
    (case c27 => first | k_is | k_exc | kit_is)
    (case k27 => first | k_is | k_exc | kit_is)
    (case t27 => first | k_is | k_exc | kit_is)
    (case a28 => first | k_is | k_exc | kit_is)
    (case l28 => first | k_is | k_exc | kit_is)
    (case c28 => first | k_is | k_exc | kit_is)
    (case k28 => first | k_is | k_exc | kit_is)
    (case t28 => first | k_is | k_exc | kit_is)
    (case a29 => first | k_is | k_exc | kit_is)
    (case l29 => first | k_is | k_exc | kit_is)
    (case c29 => first | k_is | k_exc | kit_is)
    (case k29 => first | k_is | k_exc | kit_is)
    (case t29 => first | k_is | k_exc | kit_is)
    (case a30 => first | k_is | k_exc | kit_is)
    (case l30 => first | k_is | k_exc | kit_is)
    (case c30 => first | k_is | k_exc | kit_is)
    (case k30 => first | k_is | k_exc | kit_is)
    (case t30 => first | k_is | k_exc | kit_is)
    (case a31 => first | k_is | k_exc | kit_is)
    (case l31 => first | k_is | k_exc | kit_is)
    (case c31 => first | k_is | k_exc | kit_is)
    (case k31 => first | k_is | k_exc | kit_is)
    (case t31 => first | k_is | k_exc | kit_is)
    (case a32 => first | k_is | k_exc | kit_is)
    (case l32 => first | k_is | k_exc | kit_is)
    (case c32 => first | k_is | k_exc | kit_is)
    (case k32 => first | k_is | k_exc | kit_is)
    (case t32 => first | k_is | k_exc | kit_is)
    (case a33 => first | k_is | k_exc | kit_is)
    (case l33 => first | k_is | k_exc | kit_is)
    (case c33 => first | k_is | k_exc | kit_is)
    (case k33 => first | k_is | k_exc | kit_is)
    (case t33 => first | k_is | k_exc | kit_is)
    (case a34 => first | k_is | k_exc | kit_is)
    (case l34 => first | k_is | k_exc | kit_is)
    (case c34 => first | k_is | k_exc | kit_is)
    (case k34 => first | k_is | k_exc | kit_is)
    (case a35 => first | k_is | k_exc | kit_is)
    (case l35 => first | k_is | k_exc | kit_is)
    (case c35 => first | k_is | k_exc | kit_is)
    (case k35 => first | k_is | k_exc | kit_is)
    (case a36 => first | k_is | k_exc | kit_is)
    (case l36 => first | k_is | k_exc | kit_is)
    (case c36 => first | k_is | k_exc | kit_is)
    (case k36 => first | k_is | k_exc | kit_is)
    (case a37 => first | k_is | k_exc | kit_is)
    (case l37 => first | k_is | k_exc | kit_is)
    (case c37 => first | k_is | k_exc | kit_is)
    (case k37 => first | k_is | k_exc | kit_is)
    (case a38 => first | k_is | k_exc | kit_is)
    (case l38 => first | k_is | k_exc | kit_is)
    (case c38 => first | k_is | k_exc | kit_is)
    (case k38 => first | k_is | k_exc | kit_is)
    (case a39 => first | k_is | k_exc | kit_is)
    (case l39 => first | k_is | k_exc | kit_is)
    (case c39 => first | k_is | k_exc | kit_is)
    (case k39 => first | k_is | k_exc | kit_is)
    (case a40 => first | k_is | k_exc | kit_is)
    (case l40 => first | k_is | k_exc | kit_is)
    (case c40 => first | k_is | k_exc | kit_is)
    (case k40 => first | k_is | k_exc | kit_is)
    (case a41 => first | k_is | k_exc | kit_is)
    (case l41 => first | k_is | k_exc | kit_is)
    (case c41 => first | k_is | k_exc | kit_is)
    (case k41 => first | k_is | k_exc | kit_is)
    (case pg_Anything => first | k_is | k_exc | kit_is)
    (case hd_Anything => first | k_is | k_exc | kit_is)
    (case po_Anything => first | k_is | k_exc | kit_is)
    (case sa_Anything => first | k_is | k_exc | kit_is)
    (case ia_Anything => first | k_is | k_exc | kit_is)
    (case im_Anything => first | k_is | k_exc | kit_is)
    (case mk_Anything => first | k_is | k_exc | kit_is)
    (case kc_Anything => first | k_is | k_exc | kit_is)
    (case in_Anything => first | k_is | k_exc | kit_is)
    (case pg_Made => first | k_is | k_exc | kit_is)
    (case hd_Made => first | k_is | k_exc | kit_is)
    (case po_Made => first | k_is | k_exc | kit_is)
    (case sa_Made => first | k_is | k_exc | kit_is)
    (case ia_Made => first | k_is | k_exc | kit_is)
    (case im_Made => first | k_is | k_exc | kit_is)
    (case mk_Made => first | k_is | k_exc | kit_is)
    (case kc_Made => first | k_is | k_exc | kit_is)
    (case pg_Used => first | k_is | k_exc | kit_is)
    (case hd_Used => first | k_is | k_exc | kit_is)
    (case po_Used => first | k_is | k_exc | kit_is)
    (case sa_Used => first | k_is | k_exc | kit_is)
    (case ia_Used => first | k_is | k_exc | kit_is)
    (case im_Used => first | k_is | k_exc | kit_is)
    (case mk_Used => first | k_is | k_exc | kit_is)
    (case kc_Used => first | k_is | k_exc | kit_is)
    (case pg_Chief => first | k_is | k_exc | kit_is)
    (case hd_Chief => first | k_is | k_exc | kit_is)
    (case po_Chief => first | k_is | k_exc | kit_is)
    (case sa_Chief => first | k_is | k_exc | kit_is)
    (case ia_Chief => first | k_is | k_exc | kit_is)
    (case im_Chief => first | k_is | k_exc | kit_is)
    (case mk_Chief => first | k_is | k_exc | kit_is)
    (case kc_Chief => first | k_is | k_exc | kit_is)
    (case pg_Over => first | k_is | k_exc | kit_is)
    (case hd_Over => first | k_is | k_exc | kit_is)
    (case po_Over => first | k_is | k_exc | kit_is)
    (case sa_Over => first | k_is | k_exc | kit_is)
    (case ia_Over => first | k_is | k_exc | kit_is)
    (case im_Over => first | k_is | k_exc | kit_is)
    (case mk_Over => first | k_is | k_exc | kit_is)
    (case kc_Over => first | k_is | k_exc | kit_is)
    (case pg_Both => first | k_is | k_exc | kit_is)
    (case hd_Both => first | k_is | k_exc | kit_is)
    (case po_Both => first | k_is | k_exc | kit_is)
    (case sa_Both => first | k_is | k_exc | kit_is)
    (case ia_Both => first | k_is | k_exc | kit_is)
    (case im_Both => first | k_is | k_exc | kit_is)
    (case mk_Both => first | k_is | k_exc | kit_is)
    (case kc_Both => first | k_is | k_exc | kit_is)
    (case pg_Either => first | k_is | k_exc | kit_is)
    (case hd_Either => first | k_is | k_exc | kit_is)
    (case po_Either => first | k_is | k_exc | kit_is)
    (case sa_Either => first | k_is | k_exc | kit_is)
    (case ia_Either => first | k_is | k_exc | kit_is)
    (case im_Either => first | k_is | k_exc | kit_is)
    (case mk_Either => first | k_is | k_exc | kit_is)
    (case kc_Either => first | k_is | k_exc | kit_is)
    (case pg_But => first | k_is | k_exc | kit_is)
    (case hd_But => first | k_is | k_exc | kit_is)
    (case po_But => first | k_is | k_exc | kit_is)
    (case sa_But => first | k_is | k_exc | kit_is)
    (case ia_But => first | k_is | k_exc | kit_is)
    (case im_But => first | k_is | k_exc | kit_is)
    (case mk_But => first | k_is | k_exc | kit_is)
    (case kc_But => first | k_is | k_exc | kit_is)
    (case oget => first | k_is | k_exc | kit_is)
    (case otakes => first | k_is | k_exc | kit_is)
    (case na_Made_stuff => first | k_is | k_exc | kit_is)
    (case na_Used_use => first | k_is | k_exc | kit_is)
    (case na_Chief_stuff => first | k_is | k_exc | kit_is)
    (case na_Over_one => first | k_is | k_exc | kit_is)
    (case na_Over_other => first | k_is | k_exc | kit_is)
    (case na_Both_one => first | k_is | k_exc | kit_is)
    (case na_Both_other => first | k_is | k_exc | kit_is)
    (case na_Either_one => first | k_is | k_exc | kit_is)
    (case na_Either_other => first | k_is | k_exc | kit_is)
    (case na_But_one => first | k_is | k_exc | kit_is)
    (case na_But_other => first | k_is | k_exc | kit_is)
    (case kit_Anything => first | k_is | k_exc | kit_is)
    (case kit_Made => first | k_is | k_exc | kit_is)
    (case kit_Used => first | k_is | k_exc | kit_is)
    (case kit_Chief => first | k_is | k_exc | kit_is)
    (case kit_Over => first | k_is | k_exc | kit_is)
    (case kit_Both => first | k_is | k_exc | kit_is)
    (case kit_Either => first | k_is | k_exc | kit_is)
    (case kit_But => first | k_is | k_exc | kit_is)
    (case in_Both => first | k_is | k_exc | kit_is)
    (case in_Either => first | k_is | k_exc | kit_is)
    (case in_But => first | k_is | k_exc | kit_is)
    (case cm_Anything => first | k_is | k_exc | kit_is)
    (case cm_Made => first | k_is | k_exc | kit_is)
    (case cm_Used => first | k_is | k_exc | kit_is)
    (case cm_Chief => first | k_is | k_exc | kit_is)
    (case cm_Over => first | k_is | k_exc | kit_is)
    (case cm_Both => first | k_is | k_exc | kit_is)
    (case cm_Either => first | k_is | k_exc | kit_is)
    (case cm_But => first | k_is | k_exc | kit_is)
    (case z_reversed => first | k_is | k_exc | kit_is)
    (case z_len => first | k_is | k_exc | kit_is)
    (case z_range => first | k_is | k_exc | kit_is)
    (case z_abs => first | k_is | k_exc | kit_is)
    (case z_max => first | k_is | k_exc | kit_is)
    (case z_min => first | k_is | k_exc | kit_is)
    (case z_isinstance => first | k_is | k_exc | kit_is)
    (case z_int => first | k_is | k_exc | kit_is)
    (case z_bool => first | k_is | k_exc | kit_is)
    (case z_str => first | k_is | k_exc | kit_is)
    (case z_list => first | k_is | k_exc | kit_is)
    (case z_tuple => first | k_is | k_exc | kit_is)
    (case z_sum => first | k_is | k_exc | kit_is)
    (case z_all => first | k_is | k_exc | kit_is)
    (case z_enumerate => first | k_is | k_exc | kit_is)
    (case z_zip => first | k_is | k_exc | kit_is)
    (case z_ValueError => first | k_is | k_exc | kit_is)
    (case z_any => first | k_is | k_exc | kit_is)
    (case z_set => first | k_is | k_exc | kit_is)
    (case z_sorted => first | k_is | k_exc | kit_is)
#print axioms PySem.Challenge.cw_tariffgate_k32_joined_notes_holds

