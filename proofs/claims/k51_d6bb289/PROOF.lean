import PyProof.Rows.All
import Wide.All
import OpenK.AllK
import Wide.FinOn
import Lean
import PyProof.EqAt
import PyProof.EqKinds
import PyProof.TupleCall
import PyProof.NeKinds
import PyProof.Draws
import PyProof.EnumMake
import PyProof.WalksEnum
import PyProof.Rows.EnumRows
import PyProof.ExcArgsOwn
import PyProof.ExcAttrAll.ValueError
import PyProof.ExcBaseAll.ValueError
import KE.KIsAll
import KE.KTryOn
import KE.RegKIsAll
import OpenK.KOwn
import PyProof.ZipIter
import PyProof.StrWalks
import PyProof.DictTable
import PyProof.SetNew
import PyProof.SetRoads
import PyProof.P3In
import PyProof.NeData
import PySem.Challenge.RW_tariffgate_k51_lots_refused
set_option Elab.async false
set_option linter.all false
set_option maxRecDepth 100000
namespace L2
open PySem PySem.Spec PyProof.Rows

abbrev Key := Sum Int Str
def keyIs : Key → Value → Bool
  | .inl k, v => Value.isInt k v
  | .inr x, v => Value.isStrOf x v
def keyH (w : World) : Key → Int
  | .inl k => hashInt k
  | .inr x => hashStr w x
theorem keyIs_shape : ∀ {k : Key} {v : Value}, keyIs k v = true → (∃ i t, k = Sum.inl i ∧ v = Value.int i t) ∨ (∃ x t, k = Sum.inr x ∧ v = Value.str x t)
  | .inl i, v, h => by
    obtain ⟨t, e⟩ := Value.isInt_shape (k := i) (v := v) h
    exact .inl ⟨i, t, rfl, e⟩
  | .inr x, v, h => by
    obtain ⟨t, e⟩ := Value.isStrOf_shape (x := x) (v := v) h
    exact .inr ⟨x, t, rfl, e⟩
theorem key_ll (a b : Int) : decide ((Sum.inl a : Key) = Sum.inl b) = (a == b) := by
  by_cases e : a = b
  · subst e; simp
  · have h : ¬ (Sum.inl a : Key) = Sum.inl b := fun q => e (Sum.inl.inj q)
    rw [decide_eq_false h]
    exact (beq_eq_false_iff_ne.mpr e).symm
theorem key_rr (a b : Str) : decide ((Sum.inr a : Key) = Sum.inr b) = decide (a = b) := by
  by_cases e : a = b
  · subst e; simp
  · have h : ¬ (Sum.inr a : Key) = Sum.inr b := fun q => e (Sum.inr.inj q)
    rw [decide_eq_false h, decide_eq_false e]
theorem key_lr (a : Int) (b : Str) : decide ((Sum.inl a : Key) = Sum.inr b) = false := decide_eq_false (fun q => nomatch q)
theorem key_rl (a : Str) (b : Int) : decide ((Sum.inr a : Key) = Sum.inl b) = false := decide_eq_false (fun q => nomatch q)

def mixKind (prog : Program) (w : World) : PySem.KeyKind prog w Key where
  is := keyIs
  hash := keyH w
  inj := fun v a b ha hb => by
    rcases keyIs_shape ha with ⟨i, t, rfl, rfl⟩ | ⟨x, t, rfl, rfl⟩
    · rcases keyIs_shape hb with ⟨j, u, rfl, e⟩ | ⟨y, u, rfl, e⟩
      · injection e with e1 _; rw [e1]
      · exact nomatch e
    · rcases keyIs_shape hb with ⟨j, u, rfl, e⟩ | ⟨y, u, rfl, e⟩
      · exact nomatch e
      · injection e with e1 _; rw [e1]
  byValue := fun k v h => by
    rcases keyIs_shape h with ⟨i, t, rfl, rfl⟩ | ⟨x, t, rfl, rfl⟩ <;> rfl
  pyHash := fun hv h => by
    rcases keyIs_shape hv with ⟨i, t, rfl, rfl⟩ | ⟨x, t, rfl, rfl⟩
    · exact wpAny_pyHash_int h
    · exact wpAny_pyHash_str h
  eqBool := fun hu hv h => by
    rcases keyIs_shape hu with ⟨i, t, rfl, rfl⟩ | ⟨x, t, rfl, rfl⟩
    · rcases keyIs_shape hv with ⟨j, u, rfl, rfl⟩ | ⟨y, u, rfl, rfl⟩
      · rw [key_ll] at h; exact wpAny_eqBool_int h
      · rw [key_lr] at h; exact SeqAt.EqAt.int_str i t y u _ _ _ _ h
    · rcases keyIs_shape hv with ⟨j, u, rfl, rfl⟩ | ⟨y, u, rfl, rfl⟩
      · rw [key_rl] at h; exact SeqAt.EqAt.str_int x t j u _ _ _ _ h
      · rw [key_rr] at h; exact wpAny_eqBool_str h
  «strs» := fun k x t v h => by
    rcases keyIs_shape h with ⟨i, u, rfl, e⟩ | ⟨y, u, rfl, e⟩
    · exact nomatch e
    · injection e with e1 _
      subst e1
      cases v <;> rfl

end L2

namespace L2
open PySem PySem.Spec PyProof.Rows

inductive V where
  | non | bl (b : Bool) | int (i : Int) | str (x : Str) | byt (b : Array UInt8) | flt (b : UInt64) | ref (a : Addr) | ty (n : String)
  deriving DecidableEq

def RelV : V → Value → Prop
  | .non, u => u = Value.none
  | .bl b, u => u = Value.bool b
  | .int i, u => ∃ t, u = Value.int i t
  | .str x, u => ∃ t, u = Value.str x t
  | .byt b, u => ∃ t, u = Value.bytes b t
  | .flt b, u => ∃ t, u = Value.float b t
  | .ref a, u => u = Value.ref a
  | .ty n, u => u = Value.type n

abbrev Vals : List V → List Value → Prop := Paired RelV
theorem Vals.length {xs : List V} {us : List Value} (r : Vals xs us) : xs.length = us.length := Paired.length r
theorem Vals.get : ∀ {xs : List V} {us : List Value} {i : Nat} {x : V}, Vals xs us → xs[i]? = some x → ∃ u, us[i]? = some u ∧ RelV x u
  | _, _, _, _, .nil, e => by simp at e
  | _, _, 0, _, .cons r _, e => by simp at e; subst e; exact ⟨_, rfl, r⟩
  | _, _, i + 1, x, .cons _ t, e => by
    obtain ⟨u, h1, h2⟩ := Vals.get (i := i) (x := x) t (by simpa using e)
    exact ⟨u, by simpa using h1, h2⟩
theorem Vals.set {x : V} {u : Value} (r : RelV x u) : ∀ {xs : List V} {us : List Value} (i : Nat), Vals xs us → Vals (xs.set i x) (us.set i u)
  | _, _, _, .nil => .nil
  | _, _, 0, .cons _ t => .cons r t
  | _, _, i + 1, .cons q t => .cons q (Vals.set r i t)
theorem Vals.append : ∀ {xs ys : List V} {us ws : List Value}, Vals xs us → Vals ys ws → Vals (xs ++ ys) (us ++ ws)
  | _, _, _, _, .nil, s => s
  | _, _, _, _, .cons r t, s => .cons r (Vals.append t s)
theorem Vals.take : ∀ {xs : List V} {us : List Value} (n : Nat), Vals xs us → Vals (xs.take n) (us.take n)
  | _, _, 0, _ => .nil
  | _, _, _ + 1, .nil => .nil
  | _, _, n + 1, .cons r t => .cons r (Vals.take n t)
theorem Vals.drop : ∀ {xs : List V} {us : List Value} (n : Nat), Vals xs us → Vals (xs.drop n) (us.drop n)
  | _, _, 0, r => r
  | _, _, _ + 1, .nil => .nil
  | _, _, n + 1, .cons _ t => Vals.drop n t
def RelO : Option V → Option Value → Prop
  | some v, some u => RelV v u
  | none, none => True
  | _, _ => False
def KV {κ : Type} : List (κ × V) → List (κ × Value) → Prop := Paired fun (p : κ × V) (q : κ × Value) => p.1 = q.1 ∧ RelV p.2 q.2

def kV : Key → V
  | .inl i => .int i
  | .inr x => .str x

inductive HO where
  /-- a list -/
  | lst (xs : List V)
  /-- a tuple (never changes) -/
  | tup (xs : List V)
  /-- a dict whose keys are ints and texts; one whose keys are tuples of ints and texts (the empty one is both) -/
  | dK (kvs : List (Key × V)) | dT (kvs : List (List Key × V))
  /-- a set of ints: its members, its size -/
  | set (S : Int → Bool) (n : Nat)
  /-- an instance of the class at C, its dict at dx, its attributes -/
  | ins (C dx : Addr) (fs : List (Str × V))
  /-- the dict of the instance at x -/
  | own (x : Addr)
  /-- the dict of an exception -/
  | xd (fs : List (Str × V))
  /-- a bound method, f of x -/
  | met (f x : Addr)
  /-- a range object lo, lo + 1, .. below hi -/
  | rng (lo hi : Int)
  /-- a thing that is known to the object (the script; a dict while a loop walks it): read, never written while it is so -/
  | frz (o : Obj) (u : HO)
  /-- a code object's table -/
  | tbl (ps : Array Value)
  /-- any other thing, by what is true of its one object (a def of one's own: SetO a S n := HO.ext fun h => ..) -/
  | ext (φ : Heap → Prop)

abbrev Hp := Addr → Option HO
def upd (H : Hp) (a : Addr) (o : HO) : Hp := fun b => if b = a then some o else H b
theorem upd_same {H : Hp} {a : Addr} {o : HO} : upd H a o a = some o := by unfold upd; rw [if_pos rfl]
theorem upd_ne {H : Hp} {a b : Addr} {o : HO} (h : b ≠ a) : upd H a o b = H b := by unfold upd; rw [if_neg h]
theorem ne_of {H : Hp} {a b : Addr} {o u : HO} (h : H a = some o) (h' : H b = some u) (d : o ≠ u) : a ≠ b := by
  intro e; subst e; rw [h] at h'; exact d (Option.some.inj h')
theorem ne_of_none {H : Hp} {a b : Addr} {o : HO} (h : H a = some o) (h' : H b = none) : a ≠ b := by
  intro e; subst e; rw [h] at h'; cases h'

section
variable (P : Program) (w : World)
def NoD (h : Heap) (a : Addr) : Prop := ∃ o, h.get? a = some o ∧ o.dict = none
def ObjOk (H : Hp) (h : Heap) (a : Addr) : HO → Prop
  | .lst xs => xs.length ≤ sizeLine ∧ ∃ (its : List Value) (n : Nat), Vals xs its ∧ h.get? a = some { cls := .type "list", data := .seq its.toArray n }
  | .tup xs => xs.length ≤ sizeLine ∧ ∃ its : List Value, Vals xs its ∧ IsTup h a its.toArray ∧ NoD h a
  | .dK kvs => kvs.length ≤ sizeLine ∧ (a == sysModules) = false ∧ ∃ vs, KV kvs vs ∧ h.DictOf (mixKind P w) a vs
  | .dT kvs => kvs.length ≤ sizeLine ∧ (a == sysModules) = false ∧ ∃ xs : List (List Key × Addr × Value),
      Paired (fun (p : List Key × V) (q : List Key × Addr × Value) => p.1 = q.1 ∧ H q.2.1 = some (.tup (p.1.map kV)) ∧ RelV p.2 q.2.2) kvs xs ∧
      ∃ o es ep, h.get? a = some o ∧ o.ExactDict ∧ o.data = .dict es ep ∧ es.toList = xs.map (entryOfKey (tupleKind (mixKind P w))) ∧ (xs.map (·.1)).Nodup
  | .set S n => h.SetOf (intKind P w) a S n
  | .ins C dx fs => H dx = some (.own a) ∧ fs.length ≤ 1000 ∧ dx ≠ a ∧ h.get? a = some (PySem.W.instObj C dx) ∧
      ∃ mA, h.Ns1 dx mA ∧ (∀ f, RelO (fs.lookup f) (mA f)) ∧ PySem.Within mA (fs.map (·.1))
  | .own _ => ∃ o, h.get? a = some o
  | .xd fs => ∃ mA, h.Ns1 a mA ∧ ∀ f, RelO (fs.lookup f) (mA f)
  | .rng lo hi => ∃ t u v, h.get? a = some { cls := .type "range", data := .fields #[.int lo t, .int hi u, .int 1 v] }
  | .frz o u => h.get? a = some o ∧ ObjOk H h a u
  | .tbl ps => h.get? a = some { cls := .none, data := .fields ps }
  | .met f x => h.get? a = some (PySem.W.methodObj (.ref f) (.ref x))
  | .ext φ => φ h ∧ (∃ o, h.get? a = some o) ∧ ∀ h1 h2 : Heap, φ h1 → (∀ o, h1.get? a = some o → h2.get? a = some o) → φ h2
def HOk (H : Hp) (h : Heap) : Prop := ∀ a o, H a = some o → ObjOk P w H h a o
end

section
variable {P : Program} {w : World} {H H' : Hp} {h h' : Heap} {a : Addr} {o : HO}
theorem ObjOk.lt (x : ObjOk P w H h a o) : a < h.objs.size := by
  cases o with
  | lst xs => obtain ⟨_, _, _, _, e⟩ := x; exact Heap.lt_size e
  | tup xs => obtain ⟨_, _, _, p, _⟩ := x; exact p.lt
  | dK kvs => obtain ⟨_, _, _, _, o, _, _, e, _⟩ := x; exact Heap.lt_size e
  | dT kvs => obtain ⟨_, _, _, _, o, _, _, e, _⟩ := x; exact Heap.lt_size e
  | set S n => obtain ⟨o, _, _, _, e, _⟩ := x; exact Heap.lt_size e
  | ins C dx fs => obtain ⟨_, _, _, e, _⟩ := x; exact Heap.lt_size e
  | own y => obtain ⟨_, e⟩ := x; exact Heap.lt_size e
  | xd fs => obtain ⟨_, ⟨_, _, _, e, _⟩, _⟩ := x; exact Heap.lt_size e
  | rng lo hi => obtain ⟨_, _, _, e⟩ := x; exact Heap.lt_size e
  | frz ob u => obtain ⟨e, _⟩ := x; exact Heap.lt_size e
  | tbl ps => exact Heap.lt_size (show h.get? a = some _ from x)
  | met f y => exact Heap.lt_size (show h.get? a = some _ from x)
  | ext φ => obtain ⟨_, ⟨_, e⟩, _⟩ := x; exact Heap.lt_size e
theorem Paired.mapP {α β : Type} {F G : α → β → Prop} : ∀ {l₁ : List α} {l₂ : List β}, Paired F l₁ l₂ → (∀ a b, F a b → G a b) → Paired G l₁ l₂
  | _, _, .nil, _ => .nil
  | _, _, .cons r t, f => .cons (f _ _ r) (Paired.mapP t f)
theorem ObjOk.stay (x : ObjOk P w H h a o) (k : ∀ b u, (b = a ∨ H b = some (.own a)) → h.get? b = some u → h'.get? b = some u)
    (ho : ∀ b, H b = some (.own a) → H' b = some (.own a)) (ht : ∀ b xs, H b = some (.tup xs) → H' b = some (.tup xs)) : ObjOk P w H' h' a o := by
  induction o with
  | lst xs => obtain ⟨z, its, n, r, e⟩ := x; exact ⟨z, its, n, r, k _ _ (.inl rfl) e⟩
  | tup xs => obtain ⟨z, its, r, ⟨ob, e, c⟩, o2, e2, d2⟩ := x; exact ⟨z, its, r, ⟨ob, k _ _ (.inl rfl) e, c⟩, o2, k _ _ (.inl rfl) e2, d2⟩
  | dK kvs => obtain ⟨z, y, vs, r, ob, es, ep, e, c⟩ := x; exact ⟨z, y, vs, r, ob, es, ep, k _ _ (.inl rfl) e, c⟩
  | dT kvs =>
    obtain ⟨z, y, xs, r, ob, es, ep, e, c⟩ := x
    exact ⟨z, y, xs, Paired.mapP r fun p q z => ⟨z.1, ht _ _ z.2.1, z.2.2⟩, ob, es, ep, k _ _ (.inl rfl) e, c⟩
  | set S n => obtain ⟨ob, es, ep, t, e, c⟩ := x; exact ⟨ob, es, ep, t, k _ _ (.inl rfl) e, c⟩
  | ins C dx fs =>
    obtain ⟨d, z, ne, e, mA, ⟨od, es, ep, e2, c⟩, r⟩ := x
    exact ⟨ho _ d, z, ne, k _ _ (.inl rfl) e, mA, ⟨od, es, ep, k _ _ (.inr d) e2, c⟩, r⟩
  | own y => obtain ⟨ob, e⟩ := x; exact ⟨ob, k _ _ (.inl rfl) e⟩
  | xd fs => obtain ⟨mA, ⟨od, es, ep, e, c⟩, r⟩ := x; exact ⟨mA, ⟨od, es, ep, k _ _ (.inl rfl) e, c⟩, r⟩
  | rng lo hi => obtain ⟨t, u, v, e⟩ := x; exact ⟨t, u, v, k _ _ (.inl rfl) e⟩
  | frz ob u ih => obtain ⟨e, q⟩ := x; exact ⟨k _ _ (.inl rfl) e, ih q⟩
  | tbl ps =>
    have e : h.get? a = some { cls := .none, data := .fields ps } := x
    show h'.get? a = some { cls := .none, data := .fields ps }
    exact k a _ (.inl rfl) e
  | met f y =>
    have e : h.get? a = some (PySem.W.methodObj (.ref f) (.ref y)) := x
    show h'.get? a = some (PySem.W.methodObj (.ref f) (.ref y))
    exact k a _ (.inl rfl) e
  | ext φ => obtain ⟨p, ⟨o, e⟩, st⟩ := x; exact ⟨st _ _ p fun o q => k _ _ (.inl rfl) q, ⟨o, k _ _ (.inl rfl) e⟩, st⟩
theorem HOk.lt (x : HOk P w H h) (e : H a = some o) : a < h.objs.size := (x a o e).lt
theorem HOk.fresh (x : HOk P w H h) (e : h.objs.size ≤ a) : H a = none := by
  cases q : H a with
  | none => rfl
  | some u => exact absurd (Nat.lt_of_lt_of_le (x.lt q) e) (Nat.lt_irrefl _)
theorem HOk.kept (x : HOk P w H h) (k : ∀ b u, h.get? b = some u → h'.get? b = some u) : HOk P w H h' := fun a o e =>
  (x a o e).stay (fun b u _ q => k b u q) (fun _ q => q) fun _ _ q => q
theorem HOk.laid (x : HOk P w H h) (k : ∀ b u, h.get? b = some u → h'.get? b = some u) (hp : h.objs.size ≤ a) (new : ObjOk P w (upd H a o) h' a o) : HOk P w (upd H a o) h' := fun b u e => by
  have hn := x.fresh hp
  by_cases hb : b = a
  · subst hb; rw [upd_same] at e; cases e; exact new
  · rw [upd_ne hb] at e
    exact (x b u e).stay (fun c v _ q => k c v q) (fun c q => by rw [upd_ne (ne_of_none q hn)]; exact q) fun c xs q => by rw [upd_ne (ne_of_none q hn)]; exact q
end

def Rd (H : Hp) (a : Addr) (u : HO) : Prop := H a = some u ∨ ∃ o, H a = some (.frz o u)
theorem Rd.of {H : Hp} {a : Addr} {u : HO} (h : H a = some u) : Rd H a u := .inl h
theorem Rd.ok {P : Program} {w : World} {H : Hp} {h : Heap} {a : Addr} {u : HO} (r : Rd H a u) (x : HOk P w H h) : ObjOk P w H h a u := by
  rcases r with r | ⟨o, r⟩
  · exact x a u r
  · obtain ⟨_, q⟩ := x a _ r
    exact q
def Mut : Option HO → Prop
  | some (.lst _) => True
  | some (.dK _) => True
  | some (.dT _) => True
  | some (.set _ _) => True
  | some (.ins _ _ _) => True
  | some (.ext _) => True
  | _ => False
section
variable {P : Program} {w : World} {H : Hp} {h h' : Heap} {x e : Addr} {o' : HO}
theorem HOk.write (ok : HOk P w H h) (mu : Mut (H x)) (he : e = x ∨ H e = some (.own x)) (k : ∀ b u, b ≠ e → h.get? b = some u → h'.get? b = some u) (heo : ∃ u, h'.get? e = some u)
    (new : ObjOk P w (upd H x o') h' x o') : HOk P w (upd H x o') h' := fun b u q => by
  have nown : ∀ c y, H c = some (.own y) → c ≠ x := fun c y r z => by subst z; rw [r] at mu; exact mu
  have ntup : ∀ c xs, H c = some (.tup xs) → c ≠ x := fun c xs r z => by subst z; rw [r] at mu; exact mu
  by_cases hb : b = x
  · subst hb; rw [upd_same] at q; cases q; exact new
  · rw [upd_ne hb] at q
    by_cases hbe : b = e
    · have q' : H b = some (.own x) := by
        rcases he with z | z
        · exact absurd (hbe.trans z) hb
        · rw [hbe]; exact z
      rw [q] at q'; cases q'
      obtain ⟨v, hv⟩ := heo
      exact ⟨v, by rw [hbe]; exact hv⟩
    · refine (ok b u q).stay (fun c v hc r => k c v ?_ r) (fun c r => by rw [upd_ne (nown c b r)]; exact r) fun c xs r => by rw [upd_ne (ntup c xs r)]; exact r
      rcases hc with rfl | hc
      · exact hbe
      · rintro rfl
        rcases he with z | z
        · exact nown c b hc z
        · rw [hc] at z; cases z; exact hb rfl
end

structure Un (fs ex : List Addr) (H H' : Hp) (h h' : Heap) : Prop where
  keep : ∀ b o, h.get? b = some o → H b = none → b ∉ fs → b ∉ ex → h'.get? b = some o
  slot : ∀ b o, h.get? b = some o → H b = none → b ∈ fs → b ∉ ex → ∃ sl, h'.get? b = some { o with slots := sl }
  free : ∀ b o, h.get? b = some o → H b = none → b ∉ ex → H' b = none
  there : ∀ b o, h.get? b = some o → b ∉ ex → ∃ o', h'.get? b = some o'
  tups : ∀ b xs, H b = some (.tup xs) → H' b = some (.tup xs)
  frzs : ∀ b o u, H b = some (.frz o u) → H' b = some (.frz o u)
  tbls : ∀ b ps, H b = some (.tbl ps) → ∃ more, H' b = some (.tbl (ps ++ more))
section
variable {fs fs' ex ex' : List Addr} {H H1 H2 : Hp} {h h1 h2 h' : Heap} {a x e : Addr} {o : HO}
theorem Un.any (u : Un fs ex H H1 h h1) {b : Addr} {ob : Obj} (q : h.get? b = some ob) (n : H b = none) (hx : b ∉ ex) : ∃ sl, h1.get? b = some { ob with slots := sl } := by
  by_cases hb : b ∈ fs
  · exact u.slot b ob q n hb hx
  · exact ⟨ob.slots, u.keep b ob q n hb hx⟩
theorem Un.trans (a : Un fs ex H H1 h h1) (b : Un fs ex H1 H2 h1 h2) : Un fs ex H H2 h h2 where
  keep := fun c ob q n hc hx => b.keep c ob (a.keep c ob q n hc hx) (a.free c ob q n hx) hc hx
  slot := fun c ob q n hc hx => by
    obtain ⟨sl, e1⟩ := a.slot c ob q n hc hx
    obtain ⟨sl', e2⟩ := b.slot c _ e1 (a.free c ob q n hx) hc hx
    exact ⟨sl', e2⟩
  free := fun c ob q n hx => by
    obtain ⟨o', e1⟩ := a.there c ob q hx
    exact b.free c o' e1 (a.free c ob q n hx) hx
  there := fun c ob q hx => by
    obtain ⟨o', e1⟩ := a.there c ob q hx
    exact b.there c o' e1 hx
  tups := fun c xs q => b.tups c xs (a.tups c xs q)
  frzs := fun c ob xs q => b.frzs c ob xs (a.frzs c ob xs q)
  tbls := fun c ps q => by
    obtain ⟨m1, e1⟩ := a.tbls c ps q
    obtain ⟨m2, e2⟩ := b.tbls c _ e1
    exact ⟨m1 ++ m2, by rw [e2, Array.append_assoc]⟩
theorem Un.kept (k : ∀ b u, h.get? b = some u → h'.get? b = some u) : Un fs ex H H h h' :=
  ⟨fun b ob q _ _ _ => k b ob q, fun b ob q _ _ _ => ⟨ob.slots, k b ob q⟩, fun _ _ _ n _ => n, fun b ob q _ => ⟨ob, k b ob q⟩, fun _ _ q => q, fun _ _ _ q => q, fun _ ps q => ⟨#[], by rw [q]; simp⟩⟩
theorem Un.refl : Un fs ex H H h h := Un.kept fun _ _ q => q
theorem Un.laid (k : ∀ b u, h.get? b = some u → h'.get? b = some u) (hp : h.objs.size ≤ a) (hn : H a = none) : Un fs ex H (upd H a o) h h' where
  keep := fun b u q _ _ _ => k b u q
  slot := fun b u q _ _ _ => ⟨u.slots, k b u q⟩
  free := fun b u q n _ => by rw [upd_ne (Nat.ne_of_lt (Nat.lt_of_lt_of_le (Heap.lt_size q) hp))]; exact n
  there := fun b u q _ => ⟨u, k b u q⟩
  tups := fun b xs q => by rw [upd_ne (ne_of_none q hn)]; exact q
  frzs := fun b u xs q => by rw [upd_ne (ne_of_none q hn)]; exact q
  tbls := fun b ps q => ⟨#[], by rw [upd_ne (ne_of_none q hn), q]; simp⟩
theorem Un.write (mu : Mut (H x)) (he : e = x ∨ H e = some (.own x)) (k : ∀ b u, b ≠ e → h.get? b = some u → h'.get? b = some u) (heo : ∃ u, h'.get? e = some u) : Un fs ex H (upd H x o) h h' := by
  have hx : ∀ b, H b = none → b ≠ x := fun b n z => by subst z; rw [n] at mu; exact mu
  have hb : ∀ b, H b = none → b ≠ e := fun b n z => by
    subst z
    rcases he with r | r
    · exact hx b n r
    · rw [n] at r; cases r
  have hm : ∀ b u, H b = some u → ¬ Mut (some u) → b ≠ x := fun b u q nm z => by subst z; rw [q] at mu; exact nm mu
  refine ⟨fun b u q n _ _ => k b u (hb b n) q, fun b u q n _ _ => ⟨u.slots, k b u (hb b n) q⟩, fun b u q n _ => by rw [upd_ne (hx b n)]; exact n, fun b u q _ => ?_,
    fun b xs q => by rw [upd_ne (hm b _ q fun z => z)]; exact q, fun b u xs q => by rw [upd_ne (hm b _ q fun z => z)]; exact q, fun b ps q => ⟨#[], by rw [upd_ne (hm b _ q fun z => z), q]; simp⟩⟩
  by_cases hbe : b = e
  · subst hbe; exact heo
  · exact ⟨u, k b u hbe q⟩
theorem Un.mono (u : Un fs ex H H1 h h1) (hs : ∀ b ∈ fs, b ∈ fs') (hx : ∀ b ∈ ex, b ∈ ex') : Un fs' ex' H H1 h h1 :=
  ⟨fun b ob q n hb he => u.keep b ob q n (fun z => hb (hs b z)) fun z => he (hx b z), fun _ _ q n _ he => u.any q n fun z => he (hx _ z), fun b ob q n he => u.free b ob q n fun z => he (hx b z), fun b ob q he => u.there b ob q fun z => he (hx b z), u.tups, u.frzs, u.tbls⟩
end

def trk (h : Heap) (H : Hp) : List Addr := (List.range h.objs.size).filter fun a => (H a).isSome
def hidT (h : Heap) (H : Hp) : Heap := PySem.W.hideAll h (trk h H)
theorem hidT_size (h : Heap) (H : Hp) : (hidT h H).objs.size = h.objs.size := PySem.W.hideAll_size _ _
theorem hidT_get {h : Heap} {H : Hp} {b : Addr} {o : Obj} (e : h.get? b = some o) (n : H b = none) : (hidT h H).get? b = some o :=
  PySem.W.hideAll_get _ e fun hm => by
    have q : (H b).isSome = true := (List.mem_filter.mp hm).2
    rw [n] at q; simp at q
theorem of_hidT {h : Heap} {H : Hp} {b : Addr} {o : Obj} (e : (hidT h H).get? b = some o) : h.get? b = some o ∧ H b = none := by
  have e' : h.get? b = some o := PySem.W.of_hideAll (trk h H) e
  refine ⟨e', ?_⟩
  cases q : H b with
  | none => rfl
  | some x =>
    have hm : b ∈ trk h H := List.mem_filter.mpr ⟨List.mem_range.mpr (Heap.lt_size e'), by simp [q]⟩
    have z : (hidT h H).get? b = none := PySem.W.hideAll_none (trk h H) hm
    rw [z] at e; cases e

def allNews (g h : Heap) (L : Addr) : List (Addr × Obj) := (List.range h.objs.size).filterMap fun a => if a = L ∨ (g.get? a).isSome = true then none else (h.get? a).map fun o => (a, o)
def rest (g h : Heap) (L d : Addr) : List (Addr × Obj) := (allNews g h L).filter fun p => decide (p.1 ≠ d)
end L2

namespace L2
open PySem PySem.Spec PyProof.Rows

structure Mod (K : PySem.W.Frag) (mg : Str → Option Value) (base : Heap) : Prop where
  kin : K.In base
  glob : base.Ns mainGlobals mg
  blt : ∃ mb, base.Ns builtinsNs mb ∧ ∀ x : Str, x ≠ "__name__" → mb x = bootBuiltins x
  nolimit : base.NoLimit

structure Cx where
  prog : Program
  w : World
  K : PySem.W.Frag
  mg : Str → Option Value
  base : Heap
  A : Around
  N : List Str
  s₀ : Shared
  H₀ : Hp
  env : Env
  outer : List Env
  stack : List Env
  ex : List Addr
  fn : Str → Bool
  calm : Bool
  pn : List (Addr × Obj)
  xe : Value → Shared → Prop
def frs (l : List Env) : List Addr := l.filterMap (·.frame)
abbrev Cx.fs (X : Cx) : List Addr := frs X.outer

def Vis (sc : Scope) (x : Str) : Prop := sc.names.lookup x = some .local ∨ sc.names.lookup x = some .cell ∨ sc.names.lookup x = some .free
def Loc (sc : Scope) (x : Str) : Prop := sc.names.lookup x = some .local ∨ sc.names.lookup x = some .cell
def Look (env : Env) (h : Heap) (m : Str → Option Value) (x : Str) (u : Value) : Prop :=
  (env.kindOf x = some .local ∧ m x = some u) ∨ ((env.kindOf x = some .cell ∨ env.kindOf x = some .free) ∧ ∃ c, env.cells.lookup x = some c ∧ h.IsCell c (some u))

structure Cx.Ok (X : Cx) : Prop where
  mod : Mod X.K X.mg X.base
  kind : X.env.scope.kind = .function
  glob : X.env.globals = mainGlobals
  blt : X.env.builtins = builtinsNs
  above : X.s₀.heap.objs.size ≤ X.env.locals
  inj : ∀ x y c, X.env.cells.lookup x = some c → X.env.cells.lookup y = some c → x = y
  has : ∀ x, (X.env.kindOf x = some .cell ∨ X.env.kindOf x = some .free) → ∃ c, X.env.cells.lookup x = some c
  cab : ∀ x c, X.fn x = true → X.env.cells.lookup x = some c → X.s₀.heap.objs.size ≤ c
  hd : X.calm = true → X.A.handled = none
  frames : X.A.frames = some X.stack
  stk : X.stack = X.outer ∨ (X.stack = X.env :: X.outer ∧ X.env.frame = some X.env.locals)
  exf : ∀ b ∈ X.ex, b ≠ X.env.locals ∧ ∀ x c, X.env.cells.lookup x = some c → c ≠ b
  bs : ∀ b o, X.base.get? b = some o → X.s₀.heap.get? b = some o ∧ X.H₀ b = none
  bsz : X.base.objs.size ≤ X.s₀.heap.objs.size
  noex : ∀ b o, X.base.get? b = some o → b ∉ X.ex
  exfs : ∀ b ∈ X.ex, b ∉ X.fs
  funs : X.s₀.heap.FunFrames X.base X.outer
  frf : ∀ b ∈ X.fs, X.H₀ b = none

structure Inv (X : Cx) (pins : List (Addr × Obj)) (σ : List (Option V)) (H : Hp) (s : Shared) : Prop where
  ok : X.Ok
  os : s.os = X.s₀.os
  bare : AllBare s.gens
  base : Un X.fs X.ex X.H₀ H X.s₀.heap s.heap
  loc : ∃ m, s.heap.Ns X.env.locals m ∧ ∀ (i : Nat) (x : Str) (v : V), X.N[i]? = some x → σ[i]? = some (some v) → Vis X.env.scope x → ∃ u, RelV v u ∧ Look X.env s.heap m x u
  cell : ∀ x c, X.env.cells.lookup x = some c → ∃ v, s.heap.IsCell c v
  free : H X.env.locals = none
  freeC : ∀ x c, X.env.cells.lookup x = some c → H c = none
  pin : ∀ p ∈ X.pn ++ pins, s.heap.get? p.1 = some p.2 ∧ H p.1 = none ∧ p.1 ≠ X.env.locals ∧ p.1 ∉ X.fs ∧ ∀ v, p.2.data ≠ .cell v
  hok : HOk X.prog X.w H s.heap
  len : σ.length = X.N.length

section
variable {X : Cx} {pins : List (Addr × Obj)} {σ : List (Option V)} {H H' : Hp} {s : Shared} {h' : Heap}

theorem Cx.Ok.nofr (ok : X.Ok) {b : Addr} {o : Obj} (e : X.base.get? b = some o) : b ∉ X.fs := fun hb => by
  have := (ok.funs.mem hb).1
  rw [e] at this; cases this
theorem Inv.bs (I : Inv X pins σ H s) : ∀ b o, X.base.get? b = some o → s.heap.get? b = some o ∧ H b = none := fun b o e =>
  ⟨I.base.keep b o (I.ok.bs b o e).1 (I.ok.bs b o e).2 (I.ok.nofr e) (I.ok.noex b o e), I.base.free b o (I.ok.bs b o e).1 (I.ok.bs b o e).2 (I.ok.noex b o e)⟩
theorem Inv.bk (I : Inv X pins σ H s) : ∀ b o, X.base.get? b = some o → s.heap.get? b = some o := fun b o e => (I.bs b o e).1
theorem Inv.mod (I : Inv X pins σ H s) : Mod X.K X.mg X.base := I.ok.mod
theorem Inv.kIn (I : Inv X pins σ H s) : X.K.In s.heap := I.ok.mod.kin.keeps I.bk
theorem Inv.nolimit (I : Inv X pins σ H s) : s.heap.NoLimit := I.ok.mod.nolimit.keeps I.bk
theorem Inv.fr (I : Inv X pins σ H s) : ∃ m, Fr X.base X.env.locals s.heap m :=
  let ⟨m, hn, _⟩ := I.loc
  ⟨m, hn, I.bk, Nat.le_trans I.ok.bsz I.ok.above⟩
theorem Inv.lt (I : Inv X pins σ H s) : X.env.locals < s.heap.objs.size := let ⟨_, hn, _⟩ := I.loc; hn.lt
theorem Inv.sz (I : Inv X pins σ H s) : X.s₀.heap.objs.size ≤ s.heap.objs.size := Nat.le_trans I.ok.above (Nat.le_of_lt I.lt)
theorem Inv.nofs (I : Inv X pins σ H s) {a : Addr} (h : s.heap.objs.size ≤ a) : a ∉ X.fs := fun hb => by
  obtain ⟨_, o, ho, _⟩ := I.ok.funs.mem hb
  exact absurd (Nat.lt_of_lt_of_le (Heap.lt_size ho) (Nat.le_trans I.sz h)) (Nat.lt_irrefl _)
theorem Inv.cne (I : Inv X pins σ H s) : ∀ x c, X.env.cells.lookup x = some c → c ≠ X.env.locals := fun x c e z => by
  obtain ⟨v, o, ho, hd⟩ := I.cell x c e
  obtain ⟨m, ⟨o', es, ep, ho', hd', _⟩, _⟩ := I.loc
  rw [z, ho'] at ho; cases ho; rw [hd'] at hd; cases hd
theorem Inv.funs (I : Inv X pins σ H s) : s.heap.FunFrames X.base X.outer := by
  have all : ∀ (l : List Env), (∀ b ∈ frs l, b ∈ X.fs) → X.s₀.heap.FunFrames X.base l → s.heap.FunFrames X.base l := by
    intro l
    induction l with
    | nil => intro _ _; trivial
    | cons env r ih =>
      intro hs hl
      obtain ⟨hk, ⟨L, o, hf, hn, ho, hd⟩, hr⟩ := hl
      have hL : L ∈ X.fs := hs L (by unfold frs; rw [List.filterMap_cons, hf]; exact List.mem_cons_self)
      obtain ⟨sl, e⟩ := I.base.slot L o ho (I.ok.frf L hL) hL fun z => I.ok.exfs L z hL
      exact ⟨hk, ⟨L, _, hf, hn, e, hd⟩, ih (fun b hb => hs b (by unfold frs; rw [List.filterMap_cons, hf]; exact List.mem_cons_of_mem _ hb)) hr⟩
  exact all X.outer (fun _ hb => hb) I.ok.funs

theorem Inv.stack (I : Inv X pins σ H s) : s.heap.FunFrames X.base X.stack := by
  rcases I.ok.stk with e | ⟨e, hf⟩
  · rw [e]; exact I.funs
  · rw [e]
    obtain ⟨m, hn, _⟩ := I.loc
    refine .cons (by rw [I.ok.kind]; decide) hf hn ?_ I.funs
    exact Heap.get?_none_of_le (Nat.le_trans I.ok.bsz I.ok.above)
theorem Inv.stkSub (I : Inv X pins σ H s) : ∀ b ∈ frs X.stack, b ∈ X.env.locals :: X.fs := fun b hb => by
  rcases I.ok.stk with e | ⟨e, hf⟩
  · rw [e] at hb; exact List.mem_cons_of_mem _ hb
  · rw [e] at hb
    unfold frs at hb
    rw [List.filterMap_cons, hf] at hb
    exact hb
theorem Inv.stkFree (I : Inv X pins σ H s) : ∀ b ∈ frs X.stack, H b = none := fun b hb => by
  rcases List.mem_cons.mp (I.stkSub b hb) with e | hb
  · rw [e]; exact I.free
  · obtain ⟨_, o, ho, _⟩ := I.ok.funs.mem hb
    exact I.base.free b o ho (I.ok.frf b hb) fun z => I.ok.exfs b z hb

theorem Inv.step {g' : Array GenState} {t' : Nat} {d' : Drawn} {ch : List Addr} (I : Inv X pins σ H s)
    (hch : ∀ b ∈ ch, (b ∈ X.ex ∨ X.s₀.heap.objs.size ≤ b) ∧ b ≠ X.env.locals ∧ (∀ x c, X.env.cells.lookup x = some c → c ≠ b) ∧ ∀ p ∈ X.pn ++ pins, p.1 ≠ b)
    (keep : ∀ b o, b ≠ X.env.locals → b ∉ X.fs → b ∉ ch → s.heap.get? b = some o → H b = none → h'.get? b = some o)
    (slot : ∀ b o, b ≠ X.env.locals → b ∈ X.fs → b ∉ ch → s.heap.get? b = some o → H b = none → ∃ sl, h'.get? b = some { o with slots := sl }) (free : ∀ b o, b ∉ ch → s.heap.get? b = some o → H b = none → H' b = none)
    (there : ∀ b o, b ∉ ch → s.heap.get? b = some o → ∃ o', h'.get? b = some o')
    (tups : ∀ b xs, H b = some (.tup xs) → H' b = some (.tup xs)) (frzs : ∀ b o u, H b = some (.frz o u) → H' b = some (.frz o u)) (tbls : ∀ b ps, H b = some (.tbl ps) → ∃ more, H' b = some (.tbl (ps ++ more)))
    (ns : ∀ m, s.heap.Ns X.env.locals m → h'.Ns X.env.locals m) (hok : HOk X.prog X.w H' h') (hg : AllBare g') :
    Inv X pins σ H' { s with heap := h', gens := g', drawn := d', toks := t' } := by
  have neL : ∀ b o, X.s₀.heap.get? b = some o → b ≠ X.env.locals := fun b o e => Nat.ne_of_lt (Nat.lt_of_lt_of_le (Heap.lt_size e) I.ok.above)
  have neC : ∀ b o, X.s₀.heap.get? b = some o → b ∉ X.ex → b ∉ ch := fun b o e hx hb => by
    rcases (hch b hb).1 with z | z
    · exact hx z
    · exact absurd (Nat.lt_of_lt_of_le (Heap.lt_size e) z) (Nat.lt_irrefl _)
  have cellK : ∀ x c, X.env.cells.lookup x = some c → ∀ v, s.heap.IsCell c v → h'.IsCell c v := fun x c e v ⟨o, ho, hd⟩ => by
    have nch : c ∉ ch := fun z => (hch c z).2.2.1 x c e rfl
    by_cases hc : c ∈ X.fs
    · obtain ⟨sl, q⟩ := slot c o (I.cne x c e) hc nch ho (I.freeC x c e)
      exact ⟨_, q, hd⟩
    · exact ⟨o, keep c o (I.cne x c e) hc nch ho (I.freeC x c e), hd⟩
  refine ⟨I.ok, I.os, hg, ⟨fun b o e n hb hx => ?_, fun b o e n hb hx => ?_, fun b o e n hx => ?_, fun b o e hx => ?_, fun b xs e => tups b xs (I.base.tups b xs e), fun b o xs e => frzs b o xs (I.base.frzs b o xs e), fun b ps e => ?_⟩, ?_, fun x c e => ?_, ?_, fun x c e => ?_, fun p hp => ?_, hok, I.len⟩
  · exact keep b o (neL b o e) hb (neC b o e hx) (I.base.keep b o e n hb hx) (I.base.free b o e n hx)
  · obtain ⟨sl, e1⟩ := I.base.slot b o e n hb hx
    obtain ⟨sl', e2⟩ := slot b _ (neL b o e) hb (neC b o e hx) e1 (I.base.free b o e n hx)
    exact ⟨sl', e2⟩
  · obtain ⟨o', e1⟩ := I.base.there b o e hx
    exact free b o' (neC b o e hx) e1 (I.base.free b o e n hx)
  · obtain ⟨o', e1⟩ := I.base.there b o e hx
    exact there b o' (neC b o e hx) e1
  · obtain ⟨m1, e1⟩ := I.base.tbls b ps e
    obtain ⟨m2, e2⟩ := tbls b _ e1
    exact ⟨m1 ++ m2, by rw [e2, Array.append_assoc]⟩
  · obtain ⟨m, hn, hl⟩ := I.loc
    refine ⟨m, ns m hn, fun i x v e1 e2 e3 => ?_⟩
    obtain ⟨u, r, l⟩ := hl i x v e1 e2 e3
    refine ⟨u, r, ?_⟩
    rcases l with l | ⟨k, c, e, z⟩
    · exact .inl l
    · exact .inr ⟨k, c, e, cellK x c e _ z⟩
  · obtain ⟨v, z⟩ := I.cell x c e
    exact ⟨v, cellK x c e v z⟩
  · obtain ⟨m, ⟨o, _, _, ho, _⟩, _⟩ := I.loc
    exact free _ o (fun z => (hch _ z).2.1 rfl) ho I.free
  · obtain ⟨v, o, ho, hd⟩ := I.cell x c e
    exact free c o (fun z => (hch c z).2.2.1 x c e rfl) ho (I.freeC x c e)
  · obtain ⟨e, n, ne, nf, d⟩ := I.pin p hp
    have nch : p.1 ∉ ch := fun z => (hch p.1 z).2.2.2 p hp rfl
    exact ⟨keep p.1 p.2 ne nf nch e n, free p.1 p.2 nch e n, ne, nf, d⟩
theorem Inv.un {t' : Nat} (I : Inv X pins σ H s) (u : Un X.fs [] H H' s.heap h') (hok : HOk X.prog X.w H' h') : Inv X pins σ H' { s with heap := h', toks := t' } := by
  obtain ⟨m, ⟨o, es, ep, ho, r⟩, _⟩ := id I.loc
  obtain ⟨sl, hL⟩ := u.any ho I.free (by simp)
  exact I.step (g' := s.gens) (d' := s.drawn) (ch := []) (fun _ z => nomatch z) (fun b o _ hb _ e n => u.keep b o e n hb (by simp)) (fun b o _ hb _ e n => u.slot b o e n hb (by simp)) (fun b o _ e n => u.free b o e n (by simp)) (fun b o _ e => u.there b o e (by simp)) u.tups u.frzs u.tbls (fun m' hm => by
    obtain ⟨o', es', ep', ho', r'⟩ := hm
    rw [ho] at ho'; cases ho'
    exact ⟨_, es', ep', hL, r'⟩) hok I.bare
theorem Inv.call {g' : Array GenState} {t' : Nat} {d' : Drawn} {ch : List Addr} (I : Inv X pins σ H s) (u : Un (frs X.stack) ch H H' s.heap h') (hok : HOk X.prog X.w H' h') (hg : AllBare g')
    (hch : ∀ b ∈ ch, (b ∈ X.ex ∨ X.s₀.heap.objs.size ≤ b) ∧ b ≠ X.env.locals ∧ (∀ x c, X.env.cells.lookup x = some c → c ≠ b) ∧ ∀ p ∈ X.pn ++ pins, p.1 ≠ b) :
    Inv X pins σ H' { s with heap := h', gens := g', drawn := d', toks := t' } := by
  obtain ⟨m, ⟨o, es, ep, ho, r⟩, _⟩ := id I.loc
  obtain ⟨sl, hL⟩ := u.any ho I.free fun z => (hch _ z).2.1 rfl
  exact I.step (ch := ch) hch (fun b o hL hb hc e n => u.keep b o e n (fun z => (List.mem_cons.mp (I.stkSub b z)).elim hL hb) hc) (fun b o _ _ hc e n => u.any e n hc) (fun b o hc e n => u.free b o e n hc) (fun b o hc e => u.there b o e hc) u.tups u.frzs u.tbls (fun m' hm => by
    obtain ⟨o', es', ep', ho', r'⟩ := hm
    rw [ho] at ho'; cases ho'
    exact ⟨_, es', ep', hL, r'⟩) hok hg
theorem Inv.turned {t' : Nat} {it : Addr} (I : Inv X pins σ H s) (k : ∀ b o, b ≠ it → s.heap.get? b = some o → h'.get? b = some o) (hn : H it = none) (hL : it ≠ X.env.locals)
    (h1 : it ∈ X.ex ∨ X.s₀.heap.objs.size ≤ it) (h2 : ∀ x c, X.env.cells.lookup x = some c → c ≠ it) (h3 : ∀ p ∈ X.pn ++ pins, p.1 ≠ it) : Inv X pins σ H { s with heap := h', toks := t' } := by
  have nit : ∀ b u, H b = some u → b ≠ it := fun b u e z => by rw [z, hn] at e; cases e
  refine I.step (g' := s.gens) (d' := s.drawn) (ch := [it]) (fun b hb => ?_) (fun b o _ _ hc e _ => k b o (fun z => hc (by simp [z])) e) (fun b o _ _ hc e _ => ⟨o.slots, k b o (fun z => hc (by simp [z])) e⟩) (fun _ _ _ _ n => n)
    (fun b o hc e => ⟨o, k b o (fun z => hc (by simp [z])) e⟩) (fun _ _ e => e) (fun _ _ _ e => e) (fun b ps e => ⟨#[], by rw [e]; simp⟩) (fun m hm => ?_) (fun b u e => ?_) I.bare
  · have e : b = it := by simpa using hb
    subst e
    exact ⟨h1, hL, h2, h3⟩
  · obtain ⟨o, es, ep, ho, r⟩ := hm
    exact ⟨o, es, ep, k _ o (Ne.symm hL) ho, r⟩
  · refine (I.hok b u e).stay (fun c v hc q => k c v ?_ q) (fun _ q => q) fun _ _ q => q
    rcases hc with z | z
    · rw [z]; exact nit b u e
    · exact nit c _ z
theorem Inv.tok (I : Inv X pins σ H s) (t : Nat) : Inv X pins σ H { s with toks := t } := I.un (h' := s.heap) (t' := t) Un.refl I.hok
theorem Inv.kept {t' : Nat} (I : Inv X pins σ H s) (k : ∀ b u, s.heap.get? b = some u → h'.get? b = some u) : Inv X pins σ H { s with heap := h', toks := t' } := I.un (Un.kept k) (I.hok.kept k)
theorem Inv.laid {a : Addr} {o : HO} {t' : Nat} (I : Inv X pins σ H s) (k : ∀ b u, s.heap.get? b = some u → h'.get? b = some u) (hp : s.heap.objs.size ≤ a) (new : ObjOk X.prog X.w (upd H a o) h' a o) :
    Inv X pins σ (upd H a o) { s with heap := h', toks := t' } := I.un (Un.laid k hp (I.hok.fresh hp)) (I.hok.laid k hp new)
theorem Inv.write {x e : Addr} {o : HO} {t' : Nat} (I : Inv X pins σ H s) (mu : Mut (H x)) (he : e = x ∨ H e = some (.own x)) (k : ∀ b u, b ≠ e → s.heap.get? b = some u → h'.get? b = some u) (heo : ∃ u, h'.get? e = some u)
    (new : ObjOk X.prog X.w (upd H x o) h' x o) : Inv X pins σ (upd H x o) { s with heap := h', toks := t' } := I.un (Un.write mu he k heo) (I.hok.write mu he k heo new)
theorem Inv.pins_of {pins' : List (Addr × Obj)} (I : Inv X pins σ H s) (h : ∀ p ∈ pins', s.heap.get? p.1 = some p.2 ∧ H p.1 = none ∧ p.1 ≠ X.env.locals ∧ p.1 ∉ X.fs ∧ ∀ v, p.2.data ≠ .cell v) : Inv X pins' σ H s :=
  ⟨I.ok, I.os, I.bare, I.base, I.loc, I.cell, I.free, I.freeC, fun p hp => (List.mem_append.mp hp).elim (fun z => I.pin p (List.mem_append_left _ z)) (h p), I.hok, I.len⟩

theorem nodup_ix {N : List Str} (hN : N.Nodup) {i j : Nat} {x : Str} (a : N[i]? = some x) (b : N[j]? = some x) : i = j := by
  obtain ⟨h1, e1⟩ := List.getElem?_eq_some_iff.mp a
  obtain ⟨h2, e2⟩ := List.getElem?_eq_some_iff.mp b
  exact (List.getElem_inj hN).mp (e1.trans e2.symm)

theorem store_ok2 {M : Model} {A : Around} {E : Value → Shared → Prop} {i : Nat} {x : Str} {v : V} {u : Value} {Q : Unit → Shared → Prop} (I : Inv X pins σ H s) (hN : X.N.Nodup) (hi : X.N[i]? = some x) (hx : Loc X.env.scope x) (r : RelV v u)
    (h : ∀ s', Inv X pins (σ.set i (some v)) H s' → (∃ a, Heap.SameBut a s.heap s'.heap ∧ (a = X.env.locals ∨ X.env.cells.lookup x = some a)) → Q () s') (hf : X.fn x = true ∨ X.env.scope.names.lookup x = some .local := by first | exact .inl rfl | exact .inr rfl | assumption) : wpAny M A (storeName X.env x u) Q E s := by
  obtain ⟨m, hn, hl⟩ := id I.loc
  have hcls : (X.env.scope.kind == .class || (X.env.scope.kind == .module && X.env.locals != X.env.globals)) = false := by rw [I.ok.kind]; rfl
  have hiσ : i < σ.length := by rw [I.len]; exact (List.getElem?_eq_some_iff.mp hi).1
  have cne := I.cne
  have tracked : ∀ {a : Addr} {h' : Heap}, (∃ o, s.heap.get? a = some o ∧ H a = none) → Heap.SameBut a s.heap h' → HOk X.prog X.w H h' := fun {a h'} ha hs b ob e => by
    obtain ⟨_, _, hfree⟩ := ha
    refine (I.hok b ob e).stay (fun c w' hc q => (hs.2 c ?_).trans q) (fun _ q => q) fun _ _ q => q
    rintro rfl
    rcases hc with rfl | hc
    · rw [hfree] at e; cases e
    · rw [hfree] at hc; cases hc
  rcases hx with hk | hk
  · refine wpAny_storeName_local hk hn (fun h' hn' hs => ?_) hcls
    obtain ⟨oL, _, _, hoL, _⟩ := id hn
    refine h _ ⟨I.ok, I.os, I.bare, ⟨fun b o e n hb hx => ?_, fun b o e n hb hx => ?_, I.base.free, fun b o e hx => ?_, I.base.tups, I.base.frzs, I.base.tbls⟩, ⟨_, hn', fun j y v' e1 e2 e3 => ?_⟩, fun y c e => ?_, I.free, I.freeC, fun p hp => ?_, tracked ⟨oL, hoL, I.free⟩ hs, by simpa using I.len⟩ ⟨_, hs, .inl rfl⟩
    · exact (hs.2 b (Nat.ne_of_lt (Nat.lt_of_lt_of_le (Heap.lt_size e) I.ok.above))).trans (I.base.keep b o e n hb hx)
    · obtain ⟨sl, e1⟩ := I.base.slot b o e n hb hx
      exact ⟨sl, (hs.2 b (Nat.ne_of_lt (Nat.lt_of_lt_of_le (Heap.lt_size e) I.ok.above))).trans e1⟩
    · obtain ⟨o', e1⟩ := I.base.there b o e hx
      exact ⟨o', (hs.2 b (Nat.ne_of_lt (Nat.lt_of_lt_of_le (Heap.lt_size e) I.ok.above))).trans e1⟩
    · by_cases hj : j = i
      · subst hj
        rw [hi] at e1; cases e1
        rw [List.getElem?_set_self hiσ] at e2
        cases e2
        exact ⟨u, r, .inl ⟨hk, by simp⟩⟩
      · rw [List.getElem?_set_ne (Ne.symm hj)] at e2
        obtain ⟨u', r', q⟩ := hl j y v' e1 e2 e3
        refine ⟨u', r', ?_⟩
        rcases q with ⟨k, e⟩ | ⟨k, c, e, z⟩
        · refine .inl ⟨k, ?_⟩
          have : y ≠ x := fun e => hj (nodup_ix hN e1 (e ▸ hi))
          simp [this, e]
        · exact .inr ⟨k, c, e, z.sameBut hs (cne y c e)⟩
    · obtain ⟨w', z⟩ := I.cell y c e
      exact ⟨w', z.sameBut hs (cne y c e)⟩
    · obtain ⟨e, n, ne, nf, d⟩ := I.pin p hp
      exact ⟨(hs.2 p.1 ne).trans e, n, ne, nf, d⟩
  · have hfn : X.fn x = true := by
      rcases hf with z | z
      · exact z
      · rw [z] at hk; cases hk
    obtain ⟨c, hc⟩ := I.ok.has x (.inl hk)
    obtain ⟨w', z⟩ := I.cell x c hc
    refine wpAny_storeName_cell I.ok.kind hk hc z (fun h' hc' hs => ?_)
    obtain ⟨oc, hoc, hocd⟩ := id z
    refine h { s with heap := h' } ⟨I.ok, I.os, I.bare, ⟨fun b o e n hb hx => ?_, fun b o e n hb hx => ?_, I.base.free, fun b o e hx => ?_, I.base.tups, I.base.frzs, I.base.tbls⟩, ⟨m, hn.sameBut hs (Ne.symm (cne x c hc)), fun j y v' e1 e2 e3 => ?_⟩, fun y c' e => ?_, I.free, I.freeC, fun p hp => ?_, tracked ⟨oc, hoc, I.freeC x c hc⟩ hs, by simpa using I.len⟩ ⟨c, hs, .inr hc⟩
    · exact (hs.2 b (Nat.ne_of_lt (Nat.lt_of_lt_of_le (Heap.lt_size e) (I.ok.cab x c hfn hc)))).trans (I.base.keep b o e n hb hx)
    · obtain ⟨sl, e1⟩ := I.base.slot b o e n hb hx
      exact ⟨sl, (hs.2 b (Nat.ne_of_lt (Nat.lt_of_lt_of_le (Heap.lt_size e) (I.ok.cab x c hfn hc)))).trans e1⟩
    · obtain ⟨o', e1⟩ := I.base.there b o e hx
      exact ⟨o', (hs.2 b (Nat.ne_of_lt (Nat.lt_of_lt_of_le (Heap.lt_size e) (I.ok.cab x c hfn hc)))).trans e1⟩
    · by_cases hj : j = i
      · subst hj
        rw [hi] at e1; cases e1
        rw [List.getElem?_set_self hiσ] at e2
        cases e2
        exact ⟨u, r, .inr ⟨.inl hk, c, hc, hc'⟩⟩
      · rw [List.getElem?_set_ne (Ne.symm hj)] at e2
        obtain ⟨u', r', q⟩ := hl j y v' e1 e2 e3
        refine ⟨u', r', ?_⟩
        rcases q with q | ⟨k, c', e, z'⟩
        · exact .inl q
        · refine .inr ⟨k, c', e, z'.sameBut hs ?_⟩
          rintro rfl
          exact hj (nodup_ix hN e1 (I.ok.inj _ _ _ e hc ▸ hi))
    · by_cases hcc : c' = c
      · subst hcc; exact ⟨_, hc'⟩
      · obtain ⟨w2, z2⟩ := I.cell y c' e
        exact ⟨w2, z2.sameBut hs hcc⟩
    · obtain ⟨e, n, ne, nf, d⟩ := I.pin p hp
      refine ⟨(hs.2 p.1 ?_).trans e, n, ne, nf, d⟩
      intro q
      rw [q, hoc] at e
      have q' : oc = p.2 := Option.some.inj e
      exact d w' (by rw [← q']; exact hocd)
theorem store_ok {M : Model} {A : Around} {E : Value → Shared → Prop} {i : Nat} {x : Str} {v : V} {u : Value} {Q : Unit → Shared → Prop} (I : Inv X pins σ H s) (hN : X.N.Nodup) (hi : X.N[i]? = some x) (hx : Loc X.env.scope x) (r : RelV v u)
    (h : ∀ s', Inv X pins (σ.set i (some v)) H s' → Q () s') (hf : X.fn x = true ∨ X.env.scope.names.lookup x = some .local := by first | exact .inl rfl | exact .inr rfl | assumption) : wpAny M A (storeName X.env x u) Q E s :=
  store_ok2 I hN hi hx r (fun s' I' _ => h s' I') hf
theorem Inv.call' {s' : Shared} {ch : List Addr} (I : Inv X pins σ H s) (ho : s'.os = s.os) (u : Un (frs X.stack) ch H H' s.heap s'.heap) (hok : HOk X.prog X.w H' s'.heap) (hg : AllBare s'.gens)
    (hch : ∀ b ∈ ch, (b ∈ X.ex ∨ X.s₀.heap.objs.size ≤ b) ∧ b ≠ X.env.locals ∧ (∀ x c, X.env.cells.lookup x = some c → c ≠ b) ∧ ∀ p ∈ X.pn ++ pins, p.1 ≠ b) : Inv X pins σ H' s' := by
  obtain ⟨h', g', d', t', o'⟩ := s'
  have e : o' = s.os := ho
  subst e
  exact I.call (g' := g') (t' := t') (d' := d') u hok hg hch
end

abbrev XK := Value → Option Addr → Hp → Prop
abbrev St := List (Option V)
abbrev VK := V → Hp → Prop
abbrev TE := St → Hp → VK → Prop
abbrev TT := St → Hp → (Bool → Hp → Prop) → Prop
abbrev TA := St → Hp → (List V → Hp → Prop) → Prop
structure Ends where
  nx : St → Hp → Prop
  rt : VK
  bk : St → Hp → Prop := fun _ _ => False
  ct : St → Hp → Prop := fun _ _ => False
abbrev TS := Ends → St → Hp → Prop

def EP (X : Cx) (pins : List (Addr × Obj)) (σ : St) (Q : VK) (u : Value) (s' : Shared) : Prop := ∃ v H', Inv X pins σ H' s' ∧ RelV v u ∧ Q v H'
def TP (X : Cx) (pins : List (Addr × Obj)) (σ : St) (Q : Bool → Hp → Prop) (b : Bool) (s' : Shared) : Prop := ∃ H', Inv X pins σ H' s' ∧ Q b H'
def AP (X : Cx) (pins : List (Addr × Obj)) (σ : St) (Q : List V → Hp → Prop) (us : List Value) (s' : Shared) : Prop := ∃ vs H', Inv X pins σ H' s' ∧ Vals vs us ∧ Q vs H'
def SP (X : Cx) (pins : List (Addr × Obj)) (D : Ends) (f : Flow) (s' : Shared) : Prop :=
  match f with
  | .next => ∃ σ' H', Inv X pins σ' H' s' ∧ D.nx σ' H'
  | .brk => ∃ σ' H', Inv X pins σ' H' s' ∧ D.bk σ' H'
  | .cont => ∃ σ' H', Inv X pins σ' H' s' ∧ D.ct σ' H'
  | .ret u => ∃ v σ' H', Inv X pins σ' H' s' ∧ RelV v u ∧ D.rt v H'

def PE (X : Cx) (e : Expr) (t : TE) : Prop :=
  ∀ (pins : List (Addr × Obj)) (s : Shared) (σ : St) (H : Hp) (Q : VK), Inv X pins σ H s → t σ H Q → wpAny (model X.prog X.w) X.A (eval e X.env) (EP X pins σ Q) X.xe s
def PT (X : Cx) (e : Expr) (t : TT) : Prop :=
  ∀ (pins : List (Addr × Obj)) (s : Shared) (σ : St) (H : Hp) (Q : Bool → Hp → Prop), Inv X pins σ H s → t σ H Q → wpAny (model X.prog X.w) X.A (isTrue e X.env (eval e X.env)) (TP X pins σ Q) X.xe s
def PW (X : Cx) (e : Expr) (t : TT) : Prop :=
  ∀ (whole : Sem Value) (pins : List (Addr × Obj)) (s : Shared) (σ : St) (H : Hp) (Q : Bool → Hp → Prop), Inv X pins σ H s → t σ H Q → wpAny (model X.prog X.w) X.A (isTrue e X.env whole) (TP X pins σ Q) X.xe s
theorem PW.pt {X : Cx} {e : Expr} {t : TT} (h : PW X e t) : PT X e t := h _
def PA (X : Cx) (es : List Expr) (t : TA) : Prop :=
  ∀ (pos : Pos) (pins : List (Addr × Obj)) (s : Shared) (σ : St) (H : Hp) (Q : List V → Hp → Prop), Inv X pins σ H s → t σ H Q → wpAny (model X.prog X.w) X.A (spliced (backTo pos (starEach es X.env))) (AP X pins σ Q) X.xe s
def PS (X : Cx) (st : Stmt) (t : TS) : Prop :=
  ∀ (pins : List (Addr × Obj)) (s : Shared) (σ : St) (H : Hp) (D : Ends), Inv X pins σ H s → t D σ H → wpAny (model X.prog X.w) X.A (exec st X.env) (SP X pins D) X.xe s
def PSs (X : Cx) (st : List Stmt) (t : TS) : Prop :=
  ∀ (pins : List (Addr × Obj)) (s : Shared) (σ : St) (H : Hp) (D : Ends), Inv X pins σ H s → t D σ H → wpAny (model X.prog X.w) X.A (execs st X.env) (SP X pins D) X.xe s
theorem thn {α : Type} {t : Sem α} {Q Q' : α → Shared → Prop} {M : Model} {A : Around} {E : Value → Shared → Prop} {s : Shared} (h : wpAny M A t Q E s) (hQ : ∀ a s, Q a s → Q' a s) : wpAny M A t Q' E s := wpAny_mono h hQ fun _ _ x => x
end L2

namespace L2
open PySem PySem.Spec PyProof.Rows
section
variable {X : Cx}

def tVar (i : Nat) : TE := fun σ H Q => ∃ v, σ[i]? = some (some v) ∧ Q v H
def tC (v : V) : TE := fun _ H Q => Q v H
theorem pe_var {i : Nat} {x : Str} {pos : Pos} (hN : X.N[i]? = some x) (hv : Vis X.env.scope x) (hd : (x == ("__debug__" : Str)) = false := by decide) (hcd : (x == ("__classdict__" : Str)) = false := by decide) : PE X (.Name x pos) (tVar i) := by
  intro pins s σ H Q I h
  obtain ⟨v, e, h⟩ := h
  obtain ⟨m, hn, hl⟩ := I.loc
  obtain ⟨u, r, l⟩ := hl i x v hN e hv
  have fin : EP X pins σ Q u s := ⟨v, H, I, r, h⟩
  rcases l with ⟨hk, hm⟩ | ⟨hk, c, hc, hcell⟩
  · exact wpAny_Name (wpAny_loadName_local I.ok.kind hk hn hm fin) hd
  · rcases hk with hk | hk
    · exact wpAny_Name (wpAny_loadName_cell I.ok.kind hk hc hcell fin) hd
    · exact wpAny_Name (wpAny_loadName_free I.ok.kind hk hc hcell fin hcd) hd
theorem pe_int {i j pos} : PE X (.Constant (.int i) j pos) (tC (.int i)) := fun _ _ _ H _ I h => wpAny_Constant_int ⟨.int i, H, I.tok _, ⟨_, rfl⟩, h⟩
theorem pe_bl {b j pos} : PE X (.Constant (.bool b) j pos) (tC (.bl b)) := fun _ _ _ H _ I h => Constant_bool ⟨.bl b, H, I, rfl, h⟩
theorem pe_non {j pos} : PE X (.Constant .none j pos) (tC .non) := fun _ _ _ H _ I h => Constant_none ⟨.non, H, I, rfl, h⟩
theorem pe_str {x j pos} : PE X (.Constant (.str x) j pos) (tC (.str x)) := fun _ _ _ H _ I h => Calls.Constant_str ⟨.str x, H, I.tok _, ⟨_, rfl⟩, h⟩

def Gl (X : Cx) (x : Str) : Prop := X.env.kindOf x = some .globalImplicit
theorem ld_glob {E : Value → Shared → Prop} {pins : List (Addr × Obj)} {s : Shared} {σ : St} {H : Hp} {x : Str} {u : Value} {pos : Pos} {Q : Value → Shared → Prop} (I : Inv X pins σ H s) (hg : Gl X x) (hm : X.mg x = some u) (h : Q u s)
    (hd : (x == ("__debug__" : Str)) = false := by decide) : wpAny (model X.prog X.w) X.A (eval (.Name x pos) X.env) Q E s :=
  Calls.Name_function_global I.ok.kind hg (Calls.loadGlobal_global (by rw [I.ok.glob]; exact I.mod.glob.keeps I.bk) hm h) hd
theorem ld_blt {E : Value → Shared → Prop} {pins : List (Addr × Obj)} {s : Shared} {σ : St} {H : Hp} {x : Str} {u : Value} {pos : Pos} {Q : Value → Shared → Prop} (I : Inv X pins σ H s) (hg : Gl X x) (hm : X.mg x = none) (hv : bootBuiltins x = some u) (h : Q u s)
    (hn : x ≠ "__name__" := by decide) (hd : (x == ("__debug__" : Str)) = false := by decide) : wpAny (model X.prog X.w) X.A (eval (.Name x pos) X.env) Q E s := by
  obtain ⟨mb, h1, h2⟩ := I.mod.blt
  exact Calls.Name_function_global I.ok.kind hg (Calls.loadGlobal_builtin (by rw [I.ok.glob]; exact I.mod.glob.keeps I.bk) hm (by rw [I.ok.blt]; exact h1.keeps I.bk) ((h2 x hn).trans hv) h) hd
theorem pe_glob {x : Str} {v : V} {u : Value} {pos : Pos} (hg : Gl X x) (hm : X.mg x = some u) (r : RelV v u) (hd : (x == ("__debug__" : Str)) = false := by decide) : PE X (.Name x pos) (tC v) :=
  fun _ _ _ H _ I h => ld_glob I hg hm ⟨v, H, I, r, h⟩ hd
theorem pe_bltn {x : Str} {v : V} {u : Value} {pos : Pos} (hg : Gl X x) (hm : X.mg x = none) (hv : bootBuiltins x = some u) (r : RelV v u) (hn : x ≠ "__name__" := by decide) (hd : (x == ("__debug__" : Str)) = false := by decide) : PE X (.Name x pos) (tC v) :=
  fun _ _ _ H _ I h => ld_blt I hg hm hv ⟨v, H, I, r, h⟩ hn hd

variable {a b : Expr} {ta tb : TE} {pos : Pos}
def tB (t : TE) : TT := fun σ H Q => t σ H fun x H1 => ∃ c, x = .bl c ∧ Q c H1
theorem pt_val {e : Expr} {t : TE} (h : PE X e t) (he : ∀ whole, isTrue e X.env whole = (do let v ← whole; standAt e.pos; holding [v] (truthy v)) := by intro _; rfl) : PT X e (tB t) := by
  intro pins s σ H Q I hw
  refine isTrue_plain (thn (h pins s σ H _ I hw) fun v s1 ⟨x, H1, I1, r1, q1⟩ => ?_) (he _)
  obtain ⟨d, rfl, q⟩ := q1
  cases r1
  exact wpAny_truthy_bool ⟨H1, I1, q⟩

variable {tA tB' : TT} {rest : List Expr}
def tAnd (t u : TT) : TT := fun σ H Q => t σ H fun c H1 => if c = true then u σ H1 Q else Q false H1
def tOr (t u : TT) : TT := fun σ H Q => t σ H fun c H1 => if c = true then Q true H1 else u σ H1 Q
def tNot (t : TT) : TT := fun σ H Q => t σ H fun c H1 => Q (!c) H1
theorem pw_and1 (ha : PT X a tA) : PW X (.BoolOp .And [a] pos) tA := by
  intro wh pins s σ H Q I h
  refine isTrue_and (thn (ha pins s σ H Q I h) fun c s1 e => ?_)
  cases c with
  | true => exact isTrue_and_nil e
  | false => exact e
theorem pw_or1 (ha : PT X a tA) : PW X (.BoolOp .Or [a] pos) tA := by
  intro wh pins s σ H Q I h
  refine isTrue_or (thn (ha pins s σ H Q I h) fun c s1 e => ?_)
  cases c with
  | false => exact isTrue_or_nil e
  | true => exact e
theorem pw_and (ha : PT X a tA) (hb : PW X (.BoolOp .And (b :: rest) pos) tB') : PW X (.BoolOp .And (a :: b :: rest) pos) (tAnd tA tB') := by
  intro wh pins s σ H Q I h
  refine isTrue_and (thn (ha pins s σ H _ I h) fun c s1 ⟨H1, I1, q1⟩ => ?_)
  cases c with
  | true => exact hb wh pins s1 σ H1 Q I1 q1
  | false => exact ⟨H1, I1, q1⟩
theorem pw_or (ha : PT X a tA) (hb : PW X (.BoolOp .Or (b :: rest) pos) tB') : PW X (.BoolOp .Or (a :: b :: rest) pos) (tOr tA tB') := by
  intro wh pins s σ H Q I h
  refine isTrue_or (thn (ha pins s σ H _ I h) fun c s1 ⟨H1, I1, q1⟩ => ?_)
  cases c with
  | true => exact ⟨H1, I1, q1⟩
  | false => exact hb wh pins s1 σ H1 Q I1 q1
theorem pt_not (ha : PT X a tA) : PT X (.UnaryOp .Not a pos) (tNot tA) := by
  intro pins s σ H Q I h
  exact isTrue_not (ha pins s σ H (fun c H1 => Q (!c) H1) I h)
def tAndV (ta tb : TE) : TE := fun σ H Q => ta σ H fun x H1 => ∃ c, x = .bl c ∧ if c = true then tb σ H1 Q else Q (.bl false) H1
def tOrV (ta tb : TE) : TE := fun σ H Q => ta σ H fun x H1 => ∃ c, x = .bl c ∧ if c = true then Q (.bl true) H1 else tb σ H1 Q
def tNotV (ta : TE) : TE := fun σ H Q => ta σ H fun x H1 => ∃ c, x = .bl c ∧ Q (.bl (!c)) H1
theorem pe_one {op} {t : TE} (h : PE X a t) : PE X (.BoolOp op [a] pos) t := fun pins s σ H Q I hw => BoolOp_one (h pins s σ H Q I hw)
theorem pe_and (ha : PE X a ta) (hb : PE X (.BoolOp .And (b :: rest) pos) tb) : PE X (.BoolOp .And (a :: b :: rest) pos) (tAndV ta tb) := by
  intro pins s σ H Q I h
  refine BoolOp_and (thn (ha pins s σ H _ I h) fun v s1 ⟨x, H1, I1, r1, q1⟩ => ?_)
  obtain ⟨c, rfl, q1⟩ := q1
  cases r1
  refine wpAny_truthy_bool ?_
  cases c with
  | true => exact hb pins s1 σ H1 Q I1 q1
  | false => exact ⟨.bl false, H1, I1, rfl, q1⟩
theorem pe_not (ha : PE X a ta) : PE X (.UnaryOp .Not a pos) (tNotV ta) := by
  intro pins s σ H Q I h
  refine UnaryOp_ (thn (ha pins s σ H _ I h) fun v s1 ⟨x, H1, I1, r1, q1⟩ => ?_)
  obtain ⟨c, rfl, q1⟩ := q1
  cases r1
  exact not_of (wpAny_truthy_bool ⟨.bl (!c), H1, I1, rfl, q1⟩)
def tIf (t : TT) (ta tb : TE) : TE := fun σ H Q => t σ H fun c H1 => if c = true then ta σ H1 Q else tb σ H1 Q
end
end L2

namespace L2
open PySem PySem.Spec PyProof.Rows

def SqL (K : PySem.W.Frag) (H : Hp) (a : Addr) (xs : List V) : Prop :=
  Rd H a (.lst xs) ∨
    ∃ (o : Obj) (its : Array Value) (n : Nat), K.lookup a = some o ∧ o.cls = .type "list" ∧ o.dict = none ∧ o.data = .seq its n ∧ its.size ≤ sizeLine ∧ Vals xs its.toList
def SqT (K : PySem.W.Frag) (H : Hp) (a : Addr) (xs : List V) : Prop :=
  Rd H a (.tup xs) ∨
    ∃ (o : Obj) (its : Array Value) (n : Nat), K.lookup a = some o ∧ o.cls = .type "tuple" ∧ o.data = .seq its n ∧ its.size ≤ sizeLine ∧ Vals xs its.toList
def absV : Value → Option V
  | .none => some .non
  | .bool b => some (.bl b)
  | .int i _ => some (.int i)
  | .str x _ => some (.str x)
  | .bytes b _ => some (.byt b)
  | .float b _ => some (.flt b)
  | .ref a => some (.ref a)
  | .type n => some (.ty n)
  | _ => none
theorem RelV.abs {x : V} {u : Value} (r : RelV x u) : absV u = some x := by
  cases x with
  | non => cases r; rfl
  | bl _ => cases r; rfl
  | int _ => obtain ⟨t, rfl⟩ := r; rfl
  | str _ => obtain ⟨t, rfl⟩ := r; rfl
  | byt _ => obtain ⟨t, rfl⟩ := r; rfl
  | flt _ => obtain ⟨t, rfl⟩ := r; rfl
  | ref _ => cases r; rfl
  | ty _ => cases r; rfl
theorem RelV.inj {x y : V} {u : Value} (r : RelV x u) (q : RelV y u) : x = y := Option.some.inj (r.abs.symm.trans q.abs)
theorem Vals.inj : ∀ {xs ys : List V} {us : List Value}, Vals xs us → Vals ys us → xs = ys
  | _, _, _, .nil, .nil => rfl
  | _, _, _, .cons r t, .cons r' t' => by rw [r.inj r', Vals.inj t t']
section
variable {X : Cx} {pins : List (Addr × Obj)} {σ : St} {H : Hp} {s : Shared} {a : Addr} {xs ys : List V}
theorem SqL.of {K : PySem.W.Frag} (h : H a = some (.lst xs)) : SqL K H a xs := .inl (.inl h)
theorem SqT.of {K : PySem.W.Frag} (h : H a = some (.tup xs)) : SqT K H a xs := .inl (.inl h)
theorem Inv.list (I : Inv X pins σ H s) (h : SqL X.K H a xs) : ∃ its : List Value, Vals xs its ∧ PlainL s.heap a its.toArray ∧ xs.length ≤ sizeLine := by
  rcases h with h | ⟨o, its, n, hk, hc, hd, hs, hz, r⟩
  · obtain ⟨z, its, n, r, e⟩ := h.ok I.hok
    exact ⟨its, r, ⟨_, n, e, rfl, rfl, rfl⟩, z⟩
  · refine ⟨its.toList, r, ⟨o, n, I.kIn a o hk, hc, hd, by simpa using hs⟩, ?_⟩
    have e := r.length
    simp only [Array.length_toList] at e
    omega
theorem Inv.tuple (I : Inv X pins σ H s) (h : SqT X.K H a xs) : ∃ its : List Value, Vals xs its ∧ IsTup s.heap a its.toArray ∧ xs.length ≤ sizeLine := by
  rcases h with h | ⟨o, its, n, hk, hc, hs, hz, r⟩
  · obtain ⟨z, its, r, p, _⟩ := h.ok I.hok
    exact ⟨its, r, p, z⟩
  · refine ⟨its.toList, r, ⟨o, I.kIn a o hk, hc, n, by simpa using hs⟩, ?_⟩
    have e := r.length
    simp only [Array.length_toList] at e
    omega
theorem Inv.list_inj (I : Inv X pins σ H s) (h : SqL X.K H a xs) (h' : SqL X.K H a ys) : xs = ys := by
  obtain ⟨its, r, ⟨o, n, e, _, _, d⟩, _⟩ := I.list h
  obtain ⟨its', r', ⟨o', n', e', _, _, d'⟩, _⟩ := I.list h'
  rw [e] at e'; cases e'
  rw [d] at d'
  injection d' with d1 _
  have : its = its' := by simpa using congrArg Array.toList d1
  subst this
  exact r.inj r'
theorem Inv.tuple_inj (I : Inv X pins σ H s) (h : SqT X.K H a xs) (h' : SqT X.K H a ys) : xs = ys := by
  obtain ⟨its, r, ⟨o, e, _, n, d⟩, _⟩ := I.tuple h
  obtain ⟨its', r', ⟨o', e', _, n', d'⟩, _⟩ := I.tuple h'
  rw [e] at e'; cases e'
  rw [d] at d'
  injection d' with d1 _
  have : its = its' := by simpa using congrArg Array.toList d1
  subst this
  exact r.inj r'
end

abbrev Cx.wish (X : Cx) (E : Value → Shared → Prop) : Cx := { X with xe := E }
abbrev Cx.nox (X : Cx) : Cx := X.wish fun _ _ => False
theorem Cx.Ok.wish {X : Cx} (ok : X.Ok) (E : Value → Shared → Prop) : (X.wish E).Ok :=
  ⟨ok.mod, ok.kind, ok.glob, ok.blt, ok.above, ok.inj, ok.has, ok.cab, ok.hd, ok.frames, ok.stk, ok.exf, ok.bs, ok.bsz, ok.noex, ok.exfs, ok.funs, ok.frf⟩
theorem Cx.Ok.unwish {X : Cx} {E : Value → Shared → Prop} (ok : (X.wish E).Ok) : X.Ok :=
  ⟨ok.mod, ok.kind, ok.glob, ok.blt, ok.above, ok.inj, ok.has, ok.cab, ok.hd, ok.frames, ok.stk, ok.exf, ok.bs, ok.bsz, ok.noex, ok.exfs, ok.funs, ok.frf⟩
section
variable {X : Cx} {pins : List (Addr × Obj)} {σ : St} {H : Hp} {s : Shared} {E : Value → Shared → Prop}
theorem Inv.wish (I : Inv X pins σ H s) (E : Value → Shared → Prop) : Inv (X.wish E) pins σ H s := ⟨I.ok.wish E, I.os, I.bare, I.base, I.loc, I.cell, I.free, I.freeC, I.pin, I.hok, I.len⟩
theorem Inv.unwish (I : Inv (X.wish E) pins σ H s) : Inv X pins σ H s := ⟨I.ok.unwish, I.os, I.bare, I.base, I.loc, I.cell, I.free, I.freeC, I.pin, I.hok, I.len⟩
theorem SP.unwish {D : Ends} {f : Flow} {s' : Shared} (h : SP (X.wish E) pins D f s') : SP X pins D f s' := by
  cases f with
  | next => obtain ⟨σ', H', I, q⟩ := h; exact ⟨σ', H', I.unwish, q⟩
  | brk => obtain ⟨σ', H', I, q⟩ := h; exact ⟨σ', H', I.unwish, q⟩
  | cont => obtain ⟨σ', H', I, q⟩ := h; exact ⟨σ', H', I.unwish, q⟩
  | ret u => obtain ⟨v, σ', H', I, r, q⟩ := h; exact ⟨v, σ', H', I.unwish, r, q⟩
theorem PE.nox {e : Expr} {t : TE} (h : PE X.nox e t) : PE X e t := fun pins s σ H Q I hw =>
  wpAny_mono (h pins s σ H Q (I.wish _) hw) (fun _ _ ⟨v, H', I', r, q⟩ => ⟨v, H', I'.unwish, r, q⟩) fun _ _ z => False.elim z
theorem PT.nox {e : Expr} {t : TT} (h : PT X.nox e t) : PT X e t := fun pins s σ H Q I hw =>
  wpAny_mono (h pins s σ H Q (I.wish _) hw) (fun _ _ ⟨H', I', q⟩ => ⟨H', I'.unwish, q⟩) fun _ _ z => False.elim z
theorem PSs.nox {st : List Stmt} {t : TS} (h : PSs X.nox st t) : PSs X st t := fun pins s σ H D I hw =>
  wpAny_mono (h pins s σ H D (I.wish _) hw) (fun _ _ q => q.unwish) fun _ _ z => False.elim z
end

section
variable {X : Cx} {st : Stmt} {rest : List Stmt} {t u : TS} {e : Expr} {te : TE} {pos : Pos}
def tNext : TS := fun D σ H => D.nx σ H
def tSeq (t u : TS) : TS := fun D σ H => t { D with nx := u D } σ H
theorem pss_nil : PSs X [] tNext := fun _ _ σ H _ I h => wpAny_execs_nil ⟨σ, H, I, h⟩
theorem pss_cons (h1 : PS X st t) (h2 : PSs X rest u) : PSs X (st :: rest) (tSeq t u) := by
  intro pins s σ H D I h
  refine wpAny_execs_cons (thn (h1 pins s σ H { D with nx := u D } I h) fun f s1 q => ?_)
  cases f with
  | next =>
    obtain ⟨σ', H', I', q⟩ := q
    exact h2 pins s1 σ' H' D I' q
  | ret v => exact q
  | brk => exact q
  | cont => exact q
theorem pss_one (h1 : PS X st t) : PSs X [st] t := by
  intro pins s σ H D I h
  refine wpAny_execs_cons (thn (h1 pins s σ H D I h) fun f s1 q => ?_)
  cases f with
  | next => exact wpAny_execs_nil q
  | ret v => exact q
  | brk => exact q
  | cont => exact q
def tCont : TS := fun D σ H => D.ct σ H
theorem Inv.quiet {pins : List (Addr × Obj)} {σ : St} {H : Hp} {s : Shared} (I : Inv X pins σ H s) : interactive X.env = false := by simp [interactive, I.ok.kind]
def tDrop (te : TE) : TS := fun D σ H => te σ H fun _ H1 => D.nx σ H1
theorem ps_expr (he : PE X e te) (hs : swapsWith e none pos.line X.env = pure false := by rfl) : PS X (.Expr e pos) (tDrop te) := by
  intro pins s σ H D I h
  exact wpAny_Expr_any (thn (he pins s σ H _ I h) fun v s1 ⟨x, H1, I1, r1, q1⟩ => ⟨σ, H1, I1, q1⟩) I.quiet hs
def tRet (te : TE) : TS := fun D σ H => te σ H D.rt
theorem ps_ret (he : PE X e te) : PS X (.Return (some e) pos) (tRet te) := by
  intro pins s σ H D I h
  exact wpAny_Return_some (thn (he pins s σ H _ I h) fun v s1 ⟨x, H1, I1, r1, q1⟩ => ⟨x, σ, H1, I1, r1, q1⟩)
def tRetN : TS := fun D _ H => D.rt .non H
def tIfS (c : TT) (t u : TS) : TS := fun D σ H => c σ H fun b H1 => if b = true then t D σ H1 else u D σ H1
theorem ps_if {c : Expr} {a b : List Stmt} {tc : TT} (hc : PT X c tc) (ha : PSs X a t) (hb : PSs X b u) : PS X (.If c a b pos) (tIfS tc t u) := by
  intro pins s σ H D I h
  refine wpAny_If (thn (hc pins s σ H _ I h) fun d s1 ⟨H1, I1, q1⟩ => ?_)
  cases d with
  | true => exact ha pins s1 σ H1 D I1 q1
  | false => exact hb pins s1 σ H1 D I1 q1
def tNever : TS := fun _ _ _ => False
end

abbrev TG := V → St → Hp → (St → Hp → Prop) → Prop
abbrev TGs := List V → St → Hp → (St → Hp → Prop) → Prop
def PG (X : Cx) (target : Expr) (t : TG) : Prop :=
  ∀ (pins : List (Addr × Obj)) (s : Shared) (σ : St) (H : Hp) (v : V) (u : Value) (Q : St → Hp → Prop), Inv X pins σ H s → RelV v u → t v σ H Q →
    wpAny (model X.prog X.w) X.A (assign target X.env u) (fun _ s' => ∃ σ' H', Inv X pins σ' H' s' ∧ Q σ' H') X.xe s
def PGs (X : Cx) (ts : List Expr) (t : TGs) : Prop :=
  ∀ (pins : List (Addr × Obj)) (s : Shared) (σ : St) (H : Hp) (vs : List V) (us : List Value) (Q : St → Hp → Prop), Inv X pins σ H s → Vals vs us → t vs σ H Q →
    wpAny (model X.prog X.w) X.A (assignInOrder ((assignEach ts X.env).map (·.2)) us) (fun _ s' => ∃ σ' H', Inv X pins σ' H' s' ∧ Q σ' H') X.xe s
abbrev TSet := V → V → V → Hp → (Hp → Prop) → Prop
def PSet (X : Cx) (t : TSet) : Prop :=
  ∀ (pins : List (Addr × Obj)) (s : Shared) (σ : St) (H : Hp) (o i v : V) (ov iv u : Value) (Q : Hp → Prop), Inv X pins σ H s → RelV o ov → RelV i iv → RelV v u → t o i v H Q →
    wpAny (model X.prog X.w) X.A (setItem ov iv u) (fun _ s' => ∃ H', Inv X pins σ H' s' ∧ Q H') X.xe s
section
variable {X : Cx} {pos : Pos}
def gName (i : Nat) : TG := fun v σ H Q => Q (σ.set i (some v)) H
theorem pg_name {i : Nat} {x : Str} (hN : X.N.Nodup) (hi : X.N[i]? = some x) (hx : Loc X.env.scope x) (hf : X.fn x = true ∨ X.env.scope.names.lookup x = some .local := by first | exact .inl rfl | exact .inr rfl | assumption) : PG X (.Name x pos) (gName i) := by
  intro pins s σ H v u Q I r h
  exact wpAny_assign_Name (store_ok I hN hi hx r (fun s' I' => ⟨_, H, I', h⟩) hf)
def gNil : TGs := fun vs σ H Q => vs = [] ∧ Q σ H
def gCons (t : TG) (u : TGs) : TGs := fun vs σ H Q => ∃ v r, vs = v :: r ∧ t v σ H fun σ' H' => u r σ' H' Q
theorem pgs_nil : PGs X [] gNil := by
  intro pins s σ H vs us Q I r h
  obtain ⟨e, h⟩ := h
  subst e
  cases r
  exact assignInOrder_nil ⟨σ, H, I, h⟩
theorem pgs_cons {e : Expr} {es : List Expr} {t : TG} {u : TGs} (h1 : PG X e t) (h2 : PGs X es u)
    (hs : (assignEach (e :: es) X.env).map (·.2) = assign e X.env :: (assignEach es X.env).map (·.2) := by rfl) : PGs X (e :: es) (gCons t u) := by
  intro pins s σ H vs us Q I r h
  obtain ⟨v, vr, e1, h⟩ := h
  subst e1
  cases r with
  | cons r rr =>
    rw [hs]
    refine assignInOrder_cons (thn (h1 pins s σ H _ _ _ I r h) fun _ s1 ⟨σ1, H1, I1, q1⟩ => ?_)
    exact h2 pins s1 σ1 H1 _ _ Q I1 rr q1
def gTup (K : PySem.W.Frag) (n : Nat) (t : TGs) : TG := fun v σ H Q => ∃ a xs, v = .ref a ∧ SqT K H a xs ∧ xs.length = n ∧ t xs σ H Q
theorem pg_tup {es : List Expr} {k : Nat} {t : TGs} {n : Nat} (hc : X.calm = true) (h : PGs X es t)
    (hn : (assignEach es X.env).length = n := by rfl) (hst : (assignEach es X.env).findIdx? (·.1) = none := by rfl) : PG X (.Tuple es k pos) (gTup X.K n t) := by
  intro pins s σ H v u Q I r hw
  obtain ⟨a, xs, e1, hq, hl, hw⟩ := hw
  subst e1
  cases r
  obtain ⟨its, rv, ht, hz⟩ := I.tuple hq
  refine assign_Tuple_tuple (I.ok.hd hc) ht (by simp [hn, ← hl, rv.length]) hst fun h' hx => ?_
  have I1 : Inv X pins σ H { s with heap := h' } := I.kept (t' := s.toks) fun b o e => hx b o (Nat.ne_of_lt (Heap.lt_size e)) e
  exact h pins _ σ H xs _ Q I1 (by simpa using rv) hw
def gSub (to ti : TE) (t : TSet) : TG := fun v σ H Q => to σ H fun o H1 => ti σ H1 fun i H2 => t o i v H2 fun H3 => Q σ H3
theorem pg_sub {o i : Expr} {to ti : TE} {t : TSet} (ho : PE X o to) (hi : PE X i ti) (hs : PSet X t)
    (ha : ∀ v, assign (.Subscript o i pos) X.env v = (do
      let ov ← holding [v] (eval o X.env)
      let iv ← holding [v, ov] (eval i X.env)
      standAt pos
      holding [v, ov, iv] (setItem ov iv v)
      release [v, ov, iv] []) := by intro _; rfl) : PG X (.Subscript o i pos) (gSub to ti t) := by
  intro pins s σ H v u Q I r h
  rw [ha]
  refine wpAny_bind (wpAny_holding (thn (ho pins s σ H _ I h) fun ov s1 ⟨x, H1, I1, r1, q1⟩ => ?_))
  refine wpAny_bind (wpAny_holding (thn (hi pins s1 σ H1 _ I1 q1) fun iv s2 ⟨y, H2, I2, r2, q2⟩ => ?_))
  refine wpAny_bind (wpAny_standAt (wpAny_bind (wpAny_holding (thn (hs pins s2 σ H2 x y v ov iv u _ I2 r1 r2 r q2) fun _ s3 ⟨H3, I3, q3⟩ => ?_))))
  exact wpAny_release ⟨σ, H3, I3, q3⟩
def tAsg (te : TE) (g : TG) : TS := fun D σ H => te σ H fun x H1 => g x σ H1 D.nx
theorem ps_asg {tg e : Expr} {te : TE} {g : TG} (he : PE X e te) (hg : PG X tg g) (hs : swapsWithSole [tg] e pos.line X.env = pure false := by rfl) (hw : swappedStores [tg] e X.env = pure none := by rfl)
    (h1 : (assignEach [tg] X.env).map (·.2) = [assign tg X.env] := by rfl) : PS X (.Assign [tg] e pos) (tAsg te g) := by
  intro pins s σ H D I h
  refine wpAny_Assign_stores (thn (he pins s σ H _ I h) fun v s1 ⟨x, H1, I1, r1, q1⟩ => ?_) hs hw
  rw [h1]
  exact thn (hg pins s1 σ H1 x v _ I1 r1 q1) fun _ s2 q => q
theorem ps_set {i : Nat} {x : Str} {e : Expr} {te : TE} {pos' : Pos} (hN : X.N.Nodup) (hi : X.N[i]? = some x) (hx : Loc X.env.scope x) (he : PE X e te) (hs : swapsWith e (some (.Name x pos')) pos.line X.env = pure false := by rfl) (hf : X.fn x = true ∨ X.env.scope.names.lookup x = some .local := by first | exact .inl rfl | exact .inr rfl | assumption) :
    PS X (.Assign [.Name x pos'] e pos) (tAsg te (gName i)) := by
  intro pins s σ H D I h
  refine wpAny_Assign_Name (thn (he pins s σ H _ I h) fun v s1 ⟨y, H1, I1, r1, q1⟩ => ?_) hs
  exact store_ok I1 hN hi hx r1 (fun s2 I2 => ⟨_, H1, I2, q1⟩) hf
def tPar (i j : Nat) (ta : TA) : TS := fun D σ H => ta σ H fun vs H1 => ∃ v w, vs = [v, w] ∧ D.nx ((σ.set i (some v)).set j (some w)) H1
end

section
variable {X : Cx} {pos : Pos}
def tWhile (c : TT) (tb : TS) : TS := fun D σ H => ∃ W : Nat → St → Hp → Prop, (∃ m, W m σ H) ∧ ∀ m σ H, W m σ H →
  c σ H fun b H1 => if b = true then ∃ N : St → Hp → Prop, (∀ σ' H', N σ' H' → ∃ m', m' < m ∧ W m' σ' H') ∧ tb { D with nx := N, ct := N, bk := D.nx } σ H1 else D.nx σ H1
theorem ps_while {c : Expr} {body : List Stmt} {tc : TT} {tb : TS} (hp : PassesOwn (model X.prog X.w) X.A X.env X.xe) (hc : PT X c tc) (hb : PSs X body tb) : PS X (.While c body [] pos) (tWhile tc tb) := by
  intro pins s σ H D I h
  obtain ⟨W, ⟨m0, w0⟩, turn⟩ := h
  refine wpAny_While (codeAny_whileLoop (fun n s' => ∃ σ' H', Inv X pins σ' H' s' ∧ W n σ' H') ?_ m0 ⟨σ, H, I, w0⟩)
  rintro n s1 ⟨σ1, H1, I1, w1⟩
  refine wpAny_passesOwn hp (thn (hc pins s1 σ1 H1 _ I1 (turn n σ1 H1 w1)) fun b s2 ⟨H2, I2, q2⟩ => ?_)
  cases b with
  | true =>
    obtain ⟨N, hN, q2⟩ := q2
    rw [if_pos rfl]
    refine wpAny_passesOwn hp (thn (hb pins s2 σ1 H2 _ I2 q2) fun f s3 q3 => ?_)
    cases f with
    | next =>
      obtain ⟨σ3, H3, I3, n3⟩ := q3
      obtain ⟨m', hm, w3⟩ := hN σ3 H3 n3
      exact ⟨m', hm, σ3, H3, I3, w3⟩
    | cont =>
      obtain ⟨σ3, H3, I3, n3⟩ := q3
      obtain ⟨m', hm, w3⟩ := hN σ3 H3 n3
      exact ⟨m', hm, σ3, H3, I3, w3⟩
    | brk => exact q3
    | ret v => exact q3
  | false =>
    rw [if_neg Bool.false_ne_true]
    exact wpAny_execs_nil ⟨σ1, H2, I2, q2⟩
end

structure It where
  go : Nat → Hp → Prop
  yld : Nat → Hp → V → Hp → Prop
  stop : Nat → Hp → Prop
def FpOk (X : Cx) (pins : List (Addr × Obj)) (H : Hp) (b : Addr) : Prop :=
  H b = none ∧ b ≠ X.env.locals ∧ b ∉ X.fs ∧ (b ∈ X.ex ∨ X.s₀.heap.objs.size ≤ b) ∧ (∀ x c, X.env.cells.lookup x = some c → c ≠ b) ∧ ∀ p ∈ X.pn ++ pins, p.1 ≠ b
theorem Inv.fpOk {X : Cx} {pins : List (Addr × Obj)} {σ : St} {H H' : Hp} {s : Shared} {b : Addr} (I : Inv X pins σ H s) (hb : s.heap.objs.size ≤ b) (hn : H' b = none) : FpOk X pins H' b := by
  refine ⟨hn, Nat.ne_of_gt (Nat.lt_of_lt_of_le I.lt hb), I.nofs hb, .inr (Nat.le_trans I.sz hb), fun x c e z => ?_, fun p hp z => ?_⟩
  · obtain ⟨v, q⟩ := I.cell x c e
    exact absurd (Nat.lt_of_lt_of_le q.lt (by rw [z]; exact hb)) (Nat.lt_irrefl _)
  · exact absurd (Nat.lt_of_lt_of_le (Heap.lt_size (I.pin p hp).1) (by rw [z]; exact hb)) (Nat.lt_irrefl _)
structure Turn (P : Program) (w : World) (K : PySem.W.Frag) (tg : Expr) (J : It) (fp : List Addr) (it : Addr) (tn : Nat → Heap → Prop) : Prop where
  mem : it ∈ fp
  obj : ∀ i h, tn i h → ∀ b ∈ fp, ∃ o, h.get? b = some o ∧ ∀ v, o.data ≠ .cell v
  keep : ∀ i h h', tn i h → (∀ b ∈ fp, ∀ o, h.get? b = some o → h'.get? b = some o) → tn i h'
  item : ∀ (X : Cx), X.prog = P → X.w = w → X.K = K → X.calm = true → ∀ (i : Nat) (pins : List (Addr × Obj)) (s : Shared) (σ : St) (H : Hp) (E : Value → Shared → Prop), Inv X pins σ H s → (∀ b ∈ fp, FpOk X pins H b) → tn i s.heap → J.go i H →
    wpAny (model P w) X.A (pyNext (.ref it)) (fun r s1 => ∃ u, r = some u ∧
      wpAny (model P w) X.A (letOwnedTupleGo tg (.ref it) u) (fun _ s2 => ∃ x H', Inv X pins σ H' s2 ∧ RelV x u ∧ J.yld i H x H' ∧ tn (i + 1) s2.heap ∧ ∀ b ∈ fp, H' b = none) E s1) E s
  done : ∀ (X : Cx), X.prog = P → X.w = w → X.K = K → X.calm = true → ∀ (i : Nat) (pins : List (Addr × Obj)) (s : Shared) (σ : St) (H : Hp) (E : Value → Shared → Prop), Inv X pins σ H s → (∀ b ∈ fp, FpOk X pins H b) → tn i s.heap → J.stop i H →
    wpAny (model P w) X.A (pyNext (.ref it)) (fun r s1 => r = none ∧ Inv X pins σ H s1) E s
  self : ∀ (A : Around) (i : Nat) (s : Shared) (Q : Value → Shared → Prop) (E : Value → Shared → Prop), tn i s.heap → Q (.ref it) s → wpAny (model P w) A (pyIter (.ref it)) Q E s
abbrev TI := St → Hp → (It → Hp → Prop) → Prop
def PIE (X : Cx) (pins : List (Addr × Obj)) (σ : St) (tg : Expr) (R : It → Hp → Prop) (itv : Value) (s2 : Shared) : Prop :=
  ∃ (it : Addr) (fp : List Addr) (tn : Nat → Heap → Prop) (J : It) (H' : Hp), itv = .ref it ∧ Inv X pins σ H' s2 ∧ Turn X.prog X.w X.K tg J fp it tn ∧ tn 0 s2.heap ∧ (∀ b ∈ fp, FpOk X pins H' b) ∧ R J H'
def PI (X : Cx) (tg iter : Expr) (wi : TI) : Prop :=
  ∀ (pins : List (Addr × Obj)) (s : Shared) (σ : St) (H : Hp) (R : It → Hp → Prop), Inv X pins σ H s → wi σ H R →
    wpAny (model X.prog X.w) X.A (eval iter X.env) (fun v s1 => wpAny (model X.prog X.w) X.A (pyIter v) (PIE X pins σ tg R) X.xe s1) X.xe s

theorem go_of {M : Model} {A : Around} {E : Value → Shared → Prop} {s : Shared} {tg : Expr} {it : Addr} {u : Value} {o : Obj} {n : String} {vs : Array Value} {Q : Unit → Shared → Prop} (ho : s.heap.get? it = some o) (hc : o.cls = .type n) (hd : o.data = .fields vs)
    (hn : ["enumerate", "zip", "dict_itemiterator", "dict_reverseitemiterator", "odict_iterator", "itertools.zip_longest", "itertools.pairwise"].contains n = false) (hQ : Q () s) : wpAny M A (letOwnedTupleGo tg (.ref it) u) Q E s := by
  unfold letOwnedTupleGo
  cases tg <;> first
    | exact wpAny_pure hQ
    | (cases u <;> first
        | exact wpAny_pure hQ
        | (refine wpAny_bind (wpAny_load ho ?_)
           rw [hc, hd]
           show wpAny M A (if (["enumerate", "zip", "dict_itemiterator", "dict_reverseitemiterator", "odict_iterator", "itertools.zip_longest", "itertools.pairwise"].contains n && vs[0]? == some (rawInt _)) = true then _ else _) Q E s
           rw [if_neg (by intro h; rw [hn, Bool.false_and] at h; cases h)]
           exact wpAny_pure hQ))

def Itl (K : PySem.W.Frag) (a : Addr) : It :=
  ⟨fun i H => ∃ xs x, SqL K H a xs ∧ xs[i]? = some x, fun i H x H' => H' = H ∧ ∀ xs, SqL K H a xs → xs[i]? = some x, fun i H => ∃ xs, SqL K H a xs ∧ xs.length ≤ i⟩
def Itt (K : PySem.W.Frag) (a : Addr) : It :=
  ⟨fun i H => ∃ xs x, SqT K H a xs ∧ xs[i]? = some x, fun i H x H' => H' = H ∧ ∀ xs, SqT K H a xs → xs[i]? = some x, fun i H => ∃ xs, SqT K H a xs ∧ xs.length ≤ i⟩
def Itr (lo : Int) (n : Nat) : It := ⟨fun i _ => i < n, fun i H x H' => H' = H ∧ x = .int (lo + i), fun i _ => n ≤ i⟩
theorem turn_list {P : Program} {w : World} {K : PySem.W.Frag} {tg : Expr} (a it : Addr) : Turn P w K tg (Itl K a) [it] it (fun i h => h.IsListIter it a i) where
  mem := by simp
  obj := fun i h st b hb => by
    have e : b = it := by simpa using hb
    subst e
    obtain ⟨o, e, c, d⟩ := st
    exact ⟨o, e, fun v z => by rw [d] at z; cases z⟩
  keep := fun i h h' st k => st.at fun o e => k it (by simp) o e
  item := by
    intro X hP hw hK hc i pins s σ H E I hf st hg
    subst hP hw hK
    obtain ⟨xs, x, hq, hx⟩ := hg
    obtain ⟨its, rv, p, hz⟩ := I.list hq
    obtain ⟨u, hu, ru⟩ := rv.get hx
    obtain ⟨f0, f1, f2, f3, f4, f5⟩ := hf it (by simp)
    refine wpAny_pyNext_list_item st p.isList (x := u) (by simpa using hu) fun h' st' sb => ?_
    have I1 : Inv X pins σ H { s with heap := h' } := I.turned (t' := s.toks) (fun b o hb e => (sb.2 b hb).trans e) f0 f1 f3 f4 f5
    obtain ⟨o, e, c, d⟩ := id st'
    exact ⟨u, rfl, go_of (s := { s with heap := h' }) e c d (by decide) ⟨x, H, I1, ru, ⟨rfl, fun ys hy => by rw [I.list_inj hy hq]; exact hx⟩, st', fun b hb => (hf b hb).1⟩⟩
  done := by
    intro X hP hw hK hc i pins s σ H E I hf st hg
    subst hP hw hK
    obtain ⟨xs, hq, hx⟩ := hg
    obtain ⟨its, rv, p, hz⟩ := I.list hq
    obtain ⟨f0, f1, f2, f3, f4, f5⟩ := hf it (by simp)
    have hl := rv.length
    exact wpAny_pyNext_list_end (I.ok.hd hc) st p.isList (by simp; omega) fun h' eb => ⟨rfl, I.turned (t' := s.toks) (fun b o hb e => eb b o hb e) f0 f1 f3 f4 f5⟩
  self := fun _ _ _ _ _ st h => wpAny_pyIter_listiter st h
theorem turn_tuple {P : Program} {w : World} {K : PySem.W.Frag} {tg : Expr} (a it : Addr) : Turn P w K tg (Itt K a) [it] it (fun i h => h.IsTupleIter it a i) where
  mem := by simp
  obj := fun i h st b hb => by
    have e : b = it := by simpa using hb
    subst e
    obtain ⟨o, e, c, d⟩ := st
    exact ⟨o, e, fun v z => by rw [d] at z; cases z⟩
  keep := fun i h h' st k => st.at fun o e => k it (by simp) o e
  item := by
    intro X hP hw hK hc i pins s σ H E I hf st hg
    subst hP hw hK
    obtain ⟨xs, x, hq, hx⟩ := hg
    obtain ⟨its, rv, p, hz⟩ := I.tuple hq
    obtain ⟨u, hu, ru⟩ := rv.get hx
    obtain ⟨f0, f1, f2, f3, f4, f5⟩ := hf it (by simp)
    refine wpAny_pyNext_tuple_item st (show s.heap.IsTuple a its.toArray from p) (x := u) (by simpa using hu) fun h' st' sb => ?_
    have I1 : Inv X pins σ H { s with heap := h' } := I.turned (t' := s.toks) (fun b o hb e => (sb.2 b hb).trans e) f0 f1 f3 f4 f5
    obtain ⟨o, e, c, d⟩ := id st'
    exact ⟨u, rfl, go_of (s := { s with heap := h' }) e c d (by decide) ⟨x, H, I1, ru, ⟨rfl, fun ys hy => by rw [I.tuple_inj hy hq]; exact hx⟩, st', fun b hb => (hf b hb).1⟩⟩
  done := by
    intro X hP hw hK hc i pins s σ H E I hf st hg
    subst hP hw hK
    obtain ⟨xs, hq, hx⟩ := hg
    obtain ⟨its, rv, p, hz⟩ := I.tuple hq
    obtain ⟨f0, f1, f2, f3, f4, f5⟩ := hf it (by simp)
    have hl := rv.length
    exact wpAny_pyNext_tuple_end (I.ok.hd hc) st (show s.heap.IsTuple a its.toArray from p) (by simp; omega) fun h' eb => ⟨rfl, I.turned (t' := s.toks) (fun b o hb e => eb b o hb e) f0 f1 f3 f4 f5⟩
  self := fun _ _ _ _ _ st h => wpAny_pyIter_tupleiter st h
theorem turn_range {P : Program} {w : World} {K : PySem.W.Frag} {tg : Expr} (it : Addr) (lo : Int) (n : Nat) : Turn P w K tg (Itr lo n) [it] it (fun i h => IsRangeIter h it (lo + (i : Nat) * 1) ((n : Int) - (i : Nat)) 1) where
  mem := by simp
  obj := fun i h st b hb => by
    have e : b = it := by simpa using hb
    subst e
    exact ⟨_, st, fun v z => by
      have z' : Data.fields _ = Data.cell v := z
      cases z'⟩
  keep := fun i h h' st k => k it (by simp) _ st
  item := by
    intro X hP hw hK hc i pins s σ H E I hf st hg
    subst hP hw hK
    obtain ⟨f0, f1, f2, f3, f4, f5⟩ := hf it (by simp)
    have W := Walks.range (prog := X.prog) (w := X.w) (I.ok.hd hc) it lo 1 n
    refine W.item i s _ _ hg st fun v h' tk hv st' kk => ?_
    obtain ⟨t, rfl⟩ := hv
    have I1 : Inv X pins σ H { s with heap := h', toks := tk } := I.turned (fun b o hb e => kk b o (by simpa using hb) e) f0 f1 f3 f4 f5
    refine ⟨_, rfl, go_of (s := { s with heap := h', toks := tk }) (n := "range_iterator") st' rfl rfl (by decide) ⟨.int (lo + i), H, I1, ⟨t, ?_⟩, ⟨rfl, rfl⟩, st', fun b hb => (hf b hb).1⟩⟩
    rw [Int.mul_one]
  done := by
    intro X hP hw hK hc i pins s σ H E I hf st hg
    subst hP hw hK
    obtain ⟨f0, f1, f2, f3, f4, f5⟩ := hf it (by simp)
    exact wpAny_pyNext_range_end (I.ok.hd hc) st (by have : n ≤ i := hg; omega) fun h' eb => ⟨rfl, I.turned (t' := s.toks) (fun b o hb e => eb b o hb e) f0 f1 f3 f4 f5⟩
  self := fun _ _ _ _ _ st h => wpAny_pyIter_rangeiter st h
end L2

namespace L2
open PySem PySem.Spec PyProof.Rows
section
variable {X : Cx} {tg : Expr}
def iList (K : PySem.W.Frag) (tl : TE) : TI := fun σ H R => tl σ H fun x H1 => ∃ a, x = .ref a ∧ (∃ xs, SqL K H1 a xs) ∧ R (Itl K a) H1
def iTup (K : PySem.W.Frag) (tl : TE) : TI := fun σ H R => tl σ H fun x H1 => ∃ a, x = .ref a ∧ (∃ xs, SqT K H1 a xs) ∧ R (Itt K a) H1
theorem pi_list {l : Expr} {tl : TE} (hl : PE X l tl) : PI X tg l (iList X.K tl) := by
  intro pins s σ H R I h
  refine thn (hl pins s σ H _ I h) fun v s1 ⟨x, H1, I1, r1, q1⟩ => ?_
  obtain ⟨a, e, ⟨xs, hq⟩, q⟩ := q1
  subst e
  cases r1
  obtain ⟨its, rv, p, hz⟩ := I1.list hq
  refine wpAny_pyIter_list p.isList ?_
  refine ⟨s1.heap.objs.size, [s1.heap.objs.size], _, _, H1, rfl, I1.kept (t' := s1.toks) fun b o e => Heap.get?_push_of_some _ e, turn_list a _, ⟨_, Heap.get?_push_size _ rfl, rfl, rfl⟩, fun b hb => ?_, q⟩
  have e : b = s1.heap.objs.size := by simpa using hb
  subst e
  exact I1.fpOk (Nat.le_refl _) (I1.hok.fresh (Nat.le_refl _))
theorem pi_tup {l : Expr} {tl : TE} (hl : PE X l tl) : PI X tg l (iTup X.K tl) := by
  intro pins s σ H R I h
  refine thn (hl pins s σ H _ I h) fun v s1 ⟨x, H1, I1, r1, q1⟩ => ?_
  obtain ⟨a, e, ⟨xs, hq⟩, q⟩ := q1
  subst e
  cases r1
  obtain ⟨its, rv, p, hz⟩ := I1.tuple hq
  refine wpAny_pyIter_tuple (show s1.heap.IsTuple a its.toArray from p) ?_
  refine ⟨s1.heap.objs.size, [s1.heap.objs.size], _, _, H1, rfl, I1.kept (t' := s1.toks) fun b o e => Heap.get?_push_of_some _ e, turn_tuple a _, ⟨_, Heap.get?_push_size _ rfl, rfl, rfl⟩, fun b hb => ?_, q⟩
  have e : b = s1.heap.objs.size := by simpa using hb
  subst e
  exact I1.fpOk (Nat.le_refl _) (I1.hok.fresh (Nat.le_refl _))
theorem range_it {pins : List (Addr × Obj)} {σ : St} {H : Hp} {s : Shared} {R : It → Hp → Prop} {E : Value → Shared → Prop} {lo hi : Int} {t u v : Tok} {tk : Nat} (I : Inv X pins σ H s) (h1 : -(2 ^ 62) ≤ lo) (h2 : lo < 2 ^ 62) (h3 : -(2 ^ 62) ≤ hi) (h4 : hi < 2 ^ 62)
    (q : R (Itr lo (hi - lo).toNat) H) : wpAny (model X.prog X.w) X.A (pyIter (.ref s.heap.objs.size)) (PIE X pins σ tg R) E { s with heap := s.heap.push { cls := .type "range", data := .fields #[.int lo t, .int hi u, .int 1 v] }, toks := tk } := by
  refine wpAny_pyIter_range (IsRange.new ..) (small_one h1 h2 h3 h4) ?_
  have I1 : Inv X pins σ H { s with heap := s.heap.push { cls := .type "range", data := .fields #[.int lo t, .int hi u, .int 1 v] }, toks := tk } := I.kept fun b o e => Heap.get?_push_of_some _ e
  refine ⟨(s.heap.push { cls := .type "range", data := .fields #[.int lo t, .int hi u, .int 1 v] }).objs.size, [(s.heap.push { cls := .type "range", data := .fields #[.int lo t, .int hi u, .int 1 v] }).objs.size], _, _, H, rfl,
    I1.kept (t' := tk) fun b o e => Heap.get?_push_of_some _ e, turn_range _ lo (hi - lo).toNat, ?_, fun b hb => ?_, q⟩
  · have e1 : lo + ((0 : Nat) : Int) * 1 = lo := by simp
    have e2 : (((hi - lo).toNat : Nat) : Int) - ((0 : Nat) : Int) = Builtin.Range.rangeSize lo hi 1 := by rw [rangeSize_one]; split <;> omega
    show IsRangeIter _ _ (lo + ((0 : Nat) : Int) * 1) ((((hi - lo).toNat : Nat) : Int) - ((0 : Nat) : Int)) 1
    rw [e1, e2]
    exact Heap.get?_push_size _ rfl
  · have e : b = (s.heap.push { cls := .type "range", data := .fields #[.int lo t, .int hi u, .int 1 v] }).objs.size := by simpa using hb
    subst e
    exact I1.fpOk (Nat.le_refl _) (I1.hok.fresh (Nat.le_refl _))
def iRng1 (ta : TA) : TI := fun σ H R => ta σ H fun vs H1 => ∃ j : Int, vs = [.int j] ∧ -(2 ^ 62) ≤ j ∧ j < 2 ^ 62 ∧ R (Itr 0 j.toNat) H1
def iRng2 (ta : TA) : TI := fun σ H R => ta σ H fun vs H1 => ∃ i j : Int, vs = [.int i, .int j] ∧ (-(2 ^ 62) ≤ i ∧ i < 2 ^ 62 ∧ -(2 ^ 62) ≤ j ∧ j < 2 ^ 62) ∧ R (Itr i (j - i).toNat) H1
theorem pi_range1 {a : Expr} {ta : TA} {p pos : Pos} (hg : Gl X "range") (hm : X.mg "range" = none) (ha : PA X [a] ta) (hs : starEach [a] X.env = [(false, eval a X.env)] := by rfl) : PI X tg (.Call (.Name "range" p) [a] [] pos) (iRng1 ta) := by
  intro pins s σ H R I h
  refine Call_ (ld_blt I hg hm boot_range (PyProof.Rows.callWith_type1 (thn (ha pos pins s σ H _ I h) fun us s1 ⟨vs, H1, I1, r1, q1⟩ => ?_) hs rfl))
  obtain ⟨j, e, q1, q2, q⟩ := q1
  subst e
  cases r1 with
  | cons r rr =>
    cases rr
    obtain ⟨t, rfl⟩ := r
    exact call_range_1 (range_it I1 (by omega) (by omega) q1 q2 (by simpa using q))
def tFor (wi : TI) (g : TG) (tb : TS) : TS := fun D σ H => wi σ H fun J H1 => ∃ W : Nat → Nat → St → Hp → Prop, (∃ m, W 0 m σ H1) ∧ ∀ i m σ H, W i m σ H →
  (J.stop i H ∧ D.nx σ H) ∨ (J.go i H ∧ ∃ N : St → Hp → Prop, (∀ σ' H', N σ' H' → ∃ m', m' < m ∧ W (i + 1) m' σ' H') ∧ ∀ x H', J.yld i H x H' → g x σ H' fun σ2 H2 => tb { D with nx := N, ct := N, bk := D.nx } σ2 H2)
def pinsAt (fp : List Addr) (h : Heap) : List (Addr × Obj) := fp.filterMap fun b => (h.get? b).map fun o => (b, o)
theorem mem_pinsAt {fp : List Addr} {h : Heap} {b : Addr} {o : Obj} (hb : b ∈ fp) (e : h.get? b = some o) : (b, o) ∈ pinsAt fp h := List.mem_filterMap.mpr ⟨b, hb, by rw [e]; rfl⟩
theorem of_pinsAt {fp : List Addr} {h : Heap} {p : Addr × Obj} (hp : p ∈ pinsAt fp h) : p.1 ∈ fp ∧ h.get? p.1 = some p.2 := by
  obtain ⟨b, hb, e⟩ := List.mem_filterMap.mp hp
  cases q : h.get? b with
  | none => rw [q] at e; cases e
  | some o =>
    rw [q] at e
    have e' : (b, o) = p := Option.some.inj e
    subst e'
    exact ⟨hb, q⟩
theorem Inv.pinned {pins : List (Addr × Obj)} {σ : St} {H : Hp} {s : Shared} {fp : List Addr} (I : Inv X pins σ H s) (hf : ∀ b ∈ fp, FpOk X pins H b) (ho : ∀ b ∈ fp, ∃ o, s.heap.get? b = some o ∧ ∀ v, o.data ≠ .cell v) : Inv X (pins ++ pinsAt fp s.heap) σ H s :=
  I.pins_of fun p hp => (List.mem_append.mp hp).elim (fun z => I.pin p (List.mem_append_right _ z)) fun z => by
    obtain ⟨hb, e⟩ := of_pinsAt z
    obtain ⟨f0, f1, f2, _⟩ := hf p.1 hb
    obtain ⟨o, e', d⟩ := ho p.1 hb
    rw [e] at e'; cases e'
    exact ⟨e, f0, f1, f2, d⟩
theorem Inv.unpinned {pins pl : List (Addr × Obj)} {σ : St} {H : Hp} {s : Shared} (I : Inv X (pins ++ pl) σ H s) : Inv X pins σ H s := I.pins_of fun p hp => I.pin p (List.mem_append_right _ (List.mem_append_left _ hp))
theorem ps_for {iter : Expr} {body : List Stmt} {wi : TI} {g : TG} {tb : TS} {pos : Pos} (hp : PassesOwn (model X.prog X.w) X.A X.env X.xe) (hc : X.calm = true) (hi : PI X tg iter wi) (hg : PG X tg g) (hb : PSs X body tb)
    (hs : ∀ x, foldedSetIterable iter X.env x = pure x := by intro _; rfl) : PS X (.For tg iter body [] pos) (tFor wi g tb) := by
  intro pins s σ H D I h
  refine wpAny_For (thn (hi pins s σ H _ I h) fun v s1 h1 => thn h1 fun itv s2 h2 => ?_) hs
  obtain ⟨it, fp, tn, J, H2, e, I2, T, st2, f2, W, ⟨m0, w0⟩, turn⟩ := h2
  subst e
  -- what stays true of the iterator's objects through the loop
  have stat : ∀ {H' : Hp}, (∀ b ∈ fp, H' b = none) → ∀ b ∈ fp, FpOk X pins H' b := fun hn b hb => ⟨hn b hb, (f2 b hb).2⟩
  refine codeAny_forLoop_any (fun n s' => ∃ i σ' H', Inv X pins σ' H' s' ∧ tn i s'.heap ∧ (∀ b ∈ fp, H' b = none) ∧ W i n σ' H') ?_ m0 ⟨0, σ, H2, I2, st2, fun b hb => (f2 b hb).1, w0⟩
  rintro n s3 ⟨i, σ3, H3, I3, st3, fr3, w3⟩
  rcases turn i n σ3 H3 w3 with ⟨stop, qn⟩ | ⟨go, N, hN, step⟩
  · refine wpAny_passesOwn hp (thn (T.done X rfl rfl rfl hc i pins s3 σ3 H3 X.xe I3 (stat fr3) st3 stop) fun r s4 ⟨hr, I4⟩ => ?_)
    subst hr
    exact wpAny_execs_nil ⟨σ3, H3, I4, qn⟩
  · refine wpAny_passesOwn hp (thn (T.item X rfl rfl rfl hc i pins s3 σ3 H3 X.xe I3 (stat fr3) st3 go) fun r s4 ⟨u, hr, h4⟩ => ?_)
    subst hr
    refine wpAny_passesOwn hp (thn h4 fun _ s5 ⟨x, H5, I5, r5, y5, st5, fr5⟩ => ?_)
    have I5' := I5.pinned (stat fr5) (T.obj _ _ st5)
    refine wpAny_passesOwn hp (thn (hg _ s5 σ3 H5 x u _ I5' r5 (step x H5 y5)) fun _ s6 ⟨σ6, H6, I6, q6⟩ => ?_)
    refine wpAny_passesOwn hp (thn (hb _ s6 σ6 H6 _ I6 q6) fun f s7 q7 => ?_)
    have again : ∀ {σ7 : St} {H7 : Hp}, Inv X (pins ++ pinsAt fp s5.heap) σ7 H7 s7 → N σ7 H7 → ∃ m, m < n ∧ ∃ i σ' H', Inv X pins σ' H' s7 ∧ tn i s7.heap ∧ (∀ b ∈ fp, H' b = none) ∧ W i m σ' H' := fun {σ7 H7} I7 n7 => by
      obtain ⟨m', hm, w7⟩ := hN σ7 H7 n7
      refine ⟨m', hm, i + 1, σ7, H7, I7.unpinned, T.keep _ _ _ st5 fun b hb o e => (I7.pin (b, o) (List.mem_append_right _ (List.mem_append_right _ (mem_pinsAt hb e)))).1, fun b hb => ?_, w7⟩
      obtain ⟨o, e, d⟩ := T.obj _ _ st5 b hb
      exact (I7.pin (b, o) (List.mem_append_right _ (List.mem_append_right _ (mem_pinsAt hb e)))).2.1
    cases f with
    | next => obtain ⟨σ7, H7, I7, n7⟩ := q7; exact again I7 n7
    | cont => obtain ⟨σ7, H7, I7, n7⟩ := q7; exact again I7 n7
    | brk => obtain ⟨σ7, H7, I7, q7⟩ := q7; exact ⟨σ7, H7, I7.unpinned, q7⟩
    | ret v => obtain ⟨x7, σ7, H7, I7, r7, q7⟩ := q7; exact ⟨x7, σ7, H7, I7.unpinned, r7, q7⟩
end

theorem for_list {K : PySem.W.Frag} {a : Addr} {xs : List V} {g : TG} {tb : TS} {D : Ends} {σ : St} {H : Hp} (Pv : Nat → St → Hp → Prop) (h0 : Pv 0 σ H) (hl : ∀ i σ H, i ≤ xs.length → Pv i σ H → SqL K H a xs)
    (hs : ∀ i x σ H, xs[i]? = some x → Pv i σ H → g x σ H fun σ2 H2 => tb { D with nx := Pv (i + 1), ct := Pv (i + 1), bk := D.nx } σ2 H2) (hd : ∀ σ H, Pv xs.length σ H → D.nx σ H) :
    ∃ W : Nat → Nat → St → Hp → Prop, (∃ m, W 0 m σ H) ∧ ∀ i m σ H, W i m σ H →
      ((Itl K a).stop i H ∧ D.nx σ H) ∨ ((Itl K a).go i H ∧ ∃ N : St → Hp → Prop, (∀ σ' H', N σ' H' → ∃ m', m' < m ∧ W (i + 1) m' σ' H') ∧ ∀ x H', (Itl K a).yld i H x H' → g x σ H' fun σ2 H2 => tb { D with nx := N, ct := N, bk := D.nx } σ2 H2) := by
  refine ⟨fun i m σ H => m = xs.length - i ∧ i ≤ xs.length ∧ Pv i σ H, ⟨xs.length, by simp, Nat.zero_le _, h0⟩, ?_⟩
  rintro i m σ H ⟨rfl, hi, p⟩
  have q := hl i σ H hi p
  by_cases hlt : i < xs.length
  · refine .inr ⟨⟨xs, xs[i], q, by simp [hlt]⟩, Pv (i + 1), fun σ' H' p' => ⟨xs.length - (i + 1), by omega, rfl, hlt, p'⟩, fun x H' y => ?_⟩
    obtain ⟨e, y⟩ := y
    subst e
    exact hs i x σ _ (y xs q) p
  · have e : i = xs.length := by omega
    subst e
    exact .inl ⟨⟨xs, q, Nat.le_refl _⟩, hd σ H p⟩
theorem for_range {lo : Int} {n : Nat} {g : TG} {tb : TS} {D : Ends} {σ : St} {H : Hp} (Pv : Nat → St → Hp → Prop) (h0 : Pv 0 σ H)
    (hs : ∀ i σ H, i < n → Pv i σ H → g (.int (lo + i)) σ H fun σ2 H2 => tb { D with nx := Pv (i + 1), ct := Pv (i + 1), bk := D.nx } σ2 H2) (hd : ∀ σ H, Pv n σ H → D.nx σ H) :
    ∃ W : Nat → Nat → St → Hp → Prop, (∃ m, W 0 m σ H) ∧ ∀ i m σ H, W i m σ H →
      ((Itr lo n).stop i H ∧ D.nx σ H) ∨ ((Itr lo n).go i H ∧ ∃ N : St → Hp → Prop, (∀ σ' H', N σ' H' → ∃ m', m' < m ∧ W (i + 1) m' σ' H') ∧ ∀ x H', (Itr lo n).yld i H x H' → g x σ H' fun σ2 H2 => tb { D with nx := N, ct := N, bk := D.nx } σ2 H2) := by
  refine ⟨fun i m σ H => m = n - i ∧ i ≤ n ∧ Pv i σ H, ⟨n, by simp, Nat.zero_le _, h0⟩, ?_⟩
  rintro i m σ H ⟨rfl, hi, p⟩
  by_cases hlt : i < n
  · refine .inr ⟨hlt, Pv (i + 1), fun σ' H' p' => ⟨n - (i + 1), by omega, rfl, hlt, p'⟩, fun x H' y => ?_⟩
    obtain ⟨e, y⟩ := y
    subst e y
    exact hs i σ _ hlt p
  · have e : i = n := by omega
    subst e
    exact .inl ⟨Nat.le_refl _, hd σ H p⟩
end L2

namespace L2
open PySem PySem.Spec PyProof.Rows

abbrev R2 := V → V → Hp → VK → Prop
def OpR (X : Cx) (f : Value → Value → Sem Value) (r : R2) : Prop :=
  ∀ (pins : List (Addr × Obj)) (s : Shared) (σ : St) (H : Hp) (x y : V) (v u : Value) (Q : VK), Inv X pins σ H s → RelV x v → RelV y u → r x y H Q →
    wpAny (model X.prog X.w) X.A (f v u) (EP X pins σ Q) X.xe s
def UnR (X : Cx) (f : Value → Sem Value) (r : V → Hp → VK → Prop) : Prop :=
  ∀ (pins : List (Addr × Obj)) (s : Shared) (σ : St) (H : Hp) (x : V) (v : Value) (Q : VK), Inv X pins σ H s → RelV x v → r x H Q →
    wpAny (model X.prog X.w) X.A (f v) (EP X pins σ Q) X.xe s
def CallR (X : Cx) (f : Value) (r : List V → Hp → VK → Prop) : Prop :=
  ∀ (pins : List (Addr × Obj)) (s : Shared) (σ : St) (H : Hp) (xs : List V) (us : List Value) (Q : VK), Inv X pins σ H s → Vals xs us → r xs H Q →
    wpAny (model X.prog X.w) X.A (call f us) (EP X pins σ Q) X.xe s
def tOp (r : R2) (ta tb : TE) : TE := fun σ H Q => ta σ H fun x H1 => tb σ H1 fun y H2 => r x y H2 Q
def tUn (r : V → Hp → VK → Prop) (ta : TE) : TE := fun σ H Q => ta σ H fun x H1 => r x H1 Q
def rI (C : Int → Int → Prop) (g : Int → Int → V) : R2 := fun x y H Q => ∃ i j, x = .int i ∧ y = .int j ∧ C i j ∧ Q (g i j) H
def rI0 (g : Int → Int → V) : R2 := fun x y H Q => ∃ i j, x = .int i ∧ y = .int j ∧ Q (g i j) H
def rU (g : Int → V) : V → Hp → VK → Prop := fun x H Q => ∃ i, x = .int i ∧ Q (g i) H

section
variable {X : Cx} {a b c : Expr} {ta tb tc : TE} {pos : Pos}

theorem binT (ha : PE X a ta) (hb : PE X b tb) {pins : List (Addr × Obj)} {s : Shared} {σ : St} {H : Hp} {R : V → V → Hp → Prop} (I : Inv X pins σ H s)
    (h : ta σ H fun x H1 => tb σ H1 fun y H2 => R x y H2) {Q : Value → Shared → Prop} {f : Value → Value → Sem Value}
    (hf : ∀ v u s2 x y H2, Inv X pins σ H2 s2 → RelV x v → RelV y u → R x y H2 → wpAny (model X.prog X.w) X.A (f v u) Q X.xe s2) :
    wpAny (model X.prog X.w) X.A (eval a X.env) (fun v s₁ => wpAny (model X.prog X.w) X.A (eval b X.env) (fun u s₂ => wpAny (model X.prog X.w) X.A (f v u) Q X.xe s₂) X.xe s₁) X.xe s := by
  refine thn (ha pins s σ H _ I h) fun v s1 ⟨x, H1, I1, r1, q1⟩ => ?_
  refine thn (hb pins s1 σ H1 _ I1 q1) fun u s2 ⟨y, H2, I2, r2, q2⟩ => ?_
  exact hf v u s2 x y H2 I2 r1 r2 q2

theorem pe_op {op : Operator} {r : R2} (ho : OpR X (binaryOp op) r) (ha : PE X a ta) (hb : PE X b tb) : PE X (.BinOp a op b pos) (tOp r ta tb) := by
  intro pins s σ H Q I h
  exact wpAny_BinOp (binT ha hb I h fun v u s2 x y H2 I2 rx ry q => ho pins s2 σ H2 x y v u Q I2 rx ry q)
theorem pe_un {op : UnaryOp} {r : V → Hp → VK → Prop} (ho : UnR X (unaryOp op) r) (ha : PE X a ta) : PE X (.UnaryOp op a pos) (tUn r ta) := by
  intro pins s σ H Q I h
  exact UnaryOp_ (thn (ha pins s σ H _ I h) fun v s1 ⟨x, H1, I1, r1, q1⟩ => ho pins s1 σ H1 x v Q I1 r1 q1)
theorem opI {f : Value → Value → Sem Value} {C : Int → Int → Prop} {g : Int → Int → Int}
    (rule : ∀ (i j : Int) (t u : Tok) (s : Shared) (Q : Value → Shared → Prop) (E : Value → Shared → Prop), C i j → Q (.int (g i j) s.toks) { s with toks := s.toks + 1 } → wpAny (model X.prog X.w) X.A (f (.int i t) (.int j u)) Q E s) :
    OpR X f (rI C fun i j => .int (g i j)) := by
  intro pins s σ H x y v u Q I rx ry h
  obtain ⟨i, j, rfl, rfl, hc, q⟩ := h
  obtain ⟨t, rfl⟩ := rx
  obtain ⟨t', rfl⟩ := ry
  exact rule i j t t' s _ _ hc ⟨.int (g i j), H, I.tok _, ⟨_, rfl⟩, q⟩
theorem opI0 {f : Value → Value → Sem Value} {g : Int → Int → Int}
    (rule : ∀ (i j : Int) (t u : Tok) (s : Shared) (Q : Value → Shared → Prop) (E : Value → Shared → Prop), Q (.int (g i j) s.toks) { s with toks := s.toks + 1 } → wpAny (model X.prog X.w) X.A (f (.int i t) (.int j u)) Q E s) :
    OpR X f (rI0 fun i j => .int (g i j)) := by
  intro pins s σ H x y v u Q I rx ry h
  obtain ⟨i, j, rfl, rfl, q⟩ := h
  obtain ⟨t, rfl⟩ := rx
  obtain ⟨t', rfl⟩ := ry
  exact rule i j t t' s _ _ ⟨.int (g i j), H, I.tok _, ⟨_, rfl⟩, q⟩
theorem opB0 {f : Value → Value → Sem Value} {g : Int → Int → Bool}
    (rule : ∀ (i j : Int) (t u : Tok) (s : Shared) (Q : Value → Shared → Prop) (E : Value → Shared → Prop), Q (.bool (g i j)) s → wpAny (model X.prog X.w) X.A (f (.int i t) (.int j u)) Q E s) :
    OpR X f (rI0 fun i j => .bl (g i j)) := by
  intro pins s σ H x y v u Q I rx ry h
  obtain ⟨i, j, rfl, rfl, q⟩ := h
  obtain ⟨t, rfl⟩ := rx
  obtain ⟨t', rfl⟩ := ry
  exact rule i j t t' s _ _ ⟨.bl (g i j), H, I, rfl, q⟩

def CPow (i j : Int) : Prop := 0 ≤ j ∧ j ≤ 1000000 ∧ i.natAbs < 2 ^ 64
theorem op_add : OpR X (binaryOp .Add) (rI0 fun i j => .int (i + j)) := opI0 fun _ _ _ _ _ _ _ q => add_int q
theorem op_sub : OpR X (binaryOp .Sub) (rI0 fun i j => .int (i - j)) := opI0 fun _ _ _ _ _ _ _ q => sub_int q
theorem op_mod : OpR X (binaryOp .Mod) (rI (fun _ j => 0 < j) fun i j => .int (i % j)) := opI fun i j _ _ _ _ _ hc q => by
  have h1 : (0 : Int) < j := hc
  exact mod_int' (by omega) (by rw [Int.fmod_eq_emod_of_nonneg i (by omega)]; exact q)
theorem op_pow : OpR X (binaryOp .Pow) (rI CPow fun i j => .int (i ^ j.toNat)) := opI fun _ _ _ _ _ _ _ hc q => pow_int_small hc.1 hc.2.1 hc.2.2 q
theorem unI {f : Value → Sem Value} {g : Int → Int}
    (rule : ∀ (i : Int) (t : Tok) (s : Shared) (Q : Value → Shared → Prop) (E : Value → Shared → Prop), Q (.int (g i) s.toks) { s with toks := s.toks + 1 } → wpAny (model X.prog X.w) X.A (f (.int i t)) Q E s) :
    UnR X f (rU fun i => .int (g i)) := by
  intro pins s σ H x v Q I rx h
  obtain ⟨i, rfl, q⟩ := h
  obtain ⟨t, rfl⟩ := rx
  exact rule i t s _ _ ⟨.int (g i), H, I.tok _, ⟨_, rfl⟩, q⟩
theorem un_neg : UnR X (unaryOp .USub) (rU fun i => .int (-i)) := unI fun _ _ _ _ _ q => neg_int q
end

def scal : V → V → Bool
  | .non, .non => true | .non, .int _ => true | .int _, .non => true | .non, .bl _ => true | .bl _, .non => true | .non, .str _ => true | .str _, .non => true
  | .int _, .int _ => true | .bl _, .bl _ => true | .str _, .str _ => true | .byt _, .byt _ => true
  | .int _, .str _ => true | .str _, .int _ => true | .bl _, .str _ => true | .str _, .bl _ => true
  | _, _ => false
def rEq : R2 := fun x y H Q => scal x y = true ∧ Q (.bl (decide (x = y))) H
def rNe : R2 := fun x y H Q => scal x y = true ∧ Q (.bl (!decide (x = y))) H

theorem dec_int {i j : Int} : decide (V.int i = V.int j) = (i == j) := by
  rw [Bool.eq_iff_iff]
  simp
theorem dec_bl {i j : Bool} : decide (V.bl i = V.bl j) = (i == j) := by
  rw [Bool.eq_iff_iff]
  simp
theorem dec_str {i j : Str} : decide (V.str i = V.str j) = (i == j) := by
  rw [Bool.eq_iff_iff]
  simp
theorem dec_byt {i j : Array UInt8} : decide (V.byt i = V.byt j) = (i.toList == j.toList) := by
  rw [Bool.eq_iff_iff]
  cases i
  cases j
  simp

section
variable {X : Cx} {a b c : Expr} {ta tb tc : TE} {pos : Pos}
theorem fin_bl {pins : List (Addr × Obj)} {σ : St} {H : Hp} {s : Shared} {Q : VK} {k k' : Bool} (I : Inv X pins σ H s) (q : Q (.bl k) H) (e : k = k') : EP X pins σ Q (.bool k') s := by
  subst e
  exact ⟨.bl k, H, I, rfl, q⟩
theorem op_eq : OpR X (compareOp .Eq) rEq := by
  intro pins s σ H x y v u Q I rx ry h
  obtain ⟨hs, q⟩ := h
  cases x with
  | non =>
    cases rx
    cases y with
    | non => cases ry; exact PySem.EqNone.eq_none_none (fin_bl I q (by simp))
    | bl j => cases ry; exact PySem.EqNone.eq_none_bool (fin_bl I q (by simp))
    | int j => obtain ⟨t', rfl⟩ := ry; exact PySem.EqNone.eq_none_int (fin_bl I q (by simp))
    | str j => obtain ⟨t', rfl⟩ := ry; exact PySem.EqNone.eq_none_str (fin_bl I q (by simp))
    | _ => exact absurd (show false = true from hs) Bool.false_ne_true
  | bl i =>
    cases rx
    cases y with
    | non => cases ry; exact PySem.EqNone.eq_bool_none (fin_bl I q (by simp))
    | bl j => cases ry; exact eq_bool (fin_bl I q dec_bl)
    | str j => obtain ⟨t', rfl⟩ := ry; exact PySem.EqMixed.eq_bool_str (fin_bl I q (by simp))
    | _ => exact absurd (show false = true from hs) Bool.false_ne_true
  | int i =>
    obtain ⟨t, rfl⟩ := rx
    cases y with
    | non => cases ry; exact PySem.EqNone.eq_int_none (fin_bl I q (by simp))
    | int j => obtain ⟨t', rfl⟩ := ry; exact eq_int (fin_bl I q dec_int)
    | str j => obtain ⟨t', rfl⟩ := ry; exact PySem.EqMixed.eq_int_str (fin_bl I q (by simp))
    | _ => exact absurd (show false = true from hs) Bool.false_ne_true
  | str i =>
    obtain ⟨t, rfl⟩ := rx
    cases y with
    | non => cases ry; exact PySem.EqNone.eq_str_none (fin_bl I q (by simp))
    | bl j => cases ry; exact PySem.EqMixed.eq_str_bool (fin_bl I q (by simp))
    | int j => obtain ⟨t', rfl⟩ := ry; exact PySem.EqMixed.eq_str_int (fin_bl I q (by simp))
    | str j => obtain ⟨t', rfl⟩ := ry; exact eq_str (fin_bl I q dec_str)
    | _ => exact absurd (show false = true from hs) Bool.false_ne_true
  | byt i =>
    obtain ⟨t, rfl⟩ := rx
    cases y with
    | byt j => obtain ⟨t', rfl⟩ := ry; exact PySem.W.eq_bytes (fin_bl I q dec_byt)
    | _ => exact absurd (show false = true from hs) Bool.false_ne_true
  | _ => cases y <;> exact absurd (show false = true from hs) Bool.false_ne_true
theorem op_ne : OpR X (compareOp .NotEq) rNe := by
  intro pins s σ H x y v u Q I rx ry h
  obtain ⟨hs, q⟩ := h
  cases x with
  | non =>
    cases rx
    cases y with
    | non => cases ry; exact PySem.EqNone.ne_none_none (fin_bl I q (by simp))
    | bl j => cases ry; exact PySem.EqNone.ne_none_bool (fin_bl I q (by simp))
    | int j => obtain ⟨t', rfl⟩ := ry; exact PySem.EqNone.ne_none_int (fin_bl I q (by simp))
    | str j => obtain ⟨t', rfl⟩ := ry; exact PySem.EqNone.ne_none_str (fin_bl I q (by simp))
    | _ => exact absurd (show false = true from hs) Bool.false_ne_true
  | bl i =>
    cases rx
    cases y with
    | non => cases ry; exact PySem.EqNone.ne_bool_none (fin_bl I q (by simp))
    | bl j => cases ry; exact ne_bool (fin_bl I q (congrArg not dec_bl))
    | str j => obtain ⟨t', rfl⟩ := ry; exact PySem.EqMixed.ne_bool_str (fin_bl I q (by simp))
    | _ => exact absurd (show false = true from hs) Bool.false_ne_true
  | int i =>
    obtain ⟨t, rfl⟩ := rx
    cases y with
    | non => cases ry; exact PySem.EqNone.ne_int_none (fin_bl I q (by simp))
    | int j => obtain ⟨t', rfl⟩ := ry; exact ne_int (fin_bl I q (congrArg not dec_int))
    | str j => obtain ⟨t', rfl⟩ := ry; exact PySem.EqMixed.ne_int_str (fin_bl I q (by simp))
    | _ => exact absurd (show false = true from hs) Bool.false_ne_true
  | str i =>
    obtain ⟨t, rfl⟩ := rx
    cases y with
    | non => cases ry; exact PySem.EqNone.ne_str_none (fin_bl I q (by simp))
    | bl j => cases ry; exact PySem.EqMixed.ne_str_bool (fin_bl I q (by simp))
    | int j => obtain ⟨t', rfl⟩ := ry; exact PySem.EqMixed.ne_str_int (fin_bl I q (by simp))
    | str j => obtain ⟨t', rfl⟩ := ry; exact ne_str (fin_bl I q (congrArg not dec_str))
    | _ => exact absurd (show false = true from hs) Bool.false_ne_true
  | byt i =>
    obtain ⟨t, rfl⟩ := rx
    cases y with
    | byt j => obtain ⟨t', rfl⟩ := ry; exact PySem.W.ne_bytes (fin_bl I q (congrArg not dec_byt))
    | _ => exact absurd (show false = true from hs) Bool.false_ne_true
  | _ => cases y <;> exact absurd (show false = true from hs) Bool.false_ne_true

theorem op_lt : OpR X (compareOp .Lt) (rI0 fun i j => .bl (decide (i < j))) := opB0 fun _ _ _ _ _ _ _ q => lt_int q
theorem op_le : OpR X (compareOp .LtE) (rI0 fun i j => .bl (decide (i ≤ j))) := opB0 fun _ _ _ _ _ _ _ q => le_int q
theorem op_gt : OpR X (compareOp .Gt) (rI0 fun i j => .bl (decide (j < i))) := opB0 fun _ _ _ _ _ _ _ q => gt_int q
theorem op_ge : OpR X (compareOp .GtE) (rI0 fun i j => .bl (decide (j ≤ i))) := opB0 fun _ _ _ _ _ _ _ q => ge_int q
theorem OpR.or {f : Value → Value → Sem Value} {r r' : R2} (h : OpR X f r) (h' : OpR X f r') : OpR X f (fun x y H Q => r x y H Q ∨ r' x y H Q) := by
  intro pins s σ H x y v u Q I rx ry q
  rcases q with q | q
  · exact h pins s σ H x y v u Q I rx ry q
  · exact h' pins s σ H x y v u Q I rx ry q

theorem nomark (b : Expr) {op : CmpOp} (h : op ≠ .In := by decide) (h2 : op ≠ .NotIn := by decide) : behindInMarks op b = false := by
  have e1 : (op == CmpOp.In) = false := by cases op <;> first | rfl | exact absurd rfl h
  have e2 : (op == CmpOp.NotIn) = false := by cases op <;> first | rfl | exact absurd rfl h2
  cases b <;> simp [behindInMarks, e1, e2]
theorem pe_cmpR {op : CmpOp} {r : R2} (ho : OpR X (compareOp op) r) (ha : PE X a ta) (hb : PE X b tb) (hm : behindInMarks op b = false) : PE X (.Compare a [op] [b] pos) (tOp r ta tb) := by
  intro pins s σ H Q I h
  exact wpAny_Compare1 (binT ha hb I h fun v u s2 x y H2 I2 rx ry q => ho pins s2 σ H2 x y v u Q I2 rx ry q) hm
def tTest (t : TE) : TT := fun σ H Q => t σ H fun x H' => ∃ k, x = .bl k ∧ Q k H'
theorem pt_cmpR {op : CmpOp} {r : R2} (ho : OpR X (compareOp op) r) (ha : PE X a ta) (hb : PE X b tb) (hm : behindInMarks op b = false) : PT X (.Compare a [op] [b] pos) (tTest (tOp r ta tb)) := by
  intro pins s σ H Q I h
  refine wpAny_isTrue_Compare1 (thn (ha pins s σ H _ I h) fun v s1 ⟨x, H1, I1, r1, q1⟩ => thn (hb pins s1 σ H1 _ I1 q1) fun u s2 ⟨y, H2, I2, r2, q2⟩ =>
    thn (ho pins s2 σ H2 x y v u _ I2 r1 r2 q2) fun c s3 ⟨z, H3, I3, r3, k, e, q3⟩ => ?_) hm
  subst e
  cases r3
  exact wpAny_truthy_bool ⟨H3, I3, q3⟩
def tChain (r r' : R2) (ta tb tc : TE) : TE := fun σ H Q => ta σ H fun x H1 => tb σ H1 fun y H2 => r x y H2 fun z H3 => ∃ k, z = .bl k ∧
  (if k = true then tc σ H3 fun w' H4 => r' y w' H4 Q else Q (.bl false) H3)
theorem pe_chain {op op' : CmpOp} {r r' : R2} (ho : OpR X (compareOp op) r) (ho' : OpR X (compareOp op') r') (ha : PE X a ta) (hb : PE X b tb) (hc : PE X c tc)
    (hm : lastMarks [op, op'] [b, c] = false := by with_unfolding_all rfl) : PE X (.Compare a [op, op'] [b, c] pos) (tChain r r' ta tb tc) := by
  intro pins s σ H Q I h
  refine Compare_chain (thn (ha pins s σ H _ I h) fun v s1 ⟨x, H1, I1, r1, q1⟩ => chain_link (thn (hb pins s1 σ H1 _ I1 q1) fun u s2 ⟨y, H2, I2, r2, q2⟩ =>
    thn (ho pins s2 σ H2 x y v u _ I2 r1 r2 q2) fun d s3 ⟨z, H3, I3, r3, k, e, q3⟩ => ?_)) hm
  subst e
  cases r3
  refine wpAny_truthy_bool ?_
  cases k with
  | false => exact ite_ff ⟨.bl false, H3, I3, rfl, q3⟩
  | true => exact ite_tt (chain_last (thn (hc pins s3 σ H3 _ I3 q3) fun w' s4 ⟨z', H4, I4, r4, q4⟩ => ho' pins s4 σ H4 y z' u w' Q I4 r2 r4 q4))
theorem pt_chain {op op' : CmpOp} {r r' : R2} (ho : OpR X (compareOp op) r) (ho' : OpR X (compareOp op') r') (ha : PE X a ta) (hb : PE X b tb) (hc : PE X c tc)
    (hm : lastMarks [op, op'] [b, c] = false := by with_unfolding_all rfl) : PT X (.Compare a [op, op'] [b, c] pos) (tTest (tChain r r' ta tb tc)) := by
  intro pins s σ H Q I h
  refine isTrue_chain (thn (ha pins s σ H _ I h) fun v s1 ⟨x, H1, I1, r1, q1⟩ => test_link (thn (hb pins s1 σ H1 _ I1 q1) fun u s2 ⟨y, H2, I2, r2, q2⟩ =>
    thn (ho pins s2 σ H2 x y v u _ I2 r1 r2 q2) fun d s3 ⟨z, H3, I3, r3, k, e, q3⟩ => ?_)) hm
  subst e
  cases r3
  refine wpAny_truthy_bool ?_
  cases k with
  | false =>
    obtain ⟨k', e', q'⟩ := q3
    cases e'
    exact ite_ff ⟨H3, I3, q'⟩
  | true =>
    refine ite_tt (test_last (thn (hc pins s3 σ H3 _ I3 q3) fun w' s4 ⟨z', H4, I4, r4, q4⟩ => thn (ho' pins s4 σ H4 y z' u w' _ I4 r2 r4 q4) fun d' s5 ⟨z2, H5, I5, r5, k2, e2, q5⟩ => ?_))
    subst e2
    cases r5
    exact wpAny_truthy_bool ⟨H5, I5, q5⟩

theorem line63 : (sizeLine : Nat) < 2 ^ 63 := by rw [sizeLine_eq]; decide
theorem vals1 {x : V} {us : List Value} (r : Vals [x] us) : ∃ u, us = [u] ∧ RelV x u := by
  cases r with
  | cons r1 r2 => cases r2; exact ⟨_, rfl, r1⟩
theorem vals2 {x y : V} {us : List Value} (r : Vals [x, y] us) : ∃ u w', us = [u, w'] ∧ RelV x u ∧ RelV y w' := by
  cases r with
  | cons r1 r2 =>
    cases r2 with
    | cons r3 r4 => cases r4; exact ⟨_, _, rfl, r1, r3⟩
theorem call_max2 (hc : X.calm = true) : CallR X (.builtin "max") (fun xs H Q => ∃ i j, xs = [.int i, .int j] ∧ Q (.int (if j > i then j else i)) H) := by
  intro pins s σ H xs us Q I r h
  obtain ⟨i, j, rfl, q⟩ := h
  obtain ⟨u, w', rfl, ⟨t, rfl⟩, ⟨t', rfl⟩⟩ := vals2 r
  refine max_two_ints (I.ok.hd hc) fun h' tk k => ⟨_, H, I.kept k, ?_, q⟩
  by_cases hj : j > i
  · rw [if_pos hj, if_pos hj]; exact ⟨_, rfl⟩
  · rw [if_neg hj, if_neg hj]; exact ⟨_, rfl⟩
theorem call_min2 (hc : X.calm = true) : CallR X (.builtin "min") (fun xs H Q => ∃ i j, xs = [.int i, .int j] ∧ Q (.int (if j < i then j else i)) H) := by
  intro pins s σ H xs us Q I r h
  obtain ⟨i, j, rfl, q⟩ := h
  obtain ⟨u, w', rfl, ⟨t, rfl⟩, ⟨t', rfl⟩⟩ := vals2 r
  refine min_two_ints (I.ok.hd hc) fun h' tk k => ⟨_, H, I.kept k, ?_, q⟩
  by_cases hj : j < i
  · rw [if_pos hj, if_pos hj]; exact ⟨_, rfl⟩
  · rw [if_neg hj, if_neg hj]; exact ⟨_, rfl⟩
end
end L2

namespace L2
open PySem PySem.Spec PyProof.Rows

structure ObjM (h : Heap) (x dx C : Addr) (mA : Str → Option Value) : Prop where
  obj : h.get? x = some (PySem.W.instObj C dx)
  ns : h.Ns1 dx mA
  ne : dx ≠ x

section
variable {prog : Program} {w : World} {A : Around} {E : Value → Shared → Prop} {s : Shared} {K : PySem.W.Frag} {x dx C f : Addr} {mA : Str → Option Value} {name : Str} {v : Value}

end

def putF (f : Str) (v : V) : List (Str × V) → List (Str × V)
  | [] => [(f, v)]
  | (g, x) :: r => if g = f then (g, v) :: r else (g, x) :: putF f v r
section
variable {P : Program} {w : World} {H H' : Hp} {h h' : Heap} {a C dx : Addr} {fs fs' : List (Str × V)}
end

structure Cls (K : PySem.W.Frag) (C : Addr) : Prop where
  pg : PySem.W.plainGet K C Str.empty = true
  hd : PySem.W.hasDictIn K C = true
  po : PySem.W.plainOver K C = true
  sa : PySem.W.findIn K (.ref C) "__setattr__" = some (some (.builtin "object.__setattr__"))
theorem Cls.get {K : PySem.W.Frag} {C : Addr} (c : Cls K C) (f : Str) : PySem.W.plainGet K C f = true := c.pg
def NoAttr (K : PySem.W.Frag) (C : Addr) (f : Str) : Prop := PySem.W.findIn K (.ref C) f = some none
structure Con (K : PySem.W.Frag) (C : Addr) (f : Str) (v : V) (u : Value) : Prop where
  at_ : PySem.W.findIn K (.ref C) f = some (some u)
  rel : RelV v u
  get : PySem.W.specialIn K u "__get__" = some none
  cp : PySem.W.copiedNames.contains f = false
structure Meth (K : PySem.W.Frag) (C : Addr) (m : Str) (f : Addr) : Prop where
  at_ : PySem.W.findIn K (.ref C) m = some (some (.ref f))
  fn : PySem.W.isFn K (.ref f) = true
  kp : PySem.W.keepIn K (.ref f) = true

section
variable {X : Cx} {pins : List (Addr × Obj)} {σ : St} {H : Hp} {s : Shared} {a C dx : Addr} {fs : List (Str × V)} {f : Str} {v : V} {A : Around} {E : Value → Shared → Prop}

end

def tFld (K : PySem.W.Frag) (ta : TE) (f : Str) : TE := fun σ H Q => ta σ H fun x H1 => ∃ a C dx fs v, x = .ref a ∧ H1 a = some (.ins C dx fs) ∧ Cls K C ∧ NoAttr K C f ∧ fs.lookup f = some v ∧ Q v H1
def sFld (K : PySem.W.Frag) (ta tv : TE) (f : Str) : TS := fun D σ H => tv σ H fun y H1 => ta σ H1 fun x H2 => ∃ a C dx fs, x = .ref a ∧ H2 a = some (.ins C dx fs) ∧ Cls K C ∧ NoAttr K C f ∧ fs.length < 1000 ∧
  D.nx σ (upd H2 a (.ins C dx (putF f y fs)))
section
variable {X : Cx} {o e value : Expr} {f : Str} {pos pos' tpos : Pos} {ta tv : TE}
end

section
variable {X : Cx} {pins : List (Addr × Obj)} {σ : St} {H : Hp} {s : Shared} {A : Around} {E : Value → Shared → Prop} {Q : Value → Shared → Prop} {c : Value} {b : Bool}
inductive TyOf (K : PySem.W.Frag) (H : Hp) : V → Value → Prop where
  | non : TyOf K H .non (.type "NoneType")
  | bl (x : Bool) : TyOf K H (.bl x) (.type "bool")
  | int (i : Int) : TyOf K H (.int i) (.type "int")
  | str (x : Str) : TyOf K H (.str x) (.type "str")
  | flt (x : UInt64) : TyOf K H (.flt x) (.type "float")
  | lst {a : Addr} {xs : List V} (e : H a = some (.lst xs)) : TyOf K H (.ref a) (.type "list")
  | frz {a : Addr} {o : Obj} {xs : List V} (e : H a = some (.frz o (.lst xs))) : TyOf K H (.ref a) (.type "list")
  | tup {a : Addr} {xs : List V} (e : H a = some (.tup xs)) : TyOf K H (.ref a) (.type "tuple")
  | dK {a : Addr} {kvs : List (Key × V)} (e : H a = some (.dK kvs)) : TyOf K H (.ref a) (.type "dict")
  | dT {a : Addr} {kvs : List (List Key × V)} (e : H a = some (.dT kvs)) : TyOf K H (.ref a) (.type "dict")
  | ins {a C dx : Addr} {fs : List (Str × V)} (e : H a = some (.ins C dx fs)) (cl : Cls K C) (ha : PySem.W.findIn K (.ref C) "__class__" = some (some (.builtin "object.__class__")))
      (hn : PySem.W.specialIn K (.builtin "object.__class__") "__get__" = some (some (.builtin "getset_descriptor.__get__"))) (htk : PySem.W.takesIn K (.builtin "object.__class__") = some true)
      (hm : PySem.W.mroIn K C (.type "object") = some true) : TyOf K H (.ref a) (.ref C)
end
end L2

namespace L2
open PySem PySem.Spec PyProof.Rows

structure Room (k : Nat) (A : Around) : Prop where
  hd : A.handled = none
  dp : A.depth + 3 * k + 5 < recursionLimit
  un : A.units + 16 * k + 200 < cLine
theorem Room.mono {j k : Nat} {A : Around} (r : Room k A) (h : j ≤ k) : Room j A := ⟨r.hd, by have := r.dp; omega, by have := r.un; omega⟩
theorem Room.deeper {k : Nat} {A : Around} (r : Room (k + 1) A) (env : Env) : Room k (A.deeper env) :=
  ⟨r.hd, by have := r.dp; show A.depth + 1 + 3 * k + 5 < _; omega, by have := r.un; show A.units + 3 + 16 * k + 200 < _; omega⟩
theorem Room.in1 {k : Nat} {A : Around} (r : Room (k + 1) A) : Room k A.in1 :=
  ⟨r.hd, by have := r.dp; show A.depth + 3 * k + 5 < _; omega, by have := r.un; show A.units + 1 + 16 * k + 200 < _; omega⟩
theorem make_depth {A : Around} {C : Addr} {us : List Value} {kw : List (Str × Value)} : (A.under (.builtin "type.__call__" ⟨.ref C :: us, kw⟩)).depth = A.depth + 1 := by
  first | rfl | simp [Around.under, Code.weight, Code.isCreation, Code.isGuard, Code.isCaller, Code.frames, Code.isFrame, guardIds]
theorem make_units {A : Around} {C : Addr} {us : List Value} {kw : List (Str × Value)} : (A.under (.builtin "type.__call__" ⟨.ref C :: us, kw⟩)).units = A.units + 1 := by
  first | rfl | simp [Around.under, Code.cUnits, Code.frames, Code.isFrame]
theorem Room.make {k : Nat} {A : Around} (r : Room (k + 1) A) (C : Addr) (us : List Value) (kw : List (Str × Value)) : Room k (A.under (.builtin "type.__call__" ⟨.ref C :: us, kw⟩)) :=
  ⟨r.hd, by have := r.dp; rw [make_depth]; omega, by have := r.un; rw [make_units]; omega⟩
theorem Room.depth {k : Nat} {A : Around} (r : Room k A) : A.depth < recursionLimit := by have := r.dp; omega
theorem Room.units {k : Nat} {A : Around} (r : Room k A) : A.units + 64 < cLine := by have := r.un; omega
def tNil : TA := fun _ H Q => Q [] H
def tCons (ta : TE) (tr : TA) : TA := fun σ H Q => ta σ H fun x H1 => tr σ H1 fun xs H2 => Q (x :: xs) H2
section
variable {X : Cx} {e : Expr} {es : List Expr} {te : TE} {t : TA} {pos : Pos}
theorem pa_nil : PA X [] tNil := fun _ _ _ _ H Q I h => Calls.spliced_nil ⟨[], H, I, .nil, h⟩
theorem pa_cons (ha : PE X e te) (hr : PA X es t) (hs : starEach (e :: es) X.env = (false, eval e X.env) :: starEach es X.env := by rfl) : PA X (e :: es) (tCons te t) := by
  intro pos pins s σ H Q I h
  rw [hs]
  show wpAny _ _ (spliced ((false, eval e X.env) :: backTo pos (starEach es X.env))) _ _ s
  refine Calls.spliced_cons (thn (ha pins s σ H _ I h) fun u s1 ⟨x, H1, I1, r1, q1⟩ => ?_)
  exact thn (hr pos pins s1 σ H1 _ I1 q1) fun us s2 ⟨xs, H2, I2, r2, q2⟩ => ⟨x :: xs, H2, I2, .cons r1 r2, q2⟩

def tTup (t : TA) : TE := fun σ H Q => t σ H fun xs H1 => xs.length ≤ sizeLine ∧ ∀ p, H1 p = none → Q (.ref p) (upd H1 p (.tup xs))
def tLst (t : TA) : TE := fun σ H Q => t σ H fun xs H1 => xs.length ≤ sizeLine ∧ ∀ p, H1 p = none → Q (.ref p) (upd H1 p (.lst xs))
theorem pe_tup {x1} (h : PA X es t) : PE X (.Tuple es x1 pos) (tTup t) := by
  intro pins s σ H Q I hq
  refine wpAny_Tuple_spliced (thn (h pos pins s σ H _ I hq) fun us s1 ⟨xs, H1, I1, r, z, q⟩ => ⟨by rw [← r.length]; exact z, ?_⟩)
  have hf : H1 s1.heap.objs.size = none := I1.hok.fresh (Nat.le_refl _)
  refine ⟨.ref s1.heap.objs.size, upd H1 s1.heap.objs.size (.tup xs), I1.laid (t' := s1.toks) (fun b u e => Heap.get?_push_of_some _ e) (Nat.le_refl _) ?_, rfl, q _ hf⟩
  exact ⟨z, us, r, ⟨_, Heap.get?_push_size _ rfl, rfl, _, rfl⟩, _, Heap.get?_push_size _ rfl, rfl⟩
theorem pe_lst (h : PA X es t) : PE X (.List es pos) (tLst t) := by
  intro pins s σ H Q I hq
  refine wpAny_List_spliced (thn (h pos pins s σ H _ I hq) fun us s1 ⟨xs, H1, I1, r, z, q⟩ => ⟨by rw [← r.length]; exact z, ?_⟩)
  have hf : H1 s1.heap.objs.size = none := I1.hok.fresh (Nat.le_refl _)
  refine ⟨.ref s1.heap.objs.size, upd H1 s1.heap.objs.size (.lst xs), I1.laid (t' := s1.toks) (fun b u e => Heap.get?_push_of_some _ e) (Nat.le_refl _) ?_, rfl, q _ hf⟩
  exact ⟨z, us, 0, r, Heap.get?_push_size _ rfl⟩
end

abbrev Sp := List V → Hp → VK → XK → Prop
abbrev CXT := List Env → Hp → Shared → XK → Value → Shared → Prop

structure Env0 (P : Program) (w : World) (K : PySem.W.Frag) (mg : Str → Option Value) (base : Heap) (A : Around) (outer : List Env) (s : Shared) (H : Hp) : Prop where
  frames : A.frames = some outer
  mod : Mod K mg base
  bs : ∀ b o, base.get? b = some o → s.heap.get? b = some o ∧ H b = none
  bsz : base.objs.size ≤ s.heap.objs.size
  funs : s.heap.FunFrames base outer
  frf : ∀ b ∈ frs outer, H b = none
  hok : HOk P w H s.heap
  bare : AllBare s.gens
def CE (outer : List Env) (P : Program) (w : World) (H : Hp) (s : Shared) (Q : VK) (u : Value) (s' : Shared) : Prop :=
  ∃ v H', s'.os = s.os ∧ AllBare s'.gens ∧ Un (frs outer) [] H H' s.heap s'.heap ∧ HOk P w H' s'.heap ∧ RelV v u ∧ Q v H'
def CR (CX : CXT) (outer : List Env) (P : Program) (w : World) (H : Hp) (s : Shared) (Q : VK) (E : XK) (r : Result) (s' : Shared) : Prop :=
  match r with
  | .ok (.ret u) => CE outer P w H s Q u s'
  | .ok _ => False
  | .error e => CX outer H s E e s'
structure FnOk (P : Program) (w : World) (K : PySem.W.Frag) (mg : Str → Option Value) (base : Heap) (CX : CXT) (k : Nat) (f : Addr) (fd : FuncData) (ps : List Str) (sp : Sp) : Prop where
  len : ∀ vs H Q E, sp vs H Q E → vs.length = ps.length
  run : ∀ (A : Around) (outer : List Env) (s : Shared) (H : Hp) (args : Args) (us : List Value) (vs : List V) (Q : VK) (E : XK), Room k A → Env0 P w K mg base A outer s H → BindsTo s fd args (ps.zip us) → Vals vs us → sp vs H Q E →
    codeAny (model P w) A (.call (.ref f) args) (CR CX outer P w H s Q E) s
theorem FnOk.mono {P : Program} {w : World} {K : PySem.W.Frag} {mg : Str → Option Value} {base : Heap} {CX : CXT} {j k : Nat} {f : Addr} {fd : FuncData} {ps : List Str} {sp : Sp} (F : FnOk P w K mg base CX j f fd ps sp) (h : j ≤ k) :
    FnOk P w K mg base CX k f fd ps sp := ⟨F.len, fun A outer s H args us vs Q E hr => F.run A outer s H args us vs Q E (hr.mono h)⟩
theorem Env0.make {P : Program} {w : World} {K : PySem.W.Frag} {mg : Str → Option Value} {base : Heap} {A : Around} {outer : List Env} {s : Shared} {H : Hp} (e : Env0 P w K mg base A outer s H) (C : Addr) (us : List Value) (kw : List (Str × Value)) :
    Env0 P w K mg base (A.under (.builtin "type.__call__" ⟨.ref C :: us, kw⟩)) outer s H := ⟨by first | exact e.frames | (simpa [Around.under, Code.envs, Code.isFrame, pushEnvs] using e.frames), e.mod, e.bs, e.bsz, e.funs, e.frf, e.hok, e.bare⟩
theorem Env0.in1 {P : Program} {w : World} {K : PySem.W.Frag} {mg : Str → Option Value} {base : Heap} {A : Around} {outer : List Env} {s : Shared} {H : Hp} (e : Env0 P w K mg base A outer s H) :
    Env0 P w K mg base A.in1 outer s H := ⟨e.frames, e.mod, e.bs, e.bsz, e.funs, e.frf, e.hok, e.bare⟩

section
variable {X : Cx} {pins : List (Addr × Obj)} {σ : St} {H : Hp} {s s' : Shared}
theorem Inv.env0 (I : Inv X pins σ H s) : Env0 X.prog X.w X.K X.mg X.base X.A X.stack s H :=
  ⟨I.ok.frames, I.ok.mod, I.bs, Nat.le_trans I.ok.bsz I.sz, I.stack, I.stkFree, I.hok, I.bare⟩
theorem Inv.after {Q : VK} {u : Value} (I : Inv X pins σ H s) (h : CE X.stack X.prog X.w H s Q u s') : EP X pins σ Q u s' := by
  obtain ⟨v, H', os, bare, un, hok, r, q⟩ := h
  obtain ⟨hh, g, d, t, os'⟩ := s'
  obtain rfl : os' = s.os := os
  exact ⟨v, H', I.call (h' := hh) (g' := g) (d' := d) (t' := t) (ch := []) un hok bare (fun b z => absurd z (by simp)), r, q⟩
end

def tCall (sp : Sp) (dvs : List V) (E : XK) (t : TA) : TE := fun σ H Q => t σ H fun vs H1 => sp (vs ++ dvs) H1 Q E
def tMake (C : Addr) (sp : Sp) (dvs : List V) (E : XK) (t : TA) : TE := fun σ H Q => t σ H fun vs H1 => ∀ x dx, H1 x = none → H1 dx = none → dx ≠ x →
  sp (.ref x :: (vs ++ dvs)) (upd (upd H1 dx (.own x)) x (.ins C dx [])) (fun v H2 => v = .non ∧ Q (.ref x) H2) E

def Binds (K : PySem.W.Frag) (fd : FuncData) (ps : List Str) (ds : List Value) : Prop :=
  ∀ (s : Shared) (us : List Value), K.In s.heap → (us ++ ds).length = ps.length → BindsTo s fd ⟨us, []⟩ (ps.zip (us ++ ds))
theorem Binds.all {K : PySem.W.Frag} {fd : FuncData} {ps : List Str} (h : ∀ us : List Value, us.length = ps.length → bindArgs fd ⟨us, []⟩ = pure (ps.zip us)) : Binds K fd ps [] := fun s us _ hl => by
  rw [List.append_nil] at hl ⊢
  exact .of_eq (h us hl)

def Passes (CX : CXT) (X : Cx) (E : XK) : Prop := ∀ (pins : List (Addr × Obj)) (σ : St) (H : Hp) (s : Shared) (e : Value) (s' : Shared), Inv X pins σ H s → CX X.stack H s E e s' → X.xe e s'

section
variable {X : Cx} {CX : CXT} {k : Nat} {f C : Addr} {fd : FuncData} {ps : List Str} {sp : Sp} {dvs : List V} {ds : List Value} {E : XK} {x m : Str} {p pos apos : Pos} {e o : Expr} {es : List Expr} {ta : TE} {t : TA}

theorem run_fn {pins : List (Addr × Obj)} {σ : St} {H : Hp} {s : Shared} {Q : VK} {us : List Value} {vs : List V} (F : FnOk X.prog X.w X.K X.mg X.base CX k f fd ps sp) (hr : Room k X.A) (hb : Binds X.K fd ps ds) (hd : Vals dvs ds) (hx : Passes CX X E)
    (I : Inv X pins σ H s) (r : Vals vs us) (h : sp (vs ++ dvs) H Q E) : wpAny (model X.prog X.w) X.A (call (.ref f) us) (EP X pins σ Q) X.xe s := by
  have r2 : Vals (vs ++ dvs) (us ++ ds) := r.append hd
  have hl : (us ++ ds).length = ps.length := by rw [← r2.length]; exact F.len _ _ _ _ h
  refine wpAny_call (codeAny_mono (F.run X.A X.stack s H ⟨us, []⟩ (us ++ ds) (vs ++ dvs) Q E hr I.env0 (hb s us I.kIn hl) r2 h) fun r s' hq => ?_)
  cases r with
  | error e => exact hx pins σ H s e s' I hq
  | ok fl =>
    cases fl with
    | ret u => exact I.after hq
    | next => exact False.elim hq
    | brk => exact False.elim hq
    | cont => exact False.elim hq

theorem pe_call (F : FnOk X.prog X.w X.K X.mg X.base CX k f fd ps sp) (hr : Room k X.A) (hg : Gl X x) (hm : X.mg x = some (.ref f)) (hk : PySem.W.keepIn X.K (.ref f) = true) (hb : Binds X.K fd ps ds) (hd : Vals dvs ds) (hx : Passes CX X E)
    (ha : PA X (e :: es) t) (hdb : (x == ("__debug__" : Str)) = false := by decide) (he : starEach (e :: es) X.env = (false, eval e X.env) :: starEach es X.env := by rfl) (hpl : (backTo pos (starEach es X.env)).any (·.1) = false := by rfl) :
    PE X (.Call (.Name x p) (e :: es) [] pos) (tCall sp dvs E t) := by
  intro pins s σ H Q I h
  refine wpAny_Call_Name_kw (ld_glob I hg hm ?_ hdb)
  refine PySem.W.callWith_K (h₀ := X.base) I.ok.mod.kin hk (thn (ha pos pins s σ H _ I h) fun us s1 ⟨vs, H1, I1, r, q⟩ => ⟨I1.kIn, ?_⟩) he hpl
  exact run_fn F hr hb hd hx I1 r q
structure Mk (K : PySem.W.Frag) (C f : Addr) : Prop where
  makes : PySem.W.makesIn K C = true
  init : PySem.W.findIn K (.ref C) "__init__" = some (some (.ref f))
  fn : PySem.W.isFn K (.ref f) = true
  kp : PySem.W.keepIn K (.ref C) = true

end

section
variable {X : Cx} {CX : CXT} {k : Nat} {f C : Addr} {fd : FuncData} {ps ks : List Str} {sp : Sp} {E : XK} {x m : Str} {p pos apos kpos : Pos} {e o : Expr} {es : List Expr} {kws : List Keyword} {te ta : TE} {t tk : TA} {nm : Option Str}
structure KBinds (K : PySem.W.Frag) (fd : FuncData) (ps ks : List Str) (g : List Value → List Value → List Value) (gV : List V → List V → List V) : Prop where
  to : ∀ (s : Shared) (us ws : List Value), K.In s.heap → (g us ws).length = ps.length → BindsTo s fd ⟨us, ks.zip ws⟩ (ps.zip (g us ws))
  rel : ∀ {vs : List V} {us : List Value} {zs : List V} {ws : List Value}, Vals vs us → Vals zs ws → Vals (gV vs zs) (g us ws)
variable {g : List Value → List Value → List Value} {gV : List V → List V → List V}
end

structure FnScope (N P : List Str) (sc : Scope) : Prop where
  kind : sc.kind = .function
  co : sc.isCoroutine = false
  gen : sc.isGenerator = false
  nd : N.Nodup
  pre : N.take P.length = P
  par : ∀ x ∈ P, sc.names.lookup x = some .local ∨ sc.names.lookup x = some .cell
  nofree : ∀ y ∈ sc.names, y.2 ≠ .free

theorem bindL_out {kindOf : Str → Option NameKind} {x : Str} : ∀ {binds : List (Str × Value)} {m : Str → Option Value}, (∀ v, (x, v) ∉ binds) → bindL kindOf binds m x = m x
  | [], _, _ => rfl
  | (n, v) :: r, m, h => by
    unfold bindL
    rw [bindL_out fun w hw => h w (List.mem_cons_of_mem _ hw)]
    split
    · have : x ≠ n := by rintro rfl; exact h v List.mem_cons_self
      simp [this]
    · rfl
theorem bindC_out {kindOf : Str → Option NameKind} {x : Str} : ∀ {binds : List (Str × Value)} {m : Str → Option Value}, (∀ v, (x, v) ∉ binds) → bindC kindOf binds m x = m x
  | [], _, _ => rfl
  | (n, v) :: r, m, h => by
    unfold bindC
    rw [bindC_out fun w hw => h w (List.mem_cons_of_mem _ hw)]
    split
    · rfl
    · have : x ≠ n := by rintro rfl; exact h v List.mem_cons_self
      simp [this]
theorem bindL_get {kindOf : Str → Option NameKind} {x : Str} {v : Value} : ∀ {P : List Str} {vs : List Value} {i : Nat} {m : Str → Option Value}, P.Nodup → P[i]? = some x → vs[i]? = some v → kindOf x = some .local →
    bindL kindOf (P.zip vs) m x = some v
  | [], _, _, _, _, h, _, _ => by simp at h
  | _ :: _, [], _, _, _, _, h, _ => by simp at h
  | p :: P, w :: vs, 0, m, nd, h1, h2, hk => by
    simp at h1 h2; subst h1; subst h2
    show bindL kindOf ((p, w) :: P.zip vs) m p = _
    unfold bindL
    rw [bindL_out fun v hv => (List.nodup_cons.mp nd).1 (List.of_mem_zip hv).1, if_pos hk]
    simp
  | p :: P, w :: vs, i + 1, m, nd, h1, h2, hk => by
    show bindL kindOf ((p, w) :: P.zip vs) m x = _
    unfold bindL
    exact bindL_get (i := i) (List.nodup_cons.mp nd).2 (by simpa using h1) (by simpa using h2) hk
theorem bindC_get {kindOf : Str → Option NameKind} {x : Str} {v : Value} : ∀ {P : List Str} {vs : List Value} {i : Nat} {m : Str → Option Value}, P.Nodup → P[i]? = some x → vs[i]? = some v → kindOf x ≠ some .local →
    bindC kindOf (P.zip vs) m x = some v
  | [], _, _, _, _, h, _, _ => by simp at h
  | _ :: _, [], _, _, _, _, h, _ => by simp at h
  | p :: P, w :: vs, 0, m, nd, h1, h2, hk => by
    simp at h1 h2; subst h1; subst h2
    show bindC kindOf ((p, w) :: P.zip vs) m p = _
    unfold bindC
    rw [bindC_out fun v hv => (List.nodup_cons.mp nd).1 (List.of_mem_zip hv).1, if_neg hk]
    simp
  | p :: P, w :: vs, i + 1, m, nd, h1, h2, hk => by
    show bindC kindOf ((p, w) :: P.zip vs) m x = _
    unfold bindC
    exact bindC_get (i := i) (List.nodup_cons.mp nd).2 (by simpa using h1) (by simpa using h2) hk

def start (N : List Str) (vs : List V) : St := vs.map some ++ List.replicate (N.length - vs.length) none

def cxOf (CX : CXT) (P : Program) (w : World) (K : PySem.W.Frag) (mg : Str → Option Value) (base : Heap) (N : List Str) (qual : Str) (scope : Scope) (f : Addr) (cd : Value) (A : Around) (outer : List Env) (s : Shared) (H : Hp) (E : XK) : Cx where
  prog := P
  w := w
  K := K
  mg := mg
  base := base
  A := A.deeper (envOfC qual scope s.heap.objs.size f cd)
  N := N
  s₀ := s
  H₀ := H
  env := envOfC qual scope s.heap.objs.size f cd
  outer := outer
  stack := envOfC qual scope s.heap.objs.size f cd :: outer
  ex := []
  calm := true
  fn := fun _ => true
  pn := []
  xe := fun e s' => wpAny (model P w) (A.deeper (envOfC qual scope s.heap.objs.size f cd)) (leaving (envOfC qual scope s.heap.objs.size f cd) e) (fun _ s'' => CX outer H s E e s'') (fun e' s'' => CX outer H s E e' s'') s'

theorem cell_has {sc : Scope} {n : Nat} {x : Str} (h : sc.names.lookup x = some .cell) : ∃ c, (cellsFrom n sc.names []).lookup x = some c := by
  have q := PySem.W.cellsFrom_some sc.names n [] (.inl h)
  exact Option.isSome_iff_exists.mp q

theorem inv_start {CX : CXT} {P : Program} {w : World} {K : PySem.W.Frag} {mg : Str → Option Value} {base : Heap} {N ps : List Str} {qual : Str} {scope : Scope} {f : Addr} {cd : Value} {A : Around} {outer : List Env} {s s1 : Shared} {H : Hp} {E : XK} {us : List Value} {vs : List V}
    (S : FnScope N ps scope) (hd : A.handled = none) (e0 : Env0 P w K mg base A outer s H) (hl : vs.length = ps.length) (r : Vals vs us)
    (x : InCallC s s.heap.objs.size (bindL (envOfC qual scope s.heap.objs.size f cd).kindOf (ps.zip us) fun _ => none) (cellsFrom (s.heap.objs.size + 1) scope.names []) (bindC (envOfC qual scope s.heap.objs.size f cd).kindOf (ps.zip us) fun _ => none) s1) :
    Inv (cxOf CX P w K mg base N qual scope f cd A outer s H E) [] (start N vs) H s1 := by
  have hpl : ps.length ≤ N.length := by have := congrArg List.length S.pre; rw [List.length_take] at this; omega
  obtain ⟨h1, tk, rfl, hk⟩ := x.done
  have noA : ∀ b : Addr, b ∉ (cxOf CX P w K mg base N qual scope f cd A outer s H E).ex := fun b z => absurd (show b ∈ ([] : List Addr) from z) (by simp)
  refine ⟨⟨e0.mod, S.kind, rfl, rfl, Nat.le_refl _, fun y z c h1 h2 => ?_, fun y hy => ?_, fun y c _ h => ?_, fun _ => hd, Around.frames_deeper e0.frames, .inr ⟨rfl, rfl⟩, fun b z => absurd z (noA b), e0.bs, e0.bsz, fun b _ _ => noA b, fun b z => absurd z (noA b), e0.funs, e0.frf⟩,
    rfl, e0.bare, Un.kept hk, ⟨_, x.toInCall.ns, fun i y v h1 h2 h3 => ?_⟩, fun y c h => ⟨_, x.cell y c h⟩, e0.hok.fresh (Nat.le_refl _), fun y c h => ?_, fun p hp => absurd (show p ∈ ([] : List (Addr × Obj)) from hp) (by simp), e0.hok.kept hk, ?_⟩
  · exact name_of_addr x.apart (PySem.mem_of_lookup h1) (PySem.mem_of_lookup h2)
  · have hy : scope.names.lookup y = some .cell ∨ scope.names.lookup y = some .free := hy
    rcases hy with hy | hy
    · exact cell_has hy
    · exact absurd rfl (S.nofree _ (PySem.mem_of_lookup hy))
  · exact Nat.le_of_lt (x.above y c (PySem.mem_of_lookup h))
  · have hi : i < vs.length := by
      unfold start at h2
      by_cases hi : i < vs.length
      · exact hi
      · rw [List.getElem?_append_right (by simpa using hi)] at h2
        rw [List.getElem?_replicate] at h2
        split at h2 <;> cases h2
    have ha : vs[i]? = some v := by
      unfold start at h2
      rw [List.getElem?_append_left (by simpa using hi), List.getElem?_map] at h2
      cases e : vs[i]? with
      | none => rw [e] at h2; cases h2
      | some a => rw [e] at h2; cases h2; rfl
    obtain ⟨u, hu, rv⟩ := r.get ha
    have hp : ps[i]? = some y := by
      rw [← S.pre, List.getElem?_take_of_lt (by omega)]; exact h1
    have ndP : ps.Nodup := by rw [← S.pre]; exact S.nd.sublist (List.take_sublist _ _)
    refine ⟨u, rv, ?_⟩
    rcases S.par y (List.mem_of_getElem? hp) with k | k
    · exact .inl ⟨k, bindL_get ndP hp hu k⟩
    · obtain ⟨c, e⟩ := cell_has (n := s.heap.objs.size + 1) k
      refine .inr ⟨.inl k, c, e, ?_⟩
      have q := x.cell y c e
      rw [bindC_get ndP hp hu (by show scope.names.lookup y ≠ _; rw [k]; decide)] at q
      exact q
  · exact e0.hok.fresh (Nat.le_of_lt (x.above y c (PySem.mem_of_lookup h)))
  · unfold start
    show _ = N.length
    rw [List.length_append, List.length_map, List.length_replicate]
    omega

theorem fn_of {CX : CXT} {P : Program} {w : World} {K : PySem.W.Frag} {mg : Str → Option Value} {base : Heap} {k : Nat} {f : Addr} {name qual : Str} {params : Arguments} {body : List Stmt} {scope : Scope} {dV kV doc pm cdv ct oc : Value} {an od : Option Addr}
    {osl : Array (Option Value)} {N ps : List Str} {sp : Sp} (lk : K.lookup f = some ⟨oc, od, .func (PySem.W.fnOf name qual params body scope dV kV doc pm an cdv ct), osl⟩) (hcd : PySem.W.codeIn K cdv qual = true) (S : FnScope N ps scope)
    (len : ∀ vs H Q E, sp vs H Q E → vs.length = ps.length)
    (hbody : ∀ (A : Around) (outer : List Env) (s : Shared) (H : Hp) (vs : List V) (Q : VK) (E : XK), Room k (A.deeper (envOfC qual scope s.heap.objs.size f cdv)) → sp vs H Q E →
      ∃ t, PSs (cxOf CX P w K mg base N qual scope f cdv A outer s H E) body t ∧ t { nx := fun _ H' => Q .non H', rt := Q } (start N vs) H) :
    FnOk P w K mg base CX (k + 1) f (PySem.W.fnOf name qual params body scope dV kV doc pm an cdv ct) ps sp := by
  refine ⟨len, fun A outer s H args us vs Q E hr e0 hb r hsp => ?_⟩
  have hl := len _ _ _ _ hsp
  have KX : K.In s.heap := e0.mod.kin.keeps fun b o e => (e0.bs b o e).1
  have lim : s.heap.NoLimit := e0.mod.nolimit.keeps fun b o e => (e0.bs b o e).1
  have hkind : ∀ y ∈ ps.zip us, scope.names.lookup y.1 = some .local ∨ (scope.names.lookup y.1 = some .cell ∧ ((cellsFrom (s.heap.objs.size + 1) scope.names []).lookup y.1).isSome = true) := fun ⟨n, v⟩ hy => by
    rcases S.par n (List.of_mem_zip hy).1 with q | q
    · exact .inl q
    · exact .inr ⟨q, PySem.W.cellsFrom_some _ _ _ (.inl q)⟩
  refine codeAny_call_function hr.depth (KX _ _ lk) rfl S.co S.gen rfl (PySem.W.codeRec_of KX hcd) (hb _ _ _ _ ?_)
  refine wpAny_newFunctionEnv_cells S.kind hkind fun env he s1 x => ?_
  subst he
  refine ⟨lim.keeps x.toInCall.keep, codeAny_func ?_⟩
  obtain ⟨t, ht, hq⟩ := hbody A outer s H vs Q E (hr.deeper _) hsp
  have I : Inv (cxOf CX P w K mg base N qual scope f cdv A outer s H E) [] (start N vs) H s1 := inv_start S hr.hd e0 hl r x
  refine wpAny_mono (ht [] s1 (start N vs) H _ I hq) (fun fl s' hs => ?_) fun e s' hs => hs
  have fin : ∀ {σ' : St} {H' : Hp} {v : V} {u : Value}, Inv (cxOf CX P w K mg base N qual scope f cdv A outer s H E) [] σ' H' s' → RelV v u → Q v H' → CE outer P w H s Q u s' :=
    fun {σ' H' v u} J rv q => ⟨v, H', J.os, J.bare, J.base, J.hok, rv, q⟩
  cases fl with
  | ret u =>
    obtain ⟨v, σ', H', J, rv, q⟩ := hs
    exact fin J rv q
  | next =>
    obtain ⟨σ', H', J, q⟩ := hs
    exact fin (v := V.non) (u := Value.none) J rfl q
  | brk =>
    obtain ⟨_, _, _, q⟩ := hs
    exact False.elim q
  | cont =>
    obtain ⟨_, _, _, q⟩ := hs
    exact False.elim q
end L2

namespace L2
open PySem PySem.Spec PyProof.Rows
section
variable {X : Cx} {x : Str} {p pos : Pos} {e : Expr} {es : List Expr} {t : TA} {id T : String} {r : List V → Hp → VK → Prop}

def tCB (r : List V → Hp → VK → Prop) (t : TA) : TE := fun σ H Q => t σ H fun vs H1 => r vs H1 Q
theorem pe_callB (hc : CallR X (.builtin id) r) (hg : Gl X x) (hm : X.mg x = none) (hv : bootBuiltins x = some (.builtin id)) (ha : PA X (e :: es) t) (hn : x ≠ "__name__" := by decide) (hdb : (x == ("__debug__" : Str)) = false := by decide)
    (he : starEach (e :: es) X.env = (false, eval e X.env) :: starEach es X.env := by rfl) (hpl : (backTo pos (starEach es X.env)).any (·.1) = false := by rfl) : PE X (.Call (.Name x p) (e :: es) [] pos) (tCB r t) := by
  intro pins s σ H Q I h
  refine wpAny_Call_Name_kw (ld_blt I hg hm hv ?_ hn hdb)
  exact PyProof.Rows.callWith_builtin1 (thn (ha pos pins s σ H _ I h) fun us s1 ⟨vs, H1, I1, r1, q1⟩ => hc pins s1 σ H1 vs us Q I1 r1 q1) he hpl
theorem pe_callTy (hc : CallR X (.type T) r) (hg : Gl X x) (hm : X.mg x = none) (hv : bootBuiltins x = some (.type T)) (ha : PA X (e :: es) t) (hn : x ≠ "__name__" := by decide) (hdb : (x == ("__debug__" : Str)) = false := by decide)
    (he : starEach (e :: es) X.env = (false, eval e X.env) :: starEach es X.env := by rfl) (hpl : (backTo pos (starEach es X.env)).any (·.1) = false := by rfl) : PE X (.Call (.Name x p) (e :: es) [] pos) (tCB r t) := by
  intro pins s σ H Q I h
  refine wpAny_Call_Name_kw (ld_blt I hg hm hv ?_ hn hdb)
  exact PyProof.Rows.callWith_type1 (thn (ha pos pins s σ H _ I h) fun us s1 ⟨vs, H1, I1, r1, q1⟩ => hc pins s1 σ H1 vs us Q I1 r1 q1) he hpl
end
end L2

namespace HT
open PySem PyProof.Rows

section
open PySem.SeqAt
open PySem.AutoSeq1 (wpAny_loadPart')
open PySem.MeetsSeq PySem.MeetsSeq2 PySem.MeetsSeq3

end

section
variable {prog : Program} {w : World} {A : Around} {E : Value → Shared → Prop} {s : Shared}

theorem cat_tup {t b : Addr} {vs ws : List Value} {Q : Value → Shared → Prop} (ht : IsTup s.heap t vs.toArray) (hb : IsTup s.heap b ws.toArray) (hv : vs ≠ [])
    (h1 : ws = [] → Q (.ref t) s) (h2 : ws ≠ [] → Q (.ref s.heap.objs.size) { s with heap := s.heap.push { cls := .type "tuple", data := .seq (vs ++ ws).toArray } })
    (hsz : vs.length + ws.length ≤ sizeLine) : wpAny (model prog w) A (binaryOp .Add (.ref t) (.ref b)) Q E s := by
  obtain ⟨⟨cls, dd, data, sl⟩, ho, hc, n, hd⟩ := id ht
  obtain ⟨⟨cls2, dd2, data2, sl2⟩, ho2, hc2, n2, hd2⟩ := id hb
  simp only at hc hd hc2 hd2
  subst hc hd hc2 hd2
  have e : vs.toArray ++ ws.toArray = (vs ++ ws).toArray := by simp
  by_cases hw : ws = []
  · exact concat_meets ⟨_, ho, rfl⟩ ⟨_, ho2, rfl⟩ noFill_tuple_add seq_tuple_add PySem.F.slot_tuple_add PySem.F.entry_tuple_add (PySem.F.args_tuple_add_2 _ _)
      (tuple_addW1 t b vs.toArray ws.toArray n n2 dd dd2 sl sl2 (by simpa using hv) (by simp [hw])) ⟨ho, ho2, h1 hw⟩
  · refine concat_meets ⟨_, ho, rfl⟩ ⟨_, ho2, rfl⟩ noFill_tuple_add seq_tuple_add PySem.F.slot_tuple_add PySem.F.entry_tuple_add (PySem.F.args_tuple_add_2 _ _)
      (tuple_addW2 t b vs.toArray ws.toArray n n2 dd dd2 sl sl2 (by simpa using hv) (by simpa using hw) (by rw [List.size_toArray, List.size_toArray]; exact hsz)) ⟨ho, ho2, ?_⟩
    rw [e]
    exact h2 hw

def sIx (n d : Nat) : Option Int → Nat
  | none => d
  | some v => if v < 0 then (v + (n : Int)).toNat else min v.toNat n
theorem sIx_none (n d : Nat) : sIx n d none = d := rfl
theorem sIx_nat (n d k : Nat) : sIx n d (some (k : Int)) = min k n := by
  show (if (k : Int) < 0 then ((k : Int) + (n : Int)).toNat else min (k : Int).toNat n) = min k n
  rw [if_neg (by omega), Int.toNat_natCast]
theorem sIx_le (n d : Nat) (hd : d ≤ n) (o : Option Int) : sIx n d o ≤ n := by
  cases o with
  | none => exact hd
  | some v =>
    show (if v < 0 then (v + (n : Int)).toNat else min v.toNat n) ≤ n
    by_cases hv : v < 0
    · rw [if_pos hv]; omega
    · rw [if_neg hv]; exact Nat.min_le_right _ _
theorem clip_eq (v : Int) (n d : Nat) : (if v < 0 then max (v + (n : Int)) 0 else min v (n : Int)) = ((sIx n d (some v) : Nat) : Int) := by
  show (if v < 0 then max (v + (n : Int)) 0 else min v (n : Int)) = (((if v < 0 then (v + (n : Int)).toNat else min v.toNat n) : Nat) : Int)
  by_cases hv : v < 0
  · simp only [if_pos hv]; omega
  · simp only [if_neg hv]; omega
theorem adjust_gen (lo hi : Option Int) (n : Nat) : Builtin.Slice.sliceAdjust lo hi 1 (n : Int) = (((sIx n 0 lo : Nat) : Int), ((sIx n n hi : Nat) : Int)) := by
  have h1 : ¬ ((1 : Int) < 0) := by omega
  unfold Builtin.Slice.sliceAdjust
  simp only [h1, if_false]
  refine Prod.ext ?_ ?_
  · cases lo with
    | none => rfl
    | some v => exact clip_eq v n 0
  · cases hi with
    | none => rfl
    | some v => exact clip_eq v n n
theorem places_gen (i j : Nat) : Builtin.Slice.slicePlaces (i : Int) (j : Int) 1 = j - i := by
  unfold Builtin.Slice.slicePlaces
  have h1 : (1 : Int) > 0 := by omega
  simp only [h1, if_true, Int.ediv_one]
  split <;> omega
theorem slicePart_ {v : Value} {o : Option Int} {Q : Option Int → Shared → Prop} (p : IsPart v o) (h : Q o s) : wpAny (model prog w) A (Builtin.Slice.slicePartIndex v) Q E s := by
  cases p with
  | none => exact slicePart_none h
  | int i t => exact slicePart_int h
theorem sliceApplied_gen {sl : Addr} {vl vu : Value} {lo hi : Option Int} {n : Nat} {Q : Int × Int × Nat → Shared → Prop} (hs : s.heap.IsSliceOf sl vl vu .none) (pl : IsPart vl lo) (pu : IsPart vu hi)
    (h : Q (((sIx n 0 lo : Nat) : Int), 1, sIx n n hi - sIx n 0 lo) s) : wpAny (model prog w) A (Builtin.Slice.sliceApplied (.ref sl) (pure (n : Int))) Q E s := by
  obtain ⟨os, hos, hcs, hds⟩ := id hs
  unfold Builtin.Slice.sliceApplied Builtin.Slice.sliceFields
  refine wpAny_bind (wpAny_bind (wpAny_field hos hds (x := vl) rfl (wpAny_bind (wpAny_field hos hds (x := vu) rfl (wpAny_bind (wpAny_field hos hds (x := .none) rfl (wpAny_pure ?_)))))))
  refine wpAny_bind (slicePart_none ?_)
  show wpAny _ _ (if ((1 : Int) == 0) = true then _ else _) _ _ s
  rw [if_neg (by decide)]
  refine wpAny_bind (slicePart_ pl (wpAny_bind (slicePart_ pu (wpAny_bind (wpAny_pure ?_)))))
  show wpAny _ _ (match Builtin.Slice.sliceAdjust lo hi 1 (n : Int) with | (lo, hi) => pure (lo, (1 : Int), Builtin.Slice.slicePlaces lo hi 1)) _ _ s
  rw [adjust_gen lo hi n]
  show wpAny _ _ (pure (((sIx n 0 lo : Nat) : Int), (1 : Int), Builtin.Slice.slicePlaces ((sIx n 0 lo : Nat) : Int) ((sIx n n hi : Nat) : Int) 1)) _ _ s
  rw [places_gen]
  exact wpAny_pure h
theorem pick_gen (xs : Array Value) (i k : Nat) : ((List.range k).filterMap fun (m : Nat) => xs[((i : Int) + (m : Int) * 1).toNat]?).toArray = ((xs.toList.drop i).take k).toArray := by
  have e : (fun (m : Nat) => xs[((i : Int) + (m : Int) * 1).toNat]?) = fun m => xs[i + m]? := by
    funext m
    have : ((i : Int) + (m : Int) * 1).toNat = i + m := by omega
    rw [this]
  rw [e]
  have := pick_run xs i k
  rw [List.filterMap_map] at this
  have e2 : ((fun x => xs[x]?) ∘ fun x => i + x) = fun m => xs[i + m]? := rfl
  rw [e2] at this
  rw [this]

theorem getItem_tuple_cut {t sl : Addr} {items : Array Value} {vl vu : Value} {lo hi : Option Int} {Q : Value → Shared → Prop} (ht : IsTup s.heap t items) (hs : s.heap.IsSliceOf sl vl vu .none) (pl : IsPart vl lo) (pu : IsPart vu hi)
    (hw : ¬ (sIx items.size 0 lo = 0 ∧ sIx items.size items.size hi = items.size))
    (h : Q (.ref s.heap.objs.size) { s with heap := s.heap.push { cls := .type "tuple", data := .seq ((items.toList.drop (sIx items.size 0 lo)).take (sIx items.size items.size hi - sIx items.size 0 lo)).toArray } })
    (hsz : items.size ≤ sizeLine) : wpAny (model prog w) A (getItem (.ref t) (.ref sl)) Q E s := by
  have htake : sizeOk (.seq ((items.toList.drop (sIx items.size 0 lo)).take (sIx items.size items.size hi - sIx items.size 0 lo)).toArray) := by
    show ((items.toList.drop (sIx items.size 0 lo)).take (sIx items.size items.size hi - sIx items.size 0 lo)).toArray.size ≤ sizeLine
    rw [List.size_toArray, List.length_take, List.length_drop, Array.length_toList]
    omega
  have hj : sIx items.size items.size hi ≤ items.size := sIx_le _ _ (Nat.le_refl _) hi
  obtain ⟨os, hos, hcs, hds⟩ := id hs
  have hTs : s.TypeIs (.ref sl) "slice" := ⟨os, hos, hcs⟩
  unfold getItem
  try with_reducible refine wpAny_holding ?_
  first | refine wpAny_bind (wpAny_pure ?_) | skip
  refine wpAny_bind (wpAny_sequenceKey ht.typeIs (by decide) ?_)
  refine wpAny_bind (wpAny_callSpecial?_slot (name := Str.ofString "__getitem__") ht.typeIs PyProof.Rows.slot_tuple_getitem
    (wpAny_call_entry PyProof.Rows.slot_tuple_getitem ht.typeIs entry_tuple_getitem ?_ (args_tuple_getitem _ _)))
  show wpAny _ _ (Builtin.Tuple.tupleItemsOf (.ref t) >>= _) _ _ s
  refine wpAny_bind (tupleItemsOf_ ht ?_)
  refine wpAny_bind (wpAny_typeOf hTs ?_)
  rw [if_pos (by decide)]
  refine wpAny_bind (sliceApplied_gen hs pl pu ?_)
  have hno : ¬ ((((sIx items.size 0 lo : Nat) : Int) == 0 && (1 : Int) == 1 && (sIx items.size items.size hi - sIx items.size 0 lo) == items.size) = true) := by
    intro q
    rw [Bool.and_eq_true, Bool.and_eq_true] at q
    have q1 : ((sIx items.size 0 lo : Nat) : Int) = 0 := eq_of_beq q.1.1
    have q2 : sIx items.size items.size hi - sIx items.size 0 lo = items.size := eq_of_beq q.2
    exact hw ⟨by omega, by omega⟩
  show wpAny _ _ (if (((sIx items.size 0 lo : Nat) : Int) == 0 && (1 : Int) == 1 && (sIx items.size items.size hi - sIx items.size 0 lo) == items.size) = true then _ else _) _ _ s
  rw [if_neg hno, pick_gen]
  first
    | exact wpAny_bind (m := Builtin.Tuple.tupleExact _) (wpAny_newObj_type (wpAny_pure ⟨_, rfl, wpAny_pure h⟩) htake)
    | exact wpAny_bind (m := Builtin.Tuple.tupleExact _) (wpAny_newObj_type (wpAny_bind (wpAny_pure (wpAny_pure ⟨_, rfl, wpAny_pure h⟩))) htake)
    | exact wpAny_bind (wpAny_bind (m := Builtin.Tuple.tupleExact _) (wpAny_newObj_type (wpAny_pure (wpAny_pure ⟨_, rfl, wpAny_pure h⟩)) htake))
    | exact wpAny_bind (wpAny_bind (m := Builtin.Tuple.tupleExact _) (wpAny_newObj_type (wpAny_pure ⟨_, rfl, wpAny_pure h⟩) htake))
end
end HT

namespace L2
open PySem PySem.Spec PyProof.Rows

abbrev TO := St → Hp → (Option Int → Hp → Prop) → Prop
def PO (X : Cx) (e : Option Expr) (t : TO) : Prop :=
  ∀ (pins : List (Addr × Obj)) (s : Shared) (σ : St) (H : Hp) (Q : Option Int → Hp → Prop), Inv X pins σ H s → t σ H Q →
    wpAny (model X.prog X.w) X.A (evalPart e X.env) (fun u s' => ∃ o H', Inv X pins σ H' s' ∧ IsPart u o ∧ Q o H') X.xe s
def tNoPart : TO := fun _ H Q => Q none H
def tPart (t : TE) : TO := fun σ H Q => t σ H fun x H1 => ∃ i, x = .int i ∧ Q (some i) H1

section
variable {X : Cx} {e : Expr} {te : TE} {lo hi : Option Expr} {tl th : TO} {pos p2 : Pos}

theorem po_none : PO X none tNoPart := by
  intro pins s σ H Q I h
  rw [evalPart_none]
  exact wpAny_pure ⟨none, H, I, .none, h⟩
theorem po_some (h : PE X e te) : PO X (some e) (tPart te) := by
  intro pins s σ H Q I hw
  rw [evalPart_some]
  refine thn (h pins s σ H _ I hw) fun u s1 ⟨x, H1, I1, r1, q1⟩ => ?_
  obtain ⟨i, rfl, q⟩ := q1
  obtain ⟨t, rfl⟩ := r1
  exact ⟨some i, H1, I1, .int i t, q⟩

def SlR (X : Cx) (r : V → Option Int → Option Int → Hp → VK → Prop) : Prop :=
  ∀ (pins : List (Addr × Obj)) (s : Shared) (σ : St) (H : Hp) (x : V) (v vl vu : Value) (lo hi : Option Int) (sl : Addr) (Q : VK), Inv X pins σ H s → RelV x v → s.heap.IsSliceOf sl vl vu .none → IsPart vl lo → IsPart vu hi → r x lo hi H Q →
    ∃ T id, typeLookup (.type T) "__getitem__" = pure (some (.builtin id)) ∧ s.TypeIs v T ∧ wpAny (model X.prog X.w) X.A (getItem v (.ref sl)) (EP X pins σ Q) X.xe s
theorem SlR.or {r r' : V → Option Int → Option Int → Hp → VK → Prop} (h : SlR X r) (h' : SlR X r') : SlR X (fun x lo hi H Q => r x lo hi H Q ∨ r' x lo hi H Q) := by
  intro pins s σ H x v vl vu lo hi sl Q I rx hs pl pu q
  rcases q with q | q
  · exact h pins s σ H x v vl vu lo hi sl Q I rx hs pl pu q
  · exact h' pins s σ H x v vl vu lo hi sl Q I rx hs pl pu q
def tSl (r : V → Option Int → Option Int → Hp → VK → Prop) (te : TE) (tl th : TO) : TE := fun σ H Q => te σ H fun x H1 => tl σ H1 fun l H2 => th σ H2 fun u H3 => r x l u H3 Q
theorem pe_slice {r : V → Option Int → Option Int → Hp → VK → Prop} (hr : SlR X r) (he : PE X e te) (hl : PO X lo tl) (hu : PO X hi th) : PE X (.Subscript e (.Slice lo hi none p2) pos) (tSl r te tl th) := by
  intro pins s σ H Q I h
  refine Subscript_ (thn (he pins s σ H _ I h) fun v s1 ⟨x, H1, I1, r1, q1⟩ => ?_)
  refine wpAny_Slice (thn (hl pins s1 σ H1 _ I1 q1) fun vl s2 ⟨l, H2, I2, pl, q2⟩ => thn (hu pins s2 σ H2 _ I2 q2) fun vu s3 ⟨u, H3, I3, pu, q3⟩ => ?_)
  rw [evalPart_none]
  refine wpAny_pure ?_
  have I4 : Inv X pins σ H3 { s3 with heap := s3.heap.push { cls := .type "slice", data := .fields #[vl, vu, .none] } } := I3.kept (t' := s3.toks) fun b ob q => Heap.get?_push_of_some _ q
  obtain ⟨T, id, hT, ht, hg⟩ := hr pins { s3 with heap := s3.heap.push { cls := .type "slice", data := .fields #[vl, vu, .none] } } σ H3 x v vl vu l u s3.heap.objs.size Q I4 r1 (Heap.IsSliceOf.new ..) pl pu q3
  show wpAny (model X.prog X.w) X.A (subscriptTail e (.Slice lo hi none p2) v (.ref s3.heap.objs.size)) (EP X pins σ Q) X.xe { s3 with heap := s3.heap.push { cls := .type "slice", data := .fields #[vl, vu, .none] } }
  exact tail_any (ops := [.ref s3.heap.objs.size, v]) ht hT hg (by with_unfolding_all rfl)

def cutV (xs : List V) (lo hi : Option Int) : List V := (xs.drop (HT.sIx xs.length 0 lo)).take (HT.sIx xs.length xs.length hi - HT.sIx xs.length 0 lo)
theorem cutV_length (xs : List V) (lo hi : Option Int) : (cutV xs lo hi).length ≤ xs.length := by
  unfold cutV
  rw [List.length_take, List.length_drop]
  omega
def rSlT (K : PySem.W.Frag) : V → Option Int → Option Int → Hp → VK → Prop := fun x lo hi H Q => ∃ a xs, x = .ref a ∧ SqT K H a xs ∧
  ¬ (HT.sIx xs.length 0 lo = 0 ∧ HT.sIx xs.length xs.length hi = xs.length) ∧ ∀ p, H p = none → Q (.ref p) (upd H p (.tup (cutV xs lo hi)))
theorem sl_tup : SlR X (rSlT X.K) := by
  intro pins s σ H x v vl vu lo hi sl Q I rx hs pl pu h
  obtain ⟨a, xs, rfl, hx, hw, q⟩ := h
  cases rx
  obtain ⟨its, r, ht, hz⟩ := I.tuple hx
  have hlen : its.toArray.size = xs.length := by rw [List.size_toArray]; exact r.length.symm
  refine ⟨"tuple", _, PyProof.Rows.slot_tuple_getitem.lookup, ht.typeIs, ?_⟩
  refine HT.getItem_tuple_cut ht hs pl pu (by rw [hlen]; exact hw) ?_ (by rw [hlen]; exact hz)
  rw [hlen]
  refine ⟨.ref s.heap.objs.size, _, I.laid (t' := s.toks) (o := .tup (cutV xs lo hi)) (fun b ob q => Heap.get?_push_of_some _ q) (Nat.le_refl _) ?_, rfl, q _ (I.hok.fresh (Nat.le_refl _))⟩
  exact ⟨Nat.le_trans (cutV_length xs lo hi) hz, _, (r.drop (HT.sIx xs.length 0 lo)).take (HT.sIx xs.length xs.length hi - HT.sIx xs.length 0 lo), IsTup.new _ _, _, Heap.get?_push_size _ rfl, rfl⟩

def rCatT (K : PySem.W.Frag) : R2 := fun x y H Q => ∃ a b xs ys, x = .ref a ∧ y = .ref b ∧ SqT K H a xs ∧ SqT K H b ys ∧ xs ≠ [] ∧ xs.length + ys.length ≤ sizeLine ∧
  (ys = [] → Q (.ref a) H) ∧ (ys ≠ [] → ∀ p, H p = none → Q (.ref p) (upd H p (.tup (xs ++ ys))))
theorem Vals.nil_iff {xs : List V} {us : List Value} (r : Vals xs us) : us = [] ↔ xs = [] := by
  cases r with
  | nil => simp
  | cons _ _ => simp
theorem op_catT : OpR X (binaryOp .Add) (rCatT X.K) := by
  intro pins s σ H x y v u Q I rx ry h
  obtain ⟨a, b, xs, ys, rfl, rfl, ha, hb, hx, hz, q1, q2⟩ := h
  cases rx
  cases ry
  obtain ⟨its, r1, p1, _⟩ := I.tuple ha
  obtain ⟨its2, r2, p2, _⟩ := I.tuple hb
  refine HT.cat_tup p1 p2 (fun z => hx (r1.nil_iff.mp z)) (fun z => ⟨.ref a, H, I, rfl, q1 (r2.nil_iff.mp z)⟩) (fun z => ?_) (by rw [← r1.length, ← r2.length]; exact hz)
  refine ⟨.ref s.heap.objs.size, _, I.laid (t' := s.toks) (o := .tup (xs ++ ys)) (fun b ob q => Heap.get?_push_of_some _ q) (Nat.le_refl _) ?_, rfl, q2 (fun w => z (r2.nil_iff.mpr w)) _ (I.hok.fresh (Nat.le_refl _))⟩
  exact ⟨by rw [List.length_append]; exact hz, _, r1.append r2, IsTup.new _ _, _, Heap.get?_push_size _ rfl, rfl⟩
end
end L2

namespace L2
open PySem PySem.Spec PyProof.Rows

def ixN (n : Nat) (i : Int) : Option Nat := if 0 ≤ i then (if i < n then some i.toNat else none) else if -(n : Int) ≤ i then some (i + n).toNat else none
def atI {α : Type} (xs : List α) (i : Int) : Option α := (ixN xs.length i).bind fun j => xs[j]?
theorem ixN_seq {n : Nat} {i : Int} {j : Nat} (h : ixN n i = some j) : seqIndex? i n = some j ∧ j < n ∧ -(n : Int) ≤ i ∧ i < n := by
  unfold ixN at h
  by_cases h0 : 0 ≤ i
  · rw [if_pos h0] at h
    by_cases h1 : i < n
    · rw [if_pos h1] at h
      have e : i.toNat = j := Option.some.inj h
      exact ⟨by rw [seqIndex_of h0 h1, e], by omega, by omega, h1⟩
    · rw [if_neg h1] at h; cases h
  · rw [if_neg h0] at h
    by_cases h1 : -(n : Int) ≤ i
    · rw [if_pos h1] at h
      have e : (i + n).toNat = j := Option.some.inj h
      exact ⟨by rw [seqIndex_neg (by omega) h1, e], by omega, h1, by omega⟩
    · rw [if_neg h1] at h; cases h
theorem atI_get {α : Type} {xs : List α} {i : Int} {v : α} (h : atI xs i = some v) : ∃ j, seqIndex? i xs.length = some j ∧ xs[j]? = some v ∧ j < xs.length ∧ -(xs.length : Int) ≤ i ∧ i < xs.length := by
  unfold atI at h
  cases e : ixN xs.length i with
  | none => rw [e] at h; cases h
  | some j =>
    rw [e] at h
    obtain ⟨h1, h2, h3, h4⟩ := ixN_seq e
    exact ⟨j, h1, h, h2, h3, h4⟩
theorem atI_nat {α : Type} {xs : List α} {j : Nat} {v : α} (h : xs[j]? = some v) : atI xs (j : Int) = some v := by
  have hj : j < xs.length := (List.getElem?_eq_some_iff.mp h).1
  have e : ixN xs.length (j : Int) = some j := by
    unfold ixN
    rw [if_pos (by omega), if_pos (by omega)]; simp
  unfold atI; rw [e]; exact h
def PlainIx (b : Expr) : Prop := ∀ o i, subscripted b false o i = operate [o, i] (getItem o i)
def IxR (X : Cx) (r : R2) : Prop :=
  ∀ (value slice : Expr) (pins : List (Addr × Obj)) (s : Shared) (σ : St) (H : Hp) (x y : V) (v u : Value) (Q : VK), Inv X pins σ H s → RelV x v → RelV y u → r x y H Q →
    subscripted slice false v u = operate [v, u] (getItem v u) → wpAny (model X.prog X.w) X.A (subscriptTail value slice v u) (EP X pins σ Q) X.xe s
def MtR (X : Cx) (id : String) (r : V → List V → Hp → VK → Prop) : Prop :=
  ∀ (pins : List (Addr × Obj)) (s : Shared) (σ : St) (H : Hp) (x : V) (xs : List V) (v : Value) (us : List Value) (Q : VK), Inv X pins σ H s → RelV x v → Vals xs us → r x xs H Q →
    wpAny (model X.prog X.w) X.A (call (.builtin id) (v :: us)) (EP X pins σ Q) X.xe s
section
variable {X : Cx} {a b : Expr} {ta tb : TE} {pos : Pos}
theorem IxR.or {r r' : R2} (h : IxR X r) (h' : IxR X r') : IxR X (fun x y H Q => r x y H Q ∨ r' x y H Q) := by
  intro value slice pins s σ H x y v u Q I rx ry q hs
  rcases q with q | q
  · exact h value slice pins s σ H x y v u Q I rx ry q hs
  · exact h' value slice pins s σ H x y v u Q I rx ry q hs
theorem MtR.or {id : String} {r r' : V → List V → Hp → VK → Prop} (h : MtR X id r) (h' : MtR X id r') : MtR X id (fun x xs H Q => r x xs H Q ∨ r' x xs H Q) := by
  intro pins s σ H x xs v us Q I rx rs q
  rcases q with q | q
  · exact h pins s σ H x xs v us Q I rx rs q
  · exact h' pins s σ H x xs v us Q I rx rs q
theorem pe_ix {r : R2} (hr : IxR X r) (ha : PE X a ta) (hb : PE X b tb) (hs : PlainIx b) : PE X (.Subscript a b pos) (tOp r ta tb) := by
  intro pins s σ H Q I h
  exact Subscript_ (binT ha hb I h fun v u s2 x y H2 I2 rx ry q => hr a b pins s2 σ H2 x y v u Q I2 rx ry q (hs _ _))

def rIxL (K : PySem.W.Frag) : R2 := fun x y H Q => ∃ p xs i v, x = .ref p ∧ y = .int i ∧ SqL K H p xs ∧ atI xs i = some v ∧ Q v H
def rIxT (K : PySem.W.Frag) : R2 := fun x y H Q => ∃ p xs i v, x = .ref p ∧ y = .int i ∧ SqT K H p xs ∧ atI xs i = some v ∧ Q v H
def rIxS : R2 := fun x y H Q => ∃ z i c, x = .str z ∧ y = .int i ∧ z.length ≤ sizeLine ∧ atI z.cps.toList i = some c ∧ Q (.str ⟨#[c]⟩) H
theorem ix_list : IxR X (rIxL X.K) := by
  intro value slice pins s σ H x y v u Q I rx ry h hs
  obtain ⟨p, xs, i, z, rfl, rfl, hq, he, q⟩ := h
  cases rx
  obtain ⟨t, rfl⟩ := ry
  obtain ⟨its, r, pl, hz⟩ := I.list hq
  obtain ⟨j, h1, h2, h3, h4, h5⟩ := atI_get he
  obtain ⟨w, ew, rw'⟩ := r.get h2
  have hl := r.length
  have hn := line63
  have fin : EP X pins σ Q w s := ⟨z, H, I, rw', q⟩
  by_cases h0 : 0 ≤ i
  · have hj : i.toNat = j := by
      rw [seqIndex_of h0 h5] at h1
      exact Option.some.inj h1
    exact item_listR pl.isList h0 (by omega) (by rw [hj]; simpa using ew) fin hs
  · have hj : (i + (its.toArray.size : Int)).toNat = j := by
      rw [seqIndex_neg (by omega) h4] at h1
      rw [List.size_toArray, ← hl]
      exact Option.some.inj h1
    exact subscriptTail_builtinR (x := w) pl.isList.typeIs slot_list_getitem.lookup
      (wpAny_getItem_list_neg (Q := fun r s' => r = w ∧ EP X pins σ Q r s') pl.isList (by omega) (by rw [List.size_toArray] <;> omega) (by omega) (by rw [hj]; simpa using ew) ⟨rfl, fin⟩) hs
theorem ix_tup : IxR X (rIxT X.K) := by
  intro value slice pins s σ H x y v u Q I rx ry h hs
  obtain ⟨p, xs, i, z, rfl, rfl, hq, he, q⟩ := h
  cases rx
  obtain ⟨t, rfl⟩ := ry
  obtain ⟨its, r, pl, hz⟩ := I.tuple hq
  obtain ⟨j, h1, h2, h3, h4, h5⟩ := atI_get he
  obtain ⟨w, ew, rw'⟩ := r.get h2
  have hl := r.length
  have hn := line63
  have fin : EP X pins σ Q w s := ⟨z, H, I, rw', q⟩
  exact subscriptTail_builtinR (x := w) pl.typeIs slot_tuple_getitem.lookup
    (getItem_tuple (j := j) (Q := fun r s' => r = w ∧ EP X pins σ Q r s') pl (by omega) (by omega) (by rw [List.size_toArray, ← hl]; exact h1) (by simpa using ew) ⟨rfl, fin⟩) hs
theorem ix_str : IxR X rIxS := by
  intro value slice pins s σ H x y v u Q I rx ry h hs
  obtain ⟨z, i, c, rfl, rfl, hz, he, q⟩ := h
  obtain ⟨t, rfl⟩ := rx
  obtain ⟨t', rfl⟩ := ry
  obtain ⟨j, h1, h2, h3, h4, h5⟩ := atI_get he
  have hl : z.cps.toList.length = z.length := by simp [Str.length]
  rw [hl] at h1 h4 h5
  have hn := line63
  exact tail_any (typeIs_str s z t) slot_str_getitem.lookup (getItem_str (c := c) (by
    have e1 : decide (i < -(2 ^ 63 : Int)) = false := decide_eq_false (by omega)
    have e2 : decide (i ≥ 2 ^ 63) = false := decide_eq_false (by omega)
    rw [e1, e2, Bool.or_false]) (by rw [h1]; simpa using h2) ⟨.str ⟨#[c]⟩, H, I.tok _, ⟨_, rfl⟩, q⟩) hs
def rIx (K : PySem.W.Frag) : R2 := fun x y H Q => rIxL K x y H Q ∨ rIxT K x y H Q ∨ rIxS x y H Q
theorem mapSeq_set (its : List Value) (n j : Nat) (u : Value) : Obj.mapSeq (·.setIfInBounds j u) { cls := .type "list", data := .seq its.toArray n } = { cls := .type "list", data := .seq (its.set j u).toArray n } := by
  simp [Obj.mapSeq]
theorem Inv.lst {pins : List (Addr × Obj)} {σ : St} {H : Hp} {s : Shared} {p : Addr} {xs : List V} (I : Inv X pins σ H s) (h : H p = some (.lst xs)) :
    ∃ (its : List Value) (n : Nat), Vals xs its ∧ s.heap.get? p = some { cls := .type "list", data := .seq its.toArray n } ∧ xs.length ≤ sizeLine := by
  obtain ⟨z, its, n, r, e⟩ := I.hok p _ h
  exact ⟨its, n, r, e, z⟩
theorem Inv.lstUpd {pins : List (Addr × Obj)} {σ : St} {H : Hp} {s : Shared} {p : Addr} {xs ys : List V} {its its' : List Value} {n n' : Nat} {f : Obj → Obj} (I : Inv X pins σ H s) (h : H p = some (.lst xs))
    (ho : s.heap.get? p = some { cls := .type "list", data := .seq its.toArray n }) (hf : f { cls := .type "list", data := .seq its.toArray n } = { cls := .type "list", data := .seq its'.toArray n' }) (r : Vals ys its') (hz : ys.length ≤ sizeLine) (t : Nat) :
    Inv X pins σ (upd H p (.lst ys)) { s with heap := s.heap.update p f, toks := t } := by
  have e : (s.heap.update p f).get? p = some { cls := .type "list", data := .seq its'.toArray n' } := by
    rw [Heap.get?_update_self f ho (by rw [hf] <;> rfl), hf]
  refine I.write (x := p) (e := p) (by rw [h]; trivial) (.inl rfl) (fun b u hb q => (Heap.get?_update_other _ _ (Ne.symm hb)).trans q) ⟨_, e⟩ ?_
  exact ⟨hz, its', n', r, e⟩
def rSetL : V → V → V → Hp → (Hp → Prop) → Prop := fun o i v H Q => ∃ p xs k j, o = .ref p ∧ i = .int k ∧ H p = some (.lst xs) ∧ ixN xs.length k = some j ∧ Q (upd H p (.lst (xs.set j v)))
theorem set_list : PSet X rSetL := by
  intro pins s σ H o i v ov iv u Q I ro ri rv h
  obtain ⟨p, xs, k, j, rfl, rfl, hp, hj, q⟩ := h
  cases ro
  obtain ⟨t, rfl⟩ := ri
  obtain ⟨its, n, r, ho, hz⟩ := I.lst hp
  obtain ⟨h1, h2, h3, h4⟩ := ixN_seq hj
  have hl := r.length
  have hn := line63
  have I' : Inv X pins σ (upd H p (.lst (xs.set j v))) { s with heap := s.heap.update p (Obj.mapSeq (·.setIfInBounds j u)) } :=
    I.lstUpd hp ho (mapSeq_set its n j u) (r.set rv j) (by rw [List.length_set]; exact hz) s.toks
  by_cases h0 : 0 ≤ k
  · have hk : k.toNat = j := by
      rw [seqIndex_of h0 h4] at h1
      exact Option.some.inj h1
    exact PySem.W.ki_setAt ho h0 (by omega) (by rw [List.size_toArray, ← hl]; exact h4) (by rw [hk]; exact ⟨_, I', q⟩)
  · have hk : (k + (its.toArray.size : Int)).toNat = j := by
      rw [seqIndex_neg (by omega) h3] at h1
      rw [List.size_toArray, ← hl]
      exact Option.some.inj h1
    exact PySem.W.ki_setBack ho (by omega) (by rw [List.size_toArray, ← hl]; exact h3) (by omega) (by rw [hk]; exact ⟨_, I', q⟩)

theorem slice_bounds (lo hi : Option Int) (n : Nat) : (sliceBounds lo hi none n).1 = ((HT.sIx n 0 lo : Nat) : Int) ∧ (sliceBounds lo hi none n).2.1 = ((HT.sIx n n hi : Nat) : Int) ∧ (sliceBounds lo hi none n).2.2 = 1 := by
  refine ⟨?_, ?_, rfl⟩
  · cases lo with
    | none => simp [sliceBounds, HT.sIx]
    | some i =>
      simp only [sliceBounds, HT.sIx, Option.getD_none, show (1 : Int) > 0 by decide, if_true]
      by_cases h : i < 0
      · simp only [h, if_true] <;> omega
      · simp only [h, if_false] <;> omega
  · cases hi with
    | none => simp [sliceBounds, HT.sIx]
    | some i =>
      simp only [sliceBounds, HT.sIx, Option.getD_none, show (1 : Int) > 0 by decide, if_true]
      by_cases h : i < 0
      · simp only [h, if_true] <;> omega
      · simp only [h, if_false] <;> omega
theorem slicePick_cut (its : List Value) (lo hi : Option Int) : slicePick its.toArray lo hi none = ((its.drop (HT.sIx its.length 0 lo)).take (HT.sIx its.length its.length hi - HT.sIx its.length 0 lo)).toArray := by
  obtain ⟨h1, h2, h3⟩ := slice_bounds lo hi its.toArray.size
  unfold slicePick
  rw [h1, h2, h3]
  simp only [sliceRange_one, pick_run, List.size_toArray] <;> rfl
def rSlL (K : PySem.W.Frag) : V → Option Int → Option Int → Hp → VK → Prop := fun x lo hi H Q => ∃ a xs, x = .ref a ∧ SqL K H a xs ∧ ∀ p, H p = none → Q (.ref p) (upd H p (.lst (cutV xs lo hi)))
theorem sl_list : SlR X (rSlL X.K) := by
  intro pins s σ H x v vl vu lo hi sl Q I rx hs pl pu h
  obtain ⟨a, xs, rfl, hx, q⟩ := h
  cases rx
  obtain ⟨its, r, ht, hz⟩ := I.list hx
  have hlen := r.length
  refine ⟨"list", _, slot_list_getitem.lookup, ht.isList.typeIs, ?_⟩
  refine wpAny_getItem_list_slice ht.isList hs pl pu .none (by simp) ?_ (by rw [List.size_toArray] <;> omega)
  rw [slicePick_cut, ← hlen]
  refine ⟨.ref s.heap.objs.size, _, I.laid (t' := s.toks) (o := .lst (cutV xs lo hi)) (fun b ob q => Heap.get?_push_of_some _ q) (Nat.le_refl _) ?_, rfl, q _ (I.hok.fresh (Nat.le_refl _))⟩
  exact ⟨Nat.le_trans (cutV_length xs lo hi) hz, _, 0, (r.drop (HT.sIx xs.length 0 lo)).take (HT.sIx xs.length xs.length hi - HT.sIx xs.length 0 lo), Heap.get?_push_size _ rfl⟩

def flatV : V → Bool
  | .non => true
  | .bl _ => true
  | .int _ => true
  | .str _ => true
  | _ => false
def eqV : V → V → Bool
  | .non, .non => true
  | .bl a, .bl b => a == b
  | .bl a, .int b => (if a then 1 else 0) == b
  | .int a, .bl b => a == (if b then 1 else 0)
  | .int a, .int b => a == b
  | .str a, .str b => a == b
  | _, _ => false
theorem eqAt_V {A : Around} {s : Shared} {y x : V} {u v : Value} (ry : RelV y u) (rx : RelV x v) (fy : flatV y = true) (fx : flatV x = true) : SeqAt.EqAt A s u v (eqV y x) := by
  cases y with
  | non =>
    cases ry
    cases x with
    | non => cases rx; exact SeqAt.EqAt.same _
    | bl b => cases rx; exact SeqAt.EqAt.none_bool b
    | int b => obtain ⟨t, rfl⟩ := rx; exact SeqAt.EqAt.none_int b t
    | str b => obtain ⟨t, rfl⟩ := rx; exact SeqAt.EqAt.none_str b t
    | _ => exact absurd (show false = true from fx) Bool.false_ne_true
  | bl a =>
    cases ry
    cases x with
    | non => cases rx; exact SeqAt.EqAt.bool_none a
    | bl b => cases rx; exact SeqAt.EqAt.bool_bool a b
    | int b => obtain ⟨t, rfl⟩ := rx; exact SeqAt.EqAt.bool_int a b t
    | str b => obtain ⟨t, rfl⟩ := rx; exact SeqAt.EqAt.bool_str a b t
    | _ => exact absurd (show false = true from fx) Bool.false_ne_true
  | int a =>
    obtain ⟨t', rfl⟩ := ry
    cases x with
    | non => cases rx; exact SeqAt.EqAt.int_none a t'
    | bl b => cases rx; exact SeqAt.EqAt.int_bool a t' b
    | int b => obtain ⟨t, rfl⟩ := rx; exact SeqAt.EqAt.int_int a t' b t
    | str b => obtain ⟨t, rfl⟩ := rx; exact SeqAt.EqAt.int_str a t' b t
    | _ => exact absurd (show false = true from fx) Bool.false_ne_true
  | str a =>
    obtain ⟨t', rfl⟩ := ry
    cases x with
    | non => cases rx; exact SeqAt.EqAt.str_none a t'
    | bl b => cases rx; exact SeqAt.EqAt.str_bool a t' b
    | int b => obtain ⟨t, rfl⟩ := rx; exact SeqAt.EqAt.str_int a t' b t
    | str b => obtain ⟨t, rfl⟩ := rx; exact SeqAt.EqAt.str_str a t' b t
    | _ => exact absurd (show false = true from fx) Bool.false_ne_true
  | _ => exact absurd (show false = true from fy) Bool.false_ne_true
def eqU (x : V) (u : Value) : Bool := match u with
  | .none => eqV .non x
  | .bool b => eqV (.bl b) x
  | .int i _ => eqV (.int i) x
  | .str z _ => eqV (.str z) x
  | _ => false
theorem eqU_of {x y : V} {u : Value} (r : RelV y u) (f : flatV y = true) : eqU x u = eqV y x := by
  cases y with
  | non => cases r; rfl
  | bl b => cases r; rfl
  | int i => obtain ⟨t, rfl⟩ := r; rfl
  | str z => obtain ⟨t, rfl⟩ := r; rfl
  | _ => exact absurd (show false = true from f) Bool.false_ne_true
theorem any_eqU {x : V} : ∀ {xs : List V} {us : List Value}, Vals xs us → xs.all flatV = true → us.any (eqU x) = xs.any fun y => eqV y x
  | _, _, .nil, _ => rfl
  | y :: xs, u :: us, .cons r t, f => by
    rw [List.all_cons, Bool.and_eq_true] at f
    rw [List.any_cons, List.any_cons, eqU_of r f.1, any_eqU t f.2]
theorem mem_eqAt {A : Around} {s : Shared} {x : V} {v : Value} (rx : RelV x v) (fx : flatV x = true) : ∀ {xs : List V} {us : List Value}, Vals xs us → xs.all flatV = true → ∀ u ∈ us, SeqAt.EqAt A s u v (eqU x u)
  | _, _, .nil, _ => fun u hu => by cases hu
  | y :: xs, u :: us, .cons r t, f => fun u' hu => by
    rw [List.all_cons, Bool.and_eq_true] at f
    rcases List.mem_cons.mp hu with rfl | hu
    · rw [eqU_of r f.1]; exact eqAt_V r rx f.1 fx
    · exact mem_eqAt rx fx t f.2 u' hu
def inV (x : V) (xs : List V) : Bool := xs.any fun y => eqV y x
def rIn (K : PySem.W.Frag) (neg : Bool) : R2 := fun x y H Q => ∃ p xs, y = .ref p ∧ (SqL K H p xs ∨ SqT K H p xs) ∧ flatV x = true ∧ xs.all flatV = true ∧ Q (.bl (if neg then !inV x xs else inV x xs)) H
theorem op_notIn_seq : OpR X (compareOp .NotIn) (rIn X.K true) := by
  intro pins s σ H x y v u Q I rx ry h
  obtain ⟨p, xs, rfl, hq, fx, fs, q⟩ := h
  cases ry
  rcases hq with hq | hq
  · obtain ⟨its, r, pl, hz⟩ := I.list hq
    refine SeqAt.notIn_listAt (eqU x) pl.isList (fun w hw => mem_eqAt rx fx r fs w (by simpa using hw)) ⟨.bl _, H, I, rfl, ?_⟩
    rw [show its.toArray.any (eqU x) = its.any (eqU x) by simp, any_eqU r fs]
    exact q
  · obtain ⟨its, r, pl, hz⟩ := I.tuple hq
    refine SeqAt.notIn_tupleAt (eqU x) pl (fun w hw => mem_eqAt rx fx r fs w (by simpa using hw)) ⟨.bl _, H, I, rfl, ?_⟩
    rw [show its.toArray.any (eqU x) = its.any (eqU x) by simp, any_eqU r fs]
    exact q
theorem call_len_seq : CallR X (.builtin "len") (fun xs H Q => ∃ p ys, xs = [.ref p] ∧ (SqL X.K H p ys ∨ SqT X.K H p ys) ∧ Q (.int ys.length) H) := by
  intro pins s σ H xs us Q I r h
  obtain ⟨p, ys, rfl, hq, q⟩ := h
  obtain ⟨u, rfl, rx⟩ := vals1 r
  cases rx
  have hn := line63
  rcases hq with hq | hq
  · obtain ⟨its, r', pl, hz⟩ := I.list hq
    have hlen := r'.length
    exact Calls.call_len_list pl.isList (by simp only [List.size_toArray] <;> omega) ⟨.int ys.length, H, I.tok _, ⟨s.toks + 1, by rw [List.size_toArray, hlen]⟩, q⟩
  · obtain ⟨its, r', pl, hz⟩ := I.tuple hq
    have hlen := r'.length
    exact len_tuple pl (by simp only [List.size_toArray] <;> omega) ⟨.int ys.length, H, I.tok _, ⟨s.toks + 1, by rw [List.size_toArray, hlen]⟩, q⟩
theorem call_len_str : CallR X (.builtin "len") (fun xs H Q => ∃ z, xs = [.str z] ∧ z.length ≤ sizeLine ∧ Q (.int z.length) H) := by
  intro pins s σ H xs us Q I r h
  obtain ⟨z, rfl, hz, q⟩ := h
  obtain ⟨u, rfl, t, rfl⟩ := vals1 r
  have hn := line63
  exact len_str (by omega) ⟨.int z.length, H, I.tok _, ⟨_, rfl⟩, q⟩
theorem CallR.or {f : Value} {r r' : List V → Hp → VK → Prop} (h : CallR X f r) (h' : CallR X f r') : CallR X f (fun xs H Q => r xs H Q ∨ r' xs H Q) := by
  intro pins s σ H xs us Q I rs q
  rcases q with q | q
  · exact h pins s σ H xs us Q I rs q
  · exact h' pins s σ H xs us Q I rs q
theorem call_list_of : CallR X (.type "list") (fun xs H Q => ∃ p ys, xs = [.ref p] ∧ (SqL X.K H p ys ∨ SqT X.K H p ys) ∧ ∀ l, H l = none → Q (.ref l) (upd H l (.lst ys))) := by
  intro pins s σ H xs us Q I r h
  obtain ⟨p, ys, rfl, hq, q⟩ := h
  obtain ⟨u, rfl, rx⟩ := vals1 r
  cases rx
  have fin : ∀ (its : List Value), Vals ys its → ys.length ≤ sizeLine → ∀ (h' : Heap) (c' : Nat), (∀ b o', s.heap.get? b = some o' → h'.get? b = some o') →
      h'.get? s.heap.objs.size = some { cls := .type "list", dict := none, data := .seq its.toArray c', slots := #[] } → EP X pins σ Q (.ref s.heap.objs.size) { s with heap := h' } := fun its r' hz h' c' kp e =>
    ⟨.ref s.heap.objs.size, _, I.laid (t' := s.toks) kp (Nat.le_refl _) (show ObjOk X.prog X.w _ h' _ (.lst ys) from ⟨hz, its, c', r', e⟩), rfl, q _ (I.hok.fresh (Nat.le_refl _))⟩
  rcases hq with hq | hq
  · obtain ⟨its, r', pl, hz⟩ := I.list hq
    have hlen := r'.length
    obtain ⟨o, ho, hc, n, hd⟩ := pl.isList
    exact call_list_seq p (.inl rfl) ho hc hd (fun h' c' kp e => fin its r' hz h' c' kp e) (by simp only [List.size_toArray] <;> omega)
  · obtain ⟨its, r', pl, hz⟩ := I.tuple hq
    have hlen := r'.length
    obtain ⟨o, ho, hc, n, hd⟩ := pl
    exact call_list_seq p (.inr rfl) ho hc hd (fun h' c' kp e => fin its r' hz h' c' kp e) (by simp only [List.size_toArray] <;> omega)
theorem call_tuple_of : CallR X (.type "tuple") (fun xs H Q => ∃ p ys, xs = [.ref p] ∧ ((SqL X.K H p ys ∧ ∀ l, H l = none → Q (.ref l) (upd H l (.tup ys))) ∨ (SqT X.K H p ys ∧ Q (.ref p) H))) := by
  intro pins s σ H xs us Q I r h
  obtain ⟨p, ys, rfl, h⟩ := h
  obtain ⟨u, rfl, rx⟩ := vals1 r
  cases rx
  rcases h with ⟨hq, q⟩ | ⟨hq, q⟩
  · obtain ⟨its, r', pl, hz⟩ := I.list hq
    have hlen := r'.length
    refine call_tuple_list pl.isList (fun h' kp => ?_) (by simp only [List.size_toArray] <;> omega)
    have I1 : Inv X pins σ H { s with heap := h' } := I.kept (t' := s.toks) kp
    have I2 : Inv X pins σ (upd H h'.objs.size (.tup ys)) { s with heap := h'.push { cls := .type "tuple", data := .seq its.toArray } } :=
      I1.laid (t' := s.toks) (fun b o e => Heap.get?_push_of_some _ e) (Nat.le_refl _) (show ObjOk X.prog X.w _ _ _ (.tup ys) from ⟨hz, its, r', IsTup.new _ _, _, Heap.get?_push_size _ rfl, rfl⟩)
    exact ⟨.ref h'.objs.size, _, I2, rfl, q _ (I1.hok.fresh (Nat.le_refl _))⟩
  · obtain ⟨its, r', pl, hz⟩ := I.tuple hq
    exact call_tuple_same pl ⟨.ref p, H, I, rfl, q⟩

def tyV (K : PySem.W.Frag) (T : String) (x : V) (H : Hp) : Prop := match x with
  | .str _ => T = "str"
  | .int _ => T = "int"
  | .ref p => (T = "list" ∧ ∃ xs, SqL K H p xs) ∨ (T = "tuple" ∧ ∃ o, K.lookup p = some o ∧ o.cls = .type "tuple" ∧ o.dict = none) ∨
      (T = "dict" ∧ ((∃ kvs, H p = some (.dK kvs)) ∨ ∃ kvs, H p = some (.dT kvs))) ∨ (T = "set" ∧ ∃ S n, H p = some (.set S n))
  | _ => False
theorem tyV_is {pins : List (Addr × Obj)} {σ : St} {H : Hp} {s : Shared} {T : String} {x : V} {v : Value} (I : Inv X pins σ H s) (r : RelV x v) (ty : tyV X.K T x H) :
    s.TypeIs v T ∧ ∀ a, v = .ref a → ∃ ob, s.heap.get? a = some ob ∧ ob.dict = none := by
  cases x with
  | str z =>
    obtain ⟨t, rfl⟩ := r
    cases (show T = "str" from ty)
    exact ⟨typeIs_str s z t, fun _ e => nomatch e⟩
  | int i =>
    obtain ⟨t, rfl⟩ := r
    cases (show T = "int" from ty)
    exact ⟨typeIs_int s i t, fun _ e => nomatch e⟩
  | ref p =>
    cases r
    rcases ty with ⟨rfl, xs, hq⟩ | ⟨rfl, o, hk, hc, hd⟩ | ⟨rfl, hk⟩ | ⟨rfl, S, n, hk⟩
    · obtain ⟨its, _, pl, _⟩ := I.list hq
      refine ⟨pl.isList.typeIs, fun a e => ?_⟩
      cases e
      obtain ⟨o, n, e, c, hd, _⟩ := pl
      exact ⟨o, e, hd⟩
    · refine ⟨⟨o, I.kIn p o hk, hc⟩, fun a e => ?_⟩
      cases e
      exact ⟨o, I.kIn _ o hk, hd⟩
    · have z : ∃ o, s.heap.get? p = some o ∧ o.ExactDict := by
        rcases hk with ⟨kvs, hk⟩ | ⟨kvs, hk⟩
        · obtain ⟨_, _, _, _, o, _, _, e, ex, _⟩ := I.hok p _ hk
          exact ⟨o, e, ex⟩
        · obtain ⟨_, _, _, _, o, _, _, e, ex, _⟩ := I.hok p _ hk
          exact ⟨o, e, ex⟩
      obtain ⟨o, e, ex⟩ := z
      refine ⟨⟨o, e, ex.1⟩, fun a e2 => ?_⟩
      cases e2
      exact ⟨o, e, ex.2.1⟩
    · obtain ⟨o, _, _, _, e, ex, _⟩ := I.hok p _ hk
      refine ⟨⟨o, e, ex.1⟩, fun a e2 => ?_⟩
      cases e2
      exact ⟨o, e, ex.2.1⟩
  | _ => exact False.elim ty
def tBM0 (K : PySem.W.Frag) (T : String) (r : V → List V → Hp → VK → Prop) (to : TE) : TE := fun σ H Q => to σ H fun x H1 => tyV K T x H1 ∧ r x [] H1 Q
def tBM (K : PySem.W.Frag) (T : String) (r : V → List V → Hp → VK → Prop) (to : TE) (t : TA) : TE := fun σ H Q => to σ H fun x H1 => tyV K T x H1 ∧ t σ H1 fun xs H2 => r x xs H2 Q
variable {o e : Expr} {es : List Expr} {to : TE} {t : TA} {name : Str} {apos cpos : Pos} {T id : String} {r : V → List V → Hp → VK → Prop}
theorem pe_bm0 (pa : PlainAttrs T) (slot : Slot T name id) (hty : typeOf (.builtin id) = pure (.type "method_descriptor")) (hm : MtR X id r) (ho : PE X o to)
    (hbase : attributeBase o name X.env (eval o X.env) = eval o X.env := by rfl) (hline : (apos.endLine == cpos.line) = true := by rfl) : PE X (.Call (.Attribute o name apos) [] [] cpos) (tBM0 X.K T r to) := by
  intro pins s σ H Q I h
  refine wpAny_Call_method0_late hbase hline (thn (ho pins s σ H _ I h) fun v s1 ⟨x, H1, I1, r1, ty, q1⟩ => ?_)
  obtain ⟨h1, h2⟩ := tyV_is I1 r1 ty
  exact ⟨T, id, pa, slot, hty, h1, h2, Calls.callWith_builtin rfl (PySem.evalArgs_none (hm pins s1 σ H1 x [] v [] Q I1 r1 .nil q1))⟩
theorem pe_bm (pa : PlainAttrs T) (slot : Slot T name id) (hty : typeOf (.builtin id) = pure (.type "method_descriptor")) (hm : MtR X id r) (ho : PE X o to) (ha : PA X (e :: es) t)
    (hbase : attributeBase o name X.env (eval o X.env) = eval o X.env := by rfl)
    (hfew : ((backTo cpos (starEach (e :: es) X.env)).all (fun x => !x.1) && (backToKw cpos (keywordEach [] X.env)).all (fun x => x.1.isSome)
      && decide ((e :: es).length + ([] : List Keyword).length + (if ([] : List Keyword).isEmpty then 0 else 1) < 30)) = true := by rfl)
    (hline : (apos.endLine == cpos.line) = true := by rfl) (hs : starEach (e :: es) X.env = (false, eval e X.env) :: starEach es X.env := by rfl) (hplain : (backTo cpos (starEach es X.env)).any (·.1) = false := by rfl) :
    PE X (.Call (.Attribute o name apos) (e :: es) [] cpos) (tBM X.K T r to t) := by
  intro pins s σ H Q I h
  refine wpAny_Call_method_late hbase hfew hline rfl (thn (ho pins s σ H _ I h) fun v s1 ⟨x, H1, I1, r1, ty, q1⟩ => ?_)
  obtain ⟨h1, h2⟩ := tyV_is I1 r1 ty
  refine ⟨T, id, pa, slot, hty, h1, h2, ?_⟩
  have hA := ha cpos pins s1 σ H1 _ I1 q1
  rw [hs] at hA ⊢
  refine Calls.callWith_builtin (by show (false || (backTo cpos (starEach es X.env)).any (·.1)) = false; rw [hplain] <;> rfl) (Calls.evalArgs_plain ?_)
  exact thn hA fun us s2 ⟨vs, H2, I2, r2, q2⟩ => hm pins s2 σ H2 x vs v us Q I2 r1 r2 q2
end
end L2

namespace L2
open PySem PySem.Spec PyProof.Rows

def MtM (X : Cx) (id : String) (r : V → List V → Hp → VK → Prop) : Prop :=
  ∀ (pins : List (Addr × Obj)) (s : Shared) (σ : St) (H : Hp) (x : V) (xs : List V) (v : Value) (us : List Value) (Q : VK), Inv X pins σ H s → RelV x v → Vals xs us → r x xs H Q →
    wpAny (model X.prog X.w) X.A (call (.builtin id) (v :: us)) (EP X pins σ Q) X.xe s

theorem Vals.one : ∀ {x : V} {us : List Value}, Vals [x] us → ∃ u, us = [u] ∧ RelV x u
  | _, _, .cons r .nil => ⟨_, rfl, r⟩
theorem Vals.zero : ∀ {us : List Value}, Vals [] us → us = []
  | _, .nil => rfl
theorem Vals.dropLast {xs : List V} {us : List Value} (h : Vals xs us) : Vals xs.dropLast us.dropLast := by
  induction h with
  | nil => exact .nil
  | cons r t ih =>
    cases t with
    | nil => exact .nil
    | cons q t' => exact .cons r ih
theorem Vals.eraseIdx : ∀ {xs : List V} {us : List Value} (i : Nat), Vals xs us → Vals (xs.eraseIdx i) (us.eraseIdx i)
  | _, _, _, .nil => .nil
  | _, _, 0, .cons _ t => t
  | _, _, i + 1, .cons r t => .cons r (Vals.eraseIdx i t)
theorem Vals.reverse {xs : List V} {us : List Value} (h : Vals xs us) : Vals xs.reverse us.reverse := by
  induction h with
  | nil => exact .nil
  | cons r t ih => rw [List.reverse_cons, List.reverse_cons]; exact Vals.append ih (.cons r .nil)
theorem Vals.rep {xs : List V} {us : List Value} (h : Vals xs us) : ∀ k : Nat, Vals (List.replicate k xs).flatten (List.replicate k us).flatten
  | 0 => .nil
  | k + 1 => by
    rw [List.replicate_succ, List.replicate_succ, List.flatten_cons, List.flatten_cons]
    exact Vals.append h (Vals.rep h k)
theorem erase_last {α : Type} (l : List α) : l.eraseIdx (l.length - 1) = l.dropLast := by
  induction l with
  | nil => rfl
  | cons a r ih =>
    cases r with
    | nil => rfl
    | cons b r =>
      have e : (a :: b :: r).length - 1 = ((b :: r).length - 1) + 1 := by
        have h1 : (a :: b :: r).length = r.length + 2 := rfl
        have h2 : (b :: r).length = r.length + 1 := rfl
        omega
      rw [e, List.eraseIdx_cons_succ, ih]
      all_goals rfl
theorem foldl_rep (its : List Value) : ∀ (k : Nat) (acc : List Value),
    List.foldl (fun x1 x2 => x1 ++ x2) acc.toArray (List.replicate k its.toArray) = (acc ++ (List.replicate k its).flatten).toArray
  | 0, acc => by simp
  | k + 1, acc => by
    have e : acc.toArray ++ its.toArray = (acc ++ its).toArray := by simp
    have e2 : (acc ++ its) ++ (List.replicate k its).flatten = acc ++ (List.replicate (k + 1) its).flatten := by
      rw [List.replicate_succ, List.flatten_cons, List.append_assoc]
    rw [← e2, ← foldl_rep its k (acc ++ its), ← e, List.replicate_succ, List.foldl_cons]

section
variable {X : Cx} {pins : List (Addr × Obj)} {σ : St} {H : Hp} {s : Shared} {l b : Addr} {xs ys zs : List V}

theorem Inv.lset {its its' : List Value} {n : Nat} {f : Array Value → Array Value} {t' : Nat} (I : Inv X pins σ H s) (hH : H l = some (.lst xs))
    (e : s.heap.get? l = some { cls := .type "list", data := .seq its.toArray n }) (hf : f its.toArray = its'.toArray) (hv : Vals ys its') (hz : ys.length ≤ sizeLine) :
    Inv X pins σ (upd H l (.lst ys)) { s with heap := s.heap.update l (Obj.mapSeq f), toks := t' } := by
  have q := PySem.IsL.update e f
  rw [hf] at q
  refine I.write (x := l) (e := l) (by rw [hH]; exact trivial) (.inl rfl) (fun b' u hb hu => (Heap.get?_update_other s.heap (Obj.mapSeq f) (Ne.symm hb)).trans hu) ⟨_, q⟩ ?_
  exact ⟨hz, its', _, hv, q⟩
theorem Inv.lnew {its : List Value} {t' : Nat} (I : Inv X pins σ H s) (hv : Vals ys its) (hz : ys.length ≤ sizeLine) :
    Inv X pins σ (upd H s.heap.objs.size (.lst ys)) { s with heap := s.heap.push { cls := .type "list", data := .seq its.toArray }, toks := t' } :=
  I.laid (fun _ _ q => Heap.get?_push_of_some _ q) (Nat.le_refl _) ⟨hz, its, 0, hv, Heap.get?_push_size _ rfl⟩
theorem Inv.fresh (I : Inv X pins σ H s) : H s.heap.objs.size = none := I.hok.fresh (Nat.le_refl _)
theorem Inv.lstM (I : Inv X pins σ H s) (hH : H l = some (.lst xs)) : xs.length ≤ sizeLine ∧ ∃ (its : List Value) (n : Nat), Vals xs its ∧ xs.length = its.length ∧ s.heap.get? l = some { cls := .type "list", data := .seq its.toArray n } := by
  obtain ⟨z, its, n, r, e⟩ := I.hok l _ hH
  exact ⟨z, its, n, r, r.length, e⟩

theorem notLongL {n : Nat} (h : n ≤ sizeLine) : Builtin.List.listTooLong n = false := by
  unfold Builtin.List.listTooLong
  exact decide_eq_false (by omega)
end

section
variable {X : Cx}

def rAppend : V → List V → Hp → VK → Prop := fun x vs H Q => ∃ l xs y, x = .ref l ∧ vs = [y] ∧ H l = some (.lst xs) ∧ xs.length < sizeLine ∧ Q .non (upd H l (.lst (xs ++ [y])))
theorem mt_append : MtM X "list.append" rAppend := by
  intro pins s σ H x vs v us Q I rx rv h
  obtain ⟨l, xs, y, rfl, rfl, hH, hz, q⟩ := h
  cases rx
  obtain ⟨u, rfl, ru⟩ := rv.one
  obtain ⟨z, its, n, r, hl, e⟩ := I.lstM hH
  refine call_meets F.slot_list_append ⟨_, e, rfl⟩ F.entry_list_append (F.args_list_append_2 _ _) (PySem.list_append l its.toArray n u (by rw [List.size_toArray]; omega)) ⟨e, ?_⟩
  refine ⟨.non, _, I.lset (its' := its ++ [u]) hH e (by simp) (r.append (.cons ru .nil)) ?_, rfl, q⟩
  rw [List.length_append, List.length_singleton]
  omega

def rPop : V → List V → Hp → VK → Prop := fun x vs H Q => ∃ l xs y, x = .ref l ∧ vs = [] ∧ H l = some (.lst xs) ∧ xs[xs.length - 1]? = some y ∧ Q y (upd H l (.lst xs.dropLast))
theorem mt_pop : MtM X "list.pop" rPop := by
  intro pins s σ H x vs v us Q I rx rv h
  obtain ⟨l, xs, y, rfl, rfl, hH, hy, q⟩ := h
  cases rx
  have hus := rv.zero
  subst hus
  obtain ⟨z, its, n, r, hl, e⟩ := I.lstM hH
  obtain ⟨u, hu, ru⟩ := r.get hy
  have hy' : its.toArray[its.toArray.size - 1]? = some u := by
    show its.toArray[its.length - 1]? = some u
    rw [← Array.getElem?_toList, ← hl]
    exact hu
  refine call_meets F.slot_list_pop ⟨_, e, rfl⟩ F.entry_list_pop (F.args_list_pop_1 _) (MeetsSeq.list_pop_last l its.toArray n u hy' (by rw [List.size_toArray]; omega)) ⟨e, ?_⟩
  refine ⟨y, _, I.lset (its' := its.dropLast) hH e ?_ r.dropLast ?_, ru, q⟩
  · show its.toArray.eraseIdxIfInBounds (its.toArray.size - 1) = its.dropLast.toArray
    rw [List.size_toArray, List.eraseIdxIfInBounds_toArray, erase_last]
  · rw [List.length_dropLast]
    omega

def rReverse : V → List V → Hp → VK → Prop := fun x vs H Q => ∃ l xs, x = .ref l ∧ vs = [] ∧ H l = some (.lst xs) ∧ Q .non (upd H l (.lst xs.reverse))
def rRep : R2 := fun x y H Q => ∃ l k xs, x = .ref l ∧ y = .int k ∧ H l = some (.lst xs) ∧ -(2 ^ 63) ≤ k ∧ k < 2 ^ 63 ∧ xs.length * k.toNat ≤ sizeLine ∧
  ∀ p, H p = none → Q (.ref p) (upd H p (.lst (List.replicate k.toNat xs).flatten))
theorem len_rep {α : Type} (xs : List α) (k : Nat) : (List.replicate k xs).flatten.length = k * xs.length := by
  induction k with
  | zero => simp
  | succ k ih => rw [List.replicate_succ, List.flatten_cons, List.length_append, ih, Nat.succ_mul, Nat.add_comm]
theorem op_rep : OpR X (binaryOp .Mult) rRep := by
  intro pins s σ H x y v u Q I rx ry h
  obtain ⟨l, k, xs, rfl, rfl, hH, h1, h2, hz, q⟩ := h
  cases rx
  obtain ⟨t, rfl⟩ := ry
  obtain ⟨z, its, n, r, hl, e⟩ := I.lstM hH
  have hlen : its.toArray.size * k.toNat ≤ sizeLine := by rw [List.size_toArray, ← hl]; exact hz
  have hcap : ¬ its.toArray.size * k.toNat > (2 ^ 63 - 1) / 8 := by
    have : (sizeLine : Nat) ≤ (2 ^ 63 - 1) / 8 := by decide
    omega
  have hfit : ¬ (!Builtin.List.listFitsIndex k) = true := by
    rw [fitsIndex_both h1 h2]
    exact Bool.false_ne_true
  have hlong : ¬ Builtin.List.listTooLong (its.toArray.size * k.toNat) = true := by
    rw [notLongL hlen]
    exact Bool.false_ne_true
  have hnew : List.foldl (fun x1 x2 => x1 ++ x2) #[] (List.replicate (if its.toArray.isEmpty = true then 0 else k.toNat) its.toArray) = (List.replicate k.toNat its).flatten.toArray := by
    have f0 : ∀ m : Nat, List.foldl (fun x1 x2 => x1 ++ x2) #[] (List.replicate m its.toArray) = (List.replicate m its).flatten.toArray := fun m => by
      have := foldl_rep its m []
      rw [List.nil_append] at this
      exact this
    rw [f0]
    cases its with
    | nil => simp
    | cons a r' => rw [if_neg (by simp)]
  refine wpAny_binaryOp_repeat_ref (T := "list") (U := "int") (by decide) ⟨_, e, rfl⟩ (fun s' => typeIs_int s' k t) noFill_list_mul F.fills_int_mul F.slot_int_rmul repeat_list F.slot_int_index.lookup
    (call_meets F.slot_int_rmul (typeIs_int s k t) F.entry_int_rmul (F.args_int_rmul_2 _ _) (int___rmul___int_list k t l its.toArray n)
      ⟨e, rfl, ⟨_, e, rfl⟩, call_meets F.slot_list_mul ⟨_, e, rfl⟩ F.entry_list_mul (F.args_list_mul_2 _ _) (AutoListH.list___mul___list_int_3 l its.toArray n k t hfit hcap hlong) ⟨e, ?_⟩⟩)
  rw [hnew]
  exact ⟨.ref _, _, I.lnew (t' := s.toks) (r.rep k.toNat) (by rw [len_rep, Nat.mul_comm]; exact hz), rfl, q _ I.fresh⟩

end

section
variable {prog : Program} {w : World} {A : Around} {E : Value → Shared → Prop} {s : Shared}
end

section
variable {X : Cx}
end
end L2

namespace Att
open PySem PySem.W PySem.Calls PyProof.Rows

theorem ints_of_wellAll {P : Params} {h : Heap} : ∀ (ns : List Int) (vs : List Value), WellAll P h vs (ns.map WData.int) → IntsAre vs ns := by
  intro ns
  induction ns with
  | nil =>
    intro vs w
    rw [List.map_nil] at w
    cases w
    exact .nil
  | cons n ns ih =>
    intro vs w
    rw [List.map_cons] at w
    cases w with
    | cons a b =>
      cases a
      exact .cons _ _ (ih _ b)

theorem script_of {l : OpenLaw} {n : Nat} (hn : l.most = some n) {P : Params} {h : Heap} {args : List WData} {vals : List Value}
    (hpre : l.row.toRowW.claim.pre args = true) (hwl : WellAll P h vals args) :
    ∃ a vs ns, vals = [Value.ref a] ∧ args = [WData.list (ns.map WData.int)] ∧ h.get? a = some { cls := .type "list", data := .seq vs.toArray } ∧ IntsAre vs ns ∧ ns.length ≤ n := by
  have hsh : WShape.hasAll [] args [.list .int] = true := (pre_splitW hpre).1
  have hc : l.pre.holds [] { args := args } = true := (pre_splitW hpre).2
  obtain ⟨d, r, rfl, h1, h2⟩ := hasAllW_cons hsh
  obtain rfl := hasAllW_nil h2
  obtain ⟨xs, rfl, h3⟩ := hasW_list h1
  obtain ⟨ns, rfl⟩ := items_int h3
  have hlen : ns.length ≤ n := by
    unfold OpenLaw.pre at hc
    have h4 : (WTm.not (.lt (.lit (.int (n : Int))) (.len (.arg 0)))).holds [] { args := [.list (ns.map .int)] } = true := by
      have h4 := (holds_andW hc).1
      rw [hn] at h4
      exact h4
    have h5 := condW_of h4 (w_not (w_lt w_lit (w_len_list (w_arg rfl))))
    rw [List.length_map] at h5
    refine Nat.le_of_not_lt fun q => ?_
    have q' : (n : Int) < ((ns.length : Nat) : Int) := by omega
    first
      | (rw [decide_eq_true q'] at h5; exact absurd h5 (by decide))
      | (simp at h5; omega)
  cases hwl with
  | cons w1 w2 =>
    cases w2
    cases w1 with
    | list ho hall => exact ⟨_, _, ns, rfl, rfl, ho, ints_of_wellAll ns _ hall, hlen⟩

theorem post_true (l : OpenLaw) (args : List WData) : l.row.toRowW.claim.post args (.bool true) args = true :=
  postW_of (r := l.row.toRowW) (X := (true == true))
    (show WShape.has [] (.bool true) .bool = true by first | rfl | decide | simp [WShape.has, WShape.arms, WShape.armsAll])
    (show (WTm.eq .res (.lit (.bool true))).value [] { args := args, res := some (.bool true), after := args } = some (.bool (true == true)) from w_eq_bool (w_res rfl) w_lit) rfl

theorem attach_call {l : OpenLaw} {n : Nat} {q : Program} {loose : List Str} {XP : (Str → Option Value) → Heap → Prop} {YP : World → Heap → Prop} {d : DefRec}
    (hn : l.most = some n) (hdf : d.params.defaults = [])
    (call : ∀ (w : World) (s₀ s₁ : Shared) (mg mb : Str → Option Value) (fa : Addr) (o : Obj) (pm cd doc : Value) (a : Addr) (vs : List Value) (ns : List Int),
      Ground q loose [] XP w s₀ mg mb s₁.heap → YP w s₁.heap →
      s₁.heap.get? fa = some o → o.data = .func (docDef d.name d.params d.body d.scope pm cd doc) → s₁.heap.CodeRec cd d.name → mg d.name = some (.ref fa) →
      s₁.heap.get? a = some { cls := .type "list", data := .seq vs.toArray } → IntsAre vs ns → ns.length ≤ n → s₁.gens = #[] →
      codeAny (model l.prog w) callerA (.call (.ref fa) ⟨[.ref a], []⟩) (fun r s' => r = .ok (.ret (.bool true)) ∧ OldK s₁.heap s'.heap ∧ s'.os = s₁.os ∧ AllBare s'.gens) s₁) :
    WalkO q loose XP YP l.row.toRowW d [] (fun f vs => PySem.call f vs) := by
  intro w s₀ s₁ mg mb G Y fa o pm cd doc dV kV ho hd hcd hD hmg hg args vals as hpre hlay hrd hwl hlo
  obtain rfl : dV = .none := Dflts.none hD hdf
  obtain rfl : kV = .none := Dflts.noKw hD
  obtain ⟨a, vs, ns, rfl, rfl, hobj, hints, hlen⟩ := script_of hn hpre hwl
  refine enter_call (codeAny_mono (call w s₀ s₁ mg mb fa o pm cd doc a vs ns G Y ho (fd_plain hd) hcd hmg hobj hints hlen hg) fun r s' hq => ?_)
  obtain ⟨rfl, h2, h3, h4⟩ := hq
  exact ⟨.inl ⟨.bool true, .bool true, [], rfl, fun _ => rfl, .bool true, post_true l _, fun _ => ⟨List.Pairwise.nil, fun _ hm => (nomatch hm)⟩⟩, h2, h3, h4⟩

section
variable {prog : Program} {w : World} {A : Around} {E : Value → Shared → Prop} {s : Shared} {K : Frag}

end
end Att

namespace L2
open PySem PySem.Spec PyProof.Rows

theorem vals_ints : ∀ {vs : List Value} {ns : List Int}, IntsAre vs ns → Vals (ns.map V.int) vs
  | _, _, .nil => .nil
  | _, _, .cons n t h => .cons ⟨t, rfl⟩ (vals_ints h)

def Only (H : Hp) : Prop := ∀ b, H b = none ∨ ∃ o xs, H b = some (.frz o (.lst xs))

theorem law_call {P : Program} {w : World} {K : PySem.W.Frag} {mg mb : Str → Option Value} {CX : CXT} {k : Nat} {fa a : Addr} {fd : FuncData} {x : Str} {sp : Sp} {s₁ : Shared} {vs : List Value} {ns : List Int}
    (KX : K.In s₁.heap) (hns : s₁.heap.Ns mainGlobals mg) (hb : s₁.heap.Ns builtinsNs mb) (hbb : ∀ x : Str, x ≠ "__name__" → mb x = bootBuiltins x) (hlim : s₁.heap.NoLimit) (hg : s₁.gens = #[])
    (ha : s₁.heap.get? a = some { cls := .type "list", data := .seq vs.toArray }) (hi : IntsAre vs ns) (hl : ns.length ≤ sizeLine) (hr : Room k callerA)
    (F : ∀ base : Heap, K.In base → base.Ns mainGlobals mg → FnOk P w K mg base CX k fa fd [x] sp) (hbind : ∀ (s : Shared) (u : Value), BindsTo s fd ⟨[u], []⟩ [(x, u)])
    (hsp : ∀ H : Hp, Only H → SqL K H a (ns.map V.int) → sp [.ref a] H (fun v _ => v = .bl true) fun _ _ _ => False)
    (hCX : ∀ H e s', CX [] H s₁ (fun _ _ _ => False) e s' → False) :
    codeAny (model P w) callerA (.call (.ref fa) ⟨[.ref a], []⟩) (fun r s' => r = .ok (.ret (.bool true)) ∧ OldK s₁.heap s'.heap ∧ s'.os = s₁.os ∧ AllBare s'.gens) s₁ := by
  have rv := vals_ints hi
  have lenV := hi.length
  -- from an abstract heap in which nothing but the script may be tracked
  have core : ∀ H : Hp, Only H → SqL K H a (ns.map V.int) → HOk P w H s₁.heap → (∀ b, H b ≠ none → b = a) → (H a ≠ none → K.lookup a = none) →
      codeAny (model P w) callerA (.call (.ref fa) ⟨[.ref a], []⟩) (fun r s' => r = .ok (.ret (.bool true)) ∧ OldK s₁.heap s'.heap ∧ s'.os = s₁.os ∧ AllBare s'.gens) s₁ := by
    intro H hO hS hok hA hK
    have base_of : ∀ {b : Addr} {o : Obj}, s₁.heap.get? b = some o → H b = none → (hidT s₁.heap H).get? b = some o := fun e n => hidT_get e n
    have noA : ∀ {b : Addr} {o : Obj} {es : Array DictEntry} {ep : Nat}, s₁.heap.get? b = some o → o.data = .dict es ep → H b = none := fun {b o es ep} e d => by
      cases q : H b with
      | none => rfl
      | some u =>
        have e' : b = a := hA b (by rw [q]; simp)
        subst e'
        rw [ha] at e; cases e
        have d' : Data.seq vs.toArray _ = Data.dict es ep := d
        cases d'
    have nsK : ∀ {b : Addr} {m : Str → Option Value}, s₁.heap.Ns b m → (hidT s₁.heap H).Ns b m := fun {b m} ⟨o, es, ep, e, d, r⟩ => ⟨o, es, ep, base_of e (noA e d), d, r⟩
    have hKb : K.In (hidT s₁.heap H) := fun b o e => base_of (KX b o e) (by
      cases q : H b with
      | none => rfl
      | some u =>
        have e' : b = a := hA b (by rw [q]; simp)
        subst e'
        rw [hK (by rw [q]; simp)] at e; cases e)
    have hM : Mod K mg (hidT s₁.heap H) := ⟨hKb, nsK hns, ⟨mb, nsK hb, hbb⟩, let ⟨mc, h1, h2⟩ := hlim; ⟨mc, nsK h1, h2⟩⟩
    have e0 : Env0 P w K mg (hidT s₁.heap H) callerA [] s₁ H := ⟨rfl, hM, fun b o e => of_hidT e, Nat.le_of_eq (hidT_size _ _), trivial, fun b hb => absurd (show b ∈ ([] : List Addr) from hb) (by simp), hok, .of_eq hg⟩
    refine codeAny_mono ((F _ hKb (nsK hns)).run callerA [] s₁ H ⟨[.ref a], []⟩ [.ref a] [.ref a] _ _ hr e0 (hbind s₁ (.ref a)) (.cons rfl .nil) (hsp H hO hS)) fun r s' h => ?_
    cases r with
    | error e => exact (hCX H e s' h).elim
    | ok fl =>
      cases fl with
      | next => exact False.elim h
      | brk => exact False.elim h
      | cont => exact False.elim h
      | ret u =>
        obtain ⟨v, H', os, bare, un, hok', r', q⟩ := h
        have q' : v = .bl true := q
        subst q'
        obtain rfl : u = Value.bool true := r'
        refine ⟨rfl, OldK.of_keep fun b o e => ?_, os, bare⟩
        cases q : H b with
        | none => exact un.keep b o e q (by intro z; exact absurd (show b ∈ ([] : List Addr) from z) (by simp)) (by simp)
        | some u =>
          rcases hO b with z | ⟨ob, xs, z⟩
          · rw [q] at z; cases z
          · have z2 := un.frzs b ob _ z
            obtain ⟨e1, _⟩ := hok b _ z
            obtain ⟨e2, _⟩ := hok' b _ z2
            rw [e] at e1; cases e1
            exact e2
  cases hk : K.lookup a with
  | some o =>
    -- the script is one of the module's own objects
    have e := KX a o hk
    rw [ha] at e
    cases e
    refine core (fun _ => none) (fun _ => .inl rfl) (.inr ⟨_, vs.toArray, _, hk, rfl, rfl, rfl, by rw [List.size_toArray, lenV]; exact hl, by simpa using rv⟩) (fun b u z => by have z' : (none : Option HO) = some u := z; cases z') (fun b z => absurd rfl z) fun z => absurd rfl z
  | none =>
    refine core (fun b => if b = a then some (.frz { cls := .type "list", data := .seq vs.toArray } (.lst (ns.map V.int))) else none) (fun b => ?_) (.inl (.inr ⟨{ cls := .type "list", data := .seq vs.toArray }, if_pos rfl⟩)) (fun b u z => ?_) (fun b z => ?_) fun _ => hk
    · by_cases hb : b = a
      · exact .inr ⟨_, _, if_pos hb⟩
      · exact .inl (if_neg hb)
    · by_cases hb : b = a
      · have z' := (if_pos hb).symm.trans z
        cases z'
        subst hb
        exact ⟨ha, by rw [List.length_map]; exact hl, vs, _, rv, ha⟩
      · have z' := (if_neg hb).symm.trans z
        cases z'
    · by_cases hb : b = a
      · exact hb
      · exact absurd (if_neg hb) z
end L2

namespace L2
open PySem PySem.Spec PyProof.Rows

theorem walk_of {l : PySem.W.OpenLaw} {n k : Nat} {q : Program} {loose : List Str} {XP : (Str → Option Value) → Heap → Prop} {YP : World → Heap → Prop} {d : DefRec} {K : Params → PySem.W.Frag} {CX : World → CXT} {sp : World → Sp} {x : Str}
    (hn : l.most = some n) (hn2 : n ≤ sizeLine) (hdf : d.params.defaults = []) (hr : Room k callerA)
    (hY : ∀ (w : World) (h : Heap), YP w h → (K w.params).In h)
    (F : ∀ (w : World) (mg : Str → Option Value) (fa : Addr) (h : Heap), (K w.params).In h → h.Ns mainGlobals mg → mg d.name = some (.ref fa) →
      ∃ fd : FuncData, (∀ (s : Shared) (u : Value), BindsTo s fd ⟨[u], []⟩ [(x, u)]) ∧
        ∀ base : Heap, (K w.params).In base → base.Ns mainGlobals mg → FnOk l.prog w (K w.params) mg base (CX w) k fa fd [x] (sp w))
    (hsp : ∀ (w : World) (H : Hp) (a : Addr) (ns : List Int), ns.length ≤ n → Only H → SqL (K w.params) H a (ns.map V.int) → sp w [.ref a] H (fun v _ => v = .bl true) fun _ _ _ => False)
    (hCX : ∀ (w : World) (H : Hp) (s : Shared) (e : Value) (s' : Shared), CX w [] H s (fun _ _ _ => False) e s' → False) :
    PySem.W.WalkO q loose XP YP l.row.toRowW d [] (fun f vs => PySem.call f vs) := by
  refine Att.attach_call hn hdf fun w s₀ s₁ mg mb fa o pm cd doc a vs ns G Y ho hd hcd hmg hobj hints hlen hg => ?_
  have KX := hY w _ Y
  obtain ⟨fd, hb, hF⟩ := F w mg fa _ KX G.T.g hmg
  exact law_call KX G.T.g G.T.b G.T.builtins G.T.nolimit hg hobj hints (Nat.le_trans hlen hn2) hr hF hb (fun H hO hS => hsp w H a ns hlen hO hS) fun H e s' => hCX w H s₁ e s'
end L2


namespace L2
open PySem PySem.Spec PyProof.Rows

def defArgs (s : Stmt) : Arguments := match s with
  | .FunctionDef _ a _ _ _ _ _ _ _ _ => a
  | _ => { posonlyargs := [], args := [], vararg := none, kwonlyargs := [], kw_defaults := [], kwarg := none, defaults := [] }
def defBody (s : Stmt) : List Stmt := match s with
  | .FunctionDef _ _ b _ _ _ _ _ _ _ => b
  | _ => []
def defScope (s : Stmt) : Scope := match s with
  | .FunctionDef _ _ _ _ _ _ sc _ _ _ => sc
  | _ => { kind := .function, names := [], isGenerator := false, isCoroutine := false }

abbrev CX0 : CXT := fun _ _ _ _ _ _ => False
abbrev E0 : XK := fun _ _ _ => False
theorem pass0 {X : Cx} : Passes CX0 X E0 := fun _ _ _ _ _ _ _ h => h.elim

structure Fun (K : PySem.W.Frag) (x qual : Str) (st : Stmt) (f : Addr) (fd : FuncData) : Prop where
  ex : ∃ (oc : Value) (od : Option Addr) (kV doc pm : Value) (an : Option Addr) (cdv ct : Value) (osl : Array (Option Value)),
    fd = PySem.W.fnOf x qual (defArgs st) (defBody st) (defScope st) .none kV doc pm an cdv ct ∧ K.lookup f = some ⟨oc, od, .func fd, osl⟩ ∧ PySem.W.codeIn K cdv qual = true
  kp : PySem.W.keepIn K (.ref f) = true
section
variable {P : Program} {w : World} {K : PySem.W.Frag} {mg : Str → Option Value} {base : Heap}
theorem Fun.ok {x qual : Str} {st : Stmt} {f : Addr} {fd : FuncData} {N ps : List Str} {k : Nat} {sp : Sp} (F : Fun K x qual st f fd) (S : FnScope N ps (defScope st)) (len : ∀ vs H Q E, sp vs H Q E → vs.length = ps.length)
    (hbody : ∀ (cdv : Value) (A : Around) (outer : List Env) (s : Shared) (H : Hp) (vs : List V) (Q : VK) (E : XK), Room k (A.deeper (envOfC qual (defScope st) s.heap.objs.size f cdv)) → sp vs H Q E →
      ∃ t, PSs (cxOf CX0 P w K mg base N qual (defScope st) f cdv A outer s H E).nox (defBody st) t ∧ t { nx := fun _ H' => Q .non H', rt := Q } (start N vs) H) : FnOk P w K mg base CX0 (k + 1) f fd ps sp := by
  obtain ⟨oc, od, kV, doc, pm, an, cdv, ct, osl, rfl, lk, hcd⟩ := F.ex
  refine fn_of lk hcd S len fun A outer s H vs Q E hr hsp => ?_
  obtain ⟨t, h, q⟩ := hbody cdv A outer s H vs Q E hr hsp
  exact ⟨t, h.nox, q⟩
theorem Fun.binds {x qual : Str} {st : Stmt} {f : Addr} {fd : FuncData} {ps : List Str} (F : Fun K x qual st f fd)
    (h : ∀ (kV doc pm : Value) (an : Option Addr) (cdv ct : Value) (us : List Value), us.length = ps.length → bindArgs (PySem.W.fnOf x qual (defArgs st) (defBody st) (defScope st) .none kV doc pm an cdv ct) ⟨us, []⟩ = pure (ps.zip us)) : Binds K fd ps [] := by
  obtain ⟨oc, od, kV, doc, pm, an, cdv, ct, osl, rfl, lk, hcd⟩ := F.ex
  exact .all (h kV doc pm an cdv ct)
theorem fun_mk {x qual : Str} {st : Stmt} {f : Addr} {oc : Value} {od an : Option Addr} {osl : Array (Option Value)} {kV doc pm cdv ct : Value} (l : K.lookup f = some ⟨oc, od, .func (PySem.W.fnOf x qual (defArgs st) (defBody st) (defScope st) .none kV doc pm an cdv ct), osl⟩)
    (c : PySem.W.codeIn K cdv qual = true) (k : PySem.W.keepIn K (.ref f) = true) : Fun K x qual st f (PySem.W.fnOf x qual (defArgs st) (defBody st) (defScope st) .none kV doc pm an cdv ct) := ⟨⟨oc, od, kV, doc, pm, an, cdv, ct, osl, rfl, l, c⟩, k⟩
end
theorem hu_of {A : Around} {k : Nat} (hr : Room k A) : A.units + 1 < cLine := Nat.lt_of_le_of_lt (Nat.add_le_add_left (by decide : 1 ≤ 64) _) hr.units
section
variable {X : Cx}
theorem pv (i : Nat) {x : Str} {pos : Pos} (hN : X.N[i]? = some x := by rfl) (hv : Vis X.env.scope x := by first | exact Or.inl rfl | exact Or.inr (Or.inl rfl) | exact Or.inr (Or.inr rfl)) (hd : (x == ("__debug__" : Str)) = false := by decide)
    (hcd : (x == ("__classdict__" : Str)) = false := by decide) : PE X (.Name x pos) (tVar i) := pe_var hN hv hd hcd
end

def Same (H H' : Hp) : Prop := ∀ b o, H b = some o → H' b = some o
theorem Same.refl (H : Hp) : Same H H := fun _ _ h => h
theorem Same.trans {H H1 H2 : Hp} (a : Same H H1) (b : Same H1 H2) : Same H H2 := fun c o h => b c o (a c o h)
theorem Same.free {H H' : Hp} (e : Same H H') {l : Addr} (h : H' l = Option.none) : H l = Option.none := by
  cases q : H l with
  | none => rfl
  | some o =>
    rw [e l o q] at h
    cases h
theorem Same.seq {K : PySem.W.Frag} {H H' : Hp} {a : Addr} {xs : List V} (e : Same H H') (h : SqL K H a xs) : SqL K H' a xs := by
  rcases h with (h | ⟨o, h⟩) | h
  · exact .inl (.inl (e _ _ h))
  · exact .inl (.inr ⟨o, e _ _ h⟩)
  · exact .inr h

end L2

set_option Elab.async false
set_option linter.all false
set_option maxRecDepth 100000
namespace L2
open PySem PySem.Spec PyProof.Rows

structure Cal (P : Program) (w : World) (K : PySem.W.Frag) (mg : Str → Option Value) (base : Heap) (CX : CXT) (x : Str) (k : Nat) (ps : List Str) (sp : Sp) : Prop where
  ex : ∃ f fd, FnOk P w K mg base CX k f fd ps sp ∧ Binds K fd ps [] ∧ PySem.W.keepIn K (.ref f) = true ∧ mg x = some (.ref f)

section
variable {X : Cx} {CX : CXT} {x : Str} {j k : Nat} {ps : List Str} {sp : Sp} {E : XK} {p pos : Pos} {e : Expr} {es : List Expr} {t : TA}
theorem pe_callX (C : Cal X.prog X.w X.K X.mg X.base CX x j ps sp) (hr : Room k X.A) (hg : Gl X x) (hx : Passes CX X E) (ha : PA X (e :: es) t) (hj : j ≤ k := by decide) (hdb : (x == ("__debug__" : Str)) = false := by decide)
    (he : starEach (e :: es) X.env = (false, eval e X.env) :: starEach es X.env := by rfl) (hpl : (backTo pos (starEach es X.env)).any (·.1) = false := by rfl) :
    PE X (.Call (.Name x p) (e :: es) [] pos) (tCall sp [] E t) := by
  obtain ⟨f, fd, F, b, kp, m⟩ := C.ex
  exact pe_call F (hr.mono hj) hg m kp b .nil hx ha hdb he hpl
theorem pe_callC (C : Cal X.prog X.w X.K X.mg X.base CX0 x j ps sp) (hr : Room k X.A) (hg : Gl X x) (ha : PA X (e :: es) t) (hj : j ≤ k := by decide) (hdb : (x == ("__debug__" : Str)) = false := by decide)
    (he : starEach (e :: es) X.env = (false, eval e X.env) :: starEach es X.env := by rfl) (hpl : (backTo pos (starEach es X.env)).any (·.1) = false := by rfl) :
    PE X (.Call (.Name x p) (e :: es) [] pos) (tCall sp [] E0 t) := pe_callX C hr hg pass0 ha hj hdb he hpl
end

inductive Kn where
  | non | bl | int | str | lst | tup | dct
def tyK (T : String) : Option Kn :=
  if T = "int" then some .int else if T = "bool" then some .bl else if T = "str" then some .str else if T = "list" then some .lst else if T = "tuple" then some .tup else none
theorem tyK_int : tyK "int" = some .int := rfl
theorem tyK_bool : tyK "bool" = some .bl := rfl
theorem tyK_str : tyK "str" = some .str := rfl
theorem tyK_list : tyK "list" = some .lst := rfl
theorem tyK_tuple : tyK "tuple" = some .tup := rfl
def isiB : Kn → Kn → Bool
  | .int, .int => true
  | .bl, .int => true
  | .bl, .bl => true
  | .str, .str => true
  | .lst, .lst => true
  | .tup, .tup => true
  | _, _ => false
def dctO (a : Addr) : HO := .ext fun h => ∃ o, h.get? a = some o ∧ o.cls = .type "dict"
def tDNewX : TE := fun _ H Q => ∀ p, H p = none → Q (.ref p) (upd H p (dctO p))
def Kd (K : PySem.W.Frag) (H : Hp) : V → Kn → Prop
  | .non, k => k = .non
  | .bl _, k => k = .bl
  | .int _, k => k = .int
  | .str _, k => k = .str
  | .ref a, k => (k = .lst ∧ ∃ xs, SqL K H a xs) ∨ (k = .tup ∧ ∃ xs, SqT K H a xs) ∨ (k = .dct ∧ H a = some (dctO a))
  | _, _ => False
def rIsi (K : PySem.W.Frag) : List V → Hp → VK → Prop := fun xs H Q => ∃ x T kt k, xs = [x, .ty T] ∧ tyK T = some kt ∧ Kd K H x k ∧ Q (.bl (isiB k kt)) H
theorem tyK_some {T : String} {kt : Kn} (h : tyK T = some kt) : (T = "int" ∧ kt = .int) ∨ (T = "bool" ∧ kt = .bl) ∨ (T = "str" ∧ kt = .str) ∨ (T = "list" ∧ kt = .lst) ∨ (T = "tuple" ∧ kt = .tup) := by
  unfold tyK at h
  split at h
  · next e => exact .inl ⟨e, (Option.some.inj h).symm⟩
  split at h
  · next e => exact .inr (.inl ⟨e, (Option.some.inj h).symm⟩)
  split at h
  · next e => exact .inr (.inr (.inl ⟨e, (Option.some.inj h).symm⟩))
  split at h
  · next e => exact .inr (.inr (.inr (.inl ⟨e, (Option.some.inj h).symm⟩)))
  split at h
  · next e => exact .inr (.inr (.inr (.inr ⟨e, (Option.some.inj h).symm⟩)))
  · cases h
section
variable {X : Cx}
theorem call_isi : CallR X (.builtin "isinstance") (rIsi X.K) := by
  intro pins s σ H xs us Q I r h
  obtain ⟨x, T, kt, k, rfl, ht, hk, q⟩ := h
  obtain ⟨u, w', rfl, rx, rt⟩ := vals2 r
  obtain rfl : w' = Value.type T := rt
  have f1 : EP X pins σ Q (.bool (isiB k kt)) s := ⟨.bl _, H, I, rfl, q⟩
  have f2 : EP X pins σ Q (.bool (isiB k kt)) { s with toks := s.toks + 1 } := ⟨.bl _, H, I.tok _, rfl, q⟩
  have hT := tyK_some ht
  clear ht q
  cases x with
  | non =>
    obtain rfl : u = Value.none := rx
    obtain rfl : k = .non := hk
    rcases hT with ⟨rfl, rfl⟩ | ⟨rfl, rfl⟩ | ⟨rfl, rfl⟩ | ⟨rfl, rfl⟩ | ⟨rfl, rfl⟩
    · exact IsiPair.NoneType_int f2
    · exact IsiPair.NoneType_bool f2
    · exact IsiPair.NoneType_str f2
    · exact IsiPair.NoneType_list f2
    · exact IsiPair.NoneType_tuple f2
  | bl b =>
    obtain rfl : u = Value.bool b := rx
    obtain rfl : k = .bl := hk
    rcases hT with ⟨rfl, rfl⟩ | ⟨rfl, rfl⟩ | ⟨rfl, rfl⟩ | ⟨rfl, rfl⟩ | ⟨rfl, rfl⟩
    · first | exact IsiPair.bool_int f1 | exact IsiPair.bool_int f2
    · exact IsiPair.bool_bool f1
    · exact IsiPair.bool_str f2
    · exact IsiPair.bool_list f2
    · exact IsiPair.bool_tuple f2
  | int i =>
    obtain ⟨t, rfl⟩ := rx
    obtain rfl : k = .int := hk
    rcases hT with ⟨rfl, rfl⟩ | ⟨rfl, rfl⟩ | ⟨rfl, rfl⟩ | ⟨rfl, rfl⟩ | ⟨rfl, rfl⟩
    · exact IsiPair.int_int f1
    · exact IsiPair.int_bool f2
    · exact IsiPair.int_str f2
    · exact IsiPair.int_list f2
    · exact IsiPair.int_tuple f2
  | str z =>
    obtain ⟨t, rfl⟩ := rx
    obtain rfl : k = .str := hk
    rcases hT with ⟨rfl, rfl⟩ | ⟨rfl, rfl⟩ | ⟨rfl, rfl⟩ | ⟨rfl, rfl⟩ | ⟨rfl, rfl⟩
    · exact IsiPair.str_int f2
    · exact IsiPair.str_bool f2
    · exact IsiPair.str_str f1
    · exact IsiPair.str_list f2
    · exact IsiPair.str_tuple f2
  | ref a =>
    obtain rfl : u = Value.ref a := rx
    rcases hk with ⟨rfl, xs, hq⟩ | ⟨rfl, xs, hq⟩ | ⟨rfl, hq⟩
    · obtain ⟨its, _, ⟨o, n, e, c, _, _⟩, _⟩ := I.list hq
      rcases hT with ⟨rfl, rfl⟩ | ⟨rfl, rfl⟩ | ⟨rfl, rfl⟩ | ⟨rfl, rfl⟩ | ⟨rfl, rfl⟩
      · exact IsiPair.list_int e c f2
      · exact IsiPair.list_bool e c f2
      · exact IsiPair.list_str e c f2
      · exact IsiPair.list_list e c f1
      · exact IsiPair.list_tuple e c f2
    · obtain ⟨its, _, ⟨o, e, c, _⟩, _⟩ := I.tuple hq
      rcases hT with ⟨rfl, rfl⟩ | ⟨rfl, rfl⟩ | ⟨rfl, rfl⟩ | ⟨rfl, rfl⟩ | ⟨rfl, rfl⟩
      · exact IsiPair.tuple_int e c f2
      · exact IsiPair.tuple_bool e c f2
      · exact IsiPair.tuple_str e c f2
      · exact IsiPair.tuple_list e c f2
      · exact IsiPair.tuple_tuple e c f1
    · obtain ⟨⟨o, e, c⟩, _⟩ := I.hok a _ hq
      rcases hT with ⟨rfl, rfl⟩ | ⟨rfl, rfl⟩ | ⟨rfl, rfl⟩ | ⟨rfl, rfl⟩ | ⟨rfl, rfl⟩
      · exact IsiPair.dict_int e c f2
      · exact IsiPair.dict_bool e c f2
      · exact IsiPair.dict_str e c f2
      · exact IsiPair.dict_list e c f2
      · exact IsiPair.dict_tuple e c f2
  | _ => exact False.elim hk
end

def Itr2 (lo : Int) (n : Nat) : It := ⟨fun i _ => i < n, fun i H x H' => H' = H ∧ x = .int (lo + i * 2), fun i _ => n ≤ i⟩
section
variable {X : Cx} {tg : Expr}
def iRng3 (ta : TA) : TI := fun σ H R => ta σ H fun vs H1 => ∃ i j : Int, vs = [.int i, .int j, .int 2] ∧ (-(2 ^ 60) ≤ i ∧ i < 2 ^ 60 ∧ -(2 ^ 60) ≤ j ∧ j < 2 ^ 60) ∧ R (Itr2 i ((j - i + 1) / 2).toNat) H1
end
def ForW (J : It) (g : TG) (tb : TS) (D : Ends) (σ : St) (H : Hp) : Prop := ∃ W : Nat → Nat → St → Hp → Prop, (∃ m, W 0 m σ H) ∧ ∀ i m σ H, W i m σ H →
  (J.stop i H ∧ D.nx σ H) ∨ (J.go i H ∧ ∃ N : St → Hp → Prop, (∀ σ' H', N σ' H' → ∃ m', m' < m ∧ W (i + 1) m' σ' H') ∧ ∀ x H', J.yld i H x H' → g x σ H' fun σ2 H2 => tb { D with nx := N, ct := N, bk := D.nx } σ2 H2)
theorem tFor_eq {wi : TI} {g : TG} {tb : TS} {D : Ends} {σ : St} {H : Hp} : tFor wi g tb D σ H = wi σ H fun J H1 => ForW J g tb D σ H1 := rfl
section
variable {K : PySem.W.Frag} {a : Addr} {xs : List V} {g : TG} {tb : TS} {D : Ends} {σ : St} {H : Hp} {lo : Int} {n : Nat}
theorem forW_list (xs : List V) (Pv : Nat → St → Hp → Prop) (h0 : Pv 0 σ H) (hl : ∀ i σ H, i ≤ xs.length → Pv i σ H → SqL K H a xs)
    (hs : ∀ i x σ H, xs[i]? = some x → Pv i σ H → g x σ H fun σ2 H2 => tb { D with nx := Pv (i + 1), ct := Pv (i + 1), bk := D.nx } σ2 H2) (hd : ∀ σ H, Pv xs.length σ H → D.nx σ H) : ForW (Itl K a) g tb D σ H := for_list Pv h0 hl hs hd
theorem forW_range (Pv : Nat → St → Hp → Prop) (h0 : Pv 0 σ H)
    (hs : ∀ i σ H, i < n → Pv i σ H → g (.int (lo + i)) σ H fun σ2 H2 => tb { D with nx := Pv (i + 1), ct := Pv (i + 1), bk := D.nx } σ2 H2) (hd : ∀ σ H, Pv n σ H → D.nx σ H) : ForW (Itr lo n) g tb D σ H := for_range Pv h0 hs hd
end

structure Bits (n : Nat) (i : Int) : Prop where
  lt : i.natAbs < 2 ^ n
theorem Bits.mono {m n : Nat} {i : Int} (h : Bits m i) (le : m ≤ n) : Bits n i := ⟨Nat.lt_of_lt_of_le h.lt (Nat.pow_le_pow_right (by decide) le)⟩
theorem Bits.add {n : Nat} {i j : Int} (h : Bits n i) (h' : Bits n j) : Bits (n + 1) (i + j) := ⟨by
  have := Int.natAbs_add_le i j
  have := h.lt
  have := h'.lt
  rw [Nat.pow_succ]
  omega⟩
theorem Bits.neg {n : Nat} {i : Int} (h : Bits n i) : Bits n (-i) := ⟨by rw [Int.natAbs_neg]; exact h.lt⟩
theorem Bits.sub {n : Nat} {i j : Int} (h : Bits n i) (h' : Bits n j) : Bits (n + 1) (i - j) := by
  rw [Int.sub_eq_add_neg]
  exact h.add h'.neg
theorem Bits.of {n : Nat} {i b : Int} (lo : -b ≤ i) (hi : i ≤ b) (hb : b < ((2 ^ n : Nat) : Int)) : Bits n i := ⟨by omega⟩
theorem Bits.le {n : Nat} {i j : Int} (h : Bits n j) (le : i.natAbs ≤ j.natAbs) : Bits n i := ⟨Nat.lt_of_le_of_lt le h.lt⟩
theorem Bits.bits {n : Nat} {i : Int} (h : Bits n i) : Builtin.Int.intBits i ≤ n := by
  unfold Builtin.Int.intBits
  split
  · exact Nat.zero_le _
  · have q := h.lt
    rcases Nat.eq_zero_or_pos i.natAbs with h0 | hp
    · rw [h0] at q ⊢
      have : (0 : Nat).log2 = 0 := by decide
      rename_i hz
      exact absurd (by simp; omega) hz
    · have := (Nat.log2_lt (Nat.ne_of_gt hp)).mpr q
      omega
def CMulB (i j : Int) : Prop := Bits 100000 i ∧ Bits 100000 j
theorem CMulB.ok {i j : Int} (h : CMulB i j) : IntMulOk i j := IntMulOk.of_bits (Nat.le_trans h.1.bits (by decide)) (Nat.le_trans h.2.bits (by decide))
def CDivB (_ j : Int) : Prop := 0 < j ∧ Bits 8999 j
theorem CDivB.ok {i j : Int} (h : CDivB i j) : Builtin.divisionGoesByPylong i j = false := by
  refine PyProof.noPylong_of_log2 ?_
  have q := h.2.lt
  have := (Nat.log2_lt (n := j.natAbs) (k := 8999) (by have := h.1; omega)).mpr q
  omega
section
variable {X : Cx}
theorem op_mulB : OpR X (binaryOp .Mult) (rI CMulB fun i j => .int (i * j)) := opI fun _ _ _ _ _ _ _ hc q => mul_int q hc.ok
theorem op_fdivB : OpR X (binaryOp .FloorDiv) (rI CDivB fun i j => .int (i / j)) := opI fun i j _ _ _ _ _ hc q => by
  have h1 : (0 : Int) < j := hc.1
  exact floordiv_int (by omega) (by rw [Int.fdiv_eq_ediv_of_nonneg i (by omega)]; exact q) (.inl hc.ok)
def tMenu (t : TA) (ti : TE) : TE := fun σ H Q => t σ H fun xs H1 => xs.length ≤ sizeLine ∧ ti σ H1 fun y H2 => ∃ i v, y = .int i ∧ 0 ≤ i ∧ xs[i.toNat]? = some v ∧ Q v H2
end
section
variable {X : Cx} {es : List Expr} {b : Expr} {t : TA} {ti : TE} {pos p2 : Pos}
theorem pe_menu (h : PA X es t) (hb : PE X b ti) (hs : PlainIx b) : PE X (.Subscript (.List es p2) b pos) (tMenu t ti) := by
  intro pins s σ H Q I hq
  refine Subscript_ (wpAny_List_spliced (thn (h p2 pins s σ H _ I hq) fun us s1 ⟨xs, H1, I1, r, z, q⟩ => ⟨by rw [← r.length]; exact z, ?_⟩))
  have hf : H1 s1.heap.objs.size = none := I1.hok.fresh (Nat.le_refl _)
  have I2 : Inv X (pins ++ [(s1.heap.objs.size, { cls := .type "list", data := .seq us.toArray })]) σ H1 { s1 with heap := s1.heap.push { cls := .type "list", data := .seq us.toArray } } := by
    have J : Inv X pins σ H1 { s1 with heap := s1.heap.push { cls := .type "list", data := .seq us.toArray } } := I1.kept (t' := s1.toks) fun b u e => Heap.get?_push_of_some _ e
    refine J.pins_of fun p hp => ?_
    rcases List.mem_append.mp hp with hp | hp
    · exact J.pin p (List.mem_append_right _ hp)
    · have e := List.mem_singleton.mp hp
      subst e
      exact ⟨Heap.get?_push_size _ rfl, hf, Nat.ne_of_gt I1.lt, I1.nofs (Nat.le_refl _), fun v z => by cases z⟩
  refine thn (hb _ _ σ H1 _ I2 q) fun u s2 ⟨y, H2, I3, ry, i, v, e, h0, ha, q2⟩ => ?_
  subst e
  obtain ⟨t', rfl⟩ := ry
  obtain ⟨hp, _⟩ := I3.pin (s1.heap.objs.size, { cls := .type "list", data := .seq us.toArray }) (List.mem_append_right _ (List.mem_append_right _ (List.mem_singleton.mpr rfl)))
  obtain ⟨w, ew, rw'⟩ := r.get ha
  have I4 : Inv X pins σ H2 s2 := I3.pins_of fun p hp => I3.pin p (List.mem_append_right _ (List.mem_append_left _ hp))
  have hl := r.length
  have hn := line63
  have hi : i.toNat < us.length := (List.getElem?_eq_some_iff.mp ew).1
  have fin : EP X pins σ Q w s2 := ⟨v, H2, I4, rw', q2⟩
  exact item_listR (l := s1.heap.objs.size) ⟨_, hp, rfl, _, rfl⟩ h0 (by omega) (by simpa using ew) fin (hs _ _)
end
theorem isi_non_bl : isiB .non .bl = false := rfl
theorem isi_non_int : isiB .non .int = false := rfl
theorem isi_non_str : isiB .non .str = false := rfl
theorem isi_non_lst : isiB .non .lst = false := rfl
theorem isi_non_tup : isiB .non .tup = false := rfl
theorem isi_bl_bl : isiB .bl .bl = true := rfl
theorem isi_bl_int : isiB .bl .int = true := rfl
theorem isi_bl_str : isiB .bl .str = false := rfl
theorem isi_bl_lst : isiB .bl .lst = false := rfl
theorem isi_bl_tup : isiB .bl .tup = false := rfl
theorem isi_int_bl : isiB .int .bl = false := rfl
theorem isi_int_int : isiB .int .int = true := rfl
theorem isi_int_str : isiB .int .str = false := rfl
theorem isi_int_lst : isiB .int .lst = false := rfl
theorem isi_int_tup : isiB .int .tup = false := rfl
theorem isi_str_bl : isiB .str .bl = false := rfl
theorem isi_str_int : isiB .str .int = false := rfl
theorem isi_str_str : isiB .str .str = true := rfl
theorem isi_str_lst : isiB .str .lst = false := rfl
theorem isi_str_tup : isiB .str .tup = false := rfl
theorem isi_lst_bl : isiB .lst .bl = false := rfl
theorem isi_lst_int : isiB .lst .int = false := rfl
theorem isi_lst_str : isiB .lst .str = false := rfl
theorem isi_lst_lst : isiB .lst .lst = true := rfl
theorem isi_lst_tup : isiB .lst .tup = false := rfl
theorem isi_tup_bl : isiB .tup .bl = false := rfl
theorem isi_tup_int : isiB .tup .int = false := rfl
theorem isi_tup_str : isiB .tup .str = false := rfl
theorem isi_tup_lst : isiB .tup .lst = false := rfl
theorem isi_tup_tup : isiB .tup .tup = true := rfl
theorem isi_dct_bl : isiB .dct .bl = false := rfl
theorem isi_dct_int : isiB .dct .int = false := rfl
theorem isi_dct_str : isiB .dct .str = false := rfl
theorem isi_dct_lst : isiB .dct .lst = false := rfl
theorem isi_dct_tup : isiB .dct .tup = false := rfl
theorem Kd_non {K : PySem.W.Frag} {H : Hp} {k : Kn} : Kd K H .non k = (k = .non) := rfl
theorem Kd_bl {K : PySem.W.Frag} {H : Hp} {k : Kn} {b : Bool} : Kd K H (.bl b) k = (k = .bl) := rfl
theorem Kd_int {K : PySem.W.Frag} {H : Hp} {k : Kn} {i : Int} : Kd K H (.int i) k = (k = .int) := rfl
theorem Kd_str {K : PySem.W.Frag} {H : Hp} {k : Kn} {z : Str} : Kd K H (.str z) k = (k = .str) := rfl
theorem Kd.tup {K : PySem.W.Frag} {H : Hp} {a : Addr} {xs : List V} (h : SqT K H a xs) : Kd K H (.ref a) .tup := .inr (.inl ⟨rfl, xs, h⟩)
theorem Kd.lst {K : PySem.W.Frag} {H : Hp} {a : Addr} {xs : List V} (h : SqL K H a xs) : Kd K H (.ref a) .lst := .inl ⟨rfl, xs, h⟩
theorem Kd.dct {K : PySem.W.Frag} {H : Hp} {a : Addr} (h : H a = some (dctO a)) : Kd K H (.ref a) .dct := .inr (.inr ⟨rfl, h⟩)
theorem Kd.ref {K : PySem.W.Frag} {H : Hp} {a : Addr} {k : Kn} (h : Kd K H (.ref a) k) : k ≠ .int ∧ k ≠ .bl ∧ k ≠ .str ∧ k ≠ .non := by
  rcases h with ⟨rfl, _⟩ | ⟨rfl, _⟩ | ⟨rfl, _⟩ <;> exact ⟨(by intro z; cases z), (by intro z; cases z), (by intro z; cases z), (by intro z; cases z)⟩
theorem sc_non_non : scal .non .non = true := rfl
theorem sc_non_int {x2 : Int} : scal .non (.int x2) = true := rfl
theorem sc_int_non {x1 : Int} : scal (.int x1) .non = true := rfl
theorem sc_non_bl {x2 : Bool} : scal .non (.bl x2) = true := rfl
theorem sc_bl_non {x1 : Bool} : scal (.bl x1) .non = true := rfl
theorem sc_non_str {x2 : Str} : scal .non (.str x2) = true := rfl
theorem sc_str_non {x1 : Str} : scal (.str x1) .non = true := rfl
theorem sc_int_int {x1 : Int} {x2 : Int} : scal (.int x1) (.int x2) = true := rfl
theorem sc_bl_bl {x1 : Bool} {x2 : Bool} : scal (.bl x1) (.bl x2) = true := rfl
theorem sc_str_str {x1 : Str} {x2 : Str} : scal (.str x1) (.str x2) = true := rfl
theorem sc_int_str {x1 : Int} {x2 : Str} : scal (.int x1) (.str x2) = true := rfl
theorem sc_str_int {x1 : Str} {x2 : Int} : scal (.str x1) (.int x2) = true := rfl
theorem sc_bl_str {x1 : Bool} {x2 : Str} : scal (.bl x1) (.str x2) = true := rfl
theorem sc_str_bl {x1 : Str} {x2 : Bool} : scal (.str x1) (.bl x2) = true := rfl
theorem cxK {CX : CXT} {P : Program} {w : World} {K : PySem.W.Frag} {mg : Str → Option Value} {base : Heap} {N : List Str} {qual : Str} {scope : Scope} {f : Addr} {cd : Value} {A : Around} {outer : List Env} {s : Shared} {H : Hp} {E : XK} :
    (cxOf CX P w K mg base N qual scope f cd A outer s H E).K = K := rfl
theorem b_len : bootBuiltins "len" = some (.builtin "len") := by decide +kernel
theorem b_max : bootBuiltins "max" = some (.builtin "max") := by decide +kernel
theorem b_min : bootBuiltins "min" = some (.builtin "min") := by decide +kernel
theorem b_isinstance : bootBuiltins "isinstance" = some (.builtin "isinstance") := by decide +kernel
theorem b_int : bootBuiltins "int" = some (.type "int") := by decide +kernel
theorem b_bool : bootBuiltins "bool" = some (.type "bool") := by decide +kernel
theorem b_str : bootBuiltins "str" = some (.type "str") := by decide +kernel
theorem b_list : bootBuiltins "list" = some (.type "list") := by decide +kernel
theorem b_tuple : bootBuiltins "tuple" = some (.type "tuple") := by decide +kernel
theorem b_sum : bootBuiltins "sum" = some (.builtin "sum") := by decide +kernel
theorem b_all : bootBuiltins "all" = some (.builtin "all") := by decide +kernel
theorem b_ValueError : bootBuiltins "ValueError" = some (.type "ValueError") := by decide +kernel
structure Mg (mg : Str → Option Value) : Prop where
  m_len : mg "len" = none
  m_range : mg "range" = none
  m_abs : mg "abs" = none
  m_max : mg "max" = none
  m_min : mg "min" = none
  m_isinstance : mg "isinstance" = none
  m_int : mg "int" = none
  m_bool : mg "bool" = none
  m_str : mg "str" = none
  m_list : mg "list" = none
  m_tuple : mg "tuple" = none
  m_sum : mg "sum" = none
  m_all : mg "all" = none
  m_enumerate : mg "enumerate" = none
  m_zip : mg "zip" = none
  m_ValueError : mg "ValueError" = none
  m_any : mg "any" = none
  m_set : mg "set" = none
  m_sorted : mg "sorted" = none
end L2

set_option Elab.async false
set_option linter.all false
set_option maxRecDepth 100000
set_option maxHeartbeats 1000000
namespace L2
open PySem PySem.Spec PyProof.Rows
section
variable {prog : Program} {w : World} {A : Around} {R : Result → Shared → Prop} {s : Shared}
theorem compLoop_go {elt target iter : Expr} {ifs : List Expr} {scope : Scope} {pos : Pos} {it acc : Value} {env : Env} (I : Nat → Shared → Prop)
    (turn : ∀ n s, I n s → wpAny (model prog w) A (pyNext it) (fun r s₁ => match r with
      | none => R (.ok .next) s₁
      | some v => wpAny (model prog w) A (letOwnedTupleGo target it v) (fun _ s₁' => wpAny (model prog w) A (assign target env v) (fun _ s₂ =>
          wpAny (model prog w) A (forIn ifs true fun c r => if r = true then do let ok ← isTrue c env (eval c env); pure (ForInStep.yield ok) else pure (ForInStep.yield r)) (fun ok s₃ =>
            if ok = true then wpAny (model prog w) A (eval elt env) (fun x s₄ =>
              wpAny (model prog w) A (call (.builtin "list.append") [acc, x]) (fun _ s₅ => ∃ m, m < n ∧ I m s₅) (fun _ _ => False) s₄) (fun _ _ => False) s₃
            else ∃ m, m < n ∧ I m s₃) (fun _ _ => False) s₂) (fun _ _ => False) s₁') (fun _ _ => False) s₁) (fun _ _ => False) s)
    (n : Nat) (h : I n s) :
    codeAny (model prog w) A (.compLoop (.ListComp elt [⟨target, iter, ifs, 0⟩] scope pos) 0 it acc env) R s := by
  refine codeAny_loop rfl I (fun n s hI => ?_) n h
  show wpAny _ A ((compTurn (.ListComp elt [⟨target, iter, ifs, 0⟩] scope pos) 0 it acc env).onRaise (fun x => do noteFrame x env; theTreesLotGoes x)) _ _ s
  refine wpAny_noted ?_
  rw [compTurn_list]
  refine wpAny_bind (wpAny_standAt (wpAny_bind (wpAny_mono (turn n s hI) (fun r s₁ h₁ => ?_) fun _ _ h' => h'.elim)))
  cases r with
  | none => exact wpAny_pure h₁
  | some v =>
    refine wpAny_bind (wpAny_mono h₁ (fun _ s₁' h₁' => wpAny_bind (wpAny_mono h₁' (fun _ s₂ h₂ => wpAny_bind (wpAny_mono h₂ (fun ok s₃ h₃ => ?_) fun _ _ h' => h'.elim)) fun _ _ h' => h'.elim)) fun _ _ h' => h'.elim)
    cases ok with
    | false => exact wpAny_pure ⟨rfl, h₃⟩
    | true =>
      exact wpAny_bind (wpAny_bind (wpAny_mono h₃ (fun x s₄ h₄ => wpAny_bind (wpAny_mono h₄ (fun _ s₅ h₅ => wpAny_pure (wpAny_pure ⟨rfl, h₅⟩)) fun _ _ h' => h'.elim)) fun _ _ h' => h'.elim))
end

def blk (X : Cx) (scope : Scope) (cl : List (Str × Addr)) (N' : List Str) (s₀ : Shared) (H₀ : Hp) (C : Addr) (pn : List (Addr × Obj)) (ex : List Addr) : Cx where
  prog := X.prog
  w := X.w
  K := X.K
  mg := X.mg
  base := X.base
  A := X.A
  N := N'
  s₀ := s₀
  H₀ := H₀
  env := compEnvC scope cl C X.env
  outer := X.stack
  stack := X.stack
  ex := ex
  fn := fun _ => false
  calm := X.calm
  pn := pn
  xe := fun _ _ => False
def PIfs (X : Cx) (ifs : List Expr) (t : TT) : Prop :=
  ∀ (pins : List (Addr × Obj)) (s : Shared) (σ : St) (H : Hp) (Q : Bool → Hp → Prop), Inv X pins σ H s → t σ H Q →
    wpAny (model X.prog X.w) X.A (forIn ifs true fun c r => if r = true then do let ok ← isTrue c X.env (eval c X.env); pure (ForInStep.yield ok) else pure (ForInStep.yield r)) (TP X pins σ Q) X.xe s
def tYes : TT := fun _ H Q => Q true H
theorem pif_nil {X : Cx} : PIfs X [] tYes := fun _ _ _ H _ I h => wpAny_tests_nil ⟨H, I, h⟩
def slots (ix : List Nat) (σ : St) : St := ix.map fun j => (σ[j]?).getD none
def compW (D : Addr) (J : It) (g : TG) (tt : TT) (te : TE) (Q : VK) (W : Nat → Nat → St → Hp → Prop) : Prop :=
  ∀ i m τ H2, W i m τ H2 → (J.stop i H2 ∧ Q (.ref D) H2) ∨ (J.go i H2 ∧ ∀ x H3, J.yld i H2 x H3 → g x τ H3 fun τ' H3' => tt τ' H3' fun b H4 =>
    if b = true then te τ' H4 fun v H5 => ∃ ys, H5 D = some (.lst ys) ∧ ys.length < sizeLine ∧ ∃ m', m' < m ∧ W (i + 1) m' τ' (upd H5 D (.lst (ys ++ [v]))) else ∃ m', m' < m ∧ W (i + 1) m' τ' H4)
def tComp (ix : List Nat) (nl : Nat) (wi : TI) (g : TG) (tt : TT) (te : TE) : TE := fun σ H Q => wi σ H fun J H1 => ∀ D, H1 D = none →
  ∃ W : Nat → Nat → St → Hp → Prop, (∃ m, W 0 m (slots ix σ ++ List.replicate nl none) (upd H1 D (.lst []))) ∧ compW D J g tt te Q W

structure CompOk (X : Cx) (scope : Scope) (cl : List (Str × Addr)) (N' : List Str) (ix : List Nat) (nl : Nat) : Prop where
  clos : closureFor scope X.env = pure cl
  sub : ∀ y c, cl.lookup y = some c → X.env.cells.lookup y = some c
  has : ∀ p ∈ (relabel scope X.env).names, (p.2 = .cell ∨ p.2 = .free) → (cl.lookup p.1).isSome = true
  cell : ∀ y ∈ scope.names, y.2 ≠ .cell
  kind : scope.kind = .function
  names : ∀ y ∈ scope.names, y.2 = .local → scope.names.lookup y.1 = some .local
  len : N'.length = ix.length + nl
  out : ∀ (i j : Nat) (y : Str), ix[i]? = some j → N'[i]? = some y → X.N[j]? = some y ∧ (X.env.kindOf y = some .cell ∨ X.env.kindOf y = some .free) ∧ ((relabel scope X.env).names.lookup y = some .cell ∨ (relabel scope X.env).names.lookup y = some .free)

theorem fm0 {α : Type} {P : α → Prop} : ∀ p ∈ ([] : List α), P p := fun _ h => nomatch h
theorem fm1 {α : Type} {P : α → Prop} {a : α} {l : List α} (h : P a) (r : ∀ p ∈ l, P p) : ∀ p ∈ a :: l, P p := List.forall_mem_cons.mpr ⟨h, r⟩
def OutsOk (X : Cx) (scope : Scope) : List Nat → List Str → Prop
  | [], _ => True
  | j :: r, y :: t => (X.N[j]? = some y ∧ (X.env.kindOf y = some .cell ∨ X.env.kindOf y = some .free) ∧ ((relabel scope X.env).names.lookup y = some .cell ∨ (relabel scope X.env).names.lookup y = some .free)) ∧ OutsOk X scope r t
  | _ :: _, [] => False
theorem OutsOk.at {X : Cx} {scope : Scope} : ∀ {ix : List Nat} {N : List Str}, OutsOk X scope ix N → ∀ (i j : Nat) (y : Str), ix[i]? = some j → N[i]? = some y → X.N[j]? = some y ∧ (X.env.kindOf y = some .cell ∨ X.env.kindOf y = some .free) ∧ ((relabel scope X.env).names.lookup y = some .cell ∨ (relabel scope X.env).names.lookup y = some .free)
  | [], _, _, i, j, y, h1, _ => by simp at h1
  | _ :: _, [], h, _, _, _, _, _ => h.elim
  | _ :: _, _ :: _, h, 0, j, y, h1, h2 => by
    simp at h1 h2
    subst h1 h2
    exact h.1
  | _ :: _, _ :: _, h, i + 1, j, y, h1, h2 => OutsOk.at h.2 i j y (by simpa using h1) (by simpa using h2)
theorem CompOk.make {X : Cx} {scope : Scope} {cl : List (Str × Addr)} {N' : List Str} {ix : List Nat} {nl : Nat} (clos : closureFor scope X.env = pure cl) (sub : ∀ p ∈ cl, X.env.cells.lookup p.1 = some p.2)
    (has : ((relabel scope X.env).names.all fun p => !(p.2 == .cell || p.2 == .free) || (cl.lookup p.1).isSome) = true) (cell : ∀ y ∈ scope.names, y.2 ≠ .cell) (kind : scope.kind = .function)
    (names : ∀ y ∈ scope.names, y.2 = .local → scope.names.lookup y.1 = some .local) (len : N'.length = ix.length + nl) (out : OutsOk X scope ix N') : CompOk X scope cl N' ix nl :=
  ⟨clos, fun y c h => sub (y, c) (PySem.mem_of_lookup h), fun p hp hc => by
    have q := List.all_eq_true.mp has p hp
    rcases hc with e | e <;> (rw [e] at q; simpa using q), cell, kind, names, len, out.at⟩

section
variable {X : Cx} {pins : List (Addr × Obj)} {σ : St} {H : Hp} {s : Shared}
theorem blk_ok {scope : Scope} {cl : List (Str × Addr)} {N' : List Str} {ix : List Nat} {nl : Nat} {C : Addr} {fp : List Addr} (O : CompOk X scope cl N' ix nl) (I : Inv X pins σ H s) (hC : s.heap.objs.size ≤ C) (f : ∀ b ∈ fp, FpOk X pins H b) (lt : ∀ b ∈ fp, b < s.heap.objs.size) :
    (blk X scope cl N' s H C (X.pn ++ pins) fp).Ok where
  mod := I.ok.mod
  kind := O.kind
  glob := I.ok.glob
  blt := I.ok.blt
  above := hC
  inj := fun x y c h1 h2 => I.ok.inj x y c (O.sub x c h1) (O.sub y c h2)
  has := fun x hx => by
    have hx' : (relabel scope X.env).names.lookup x = some .cell ∨ (relabel scope X.env).names.lookup x = some .free := hx
    rcases hx' with h | h
    · exact Option.isSome_iff_exists.mp (O.has _ (PySem.mem_of_lookup h) (.inl rfl))
    · exact Option.isSome_iff_exists.mp (O.has _ (PySem.mem_of_lookup h) (.inr rfl))
  cab := fun x c h => nomatch (show false = true from h)
  hd := I.ok.hd
  frames := I.ok.frames
  stk := .inl rfl
  exf := fun b hb => ⟨Nat.ne_of_lt (Nat.lt_of_lt_of_le (lt b hb) hC), fun x c h => (f b hb).2.2.2.2.1 x c (O.sub x c h)⟩
  bs := I.bs
  bsz := Nat.le_trans I.ok.bsz I.sz
  noex := fun b o e hb => by
    rcases (f b hb).2.2.2.1 with z | z
    · exact I.ok.noex b o e z
    · exact absurd (Nat.lt_of_lt_of_le (Heap.lt_size e) (Nat.le_trans I.ok.bsz z)) (Nat.lt_irrefl _)
  exfs := fun b hb z => by
    rcases List.mem_cons.mp (I.stkSub b z) with e | e
    · exact (f b hb).2.1 e
    · exact (f b hb).2.2.1 e
  funs := I.stack
  frf := I.stkFree

theorem blk_inv {scope : Scope} {cl : List (Str × Addr)} {N' : List Str} {ix : List Nat} {nl : Nat} {C : Addr} {fp : List Addr} {h' : Heap} {t' : Nat} (O : CompOk X scope cl N' ix nl) (I : Inv X pins σ H s) (hC : s.heap.objs.size ≤ C) (f : ∀ b ∈ fp, FpOk X pins H b) (lt : ∀ b ∈ fp, b < s.heap.objs.size)
    (hn : h'.Ns C fun _ => none) (k : ∀ b o, s.heap.get? b = some o → h'.get? b = some o) :
    Inv (blk X scope cl N' s H C (X.pn ++ pins) fp) [] (slots ix σ ++ List.replicate nl none) H { s with heap := h', toks := t' } := by
  refine ⟨blk_ok O I hC f lt, rfl, I.bare, Un.kept k, ⟨_, hn, fun i x v e1 e2 e3 => ?_⟩, fun x c e => ?_, I.hok.fresh hC, fun x c e => I.freeC x c (O.sub x c e), fun p hp => ?_, I.hok.kept k, ?_⟩
  · have e1 : N'[i]? = some x := e1
    have hi : i < ix.length := by
      by_cases hi : i < ix.length
      · exact hi
      · rw [List.getElem?_append_right (by simpa [slots] using hi)] at e2
        rw [List.getElem?_replicate] at e2
        split at e2 <;> cases e2
    have e2' : (σ[ix[i]]?).getD none = some v := by
      rw [List.getElem?_append_left (by simpa [slots] using hi)] at e2
      simpa [slots, hi] using e2
    have e4 : σ[ix[i]]? = some (some v) := by
      cases q : σ[ix[i]]? with
      | none => rw [q] at e2'; cases e2'
      | some z => rw [q] at e2'; exact congrArg some e2'
    obtain ⟨o1, o2, o3⟩ := O.out i ix[i] x (by simp [hi]) e1
    obtain ⟨m, hm, hl⟩ := I.loc
    have vis : Vis X.env.scope x := by
      rcases o2 with z | z
      · exact .inr (.inl z)
      · exact .inr (.inr z)
    obtain ⟨u, r, l⟩ := hl _ x v o1 e4 vis
    rcases l with ⟨z, _⟩ | ⟨_, c, hc, o, ho, hd⟩
    · rcases o2 with y | y <;> (rw [y] at z; cases z)
    · obtain ⟨c', hc'⟩ := (blk_ok O I hC f lt).has x o3
      have z := O.sub x c' hc'
      rw [hc] at z
      cases z
      exact ⟨u, r, .inr ⟨o3, c, hc', o, k _ _ ho, hd⟩⟩
  · obtain ⟨v, q⟩ := I.cell x c (O.sub x c e)
    exact ⟨v, by obtain ⟨o, ho, hd⟩ := q; exact ⟨o, k _ _ ho, hd⟩⟩
  · have hp' : p ∈ X.pn ++ pins := by
      have z : p ∈ (X.pn ++ pins) ++ [] := hp
      rwa [List.append_nil] at z
    obtain ⟨a1, a2, a3, a4, a5⟩ := I.pin p hp'
    refine ⟨k _ _ a1, a2, Nat.ne_of_lt (Nat.lt_of_lt_of_le (Heap.lt_size a1) hC), fun z => ?_, a5⟩
    rcases List.mem_cons.mp (I.stkSub p.1 z) with e | e
    · exact a3 e
    · exact a4 e
  · show (slots ix σ ++ List.replicate nl none).length = N'.length
    rw [List.length_append, List.length_replicate, O.len]
    simp [slots]

theorem blk_back {scope : Scope} {cl : List (Str × Addr)} {N' : List Str} {C : Addr} {fp : List Addr} {s' : Shared} {τ : St} {H' : Hp} (I : Inv X pins σ H s) (f : ∀ b ∈ fp, FpOk X pins H b)
    (J : Inv (blk X scope cl N' s H C (X.pn ++ pins) fp) [] τ H' s') : Inv X pins σ H' s' :=
  I.call' J.os J.base J.hok J.bare fun b hb => ⟨(f b hb).2.2.2.1, (f b hb).2.1, (f b hb).2.2.2.2.1, (f b hb).2.2.2.2.2⟩
theorem Inv.letgo {C : Addr} {s' : Shared} {h' : Heap} (J : Inv X pins σ H s') (hsz : X.s₀.heap.objs.size ≤ C) (hL : C ≠ X.env.locals) (hc : ∀ x c, X.env.cells.lookup x = some c → c ≠ C) (hp : ∀ p ∈ X.pn ++ pins, p.1 ≠ C) (hH : H C = none)
    (sb : Heap.SameBut C s'.heap h') : Inv X pins σ H { s' with heap := h' } :=
  J.turned (t' := s'.toks) (it := C) (fun b o hb e => sb.extBut b o hb e) hH hL (.inr hsz) hc hp
theorem blk_loop {elt iter tg : Expr} {ifs : List Expr} {scope : Scope} {pos : Pos} {cl : List (Str × Addr)} {N' : List Str} {C D it : Addr} {fp : List Addr} {tn : Nat → Heap → Prop} {J : It} {g : TG} {tt : TT} {te : TE} {s₄ : Shared} {W : Nat → Nat → St → Hp → Prop} {Q : VK}
    {τ : St} {H₀ : Hp} {s₃ : Shared} {pn : List (Addr × Obj)} {m0 : Nat} {R : Result → Shared → Prop} (hc : X.calm = true) (T : Turn X.prog X.w X.K tg J fp it tn)
    (f : ∀ H', (∀ b ∈ fp, H' b = none) → ∀ b ∈ fp, FpOk (blk X scope cl N' s₃ H₀ C pn fp) [] H' b)
    (hg : PG (blk X scope cl N' s₃ H₀ C pn fp) tg g) (ht : PIfs (blk X scope cl N' s₃ H₀ C pn fp) ifs tt) (he : PE (blk X scope cl N' s₃ H₀ C pn fp) elt te)
    (I4 : Inv (blk X scope cl N' s₃ H₀ C pn fp) [] τ H s₄) (st : tn 0 s₄.heap) (fr : ∀ b ∈ fp, H b = none) (w0 : W 0 m0 τ H) (hW : compW D J g tt te Q W)
    (fin : ∀ τ' H' s', Inv (blk X scope cl N' s₃ H₀ C pn fp) [] τ' H' s' → Q (.ref D) H' → R (.ok .next) s') :
    codeAny (model X.prog X.w) X.A (.compLoop (.ListComp elt [⟨tg, iter, ifs, 0⟩] scope pos) 0 (.ref it) (.ref D) (compEnvC scope cl C X.env)) R s₄ := by
  refine compLoop_go (fun n s' => ∃ i τ' H', Inv (blk X scope cl N' s₃ H₀ C pn fp) [] τ' H' s' ∧ tn i s'.heap ∧ (∀ b ∈ fp, H' b = none) ∧ W i n τ' H') ?_ m0 ⟨0, τ, H, I4, st, fr, w0⟩
  rintro n s5 ⟨i, τ5, H5, I5, st5, fr5, w5⟩
  rcases hW i n τ5 H5 w5 with ⟨stop, q⟩ | ⟨go, step⟩
  · refine thn (T.done (blk X scope cl N' s₃ H₀ C pn fp) rfl rfl rfl hc i [] s5 τ5 H5 (fun _ _ => False) I5 (f H5 fr5) st5 stop) fun r s6 ⟨hr, I6⟩ => ?_
    subst hr
    exact fin τ5 H5 s6 I6 q
  · refine thn (T.item (blk X scope cl N' s₃ H₀ C pn fp) rfl rfl rfl hc i [] s5 τ5 H5 (fun _ _ => False) I5 (f H5 fr5) st5 go) fun r s6 ⟨u, hr, h6⟩ => ?_
    subst hr
    refine thn h6 fun _ s7 ⟨x, H7, I7, r7, y7, st7, fr7⟩ => ?_
    have I7' := I7.pinned (f H7 fr7) (T.obj _ _ st7)
    have keep : ∀ {τ8 : St} {H8 : Hp} {s8 : Shared}, Inv (blk X scope cl N' s₃ H₀ C pn fp) ([] ++ pinsAt fp s7.heap) τ8 H8 s8 → Inv (blk X scope cl N' s₃ H₀ C pn fp) [] τ8 H8 s8 ∧ tn (i + 1) s8.heap ∧ ∀ b ∈ fp, H8 b = none := fun {τ8 H8 s8} I8 => by
      refine ⟨I8.unpinned, T.keep _ _ _ st7 fun b hb o e => (I8.pin (b, o) (List.mem_append_right _ (List.mem_append_right _ (mem_pinsAt hb e)))).1, fun b hb => ?_⟩
      obtain ⟨o, e, d⟩ := T.obj _ _ st7 b hb
      exact (I8.pin (b, o) (List.mem_append_right _ (List.mem_append_right _ (mem_pinsAt hb e)))).2.1
    refine thn (hg _ s7 τ5 H7 x u _ I7' r7 (step x H7 y7)) fun _ s8 ⟨τ8, H8, I8, q8⟩ => ?_
    refine thn (ht _ s8 τ8 H8 _ I8 q8) fun b s9 ⟨H9, I9, q9⟩ => ?_
    cases b with
    | false =>
      obtain ⟨m', hm, w'⟩ := q9
      obtain ⟨k1, k2, k3⟩ := keep I9
      exact ⟨m', hm, i + 1, τ8, H9, k1, k2, k3, w'⟩
    | true =>
      refine thn (he _ s9 τ8 H9 _ I9 q9) fun y s10 ⟨v, H10, I10, r10, ys, hD, hl, m', hm, w'⟩ => ?_
      refine thn (mt_append _ s10 τ8 H10 (.ref D) [v] (.ref D) [y] (fun _ H11 => W (i + 1) m' τ8 H11) I10 rfl (.cons r10 .nil) ⟨D, ys, v, rfl, rfl, hD, hl, w'⟩) fun z s11 ⟨_, H11, I11, _, w11⟩ => ?_
      obtain ⟨k1, k2, k3⟩ := keep I11
      exact ⟨m', hm, i + 1, τ8, H11, k1, k2, k3, w11⟩
end

section
variable {X : Cx} {elt iter tg : Expr} {ifs : List Expr} {scope : Scope} {pos : Pos} {cl : List (Str × Addr)} {N' : List Str} {ix : List Nat} {nl : Nat} {wi : TI} {g : TG} {tt : TT} {te : TE}
structure Left (X : Cx) (pins : List (Addr × Obj)) (σ : St) (C : Addr) (H : Hp) (s : Shared) : Prop where
  inv : Inv X pins σ H s
  ns : ∃ m, s.heap.Ns C m
  sz : X.s₀.heap.objs.size ≤ C
  loc : C ≠ X.env.locals
  cel : ∀ x c, X.env.cells.lookup x = some c → c ≠ C
  pin : ∀ p ∈ X.pn ++ pins, p.1 ≠ C
  non : H C = none
theorem comp_run {pins : List (Addr × Obj)} {σ : St} {H1 : Hp} {s2 : Shared} {Q : VK} {it : Addr} {fp : List Addr} {tn : Nat → Heap → Prop} {J : It} {RR : Value → Addr → Result → Shared → Prop} {E : Value → Shared → Prop}
    (hc : X.calm = true) (O : CompOk X scope cl N' ix nl) (hg : ∀ s₀ H₀ C pn ex, PG (blk X scope cl N' s₀ H₀ C pn ex) tg g) (ht : ∀ s₀ H₀ C pn ex, PIfs (blk X scope cl N' s₀ H₀ C pn ex) ifs tt)
    (he : ∀ s₀ H₀ C pn ex, PE (blk X scope cl N' s₀ H₀ C pn ex) elt te) (I1 : Inv X pins σ H1 s2) (T : Turn X.prog X.w X.K tg J fp it tn) (st : tn 0 s2.heap) (f1 : ∀ b ∈ fp, FpOk X pins H1 b)
    (q : ∀ D, H1 D = none → ∃ W : Nat → Nat → St → Hp → Prop, (∃ m, W 0 m (slots ix σ ++ List.replicate nl none) (upd H1 D (.lst []))) ∧ compW D J g tt te Q W)
    (fin : ∀ D C H' s', Left X pins σ C H' s' → Q (.ref D) H' → RR (.ref D) C (.ok .next) s') :
    wpAny (model X.prog X.w) X.A (newList []) (fun acc s₃ => wpAny (model X.prog X.w) X.A (newFunctionEnv scope X.env.globals cl [] X.env.qual none .none (some X.env)) (fun cenv s₄ =>
      codeAny (model X.prog X.w) X.A (.compStart (.ListComp elt [⟨tg, iter, ifs, 0⟩] scope pos) 0 (.ref it) acc { cenv with scope := relabel scope X.env }) (RR acc cenv.locals) s₄) E s₃) E s2 := by
  refine wpAny_newObj_type (wpAny_newFunctionEnv O.cell (by intro y hy; simp at hy) (fun h₁ hns₁ hsb₁ => ?_) O.kind)
  have hf : H1 s2.heap.objs.size = none := I1.hok.fresh (Nat.le_refl _)
  obtain ⟨W, ⟨m0, w0⟩, hW⟩ := q s2.heap.objs.size hf
  have lt : ∀ b ∈ fp, b < s2.heap.objs.size := fun b hb => by
    obtain ⟨o, e, _⟩ := T.obj _ _ st b hb
    exact Heap.lt_size e
  have I3 : Inv X pins σ (upd H1 s2.heap.objs.size (.lst [])) { s2 with heap := s2.heap.push { cls := .type "list", data := .seq ([] : List Value).toArray } } :=
    I1.laid (t' := s2.toks) (fun b u e => Heap.get?_push_of_some _ e) (Nat.le_refl _) ⟨Nat.zero_le _, [], 0, .nil, Heap.get?_push_size _ rfl⟩
  have f3 : ∀ b ∈ fp, FpOk X pins (upd H1 s2.heap.objs.size (.lst [])) b := fun b hb => ⟨by rw [upd_ne (Nat.ne_of_lt (lt b hb))]; exact (f1 b hb).1, (f1 b hb).2⟩
  have sz : (s2.heap.push { cls := .type "list", data := .seq ([] : List Value).toArray }).objs.size = s2.heap.objs.size + 1 := Heap.size_push ..
  have lt3 : ∀ b ∈ fp, b < (s2.heap.push { cls := .type "list", data := .seq ([] : List Value).toArray }).objs.size := fun b hb => by rw [sz]; exact Nat.lt_succ_of_lt (lt b hb)
  have k3 : ∀ b o, (s2.heap.push { cls := .type "list", data := .seq ([] : List Value).toArray }).get? b = some o → h₁.get? b = some o := fun b o e => hsb₁.extBut b o (Nat.ne_of_lt (Heap.lt_size e)) (Heap.get?_push_of_some _ e)
  have I4 := blk_inv (t' := s2.toks + ([] : List (Str × Value)).length) O I3 (Nat.le_refl _) f3 lt3 hns₁ k3
  have st4 : tn 0 h₁ := T.keep _ _ _ st fun b hb o e => k3 b o (Heap.get?_push_of_some _ e)
  have fB : ∀ H', (∀ b ∈ fp, H' b = none) → ∀ b ∈ fp, FpOk (blk X scope cl N' { s2 with heap := s2.heap.push { cls := .type "list", data := .seq ([] : List Value).toArray } } (upd H1 s2.heap.objs.size (.lst [])) (s2.heap.push { cls := .type "list", data := .seq ([] : List Value).toArray }).objs.size (X.pn ++ pins) fp) [] H' b := fun H' hn b hb => by
    refine ⟨hn b hb, Nat.ne_of_lt (lt3 b hb), ?_, .inl hb, fun x c h => (f1 b hb).2.2.2.2.1 x c (O.sub x c h), fun p hp => ?_⟩
    · intro z
      rcases List.mem_cons.mp (I3.stkSub b z) with e | e
      · exact (f1 b hb).2.1 e
      · exact (f1 b hb).2.2.1 e
    · have hp' : p ∈ X.pn ++ pins := by
        have z : p ∈ (X.pn ++ pins) ++ [] := hp
        rwa [List.append_nil] at z
      exact (f1 b hb).2.2.2.2.2 p hp'
  have loop := blk_loop (pos := pos) (iter := iter) (R := RR (.ref s2.heap.objs.size) (s2.heap.push { cls := .type "list", data := .seq ([] : List Value).toArray }).objs.size) hc T fB (hg _ _ _ _ _) (ht _ _ _ _ _) (he _ _ _ _ _) I4 st4 (fun b hb => (f3 b hb).1) w0 hW (fun τ' H' s' J' qf => by
    obtain ⟨m, hm, _⟩ := J'.loc
    refine fin _ _ H' s' ⟨blk_back I3 f3 J', ⟨m, hm⟩, I3.sz, Nat.ne_of_gt I3.lt, fun x c e z => ?_, fun p hp z => ?_, J'.free⟩ qf
    · obtain ⟨v, o, ho, _⟩ := I3.cell x c e
      exact absurd (Heap.lt_size ho) (by rw [z]; exact Nat.lt_irrefl _)
    · exact absurd (Heap.lt_size (I3.pin p hp).1) (by rw [z]; exact Nat.lt_irrefl _))
  exact codeAny_compStart_list loop (T.self _ 0 _ _ _ st4 loop)
theorem pe_comp (hc : X.calm = true) (O : CompOk X scope cl N' ix nl) (hi : PI X tg iter wi) (hg : ∀ s₀ H₀ C pn ex, PG (blk X scope cl N' s₀ H₀ C pn ex) tg g) (ht : ∀ s₀ H₀ C pn ex, PIfs (blk X scope cl N' s₀ H₀ C pn ex) ifs tt)
    (he : ∀ s₀ H₀ C pn ex, PE (blk X scope cl N' s₀ H₀ C pn ex) elt te) (hs : ∀ x, foldedSetIterable iter X.env x = pure x := by intro _; rfl) :
    PE X (.ListComp elt [⟨tg, iter, ifs, 0⟩] scope pos) (tComp ix nl wi g tt te) := by
  intro pins s σ H Q I h
  rw [eval_ListComp]
  refine wpAny_comprehension_free (use := none) rfl hs O.clos O.kind O.names (thn (hi pins s σ H _ I h) fun xv s1 h1 => thn h1 fun itv s2 h2 => ?_)
  obtain ⟨it, fp, tn, J, H1, rfl, I1, T, st, f1, q⟩ := h2
  refine comp_run (RR := fun acc C => compPost (model X.prog X.w) X.A X.xe none (EP X pins σ Q) acc C) hc O hg ht he I1 T st f1 q (fun D C H' s' L qf => ?_)
  obtain ⟨m, hm⟩ := L.ns
  exact ⟨m, hm, fun h' sb => ⟨.ref D, H', L.inv.letgo L.sz L.loc L.cel L.pin L.non sb, rfl, qf⟩⟩
theorem ps_setComp {i : Nat} {y : Str} {py spos : Pos} (hN : X.N.Nodup) (hiy : X.N[i]? = some y) (hy : Loc X.env.scope y) (hc : X.calm = true) (O : CompOk X scope cl N' ix nl) (hi : PI X tg iter wi) (hg : ∀ s₀ H₀ C pn ex, PG (blk X scope cl N' s₀ H₀ C pn ex) tg g)
    (ht : ∀ s₀ H₀ C pn ex, PIfs (blk X scope cl N' s₀ H₀ C pn ex) ifs tt) (he : ∀ s₀ H₀ C pn ex, PE (blk X scope cl N' s₀ H₀ C pn ex) elt te)
    (hsw : swapsWith (.ListComp elt [⟨tg, iter, ifs, 0⟩] scope pos) (some (.Name y py)) spos.line X.env = pure true) (hs : ∀ x, foldedSetIterable iter X.env x = pure x := by intro _; rfl)
    (hf : X.fn y = true ∨ X.env.scope.names.lookup y = some .local := by first | exact .inl rfl | exact .inr rfl | assumption) :
    PS X (.Assign [.Name y py] (.ListComp elt [⟨tg, iter, ifs, 0⟩] scope pos) spos) (tAsg (tComp ix nl wi g tt te) (gName i)) := by
  intro pins s σ H D0 I h
  rw [exec_Assign_Name_used _ _ _ _ hsw]
  refine wpAny_bind (wpAny_standAt (wpAny_bind ?_))
  show wpAny _ X.A (do let _ ← comprehension (.ListComp elt [⟨tg, iter, ifs, 0⟩] scope pos) scope X.env _ (newList []) false (eval iter X.env) (some (assign (.Name y py) X.env))) _ _ s
  refine wpAny_bind (wpAny_mono (wpAny_comprehension_free (use := some (assign (.Name y py) X.env)) (Q := fun _ s' => SP X pins D0 .next s') rfl hs O.clos O.kind O.names (thn (hi pins s σ H _ I h) fun xv s1 h1 => thn h1 fun itv s2 h2 => ?_)) (fun _ s' hq => wpAny_pure (wpAny_pure hq)) fun _ _ e => e)
  obtain ⟨it, fp, tn, J, H1, rfl, I1, T, st, f1, q⟩ := h2
  refine comp_run (RR := fun acc C => compPost (model X.prog X.w) X.A X.xe (some (assign (.Name y py) X.env)) (fun _ s' => SP X pins D0 .next s') acc C) hc O hg ht he I1 T st f1 q (fun D C H' s' L qf => ?_)
  obtain ⟨m, hm⟩ := L.ns
  show wpAny _ X.A (assign (.Name y py) X.env (.ref D)) _ _ _
  refine wpAny_assign_Name (store_ok2 L.inv hN hiy hy (v := .ref D) rfl (fun s'' I'' z => ?_) hf)
  obtain ⟨a, sb2, ha⟩ := z
  have ne : C ≠ a := by
    rcases ha with e | e
    · rw [e]; exact L.loc
    · exact fun z => L.cel _ a e z.symm
  refine ⟨m, hm.at' fun o e => sb2.extBut C o ne e, fun h' sb => ⟨_, H', I''.letgo L.sz L.loc L.cel L.pin L.non sb, qf⟩⟩
end
end L2

set_option Elab.async false
set_option linter.all false
set_option maxRecDepth 100000
set_option maxHeartbeats 1000000
namespace L2
open PySem PySem.Spec PyProof.Rows
theorem all_range_eq (ns ms : List Int) : (((List.range (min ns.length ms.length)).all fun j => ns.getD j 0 == ms.getD j 0) && ns.length == ms.length) = decide (ns = ms) := by
  by_cases h : ns = ms
  · subst h
    simp
  · rw [decide_eq_false h]
    by_cases hl : ns.length = ms.length
    · have : ∃ j, j < ns.length ∧ ns.getD j 0 ≠ ms.getD j 0 := by
        apply Classical.byContradiction
        intro no
        apply h
        apply List.ext_getElem hl
        intro i h1 h2
        apply Classical.byContradiction
        intro ne
        apply no
        refine ⟨i, h1, ?_⟩
        simpa [List.getD, h1, h2] using ne
      obtain ⟨j, hj, ne⟩ := this
      have : ((List.range (min ns.length ms.length)).all fun j => ns.getD j 0 == ms.getD j 0) = false := by
        rw [List.all_eq_false]
        refine ⟨j, by simp; omega, by simpa using ne⟩
      rw [this]
      rfl
    · have : (ns.length == ms.length) = false := by simpa using hl
      rw [this, Bool.and_false]
def okV : V → Bool
  | .ref _ => true
  | x => flatV x
theorem eqV_self {x : V} (h : flatV x = true) : eqV x x = true := by
  cases x with
  | non => rfl
  | bl b => simp [eqV]
  | int i => simp [eqV]
  | str z => simp [eqV]
  | byt b => exact absurd (show false = true from h) Bool.false_ne_true
  | flt b => exact absurd (show false = true from h) Bool.false_ne_true
  | ref a => exact absurd (show false = true from h) Bool.false_ne_true
  | ty n => exact absurd (show false = true from h) Bool.false_ne_true
theorem eqAt_same {A : Around} {s : Shared} {x : V} {u v : Value} (ru : RelV x u) (rv : RelV x v) (h : okV x = true) : SeqAt.EqAt A s u v true := by
  cases x with
  | ref a =>
    obtain rfl : u = Value.ref a := ru
    obtain rfl : v = Value.ref a := rv
    exact SeqAt.EqAt.same _
  | non => have := eqAt_V (A := A) (s := s) ru rv rfl rfl; rwa [eqV_self rfl] at this
  | bl b => have := eqAt_V (A := A) (s := s) ru rv rfl rfl; rwa [eqV_self rfl] at this
  | int i => have := eqAt_V (A := A) (s := s) ru rv rfl rfl; rwa [eqV_self rfl] at this
  | str z => have := eqAt_V (A := A) (s := s) ru rv rfl rfl; rwa [eqV_self rfl] at this
  | byt b => exact absurd (show false = true from h) Bool.false_ne_true
  | flt b => exact absurd (show false = true from h) Bool.false_ne_true
  | ty n => exact absurd (show false = true from h) Bool.false_ne_true
def TwoSq (K : PySem.W.Frag) (H : Hp) (a b : Addr) (xs ys : List V) : Prop := (SqL K H a xs ∧ SqL K H b ys) ∨ (SqT K H a xs ∧ SqT K H b ys)
def rEqS (K : PySem.W.Frag) (neg : Bool) : R2 := fun x y H Q => ∃ a b, x = .ref a ∧ y = .ref b ∧
  ((∃ xs, TwoSq K H a b xs xs ∧ xs.all okV = true ∧ Q (.bl (!neg)) H) ∨ (∃ ns ms : List Int, TwoSq K H a b (ns.map V.int) (ms.map V.int) ∧ Q (.bl (if neg then !decide (ns = ms) else decide (ns = ms))) H))
theorem vals_at {xs : List V} {its : List Value} (r : Vals xs its) {j : Nat} (h : j < its.length) : ∃ x, xs[j]? = some x ∧ RelV x its[j] := by
  have hl := r.length
  have hj : j < xs.length := by omega
  obtain ⟨u, e, rv⟩ := r.get (i := j) (x := xs[j]) (by simp [hj])
  have e2 : its[j]? = some its[j] := by simp [h]
  rw [e2] at e
  cases e
  exact ⟨xs[j], by simp [hj], rv⟩
theorem eqAt_all {A : Around} {s : Shared} {xs : List V} {i1 i2 : List Value} (r1 : Vals xs i1) (r2 : Vals xs i2) (h : xs.all okV = true) : ∀ j (h1 : j < i1.toArray.size) (h2 : j < i2.toArray.size), SeqAt.EqAt A s i1.toArray[j] i2.toArray[j] true := by
  intro j h1 h2
  rw [List.size_toArray] at h1 h2
  obtain ⟨x, e1, v1⟩ := vals_at r1 h1
  obtain ⟨y, e2, v2⟩ := vals_at r2 h2
  rw [e1] at e2
  cases e2
  have ok := List.all_eq_true.mp h x (List.mem_of_getElem? e1)
  simpa using eqAt_same (A := A) (s := s) v1 v2 ok
theorem eqAt_ints {A : Around} {s : Shared} {ns ms : List Int} {i1 i2 : List Value} (r1 : Vals (ns.map V.int) i1) (r2 : Vals (ms.map V.int) i2) : ∀ j (h1 : j < i1.toArray.size) (h2 : j < i2.toArray.size), SeqAt.EqAt A s i1.toArray[j] i2.toArray[j] (ns.getD j 0 == ms.getD j 0) := by
  intro j h1 h2
  rw [List.size_toArray] at h1 h2
  obtain ⟨x, e1, v1⟩ := vals_at r1 h1
  obtain ⟨y, e2, v2⟩ := vals_at r2 h2
  have l1 : j < ns.length := by have := r1.length; rw [List.length_map] at this; omega
  have l2 : j < ms.length := by have := r2.length; rw [List.length_map] at this; omega
  rw [List.getElem?_map, List.getElem?_eq_getElem l1] at e1
  rw [List.getElem?_map, List.getElem?_eq_getElem l2] at e2
  cases e1
  cases e2
  have := eqAt_V (A := A) (s := s) v1 v2 rfl rfl
  simpa [List.getD, l1, l2, eqV] using this
section
variable {X : Cx}
theorem op_eqS (hu : X.A.units < cLine) : OpR X (compareOp .Eq) (rEqS X.K false) := by
  intro pins s σ H x y v u Q I rx ry h
  obtain ⟨a, b, rfl, rfl, h⟩ := h
  obtain rfl : v = Value.ref a := rx
  obtain rfl : u = Value.ref b := ry
  rcases h with ⟨xs, tw, ok, q⟩ | ⟨ns, ms, tw, q⟩
  · have fin : EP X pins σ Q (.bool true) s := ⟨.bl true, H, I, rfl, q⟩
    rcases tw with ⟨h1, h2⟩ | ⟨h1, h2⟩
    · obtain ⟨i1, r1, p1, _⟩ := I.list h1
      obtain ⟨i2, r2, p2, _⟩ := I.list h2
      have e : ((List.range i1.toArray.size).all fun _ => true) = true := by simp
      exact SeqAt.eq_listAt (e := fun _ => true) p1.isList p2.isList (by rw [List.size_toArray, List.size_toArray, ← r1.length, ← r2.length]) hu (eqAt_all r1 r2 ok) (by rw [e]; exact fin)
    · obtain ⟨i1, r1, p1, _⟩ := I.tuple h1
      obtain ⟨i2, r2, p2, _⟩ := I.tuple h2
      have e : (((List.range (min i1.toArray.size i2.toArray.size)).all fun _ => true) && i1.toArray.size == i2.toArray.size) = true := by
        rw [List.size_toArray, List.size_toArray, ← r1.length, ← r2.length]
        simp
      exact SeqAt.eq_tupleAt (e := fun _ => true) p1 p2 hu (eqAt_all r1 r2 ok) (by rw [e]; exact fin)
  · have fin : EP X pins σ Q (.bool (decide (ns = ms))) s := ⟨.bl _, H, I, rfl, q⟩
    rcases tw with ⟨h1, h2⟩ | ⟨h1, h2⟩
    · obtain ⟨i1, r1, p1, _⟩ := I.list h1
      obtain ⟨i2, r2, p2, _⟩ := I.list h2
      have n1 : i1.toArray.size = ns.length := by rw [List.size_toArray, ← r1.length, List.length_map]
      have n2 : i2.toArray.size = ms.length := by rw [List.size_toArray, ← r2.length, List.length_map]
      have key := all_range_eq ns ms
      by_cases hl : ns.length = ms.length
      · refine SeqAt.eq_listAt (e := fun j => ns.getD j 0 == ms.getD j 0) p1.isList p2.isList (by rw [n1, n2, hl]) hu (eqAt_ints r1 r2) ?_
        rw [n1]
        rw [hl, Nat.min_self, beq_self_eq_true, Bool.and_true] at key
        rw [hl, key]
        exact fin
      · refine SeqAt.eq_list_lengthsAt p1.isList p2.isList (by rw [n1, n2]; simpa using hl) hu ?_
        rw [decide_eq_false (fun e => hl (by rw [e]))] at fin
        exact fin
    · obtain ⟨i1, r1, p1, _⟩ := I.tuple h1
      obtain ⟨i2, r2, p2, _⟩ := I.tuple h2
      have n1 : i1.toArray.size = ns.length := by rw [List.size_toArray, ← r1.length, List.length_map]
      have n2 : i2.toArray.size = ms.length := by rw [List.size_toArray, ← r2.length, List.length_map]
      refine SeqAt.eq_tupleAt (e := fun j => ns.getD j 0 == ms.getD j 0) p1 p2 hu (eqAt_ints r1 r2) ?_
      rw [n1, n2, all_range_eq]
      exact fin
theorem op_neS (hu : X.A.units < cLine) : OpR X (compareOp .NotEq) (rEqS X.K true) := by
  intro pins s σ H x y v u Q I rx ry h
  obtain ⟨a, b, rfl, rfl, h⟩ := h
  obtain rfl : v = Value.ref a := rx
  obtain rfl : u = Value.ref b := ry
  rcases h with ⟨xs, tw, ok, q⟩ | ⟨ns, ms, tw, q⟩
  · have fin : EP X pins σ Q (.bool false) s := ⟨.bl false, H, I, rfl, q⟩
    rcases tw with ⟨h1, h2⟩ | ⟨h1, h2⟩
    · obtain ⟨i1, r1, p1, _⟩ := I.list h1
      obtain ⟨i2, r2, p2, _⟩ := I.list h2
      have e : (!(List.range i1.toArray.size).all fun _ => true) = false := by simp
      exact SeqAt.RcNeAt.lists (e := fun _ => true) p1.isList p2.isList (by rw [List.size_toArray, List.size_toArray, ← r1.length, ← r2.length]) hu (eqAt_all r1 r2 ok) _ _ _ _ (by rw [e]; exact fin)
    · obtain ⟨i1, r1, p1, _⟩ := I.tuple h1
      obtain ⟨i2, r2, p2, _⟩ := I.tuple h2
      have e : (!(((List.range (min i1.toArray.size i2.toArray.size)).all fun _ => true) && i1.toArray.size == i2.toArray.size)) = false := by
        rw [List.size_toArray, List.size_toArray, ← r1.length, ← r2.length]
        simp
      exact SeqAt.RcNeAt.tuples (e := fun _ => true) p1 p2 hu (eqAt_all r1 r2 ok) _ _ _ _ (by rw [e]; exact fin)
  · have fin : EP X pins σ Q (.bool (!decide (ns = ms))) s := ⟨.bl _, H, I, rfl, q⟩
    rcases tw with ⟨h1, h2⟩ | ⟨h1, h2⟩
    · obtain ⟨i1, r1, p1, _⟩ := I.list h1
      obtain ⟨i2, r2, p2, _⟩ := I.list h2
      have n1 : i1.toArray.size = ns.length := by rw [List.size_toArray, ← r1.length, List.length_map]
      have n2 : i2.toArray.size = ms.length := by rw [List.size_toArray, ← r2.length, List.length_map]
      have key := all_range_eq ns ms
      by_cases hl : ns.length = ms.length
      · refine SeqAt.RcNeAt.lists (e := fun j => ns.getD j 0 == ms.getD j 0) p1.isList p2.isList (by rw [n1, n2, hl]) hu (eqAt_ints r1 r2) _ _ _ _ ?_
        rw [n1]
        rw [hl, Nat.min_self, beq_self_eq_true, Bool.and_true] at key
        rw [hl, key]
        exact fin
      · refine SeqAt.RcNeAt.lists_lengths p1.isList p2.isList (by rw [n1, n2]; simpa using hl) hu _ _ _ _ ?_
        rw [decide_eq_false (fun e => hl (by rw [e]))] at fin
        exact fin
    · obtain ⟨i1, r1, p1, _⟩ := I.tuple h1
      obtain ⟨i2, r2, p2, _⟩ := I.tuple h2
      have n1 : i1.toArray.size = ns.length := by rw [List.size_toArray, ← r1.length, List.length_map]
      have n2 : i2.toArray.size = ms.length := by rw [List.size_toArray, ← r2.length, List.length_map]
      refine SeqAt.RcNeAt.tuples (e := fun j => ns.getD j 0 == ms.getD j 0) p1 p2 hu (eqAt_ints r1 r2) _ _ _ _ ?_
      rw [n1, n2, all_range_eq]
      exact fin
end
end L2

set_option Elab.async false
set_option linter.all false
set_option maxRecDepth 100000
set_option maxHeartbeats 1000000
namespace L2
open PySem PySem.Spec PyProof.Rows
def tComp1 (D : Addr) (g : TG) (tt : TT) (te : TE) (x : V) (τ : St) (H : Hp) (R : St → Hp → Prop) : Prop := g x τ H fun τ' H' => tt τ' H' fun b H4 =>
  if b = true then te τ' H4 fun v H5 => ∃ ys, H5 D = some (.lst ys) ∧ ys.length < sizeLine ∧ R τ' (upd H5 D (.lst (ys ++ [v]))) else R τ' H4
def CompS (D : Addr) (J : It) (g : TG) (tt : TT) (te : TE) (Q : VK) (τ : St) (H : Hp) : Prop := ∃ W : Nat → Nat → St → Hp → Prop, (∃ m, W 0 m τ H) ∧ compW D J g tt te Q W
theorem tComp_eq {ix : List Nat} {nl : Nat} {wi : TI} {g : TG} {tt : TT} {te : TE} {σ : St} {H : Hp} {Q : VK} :
    tComp ix nl wi g tt te σ H Q = wi σ H fun J H1 => ∀ D, H1 D = none → CompS D J g tt te Q (slots ix σ ++ List.replicate nl none) (upd H1 D (.lst [])) := rfl
section
variable {K : PySem.W.Frag} {D a : Addr} {g : TG} {tt : TT} {te : TE} {Q : VK} {τ : St} {H : Hp}
theorem compS_range {lo : Int} {n : Nat} (Pv : Nat → St → Hp → Prop) (h0 : Pv 0 τ H)
    (hs : ∀ i τ H (R : St → Hp → Prop), i < n → Pv i τ H → (∀ τ' H', Pv (i + 1) τ' H' → R τ' H') → tComp1 D g tt te (.int (lo + i)) τ H R) (hd : ∀ τ H, Pv n τ H → Q (.ref D) H) : CompS D (Itr lo n) g tt te Q τ H := by
  refine ⟨fun i m τ H => m = n - i ∧ i ≤ n ∧ Pv i τ H, ⟨n, by simp, Nat.zero_le _, h0⟩, ?_⟩
  rintro i m τ H2 ⟨rfl, hi, p⟩
  by_cases hlt : i < n
  · refine .inr ⟨hlt, fun x H' y => ?_⟩
    obtain ⟨e, y⟩ := y
    subst e y
    exact hs i τ _ (fun τ' H' => ∃ m', m' < n - i ∧ m' = n - (i + 1) ∧ i + 1 ≤ n ∧ Pv (i + 1) τ' H') hlt p fun τ' H' p' => ⟨_, by omega, rfl, hlt, p'⟩
  · have e : i = n := by omega
    subst e
    exact .inl ⟨Nat.le_refl _, hd τ H2 p⟩
theorem compS_list (xs : List V) (Pv : Nat → St → Hp → Prop) (h0 : Pv 0 τ H) (hl : ∀ i τ H, i ≤ xs.length → Pv i τ H → SqL K H a xs)
    (hs : ∀ i x τ H (R : St → Hp → Prop), xs[i]? = some x → Pv i τ H → (∀ τ' H', Pv (i + 1) τ' H' → R τ' H') → tComp1 D g tt te x τ H R) (hd : ∀ τ H, Pv xs.length τ H → Q (.ref D) H) : CompS D (Itl K a) g tt te Q τ H := by
  refine ⟨fun i m τ H => m = xs.length - i ∧ i ≤ xs.length ∧ Pv i τ H, ⟨xs.length, by simp, Nat.zero_le _, h0⟩, ?_⟩
  rintro i m τ H2 ⟨rfl, hi, p⟩
  have q := hl i τ H2 hi p
  by_cases hlt : i < xs.length
  · have hx : xs[i]? = some xs[i] := by simp [hlt]
    refine .inr ⟨⟨xs, _, q, hx⟩, fun x H' y => ?_⟩
    obtain ⟨e, y⟩ := y
    subst e
    have e2 := y xs q
    rw [hx] at e2
    cases e2
    exact hs i _ τ _ (fun τ' H' => ∃ m', m' < xs.length - i ∧ m' = xs.length - (i + 1) ∧ i + 1 ≤ xs.length ∧ Pv (i + 1) τ' H') hx p fun τ' H' p' => ⟨_, by omega, rfl, hlt, p'⟩
  · have e : i = xs.length := by omega
    subst e
    exact .inl ⟨⟨xs, q, Nat.le_refl _⟩, hd τ H2 p⟩
theorem compS_tup (xs : List V) (Pv : Nat → St → Hp → Prop) (h0 : Pv 0 τ H) (hl : ∀ i τ H, i ≤ xs.length → Pv i τ H → SqT K H a xs)
    (hs : ∀ i x τ H (R : St → Hp → Prop), xs[i]? = some x → Pv i τ H → (∀ τ' H', Pv (i + 1) τ' H' → R τ' H') → tComp1 D g tt te x τ H R) (hd : ∀ τ H, Pv xs.length τ H → Q (.ref D) H) : CompS D (Itt K a) g tt te Q τ H := by
  refine ⟨fun i m τ H => m = xs.length - i ∧ i ≤ xs.length ∧ Pv i τ H, ⟨xs.length, by simp, Nat.zero_le _, h0⟩, ?_⟩
  rintro i m τ H2 ⟨rfl, hi, p⟩
  have q := hl i τ H2 hi p
  by_cases hlt : i < xs.length
  · have hx : xs[i]? = some xs[i] := by simp [hlt]
    refine .inr ⟨⟨xs, _, q, hx⟩, fun x H' y => ?_⟩
    obtain ⟨e, y⟩ := y
    subst e
    have e2 := y xs q
    rw [hx] at e2
    cases e2
    exact hs i _ τ _ (fun τ' H' => ∃ m', m' < xs.length - i ∧ m' = xs.length - (i + 1) ∧ i + 1 ≤ xs.length ∧ Pv (i + 1) τ' H') hx p fun τ' H' p' => ⟨_, by omega, rfl, hlt, p'⟩
  · have e : i = xs.length := by omega
    subst e
    exact .inl ⟨⟨xs, q, Nat.le_refl _⟩, hd τ H2 p⟩
theorem SqT.lst {H : Hp} {p b : Addr} {xs ys zs : List V} (h : SqT K H b xs) (hp : H p = some (.lst ys)) : SqT K (upd H p (.lst zs)) b xs := by
  rcases h with (h | ⟨o, h⟩) | h
  · exact .inl (.inl (by rw [upd_ne (ne_of h hp (by intro z; cases z))]; exact h))
  · exact .inl (.inr ⟨o, by rw [upd_ne (ne_of h hp (by intro z; cases z))]; exact h⟩)
  · exact .inr h
end
theorem rEqS_same {K : PySem.W.Frag} {neg : Bool} {a b : Addr} {xs : List V} {H : Hp} {Q : VK} (t : TwoSq K H a b xs xs) (ok : xs.all okV = true) (q : Q (.bl (!neg)) H) : rEqS K neg (.ref a) (.ref b) H Q := ⟨a, b, rfl, rfl, .inl ⟨xs, t, ok, q⟩⟩
section
variable {X : Cx} {K : PySem.W.Frag}
theorem ix_listK (h : X.K = K) : IxR X (rIxL K) := by subst h; exact ix_list
theorem ix_tupK (h : X.K = K) : IxR X (rIxT K) := by subst h; exact ix_tup
end
end L2

set_option Elab.async false
set_option linter.all false
set_option maxRecDepth 100000
set_option maxHeartbeats 1000000
namespace L2
open PySem PySem.Spec PyProof.Rows
section
variable {prog : Program} {w : World} {A : Around} {E : Value → Shared → Prop} {s : Shared}
end
section
variable {prog : Program} {w : World} {A : Around} {E : Value → Shared → Prop} {s : Shared}
end
def Ite (sq : Hp → List V → Prop) : It := ⟨fun i H => ∃ xs x, sq H xs ∧ xs[i]? = some x, fun i H x H' => ∃ T v, H T = none ∧ x = .ref T ∧ H' = upd H T (.tup [.int i, v]) ∧ ∀ xs, sq H xs → xs[i]? = some v, fun i H => ∃ xs, sq H xs ∧ xs.length ≤ i⟩
section
variable {X : Cx} {elts : List Expr} {kk : Nat} {tpos : Pos}
def iEnumL (K : PySem.W.Frag) (ta : TA) : TI := fun σ H R => ta σ H fun vs H1 => ∃ a, vs = [.ref a] ∧ (∃ xs, SqL K H1 a xs) ∧ R (Ite fun H xs => SqL K H a xs) H1
def iEnumT (K : PySem.W.Frag) (ta : TA) : TI := fun σ H R => ta σ H fun vs H1 => ∃ a, vs = [.ref a] ∧ (∃ xs, SqT K H1 a xs) ∧ R (Ite fun H xs => SqT K H a xs) H1
end
end L2

set_option Elab.async false
set_option linter.all false
set_option maxRecDepth 100000
set_option maxHeartbeats 1000000
namespace HT
open PySem PySem.Spec PyProof.Rows
section
variable {prog : Program} {w : World} {A : Around} {E : Value → Shared → Prop} {s : Shared}
theorem getItem_tuple_all {t sl : Addr} {items : Array Value} {vl vu : Value} {lo hi : Option Int} {Q : Value → Shared → Prop} (ht : IsTup s.heap t items) (hs : s.heap.IsSliceOf sl vl vu .none) (pl : IsPart vl lo) (pu : IsPart vu hi)
    (hw : sIx items.size 0 lo = 0 ∧ sIx items.size items.size hi = items.size) (h : Q (.ref t) s) : wpAny (model prog w) A (getItem (.ref t) (.ref sl)) Q E s := by
  obtain ⟨os, hos, hcs, hds⟩ := id hs
  have hTs : s.TypeIs (.ref sl) "slice" := ⟨os, hos, hcs⟩
  unfold getItem
  try with_reducible refine wpAny_holding ?_
  first | refine wpAny_bind (wpAny_pure ?_) | skip
  refine wpAny_bind (wpAny_sequenceKey ht.typeIs (by decide) ?_)
  refine wpAny_bind (wpAny_callSpecial?_slot (name := Str.ofString "__getitem__") ht.typeIs PyProof.Rows.slot_tuple_getitem
    (wpAny_call_entry PyProof.Rows.slot_tuple_getitem ht.typeIs entry_tuple_getitem ?_ (args_tuple_getitem _ _)))
  show wpAny _ _ (Builtin.Tuple.tupleItemsOf (.ref t) >>= _) _ _ s
  refine wpAny_bind (tupleItemsOf_ ht ?_)
  refine wpAny_bind (wpAny_typeOf hTs ?_)
  rw [if_pos (by decide)]
  refine wpAny_bind (sliceApplied_gen hs pl pu ?_)
  have hno : ((((sIx items.size 0 lo : Nat) : Int) == 0 && (1 : Int) == 1 && (sIx items.size items.size hi - sIx items.size 0 lo) == items.size) = true) := by
    rw [hw.1, hw.2]
    simp
  show wpAny _ _ (if (((sIx items.size 0 lo : Nat) : Int) == 0 && (1 : Int) == 1 && (sIx items.size items.size hi - sIx items.size 0 lo) == items.size) = true then _ else _) _ _ s
  rw [if_pos hno]
  show wpAny _ _ (Builtin.Tuple.tupleIsExact (.ref t) >>= _) _ _ s
  refine wpAny_bind (m := Builtin.Tuple.tupleIsExact _) (show wpAny _ _ (typeOf (.ref t) >>= _) _ _ s from wpAny_bind (wpAny_typeOf ht.typeIs (wpAny_pure ?_)))
  rw [if_pos (by decide)]
  exact wpAny_bind (wpAny_rule (wpAny_pure ⟨_, rfl, wpAny_pure h⟩))
end
end HT
namespace L2
open PySem PySem.Spec PyProof.Rows
section
variable {X : Cx}
def rSlTA (K : PySem.W.Frag) : V → Option Int → Option Int → Hp → VK → Prop := fun x lo hi H Q => ∃ a xs, x = .ref a ∧ SqT K H a xs ∧ (cutV xs lo hi = xs → Q (.ref a) H) ∧ ∀ p, H p = none → Q (.ref p) (upd H p (.tup (cutV xs lo hi)))
theorem sl_tupA : SlR X (rSlTA X.K) := by
  intro pins s σ H x v vl vu lo hi sl Q I rx hs pl pu h
  obtain ⟨a, xs, rfl, hx, q1, q2⟩ := h
  by_cases hw : HT.sIx xs.length 0 lo = 0 ∧ HT.sIx xs.length xs.length hi = xs.length
  · cases rx
    obtain ⟨its, r, ht, hz⟩ := I.tuple hx
    have hlen : its.toArray.size = xs.length := by rw [List.size_toArray]; exact r.length.symm
    refine ⟨"tuple", _, PyProof.Rows.slot_tuple_getitem.lookup, ht.typeIs, ?_⟩
    refine HT.getItem_tuple_all ht hs pl pu (by rw [hlen]; exact hw) ⟨.ref a, H, I, rfl, q1 ?_⟩
    unfold cutV
    rw [hw.1, hw.2, List.drop_zero, Nat.sub_zero, List.take_of_length_le (Nat.le_refl _)]
  · exact sl_tup pins s σ H _ v vl vu lo hi sl Q I rx hs pl pu ⟨a, xs, rfl, hx, hw, q2⟩
end
theorem cut_to {xs : List V} {n : Nat} : cutV xs none (some (n : Int)) = xs.take n := by
  unfold cutV
  rw [HT.sIx_nat, HT.sIx_none, List.drop_zero, Nat.sub_zero]
  by_cases h : n ≤ xs.length
  · rw [Nat.min_eq_left h]
  · rw [Nat.min_eq_right (by omega), List.take_of_length_le (Nat.le_refl _), List.take_of_length_le (by omega)]
end L2

set_option Elab.async false
set_option linter.all false
set_option maxRecDepth 100000
set_option maxHeartbeats 1000000
namespace L2
open PySem PySem.Spec PyProof.Rows
open PySem.Builtin PySem.Builtin.ObjectAttr PySem.Builtin.Getset_descriptor
open PySem.W (Frag Looks looks_findIn looks_specialIn looks_takesIn looks_mroIn looks_subIn looks_typeIn)

def ExcAt (x D : Addr) (h : Heap) : Prop := ∃ o vs, h.get? x = some o ∧ o.cls = .ref D ∧ o.data = .fields vs
structure XCls (K : Frag) (D : Addr) : Prop where
  ga : PySem.W.findIn K (.ref D) "__getattribute__" = some (some (.builtin "BaseException.__getattribute__"))
  gt : PySem.W.findIn K (.ref D) "__getattr__" = some none
  ca : PySem.W.findIn K (.ref D) "__class__" = some (some (.builtin "object.__class__"))
  cn : PySem.W.specialIn K (.builtin "object.__class__") "__get__" = some (some (.builtin "getset_descriptor.__get__"))
  tk : PySem.W.takesIn K (.builtin "object.__class__") = some true
  mo : PySem.W.mroIn K D (.type "object") = some true
  mb : PySem.W.mroIn K D (.type "BaseException") = some true
  is : (PySem.W.clsIn K D).isSome = true
section
variable {prog : Program} {w : World} {A : Around} {E : Value → Shared → Prop} {s : Shared} {K : Frag} {x D : Addr}
theorem ExcAt.type {M : Model} {h : Heap} (I : ExcAt x D h) : Looks M h (typeOf (.ref x)) (.ref D) := by
  obtain ⟨o, vs, e, c, _⟩ := I
  exact c ▸ (Looks.ld e).andThen .now
theorem xcls_get {R : Result → Shared → Prop} {tp : Value} (X : K.In s.heap) (I : ExcAt x D s.heap) (hm : PySem.W.mroIn K D (.type "object") = some true)
    (h : R (.ok (.ret (.ref D))) s) : codeAny (model prog w) A (.call (.builtin "getset_descriptor.__get__") ⟨[.builtin "object.__class__", .ref x, tp], []⟩) R s := by
  obtain ⟨hh, g, dr, t, os⟩ := s
  have L0 := I.type (M := model prog w)
  have L1 := looks_mroIn (M := model prog w) X hm
  refine codeAny_call_builtin PySem.W.KF.slot_gs.plain PySem.W.KF.entry_gs (PySem.W.KF.slot_gs.check _ _ _ _ _ _ _ _ PySem.W.KF.type_class (PySem.W.KF.args_gs _ _ _) ?_)
  unfold Builtin.«getset_descriptor.__get__» descrGet
  rw [PySem.W.dga_obj]
  refine wpAny_bind (wpAny_pure ?_)
  unfold descrGetter descrCheckInstance descrNameAndClass isInstance
  simp only [PySem.W.KF.owner_class]
  repeat lk
  refine ⟨Code.quiet_builtin _ (by decide +kernel), codeAny_builtin PySem.W.KF.entry_class ?_⟩
  unfold Builtin.«object.__class__» shownTypeOf
  repeat lk
  exact h
theorem xcls_find {M : Model} {h : Heap} (X : K.In h) (c : XCls K D) : Looks M h (find (.ref x) (.ref D) "__class__") (.bind (.builtin "getset_descriptor.__get__") (.builtin "object.__class__")) := by
  have L1 := looks_findIn (M := M) X c.ca
  have L2 : Looks M h (getOf (some (.builtin "object.__class__"))) (some (.builtin "getset_descriptor.__get__")) := looks_specialIn X c.cn
  have L3 := looks_takesIn (M := M) X c.tk
  have L4 : Looks M h (dataDescriptor? (some (.builtin "object.__class__")) (some (.builtin "getset_descriptor.__get__"))) (some (.builtin "getset_descriptor.__get__", .builtin "object.__class__")) := L3.andThen .now
  unfold find
  exact L1.andThen (L2.andThen (L4.andThen (Looks.tag .now)))
theorem xcls_entry {tk : Tok} {Q : Fin → Shared → Prop} (X : K.In s.heap) (c : XCls K D) (I : ExcAt x D s.heap) (hq : Q (.done (.ret (.ref D))) s) :
    wpAny (model prog w) A (Builtin.«object.__getattribute__» ⟨[.ref x, .str "__class__" tk], []⟩) Q E s := by
  obtain ⟨hh, g, dr, t, os⟩ := s
  have L0 := I.type (M := model prog w)
  have L1 := xcls_find (M := model prog w) (x := x) X c
  unfold Builtin.«object.__getattribute__»
  refine wpAny_bind (wpAny_pure (wpAny_bind (wpAny_pure (wpAny_bind (L0.at (wpAny_bind (L1.at ?_)))))))
  show wpAny _ _ (holding [.builtin "object.__class__"] (call (.builtin "getset_descriptor.__get__") [.builtin "object.__class__", .ref x, .ref D]) >>= ret) _ _ _
  exact wpAny_bind (wpAny_holding (wpAny_call (xcls_get X I c.mo (wpAny_pure hq))))
theorem xcls_check {M : Model} {nameV : Value} {Q : Unit → Shared → Prop} (X : K.In s.heap) (c : XCls K D) (I : ExcAt x D s.heap) (hq : Q () s) : wpAny M A (checkBuiltinCall "BaseException.__getattribute__" ⟨[.ref x, nameV], []⟩) Q E s := by
  obtain ⟨hh, g, dr, t, os⟩ := s
  have hk : builtinKind "BaseException.__getattribute__" = some .slot := by decide +kernel
  have hsplit : splitId "BaseException.__getattribute__" = some ("BaseException", "__getattribute__") := by decide +kernel
  have ha := F.args_bexc_ga (.ref x) nameV
  have L0 := I.type (M := M)
  have L1 := looks_mroIn (M := M) X c.mb
  have L2 : Looks M hh (isInstance (.ref x) (.type "BaseException")) true := L0.andThen L1
  simp only [checkBuiltinCall, hk, hsplit]
  refine wpAny_bind (L2.at ?_)
  repeat (first | wp_step)
  exact hq
theorem xcls_attr {Q : Option Value → Shared → Prop} (X : K.In s.heap) (c : XCls K D) (I : ExcAt x D s.heap) (hq : Q (some (.ref D)) { s with toks := s.toks + 1 }) : wpAny (model prog w) A (getAttr? (.ref x) "__class__") Q E s := by
  obtain ⟨hh, g, dr, t, os⟩ := s
  have L0 := I.type (M := model prog w)
  have L1 := looks_findIn (M := model prog w) X c.ga
  have L2 := looks_findIn (M := model prog w) X c.gt
  have hb := F.excAttr_ValueError.ga.bind (.ref x)
  unfold getAttr? getAttrBy? getAttrBy
  refine wpAny_bind (wpAny_mkText (wpAny_bind (wpAny_attempt (wpAny_holding (wpAny_bind (L0.at (wpAny_bind (L1.at ?_))))))))
  show wpAny _ _ (getAttrByItsOwn _ _ _ _ _ _) _ _ _
  unfold getAttrByItsOwn
  refine wpAny_bind (show wpAny _ _ (typeLookup (.ref D) "__getattr__") _ _ _ from L2.at ?_)
  refine wpAny_bind (wpAny_attempt (wpAny_holding ?_))
  show wpAny _ _ (boundAndCalled _ _ _) _ _ _
  unfold boundAndCalled
  rw [hb]
  refine wpAny_bind (wpAny_pure (wpAny_call ?_))
  refine codeAny_call_builtin F.excAttr_ValueError.ga.plain F.entry_bexc_ga (xcls_check X c I (xcls_entry X c I ?_))
  show wpAny _ _ (handedOut (.ref D)) _ _ _
  exact PySem.W.handed_on rfl (wpAny_pure hq)
theorem kitx_exc (c : XCls K D) : PySem.W.KitX K (.ref x) (.ref D) (ExcAt x D) where
  ty := fun _ _ _ I => I.type
  it := fun _ _ X _ => by
    obtain ⟨cdD, hcD⟩ := Option.isSome_iff_exists.mp c.is
    unfold PySem.W.clsIn at hcD
    split at hcD
    · rename_i c' d' cd' sl' ho
      intro A' Q' E' s' k q
      unfold isType loadHead
      exact wpAny_bind (wpAny_loadPart (k _ _ (X _ _ ho)) (wpAny_pure q))
    · cases hcD
  ne := fun h tp dd its n sl X htp => by
    obtain ⟨cdD, hcD⟩ := Option.isSome_iff_exists.mp c.is
    refine Bool.eq_false_iff.mpr fun q => ?_
    have e : D = tp := Value.ref.inj (beq_iff_eq.mp q)
    subst e
    unfold PySem.W.clsIn at hcD
    split at hcD
    · rename_i c' d' cd' sl' ho
      have z := (X _ _ ho).symm.trans htp
      cases z
    · cases hcD
  ca := fun X I k => xcls_attr X c I k
theorem xcls_matches {M : Model} {C : Addr} {b : Bool} {Q : Bool → Shared → Prop} (X : K.In s.heap) (I : ExcAt x D s.heap) (hc : PySem.W.clsIn K C ≠ none) (ht : PySem.W.typeIn K (.ref C) = some (.type "type")) (hb : PySem.W.mroIn K C (.type "BaseException") = some true)
    (hs : PySem.W.subIn K (.ref D) (.ref C) = some b) (hq : Q b s) : wpAny M A (excMatches (.ref x) (.ref C)) Q E s := by
  obtain ⟨hh, g, dr, t, os⟩ := s
  have L0 := I.type (M := M)
  have L1 := looks_typeIn (M := M) X ht
  have L2 : Looks M hh (isSubtype (.type "type") (.type "tuple")) false := Looks.of_pure (by rw [isSubtype_type]; kernel_rfl)
  have L3 : Looks M hh (isInstance (.ref C) (.type "tuple")) false := L1.andThen L2
  have L4 := looks_mroIn (M := M) X hb
  have L5 := looks_subIn (M := M) X hs
  have L6 : Looks M hh (isType (.ref C)) true := by
    obtain ⟨cdD, hcD⟩ := Option.ne_none_iff_exists'.mp hc
    unfold PySem.W.clsIn at hcD
    split at hcD
    · rename_i c' d' cd' sl' ho
      intro A' Q' E' s' k q
      unfold isType loadHead
      exact wpAny_bind (wpAny_loadPart (k _ _ (X _ _ ho)) (wpAny_pure q))
    · cases hcD
  have L7 : Looks M hh (isExcClass (.ref C)) true := L6.andThen L4
  unfold excMatches
  refine wpAny_bind (L3.at ?_)
  rw [if_neg Bool.false_ne_true]
  refine wpAny_bind (wpAny_pure ?_)
  simp only [List.forIn_cons, List.forIn_nil]
  refine wpAny_bind (wpAny_bind (wpAny_bind (L7.at ?_)))
  rw [if_neg (by decide)]
  refine wpAny_pure (wpAny_pure (wpAny_bind (L0.at (wpAny_bind (wpAny_bind (wpAny_bind (L5.at ?_)))))))
  cases b with
  | true => exact wpAny_pure (wpAny_pure (wpAny_pure hq))
  | false => exact wpAny_pure (wpAny_pure (wpAny_pure hq))
end
end L2

set_option Elab.async false
set_option linter.all false
set_option maxRecDepth 100000
set_option maxHeartbeats 1000000
namespace L2
open PySem PySem.Spec PyProof.Rows
theorem ObjOk.here {P : Program} {w : World} {H : Hp} {h : Heap} {a : Addr} {o : HO} (x : ObjOk P w H h a o) : ∃ ob, h.get? a = some ob := by
  cases o with
  | lst xs => obtain ⟨_, _, _, _, e⟩ := x; exact ⟨_, e⟩
  | tup xs => obtain ⟨_, _, _, _, ob, e, _⟩ := x; exact ⟨_, e⟩
  | dK kvs => obtain ⟨_, _, _, _, o, _, _, e, _⟩ := x; exact ⟨_, e⟩
  | dT kvs => obtain ⟨_, _, _, _, o, _, _, e, _⟩ := x; exact ⟨_, e⟩
  | set S n => obtain ⟨o, _, _, _, e, _⟩ := x; exact ⟨_, e⟩
  | ins C dx fs => obtain ⟨_, _, _, e, _⟩ := x; exact ⟨_, e⟩
  | own y => exact x
  | xd fs => obtain ⟨_, ⟨_, _, _, e, _⟩, _⟩ := x; exact ⟨_, e⟩
  | rng lo hi => obtain ⟨_, _, _, e⟩ := x; exact ⟨_, e⟩
  | frz ob u => obtain ⟨e, _⟩ := x; exact ⟨_, e⟩
  | tbl ps => exact ⟨_, (show h.get? a = some _ from x)⟩
  | met f y => exact ⟨_, (show h.get? a = some _ from x)⟩
  | ext φ => obtain ⟨_, e, _⟩ := x; exact e
structure Fly (P : Program) (w : World) (outer : List Env) (H : Hp) (s : Shared) (B : Heap) (H' : Hp) (a C : Addr) (a0 : Value) (s' : Shared) : Prop where
  os : s'.os = s.os
  bare : AllBare s'.gens
  un : Un (frs outer) [] H H' s.heap s'.heap
  hok : HOk P w H' s'.heap
  fly : Heap.FlyingW B outer a (.ref C) a0 s'.heap
  old : ∀ b o, s'.heap.get? b = some o → (∃ o', s.heap.get? b = some o') → b ∉ frs outer → B.get? b = some o
  trk : ∀ b u o, H' b = some u → s'.heap.get? b = some o → B.get? b = some o
  new : H' a = none
  fresh : s.heap.get? a = none
def CXE (P : Program) (w : World) : CXT := fun outer H s E e s' => ∃ a C H' B a0, e = .ref a ∧ Fly P w outer H s B H' a C a0 s' ∧ E (.ref C) none H'
section
variable {P : Program} {w : World} {outer : List Env} {H H' : Hp} {s s' : Shared} {B : Heap} {a C : Addr} {a0 : Value} {h6 : Heap}
theorem Fly.excAt (F : Fly P w outer H s B H' a C a0 s') : ExcAt a C s'.heap := by
  obtain ⟨_, _, _, oe, vs, _, _, _, he, hc, hd, _⟩ := F.fly
  exact ⟨oe, vs, he, hc.1, hd⟩
theorem Fly.on (F : Fly P w outer H s B H' a C a0 s') (fl : Heap.FlyingW B outer a (.ref C) a0 h6) (up : s'.heap.UpToSlots h6) : Fly P w outer H s B H' a C a0 { s' with heap := h6 } := by
  have st := fl.1
  have fr : ∀ b ∈ frs outer, ∀ o, s'.heap.get? b = some o → ∃ sl, h6.get? b = some { o with slots := sl } := fun b hb o e => by
    obtain ⟨_, o', e', hd⟩ := F.fly.2.2.1.mem hb
    rw [e] at e'
    cases e'
    exact up b o e hd
  have inB : ∀ b o, s'.heap.get? b = some o → (∃ o', s.heap.get? b = some o') → b ∉ frs outer → h6.get? b = some o := fun b o e x hb => st b o (F.old b o e x hb)
  refine ⟨F.os, F.bare, ⟨fun b o e n hb hx => ?_, fun b o e n hb hx => ?_, F.un.free, fun b o e hx => ?_, F.un.tups, F.un.frzs, F.un.tbls⟩, fun b u e => ?_, fl, fun b o e x hb => ?_, fun b u o e q => ?_, F.new, F.fresh⟩
  · exact inB b o (F.un.keep b o e n hb hx) ⟨o, e⟩ hb
  · obtain ⟨sl, e1⟩ := F.un.slot b o e n hb hx
    obtain ⟨sl', e2⟩ := fr b hb _ e1
    exact ⟨sl', e2⟩
  · obtain ⟨o', e1⟩ := F.un.there b o e hx
    by_cases hb : b ∈ frs outer
    · obtain ⟨sl, e2⟩ := fr b hb _ e1
      exact ⟨_, e2⟩
    · exact ⟨o', inB b o' e1 ⟨o, e⟩ hb⟩
  · refine (F.hok b u e).stay (fun c v hc q => ?_) (fun _ q => q) fun _ _ q => q
    have tc : ∃ u', H' c = some u' := by
      rcases hc with rfl | hc
      · exact ⟨u, e⟩
      · exact ⟨_, hc⟩
    obtain ⟨u', eu⟩ := tc
    exact st c v (F.trk c u' v eu q)
  · obtain ⟨o', ho'⟩ := x
    obtain ⟨o1, e1⟩ := F.un.there b o' ho' (by simp)
    have z := F.old b o1 e1 ⟨o', ho'⟩ hb
    have z2 : h6.get? b = some o1 := st b o1 z
    rw [show h6.get? b = some o from e] at z2
    cases z2
    exact z
  · obtain ⟨o1, e1⟩ := (F.hok b u e).here
    have z := F.trk b u o1 e e1
    have z2 : h6.get? b = some o1 := st b o1 z
    rw [show h6.get? b = some o from q] at z2
    cases z2
    exact z
end
theorem frs_cons {env : Env} {outer : List Env} {L : Addr} (h : env.frame = some L) : frs (env :: outer) = L :: frs outer := by
  unfold frs
  rw [List.filterMap_cons, h]
section
variable {X : Cx} {pins : List (Addr × Obj)} {σ : St} {H H' : Hp} {s s' : Shared} {B : Heap} {a C : Addr} {a0 : Value}
theorem Inv.caught (I : Inv X pins σ H s) (F : Fly X.prog X.w X.stack H s B H' a C a0 s') : Inv X pins σ H' s' := by
  obtain ⟨hh, g, d, t, os'⟩ := s'
  obtain rfl : os' = s.os := F.os
  exact I.call (h' := hh) (g' := g) (d' := d) (t' := t) (ch := []) F.un F.hok F.bare (fun b z => absurd z (by simp))
theorem Inv.flies (I : Inv X pins σ H s) (hx : X.ex = []) (hs : X.stack = X.env :: X.outer) (hf : X.env.frame = some X.env.locals) (F : Fly X.prog X.w X.stack H s B H' a C a0 s') (fl : Heap.FlyingW B X.outer a (.ref C) a0 s'.heap) :
    Fly X.prog X.w X.outer X.H₀ X.s₀ B H' a C a0 s' := by
  have u := F.un
  have ol := F.old
  rw [hs, frs_cons hf] at u ol
  have nex : ∀ b : Addr, b ∉ X.ex := fun b => by rw [hx]; simp
  have neL : ∀ b o, X.s₀.heap.get? b = some o → b ≠ X.env.locals := fun b o e => Nat.ne_of_lt (Nat.lt_of_lt_of_le (Heap.lt_size e) I.ok.above)
  refine ⟨F.os.trans I.os, F.bare, ⟨fun b o e n hb _ => ?_, fun b o e n hb _ => ?_, fun b o e n _ => ?_, fun b o e _ => ?_, fun b xs e => u.tups b xs (I.base.tups b xs e), fun b o v e => u.frzs b o v (I.base.frzs b o v e), fun b ps e => ?_⟩, F.hok, fl, fun b o e x hb => ?_, F.trk, F.new, ?_⟩
  · exact u.keep b o (I.base.keep b o e n hb (nex b)) (I.base.free b o e n (nex b)) (by simp [neL b o e]; exact hb) (by simp)
  · obtain ⟨sl, e1⟩ := I.base.slot b o e n hb (nex b)
    obtain ⟨sl', e2⟩ := u.slot b _ e1 (I.base.free b o e n (nex b)) (List.mem_cons_of_mem _ hb) (by simp)
    exact ⟨sl', e2⟩
  · obtain ⟨o', e1⟩ := I.base.there b o e (nex b)
    exact u.free b o' e1 (I.base.free b o e n (nex b)) (by simp)
  · obtain ⟨o', e1⟩ := I.base.there b o e (nex b)
    exact u.there b o' e1 (by simp)
  · obtain ⟨m1, e1⟩ := I.base.tbls b ps e
    obtain ⟨m2, e2⟩ := u.tbls b _ e1
    exact ⟨m1 ++ m2, by rw [e2, Array.append_assoc]⟩
  · obtain ⟨o', ho'⟩ := x
    obtain ⟨o1, e1⟩ := I.base.there b o' ho' (nex b)
    exact ol b o e ⟨o1, e1⟩ (by simp [neL b o' ho']; exact hb)
  · cases q : X.s₀.heap.get? a with
    | none => rfl
    | some o =>
      obtain ⟨o', e⟩ := I.base.there a o q (nex a)
      rw [F.fresh] at e
      cases e
theorem Inv.made' {h' : Heap} {args : List Value} (I : Inv X pins σ H s) (hs : X.stack = X.env :: X.outer) (hf : X.env.frame = some X.env.locals) (hm : Heap.MadeExcOf s.heap h' a (.ref C) args) {Q : Unit → Shared → Prop} {E : Value → Shared → Prop}
    (k : ∀ B a0 s', Fly X.prog X.w X.stack H s B H a C a0 s' → Heap.FlyingW B X.outer a (.ref C) a0 s'.heap → Q () s') {M : Model} : wpAny M X.A (leaving X.env (.ref a)) Q E { s with heap := h' } := by
  have fr := I.stack
  rw [hs] at fr
  have hfr := I.ok.frames
  rw [hs] at hfr
  have hin : ∀ env ∈ (X.env :: X.outer), ∀ b, env.frame = some b → b ∈ frs (X.env :: X.outer) := fun env he b hb => List.mem_filterMap.mpr ⟨env, he, hb⟩
  refine wpAny_leaves_madeW (base := PySem.W.hideAll s.heap (frs (X.env :: X.outer))) hfr hf (fun b o q => PySem.W.of_hideAll _ q) (PySem.W.funFrames_hide fr hin) hm fun h'' t x1 x2 x3 x4 => ?_
  have ha : H a = none := by
    cases q : H a with
    | none => rfl
    | some u =>
      obtain ⟨o, e⟩ := (I.hok a u q).here
      rw [hm.new] at e
      cases e
  have st := x1.1
  have hd : ∀ b o, s.heap.get? b = some o → b ∉ frs (X.env :: X.outer) → (PySem.W.hideAll s.heap (frs (X.env :: X.outer))).get? b = some o := fun b o e n => PySem.W.hideAll_get _ e n
  have frm : ∀ b ∈ frs (X.env :: X.outer), ∀ o, s.heap.get? b = some o → ∃ sl, h''.get? b = some { o with slots := sl } := fun b hb o e => by
    obtain ⟨_, o', e', hdt⟩ := fr.mem hb
    rw [e] at e'
    cases e'
    exact x4 b o (hm.keeps b o e) hdt
  have nt : ∀ b u, H b = some u → b ∉ frs (X.env :: X.outer) := fun b u e hb => by
    have z := I.stkFree b (by rw [hs]; exact hb)
    rw [e] at z
    cases z
  refine k (PySem.W.hideAll s.heap (frs (X.env :: X.outer))) (.ref t) { s with heap := h'' } ?_ x1
  rw [hs]
  refine ⟨rfl, I.bare, ⟨fun b o e n hb _ => st b o (hd b o e hb), fun b o e n hb _ => frm b hb o e, fun _ _ _ n _ => n, fun b o e _ => ?_, fun _ _ e => e, fun _ _ _ e => e, fun b ps e => ⟨#[], by rw [e]; simp⟩⟩, fun b u e => ?_, ?_, fun b o e x hb => ?_, fun b u o e q => ?_, ha, hm.new⟩
  · by_cases hb : b ∈ frs (X.env :: X.outer)
    · obtain ⟨sl, q⟩ := frm b hb o e
      exact ⟨_, q⟩
    · exact ⟨o, st b o (hd b o e hb)⟩
  · refine (I.hok b u e).stay (fun c v hc q => ?_) (fun _ q => q) fun _ _ q => q
    refine st c v (hd c v q ?_)
    rcases hc with rfl | hc
    · exact nt _ _ e
    · exact nt _ _ hc
  · obtain ⟨k1, k2, k3, k4⟩ := x1
    refine ⟨k1, k2, ?_, k4⟩
    have ff : h''.FunFrames (PySem.W.hideAll s.heap (frs (X.env :: X.outer))) (X.env :: X.outer) := by
      have f0 := PySem.W.funFrames_hide fr hin
      refine f0.of_keeps fun b o e hdt => ?_
      by_cases hb : b ∈ frs (X.env :: X.outer)
      · obtain ⟨sl, q⟩ := frm b hb o e
        exact ⟨_, q, rfl⟩
      · exact ⟨o, st b o (hd b o e hb), rfl⟩
    exact ff
  · obtain ⟨o', e'⟩ := x
    have z := hd b o' e' hb
    have z2 : h''.get? b = some o' := st b o' z
    rw [show h''.get? b = some o from e] at z2
    cases z2
    exact z
  · obtain ⟨o1, e1⟩ := (I.hok b u e).here
    have z := hd b o1 e1 (nt b u e)
    have z2 : h''.get? b = some o1 := st b o1 z
    rw [show h''.get? b = some o from q] at z2
    cases z2
    exact z
end
def Throws (X : Cx) (E : XK) : Prop := ∀ (pins : List (Addr × Obj)) (σ : St) (H : Hp) (s : Shared) (h' : Heap) (a C : Addr) (args : List Value), Inv X pins σ H s → Heap.MadeExcOf s.heap h' a (.ref C) args → E (.ref C) none H → X.xe (.ref a) { s with heap := h' }
section
variable {P : Program} {w : World} {K : PySem.W.Frag} {mg : Str → Option Value} {base : Heap} {N : List Str} {qual : Str} {scope : Scope} {f : Addr} {cd : Value} {A : Around} {outer : List Env} {s : Shared} {H : Hp} {E : XK}
theorem throws_cx : Throws (cxOf (CXE P w) P w K mg base N qual scope f cd A outer s H E) E := by
  intro pins σ H1 s1 h' a C args I hm e
  exact I.made' rfl rfl hm fun B a0 s' F fl => ⟨a, C, H1, B, a0, rfl, I.flies rfl rfl rfl F fl, e⟩
theorem passE0 {X : Cx} : Passes (CXE X.prog X.w) X E0 := by
  rintro pins σ H1 s1 ev s' I ⟨a, C, H', B, a0, rfl, F, e⟩
  exact e.elim
end
theorem Fun.okX {P : Program} {w : World} {K : PySem.W.Frag} {mg : Str → Option Value} {base : Heap} {x qual : Str} {st : Stmt} {f : Addr} {fd : FuncData} {N ps : List Str} {k : Nat} {sp : Sp} (F : Fun K x qual st f fd) (S : FnScope N ps (defScope st)) (len : ∀ vs H Q E, sp vs H Q E → vs.length = ps.length)
    (hbody : ∀ (cdv : Value) (A : Around) (outer : List Env) (s : Shared) (H : Hp) (vs : List V) (Q : VK) (E : XK), Room k (A.deeper (envOfC qual (defScope st) s.heap.objs.size f cdv)) → sp vs H Q E →
      ∃ t, PSs (cxOf (CXE P w) P w K mg base N qual (defScope st) f cdv A outer s H E) (defBody st) t ∧ t { nx := fun _ H' => Q .non H', rt := Q } (start N vs) H) : FnOk P w K mg base (CXE P w) (k + 1) f fd ps sp := by
  obtain ⟨oc, od, kV, doc, pm, an, cdv, ct, osl, rfl, lk, hcd⟩ := F.ex
  exact fn_of lk hcd S len fun A outer s H vs Q E hr hsp => hbody cdv A outer s H vs Q E hr hsp
abbrev bmVE : List Value := [.type "ValueError", .type "Exception", .type "BaseException", .type "object"]
structure XRaise (K : PySem.W.Frag) (mg : Str → Option Value) (x : Str) (C : Addr) : Prop where
  at_ : mg x = some (.ref C)
  ex : PySem.W.excIn K C bmVE "ValueError.__new__" = true
theorem XRaise.own {K : PySem.W.Frag} {mg : Str → Option Value} {x : Str} {C : Addr} {h : Heap} (R : XRaise K mg x C) (X : K.In h) : OwnCls x C bmVE "ValueError.__new__" mg h := by
  refine ⟨R.at_, ?_⟩
  have q := R.ex
  unfold PySem.W.excIn at q
  split at q
  · rename_i dd cd sl ho
    split at q
    · rename_i C' bm k0 k1 k2 k3 n k5 hm hs
      simp only [Bool.and_eq_true, beq_iff_eq, Bool.not_eq_true'] at q
      obtain ⟨⟨⟨⟨⟨rfl, rfl⟩, hdel⟩, ht⟩, hok⟩, hni⟩ := q
      obtain ⟨nm, bs, mro, ns, qn, hd, sn, sub, ab, col, del⟩ := cd
      dsimp only at hm hdel hok hni
      subst hm hdel
      have hsl : sl = #[k0, k1, k2, k3, some (.builtin "ValueError.__new__"), k5] := by
        obtain ⟨l⟩ := sl
        simp only at hs
        rw [hs]
      subst hsl
      exact ⟨bm, ns, nm, qn, bs, hd, sn, sub, ab, col, dd, k0, k1, k2, k3, k5, _, X _ _ ho, .of_isNs (PySem.W.isNs_of_in X hok), PySem.W.nsMap_none_of_in X hok hni, PySem.W.tail_of_in X ht⟩
    · cases q
  · cases q
def tRaise (E : XK) (C : Addr) (t : TA) : TS := fun _ σ H => t σ H fun vs H1 => vs.length ≤ sizeLine ∧ E (.ref C) none H1
theorem ps_raise {X : Cx} {E : XK} {k : Nat} {x : Str} {C : Addr} {e₀ : Expr} {rest : List Expr} {np cpos pos : Pos} {t : TA} (T : Throws X E) (hr : Room k X.A) (hg : Gl X x) (R : XRaise X.K X.mg x C) (ha : PA X (e₀ :: rest) t)
    (he : starEach (e₀ :: rest) X.env = (false, eval e₀ X.env) :: starEach rest X.env := by rfl) (hpl : (backTo cpos (starEach rest X.env)).any (·.1) = false := by rfl) (hd : (x == ("__debug__" : Str)) = false := by decide) :
    PS X (.Raise (some (.Call (.Name x np) (e₀ :: rest) [] cpos)) none pos) (tRaise E C t) := by
  intro pins s σ H D I h
  obtain ⟨tl, N, nm, q, bs, hdct, sn, sub, ab, col, dd, k0, k1, k2, k3, k5, mN, hC, hN, hni, TL⟩ := (R.own I.mod.kin).obj
  refine wpAny_Raise_call_subT (C := C) (nm := nm) (q := q) (N := N) (bs := bs) (bm := tl) (hdct := hdct) (sn := sn) (sub := sub) (ab := ab) (col := col) (dd := dd) (k0 := k0) (k1 := k1) (k2 := k2) (k3 := k3) (k5 := k5)
    PySem.F.excBase_ValueError (mN := mN) (TL.hasType PySem.F.excBase_ValueError.hasBase) hr.hd (by rw [he]; show (false || (backTo cpos (starEach rest X.env)).any (·.1)) = false; rw [hpl]; rfl) hni (ld_glob I hg R.at_ ⟨rfl, ?_⟩ hd)
  have h0 := ha cpos pins s σ H _ I h
  rw [he] at h0 ⊢
  exact Calls.evalArgs_plain (wpAny_mono h0 (fun us s₂ ⟨vs, H1, I1, r, z, q⟩ => ⟨rfl, by rw [← r.length]; exact z, I1.bk _ _ hC, hN.keeps I1.bk, TL.keeps I1.bk, fun h' e hm => T pins σ H1 s₂ h' e C us I1 hm q⟩) fun _ _ y => y)

abbrev Cx.suite (X : Cx) (a : Addr) : Cx := { X with A := X.A.mark (some (.ref a)), calm := false }
theorem Cx.Ok.suite {X : Cx} (ok : X.Ok) (a : Addr) : (X.suite a).Ok :=
  ⟨ok.mod, ok.kind, ok.glob, ok.blt, ok.above, ok.inj, ok.has, ok.cab, (fun z => nomatch z), ok.frames, ok.stk, ok.exf, ok.bs, ok.bsz, ok.noex, ok.exfs, ok.funs, ok.frf⟩
section
variable {X : Cx} {pins : List (Addr × Obj)} {σ : St} {H : Hp} {s : Shared} {a : Addr}
theorem Inv.suite (I : Inv X pins σ H s) (a : Addr) : Inv (X.suite a) pins σ H s := ⟨I.ok.suite a, I.os, I.bare, I.base, I.loc, I.cell, I.free, I.freeC, I.pin, I.hok, I.len⟩
theorem Inv.unsuite (ok : X.Ok) (I : Inv (X.suite a) pins σ H s) : Inv X pins σ H s := ⟨ok, I.os, I.bare, I.base, I.loc, I.cell, I.free, I.freeC, I.pin, I.hok, I.len⟩
theorem Inv.blank {h' : Heap} {m' : Str → Option Value} {t' : Nat} (I : Inv X pins σ H s) (hn' : h'.Ns X.env.locals m') (hs : Heap.SameBut X.env.locals s.heap h') : Inv X pins (List.replicate X.N.length none) H { s with heap := h', toks := t' } := by
  obtain ⟨m, hn, _⟩ := I.loc
  obtain ⟨oL, _, _, hoL, _⟩ := id hn
  refine ⟨I.ok, I.os, I.bare, ⟨fun b o e n hb hx => ?_, fun b o e n hb hx => ?_, I.base.free, fun b o e hx => ?_, I.base.tups, I.base.frzs, I.base.tbls⟩, ⟨_, hn', fun j y v' e1 e2 e3 => ?_⟩, fun y c e => ?_, I.free, I.freeC, fun p hp => ?_, fun b ob e => ?_, by simp⟩
  · exact (hs.2 b (Nat.ne_of_lt (Nat.lt_of_lt_of_le (Heap.lt_size e) I.ok.above))).trans (I.base.keep b o e n hb hx)
  · obtain ⟨sl, e1⟩ := I.base.slot b o e n hb hx
    exact ⟨sl, (hs.2 b (Nat.ne_of_lt (Nat.lt_of_lt_of_le (Heap.lt_size e) I.ok.above))).trans e1⟩
  · obtain ⟨o', e1⟩ := I.base.there b o e hx
    exact ⟨o', (hs.2 b (Nat.ne_of_lt (Nat.lt_of_lt_of_le (Heap.lt_size e) I.ok.above))).trans e1⟩
  · rw [List.getElem?_replicate] at e2
    split at e2 <;> cases e2
  · obtain ⟨w', z⟩ := I.cell y c e
    exact ⟨w', z.sameBut hs (I.cne y c e)⟩
  · obtain ⟨e, n, ne, nf, d⟩ := I.pin p hp
    exact ⟨(hs.2 p.1 ne).trans e, n, ne, nf, d⟩
  · refine (I.hok b ob e).stay (fun c w' hc q => (hs.2 c ?_).trans q) (fun _ q => q) fun _ _ q => q
    rintro rfl
    rcases hc with rfl | hc
    · rw [I.free] at e; cases e
    · rw [I.free] at hc; cases hc
end
def excO (a D : Addr) : HO := .ext (ExcAt a D)
theorem excO_ok {P : Program} {w : World} {H : Hp} {h : Heap} {a D : Addr} (x : ExcAt a D h) : ObjOk P w H h a (excO a D) := by
  obtain ⟨o, vs, e, c, d⟩ := x
  exact ⟨⟨o, vs, e, c, d⟩, ⟨o, e⟩, fun h1 h2 ⟨o1, vs1, e1, c1, d1⟩ k => ⟨o1, vs1, k _ e1, c1, d1⟩⟩
theorem Inv.hold {X : Cx} {pins : List (Addr × Obj)} {σ : St} {H : Hp} {s : Shared} {a D : Addr} (I : Inv X pins σ H s) (x : ExcAt a D s.heap) (hn : H a = none) (hs : X.s₀.heap.get? a = none) (hL : a ≠ X.env.locals) (hc : ∀ x c, X.env.cells.lookup x = some c → c ≠ a) (hp : ∀ p ∈ X.pn ++ pins, p.1 ≠ a) :
    Inv X pins σ (upd H a (excO a D)) s := by
  have ne0 : ∀ b o, X.s₀.heap.get? b = some o → b ≠ a := fun b o e z => by rw [z, hs] at e; cases e
  refine ⟨I.ok, I.os, I.bare, ⟨I.base.keep, I.base.slot, fun b o e n hx => ?_, I.base.there, fun b xs e => ?_, fun b o u e => ?_, fun b ps e => ?_⟩, I.loc, I.cell, ?_, fun x c e => ?_, fun p hp' => ?_, fun b u e => ?_, I.len⟩
  · rw [upd_ne (ne0 b o e)]; exact I.base.free b o e n hx
  · rw [upd_ne (ne_of_none (I.base.tups b xs e) hn)]; exact I.base.tups b xs e
  · rw [upd_ne (ne_of_none (I.base.frzs b o u e) hn)]; exact I.base.frzs b o u e
  · obtain ⟨more, z⟩ := I.base.tbls b ps e
    exact ⟨more, by rw [upd_ne (ne_of_none z hn)]; exact z⟩
  · rw [upd_ne (Ne.symm hL)]; exact I.free
  · rw [upd_ne (hc x c e)]; exact I.freeC x c e
  · obtain ⟨e1, e2, e3⟩ := I.pin p hp'
    exact ⟨e1, by rw [upd_ne (hp p hp')]; exact e2, e3⟩
  · by_cases hb : b = a
    · subst hb
      rw [upd_same] at e
      cases e
      exact excO_ok x
    · rw [upd_ne hb] at e
      exact (I.hok b u e).stay (fun _ _ _ q => q) (fun c q => by rw [upd_ne (ne_of_none q hn)]; exact q) fun c xs q => by rw [upd_ne (ne_of_none q hn)]; exact q
structure XCatch (K : PySem.W.Frag) (mg : Str → Option Value) (x : Str) (C : Addr) : Prop where
  at_ : mg x = some (.ref C)
  is : PySem.W.clsIn K C ≠ none
  ty : PySem.W.typeIn K (.ref C) = some (.type "type")
  mb : PySem.W.mroIn K C (.type "BaseException") = some true
def tTry (sp : Sp) (t : TA) (i : Nat) (K : PySem.W.Frag) (C : Addr) (ts : TS) : TS := fun D σ H => t σ H fun vs H1 => sp vs H1 (fun _ H2 => D.nx σ H2) fun c _ H2 =>
  ∃ D', c = .ref D' ∧ PySem.W.subIn K (.ref D') (.ref C) = some true ∧ ∀ a, H2 a = none → ts { nx := fun _ _ => False, rt := D.rt } (σ.set i (some (.ref a))) (upd H2 a (excO a D'))
section
variable {X : Cx} {CX : CXT} {x y n : Str} {j k i : Nat} {ps : List Str} {sp : Sp} {p pos tpos hpos np epos : Pos} {e : Expr} {es : List Expr} {t : TA} {C : Addr} {b₀ : Stmt} {suite : List Stmt} {ts : TS}
theorem ps_try (hcalm : X.calm = true) (hxe : X.xe = fun _ _ => False) (hstk : X.stack = X.env :: X.outer) (hfr : X.env.frame = some X.env.locals)
    (F : Cal X.prog X.w X.K X.mg X.base (CXE X.prog X.w) x j ps sp) (hr : Room k X.A) (hg : Gl X x) (ha : PA X (e :: es) t) (hgy : Gl X y) (c : XCatch X.K X.mg y C) (hN : X.N.Nodup) (hi : X.N[i]? = some n) (hlo : X.env.scope.names.lookup n = some .local) (hex : X.ex = [])
    (hsu : ∀ a, PSs (X.suite a) (b₀ :: suite) ts) (hj : j ≤ k := by decide) (hdb : (x == ("__debug__" : Str)) = false := by decide) (hdy : (y == ("__debug__" : Str)) = false := by decide)
    (he : starEach (e :: es) X.env = (false, eval e X.env) :: starEach es X.env := by rfl) (hpl : (backTo pos (starEach es X.env)).any (·.1) = false := by rfl) (hsw : swapsWith (.Call (.Name x p) (e :: es) [] pos) none epos.line X.env = pure false := by rfl) :
    PS X (.Try [.Expr (.Call (.Name x p) (e :: es) [] pos) epos] [.ExceptHandler (some (.Name y np)) (some n) (b₀ :: suite) hpos] [] [] tpos) (tTry sp t i X.K C ts) := by
  intro pins s σ H D I h
  obtain ⟨f, fd, Fk, hb, kp, m⟩ := F.ex
  have hr' := hr.mono hj
  refine wpAny_Try_except (wpAny_execs_cons (wpAny_Expr_any ?_ I.quiet hsw))
  refine wpAny_Call_Name_kw (ld_glob I hg m ?_ hdb)
  refine PySem.W.callWith_K (h₀ := X.base) I.ok.mod.kin kp (wpAny_mono (ha pos pins s σ H _ I h) (fun us s1 ⟨vs, H1, I1, r, q⟩ => ⟨I1.kIn, ?_⟩) (fun _ _ z => by rw [hxe] at z; exact z.elim)) he hpl
  have hl : us.length = ps.length := by rw [← r.length]; exact Fk.len _ _ _ _ q
  have hb' := hb s1 us I1.kIn (by rw [List.append_nil]; exact hl)
  rw [List.append_nil] at hb'
  refine wpAny_call (codeAny_mono (Fk.run X.A X.stack s1 H1 ⟨us, []⟩ us vs _ _ hr' I1.env0 hb' r q) fun res s' hq => ?_)
  cases res with
  | ok fl =>
    cases fl with
    | ret u =>
      obtain ⟨v, H2, I2, rv, q2⟩ := I1.after hq
      exact wpAny_execs_nil (wpAny_execs_nil ⟨σ, H2, I2, q2⟩)
    | next => exact False.elim hq
    | brk => exact False.elim hq
    | cont => exact False.elim hq
  | error ev =>
    obtain ⟨a, D', H2, B, a0, rfl, Fl, ⟨D2, hD, hsub, q2⟩⟩ := hq
    cases hD
    have hfr2 : X.A.frames = some (X.env :: X.outer) := by rw [← hstk]; exact I.ok.frames
    have Fl1 := Fl
    rw [hstk] at Fl1
    refine wpAny_looks_onW hfr2 hfr Fl1.fly fun h4 held4 up4 => ?_
    refine wpAny_landsW held4 fun h5 fl5 up5 => ?_
    have F5 : Fly X.prog X.w X.stack H1 s1 B H2 a D' a0 { s' with heap := h5 } := by
      rw [hstk]
      exact Fl1.on fl5 (up4.trans up5)
    have I5 := I1.caught F5
    have hsa : s1.heap.get? a = none := Fl.fresh
    have hsa0 : X.s₀.heap.get? a = none := by
      cases q0 : X.s₀.heap.get? a with
      | none => rfl
      | some o0 =>
        obtain ⟨o', e'⟩ := I1.base.there a o0 q0 (by rw [hex]; simp)
        rw [hsa] at e'
        cases e'
    refine wpAny_handleBy_cons (codeAny_handlers_test (ld_glob (X := X.suite a) (I5.suite a) hgy c.at_ ?_ hdy)) (by intro z; cases z)
    refine xcls_matches I5.kIn F5.excAt c.is c.ty c.mb hsub ?_
    refine codeAny_handlers_suite_as ?_
    have fl5' := F5.fly
    refine lands_againW fl5' fun h6 fl6 up6 => ?_
    have F6 : Fly X.prog X.w X.stack H1 s1 B H2 a D' a0 { s' with heap := h6 } := F5.on fl6 up6
    have I6 := I1.caught F6
    have hne : ∀ b o, s1.heap.get? b = some o → b ≠ a := fun b o e z => by rw [z, hsa] at e; cases e
    obtain ⟨m1, ⟨oL, _, _, hoL, _⟩, _⟩ := id I1.loc
    have J6 := I6.hold F6.excAt F6.new hsa0 (hne _ _ hoL).symm (fun x c e => by
      obtain ⟨v, o, ho, _⟩ := I1.cell x c e
      exact hne _ _ ho) (fun p hp => hne _ _ (I1.pin p hp).1)
    refine store_ok J6 hN hi (.inl hlo) (v := .ref a) rfl (fun s7 I7 => ?_) (.inr hlo)
    refine wpAny_mono (hsu a pins s7 _ _ { nx := fun _ _ => False, rt := D.rt } (I7.suite a) (q2 a F6.new)) (fun fl s8 hq8 => ?_) (fun _ _ z => by
      have z' : X.xe _ _ := z
      rw [hxe] at z'
      exact z'.elim)
    cases fl with
    | ret u =>
      obtain ⟨v, σ8, H8, I8, r8, q8⟩ := hq8
      have I9 := I8.unsuite I.ok
      obtain ⟨m8, hn8, _⟩ := id I9.loc
      exact wpAny_nameGoes hlo hn8 (by rw [I.ok.kind]; rfl) fun h9 m9 hn9 hs9 => ⟨v, _, H8, I9.blank hn9 hs9, r8, q8⟩
    | next => obtain ⟨_, _, _, z⟩ := hq8; exact z.elim
    | brk => obtain ⟨_, _, _, z⟩ := hq8; exact z.elim
    | cont => obtain ⟨_, _, _, z⟩ := hq8; exact z.elim
end
end L2

set_option Elab.async false
set_option linter.all false
set_option maxRecDepth 100000
set_option maxHeartbeats 1000000
namespace L2
open PySem PySem.Spec PyProof.Rows
def rIsiX (K : PySem.W.Frag) : List V → Hp → VK → Prop := fun xs H Q => ∃ a D b, H a = some (excO a D) ∧ XCls K D ∧ ((∃ C, xs = [.ref a, .ref C] ∧ PySem.W.kitOne K (.ref D) (.ref C) = some b) ∨ (∃ T, xs = [.ref a, .ty T] ∧ PySem.W.kitOne K (.ref D) (.type T) = some b) ∨
  ∃ (p : Addr) (cs : List Addr), xs = [.ref a, .ref p] ∧ H p = some (.tup (cs.map V.ref)) ∧ PySem.W.kitAny K (.ref D) (cs.map Value.ref) = some b) ∧ Q (.bl b) H
theorem vals_refs : ∀ {cs : List Addr} {us : List Value}, Vals (cs.map V.ref) us → us = cs.map Value.ref
  | [], _, .nil => rfl
  | c :: cs, _, .cons r t => by
    cases r
    rw [List.map_cons, vals_refs t]
section
variable {X : Cx} {K : PySem.W.Frag}
theorem call_isiX (hK : X.K = K) : CallR X (.builtin "isinstance") (rIsiX K) := by
  subst hK
  intro pins s σ H xs us Q I r h
  obtain ⟨a, D, b, ha, c, h, q⟩ := h
  have ok := I.hok a _ ha
  have fin : ∀ tk, EP X pins σ Q (.bool b) { s with toks := tk } := fun tk => ⟨.bl b, H, I.tok tk, rfl, q⟩
  rcases h with ⟨C, rfl, e⟩ | ⟨T, rfl, e⟩ | ⟨p, cs, rfl, hp, e⟩
  · obtain ⟨u, u', rfl, r1, r2⟩ := vals2 r
    cases r1
    cases r2
    exact PySem.W.kia_one (kitx_exc c) I.kIn ok.1 e (fun z => nomatch z) fin
  · obtain ⟨u, u', rfl, r1, r2⟩ := vals2 r
    cases r1
    obtain rfl : u' = Value.type T := r2
    exact PySem.W.kia_one (kitx_exc c) I.kIn ok.1 e (fun z => nomatch z) fin
  · obtain ⟨u, u', rfl, r1, r2⟩ := vals2 r
    cases r1
    cases r2
    obtain ⟨_, its, rv, ⟨⟨cl, dd, dt, sl⟩, ho, hc, n, hd⟩, _⟩ := (show ObjOk X.prog X.w H s.heap p (.tup (cs.map V.ref)) from I.hok p _ hp)
    have hc' : cl = .type "tuple" := hc
    have hd' : dt = .seq its.toArray n := hd
    subst hc' hd'
    rw [vals_refs rv] at ho
    exact PySem.W.kia_tup (kitx_exc c) I.kIn ok.1 ho e (fun z => nomatch z) fin
theorem isiX_one {K : PySem.W.Frag} {H : Hp} {a D C : Addr} {b : Bool} {Q : VK} (ha : H a = some (excO a D)) (c : XCls K D) (e : PySem.W.kitOne K (.ref D) (.ref C) = some b) (q : Q (.bl b) H) : rIsiX K [.ref a, .ref C] H Q := ⟨a, D, b, ha, c, .inl ⟨C, rfl, e⟩, q⟩
theorem isiX_ty {K : PySem.W.Frag} {H : Hp} {a D : Addr} {T : String} {b : Bool} {Q : VK} (ha : H a = some (excO a D)) (c : XCls K D) (e : PySem.W.kitOne K (.ref D) (.type T) = some b) (q : Q (.bl b) H) : rIsiX K [.ref a, .ty T] H Q := ⟨a, D, b, ha, c, .inr (.inl ⟨T, rfl, e⟩), q⟩
end
structure RoomS (k : Nat) (A : Around) : Prop where
  dp : A.depth + 3 * k + 5 < recursionLimit
  un : A.units + 16 * k + 200 < cLine
theorem Room.toS {k : Nat} {A : Around} (r : Room k A) : RoomS k A := ⟨r.dp, r.un⟩
theorem Room.suite {k : Nat} {A : Around} (r : Room k A) (v : Option Value) : RoomS k (A.mark v) := ⟨r.dp, r.un⟩
theorem RoomS.mono {j k : Nat} {A : Around} (r : RoomS k A) (h : j ≤ k) : RoomS j A := ⟨by have := r.dp; omega, by have := r.un; omega⟩
theorem RoomS.deeper {k : Nat} {A : Around} (r : RoomS (k + 1) A) (env : Env) : RoomS k (A.deeper env) :=
  ⟨by have := r.dp; show A.depth + 1 + 3 * k + 5 < _; omega, by have := r.un; show A.units + 3 + 16 * k + 200 < _; omega⟩
structure FnOkS (P : Program) (w : World) (K : PySem.W.Frag) (mg : Str → Option Value) (base : Heap) (CX : CXT) (k : Nat) (f : Addr) (fd : FuncData) (ps : List Str) (sp : Sp) : Prop where
  len : ∀ vs H Q E, sp vs H Q E → vs.length = ps.length
  run : ∀ (A : Around) (outer : List Env) (s : Shared) (H : Hp) (args : Args) (us : List Value) (vs : List V) (Q : VK) (E : XK), RoomS k A → Env0 P w K mg base A outer s H → BindsTo s fd args (ps.zip us) → Vals vs us → sp vs H Q E →
    codeAny (model P w) A (.call (.ref f) args) (CR CX outer P w H s Q E) s
theorem FnOkS.fn {P : Program} {w : World} {K : PySem.W.Frag} {mg : Str → Option Value} {base : Heap} {CX : CXT} {k : Nat} {f : Addr} {fd : FuncData} {ps : List Str} {sp : Sp} (F : FnOkS P w K mg base CX k f fd ps sp) : FnOk P w K mg base CX k f fd ps sp :=
  ⟨F.len, fun A outer s H args us vs Q E hr => F.run A outer s H args us vs Q E hr.toS⟩
structure CalS (P : Program) (w : World) (K : PySem.W.Frag) (mg : Str → Option Value) (base : Heap) (CX : CXT) (x : Str) (k : Nat) (ps : List Str) (sp : Sp) : Prop where
  ex : ∃ f fd, FnOkS P w K mg base CX k f fd ps sp ∧ Binds K fd ps [] ∧ PySem.W.keepIn K (.ref f) = true ∧ mg x = some (.ref f)
abbrev Cx.any (X : Cx) (A : Around) : Cx := { X with A := A, calm := false }
theorem Inv.any {X : Cx} {pins : List (Addr × Obj)} {σ : St} {H : Hp} {s : Shared} (I : Inv X pins σ H s) {A : Around} (hf : A.frames = some X.stack) : Inv (X.any A) pins σ H s :=
  ⟨⟨I.ok.mod, I.ok.kind, I.ok.glob, I.ok.blt, I.ok.above, I.ok.inj, I.ok.has, I.ok.cab, (fun z => nomatch z), hf, I.ok.stk, I.ok.exf, I.ok.bs, I.ok.bsz, I.ok.noex, I.ok.exfs, I.ok.funs, I.ok.frf⟩, I.os, I.bare, I.base, I.loc, I.cell, I.free, I.freeC, I.pin, I.hok, I.len⟩
theorem pe_callN {X : Cx} {x : Str} {j k : Nat} {ps : List Str} {sp : Sp} {p pos : Pos} {e : Expr} {es : List Expr} {t : TA} (C : Cal X.prog X.w X.K X.mg X.base (CXE X.prog X.w) x j ps sp) (hr : Room k X.A) (hg : Gl X x) (ha : PA X (e :: es) t) (hj : j ≤ k := by decide) (hdb : (x == ("__debug__" : Str)) = false := by decide)
    (he : starEach (e :: es) X.env = (false, eval e X.env) :: starEach es X.env := by rfl) (hpl : (backTo pos (starEach es X.env)).any (·.1) = false := by rfl) :
    PE X (.Call (.Name x p) (e :: es) [] pos) (tCall sp [] E0 t) := pe_callX C hr hg passE0 ha hj hdb he hpl
end L2

set_option Elab.async false
set_option linter.all false
set_option maxRecDepth 100000
namespace L2
open PySem PySem.Spec PyProof.Rows
def noStar : Expr → Bool
  | .Starred _ _ => false
  | _ => true
theorem star1 {e : Expr} {es : List Expr} {env : Env} (h : noStar e = true) : starEach (e :: es) env = (false, eval e env) :: starEach es env := by
  cases e <;> first | rfl | cases h
theorem star1' {e : Expr} {env : Env} (h : noStar e = true) : starEach [e] env = [(false, eval e env)] := by rw [star1 h]; rfl
theorem nost0 {env : Env} {pos : Pos} : (backTo pos (starEach [] env)).any (·.1) = false := rfl
theorem nost1 {e : Expr} {es : List Expr} {env : Env} {pos : Pos} (h : noStar e = true) (r : (backTo pos (starEach es env)).any (·.1) = false) : (backTo pos (starEach (e :: es) env)).any (·.1) = false := by
  rw [star1 h]
  show (false || (backTo pos (starEach es env)).any (·.1)) = false
  rw [r]
  rfl
def plainT : Expr → Bool
  | .UnaryOp _ _ _ => false
  | .BoolOp _ _ _ => false
  | .IfExp _ _ _ _ => false
  | .Compare _ _ _ _ => false
  | _ => true
theorem test1 {e : Expr} {env : Env} (h : plainT e = true) : ∀ whole, isTrue e env whole = (do let v ← whole; standAt e.pos; holding [v] (truthy v)) := by
  intro whole
  cases e <;> first | rfl | cases h
def noComp : Expr → Bool
  | .ListComp _ _ _ _ => false
  | .SetComp _ _ _ _ => false
  | .DictComp _ _ _ _ _ => false
  | _ => true
theorem swap1 {e : Expr} {tg : Option Expr} {n : Nat} {env : Env} (h : noComp e = true) : swapsWith e tg n env = pure false := by
  cases e <;> first | rfl | cases h
end L2

set_option Elab.async false
set_option linter.all false
set_option maxRecDepth 100000
set_option maxHeartbeats 1000000
namespace L2
open PySem PySem.Spec PyProof.Rows
end L2

set_option Elab.async false
set_option linter.all false
set_option maxRecDepth 100000
set_option maxHeartbeats 1000000
namespace L2
open PySem PySem.Spec PyProof.Rows
theorem ints_are : ∀ {ns : List Int} {its : List Value}, Vals (ns.map V.int) its → IntsAre its ns
  | [], _, .nil => .nil
  | n :: ns, _, .cons ⟨t, e⟩ r => by subst e; exact .cons n t (ints_are r)
section
variable {X : Cx}
theorem call_sum1 (hc : X.calm = true) : CallR X (.builtin "sum") (fun xs H Q => ∃ (p : Addr) (ns : List Int), xs = [.ref p] ∧ SqL X.K H p (ns.map V.int) ∧ Q (.int ns.sum) H) := by
  intro pins s σ H xs us Q I r h
  obtain ⟨p, ns, rfl, hq, q⟩ := h
  obtain ⟨u, rfl, rx⟩ := vals1 r
  cases rx
  obtain ⟨its, r', pl, hz⟩ := I.list hq
  have hi := ints_are r'
  obtain ⟨xs, e⟩ := hi.allInts.items
  have hl := pl.isList
  have en := hi.numsOf
  rw [show its = its.toArray.toList from rfl, e, nums_intItems] at en
  rw [e] at hl
  refine sum_intListG (I.ok.hd hc) hl fun h' tk t' k => ⟨.int ns.sum, H, I.kept k, ⟨t', ?_⟩, q⟩
  rw [preSum_eq, List.take_of_length_le (by simp), en]
theorem call_all1 (hc : X.calm = true) : CallR X (.builtin "all") (fun xs H Q => ∃ (p : Addr) (bs : List Bool), xs = [.ref p] ∧ SqL X.K H p (bs.map V.bl) ∧ Q (.bl (bs.all id)) H) := by
  intro pins s σ H xs us Q I r h
  obtain ⟨p, bs, rfl, hq, q⟩ := h
  obtain ⟨u, rfl, rx⟩ := vals1 r
  cases rx
  obtain ⟨its, r', pl, hz⟩ := I.list hq
  have hl := pl.isList
  have hlt : p < s.heap.objs.size := by obtain ⟨_, e, _⟩ := hl; exact Heap.lt_size e
  have len := r'.length
  rw [List.length_map] at len
  refine call_all_walk (wpAny_pyIter_list hl ⟨_, _, _, _, _, _, fun i => bs.getD i true, rfl, Walks.list (A := X.A.in1) (I.ok.hd hc) s.heap.objs.size p (Nat.ne_of_lt hlt) its.toArray, ⟨⟨_, Heap.get?_push_size _ rfl, rfl, rfl⟩, hl.push _⟩, ?_, ?_⟩)
  · intro i v s' Q' E' hP hQ
    have hP' : its[i]? = some v := by simpa using hP
    have li : i < bs.length := by
      have := (List.getElem?_eq_some_iff.mp hP').1
      omega
    obtain ⟨u, e1, e2⟩ := r'.get (i := i) (x := .bl (bs.getD i true)) (by simp [List.getD, li])
    rw [hP'] at e1
    cases e1
    obtain rfl : v = Value.bool (bs.getD i true) := e2
    exact wpAny_truthy_bool hQ
  · intro h' tk hk
    have : (List.range its.toArray.size).all (fun i => bs.getD i true) = bs.all id := by
      rw [List.size_toArray, ← len]
      clear len hq q r' hz
      induction bs with
      | nil => rfl
      | cons b bs ih =>
        rw [List.length_cons, List.range_succ_eq_map, List.all_cons, List.all_map, List.all_cons]
        exact congrArg _ ih
    rw [this]
    exact ⟨.bl _, H, I.kept (old_kept hk), rfl, q⟩
end
end L2

set_option Elab.async false
set_option linter.all false
set_option maxRecDepth 100000
set_option maxHeartbeats 1000000
namespace L2
open PySem PySem.Spec PyProof.Rows
structure Apart (z TI TO i1 i2 : Addr) (f1 f2 : List Addr) : Prop where
  zTI : z ≠ TI
  zTO : z ≠ TO
  TITO : TI ≠ TO
  TI1 : TI ≠ i1
  TI2 : TI ≠ i2
  m1 : i1 ∈ f1
  m2 : i2 ∈ f2
  z1 : z ∉ f1
  z2 : z ∉ f2
  t1 : TO ∉ f1
  t2 : TO ∉ f2
  i12 : i1 ∉ f2
  i21 : i2 ∉ f1
section
variable {prog : Program} {w : World} {A : Around} {E : Value → Shared → Prop} {s : Shared} {z TI TO i1 i2 : Addr} {f1 f2 : List Addr} {n1 n2 k : Nat} {P1 P2 : Nat → Value → Prop} {S1 S2 : Nat → Heap → Prop}
end
def Itz (K : PySem.W.Frag) (a b : Addr) : It := ⟨fun i H => ∃ xs ys x y, SqL K H a xs ∧ SqT K H b ys ∧ xs[i]? = some x ∧ ys[i]? = some y,
  fun i H x H' => ∃ T u v, H T = none ∧ x = .ref T ∧ H' = upd H T (.tup [u, v]) ∧ (∀ xs, SqL K H a xs → xs[i]? = some u) ∧ ∀ ys, SqT K H b ys → ys[i]? = some v,
  fun i H => ∃ xs ys, SqL K H a xs ∧ SqT K H b ys ∧ xs.length = ys.length ∧ xs.length = i⟩
end L2

set_option Elab.async false
set_option linter.all false
set_option maxRecDepth 100000
set_option maxHeartbeats 1000000
namespace L2
open PySem PySem.Spec PyProof.Rows
def iZip (K : PySem.W.Frag) (ta : TA) : TI := fun σ H R => ta σ H fun vs H1 => ∃ a b, vs = [.ref a, .ref b] ∧ (∃ xs, SqL K H1 a xs) ∧ (∃ ys, SqT K H1 b ys) ∧ R (Itz K a b) H1
end L2

set_option Elab.async false
set_option linter.all false
set_option maxRecDepth 100000
set_option maxHeartbeats 1000000
namespace L2
open PySem PySem.Spec PyProof.Rows
section
variable {X : Cx}
def rIndexT (K : PySem.W.Frag) : V → List V → Hp → VK → Prop := fun x vs H Q => ∃ (p : Addr) (xs : List V) (y : V) (j : Nat), x = .ref p ∧ vs = [y] ∧ SqT K H p xs ∧ flatV y = true ∧ xs.all flatV = true ∧ (∃ z, xs[j]? = some z ∧ eqV z y = true) ∧ (∀ m z, m < j → xs[m]? = some z → eqV z y = false) ∧ Q (.int j) H
def tBMT (K : PySem.W.Frag) (r : V → List V → Hp → VK → Prop) (to : TE) (t : TA) : TE := fun σ H Q => to σ H fun x H1 => (∃ p xs, x = .ref p ∧ H1 p = some (.tup xs)) ∧ t σ H1 fun xs H2 => r x xs H2 Q
theorem pe_bmT {o e : Expr} {es : List Expr} {to : TE} {t : TA} {name : Str} {apos cpos : Pos} {id : String} {r : V → List V → Hp → VK → Prop} (slot : Slot "tuple" name id) (hty : typeOf (.builtin id) = pure (.type "method_descriptor")) (hm : MtR X id r) (ho : PE X o to) (ha : PA X (e :: es) t)
    (hbase : attributeBase o name X.env (eval o X.env) = eval o X.env := by rfl)
    (hfew : ((backTo cpos (starEach (e :: es) X.env)).all (fun x => !x.1) && (backToKw cpos (keywordEach [] X.env)).all (fun x => x.1.isSome)
      && decide ((e :: es).length + ([] : List Keyword).length + (if ([] : List Keyword).isEmpty then 0 else 1) < 30)) = true := by rfl)
    (hline : (apos.endLine == cpos.line) = true := by rfl) (hs : starEach (e :: es) X.env = (false, eval e X.env) :: starEach es X.env := by rfl) (hplain : (backTo cpos (starEach es X.env)).any (·.1) = false := by rfl) :
    PE X (.Call (.Attribute o name apos) (e :: es) [] cpos) (tBMT X.K r to t) := by
  intro pins s σ H Q I h
  refine wpAny_Call_method_late hbase hfew hline rfl (thn (ho pins s σ H _ I h) fun v s1 ⟨x, H1, I1, r1, ty, q1⟩ => ?_)
  obtain ⟨p, xs, rfl, hp⟩ := ty
  cases r1
  obtain ⟨_, its, rv, pl, nd⟩ := (show ObjOk X.prog X.w H1 s1.heap p (.tup xs) from I1.hok p _ hp)
  refine ⟨"tuple", id, PySem.F.plainAttrs_tuple, slot, hty, pl.typeIs, fun a e => by cases e; exact nd, ?_⟩
  have hA := ha cpos pins s1 σ H1 _ I1 q1
  rw [hs] at hA ⊢
  refine Calls.callWith_builtin (by show (false || (backTo cpos (starEach es X.env)).any (·.1)) = false; rw [hplain] <;> rfl) (Calls.evalArgs_plain ?_)
  exact thn hA fun us s2 ⟨vs, H2, I2, r2, q2⟩ => hm pins s2 σ H2 (.ref p) vs (.ref p) us Q I2 rfl r2 q2
def iSeq (K : PySem.W.Frag) (tl : TE) : TI := fun σ H R => tl σ H fun x H1 => ∃ a, x = .ref a ∧ (((∃ xs, SqL K H1 a xs) ∧ R (Itl K a) H1) ∨ ((∃ xs, SqT K H1 a xs) ∧ R (Itt K a) H1))
section
variable {K : PySem.W.Frag} {D : Ends} {g : TG} {tb : TS} {σ : St} {H : Hp} {a : Addr}
end
section
variable {K : PySem.W.Frag} {D a : Addr} {g : TG} {tt : TT} {te : TE} {Q : VK} {τ : St} {H : Hp}
end
end
end L2

set_option Elab.async false
set_option linter.all false
set_option maxRecDepth 100000
set_option maxHeartbeats 1000000
namespace L2
open PySem PySem.Spec PyProof.Rows
abbrev sgn (c : Nat) : V := .str ⟨#[c]⟩
abbrev txt (cs : List Nat) : Str := ⟨cs.toArray⟩
def Its (cs : List Nat) : It := ⟨fun i _ => i < cs.length, fun i H v H' => H' = H ∧ ∃ c, cs[i]? = some c ∧ v = sgn c, fun i _ => cs.length ≤ i⟩
theorem turn_str {P : Program} {w : World} {K : PySem.W.Frag} {tg : Expr} (it : Addr) (cs : List Nat) (t : Tok) : Turn P w K tg (Its cs) [it] it (fun i h => h.IsStrIter it "str_ascii_iterator" (txt cs) t i) where
  mem := by simp
  obj := fun i h st b hb => by
    have e : b = it := by simpa using hb
    subst e
    obtain ⟨o, e, c, d⟩ := st
    exact ⟨o, e, fun v z => by rw [d] at z; cases z⟩
  keep := fun i h h' st k => by
    obtain ⟨o, e, r⟩ := st
    exact ⟨o, k it (by simp) o e, r⟩
  item := by
    intro X hP hw hK hc i pins s σ H E I hf st hg
    subst hP hw hK
    obtain ⟨f0, f1, f2, f3, f4, f5⟩ := hf it (by simp)
    have W := Walks.strAscii (prog := X.prog) (w := X.w) (I.ok.hd hc) it (txt cs) t
    have hg' : i < (txt cs).cps.size := by simpa using (show i < cs.length from hg)
    refine W.item i s _ _ hg' st fun v h' tk hv st' kk => ?_
    obtain ⟨c, u, hcp, rfl⟩ := hv
    have I1 : Inv X pins σ H { s with heap := h', toks := tk } := I.turned (fun b o hb e => kk b o (by simpa using hb) e) f0 f1 f3 f4 f5
    obtain ⟨o, e, c', d⟩ := id st'
    exact ⟨_, rfl, go_of (s := { s with heap := h', toks := tk }) e c' d (by decide) ⟨sgn c, H, I1, ⟨u, rfl⟩, ⟨rfl, c, by simpa using hcp, rfl⟩, st', fun b hb => (hf b hb).1⟩⟩
  done := by
    intro X hP hw hK hc i pins s σ H E I hf st hg
    subst hP hw hK
    obtain ⟨f0, f1, f2, f3, f4, f5⟩ := hf it (by simp)
    have hg' : cs.length ≤ i := hg
    exact wpAny_pyNext_ascii_end (I.ok.hd hc) st (by simp; omega) fun h' eb => ⟨rfl, I.turned (t' := s.toks) (fun b o hb e => eb b o hb e) f0 f1 f3 f4 f5⟩
  self := fun _ _ _ _ _ st h => wpAny_pyIter_striter_ascii st h
section
variable {X : Cx} {tg : Expr}
def iStr (tl : TE) : TI := fun σ H R => tl σ H fun x H1 => ∃ cs, x = .str (txt cs) ∧ cs.all (fun c => decide (c < 128)) = true ∧ R (Its cs) H1
theorem pi_str {l : Expr} {tl : TE} (hl : PE X l tl) : PI X tg l (iStr tl) := by
  intro pins s σ H R I h
  refine thn (hl pins s σ H _ I h) fun v s1 ⟨x, H1, I1, r1, q1⟩ => ?_
  obtain ⟨cs, e, ha, q⟩ := q1
  subst e
  obtain ⟨t, rfl⟩ := r1
  refine wpAny_pyIter_ascii (by simpa using ha) ?_
  refine ⟨s1.heap.objs.size, [s1.heap.objs.size], _, _, H1, rfl, I1.kept (t' := s1.toks) fun b o e => Heap.get?_push_of_some _ e, turn_str _ cs t, ⟨_, Heap.get?_push_size _ rfl, rfl, rfl⟩, fun b hb => ?_, q⟩
  have e : b = s1.heap.objs.size := by simpa using hb
  subst e
  exact I1.fpOk (Nat.le_refl _) (I1.hok.fresh (Nat.le_refl _))
end
section
variable {g : TG} {tb : TS} {D : Ends} {σ : St} {H : Hp}
end
section
variable {D : Addr} {g : TG} {tt : TT} {te : TE} {Q : VK} {τ : St} {H : Hp}
theorem compS_str (cs : List Nat) (Pv : Nat → St → Hp → Prop) (h0 : Pv 0 τ H)
    (hs : ∀ i c τ H (R : St → Hp → Prop), cs[i]? = some c → Pv i τ H → (∀ τ' H', Pv (i + 1) τ' H' → R τ' H') → tComp1 D g tt te (sgn c) τ H R) (hd : ∀ τ H, Pv cs.length τ H → Q (.ref D) H) : CompS D (Its cs) g tt te Q τ H := by
  refine ⟨fun i m τ H => m = cs.length - i ∧ i ≤ cs.length ∧ Pv i τ H, ⟨cs.length, by simp, Nat.zero_le _, h0⟩, ?_⟩
  rintro i m τ H2 ⟨rfl, hi, p⟩
  by_cases hlt : i < cs.length
  · refine .inr ⟨hlt, fun x H' y => ?_⟩
    obtain ⟨e, c, hc, rfl⟩ := y
    subst e
    exact hs i c τ _ (fun τ' H' => ∃ m', m' < cs.length - i ∧ m' = cs.length - (i + 1) ∧ i + 1 ≤ cs.length ∧ Pv (i + 1) τ' H') hc p fun τ' H' p' => ⟨_, by omega, rfl, hlt, p'⟩
  · have e : i = cs.length := by omega
    subst e
    exact .inl ⟨Nat.le_refl _, hd τ H2 p⟩
end
section
variable {X : Cx}
def rLeS : R2 := fun x y H Q => ∃ c d : Nat, x = sgn c ∧ y = sgn d ∧ Q (.bl (decide (c ≤ d))) H
theorem op_leS : OpR X (compareOp .LtE) rLeS := by
  intro pins s σ H x y v u Q I rx ry h
  obtain ⟨c, d, rfl, rfl, q⟩ := h
  obtain ⟨t, rfl⟩ := rx
  obtain ⟨t', rfl⟩ := ry
  refine P.le_str (fin_bl I q ?_)
  have e : (([d] : List Nat) < [c]) ↔ d < c := by simp [List.cons_lt_cons_iff]
  show decide (c ≤ d) = !decide (([d] : List Nat) < [c])
  by_cases h : c ≤ d
  · rw [decide_eq_true h, decide_eq_false (fun z => absurd (e.mp z) (by omega))]
    rfl
  · rw [decide_eq_false h, decide_eq_true (e.mpr (by omega))]
    rfl
theorem join_sgn : ∀ cs : List Nat, Str.join "" (cs.map fun c => (⟨#[c]⟩ : Str)) = txt cs
  | [] => rfl
  | [c] => rfl
  | c :: d :: cs => by
    have ih := join_sgn (d :: cs)
    show (⟨#[c]⟩ : Str) ++ "" ++ Str.join "" ((d :: cs).map fun c => (⟨#[c]⟩ : Str)) = txt (c :: d :: cs)
    rw [ih]
    apply Str.ext'
    simp [Str.cps_append]
    rfl
theorem strs_of : ∀ {ts : List Str} {its : List Value}, Vals (ts.map V.str) its → ∃ l : List (Str × Tok), its = strValues l ∧ l.map (·.1) = ts
  | [], _, .nil => ⟨[], rfl, rfl⟩
  | z :: ts, _, .cons ⟨t, e⟩ r => by
    subst e
    obtain ⟨l, e1, e2⟩ := strs_of r
    exact ⟨(z, t) :: l, by rw [e1]; rfl, by rw [List.map_cons, e2]⟩
def rJoin (K : PySem.W.Frag) : V → List V → Hp → VK → Prop := fun x vs H Q => ∃ (p : Addr) (cs : List Nat), x = .str "" ∧ vs = [.ref p] ∧ SqL K H p (cs.map sgn) ∧ cs.length ≤ 1000 ∧ Q (.str (txt cs)) H
theorem join_sum : ∀ (ts : List Str) (n : Nat), (∀ z ∈ ts, z.length = 1) → ts.foldl (fun a p => a + p.length + ("" : Str).length) n = n + ts.length
  | [], n, _ => rfl
  | z :: ts, n, h => by
    rw [List.foldl_cons, join_sum ts _ fun y hy => h y (List.mem_cons_of_mem _ hy), h z (List.mem_cons_self ..), List.length_cons, show ("" : Str).length = 0 from rfl]
    omega
theorem mt_join : MtR X "str.join" (rJoin X.K) := by
  intro pins s σ H x vs v us Q I rx rv h
  obtain ⟨p, cs, rfl, rfl, hq, hz, q⟩ := h
  obtain ⟨t, rfl⟩ := rx
  obtain ⟨u, rfl, ru⟩ := vals1 rv
  cases ru
  obtain ⟨its, r, pl, _⟩ := I.list hq
  have r' : Vals ((cs.map fun c => (⟨#[c]⟩ : Str)).map V.str) its := by rw [List.map_map]; exact r
  obtain ⟨l, e1, e2⟩ := strs_of r'
  have hl := pl.isList
  rw [e1] at hl
  have one : ∀ z ∈ cs.map (fun c => (⟨#[c]⟩ : Str)), z.length = 1 := fun z hz => by
    obtain ⟨c, _, rfl⟩ := List.mem_map.mp hz
    rfl
  have tot : Builtin.Str.tooLong ((l.map (·.1)).toArray.foldl (· + ·.length + ("" : Str).length) 0) = false := by
    rw [e2, List.foldl_toArray, join_sum _ _ one, List.length_map]
    unfold Builtin.Str.tooLong
    rw [sizeLine_eq]
    simp
    omega
  refine call_meets PySem.F.slot_str_join (typeIs_str s _ t) PySem.F.entry_str_join (PySem.F.args_str_join_2 _ _) (meets_str_join_list "" t p l tot) ⟨hl, ?_⟩
  have fin : ∀ (tk' : Tok) (s' : Shared), Inv X pins σ H s' → EP X pins σ Q (.str (txt cs) tk') s' := fun tk' s' I' => ⟨.str (txt cs), H, I', ⟨tk', rfl⟩, q⟩
  have gl : Builtin.Str.glued "" (l.map (·.1)) = txt cs := by
    rw [StrLaws.glued_eq_join, e2, join_sgn]
  have sz : (txt cs).length ≤ sizeLine := by
    show cs.toArray.size ≤ sizeLine
    rw [List.size_toArray, sizeLine_eq]
    omega
  match l, e2, gl with
  | [p1], e2, gl =>
    obtain ⟨z, tz⟩ := p1
    have : z = txt cs := gl
    subst this
    exact fin tz s I
  | [], e2, gl =>
    refine ⟨by rw [gl]; exact sz, ?_⟩
    rw [gl]
    exact fin _ _ (I.tok _)
  | p1 :: p2 :: r2, e2, gl =>
    refine ⟨by rw [gl]; exact sz, ?_⟩
    rw [gl]
    exact fin _ _ (I.tok _)
def isLow (c : Nat) : Bool := decide (97 ≤ c) && decide (c ≤ 122)
end
end L2

set_option Elab.async false
set_option linter.all false
set_option maxRecDepth 100000
set_option maxHeartbeats 1000000
namespace L2
open PySem PySem.Spec PyProof.Rows
deriving instance DecidableEq for Kn
section
variable {X : Cx}
theorem call_tupleL : CallR X (.type "tuple") (fun xs H Q => ∃ p ys, xs = [.ref p] ∧ SqL X.K H p ys ∧ ∀ l, H l = none → Q (.ref l) (upd H l (.tup ys))) := by
  intro pins s σ H xs us Q I r h
  obtain ⟨p, ys, rfl, hq, q⟩ := h
  exact call_tuple_of pins s σ H _ us Q I r ⟨p, ys, rfl, .inl ⟨hq, q⟩⟩
theorem call_listL : CallR X (.type "list") (fun xs H Q => ∃ p ys, xs = [.ref p] ∧ SqL X.K H p ys ∧ ∀ l, H l = none → Q (.ref l) (upd H l (.lst ys))) := by
  intro pins s σ H xs us Q I r h
  obtain ⟨p, ys, rfl, hq, q⟩ := h
  exact call_list_of pins s σ H _ us Q I r ⟨p, ys, rfl, .inl hq, q⟩
end
end L2

set_option Elab.async false
set_option linter.all false
set_option maxRecDepth 100000
set_option maxHeartbeats 1000000
namespace PySem
open Sem (wp)
namespace SetL
section
variable {prog : Program} {w : World} {A : Around} {R : Result → Shared → Prop} {I : Addr} {fp wr : List Addr} {n : Nat} {P : Nat → Value → Prop} {St : Nat → Heap → Prop}
end
section
variable {prog : Program} {w : World} {A : Around} {E : Value → Shared → Prop} {s : Shared}
end
end SetL
end PySem
namespace L2
open PySem PySem.Spec PyProof.Rows
section
variable {X : Cx}
end
end L2

set_option Elab.async false
set_option linter.all false
set_option maxRecDepth 100000
set_option maxHeartbeats 1000000
namespace L2
open PySem PySem.Spec PyProof.Rows
mutual
inductive Rep (K : PySem.W.Frag) (H : Hp) : V → PyData → Prop
  | non : Rep K H .non .none
  | bl (b : Bool) : Rep K H (.bl b) (.bool b)
  | int (i : Int) : Rep K H (.int i) (.int i)
  | str (z : Str) : Rep K H (.str z) (.str z)
  | lst {a : Addr} {xs : List V} {ds : List PyData} : SqL K H a xs → RepAll K H xs ds → Rep K H (.ref a) (.list ds)
  | tup {a : Addr} {xs : List V} {ds : List PyData} : SqT K H a xs → RepAll K H xs ds → Rep K H (.ref a) (.tuple ds)
inductive RepAll (K : PySem.W.Frag) (H : Hp) : List V → List PyData → Prop
  | nil : RepAll K H [] []
  | cons {x : V} {d : PyData} {xs : List V} {ds : List PyData} : Rep K H x d → RepAll K H xs ds → RepAll K H (x :: xs) (d :: ds)
end
theorem sqT_same {K : PySem.W.Frag} {H H' : Hp} {a : Addr} {xs : List V} (e : Same H H') (h : SqT K H a xs) : SqT K H' a xs := by
  rcases h with (h | ⟨o, h⟩) | h
  · exact .inl (.inl (e _ _ h))
  · exact .inl (.inr ⟨o, e _ _ h⟩)
  · exact .inr h
mutual
theorem Rep.same {K : PySem.W.Frag} {H H' : Hp} (e : Same H H') : ∀ {v : V} {d : PyData}, Rep K H v d → Rep K H' v d
  | _, _, .non => .non
  | _, _, .bl b => .bl b
  | _, _, .int i => .int i
  | _, _, .str z => .str z
  | _, _, .lst h r => .lst (e.seq h) (RepAll.same e r)
  | _, _, .tup h r => .tup (sqT_same e h) (RepAll.same e r)
theorem RepAll.same {K : PySem.W.Frag} {H H' : Hp} (e : Same H H') : ∀ {xs : List V} {ds : List PyData}, RepAll K H xs ds → RepAll K H' xs ds
  | _, _, .nil => .nil
  | _, _, .cons h r => .cons (Rep.same e h) (RepAll.same e r)
end
section
variable {X : Cx} {pins : List (Addr × Obj)} {σ : St} {H : Hp} {s : Shared}
end
section
variable {X : Cx}
end
end L2

set_option Elab.async false
set_option linter.all false
set_option maxRecDepth 100000
set_option maxHeartbeats 1000000
namespace HT
open PySem PyProof.Rows
section
open PySem.SeqAt
open PySem.AutoSeq1 (wpAny_loadPart')
open PySem.MeetsSeq PySem.MeetsSeq2 PySem.MeetsSeq3

end
end HT

set_option Elab.async false
set_option linter.all false
set_option maxRecDepth 100000
set_option maxHeartbeats 1000000
namespace HT
open PySem PyProof.Rows PySem.SeqAt
section
variable {l b : Addr}
theorem vals_ints {ns : List Int} {its : List Value} (r : L2.Vals (ns.map L2.V.int) its) : IntsAre its ns := L2.ints_are r
end
end HT
namespace L2
open PySem PySem.Spec PyProof.Rows
end L2

set_option Elab.async false
set_option linter.all false
set_option maxRecDepth 100000
set_option maxHeartbeats 1000000
namespace L2
open PySem PySem.Spec PyProof.Rows
def iOr (w1 w2 : TI) : TI := fun σ H R => w1 σ H R ∨ w2 σ H R
section
variable {K : PySem.W.Frag} {a : Addr} {g : TG} {tt : TT} {te : TE} {Q : VK} {H : Hp}
end
end L2

set_option Elab.async false
set_option linter.all false
set_option maxRecDepth 100000
set_option maxHeartbeats 1000000
namespace L2
open PySem PySem.Spec PyProof.Rows
section
variable {prog : Program} {w : World} {A : Around} {E : Value → Shared → Prop} {s : Shared} {z TI TO i1 i2 : Addr}
end
def ItzL (K : PySem.W.Frag) (a b : Addr) : It := ⟨fun i H => ∃ xs ys x y, SqL K H a xs ∧ SqL K H b ys ∧ xs[i]? = some x ∧ ys[i]? = some y,
  fun i H x H' => ∃ T u v, H T = none ∧ x = .ref T ∧ H' = upd H T (.tup [u, v]) ∧ (∀ xs, SqL K H a xs → xs[i]? = some u) ∧ ∀ ys, SqL K H b ys → ys[i]? = some v,
  fun i H => ∃ xs ys, SqL K H a xs ∧ SqL K H b ys ∧ xs.length = ys.length ∧ xs.length = i⟩
def iZipL (K : PySem.W.Frag) (ta : TA) : TI := fun σ H R => ta σ H fun vs H1 => ∃ a b, vs = [.ref a, .ref b] ∧ (∃ xs, SqL K H1 a xs) ∧ (∃ ys, SqL K H1 b ys) ∧ R (ItzL K a b) H1
end L2

set_option Elab.async false
set_option linter.all false
set_option maxRecDepth 100000
set_option maxHeartbeats 1000000
namespace L2
open PySem PySem.Spec PyProof.Rows
section
variable {X : Cx}
def rInsert : V → List V → Hp → VK → Prop := fun x vs H Q => ∃ (l : Addr) (xs : List V) (k : Nat) (y : V), x = .ref l ∧ vs = [.int k, y] ∧ H l = some (.lst xs) ∧ k ≤ xs.length ∧ xs.length < sizeLine ∧ Q .non (upd H l (.lst (xs.take k ++ y :: xs.drop k)))
end
section
variable {K : PySem.W.Frag} {a b : Addr} {g : TG} {tt : TT} {te : TE} {Q : VK} {H : Hp}
end
end L2

set_option Elab.async false
set_option linter.all false
set_option maxRecDepth 100000
set_option maxHeartbeats 1000000
namespace L2
open PySem PySem.Spec PyProof.Rows
section
variable {X : Cx}
def cutN (cs : List Nat) (lo hi : Option Int) : List Nat := (cs.drop (HT.sIx cs.length 0 lo)).take (HT.sIx cs.length cs.length hi - HT.sIx cs.length 0 lo)
def rSlS : V → Option Int → Option Int → Hp → VK → Prop := fun x lo hi H Q => ∃ cs : List Nat, x = .str (txt cs) ∧ cs.length ≤ 1000 ∧ Q (.str (txt (cutN cs lo hi))) H
def rMulS : R2 := fun x y H Q => ∃ (c : Nat) (n : Nat), x = .str (txt [c]) ∧ y = .int n ∧ 1 ≤ n ∧ n ≤ 1000 ∧ Q (.str (txt (List.replicate n c))) H
def rCatS : R2 := fun x y H Q => ∃ cs ds : List Nat, x = .str (txt cs) ∧ y = .str (txt ds) ∧ cs.length + ds.length ≤ 1000 ∧ Q (.str (txt (cs ++ ds))) H
end
def tTryN (sp : Sp) (t : TA) (K : PySem.W.Frag) (C : Addr) (ts : TS) : TS := fun D σ H => t σ H fun vs H1 => sp vs H1 (fun _ H2 => D.nx σ H2) fun c _ H2 =>
  ∃ D', c = .ref D' ∧ PySem.W.subIn K (.ref D') (.ref C) = some true ∧ ∀ a, H2 a = none → ts { nx := fun _ _ => False, rt := D.rt } σ (upd H2 a (excO a D'))
section
variable {X : Cx} {CX : CXT} {x y : Str} {j k : Nat} {ps : List Str} {sp : Sp} {p pos tpos hpos np epos : Pos} {e : Expr} {es : List Expr} {t : TA} {C : Addr} {b₀ : Stmt} {suite : List Stmt} {ts : TS}
end
def tDict1T (K : PySem.W.Frag) (te : TE) : TE := fun σ H Q => te σ H fun x H1 => ∃ (p : Addr) (zs : List Str), x = .ref p ∧ SqT K H1 p (zs.map V.str) ∧ ∀ d, H1 d = none → Q (.ref d) (upd H1 d (dctO d))
def rUpper : V → List V → Hp → VK → Prop := fun x vs H Q => ∃ cs : List Nat, x = .str (txt cs) ∧ vs = [] ∧ (∀ c ∈ cs, 97 ≤ c ∧ c ≤ 122) ∧ cs.length ≤ 1000 ∧ Q (.str (txt (cs.map (· - 32)))) H
theorem pe_bmK {X : Cx} {K : PySem.W.Frag} {T : String} {o e : Expr} {es : List Expr} {to : TE} {t : TA} {name : Str} {apos cpos : Pos} {id : String} {r : V → List V → Hp → VK → Prop} (hK : X.K = K) (pa : PlainAttrs T) (slot : Slot T name id) (hty : typeOf (.builtin id) = pure (.type "method_descriptor")) (hm : MtR X id r) (ho : PE X o to) (ha : PA X (e :: es) t)
    (hbase : attributeBase o name X.env (eval o X.env) = eval o X.env := by rfl)
    (hfew : ((backTo cpos (starEach (e :: es) X.env)).all (fun x => !x.1) && (backToKw cpos (keywordEach [] X.env)).all (fun x => x.1.isSome)
      && decide ((e :: es).length + ([] : List Keyword).length + (if ([] : List Keyword).isEmpty then 0 else 1) < 30)) = true := by rfl)
    (hline : (apos.endLine == cpos.line) = true := by rfl) (hs : starEach (e :: es) X.env = (false, eval e X.env) :: starEach es X.env := by rfl) (hplain : (backTo cpos (starEach es X.env)).any (·.1) = false := by rfl) :
    PE X (.Call (.Attribute o name apos) (e :: es) [] cpos) (tBM K T r to t) := by
  subst hK
  exact pe_bm pa slot hty hm ho ha hbase hfew hline hs hplain
end L2

set_option Elab.async false
set_option linter.all false
set_option maxRecDepth 100000
set_option maxHeartbeats 1000000
namespace L2
open PySem PySem.Spec PyProof.Rows
structure Mk0 (K : PySem.W.Frag) (C : Addr) : Prop where
  makes : PySem.W.makesIn K C = true
  init : PySem.W.findIn K (.ref C) "__init__" = some (some (.builtin "object.__init__"))
  kp : PySem.W.keepIn K (.ref C) = true
def tMake0 (C : Addr) : TE := fun _ H Q => ∀ x dx, H x = none → H dx = none → dx ≠ x → Q (.ref x) (upd (upd H dx (.own x)) x (.ins C dx []))
section
variable {X : Cx} {C : Addr} {x : Str} {p pos apos : Pos}
end
structure MkC (P : Program) (w : World) (K : PySem.W.Frag) (mg : Str → Option Value) (base : Heap) (x : Str) (C : Addr) (k : Nat) (ps : List Str) (sp : Sp) : Prop where
  ex : ∃ f fd, Mk K C f ∧ FnOk P w K mg base CX0 k f fd ps sp ∧ Binds K fd ps []
  at_ : mg x = some (.ref C)
section
variable {X : Cx} {C : Addr} {x : Str} {j k : Nat} {ps : List Str} {sp : Sp} {p pos apos : Pos} {e o : Expr} {es : List Expr} {t : TA} {ta : TE} {m : Str}
structure Disp (P : Program) (w : World) (K : PySem.W.Frag) (mg : Str → Option Value) (base : Heap) (m : Str) (k : Nat) (ps : List Str) (C : Addr) (sp : Sp) : Prop where
  cls : Cls K C
  ex : ∃ f fd, Meth K C m f ∧ FnOk P w K mg base CX0 k f fd ps sp ∧ Binds K fd ps []
def tMethD (D : Addr → Sp → Prop) (m : Str) (ta : TE) (t : TA) : TE := fun σ H Q => ta σ H fun x H1 => ∃ a C dx fs sp, x = .ref a ∧ H1 a = some (.ins C dx fs) ∧ fs.lookup m = none ∧ D C sp ∧ t σ H1 fun vs H2 => sp (.ref a :: vs) H2 Q E0
end
structure ICls (K : PySem.W.Frag) (C : Addr) : Prop where
  cl : Cls K C
  ha : PySem.W.findIn K (.ref C) "__class__" = some (some (.builtin "object.__class__"))
  hn : PySem.W.specialIn K (.builtin "object.__class__") "__get__" = some (some (.builtin "getset_descriptor.__get__"))
  htk : PySem.W.takesIn K (.builtin "object.__class__") = some true
  hm : PySem.W.mroIn K C (.type "object") = some true
def tChain3 (r r' r'' : R2) (ta tb tc td : TE) : TE := fun σ H Q => ta σ H fun x H1 => tb σ H1 fun y H2 => r x y H2 fun z H3 => ∃ k, z = .bl k ∧
  (if k = true then tc σ H3 fun w' H4 => r' y w' H4 fun z' H5 => ∃ k', z' = .bl k' ∧ (if k' = true then td σ H5 fun v' H6 => r'' w' v' H6 Q else Q (.bl false) H5) else Q (.bl false) H3)
section
variable {X : Cx} {a b c d : Expr} {ta tb tc td : TE} {pos : Pos}
end
def rSlTQ (K : PySem.W.Frag) : V → Option Int → Option Int → Hp → VK → Prop := fun x lo hi H Q => ∃ a xs, x = .ref a ∧ SqT K H a xs ∧ ∀ p H', Same H H' → SqT K H' p (cutV xs lo hi) → Q (.ref p) H'
theorem sl_tupQK {X : Cx} {K : PySem.W.Frag} (h : X.K = K) : SlR X (rSlTQ K) := by
  subst h
  intro pins s σ H x v vl vu lo hi sl Q I rx hs pl pu h
  obtain ⟨a, xs, rfl, T, q⟩ := h
  refine sl_tupA pins s σ H _ v vl vu lo hi sl Q I rx hs pl pu ⟨a, xs, rfl, T, fun e => q _ _ (Same.refl _) (by rw [e]; exact T), fun p hp => q _ _ (fun b u z => ?_) (SqT.of upd_same)⟩
  rw [upd_ne (ne_of_none z hp)]
  exact z
def rCatTQ (K : PySem.W.Frag) : R2 := fun x y H Q => ∃ a b xs ys, x = .ref a ∧ y = .ref b ∧ SqT K H a xs ∧ SqT K H b ys ∧ xs.length + ys.length ≤ sizeLine ∧ ∀ p H', Same H H' → SqT K H' p (xs ++ ys) → Q (.ref p) H'
theorem op_catTQ {X : Cx} : OpR X (binaryOp .Add) (rCatTQ X.K) := by
  intro pins s σ H x y v u Q I rx ry h
  obtain ⟨a, b, xs, ys, rfl, rfl, ha, hb, hz, q⟩ := h
  have sn : ∀ p, H p = none → Same H (upd H p (.tup (xs ++ ys))) := fun p hp b u z => by rw [upd_ne (ne_of_none z hp)]; exact z
  by_cases hx : xs = []
  · subst hx
    cases rx
    cases ry
    obtain ⟨its, r1, p1, _⟩ := I.tuple ha
    obtain ⟨its2, r2, p2, _⟩ := I.tuple hb
    have e0 := r1.nil_iff.mpr rfl
    obtain ⟨⟨cls, dd, data, sl⟩, ho, hc, n, hd⟩ := id p1
    obtain ⟨⟨cls2, dd2, data2, sl2⟩, ho2, hc2, n2, hd2⟩ := id p2
    simp only at hc hd hc2 hd2
    subst hc hd hc2 hd2
    exact concat_meets ⟨_, ho, rfl⟩ ⟨_, ho2, rfl⟩ noFill_tuple_add seq_tuple_add PySem.F.slot_tuple_add PySem.F.entry_tuple_add (PySem.F.args_tuple_add_2 _ _)
      (tuple_addW0 a b its.toArray its2.toArray n n2 dd dd2 sl sl2 (by simp [e0])) ⟨ho, ho2, ⟨.ref b, H, I, rfl, q _ _ (Same.refl _) hb⟩⟩
  · refine op_catT pins s σ H _ _ v u Q I rx ry ⟨a, b, xs, ys, rfl, rfl, ha, hb, hx, hz, fun e => q _ _ (Same.refl _) (by rw [e, List.append_nil]; exact ha), fun _ p hp => q _ _ (sn p hp) (SqT.of upd_same)⟩
end L2

set_option Elab.async false
set_option linter.all false
set_option maxRecDepth 100000
set_option maxHeartbeats 1000000
namespace L2
open PySem PySem.Spec PyProof.Rows
section
variable {prog : Program} {w : World} {A : Around} {E : Value → Shared → Prop} {s : Shared} {z TI TO i1 i2 : Addr}
end
def ItzT (K : PySem.W.Frag) (a b : Addr) : It := ⟨fun i H => ∃ xs ys x y, SqT K H a xs ∧ SqT K H b ys ∧ xs[i]? = some x ∧ ys[i]? = some y,
  fun i H x H' => ∃ T u v, H T = none ∧ x = .ref T ∧ H' = upd H T (.tup [u, v]) ∧ (∀ xs, SqT K H a xs → xs[i]? = some u) ∧ ∀ ys, SqT K H b ys → ys[i]? = some v,
  fun i H => ∃ xs ys, SqT K H a xs ∧ SqT K H b ys ∧ xs.length = ys.length ∧ xs.length = i⟩
def iZipT (K : PySem.W.Frag) (ta : TA) : TI := fun σ H R => ta σ H fun vs H1 => ∃ a b, vs = [.ref a, .ref b] ∧ (∃ xs, SqT K H1 a xs) ∧ (∃ ys, SqT K H1 b ys) ∧ R (ItzT K a b) H1
end L2

set_option Elab.async false
set_option linter.all false
set_option maxRecDepth 100000
set_option maxHeartbeats 1000000
namespace HT
open PySem PySem.Spec PyProof.Rows
section
variable {prog : Program} {w : World} {A : Around} {E : Value → Shared → Prop} {s : Shared}
end
end HT
namespace L2
open PySem PySem.Spec PyProof.Rows
def rTurnT (K : PySem.W.Frag) : V → Hp → VK → Prop := fun x H Q => ∃ a xs, x = .ref a ∧ SqT K H a xs ∧ ∀ p, H p = none → Q (.ref p) (upd H p (.tup xs.reverse))
def tTurn (K : PySem.W.Frag) (te : TE) (ts : TO) : TE := fun σ H Q => te σ H fun x H1 => ts σ H1 fun o H2 => o = some (-1) ∧ rTurnT K x H2 Q
end L2

set_option Elab.async false
set_option linter.all false
set_option maxRecDepth 100000
set_option maxHeartbeats 1000000
namespace L2
open PySem PySem.Spec PyProof.Rows
def tTryS (sp : Sp) (t : TA) (i iz : Nat) (K : PySem.W.Frag) (C : Addr) (ts : TS) : TS := fun D σ H => t σ H fun vs H1 => sp vs H1 (fun v H2 => D.nx (σ.set iz (some v)) H2) fun c _ H2 =>
  ∃ D', c = .ref D' ∧ PySem.W.subIn K (.ref D') (.ref C) = some true ∧ ∀ a, H2 a = none → ts { nx := fun _ _ => False, rt := D.rt } (σ.set i (some (.ref a))) (upd H2 a (excO a D'))
section
variable {X : Cx} {CX : CXT} {x y n z : Str} {j k i iz : Nat} {ps : List Str} {sp : Sp} {p zpos pos tpos hpos np epos : Pos} {e : Expr} {es : List Expr} {t : TA} {C : Addr} {b₀ : Stmt} {suite : List Stmt} {ts : TS}
end
end L2

set_option Elab.async false
set_option linter.all false
set_option maxRecDepth 100000
set_option maxHeartbeats 1000000
namespace L2
open PySem PySem.Spec PyProof.Rows
def rCountT : V → List V → Hp → VK → Prop := fun x vs H Q => ∃ (p : Addr) (ns : List Int) (j : Int), x = .ref p ∧ vs = [.int j] ∧ H p = some (.tup (ns.map V.int)) ∧ Q (.int (ns.count j)) H
theorem count_vals {ns : List Int} {j : Int} : ∀ {us : List Value}, Vals (ns.map V.int) us → us.countP (eqU (.int j)) = ns.count j := by
  induction ns with
  | nil => intro us r; rw [List.map_nil] at r; cases r; rfl
  | cons n ns ih =>
    intro us r
    rw [List.map_cons] at r
    cases r with
    | cons r1 r2 =>
      rw [List.countP_cons, ih r2, List.count_cons, eqU_of r1 rfl]
      rfl
theorem all_flat_ints : ∀ ns : List Int, (ns.map V.int).all flatV = true
  | [] => rfl
  | _ :: ns => by rw [List.map_cons, List.all_cons, all_flat_ints ns]; rfl
theorem mt_countT {X : Cx} : MtR X "tuple.count" rCountT := by
  intro pins s σ H x vs v us Q I rx rv h
  obtain ⟨p, ns, j, rfl, rfl, T, q⟩ := h
  cases rx
  obtain ⟨u, rfl, ru⟩ := vals1 rv
  obtain ⟨its, r, pl, hz'⟩ := I.tuple (SqT.of (K := X.K) T)
  obtain ⟨⟨cls, dd, data, sl⟩, ho, hc, n, hd⟩ := id pl
  simp only at hc hd
  subst hc hd
  refine call_meets PySem.F.slot_tuple_count ⟨_, ho, rfl⟩ PySem.F.entry_tuple_count (PySem.F.args_tuple_count_2 _ _)
    (SeqAt.tuple_countAt p its.toArray n dd sl u (eqU (.int j))) ⟨ho, fun w hw => mem_eqAt ru rfl r (all_flat_ints ns) w (by simpa using hw), ⟨.int (ns.count j), H, I.tok _, ⟨s.toks, ?_⟩, q⟩⟩
  have := count_vals (j := j) r
  rw [← this]
theorem pe_bmTK {X : Cx} {K : PySem.W.Frag} {o e : Expr} {es : List Expr} {to : TE} {t : TA} {name : Str} {apos cpos : Pos} {id : String} {r : V → List V → Hp → VK → Prop} (hK : X.K = K) (slot : Slot "tuple" name id) (hty : typeOf (.builtin id) = pure (.type "method_descriptor")) (hm : MtR X id r) (ho : PE X o to) (ha : PA X (e :: es) t)
    (hbase : attributeBase o name X.env (eval o X.env) = eval o X.env := by rfl)
    (hfew : ((backTo cpos (starEach (e :: es) X.env)).all (fun x => !x.1) && (backToKw cpos (keywordEach [] X.env)).all (fun x => x.1.isSome)
      && decide ((e :: es).length + ([] : List Keyword).length + (if ([] : List Keyword).isEmpty then 0 else 1) < 30)) = true := by rfl)
    (hline : (apos.endLine == cpos.line) = true := by rfl) (hs : starEach (e :: es) X.env = (false, eval e X.env) :: starEach es X.env := by rfl) (hplain : (backTo cpos (starEach es X.env)).any (·.1) = false := by rfl) :
    PE X (.Call (.Attribute o name apos) (e :: es) [] cpos) (tBMT K r to t) := by
  subst hK
  exact pe_bmT slot hty hm ho ha hbase hfew hline hs hplain
def rSlTH : V → Option Int → Option Int → Hp → VK → Prop := fun x lo hi H Q => ∃ a xs, x = .ref a ∧ H a = some (.tup xs) ∧ ∀ p H', Same H H' → H' p = some (.tup (cutV xs lo hi)) → Q (.ref p) H'
theorem sl_tupH {X : Cx} : SlR X rSlTH := by
  intro pins s σ H x v vl vu lo hi sl Q I rx hs pl pu h
  obtain ⟨a, xs, rfl, T, q⟩ := h
  refine sl_tupA pins s σ H _ v vl vu lo hi sl Q I rx hs pl pu ⟨a, xs, rfl, SqT.of T, fun e => q _ _ (Same.refl _) (by rw [e]; exact T), fun p hp => q _ _ (fun b u z => ?_) upd_same⟩
  rw [upd_ne (ne_of_none z hp)]
  exact z
def rCatTH : R2 := fun x y H Q => ∃ a b xs ys, x = .ref a ∧ y = .ref b ∧ H a = some (.tup xs) ∧ H b = some (.tup ys) ∧ xs.length + ys.length ≤ sizeLine ∧ ∀ p H', Same H H' → H' p = some (.tup (xs ++ ys)) → Q (.ref p) H'
theorem op_catTH {X : Cx} : OpR X (binaryOp .Add) rCatTH := by
  intro pins s σ H x y v u Q I rx ry h
  obtain ⟨a, b, xs, ys, rfl, rfl, ha', hb', hz, q⟩ := h
  have ha : SqT X.K H a xs := SqT.of ha'
  have hb : SqT X.K H b ys := SqT.of hb'
  have sn : ∀ p, H p = none → Same H (upd H p (.tup (xs ++ ys))) := fun p hp b u z => by rw [upd_ne (ne_of_none z hp)]; exact z
  by_cases hx : xs = []
  · subst hx
    cases rx
    cases ry
    obtain ⟨its, r1, p1, _⟩ := I.tuple ha
    obtain ⟨its2, r2, p2, _⟩ := I.tuple hb
    have e0 := r1.nil_iff.mpr rfl
    obtain ⟨⟨cls, dd, data, sl⟩, ho, hc, n, hd⟩ := id p1
    obtain ⟨⟨cls2, dd2, data2, sl2⟩, ho2, hc2, n2, hd2⟩ := id p2
    simp only at hc hd hc2 hd2
    subst hc hd hc2 hd2
    exact concat_meets ⟨_, ho, rfl⟩ ⟨_, ho2, rfl⟩ noFill_tuple_add seq_tuple_add PySem.F.slot_tuple_add PySem.F.entry_tuple_add (PySem.F.args_tuple_add_2 _ _)
      (tuple_addW0 a b its.toArray its2.toArray n n2 dd dd2 sl sl2 (by simp [e0])) ⟨ho, ho2, ⟨.ref b, H, I, rfl, q _ _ (Same.refl _) hb'⟩⟩
  · refine op_catT pins s σ H _ _ v u Q I rx ry ⟨a, b, xs, ys, rfl, rfl, ha, hb, hx, hz, fun e => q _ _ (Same.refl _) (by rw [e, List.append_nil]; exact ha'), fun _ p hp => q _ _ (sn p hp) upd_same⟩
theorem pi_listK {X : Cx} {K : PySem.W.Frag} {tg l : Expr} {tl : TE} (h : X.K = K) (hl : PE X l tl) : PI X tg l (iList K tl) := by subst h; exact pi_list hl
theorem sl_listK {X : Cx} {K : PySem.W.Frag} (h : X.K = K) : SlR X (rSlL K) := by subst h; exact sl_list
theorem mt_joinK {X : Cx} {K : PySem.W.Frag} (h : X.K = K) : MtR X "str.join" (rJoin K) := by subst h; exact mt_join
end L2

set_option linter.all false
namespace MthL
def pk (ws : List Int) (w : Int) (i : Nat) : Bool := decide (0 < ws.getD i 0 ∧ ws.getD i 0 ≤ w ∧ ∀ j, j < i → ws.getD j 0 ≠ ws.getD i 0)
theorem first {ws : List Int} {w : Int} (h : w ∈ ws) : ∃ i, i < ws.length ∧ ws.getD i 0 = w ∧ ∀ j, j < i → ws.getD j 0 ≠ w := by
  induction ws with
  | nil => cases h
  | cons a ws ih =>
    by_cases e : a = w
    · exact ⟨0, Nat.zero_lt_succ _, e, fun j hj => absurd hj (Nat.not_lt_zero _)⟩
    · obtain ⟨i, h1, h2, h3⟩ := ih ((List.mem_cons.mp h).resolve_left fun z => e z.symm)
      refine ⟨i + 1, Nat.succ_lt_succ h1, h2, fun j hj => ?_⟩
      cases j with
      | zero => exact e
      | succ j => exact h3 j (Nat.lt_of_succ_lt_succ hj)
theorem below {ws : List Int} (w : Int) : (∀ o ∈ ws, 0 < o → w ≤ o) ∨ ∃ v ∈ ws, 0 < v ∧ v < w ∧ ∀ o ∈ ws, o < w → o ≤ v := by
  induction ws with
  | nil => exact .inl fun o ho => by cases ho
  | cons a ws ih =>
    by_cases ha : 0 < a ∧ a < w
    · rcases ih with ih | ⟨v, h1, h2, h3, h4⟩
      · refine .inr ⟨a, List.mem_cons_self .., ha.1, ha.2, fun o ho hl => ?_⟩
        rcases List.mem_cons.mp ho with rfl | ho
        · exact Int.le_refl _
        · by_cases h0 : 0 < o
          · have := ih o ho h0
            omega
          · omega
      · by_cases hv : a ≤ v
        · refine .inr ⟨v, List.mem_cons_of_mem _ h1, h2, h3, fun o ho hl => ?_⟩
          rcases List.mem_cons.mp ho with rfl | ho
          · exact hv
          · exact h4 o ho hl
        · refine .inr ⟨a, List.mem_cons_self .., ha.1, ha.2, fun o ho hl => ?_⟩
          rcases List.mem_cons.mp ho with rfl | ho
          · exact Int.le_refl _
          · have := h4 o ho hl
            omega
    · rcases ih with ih | ⟨v, h1, h2, h3, h4⟩
      · refine .inl fun o ho h0 => ?_
        rcases List.mem_cons.mp ho with rfl | ho
        · omega
        · exact ih o ho h0
      · refine .inr ⟨v, List.mem_cons_of_mem _ h1, h2, h3, fun o ho hl => ?_⟩
        rcases List.mem_cons.mp ho with rfl | ho
        · omega
        · exact h4 o ho hl
end MthL

set_option linter.all false
namespace Mth
def cell (ns : List Int) (k : Int) : Int :=
  if k < (ns.length : Int) then ns.getD k.toNat 0 % 10 ^ 60
  else (if 0 < (ns.length : Int) then ns.getD (k * 7 % (ns.length : Int)).toNat 0 % 10 ^ 60 * 48271 + k * k * 69621 else 7919 * k + 5) % 2147483647 * 16807 % 2147483629
def gcd (a b : Int) : Int := (Int.gcd a b : Nat)
structure IsShare (t b x y : Int) : Prop where
  pos : 0 < y
  low : gcd x y = 1
  eq : x * b = t * y
  le1 : x.natAbs ≤ t.natAbs
  le2 : y.natAbs ≤ b.natAbs
def tot (s r : Int × Int) : Int × Int := (s.1 * r.2 + r.1 * s.2, s.2 * r.2)
structure Low (T : Int × Int) (x y : Int) : Prop where
  pos : 0 < y
  low : gcd x y = 1
  eq : x * T.2 = T.1 * y
end Mth

set_option Elab.async false
set_option linter.all false
set_option maxRecDepth 100000
set_option maxHeartbeats 4000000
namespace My
open PySem L2
def spLaw (K : PySem.W.Frag) : Sp := fun vs H Q _ => ∃ (a : Addr) (ns : List Int), vs = [.ref a] ∧ SqL K H a (ns.map V.int) ∧ ns.length ≤ 63 ∧ ∀ H', Q (.bl true) H'
theorem atI_map {ns : List Int} {k : Int} (h0 : 0 ≤ k) (h1 : k < ns.length) : atI (ns.map V.int) k = some (.int (ns.getD k.toNat 0)) := by
  have e : k = ((k.toNat : Nat) : Int) := by omega
  have h2 : k.toNat < ns.length := by omega
  have q : (ns.map V.int)[k.toNat]? = some (.int (ns.getD k.toNat 0)) := by
    rw [List.getElem?_map, List.getElem?_eq_getElem h2]
    simp [List.getD, h2]
  have := atI_nat q
  rw [← e] at this
  exact this
theorem bitsN {n : Nat} {i : Int} (lo : -(10 ^ 61) ≤ i) (hi : i ≤ 10 ^ 61) (hn : 204 ≤ n := by decide) : Bits n i := (Bits.of (n := 204) (b := 10 ^ 61) lo hi (by decide)).mono hn
theorem same_new {H : Hp} {p : Addr} (h : H p = none) (o : HO) : Same H (upd H p o) := fun b u q => by rw [upd_ne (ne_of_none q h)]; exact q
theorem Same.tup {K : PySem.W.Frag} {H H' : Hp} {a : Addr} {xs : List V} (e : Same H H') (h : SqT K H a xs) : SqT K H' a xs := by
  rcases h with (h | ⟨o, h⟩) | h
  · exact .inl (.inl (e _ _ h))
  · exact .inl (.inr ⟨o, e _ _ h⟩)
  · exact .inr h
theorem cpow {n : Int} (h0 : 0 ≤ n := by decide) (h1 : n ≤ 1000000 := by decide) : CPow 10 n := ⟨h0, h1, by decide⟩
theorem ten_pos (n : Nat) : (0 : Int) < 10 ^ n := Int.pow_pos (by decide)
theorem cmul {i j : Int} (a : -(10 ^ 61) ≤ i) (b : i ≤ 10 ^ 61) (c : -(10 ^ 61) ≤ j) (d : j ≤ 10 ^ 61) : CMulB i j := ⟨bitsN a b, bitsN c d⟩
theorem cdiv {i j : Int} (a : 0 < j) (b : j ≤ 10 ^ 61) : CDivB i j := ⟨a, bitsN (by omega) b⟩
theorem getD_at {α : Type} {ws : List α} {j : Nat} {d : α} (h : j < ws.length) : ws.getD j d = ws[j] := by simp only [List.getD, List.getElem?_eq_getElem h, Option.getD_some]
theorem ixN_nat {n j : Nat} (h : j < n) : ixN n (j : Int) = some j := by
  unfold ixN
  rw [if_pos (by omega), if_pos (by omega)]
  rfl
theorem fresh_tup {K : PySem.W.Frag} {H : Hp} {p : Addr} (h : H p = none) (xs : List V) : ∃ H1, H1 = upd H p (.tup xs) ∧ Same H H1 ∧ SqT K H1 p xs := ⟨_, rfl, same_new h _, SqT.of upd_same⟩
theorem fresh_lst {K : PySem.W.Frag} {H : Hp} {p : Addr} (h : H p = none) (xs : List V) : ∃ H1, H1 = upd H p (.lst xs) ∧ Same H H1 ∧ SqL K H1 p xs := ⟨_, rfl, same_new h _, SqL.of upd_same⟩
theorem fresh_dct {K : PySem.W.Frag} {H : Hp} {p : Addr} (h : H p = none) : ∃ H1, H1 = upd H p (dctO p) ∧ Same H H1 ∧ Kd K H1 (.ref p) .dct := ⟨_, rfl, same_new h _, Kd.dct upd_same⟩
theorem same_upd {H H' : Hp} {l : Addr} (e : Same H H') (h : H l = none) (o : HO) : Same H (upd H' l o) := fun b u hb => by rw [upd_ne (ne_of_none hb h)]; exact e _ _ hb

def top (i : Nat) : Stmt := PySem.Challenge.pw_tariffgate_k51_lots_refused.main.body.getD i (.Pass ⟨0, 0, 0, 0⟩)
theorem dn_thing : (("thing" : Str) == ("__debug__" : Str)) = false := by decide
theorem dc_thing : (("thing" : Str) == ("__classdict__" : Str)) = false := by decide
theorem nn_thing : ("thing" : Str) ≠ "__name__" := by decide
theorem dn_isinstance : (("isinstance" : Str) == ("__debug__" : Str)) = false := by decide
theorem dc_isinstance : (("isinstance" : Str) == ("__classdict__" : Str)) = false := by decide
theorem nn_isinstance : ("isinstance" : Str) ≠ "__name__" := by decide
theorem dn_int : (("int" : Str) == ("__debug__" : Str)) = false := by decide
theorem dc_int : (("int" : Str) == ("__classdict__" : Str)) = false := by decide
theorem nn_int : ("int" : Str) ≠ "__name__" := by decide
theorem dn_bool : (("bool" : Str) == ("__debug__" : Str)) = false := by decide
theorem dc_bool : (("bool" : Str) == ("__classdict__" : Str)) = false := by decide
theorem nn_bool : ("bool" : Str) ≠ "__name__" := by decide
theorem dn_all : (("all" : Str) == ("__debug__" : Str)) = false := by decide
theorem dc_all : (("all" : Str) == ("__classdict__" : Str)) = false := by decide
theorem nn_all : ("all" : Str) ≠ "__name__" := by decide
theorem dn_str : (("str" : Str) == ("__debug__" : Str)) = false := by decide
theorem dc_str : (("str" : Str) == ("__classdict__" : Str)) = false := by decide
theorem nn_str : ("str" : Str) ≠ "__name__" := by decide
theorem dn_letter : (("letter" : Str) == ("__debug__" : Str)) = false := by decide
theorem dc_letter : (("letter" : Str) == ("__classdict__" : Str)) = false := by decide
theorem nn_letter : ("letter" : Str) ≠ "__name__" := by decide
theorem dn_len : (("len" : Str) == ("__debug__" : Str)) = false := by decide
theorem dc_len : (("len" : Str) == ("__classdict__" : Str)) = false := by decide
theorem nn_len : ("len" : Str) ≠ "__name__" := by decide
theorem dn_tuple : (("tuple" : Str) == ("__debug__" : Str)) = false := by decide
theorem dc_tuple : (("tuple" : Str) == ("__classdict__" : Str)) = false := by decide
theorem nn_tuple : ("tuple" : Str) ≠ "__name__" := by decide
theorem dn_part : (("part" : Str) == ("__debug__" : Str)) = false := by decide
theorem dc_part : (("part" : Str) == ("__classdict__" : Str)) = false := by decide
theorem nn_part : ("part" : Str) ≠ "__name__" := by decide
theorem dn_is_whole : (("is_whole" : Str) == ("__debug__" : Str)) = false := by decide
theorem dc_is_whole : (("is_whole" : Str) == ("__classdict__" : Str)) = false := by decide
theorem nn_is_whole : ("is_whole" : Str) ≠ "__name__" := by decide
theorem dn_is_prefix : (("is_prefix" : Str) == ("__debug__" : Str)) = false := by decide
theorem dc_is_prefix : (("is_prefix" : Str) == ("__classdict__" : Str)) = false := by decide
theorem nn_is_prefix : ("is_prefix" : Str) ≠ "__name__" := by decide
theorem dn_many : (("many" : Str) == ("__debug__" : Str)) = false := by decide
theorem dc_many : (("many" : Str) == ("__classdict__" : Str)) = false := by decide
theorem nn_many : ("many" : Str) ≠ "__name__" := by decide
theorem dn_place : (("place" : Str) == ("__debug__" : Str)) = false := by decide
theorem dc_place : (("place" : Str) == ("__classdict__" : Str)) = false := by decide
theorem nn_place : ("place" : Str) ≠ "__name__" := by decide
theorem dn_lots : (("lots" : Str) == ("__debug__" : Str)) = false := by decide
theorem dc_lots : (("lots" : Str) == ("__classdict__" : Str)) = false := by decide
theorem nn_lots : ("lots" : Str) ≠ "__name__" := by decide
theorem dn_inputs : (("inputs" : Str) == ("__debug__" : Str)) = false := by decide
theorem dc_inputs : (("inputs" : Str) == ("__classdict__" : Str)) = false := by decide
theorem nn_inputs : ("inputs" : Str) ≠ "__name__" := by decide
theorem dn_sum : (("sum" : Str) == ("__debug__" : Str)) = false := by decide
theorem dc_sum : (("sum" : Str) == ("__classdict__" : Str)) = false := by decide
theorem nn_sum : ("sum" : Str) ≠ "__name__" := by decide
theorem dn_ahead : (("ahead" : Str) == ("__debug__" : Str)) = false := by decide
theorem dc_ahead : (("ahead" : Str) == ("__classdict__" : Str)) = false := by decide
theorem nn_ahead : ("ahead" : Str) ≠ "__name__" := by decide
theorem dn_are_inputs : (("are_inputs" : Str) == ("__debug__" : Str)) = false := by decide
theorem dc_are_inputs : (("are_inputs" : Str) == ("__classdict__" : Str)) = false := by decide
theorem nn_are_inputs : ("are_inputs" : Str) ≠ "__name__" := by decide
theorem dn_is_name : (("is_name" : Str) == ("__debug__" : Str)) = false := by decide
theorem dc_is_name : (("is_name" : Str) == ("__classdict__" : Str)) = false := by decide
theorem nn_is_name : ("is_name" : Str) ≠ "__name__" := by decide
theorem dn_is_number : (("is_number" : Str) == ("__debug__" : Str)) = false := by decide
theorem dc_is_number : (("is_number" : Str) == ("__classdict__" : Str)) = false := by decide
theorem nn_is_number : ("is_number" : Str) ≠ "__name__" := by decide
theorem dn_is_price : (("is_price" : Str) == ("__debug__" : Str)) = false := by decide
theorem dc_is_price : (("is_price" : Str) == ("__classdict__" : Str)) = false := by decide
theorem nn_is_price : ("is_price" : Str) ≠ "__name__" := by decide
theorem dn_price_of_inputs : (("price_of_inputs" : Str) == ("__debug__" : Str)) = false := by decide
theorem dc_price_of_inputs : (("price_of_inputs" : Str) == ("__classdict__" : Str)) = false := by decide
theorem nn_price_of_inputs : ("price_of_inputs" : Str) ≠ "__name__" := by decide
theorem dn_rows : (("rows" : Str) == ("__debug__" : Str)) = false := by decide
theorem dc_rows : (("rows" : Str) == ("__classdict__" : Str)) = false := by decide
theorem nn_rows : ("rows" : Str) ≠ "__name__" := by decide
theorem dn_row : (("row" : Str) == ("__debug__" : Str)) = false := by decide
theorem dc_row : (("row" : Str) == ("__classdict__" : Str)) = false := by decide
theorem nn_row : ("row" : Str) ≠ "__name__" := by decide
theorem dn_NoLot : (("NoLot" : Str) == ("__debug__" : Str)) = false := by decide
theorem dc_NoLot : (("NoLot" : Str) == ("__classdict__" : Str)) = false := by decide
theorem nn_NoLot : ("NoLot" : Str) ≠ "__name__" := by decide
theorem dn_list : (("list" : Str) == ("__debug__" : Str)) = false := by decide
theorem dc_list : (("list" : Str) == ("__classdict__" : Str)) = false := by decide
theorem nn_list : ("list" : Str) ≠ "__name__" := by decide
theorem dn_is_lot : (("is_lot" : Str) == ("__debug__" : Str)) = false := by decide
theorem dc_is_lot : (("is_lot" : Str) == ("__classdict__" : Str)) = false := by decide
theorem nn_is_lot : ("is_lot" : Str) ≠ "__name__" := by decide
theorem dn__law_script : (("_law_script" : Str) == ("__debug__" : Str)) = false := by decide
theorem dc__law_script : (("_law_script" : Str) == ("__classdict__" : Str)) = false := by decide
theorem nn__law_script : ("_law_script" : Str) ≠ "__name__" := by decide
theorem dn__law_k : (("_law_k" : Str) == ("__debug__" : Str)) = false := by decide
theorem dc__law_k : (("_law_k" : Str) == ("__classdict__" : Str)) = false := by decide
theorem nn__law_k : ("_law_k" : Str) ≠ "__name__" := by decide
theorem dn__law_cell : (("_law_cell" : Str) == ("__debug__" : Str)) = false := by decide
theorem dc__law_cell : (("_law_cell" : Str) == ("__classdict__" : Str)) = false := by decide
theorem nn__law_cell : ("_law_cell" : Str) ≠ "__name__" := by decide
theorem dn__law_by : (("_law_by" : Str) == ("__debug__" : Str)) = false := by decide
theorem dc__law_by : (("_law_by" : Str) == ("__classdict__" : Str)) = false := by decide
theorem nn__law_by : ("_law_by" : Str) ≠ "__name__" := by decide
theorem dn__law_thing : (("_law_thing" : Str) == ("__debug__" : Str)) = false := by decide
theorem dc__law_thing : (("_law_thing" : Str) == ("__classdict__" : Str)) = false := by decide
theorem nn__law_thing : ("_law_thing" : Str) ≠ "__name__" := by decide
theorem dn__law_size : (("_law_size" : Str) == ("__debug__" : Str)) = false := by decide
theorem dc__law_size : (("_law_size" : Str) == ("__classdict__" : Str)) = false := by decide
theorem nn__law_size : ("_law_size" : Str) ≠ "__name__" := by decide
theorem dn__law_wide : (("_law_wide" : Str) == ("__debug__" : Str)) = false := by decide
theorem dc__law_wide : (("_law_wide" : Str) == ("__classdict__" : Str)) = false := by decide
theorem nn__law_wide : ("_law_wide" : Str) ≠ "__name__" := by decide
theorem dn_range : (("range" : Str) == ("__debug__" : Str)) = false := by decide
theorem dc_range : (("range" : Str) == ("__classdict__" : Str)) = false := by decide
theorem nn_range : ("range" : Str) ≠ "__name__" := by decide
theorem dn__law_mix : (("_law_mix" : Str) == ("__debug__" : Str)) = false := by decide
theorem dc__law_mix : (("_law_mix" : Str) == ("__classdict__" : Str)) = false := by decide
theorem nn__law_mix : ("_law_mix" : Str) ≠ "__name__" := by decide
theorem dn__law_letters : (("_law_letters" : Str) == ("__debug__" : Str)) = false := by decide
theorem dc__law_letters : (("_law_letters" : Str) == ("__classdict__" : Str)) = false := by decide
theorem nn__law_letters : ("_law_letters" : Str) ≠ "__name__" := by decide
theorem dn__law_base : (("_law_base" : Str) == ("__debug__" : Str)) = false := by decide
theorem dc__law_base : (("_law_base" : Str) == ("__classdict__" : Str)) = false := by decide
theorem nn__law_base : ("_law_base" : Str) ≠ "__name__" := by decide
theorem dn__law_many : (("_law_many" : Str) == ("__debug__" : Str)) = false := by decide
theorem dc__law_many : (("_law_many" : Str) == ("__classdict__" : Str)) = false := by decide
theorem nn__law_many : ("_law_many" : Str) ≠ "__name__" := by decide
theorem dn__law_at : (("_law_at" : Str) == ("__debug__" : Str)) = false := by decide
theorem dc__law_at : (("_law_at" : Str) == ("__classdict__" : Str)) = false := by decide
theorem nn__law_at : ("_law_at" : Str) ≠ "__name__" := by decide
theorem dn__law_names : (("_law_names" : Str) == ("__debug__" : Str)) = false := by decide
theorem dc__law_names : (("_law_names" : Str) == ("__classdict__" : Str)) = false := by decide
theorem nn__law_names : ("_law_names" : Str) ≠ "__name__" := by decide
theorem dn__law_row : (("_law_row" : Str) == ("__debug__" : Str)) = false := by decide
theorem dc__law_row : (("_law_row" : Str) == ("__classdict__" : Str)) = false := by decide
theorem nn__law_row : ("_law_row" : Str) ≠ "__name__" := by decide
theorem dn__law_n : (("_law_n" : Str) == ("__debug__" : Str)) = false := by decide
theorem dc__law_n : (("_law_n" : Str) == ("__classdict__" : Str)) = false := by decide
theorem nn__law_n : ("_law_n" : Str) ≠ "__name__" := by decide
theorem dn__law_some : (("_law_some" : Str) == ("__debug__" : Str)) = false := by decide
theorem dc__law_some : (("_law_some" : Str) == ("__classdict__" : Str)) = false := by decide
theorem nn__law_some : ("_law_some" : Str) ≠ "__name__" := by decide
theorem dn__law_near : (("_law_near" : Str) == ("__debug__" : Str)) = false := by decide
theorem dc__law_near : (("_law_near" : Str) == ("__classdict__" : Str)) = false := by decide
theorem nn__law_near : ("_law_near" : Str) ≠ "__name__" := by decide
theorem dn_max : (("max" : Str) == ("__debug__" : Str)) = false := by decide
theorem dc_max : (("max" : Str) == ("__classdict__" : Str)) = false := by decide
theorem nn_max : ("max" : Str) ≠ "__name__" := by decide
theorem dn_min : (("min" : Str) == ("__debug__" : Str)) = false := by decide
theorem dc_min : (("min" : Str) == ("__classdict__" : Str)) = false := by decide
theorem nn_min : ("min" : Str) ≠ "__name__" := by decide
theorem dn__law_lots_here : (("_law_lots_here" : Str) == ("__debug__" : Str)) = false := by decide
theorem dc__law_lots_here : (("_law_lots_here" : Str) == ("__classdict__" : Str)) = false := by decide
theorem nn__law_lots_here : ("_law_lots_here" : Str) ≠ "__name__" := by decide
theorem dn__law_lands_here : (("_law_lands_here" : Str) == ("__debug__" : Str)) = false := by decide
theorem dc__law_lands_here : (("_law_lands_here" : Str) == ("__classdict__" : Str)) = false := by decide
theorem nn__law_lands_here : ("_law_lands_here" : Str) ≠ "__name__" := by decide
theorem dn__law_cells : (("_law_cells" : Str) == ("__debug__" : Str)) = false := by decide
theorem dc__law_cells : (("_law_cells" : Str) == ("__classdict__" : Str)) = false := by decide
theorem nn__law_cells : ("_law_cells" : Str) ≠ "__name__" := by decide
theorem dn__law_inputs_here : (("_law_inputs_here" : Str) == ("__debug__" : Str)) = false := by decide
theorem dc__law_inputs_here : (("_law_inputs_here" : Str) == ("__classdict__" : Str)) = false := by decide
theorem nn__law_inputs_here : ("_law_inputs_here" : Str) ≠ "__name__" := by decide
theorem dn__law_total : (("_law_total" : Str) == ("__debug__" : Str)) = false := by decide
theorem dc__law_total : (("_law_total" : Str) == ("__classdict__" : Str)) = false := by decide
theorem nn__law_total : ("_law_total" : Str) ≠ "__name__" := by decide
theorem dn__law_way : (("_law_way" : Str) == ("__debug__" : Str)) = false := by decide
theorem dc__law_way : (("_law_way" : Str) == ("__classdict__" : Str)) = false := by decide
theorem nn__law_way : ("_law_way" : Str) ≠ "__name__" := by decide
theorem dn__law_own : (("_law_own" : Str) == ("__debug__" : Str)) = false := by decide
theorem dc__law_own : (("_law_own" : Str) == ("__classdict__" : Str)) = false := by decide
theorem nn__law_own : ("_law_own" : Str) ≠ "__name__" := by decide
theorem dn__law_price : (("_law_price" : Str) == ("__debug__" : Str)) = false := by decide
theorem dc__law_price : (("_law_price" : Str) == ("__classdict__" : Str)) = false := by decide
theorem nn__law_price : ("_law_price" : Str) ≠ "__name__" := by decide
theorem dn__law_inputs : (("_law_inputs" : Str) == ("__debug__" : Str)) = false := by decide
theorem dc__law_inputs : (("_law_inputs" : Str) == ("__classdict__" : Str)) = false := by decide
theorem nn__law_inputs : ("_law_inputs" : Str) ≠ "__name__" := by decide
theorem dn__law_number : (("_law_number" : Str) == ("__debug__" : Str)) = false := by decide
theorem dc__law_number : (("_law_number" : Str) == ("__classdict__" : Str)) = false := by decide
theorem nn__law_number : ("_law_number" : Str) ≠ "__name__" := by decide
theorem dn__law_j : (("_law_j" : Str) == ("__debug__" : Str)) = false := by decide
theorem dc__law_j : (("_law_j" : Str) == ("__classdict__" : Str)) = false := by decide
theorem nn__law_j : ("_law_j" : Str) ≠ "__name__" := by decide
theorem dn__law_lands : (("_law_lands" : Str) == ("__debug__" : Str)) = false := by decide
theorem dc__law_lands : (("_law_lands" : Str) == ("__classdict__" : Str)) = false := by decide
theorem nn__law_lands : ("_law_lands" : Str) ≠ "__name__" := by decide
theorem dn__law_cell_at : (("_law_cell_at" : Str) == ("__debug__" : Str)) = false := by decide
theorem dc__law_cell_at : (("_law_cell_at" : Str) == ("__classdict__" : Str)) = false := by decide
theorem nn__law_cell_at : ("_law_cell_at" : Str) ≠ "__name__" := by decide
theorem dn__law_lot : (("_law_lot" : Str) == ("__debug__" : Str)) = false := by decide
theorem dc__law_lot : (("_law_lot" : Str) == ("__classdict__" : Str)) = false := by decide
theorem nn__law_lot : ("_law_lot" : Str) ≠ "__name__" := by decide
theorem dn__law_lot_here : (("_law_lot_here" : Str) == ("__debug__" : Str)) = false := by decide
theorem dc__law_lot_here : (("_law_lot_here" : Str) == ("__classdict__" : Str)) = false := by decide
theorem nn__law_lot_here : ("_law_lot_here" : Str) ≠ "__name__" := by decide
theorem dn__law_pick : (("_law_pick" : Str) == ("__debug__" : Str)) = false := by decide
theorem dc__law_pick : (("_law_pick" : Str) == ("__classdict__" : Str)) = false := by decide
theorem nn__law_pick : ("_law_pick" : Str) ≠ "__name__" := by decide
theorem dn__law_land : (("_law_land" : Str) == ("__debug__" : Str)) = false := by decide
theorem dc__law_land : (("_law_land" : Str) == ("__classdict__" : Str)) = false := by decide
theorem nn__law_land : ("_law_land" : Str) ≠ "__name__" := by decide
theorem dn__law_number_here : (("_law_number_here" : Str) == ("__debug__" : Str)) = false := by decide
theorem dc__law_number_here : (("_law_number_here" : Str) == ("__classdict__" : Str)) = false := by decide
theorem nn__law_number_here : ("_law_number_here" : Str) ≠ "__name__" := by decide
theorem dn__law_rest : (("_law_rest" : Str) == ("__debug__" : Str)) = false := by decide
theorem dc__law_rest : (("_law_rest" : Str) == ("__classdict__" : Str)) = false := by decide
theorem nn__law_rest : ("_law_rest" : Str) ≠ "__name__" := by decide
theorem dn__law_rows : (("_law_rows" : Str) == ("__debug__" : Str)) = false := by decide
theorem dc__law_rows : (("_law_rows" : Str) == ("__classdict__" : Str)) = false := by decide
theorem nn__law_rows : ("_law_rows" : Str) ≠ "__name__" := by decide
theorem dn__law_bad_word : (("_law_bad_word" : Str) == ("__debug__" : Str)) = false := by decide
theorem dc__law_bad_word : (("_law_bad_word" : Str) == ("__classdict__" : Str)) = false := by decide
theorem nn__law_bad_word : ("_law_bad_word" : Str) ≠ "__name__" := by decide
theorem dn__law_bad_inputs : (("_law_bad_inputs" : Str) == ("__debug__" : Str)) = false := by decide
theorem dc__law_bad_inputs : (("_law_bad_inputs" : Str) == ("__classdict__" : Str)) = false := by decide
theorem nn__law_bad_inputs : ("_law_bad_inputs" : Str) ≠ "__name__" := by decide
theorem dn_e : (("e" : Str) == ("__debug__" : Str)) = false := by decide
theorem dc_e : (("e" : Str) == ("__classdict__" : Str)) = false := by decide
theorem nn_e : ("e" : Str) ≠ "__name__" := by decide
theorem dn_TariffError : (("TariffError" : Str) == ("__debug__" : Str)) = false := by decide
theorem dc_TariffError : (("TariffError" : Str) == ("__classdict__" : Str)) = false := by decide
theorem nn_TariffError : ("TariffError" : Str) ≠ "__name__" := by decide
theorem dn_lots_of : (("lots_of" : Str) == ("__debug__" : Str)) = false := by decide
theorem dc_lots_of : (("lots_of" : Str) == ("__classdict__" : Str)) = false := by decide
theorem nn_lots_of : ("lots_of" : Str) ≠ "__name__" := by decide
theorem dn_NoRule : (("NoRule" : Str) == ("__debug__" : Str)) = false := by decide
theorem dc_NoRule : (("NoRule" : Str) == ("__classdict__" : Str)) = false := by decide
theorem nn_NoRule : ("NoRule" : Str) ≠ "__name__" := by decide
theorem dn_NoNumber : (("NoNumber" : Str) == ("__debug__" : Str)) = false := by decide
theorem dc_NoNumber : (("NoNumber" : Str) == ("__classdict__" : Str)) = false := by decide
theorem nn_NoNumber : ("NoNumber" : Str) ≠ "__name__" := by decide
theorem dn_NoEntry : (("NoEntry" : Str) == ("__debug__" : Str)) = false := by decide
theorem dc_NoEntry : (("NoEntry" : Str) == ("__classdict__" : Str)) = false := by decide
theorem nn_NoEntry : ("NoEntry" : Str) ≠ "__name__" := by decide
theorem dn_NoDeed : (("NoDeed" : Str) == ("__debug__" : Str)) = false := by decide
theorem dc_NoDeed : (("NoDeed" : Str) == ("__classdict__" : Str)) = false := by decide
theorem nn_NoDeed : ("NoDeed" : Str) ≠ "__name__" := by decide
theorem dn_ValueError : (("ValueError" : Str) == ("__debug__" : Str)) = false := by decide
theorem dc_ValueError : (("ValueError" : Str) == ("__classdict__" : Str)) = false := by decide
theorem nn_ValueError : ("ValueError" : Str) ≠ "__name__" := by decide
theorem dn__law_found : (("_law_found" : Str) == ("__debug__" : Str)) = false := by decide
theorem dc__law_found : (("_law_found" : Str) == ("__classdict__" : Str)) = false := by decide
theorem nn__law_found : ("_law_found" : Str) ≠ "__name__" := by decide
theorem dn__law_whole : (("_law_whole" : Str) == ("__debug__" : Str)) = false := by decide
theorem dc__law_whole : (("_law_whole" : Str) == ("__classdict__" : Str)) = false := by decide
theorem nn__law_whole : ("_law_whole" : Str) ≠ "__name__" := by decide
theorem dn__law_good : (("_law_good" : Str) == ("__debug__" : Str)) = false := by decide
theorem dc__law_good : (("_law_good" : Str) == ("__classdict__" : Str)) = false := by decide
theorem nn__law_good : ("_law_good" : Str) ≠ "__name__" := by decide
theorem dn__law_bad : (("_law_bad" : Str) == ("__debug__" : Str)) = false := by decide
theorem dc__law_bad : (("_law_bad" : Str) == ("__classdict__" : Str)) = false := by decide
theorem nn__law_bad : ("_law_bad" : Str) ≠ "__name__" := by decide
theorem dn__law_kept : (("_law_kept" : Str) == ("__debug__" : Str)) = false := by decide
theorem dc__law_kept : (("_law_kept" : Str) == ("__classdict__" : Str)) = false := by decide
theorem nn__law_kept : ("_law_kept" : Str) ≠ "__name__" := by decide
theorem dn__law_most : (("_law_most" : Str) == ("__debug__" : Str)) = false := by decide
theorem dc__law_most : (("_law_most" : Str) == ("__classdict__" : Str)) = false := by decide
theorem nn__law_most : ("_law_most" : Str) ≠ "__name__" := by decide
theorem dn__law_lots : (("_law_lots" : Str) == ("__debug__" : Str)) = false := by decide
theorem dc__law_lots : (("_law_lots" : Str) == ("__classdict__" : Str)) = false := by decide
theorem nn__law_lots : ("_law_lots" : Str) ≠ "__name__" := by decide
theorem dn__law_spoilt : (("_law_spoilt" : Str) == ("__debug__" : Str)) = false := by decide
theorem dc__law_spoilt : (("_law_spoilt" : Str) == ("__classdict__" : Str)) = false := by decide
theorem nn__law_spoilt : ("_law_spoilt" : Str) ≠ "__name__" := by decide
theorem dn__law_same : (("_law_same" : Str) == ("__debug__" : Str)) = false := by decide
theorem dc__law_same : (("_law_same" : Str) == ("__classdict__" : Str)) = false := by decide
theorem nn__law_same : ("_law_same" : Str) ≠ "__name__" := by decide
theorem dn__law_refused : (("_law_refused" : Str) == ("__debug__" : Str)) = false := by decide
theorem dc__law_refused : (("_law_refused" : Str) == ("__classdict__" : Str)) = false := by decide
theorem nn__law_refused : ("_law_refused" : Str) ≠ "__name__" := by decide
abbrev s_is_whole : Stmt := top 8
theorem sc_is_whole : FnScope ["thing"] ["thing"] (defScope s_is_whole) := ⟨rfl, rfl, rfl, by decide +kernel, rfl, by decide +kernel, by decide +kernel⟩
theorem v_is_whole_0 : Vis (defScope s_is_whole) "thing" := by first | exact Or.inl rfl | exact Or.inr (Or.inl rfl) | exact Or.inr (Or.inr rfl)
theorem l_is_whole_0 : Loc (defScope s_is_whole) "thing" := by first | exact Or.inl rfl | exact Or.inr rfl
theorem g_is_whole_isinstance : (defScope s_is_whole).names.lookup ("isinstance" : Str) = some .globalImplicit := by rfl
theorem g_is_whole_int : (defScope s_is_whole).names.lookup ("int" : Str) = some .globalImplicit := by rfl
theorem g_is_whole_bool : (defScope s_is_whole).names.lookup ("bool" : Str) = some .globalImplicit := by rfl
abbrev s_is_name : Stmt := top 10
theorem sc_is_name : FnScope ["thing"] ["thing"] (defScope s_is_name) := ⟨rfl, rfl, rfl, by decide +kernel, rfl, by decide +kernel, by decide +kernel⟩
theorem v_is_name_0 : Vis (defScope s_is_name) "thing" := by first | exact Or.inl rfl | exact Or.inr (Or.inl rfl) | exact Or.inr (Or.inr rfl)
theorem l_is_name_0 : Loc (defScope s_is_name) "thing" := by first | exact Or.inl rfl | exact Or.inr rfl
theorem g_is_name_isinstance : (defScope s_is_name).names.lookup ("isinstance" : Str) = some .globalImplicit := by rfl
theorem g_is_name_str : (defScope s_is_name).names.lookup ("str" : Str) = some .globalImplicit := by rfl
theorem g_is_name_len : (defScope s_is_name).names.lookup ("len" : Str) = some .globalImplicit := by rfl
theorem g_is_name_all : (defScope s_is_name).names.lookup ("all" : Str) = some .globalImplicit := by rfl
abbrev s_is_prefix : Stmt := top 11
theorem sc_is_prefix : FnScope ["thing"] ["thing"] (defScope s_is_prefix) := ⟨rfl, rfl, rfl, by decide +kernel, rfl, by decide +kernel, by decide +kernel⟩
theorem v_is_prefix_0 : Vis (defScope s_is_prefix) "thing" := by first | exact Or.inl rfl | exact Or.inr (Or.inl rfl) | exact Or.inr (Or.inr rfl)
theorem l_is_prefix_0 : Loc (defScope s_is_prefix) "thing" := by first | exact Or.inl rfl | exact Or.inr rfl
theorem g_is_prefix_isinstance : (defScope s_is_prefix).names.lookup ("isinstance" : Str) = some .globalImplicit := by rfl
theorem g_is_prefix_tuple : (defScope s_is_prefix).names.lookup ("tuple" : Str) = some .globalImplicit := by rfl
theorem g_is_prefix_len : (defScope s_is_prefix).names.lookup ("len" : Str) = some .globalImplicit := by rfl
theorem g_is_prefix_all : (defScope s_is_prefix).names.lookup ("all" : Str) = some .globalImplicit := by rfl
abbrev s_is_number : Stmt := top 12
theorem sc_is_number : FnScope ["thing"] ["thing"] (defScope s_is_number) := ⟨rfl, rfl, rfl, by decide +kernel, rfl, by decide +kernel, by decide +kernel⟩
theorem v_is_number_0 : Vis (defScope s_is_number) "thing" := by first | exact Or.inl rfl | exact Or.inr (Or.inl rfl) | exact Or.inr (Or.inr rfl)
theorem l_is_number_0 : Loc (defScope s_is_number) "thing" := by first | exact Or.inl rfl | exact Or.inr rfl
theorem g_is_number_is_prefix : (defScope s_is_number).names.lookup ("is_prefix" : Str) = some .globalImplicit := by rfl
theorem g_is_number_len : (defScope s_is_number).names.lookup ("len" : Str) = some .globalImplicit := by rfl
abbrev s_is_price : Stmt := top 14
theorem sc_is_price : FnScope ["thing"] ["thing"] (defScope s_is_price) := ⟨rfl, rfl, rfl, by decide +kernel, rfl, by decide +kernel, by decide +kernel⟩
theorem v_is_price_0 : Vis (defScope s_is_price) "thing" := by first | exact Or.inl rfl | exact Or.inr (Or.inl rfl) | exact Or.inr (Or.inr rfl)
theorem l_is_price_0 : Loc (defScope s_is_price) "thing" := by first | exact Or.inl rfl | exact Or.inr rfl
theorem g_is_price_is_whole : (defScope s_is_price).names.lookup ("is_whole" : Str) = some .globalImplicit := by rfl
abbrev s_are_inputs : Stmt := top 15
theorem sc_are_inputs : FnScope ["thing", "many"] ["thing", "many"] (defScope s_are_inputs) := ⟨rfl, rfl, rfl, by decide +kernel, rfl, by decide +kernel, by decide +kernel⟩
theorem v_are_inputs_0 : Vis (defScope s_are_inputs) "thing" := by first | exact Or.inl rfl | exact Or.inr (Or.inl rfl) | exact Or.inr (Or.inr rfl)
theorem l_are_inputs_0 : Loc (defScope s_are_inputs) "thing" := by first | exact Or.inl rfl | exact Or.inr rfl
theorem v_are_inputs_1 : Vis (defScope s_are_inputs) "many" := by first | exact Or.inl rfl | exact Or.inr (Or.inl rfl) | exact Or.inr (Or.inr rfl)
theorem l_are_inputs_1 : Loc (defScope s_are_inputs) "many" := by first | exact Or.inl rfl | exact Or.inr rfl
theorem g_are_inputs_isinstance : (defScope s_are_inputs).names.lookup ("isinstance" : Str) = some .globalImplicit := by rfl
theorem g_are_inputs_tuple : (defScope s_are_inputs).names.lookup ("tuple" : Str) = some .globalImplicit := by rfl
theorem g_are_inputs_len : (defScope s_are_inputs).names.lookup ("len" : Str) = some .globalImplicit := by rfl
theorem g_are_inputs_all : (defScope s_are_inputs).names.lookup ("all" : Str) = some .globalImplicit := by rfl
abbrev s_price_of_inputs : Stmt := top 16
theorem sc_price_of_inputs : FnScope ["lots", "inputs"] ["lots", "inputs"] (defScope s_price_of_inputs) := ⟨rfl, rfl, rfl, by decide +kernel, rfl, by decide +kernel, by decide +kernel⟩
theorem v_price_of_inputs_0 : Vis (defScope s_price_of_inputs) "lots" := by first | exact Or.inl rfl | exact Or.inr (Or.inl rfl) | exact Or.inr (Or.inr rfl)
theorem l_price_of_inputs_0 : Loc (defScope s_price_of_inputs) "lots" := by first | exact Or.inl rfl | exact Or.inr rfl
theorem v_price_of_inputs_1 : Vis (defScope s_price_of_inputs) "inputs" := by first | exact Or.inl rfl | exact Or.inr (Or.inl rfl) | exact Or.inr (Or.inr rfl)
theorem l_price_of_inputs_1 : Loc (defScope s_price_of_inputs) "inputs" := by first | exact Or.inl rfl | exact Or.inr rfl
theorem g_price_of_inputs_sum : (defScope s_price_of_inputs).names.lookup ("sum" : Str) = some .globalImplicit := by rfl
abbrev s_is_lot : Stmt := top 17
theorem sc_is_lot : FnScope ["thing", "ahead"] ["thing", "ahead"] (defScope s_is_lot) := ⟨rfl, rfl, rfl, by decide +kernel, rfl, by decide +kernel, by decide +kernel⟩
theorem v_is_lot_0 : Vis (defScope s_is_lot) "thing" := by first | exact Or.inl rfl | exact Or.inr (Or.inl rfl) | exact Or.inr (Or.inr rfl)
theorem l_is_lot_0 : Loc (defScope s_is_lot) "thing" := by first | exact Or.inl rfl | exact Or.inr rfl
theorem v_is_lot_1 : Vis (defScope s_is_lot) "ahead" := by first | exact Or.inl rfl | exact Or.inr (Or.inl rfl) | exact Or.inr (Or.inr rfl)
theorem l_is_lot_1 : Loc (defScope s_is_lot) "ahead" := by first | exact Or.inl rfl | exact Or.inr rfl
theorem g_is_lot_isinstance : (defScope s_is_lot).names.lookup ("isinstance" : Str) = some .globalImplicit := by rfl
theorem g_is_lot_tuple : (defScope s_is_lot).names.lookup ("tuple" : Str) = some .globalImplicit := by rfl
theorem g_is_lot_len : (defScope s_is_lot).names.lookup ("len" : Str) = some .globalImplicit := by rfl
theorem g_is_lot_is_name : (defScope s_is_lot).names.lookup ("is_name" : Str) = some .globalImplicit := by rfl
theorem g_is_lot_is_number : (defScope s_is_lot).names.lookup ("is_number" : Str) = some .globalImplicit := by rfl
theorem g_is_lot_is_price : (defScope s_is_lot).names.lookup ("is_price" : Str) = some .globalImplicit := by rfl
theorem g_is_lot_are_inputs : (defScope s_is_lot).names.lookup ("are_inputs" : Str) = some .globalImplicit := by rfl
theorem g_is_lot_price_of_inputs : (defScope s_is_lot).names.lookup ("price_of_inputs" : Str) = some .globalImplicit := by rfl
abbrev s_lots_of : Stmt := top 18
theorem sc_lots_of : FnScope ["rows", "lots", "row"] ["rows"] (defScope s_lots_of) := ⟨rfl, rfl, rfl, by decide +kernel, rfl, by decide +kernel, by decide +kernel⟩
theorem v_lots_of_0 : Vis (defScope s_lots_of) "rows" := by first | exact Or.inl rfl | exact Or.inr (Or.inl rfl) | exact Or.inr (Or.inr rfl)
theorem l_lots_of_0 : Loc (defScope s_lots_of) "rows" := by first | exact Or.inl rfl | exact Or.inr rfl
theorem v_lots_of_1 : Vis (defScope s_lots_of) "lots" := by first | exact Or.inl rfl | exact Or.inr (Or.inl rfl) | exact Or.inr (Or.inr rfl)
theorem l_lots_of_1 : Loc (defScope s_lots_of) "lots" := by first | exact Or.inl rfl | exact Or.inr rfl
theorem v_lots_of_2 : Vis (defScope s_lots_of) "row" := by first | exact Or.inl rfl | exact Or.inr (Or.inl rfl) | exact Or.inr (Or.inr rfl)
theorem l_lots_of_2 : Loc (defScope s_lots_of) "row" := by first | exact Or.inl rfl | exact Or.inr rfl
theorem g_lots_of_isinstance : (defScope s_lots_of).names.lookup ("isinstance" : Str) = some .globalImplicit := by rfl
theorem g_lots_of_list : (defScope s_lots_of).names.lookup ("list" : Str) = some .globalImplicit := by rfl
theorem g_lots_of_len : (defScope s_lots_of).names.lookup ("len" : Str) = some .globalImplicit := by rfl
theorem g_lots_of_NoLot : (defScope s_lots_of).names.lookup ("NoLot" : Str) = some .globalImplicit := by rfl
theorem g_lots_of_is_lot : (defScope s_lots_of).names.lookup ("is_lot" : Str) = some .globalImplicit := by rfl
abbrev s_law_cell_at : Stmt := top 20
theorem sc_law_cell_at : FnScope ["_law_script", "_law_k"] ["_law_script", "_law_k"] (defScope s_law_cell_at) := ⟨rfl, rfl, rfl, by decide +kernel, rfl, by decide +kernel, by decide +kernel⟩
theorem v_law_cell_at_0 : Vis (defScope s_law_cell_at) "_law_script" := by first | exact Or.inl rfl | exact Or.inr (Or.inl rfl) | exact Or.inr (Or.inr rfl)
theorem l_law_cell_at_0 : Loc (defScope s_law_cell_at) "_law_script" := by first | exact Or.inl rfl | exact Or.inr rfl
theorem v_law_cell_at_1 : Vis (defScope s_law_cell_at) "_law_k" := by first | exact Or.inl rfl | exact Or.inr (Or.inl rfl) | exact Or.inr (Or.inr rfl)
theorem l_law_cell_at_1 : Loc (defScope s_law_cell_at) "_law_k" := by first | exact Or.inl rfl | exact Or.inr rfl
theorem g_law_cell_at_len : (defScope s_law_cell_at).names.lookup ("len" : Str) = some .globalImplicit := by rfl
abbrev s_law_mix : Stmt := top 21
theorem sc_law_mix : FnScope ["_law_cell", "_law_by"] ["_law_cell", "_law_by"] (defScope s_law_mix) := ⟨rfl, rfl, rfl, by decide +kernel, rfl, by decide +kernel, by decide +kernel⟩
theorem v_law_mix_0 : Vis (defScope s_law_mix) "_law_cell" := by first | exact Or.inl rfl | exact Or.inr (Or.inl rfl) | exact Or.inr (Or.inr rfl)
theorem l_law_mix_0 : Loc (defScope s_law_mix) "_law_cell" := by first | exact Or.inl rfl | exact Or.inr rfl
theorem v_law_mix_1 : Vis (defScope s_law_mix) "_law_by" := by first | exact Or.inl rfl | exact Or.inr (Or.inl rfl) | exact Or.inr (Or.inr rfl)
theorem l_law_mix_1 : Loc (defScope s_law_mix) "_law_by" := by first | exact Or.inl rfl | exact Or.inr rfl
abbrev s_law_whole : Stmt := top 22
theorem sc_law_whole : FnScope ["_law_thing"] ["_law_thing"] (defScope s_law_whole) := ⟨rfl, rfl, rfl, by decide +kernel, rfl, by decide +kernel, by decide +kernel⟩
theorem v_law_whole_0 : Vis (defScope s_law_whole) "_law_thing" := by first | exact Or.inl rfl | exact Or.inr (Or.inl rfl) | exact Or.inr (Or.inr rfl)
theorem l_law_whole_0 : Loc (defScope s_law_whole) "_law_thing" := by first | exact Or.inl rfl | exact Or.inr rfl
theorem g_law_whole_isinstance : (defScope s_law_whole).names.lookup ("isinstance" : Str) = some .globalImplicit := by rfl
theorem g_law_whole_int : (defScope s_law_whole).names.lookup ("int" : Str) = some .globalImplicit := by rfl
theorem g_law_whole_bool : (defScope s_law_whole).names.lookup ("bool" : Str) = some .globalImplicit := by rfl
abbrev s_law_number : Stmt := top 23
theorem sc_law_number : FnScope ["_law_cell", "_law_size", "_law_wide", "_law_by"] ["_law_cell"] (defScope s_law_number) := ⟨rfl, rfl, rfl, by decide +kernel, rfl, by decide +kernel, by decide +kernel⟩
theorem v_law_number_0 : Vis (defScope s_law_number) "_law_cell" := by first | exact Or.inl rfl | exact Or.inr (Or.inl rfl) | exact Or.inr (Or.inr rfl)
theorem l_law_number_0 : Loc (defScope s_law_number) "_law_cell" := by first | exact Or.inl rfl | exact Or.inr rfl
theorem v_law_number_1 : Vis (defScope s_law_number) "_law_size" := by first | exact Or.inl rfl | exact Or.inr (Or.inl rfl) | exact Or.inr (Or.inr rfl)
theorem l_law_number_1 : Loc (defScope s_law_number) "_law_size" := by first | exact Or.inl rfl | exact Or.inr rfl
theorem v_law_number_2 : Vis (defScope s_law_number) "_law_wide" := by first | exact Or.inl rfl | exact Or.inr (Or.inl rfl) | exact Or.inr (Or.inr rfl)
theorem l_law_number_2 : Loc (defScope s_law_number) "_law_wide" := by first | exact Or.inl rfl | exact Or.inr rfl
theorem v_law_number_3 : Vis (defScope s_law_number) "_law_by" := by first | exact Or.inl rfl | exact Or.inr (Or.inl rfl) | exact Or.inr (Or.inr rfl)
theorem l_law_number_3 : Loc (defScope s_law_number) "_law_by" := by first | exact Or.inl rfl | exact Or.inr rfl
theorem g_law_number_tuple : (defScope s_law_number).names.lookup ("tuple" : Str) = some .globalImplicit := by rfl
theorem g_law_number_range : (defScope s_law_number).names.lookup ("range" : Str) = some .globalImplicit := by rfl
abbrev s_law_lands : Stmt := top 24
theorem sc_law_lands : FnScope ["_law_cell", "_law_letters", "_law_by", "_law_base", "_law_many", "_law_size", "_law_at", "_law_names", "_law_k", "_law_row"] ["_law_cell"] (defScope s_law_lands) := ⟨rfl, rfl, rfl, by decide +kernel, rfl, by decide +kernel, by decide +kernel⟩
theorem v_law_lands_0 : Vis (defScope s_law_lands) "_law_cell" := by first | exact Or.inl rfl | exact Or.inr (Or.inl rfl) | exact Or.inr (Or.inr rfl)
theorem l_law_lands_0 : Loc (defScope s_law_lands) "_law_cell" := by first | exact Or.inl rfl | exact Or.inr rfl
theorem v_law_lands_1 : Vis (defScope s_law_lands) "_law_letters" := by first | exact Or.inl rfl | exact Or.inr (Or.inl rfl) | exact Or.inr (Or.inr rfl)
theorem l_law_lands_1 : Loc (defScope s_law_lands) "_law_letters" := by first | exact Or.inl rfl | exact Or.inr rfl
theorem v_law_lands_2 : Vis (defScope s_law_lands) "_law_by" := by first | exact Or.inl rfl | exact Or.inr (Or.inl rfl) | exact Or.inr (Or.inr rfl)
theorem l_law_lands_2 : Loc (defScope s_law_lands) "_law_by" := by first | exact Or.inl rfl | exact Or.inr rfl
theorem v_law_lands_3 : Vis (defScope s_law_lands) "_law_base" := by first | exact Or.inl rfl | exact Or.inr (Or.inl rfl) | exact Or.inr (Or.inr rfl)
theorem l_law_lands_3 : Loc (defScope s_law_lands) "_law_base" := by first | exact Or.inl rfl | exact Or.inr rfl
theorem v_law_lands_4 : Vis (defScope s_law_lands) "_law_many" := by first | exact Or.inl rfl | exact Or.inr (Or.inl rfl) | exact Or.inr (Or.inr rfl)
theorem l_law_lands_4 : Loc (defScope s_law_lands) "_law_many" := by first | exact Or.inl rfl | exact Or.inr rfl
theorem v_law_lands_5 : Vis (defScope s_law_lands) "_law_size" := by first | exact Or.inl rfl | exact Or.inr (Or.inl rfl) | exact Or.inr (Or.inr rfl)
theorem l_law_lands_5 : Loc (defScope s_law_lands) "_law_size" := by first | exact Or.inl rfl | exact Or.inr rfl
theorem v_law_lands_6 : Vis (defScope s_law_lands) "_law_at" := by first | exact Or.inl rfl | exact Or.inr (Or.inl rfl) | exact Or.inr (Or.inr rfl)
theorem l_law_lands_6 : Loc (defScope s_law_lands) "_law_at" := by first | exact Or.inl rfl | exact Or.inr rfl
theorem v_law_lands_7 : Vis (defScope s_law_lands) "_law_names" := by first | exact Or.inl rfl | exact Or.inr (Or.inl rfl) | exact Or.inr (Or.inr rfl)
theorem l_law_lands_7 : Loc (defScope s_law_lands) "_law_names" := by first | exact Or.inl rfl | exact Or.inr rfl
theorem v_law_lands_8 : Vis (defScope s_law_lands) "_law_k" := by first | exact Or.inl rfl | exact Or.inr (Or.inl rfl) | exact Or.inr (Or.inr rfl)
theorem l_law_lands_8 : Loc (defScope s_law_lands) "_law_k" := by first | exact Or.inl rfl | exact Or.inr rfl
theorem v_law_lands_9 : Vis (defScope s_law_lands) "_law_row" := by first | exact Or.inl rfl | exact Or.inr (Or.inl rfl) | exact Or.inr (Or.inr rfl)
theorem l_law_lands_9 : Loc (defScope s_law_lands) "_law_row" := by first | exact Or.inl rfl | exact Or.inr rfl
theorem g_law_lands_range : (defScope s_law_lands).names.lookup ("range" : Str) = some .globalImplicit := by rfl
abbrev s_law_inputs : Stmt := top 25
theorem sc_law_inputs : FnScope ["_law_cell", "_law_many", "_law_some", "_law_by", "_law_near", "_law_k", "_law_at"] ["_law_cell", "_law_many"] (defScope s_law_inputs) := ⟨rfl, rfl, rfl, by decide +kernel, rfl, by decide +kernel, by decide +kernel⟩
theorem v_law_inputs_0 : Vis (defScope s_law_inputs) "_law_cell" := by first | exact Or.inl rfl | exact Or.inr (Or.inl rfl) | exact Or.inr (Or.inr rfl)
theorem l_law_inputs_0 : Loc (defScope s_law_inputs) "_law_cell" := by first | exact Or.inl rfl | exact Or.inr rfl
theorem v_law_inputs_1 : Vis (defScope s_law_inputs) "_law_many" := by first | exact Or.inl rfl | exact Or.inr (Or.inl rfl) | exact Or.inr (Or.inr rfl)
theorem l_law_inputs_1 : Loc (defScope s_law_inputs) "_law_many" := by first | exact Or.inl rfl | exact Or.inr rfl
theorem v_law_inputs_2 : Vis (defScope s_law_inputs) "_law_some" := by first | exact Or.inl rfl | exact Or.inr (Or.inl rfl) | exact Or.inr (Or.inr rfl)
theorem l_law_inputs_2 : Loc (defScope s_law_inputs) "_law_some" := by first | exact Or.inl rfl | exact Or.inr rfl
theorem v_law_inputs_3 : Vis (defScope s_law_inputs) "_law_by" := by first | exact Or.inl rfl | exact Or.inr (Or.inl rfl) | exact Or.inr (Or.inr rfl)
theorem l_law_inputs_3 : Loc (defScope s_law_inputs) "_law_by" := by first | exact Or.inl rfl | exact Or.inr rfl
theorem v_law_inputs_4 : Vis (defScope s_law_inputs) "_law_near" := by first | exact Or.inl rfl | exact Or.inr (Or.inl rfl) | exact Or.inr (Or.inr rfl)
theorem l_law_inputs_4 : Loc (defScope s_law_inputs) "_law_near" := by first | exact Or.inl rfl | exact Or.inr rfl
theorem v_law_inputs_5 : Vis (defScope s_law_inputs) "_law_k" := by first | exact Or.inl rfl | exact Or.inr (Or.inl rfl) | exact Or.inr (Or.inr rfl)
theorem l_law_inputs_5 : Loc (defScope s_law_inputs) "_law_k" := by first | exact Or.inl rfl | exact Or.inr rfl
theorem v_law_inputs_6 : Vis (defScope s_law_inputs) "_law_at" := by first | exact Or.inl rfl | exact Or.inr (Or.inl rfl) | exact Or.inr (Or.inr rfl)
theorem l_law_inputs_6 : Loc (defScope s_law_inputs) "_law_at" := by first | exact Or.inl rfl | exact Or.inr rfl
theorem g_law_inputs_max : (defScope s_law_inputs).names.lookup ("max" : Str) = some .globalImplicit := by rfl
theorem g_law_inputs_min : (defScope s_law_inputs).names.lookup ("min" : Str) = some .globalImplicit := by rfl
theorem g_law_inputs_range : (defScope s_law_inputs).names.lookup ("range" : Str) = some .globalImplicit := by rfl
theorem g_law_inputs__law_mix : (defScope s_law_inputs).names.lookup ("_law_mix" : Str) = some .globalImplicit := by rfl
abbrev s_law_lot : Stmt := top 26
theorem sc_law_lot : FnScope ["_law_lots_here", "_law_lands_here", "_law_cells", "_law_inputs_here", "_law_total", "_law_way", "_law_own", "_law_price"] ["_law_lots_here", "_law_lands_here", "_law_cells"] (defScope s_law_lot) := ⟨rfl, rfl, rfl, by decide +kernel, rfl, by decide +kernel, by decide +kernel⟩
theorem v_law_lot_0 : Vis (defScope s_law_lot) "_law_lots_here" := by first | exact Or.inl rfl | exact Or.inr (Or.inl rfl) | exact Or.inr (Or.inr rfl)
theorem l_law_lot_0 : Loc (defScope s_law_lot) "_law_lots_here" := by first | exact Or.inl rfl | exact Or.inr rfl
theorem v_law_lot_1 : Vis (defScope s_law_lot) "_law_lands_here" := by first | exact Or.inl rfl | exact Or.inr (Or.inl rfl) | exact Or.inr (Or.inr rfl)
theorem l_law_lot_1 : Loc (defScope s_law_lot) "_law_lands_here" := by first | exact Or.inl rfl | exact Or.inr rfl
theorem v_law_lot_2 : Vis (defScope s_law_lot) "_law_cells" := by first | exact Or.inl rfl | exact Or.inr (Or.inl rfl) | exact Or.inr (Or.inr rfl)
theorem l_law_lot_2 : Loc (defScope s_law_lot) "_law_cells" := by first | exact Or.inl rfl | exact Or.inr rfl
theorem v_law_lot_3 : Vis (defScope s_law_lot) "_law_inputs_here" := by first | exact Or.inl rfl | exact Or.inr (Or.inl rfl) | exact Or.inr (Or.inr rfl)
theorem l_law_lot_3 : Loc (defScope s_law_lot) "_law_inputs_here" := by first | exact Or.inl rfl | exact Or.inr rfl
theorem v_law_lot_4 : Vis (defScope s_law_lot) "_law_total" := by first | exact Or.inl rfl | exact Or.inr (Or.inl rfl) | exact Or.inr (Or.inr rfl)
theorem l_law_lot_4 : Loc (defScope s_law_lot) "_law_total" := by first | exact Or.inl rfl | exact Or.inr rfl
theorem v_law_lot_5 : Vis (defScope s_law_lot) "_law_way" := by first | exact Or.inl rfl | exact Or.inr (Or.inl rfl) | exact Or.inr (Or.inr rfl)
theorem l_law_lot_5 : Loc (defScope s_law_lot) "_law_way" := by first | exact Or.inl rfl | exact Or.inr rfl
theorem v_law_lot_6 : Vis (defScope s_law_lot) "_law_own" := by first | exact Or.inl rfl | exact Or.inr (Or.inl rfl) | exact Or.inr (Or.inr rfl)
theorem l_law_lot_6 : Loc (defScope s_law_lot) "_law_own" := by first | exact Or.inl rfl | exact Or.inr rfl
theorem v_law_lot_7 : Vis (defScope s_law_lot) "_law_price" := by first | exact Or.inl rfl | exact Or.inr (Or.inl rfl) | exact Or.inr (Or.inr rfl)
theorem l_law_lot_7 : Loc (defScope s_law_lot) "_law_price" := by first | exact Or.inl rfl | exact Or.inr rfl
theorem g_law_lot__law_inputs : (defScope s_law_lot).names.lookup ("_law_inputs" : Str) = some .globalImplicit := by rfl
theorem g_law_lot_len : (defScope s_law_lot).names.lookup ("len" : Str) = some .globalImplicit := by rfl
theorem g_law_lot_sum : (defScope s_law_lot).names.lookup ("sum" : Str) = some .globalImplicit := by rfl
theorem g_law_lot_max : (defScope s_law_lot).names.lookup ("max" : Str) = some .globalImplicit := by rfl
theorem g_law_lot__law_number : (defScope s_law_lot).names.lookup ("_law_number" : Str) = some .globalImplicit := by rfl
theorem g_law_lot_tuple : (defScope s_law_lot).names.lookup ("tuple" : Str) = some .globalImplicit := by rfl
abbrev s_law_lots : Stmt := top 27
theorem sc_law_lots : FnScope ["_law_script", "_law_lands_here", "_law_lots_here", "_law_j", "_law_cells"] ["_law_script"] (defScope s_law_lots) := ⟨rfl, rfl, rfl, by decide +kernel, rfl, by decide +kernel, by decide +kernel⟩
theorem v_law_lots_0 : Vis (defScope s_law_lots) "_law_script" := by first | exact Or.inl rfl | exact Or.inr (Or.inl rfl) | exact Or.inr (Or.inr rfl)
theorem l_law_lots_0 : Loc (defScope s_law_lots) "_law_script" := by first | exact Or.inl rfl | exact Or.inr rfl
theorem v_law_lots_1 : Vis (defScope s_law_lots) "_law_lands_here" := by first | exact Or.inl rfl | exact Or.inr (Or.inl rfl) | exact Or.inr (Or.inr rfl)
theorem l_law_lots_1 : Loc (defScope s_law_lots) "_law_lands_here" := by first | exact Or.inl rfl | exact Or.inr rfl
theorem v_law_lots_2 : Vis (defScope s_law_lots) "_law_lots_here" := by first | exact Or.inl rfl | exact Or.inr (Or.inl rfl) | exact Or.inr (Or.inr rfl)
theorem l_law_lots_2 : Loc (defScope s_law_lots) "_law_lots_here" := by first | exact Or.inl rfl | exact Or.inr rfl
theorem v_law_lots_3 : Vis (defScope s_law_lots) "_law_j" := by first | exact Or.inl rfl | exact Or.inr (Or.inl rfl) | exact Or.inr (Or.inr rfl)
theorem l_law_lots_3 : Loc (defScope s_law_lots) "_law_j" := by first | exact Or.inl rfl | exact Or.inr rfl
theorem v_law_lots_4 : Vis (defScope s_law_lots) "_law_cells" := by first | exact Or.inl rfl | exact Or.inr (Or.inl rfl) | exact Or.inr (Or.inr rfl)
theorem l_law_lots_4 : Loc (defScope s_law_lots) "_law_cells" := by first | exact Or.inl rfl | exact Or.inr rfl
theorem g_law_lots__law_lands : (defScope s_law_lots).names.lookup ("_law_lands" : Str) = some .globalImplicit := by rfl
theorem g_law_lots__law_cell_at : (defScope s_law_lots).names.lookup ("_law_cell_at" : Str) = some .globalImplicit := by rfl
theorem g_law_lots_range : (defScope s_law_lots).names.lookup ("range" : Str) = some .globalImplicit := by rfl
theorem g_law_lots_len : (defScope s_law_lots).names.lookup ("len" : Str) = some .globalImplicit := by rfl
theorem g_law_lots__law_lot : (defScope s_law_lots).names.lookup ("_law_lot" : Str) = some .globalImplicit := by rfl
abbrev s_law_bad_word : Stmt := top 28
theorem sc_law_bad_word : FnScope ["_law_lot_here", "_law_cell", "_law_land", "_law_number_here", "_law_price", "_law_inputs_here", "_law_way", "_law_pick", "_law_some"] ["_law_lot_here", "_law_cell"] (defScope s_law_bad_word) := ⟨rfl, rfl, rfl, by decide +kernel, rfl, by decide +kernel, by decide +kernel⟩
theorem v_law_bad_word_0 : Vis (defScope s_law_bad_word) "_law_lot_here" := by first | exact Or.inl rfl | exact Or.inr (Or.inl rfl) | exact Or.inr (Or.inr rfl)
theorem l_law_bad_word_0 : Loc (defScope s_law_bad_word) "_law_lot_here" := by first | exact Or.inl rfl | exact Or.inr rfl
theorem v_law_bad_word_1 : Vis (defScope s_law_bad_word) "_law_cell" := by first | exact Or.inl rfl | exact Or.inr (Or.inl rfl) | exact Or.inr (Or.inr rfl)
theorem l_law_bad_word_1 : Loc (defScope s_law_bad_word) "_law_cell" := by first | exact Or.inl rfl | exact Or.inr rfl
theorem v_law_bad_word_2 : Vis (defScope s_law_bad_word) "_law_land" := by first | exact Or.inl rfl | exact Or.inr (Or.inl rfl) | exact Or.inr (Or.inr rfl)
theorem l_law_bad_word_2 : Loc (defScope s_law_bad_word) "_law_land" := by first | exact Or.inl rfl | exact Or.inr rfl
theorem v_law_bad_word_3 : Vis (defScope s_law_bad_word) "_law_number_here" := by first | exact Or.inl rfl | exact Or.inr (Or.inl rfl) | exact Or.inr (Or.inr rfl)
theorem l_law_bad_word_3 : Loc (defScope s_law_bad_word) "_law_number_here" := by first | exact Or.inl rfl | exact Or.inr rfl
theorem v_law_bad_word_4 : Vis (defScope s_law_bad_word) "_law_price" := by first | exact Or.inl rfl | exact Or.inr (Or.inl rfl) | exact Or.inr (Or.inr rfl)
theorem l_law_bad_word_4 : Loc (defScope s_law_bad_word) "_law_price" := by first | exact Or.inl rfl | exact Or.inr rfl
theorem v_law_bad_word_5 : Vis (defScope s_law_bad_word) "_law_inputs_here" := by first | exact Or.inl rfl | exact Or.inr (Or.inl rfl) | exact Or.inr (Or.inr rfl)
theorem l_law_bad_word_5 : Loc (defScope s_law_bad_word) "_law_inputs_here" := by first | exact Or.inl rfl | exact Or.inr rfl
theorem v_law_bad_word_6 : Vis (defScope s_law_bad_word) "_law_way" := by first | exact Or.inl rfl | exact Or.inr (Or.inl rfl) | exact Or.inr (Or.inr rfl)
theorem l_law_bad_word_6 : Loc (defScope s_law_bad_word) "_law_way" := by first | exact Or.inl rfl | exact Or.inr rfl
theorem v_law_bad_word_7 : Vis (defScope s_law_bad_word) "_law_pick" := by first | exact Or.inl rfl | exact Or.inr (Or.inl rfl) | exact Or.inr (Or.inr rfl)
theorem l_law_bad_word_7 : Loc (defScope s_law_bad_word) "_law_pick" := by first | exact Or.inl rfl | exact Or.inr rfl
theorem v_law_bad_word_8 : Vis (defScope s_law_bad_word) "_law_some" := by first | exact Or.inl rfl | exact Or.inr (Or.inl rfl) | exact Or.inr (Or.inr rfl)
theorem l_law_bad_word_8 : Loc (defScope s_law_bad_word) "_law_some" := by first | exact Or.inl rfl | exact Or.inr rfl
theorem g_law_bad_word_list : (defScope s_law_bad_word).names.lookup ("list" : Str) = some .globalImplicit := by rfl
abbrev s_law_bad_inputs : Stmt := top 29
theorem sc_law_bad_inputs : FnScope ["_law_lot_here", "_law_at", "_law_total", "_law_cell", "_law_land", "_law_number_here", "_law_price", "_law_inputs_here", "_law_way", "_law_pick", "_law_some"] ["_law_lot_here", "_law_at", "_law_total", "_law_cell"] (defScope s_law_bad_inputs) := ⟨rfl, rfl, rfl, by decide +kernel, rfl, by decide +kernel, by decide +kernel⟩
theorem v_law_bad_inputs_0 : Vis (defScope s_law_bad_inputs) "_law_lot_here" := by first | exact Or.inl rfl | exact Or.inr (Or.inl rfl) | exact Or.inr (Or.inr rfl)
theorem l_law_bad_inputs_0 : Loc (defScope s_law_bad_inputs) "_law_lot_here" := by first | exact Or.inl rfl | exact Or.inr rfl
theorem v_law_bad_inputs_1 : Vis (defScope s_law_bad_inputs) "_law_at" := by first | exact Or.inl rfl | exact Or.inr (Or.inl rfl) | exact Or.inr (Or.inr rfl)
theorem l_law_bad_inputs_1 : Loc (defScope s_law_bad_inputs) "_law_at" := by first | exact Or.inl rfl | exact Or.inr rfl
theorem v_law_bad_inputs_2 : Vis (defScope s_law_bad_inputs) "_law_total" := by first | exact Or.inl rfl | exact Or.inr (Or.inl rfl) | exact Or.inr (Or.inr rfl)
theorem l_law_bad_inputs_2 : Loc (defScope s_law_bad_inputs) "_law_total" := by first | exact Or.inl rfl | exact Or.inr rfl
theorem v_law_bad_inputs_3 : Vis (defScope s_law_bad_inputs) "_law_cell" := by first | exact Or.inl rfl | exact Or.inr (Or.inl rfl) | exact Or.inr (Or.inr rfl)
theorem l_law_bad_inputs_3 : Loc (defScope s_law_bad_inputs) "_law_cell" := by first | exact Or.inl rfl | exact Or.inr rfl
theorem v_law_bad_inputs_4 : Vis (defScope s_law_bad_inputs) "_law_land" := by first | exact Or.inl rfl | exact Or.inr (Or.inl rfl) | exact Or.inr (Or.inr rfl)
theorem l_law_bad_inputs_4 : Loc (defScope s_law_bad_inputs) "_law_land" := by first | exact Or.inl rfl | exact Or.inr rfl
theorem v_law_bad_inputs_5 : Vis (defScope s_law_bad_inputs) "_law_number_here" := by first | exact Or.inl rfl | exact Or.inr (Or.inl rfl) | exact Or.inr (Or.inr rfl)
theorem l_law_bad_inputs_5 : Loc (defScope s_law_bad_inputs) "_law_number_here" := by first | exact Or.inl rfl | exact Or.inr rfl
theorem v_law_bad_inputs_6 : Vis (defScope s_law_bad_inputs) "_law_price" := by first | exact Or.inl rfl | exact Or.inr (Or.inl rfl) | exact Or.inr (Or.inr rfl)
theorem l_law_bad_inputs_6 : Loc (defScope s_law_bad_inputs) "_law_price" := by first | exact Or.inl rfl | exact Or.inr rfl
theorem v_law_bad_inputs_7 : Vis (defScope s_law_bad_inputs) "_law_inputs_here" := by first | exact Or.inl rfl | exact Or.inr (Or.inl rfl) | exact Or.inr (Or.inr rfl)
theorem l_law_bad_inputs_7 : Loc (defScope s_law_bad_inputs) "_law_inputs_here" := by first | exact Or.inl rfl | exact Or.inr rfl
theorem v_law_bad_inputs_8 : Vis (defScope s_law_bad_inputs) "_law_way" := by first | exact Or.inl rfl | exact Or.inr (Or.inl rfl) | exact Or.inr (Or.inr rfl)
theorem l_law_bad_inputs_8 : Loc (defScope s_law_bad_inputs) "_law_way" := by first | exact Or.inl rfl | exact Or.inr rfl
theorem v_law_bad_inputs_9 : Vis (defScope s_law_bad_inputs) "_law_pick" := by first | exact Or.inl rfl | exact Or.inr (Or.inl rfl) | exact Or.inr (Or.inr rfl)
theorem l_law_bad_inputs_9 : Loc (defScope s_law_bad_inputs) "_law_pick" := by first | exact Or.inl rfl | exact Or.inr rfl
theorem v_law_bad_inputs_10 : Vis (defScope s_law_bad_inputs) "_law_some" := by first | exact Or.inl rfl | exact Or.inr (Or.inl rfl) | exact Or.inr (Or.inr rfl)
theorem l_law_bad_inputs_10 : Loc (defScope s_law_bad_inputs) "_law_some" := by first | exact Or.inl rfl | exact Or.inr rfl
theorem g_law_bad_inputs_list : (defScope s_law_bad_inputs).names.lookup ("list" : Str) = some .globalImplicit := by rfl
theorem g_law_bad_inputs_len : (defScope s_law_bad_inputs).names.lookup ("len" : Str) = some .globalImplicit := by rfl
abbrev s_law_spoilt : Stmt := top 30
theorem sc_law_spoilt : FnScope ["_law_lots_here", "_law_cell", "_law_at", "_law_rest", "_law_rows"] ["_law_lots_here", "_law_cell"] (defScope s_law_spoilt) := ⟨rfl, rfl, rfl, by decide +kernel, rfl, by decide +kernel, by decide +kernel⟩
theorem v_law_spoilt_0 : Vis (defScope s_law_spoilt) "_law_lots_here" := by first | exact Or.inl rfl | exact Or.inr (Or.inl rfl) | exact Or.inr (Or.inr rfl)
theorem l_law_spoilt_0 : Loc (defScope s_law_spoilt) "_law_lots_here" := by first | exact Or.inl rfl | exact Or.inr rfl
theorem v_law_spoilt_1 : Vis (defScope s_law_spoilt) "_law_cell" := by first | exact Or.inl rfl | exact Or.inr (Or.inl rfl) | exact Or.inr (Or.inr rfl)
theorem l_law_spoilt_1 : Loc (defScope s_law_spoilt) "_law_cell" := by first | exact Or.inl rfl | exact Or.inr rfl
theorem v_law_spoilt_2 : Vis (defScope s_law_spoilt) "_law_at" := by first | exact Or.inl rfl | exact Or.inr (Or.inl rfl) | exact Or.inr (Or.inr rfl)
theorem l_law_spoilt_2 : Loc (defScope s_law_spoilt) "_law_at" := by first | exact Or.inl rfl | exact Or.inr rfl
theorem v_law_spoilt_3 : Vis (defScope s_law_spoilt) "_law_rest" := by first | exact Or.inl rfl | exact Or.inr (Or.inl rfl) | exact Or.inr (Or.inr rfl)
theorem l_law_spoilt_3 : Loc (defScope s_law_spoilt) "_law_rest" := by first | exact Or.inl rfl | exact Or.inr rfl
theorem v_law_spoilt_4 : Vis (defScope s_law_spoilt) "_law_rows" := by first | exact Or.inl rfl | exact Or.inr (Or.inl rfl) | exact Or.inr (Or.inr rfl)
theorem l_law_spoilt_4 : Loc (defScope s_law_spoilt) "_law_rows" := by first | exact Or.inl rfl | exact Or.inr rfl
theorem g_law_spoilt_tuple : (defScope s_law_spoilt).names.lookup ("tuple" : Str) = some .globalImplicit := by rfl
theorem g_law_spoilt_len : (defScope s_law_spoilt).names.lookup ("len" : Str) = some .globalImplicit := by rfl
theorem g_law_spoilt__law_mix : (defScope s_law_spoilt).names.lookup ("_law_mix" : Str) = some .globalImplicit := by rfl
theorem g_law_spoilt_list : (defScope s_law_spoilt).names.lookup ("list" : Str) = some .globalImplicit := by rfl
theorem g_law_spoilt__law_bad_word : (defScope s_law_spoilt).names.lookup ("_law_bad_word" : Str) = some .globalImplicit := by rfl
theorem g_law_spoilt__law_bad_inputs : (defScope s_law_spoilt).names.lookup ("_law_bad_inputs" : Str) = some .globalImplicit := by rfl
theorem g_law_spoilt_sum : (defScope s_law_spoilt).names.lookup ("sum" : Str) = some .globalImplicit := by rfl
abbrev s_law_refused : Stmt := top 31
theorem sc_law_refused : FnScope ["_law_rows", "e"] ["_law_rows"] (defScope s_law_refused) := ⟨rfl, rfl, rfl, by decide +kernel, rfl, by decide +kernel, by decide +kernel⟩
theorem v_law_refused_0 : Vis (defScope s_law_refused) "_law_rows" := by first | exact Or.inl rfl | exact Or.inr (Or.inl rfl) | exact Or.inr (Or.inr rfl)
theorem l_law_refused_0 : Loc (defScope s_law_refused) "_law_rows" := by first | exact Or.inl rfl | exact Or.inr rfl
theorem v_law_refused_1 : Vis (defScope s_law_refused) "e" := by first | exact Or.inl rfl | exact Or.inr (Or.inl rfl) | exact Or.inr (Or.inr rfl)
theorem l_law_refused_1 : Loc (defScope s_law_refused) "e" := by first | exact Or.inl rfl | exact Or.inr rfl
theorem g_law_refused_lots_of : (defScope s_law_refused).names.lookup ("lots_of" : Str) = some .globalImplicit := by rfl
theorem g_law_refused_TariffError : (defScope s_law_refused).names.lookup ("TariffError" : Str) = some .globalImplicit := by rfl
theorem g_law_refused_isinstance : (defScope s_law_refused).names.lookup ("isinstance" : Str) = some .globalImplicit := by rfl
theorem g_law_refused_NoRule : (defScope s_law_refused).names.lookup ("NoRule" : Str) = some .globalImplicit := by rfl
theorem g_law_refused_NoNumber : (defScope s_law_refused).names.lookup ("NoNumber" : Str) = some .globalImplicit := by rfl
theorem g_law_refused_NoEntry : (defScope s_law_refused).names.lookup ("NoEntry" : Str) = some .globalImplicit := by rfl
theorem g_law_refused_NoDeed : (defScope s_law_refused).names.lookup ("NoDeed" : Str) = some .globalImplicit := by rfl
theorem g_law_refused_NoLot : (defScope s_law_refused).names.lookup ("NoLot" : Str) = some .globalImplicit := by rfl
theorem g_law_refused_ValueError : (defScope s_law_refused).names.lookup ("ValueError" : Str) = some .globalImplicit := by rfl
abbrev s_law_same : Stmt := top 32
theorem sc_law_same : FnScope ["_law_found", "_law_lots_here", "_law_row"] ["_law_found", "_law_lots_here"] (defScope s_law_same) := ⟨rfl, rfl, rfl, by decide +kernel, rfl, by decide +kernel, by decide +kernel⟩
theorem v_law_same_0 : Vis (defScope s_law_same) "_law_found" := by first | exact Or.inl rfl | exact Or.inr (Or.inl rfl) | exact Or.inr (Or.inr rfl)
theorem l_law_same_0 : Loc (defScope s_law_same) "_law_found" := by first | exact Or.inl rfl | exact Or.inr rfl
theorem v_law_same_1 : Vis (defScope s_law_same) "_law_lots_here" := by first | exact Or.inl rfl | exact Or.inr (Or.inl rfl) | exact Or.inr (Or.inr rfl)
theorem l_law_same_1 : Loc (defScope s_law_same) "_law_lots_here" := by first | exact Or.inl rfl | exact Or.inr rfl
theorem v_law_same_2 : Vis (defScope s_law_same) "_law_row" := by first | exact Or.inl rfl | exact Or.inr (Or.inl rfl) | exact Or.inr (Or.inr rfl)
theorem l_law_same_2 : Loc (defScope s_law_same) "_law_row" := by first | exact Or.inl rfl | exact Or.inr rfl
theorem g_law_same_isinstance : (defScope s_law_same).names.lookup ("isinstance" : Str) = some .globalImplicit := by rfl
theorem g_law_same_list : (defScope s_law_same).names.lookup ("list" : Str) = some .globalImplicit := by rfl
theorem g_law_same__law_whole : (defScope s_law_same).names.lookup ("_law_whole" : Str) = some .globalImplicit := by rfl
abbrev s_law : Stmt := top 33
theorem sc_law : FnScope ["_law_script", "_law_lots_here", "_law_good", "_law_found", "_law_bad", "_law_kept", "_law_most"] ["_law_script"] (defScope s_law) := ⟨rfl, rfl, rfl, by decide +kernel, rfl, by decide +kernel, by decide +kernel⟩
theorem v_law_0 : Vis (defScope s_law) "_law_script" := by first | exact Or.inl rfl | exact Or.inr (Or.inl rfl) | exact Or.inr (Or.inr rfl)
theorem l_law_0 : Loc (defScope s_law) "_law_script" := by first | exact Or.inl rfl | exact Or.inr rfl
theorem v_law_1 : Vis (defScope s_law) "_law_lots_here" := by first | exact Or.inl rfl | exact Or.inr (Or.inl rfl) | exact Or.inr (Or.inr rfl)
theorem l_law_1 : Loc (defScope s_law) "_law_lots_here" := by first | exact Or.inl rfl | exact Or.inr rfl
theorem v_law_2 : Vis (defScope s_law) "_law_good" := by first | exact Or.inl rfl | exact Or.inr (Or.inl rfl) | exact Or.inr (Or.inr rfl)
theorem l_law_2 : Loc (defScope s_law) "_law_good" := by first | exact Or.inl rfl | exact Or.inr rfl
theorem v_law_3 : Vis (defScope s_law) "_law_found" := by first | exact Or.inl rfl | exact Or.inr (Or.inl rfl) | exact Or.inr (Or.inr rfl)
theorem l_law_3 : Loc (defScope s_law) "_law_found" := by first | exact Or.inl rfl | exact Or.inr rfl
theorem v_law_4 : Vis (defScope s_law) "_law_bad" := by first | exact Or.inl rfl | exact Or.inr (Or.inl rfl) | exact Or.inr (Or.inr rfl)
theorem l_law_4 : Loc (defScope s_law) "_law_bad" := by first | exact Or.inl rfl | exact Or.inr rfl
theorem v_law_5 : Vis (defScope s_law) "_law_kept" := by first | exact Or.inl rfl | exact Or.inr (Or.inl rfl) | exact Or.inr (Or.inr rfl)
theorem l_law_5 : Loc (defScope s_law) "_law_kept" := by first | exact Or.inl rfl | exact Or.inr rfl
theorem v_law_6 : Vis (defScope s_law) "_law_most" := by first | exact Or.inl rfl | exact Or.inr (Or.inl rfl) | exact Or.inr (Or.inr rfl)
theorem l_law_6 : Loc (defScope s_law) "_law_most" := by first | exact Or.inl rfl | exact Or.inr rfl
theorem g_law__law_lots : (defScope s_law).names.lookup ("_law_lots" : Str) = some .globalImplicit := by rfl
theorem g_law_list : (defScope s_law).names.lookup ("list" : Str) = some .globalImplicit := by rfl
theorem g_law_lots_of : (defScope s_law).names.lookup ("lots_of" : Str) = some .globalImplicit := by rfl
theorem g_law__law_same : (defScope s_law).names.lookup ("_law_same" : Str) = some .globalImplicit := by rfl
theorem g_law__law_spoilt : (defScope s_law).names.lookup ("_law_spoilt" : Str) = some .globalImplicit := by rfl
theorem g_law__law_cell_at : (defScope s_law).names.lookup ("_law_cell_at" : Str) = some .globalImplicit := by rfl
theorem g_law_isinstance : (defScope s_law).names.lookup ("isinstance" : Str) = some .globalImplicit := by rfl
theorem g_law__law_refused : (defScope s_law).names.lookup ("_law_refused" : Str) = some .globalImplicit := by rfl

def wholeK : Kn → Bool
  | .int => true
  | _ => false
def spIsWhole (K : PySem.W.Frag) : Sp := fun vs H Q _ => ∃ v k, vs = [v] ∧ Kd K H v k ∧ Q (.bl (wholeK k)) H
theorem spIsWhole_of {K : PySem.W.Frag} {H : Hp} {v : V} {k : Kn} {Q : VK} {E : XK} (h : Kd K H v k) (q : Q (.bl (wholeK k)) H) : spIsWhole K [v] H Q E := ⟨v, k, rfl, h, q⟩
theorem kd_int {K : PySem.W.Frag} {H : Hp} {v : V} (h : Kd K H v .int) : ∃ i, v = .int i := by
  cases v with
  | int i => exact ⟨i, rfl⟩
  | ref a => rcases h with ⟨z, _⟩ | ⟨z, _⟩ | ⟨z, _⟩ <;> cases z
  | non => cases h
  | bl b => cases h
  | str x => cases h
  | byt b => exact h.elim
  | flt b => exact h.elim
  | ty n => exact h.elim
theorem kd_same {K : PySem.W.Frag} {H H' : Hp} {v : V} {k : Kn} (e : Same H H') (h : Kd K H v k) : Kd K H' v k := by
  cases v with
  | ref a =>
    rcases h with ⟨z, xs, h⟩ | ⟨z, xs, h⟩ | ⟨z, h⟩
    · exact .inl ⟨z, xs, e.seq h⟩
    · exact .inr (.inl ⟨z, xs, Same.tup e h⟩)
    · exact .inr (.inr ⟨z, e _ _ h⟩)
  | _ => exact h

theorem wholeK_ne {k : Kn} (h : k ≠ .int) : wholeK k = false := by
  cases k <;> first | rfl | exact absurd rfl h
section
variable {P : Program} {w : World} {K : PySem.W.Frag} {mg : Str → Option Value} {base : Heap} {f : Addr} {fd : FuncData}
theorem ok_is_whole (F : Fun K "is_whole" "is_whole" s_is_whole f fd) (M : Mg mg) : FnOk P w K mg base CX0 1 f fd ["thing"] (spIsWhole K) := by
  refine F.ok sc_is_whole (fun vs H Q E h => ?_) (fun cdv A outer s H vs Q E hr h => ?_)
  · obtain ⟨v, k, rfl, _⟩ := h
    rfl
  obtain ⟨v, k, rfl, hk, q⟩ := h
  refine ⟨_, (@pss_one _ _ _ (@ps_ret _ _ _ _ (@pe_and _ _ _ _ _ _ _ (@pe_callB _ _ _ _ _ _ _ _ _ call_isi g_is_whole_isinstance M.m_isinstance b_isinstance (@pa_cons _ _ _ _ _ (@pe_var _ 0 _ _ rfl v_is_whole_0 dn_thing dc_thing) (@pa_cons _ _ _ _ _ (@pe_bltn _ _ (.ty "int") _ _ g_is_whole_int M.m_int b_int rfl nn_int dn_int) (@pa_nil _) (star1 rfl)) (star1 rfl)) nn_isinstance dn_isinstance (star1 rfl) (nost1 rfl nost0)) (@pe_one _ _ _ _ _ (@pe_not _ _ _ _ (@pe_callB _ _ _ _ _ _ _ _ _ call_isi g_is_whole_isinstance M.m_isinstance b_isinstance (@pa_cons _ _ _ _ _ (@pe_var _ 0 _ _ rfl v_is_whole_0 dn_thing dc_thing) (@pa_cons _ _ _ _ _ (@pe_bltn _ _ (.ty "bool") _ _ g_is_whole_bool M.m_bool b_bool rfl nn_bool dn_bool) (@pa_nil _) (star1 rfl)) (star1 rfl)) nn_isinstance dn_isinstance (star1 rfl) (nost1 rfl nost0))))))), ?_⟩
  simp only [tTurn, rTurnT, tTryS, rCountT, rPop, rRep, tCont, iZipT, tChain3, tFld, sFld, tMake, tMake0, tMethD, tBM0, rUpper, tDict1T, tTryN, rSlS, rMulS, rCatS, iZipL, rInsert, rReverse, tDNewX, tTry, tRaise, iEnumL, iEnumT, iZip, iSeq, iOr, rIx, iStr, rLeS, rJoin, rSlTA, tComp_eq, tComp1, slots, Option.getD_some, Option.getD_none, tYes, tSeq, tAsg, gName, tOp, tUn, tC, tVar, tCB, tCons, tNil, tCall, rI, rI0, rU, tRet, tRetN, tIfS, tTest, tB, tAnd, tOr, tNot, tAndV, tOrV, tNotV, tIf, tChain, tMenu, tPar, tDrop, tTup, tLst, tNext, tSl, tPart, tNoPart, tNever, gTup, gCons, gNil, gSub, rSetL, tBM, rAppend, rEq, rNe, rIsi, rIxL, rIxT, rIxS, rSlL, isi_non_bl, isi_non_int, isi_non_str, isi_non_lst, isi_non_tup, isi_bl_bl, isi_bl_int, isi_bl_str, isi_bl_lst, isi_bl_tup, isi_int_bl, isi_int_int, isi_int_str, isi_int_lst, isi_int_tup, isi_str_bl, isi_str_int, isi_str_str, isi_str_lst, isi_str_tup, isi_lst_bl, isi_lst_int, isi_lst_str, isi_lst_lst, isi_lst_tup, isi_tup_bl, isi_tup_int, isi_tup_str, isi_tup_lst, isi_tup_tup, isi_dct_bl, isi_dct_int, isi_dct_str, isi_dct_lst, isi_dct_tup, Kd_non, Kd_bl, Kd_int, Kd_str, sc_non_non, sc_non_int, sc_int_non, sc_non_bl, sc_bl_non, sc_non_str, sc_str_non, sc_int_int, sc_bl_bl, sc_str_str, sc_int_str, sc_str_int, sc_bl_str, sc_str_bl, decide_true, decide_false, tFor_eq, iList, iTup, iRng1, iRng2, iRng3, rIndexT, tBM0, tBMT, tyK_int, tyK_bool, tyK_str, tyK_list, tyK_tuple, L2.start, cxK, Int.reduceToNat, List.map_cons, List.map_nil, List.length_cons, List.length_nil, Nat.reduceAdd, Nat.reduceSub, Nat.zero_add, List.replicate_succ, List.replicate_zero, List.cons_append, List.nil_append, List.append_nil, List.getElem?_cons_zero, List.getElem?_cons_succ, List.set_cons_zero, List.set_cons_succ, Option.some.injEq, V.int.injEq, V.bl.injEq, V.ref.injEq, V.str.injEq, V.ty.injEq, List.cons.injEq, exists_eq_left', exists_eq_left, exists_eq_right, exists_and_left, exists_and_right, and_true, true_and, and_assoc, exists_const, decide_eq_true_eq, Bool.not_eq_true', Bool.not_true, Bool.not_false, Bool.not_not, decide_eq_false_iff_not, ite_not, Bool.false_eq_true, if_true, if_false, reduceCtorEq, and_false, false_and, exists_false, or_false, false_or, ↓reduceIte, eq_self, reduceIte]
  refine ⟨_, hk, ?_⟩
  cases k with
  | int => exact ⟨_, hk, q⟩
  | bl => exact ⟨_, hk, q⟩
  | _ => exact q
end

def nameB (cs : List Nat) : Bool := decide (1 ≤ cs.length ∧ cs.length ≤ 8) && cs.all isLow
abbrev asc (cs : List Nat) : Prop := cs.all (fun c => decide (c < 128)) = true
inductive NameV (K : PySem.W.Frag) (H : Hp) : V → Bool → Prop
  | no {v : V} {k : Kn} : Kd K H v k → k ≠ .str → NameV K H v false
  | txt {cs : List Nat} : asc cs → cs.length ≤ 1000 → NameV K H (.str (txt cs)) (nameB cs)
def spIsName (K : PySem.W.Frag) : Sp := fun vs H Q _ => ∃ v b, vs = [v] ∧ NameV K H v b ∧ ∀ H', Same H H' → Q (.bl b) H'
theorem isi_str_ne {k : Kn} (h : k ≠ .str) : isiB k .str = false := by
  cases k <;> first | rfl | exact absurd rfl h
theorem txt_len (cs : List Nat) : (txt cs).length = cs.length := List.size_toArray ..
section
variable {P : Program} {w : World} {K : PySem.W.Frag} {mg : Str → Option Value} {base : Heap} {f : Addr} {fd : FuncData}
theorem ok_is_name (F : Fun K "is_name" "is_name" s_is_name f fd) (M : Mg mg) : FnOk P w K mg base CX0 1 f fd ["thing"] (spIsName K) := by
  refine F.ok sc_is_name (fun vs H Q E h => ?_) (fun cdv A outer s H vs Q E hr h => ?_)
  · obtain ⟨v, b, rfl, _⟩ := h
    rfl
  obtain ⟨v, b, rfl, N, q⟩ := h
  refine ⟨_, (@pss_cons _ _ _ _ _ (@ps_if _ _ _ _ _ _ _ _ (@PW.pt _ _ _ (@pw_or _ _ _ _ _ _ _ (@pt_not _ _ _ _ (@pt_val _ _ _ (@pe_callB _ _ _ _ _ _ _ _ _ call_isi g_is_name_isinstance M.m_isinstance b_isinstance (@pa_cons _ _ _ _ _ (@pe_var _ 0 _ _ rfl v_is_name_0 dn_thing dc_thing) (@pa_cons _ _ _ _ _ (@pe_bltn _ _ (.ty "str") _ _ g_is_name_str M.m_str b_str rfl nn_str dn_str) (@pa_nil _) (star1 rfl)) (star1 rfl)) nn_isinstance dn_isinstance (star1 rfl) (nost1 rfl nost0)) (test1 rfl))) (@pw_or1 _ _ _ _ (@pt_not _ _ _ _ (@pt_chain _ _ _ _ _ _ _ _ _ _ _ _ op_le op_le (@pe_int _ _ _ _) (@pe_callB _ _ _ _ _ _ _ _ _ call_len_str g_is_name_len M.m_len b_len (@pa_cons _ _ _ _ _ (@pe_var _ 0 _ _ rfl v_is_name_0 dn_thing dc_thing) (@pa_nil _) (star1 rfl)) nn_len dn_len (star1 rfl) nost0) (@pe_int _ _ _ _) (by with_unfolding_all rfl)))))) (@pss_one _ _ _ (@ps_ret _ _ _ _ (@pe_bl _ _ _ _))) (@pss_nil _)) (@pss_one _ _ _ (@ps_ret _ _ _ _ (@pe_callB _ _ _ _ _ _ _ _ _ (call_all1 rfl) g_is_name_all M.m_all b_all (@pa_cons _ _ _ _ _ (@pe_comp _ _ _ _ _ _ _ _ _ _ _ _ _ _ _ rfl (CompOk.make (N' := ["letter"]) (ix := []) (nl := 1) (by rfl) fm0 (by rfl) (by decide +kernel) rfl (by decide +kernel) rfl True.intro) (@pi_str _ _ _ _ (@pe_var _ 0 _ _ rfl v_is_name_0 dn_thing dc_thing)) (fun _ _ _ _ _ => (@pg_name _ _ 0 _ (show List.Nodup (["letter"] : List Str) from by decide) rfl (Or.inl rfl) (by first | exact .inl rfl | exact .inr rfl | assumption))) (fun _ _ _ _ _ => (@pif_nil _)) (fun _ _ _ _ _ => (@pe_chain _ _ _ _ _ _ _ _ _ _ _ _ op_leS op_leS (@pe_str _ _ _ _) (@pv _ 0 _ _ (by rfl) (by first | exact Or.inl rfl | exact Or.inr (Or.inl rfl) | exact Or.inr (Or.inr rfl)) (by decide) (by decide)) (@pe_str _ _ _ _) (by with_unfolding_all rfl))) (by intro _; rfl)) (@pa_nil _) (star1 rfl)) nn_all dn_all (star1 rfl) nost0)))), ?_⟩
  cases N with
  | no kd hk =>
    simp only [tTurn, rTurnT, tTryS, rCountT, rPop, rRep, tCont, iZipT, tChain3, tFld, sFld, tMake, tMake0, tMethD, tBM0, rUpper, tDict1T, tTryN, rSlS, rMulS, rCatS, iZipL, rInsert, rReverse, tDNewX, tTry, tRaise, iEnumL, iEnumT, iZip, iSeq, iOr, rIx, iStr, rLeS, rJoin, rSlTA, tComp_eq, tComp1, slots, Option.getD_some, Option.getD_none, tYes, tSeq, tAsg, gName, tOp, tUn, tC, tVar, tCB, tCons, tNil, tCall, rI, rI0, rU, tRet, tRetN, tIfS, tTest, tB, tAnd, tOr, tNot, tAndV, tOrV, tNotV, tIf, tChain, tMenu, tPar, tDrop, tTup, tLst, tNext, tSl, tPart, tNoPart, tNever, gTup, gCons, gNil, gSub, rSetL, tBM, rAppend, rEq, rNe, rIsi, rIxL, rIxT, rIxS, rSlL, isi_non_bl, isi_non_int, isi_non_str, isi_non_lst, isi_non_tup, isi_bl_bl, isi_bl_int, isi_bl_str, isi_bl_lst, isi_bl_tup, isi_int_bl, isi_int_int, isi_int_str, isi_int_lst, isi_int_tup, isi_str_bl, isi_str_int, isi_str_str, isi_str_lst, isi_str_tup, isi_lst_bl, isi_lst_int, isi_lst_str, isi_lst_lst, isi_lst_tup, isi_tup_bl, isi_tup_int, isi_tup_str, isi_tup_lst, isi_tup_tup, isi_dct_bl, isi_dct_int, isi_dct_str, isi_dct_lst, isi_dct_tup, Kd_non, Kd_bl, Kd_int, Kd_str, sc_non_non, sc_non_int, sc_int_non, sc_non_bl, sc_bl_non, sc_non_str, sc_str_non, sc_int_int, sc_bl_bl, sc_str_str, sc_int_str, sc_str_int, sc_bl_str, sc_str_bl, decide_true, decide_false, tFor_eq, iList, iTup, iRng1, iRng2, iRng3, rIndexT, tBM0, tBMT, tyK_int, tyK_bool, tyK_str, tyK_list, tyK_tuple, L2.start, cxK, Int.reduceToNat, List.map_cons, List.map_nil, List.length_cons, List.length_nil, Nat.reduceAdd, Nat.reduceSub, Nat.zero_add, List.replicate_succ, List.replicate_zero, List.cons_append, List.nil_append, List.append_nil, List.getElem?_cons_zero, List.getElem?_cons_succ, List.set_cons_zero, List.set_cons_succ, Option.some.injEq, V.int.injEq, V.bl.injEq, V.ref.injEq, V.str.injEq, V.ty.injEq, List.cons.injEq, exists_eq_left', exists_eq_left, exists_eq_right, exists_and_left, exists_and_right, and_true, true_and, and_assoc, exists_const, decide_eq_true_eq, Bool.not_eq_true', Bool.not_true, Bool.not_false, Bool.not_not, decide_eq_false_iff_not, ite_not, Bool.false_eq_true, if_true, if_false, reduceCtorEq, and_false, false_and, exists_false, or_false, false_or, ↓reduceIte, eq_self, reduceIte]
    refine ⟨_, kd, ?_⟩
    rw [if_pos (isi_str_ne hk)]
    exact q _ (Same.refl _)
  | @txt cs ha hn =>
    simp only [tTurn, rTurnT, tTryS, rCountT, rPop, rRep, tCont, iZipT, tChain3, tFld, sFld, tMake, tMake0, tMethD, tBM0, rUpper, tDict1T, tTryN, rSlS, rMulS, rCatS, iZipL, rInsert, rReverse, tDNewX, tTry, tRaise, iEnumL, iEnumT, iZip, iSeq, iOr, rIx, iStr, rLeS, rJoin, rSlTA, tComp_eq, tComp1, slots, Option.getD_some, Option.getD_none, tYes, tSeq, tAsg, gName, tOp, tUn, tC, tVar, tCB, tCons, tNil, tCall, rI, rI0, rU, tRet, tRetN, tIfS, tTest, tB, tAnd, tOr, tNot, tAndV, tOrV, tNotV, tIf, tChain, tMenu, tPar, tDrop, tTup, tLst, tNext, tSl, tPart, tNoPart, tNever, gTup, gCons, gNil, gSub, rSetL, tBM, rAppend, rEq, rNe, rIsi, rIxL, rIxT, rIxS, rSlL, isi_non_bl, isi_non_int, isi_non_str, isi_non_lst, isi_non_tup, isi_bl_bl, isi_bl_int, isi_bl_str, isi_bl_lst, isi_bl_tup, isi_int_bl, isi_int_int, isi_int_str, isi_int_lst, isi_int_tup, isi_str_bl, isi_str_int, isi_str_str, isi_str_lst, isi_str_tup, isi_lst_bl, isi_lst_int, isi_lst_str, isi_lst_lst, isi_lst_tup, isi_tup_bl, isi_tup_int, isi_tup_str, isi_tup_lst, isi_tup_tup, isi_dct_bl, isi_dct_int, isi_dct_str, isi_dct_lst, isi_dct_tup, Kd_non, Kd_bl, Kd_int, Kd_str, sc_non_non, sc_non_int, sc_int_non, sc_non_bl, sc_bl_non, sc_non_str, sc_str_non, sc_int_int, sc_bl_bl, sc_str_str, sc_int_str, sc_str_int, sc_bl_str, sc_str_bl, decide_true, decide_false, tFor_eq, iList, iTup, iRng1, iRng2, iRng3, rIndexT, tBM0, tBMT, tyK_int, tyK_bool, tyK_str, tyK_list, tyK_tuple, L2.start, cxK, Int.reduceToNat, List.map_cons, List.map_nil, List.length_cons, List.length_nil, Nat.reduceAdd, Nat.reduceSub, Nat.zero_add, List.replicate_succ, List.replicate_zero, List.cons_append, List.nil_append, List.append_nil, List.getElem?_cons_zero, List.getElem?_cons_succ, List.set_cons_zero, List.set_cons_succ, Option.some.injEq, V.int.injEq, V.bl.injEq, V.ref.injEq, V.str.injEq, V.ty.injEq, List.cons.injEq, exists_eq_left', exists_eq_left, exists_eq_right, exists_and_left, exists_and_right, and_true, true_and, and_assoc, exists_const, decide_eq_true_eq, Bool.not_eq_true', Bool.not_true, Bool.not_false, Bool.not_not, decide_eq_false_iff_not, ite_not, Bool.false_eq_true, if_true, if_false, reduceCtorEq, and_false, false_and, exists_false, or_false, false_or, ↓reduceIte, eq_self, reduceIte]
    rw [txt_len]
    have sl : cs.length ≤ sizeLine := Nat.le_trans hn (by decide)
    refine ⟨sl, ?_⟩
    by_cases h1 : 1 ≤ (cs.length : Int)
    · rw [if_pos h1]
      by_cases h2 : (cs.length : Int) ≤ 8
      · rw [if_pos h2]
        refine ⟨_, rfl, ha, fun D hD => ?_⟩
        obtain ⟨Pc, hC⟩ : ∃ Pc : Nat → St → Hp → Prop, Pc = fun i τ H' => ∃ z, H' D = some (.lst (((cs.map isLow).take i).map V.bl)) ∧ Same H H' ∧ τ = [z] := ⟨_, rfl⟩
        refine compS_str cs Pc ?_ ?_ ?_
        · rw [hC]
          exact ⟨_, upd_same, same_new hD _, rfl⟩
        · intro i c τ H' R hc h next
          rw [hC] at h
          obtain ⟨z, d1, d2, rfl⟩ := h
          have li : i < cs.length := (List.getElem?_eq_some_iff.mp hc).1
          have key : ∃ ys, H' D = some (.lst ys) ∧ ys.length < sizeLine ∧ R [some (sgn c)] (upd H' D (.lst (ys ++ [.bl (isLow c)]))) := by
            refine ⟨_, d1, ?_, next _ _ ?_⟩
            · rw [List.length_map, List.length_take, List.length_map]
              exact Nat.lt_of_lt_of_le (m := 64) (by omega) (by decide)
            · rw [hC]
              refine ⟨_, ?_, fun b o hb => by rw [upd_ne (ne_of_none hb hD)]; exact d2 _ _ hb, rfl⟩
              rw [upd_same, List.take_add_one, List.getElem?_map, hc, List.map_append]
              rfl
          simp only [tTurn, rTurnT, tTryS, rCountT, rPop, rRep, tCont, iZipT, tChain3, tFld, sFld, tMake, tMake0, tMethD, tBM0, rUpper, tDict1T, tTryN, rSlS, rMulS, rCatS, iZipL, rInsert, rReverse, tDNewX, tTry, tRaise, iEnumL, iEnumT, iZip, iSeq, iOr, rIx, iStr, rLeS, rJoin, rSlTA, tComp_eq, tComp1, slots, Option.getD_some, Option.getD_none, tYes, tSeq, tAsg, gName, tOp, tUn, tC, tVar, tCB, tCons, tNil, tCall, rI, rI0, rU, tRet, tRetN, tIfS, tTest, tB, tAnd, tOr, tNot, tAndV, tOrV, tNotV, tIf, tChain, tMenu, tPar, tDrop, tTup, tLst, tNext, tSl, tPart, tNoPart, tNever, gTup, gCons, gNil, gSub, rSetL, tBM, rAppend, rEq, rNe, rIsi, rIxL, rIxT, rIxS, rSlL, isi_non_bl, isi_non_int, isi_non_str, isi_non_lst, isi_non_tup, isi_bl_bl, isi_bl_int, isi_bl_str, isi_bl_lst, isi_bl_tup, isi_int_bl, isi_int_int, isi_int_str, isi_int_lst, isi_int_tup, isi_str_bl, isi_str_int, isi_str_str, isi_str_lst, isi_str_tup, isi_lst_bl, isi_lst_int, isi_lst_str, isi_lst_lst, isi_lst_tup, isi_tup_bl, isi_tup_int, isi_tup_str, isi_tup_lst, isi_tup_tup, isi_dct_bl, isi_dct_int, isi_dct_str, isi_dct_lst, isi_dct_tup, Kd_non, Kd_bl, Kd_int, Kd_str, sc_non_non, sc_non_int, sc_int_non, sc_non_bl, sc_bl_non, sc_non_str, sc_str_non, sc_int_int, sc_bl_bl, sc_str_str, sc_int_str, sc_str_int, sc_bl_str, sc_str_bl, decide_true, decide_false, tFor_eq, iList, iTup, iRng1, iRng2, iRng3, rIndexT, tBM0, tBMT, tyK_int, tyK_bool, tyK_str, tyK_list, tyK_tuple, L2.start, cxK, Int.reduceToNat, List.map_cons, List.map_nil, List.length_cons, List.length_nil, Nat.reduceAdd, Nat.reduceSub, Nat.zero_add, List.replicate_succ, List.replicate_zero, List.cons_append, List.nil_append, List.append_nil, List.getElem?_cons_zero, List.getElem?_cons_succ, List.set_cons_zero, List.set_cons_succ, Option.some.injEq, V.int.injEq, V.bl.injEq, V.ref.injEq, V.str.injEq, V.ty.injEq, List.cons.injEq, exists_eq_left', exists_eq_left, exists_eq_right, exists_and_left, exists_and_right, and_true, true_and, and_assoc, exists_const, decide_eq_true_eq, Bool.not_eq_true', Bool.not_true, Bool.not_false, Bool.not_not, decide_eq_false_iff_not, ite_not, Bool.false_eq_true, if_true, if_false, reduceCtorEq, and_false, false_and, exists_false, or_false, false_or, ↓reduceIte, eq_self, reduceIte]
          refine ⟨97, rfl, _, rfl, ?_⟩
          unfold isLow at key
          by_cases hc1 : 97 ≤ c
          · rw [decide_eq_true hc1, Bool.true_and] at key
            rw [if_pos hc1]
            exact ⟨_, rfl, 122, rfl, key⟩
          · rw [decide_eq_false hc1, Bool.false_and] at key
            rw [if_neg hc1]
            exact key
        · intro τ H' h
          rw [hC] at h
          obtain ⟨z, d1, d2, rfl⟩ := h
          rw [List.take_of_length_le (by rw [List.length_map]; exact Nat.le_refl _)] at d1
          refine ⟨_, rfl, _, SqL.of d1, ?_⟩
          have e : nameB cs = (cs.map isLow).all id := by
            unfold nameB
            rw [decide_eq_true ⟨by omega, by omega⟩, Bool.true_and, List.all_map]
            rfl
          rw [← e]
          exact q _ d2
      · rw [if_neg h2]
        have e : nameB cs = false := by
          unfold nameB
          rw [decide_eq_false (by omega)]
          rfl
        rw [← e]
        exact q _ (Same.refl _)
    · rw [if_neg h1]
      have e : nameB cs = false := by
        unfold nameB
        rw [decide_eq_false (by omega)]
        rfl
      rw [← e]
      exact q _ (Same.refl _)
end

def itB : V → Bool
  | .int i => decide (1 ≤ i ∧ i ≤ 99)
  | _ => false
def prefB (xs : List V) : Bool := decide (xs.length ≤ 4) && xs.all itB
def Knd (K : PySem.W.Frag) (H : Hp) (x : V) : Prop := ∃ k, Kd K H x k
theorem Knd.same {K : PySem.W.Frag} {H H' : Hp} {x : V} (h : Knd K H x) (e : Same H H') : Knd K H' x := by
  obtain ⟨k, h⟩ := h
  exact ⟨k, kd_same e h⟩
inductive PrefV (K : PySem.W.Frag) (H : Hp) : V → Bool → Prop
  | no {v : V} {k : Kn} : Kd K H v k → k ≠ .tup → PrefV K H v false
  | tup {p : Addr} {xs : List V} : SqT K H p xs → (∀ x ∈ xs, Knd K H x) → PrefV K H (.ref p) (prefB xs)
inductive NumV (K : PySem.W.Frag) (H : Hp) : V → Bool → Prop
  | no {v : V} {k : Kn} : Kd K H v k → k ≠ .tup → NumV K H v false
  | tup {p : Addr} {xs : List V} : SqT K H p xs → (∀ x ∈ xs, Knd K H x) → NumV K H (.ref p) (prefB xs && decide (1 ≤ xs.length))
def spIsPrefix (K : PySem.W.Frag) : Sp := fun vs H Q _ => ∃ v b, vs = [v] ∧ PrefV K H v b ∧ ∀ H', Same H H' → Q (.bl b) H'
def spIsNumber (K : PySem.W.Frag) : Sp := fun vs H Q _ => ∃ v b, vs = [v] ∧ NumV K H v b ∧ ∀ H', Same H H' → Q (.bl b) H'
theorem isi_tup_ne {k : Kn} (h : k ≠ .tup) : isiB k .tup = false := by
  cases k <;> first | rfl | exact absurd rfl h
theorem whole_it {K : PySem.W.Frag} {H : Hp} {x : V} {k : Kn} (h : Kd K H x k) : (k = .int ∧ ∃ i, x = .int i) ∨ (wholeK k = false ∧ itB x = false) := by
  by_cases e : k = .int
  · subst e
    exact .inl ⟨rfl, kd_int h⟩
  · refine .inr ⟨wholeK_ne e, ?_⟩
    cases x with
    | int i => exact absurd h e
    | _ => rfl
section
variable {P : Program} {w : World} {K : PySem.W.Frag} {mg : Str → Option Value} {base : Heap} {f : Addr} {fd : FuncData}
theorem ok_is_prefix (F : Fun K "is_prefix" "is_prefix" s_is_prefix f fd) (M : Mg mg) (C_is_whole : Cal P w K mg base CX0 "is_whole" 1 ["thing"] (spIsWhole K)) : FnOk P w K mg base CX0 2 f fd ["thing"] (spIsPrefix K) := by
  refine F.ok sc_is_prefix (fun vs H Q E h => ?_) (fun cdv A outer s H vs Q E hr h => ?_)
  · obtain ⟨v, b, rfl, _⟩ := h
    rfl
  obtain ⟨v, b, rfl, N, q⟩ := h
  refine ⟨_, (@pss_cons _ _ _ _ _ (@ps_if _ _ _ _ _ _ _ _ (@PW.pt _ _ _ (@pw_or _ _ _ _ _ _ _ (@pt_not _ _ _ _ (@pt_val _ _ _ (@pe_callB _ _ _ _ _ _ _ _ _ call_isi g_is_prefix_isinstance M.m_isinstance b_isinstance (@pa_cons _ _ _ _ _ (@pe_var _ 0 _ _ rfl v_is_prefix_0 dn_thing dc_thing) (@pa_cons _ _ _ _ _ (@pe_bltn _ _ (.ty "tuple") _ _ g_is_prefix_tuple M.m_tuple b_tuple rfl nn_tuple dn_tuple) (@pa_nil _) (star1 rfl)) (star1 rfl)) nn_isinstance dn_isinstance (star1 rfl) (nost1 rfl nost0)) (test1 rfl))) (@pw_or1 _ _ _ _ (@pt_cmpR _ _ _ _ _ _ _ _ (@op_gt _) (@pe_callB _ _ _ _ _ _ _ _ _ call_len_seq g_is_prefix_len M.m_len b_len (@pa_cons _ _ _ _ _ (@pe_var _ 0 _ _ rfl v_is_prefix_0 dn_thing dc_thing) (@pa_nil _) (star1 rfl)) nn_len dn_len (star1 rfl) nost0) (@pe_int _ _ _ _) (nomark _))))) (@pss_one _ _ _ (@ps_ret _ _ _ _ (@pe_bl _ _ _ _))) (@pss_nil _)) (@pss_one _ _ _ (@ps_ret _ _ _ _ (@pe_callB _ _ _ _ _ _ _ _ _ (call_all1 rfl) g_is_prefix_all M.m_all b_all (@pa_cons _ _ _ _ _ (@pe_comp _ _ _ _ _ _ _ _ _ _ _ _ _ _ _ rfl (CompOk.make (N' := ["part"]) (ix := []) (nl := 1) (by rfl) fm0 (by rfl) (by decide +kernel) rfl (by decide +kernel) rfl True.intro) (@pi_tup _ _ _ _ (@pe_var _ 0 _ _ rfl v_is_prefix_0 dn_thing dc_thing)) (fun _ _ _ _ _ => (@pg_name _ _ 0 _ (show List.Nodup (["part"] : List Str) from by decide) rfl (Or.inl rfl) (by first | exact .inl rfl | exact .inr rfl | assumption))) (fun _ _ _ _ _ => (@pif_nil _)) (fun _ _ _ _ _ => (@pe_and _ _ _ _ _ _ _ (@pe_callC _ _ _ _ _ _ _ _ _ _ _ C_is_whole hr rfl (@pa_cons _ _ _ _ _ (@pv _ 0 _ _ (by rfl) (by first | exact Or.inl rfl | exact Or.inr (Or.inl rfl) | exact Or.inr (Or.inr rfl)) (by decide) (by decide)) (@pa_nil _) (star1 rfl)) (by decide) dn_is_whole (star1 rfl) nost0) (@pe_one _ _ _ _ _ (@pe_chain _ _ _ _ _ _ _ _ _ _ _ _ op_le op_le (@pe_int _ _ _ _) (@pv _ 0 _ _ (by rfl) (by first | exact Or.inl rfl | exact Or.inr (Or.inl rfl) | exact Or.inr (Or.inr rfl)) (by decide) (by decide)) (@pe_int _ _ _ _) (by with_unfolding_all rfl))))) (by intro _; rfl)) (@pa_nil _) (star1 rfl)) nn_all dn_all (star1 rfl) nost0)))), ?_⟩
  cases N with
  | no kd hk =>
    simp only [tTurn, rTurnT, tTryS, rCountT, rPop, rRep, tCont, iZipT, tChain3, tFld, sFld, tMake, tMake0, tMethD, tBM0, rUpper, tDict1T, tTryN, rSlS, rMulS, rCatS, iZipL, rInsert, rReverse, tDNewX, tTry, tRaise, iEnumL, iEnumT, iZip, iSeq, iOr, rIx, iStr, rLeS, rJoin, rSlTA, tComp_eq, tComp1, slots, Option.getD_some, Option.getD_none, tYes, tSeq, tAsg, gName, tOp, tUn, tC, tVar, tCB, tCons, tNil, tCall, rI, rI0, rU, tRet, tRetN, tIfS, tTest, tB, tAnd, tOr, tNot, tAndV, tOrV, tNotV, tIf, tChain, tMenu, tPar, tDrop, tTup, tLst, tNext, tSl, tPart, tNoPart, tNever, gTup, gCons, gNil, gSub, rSetL, tBM, rAppend, rEq, rNe, rIsi, rIxL, rIxT, rIxS, rSlL, isi_non_bl, isi_non_int, isi_non_str, isi_non_lst, isi_non_tup, isi_bl_bl, isi_bl_int, isi_bl_str, isi_bl_lst, isi_bl_tup, isi_int_bl, isi_int_int, isi_int_str, isi_int_lst, isi_int_tup, isi_str_bl, isi_str_int, isi_str_str, isi_str_lst, isi_str_tup, isi_lst_bl, isi_lst_int, isi_lst_str, isi_lst_lst, isi_lst_tup, isi_tup_bl, isi_tup_int, isi_tup_str, isi_tup_lst, isi_tup_tup, isi_dct_bl, isi_dct_int, isi_dct_str, isi_dct_lst, isi_dct_tup, Kd_non, Kd_bl, Kd_int, Kd_str, sc_non_non, sc_non_int, sc_int_non, sc_non_bl, sc_bl_non, sc_non_str, sc_str_non, sc_int_int, sc_bl_bl, sc_str_str, sc_int_str, sc_str_int, sc_bl_str, sc_str_bl, decide_true, decide_false, tFor_eq, iList, iTup, iRng1, iRng2, iRng3, rIndexT, tBM0, tBMT, tyK_int, tyK_bool, tyK_str, tyK_list, tyK_tuple, L2.start, cxK, Int.reduceToNat, List.map_cons, List.map_nil, List.length_cons, List.length_nil, Nat.reduceAdd, Nat.reduceSub, Nat.zero_add, List.replicate_succ, List.replicate_zero, List.cons_append, List.nil_append, List.append_nil, List.getElem?_cons_zero, List.getElem?_cons_succ, List.set_cons_zero, List.set_cons_succ, Option.some.injEq, V.int.injEq, V.bl.injEq, V.ref.injEq, V.str.injEq, V.ty.injEq, List.cons.injEq, exists_eq_left', exists_eq_left, exists_eq_right, exists_and_left, exists_and_right, and_true, true_and, and_assoc, exists_const, decide_eq_true_eq, Bool.not_eq_true', Bool.not_true, Bool.not_false, Bool.not_not, decide_eq_false_iff_not, ite_not, Bool.false_eq_true, if_true, if_false, reduceCtorEq, and_false, false_and, exists_false, or_false, false_or, ↓reduceIte, eq_self, reduceIte]
    refine ⟨_, kd, ?_⟩
    rw [if_pos (isi_tup_ne hk)]
    exact q _ (Same.refl _)
  | @tup p xs T kn =>
    simp only [tTurn, rTurnT, tTryS, rCountT, rPop, rRep, tCont, iZipT, tChain3, tFld, sFld, tMake, tMake0, tMethD, tBM0, rUpper, tDict1T, tTryN, rSlS, rMulS, rCatS, iZipL, rInsert, rReverse, tDNewX, tTry, tRaise, iEnumL, iEnumT, iZip, iSeq, iOr, rIx, iStr, rLeS, rJoin, rSlTA, tComp_eq, tComp1, slots, Option.getD_some, Option.getD_none, tYes, tSeq, tAsg, gName, tOp, tUn, tC, tVar, tCB, tCons, tNil, tCall, rI, rI0, rU, tRet, tRetN, tIfS, tTest, tB, tAnd, tOr, tNot, tAndV, tOrV, tNotV, tIf, tChain, tMenu, tPar, tDrop, tTup, tLst, tNext, tSl, tPart, tNoPart, tNever, gTup, gCons, gNil, gSub, rSetL, tBM, rAppend, rEq, rNe, rIsi, rIxL, rIxT, rIxS, rSlL, isi_non_bl, isi_non_int, isi_non_str, isi_non_lst, isi_non_tup, isi_bl_bl, isi_bl_int, isi_bl_str, isi_bl_lst, isi_bl_tup, isi_int_bl, isi_int_int, isi_int_str, isi_int_lst, isi_int_tup, isi_str_bl, isi_str_int, isi_str_str, isi_str_lst, isi_str_tup, isi_lst_bl, isi_lst_int, isi_lst_str, isi_lst_lst, isi_lst_tup, isi_tup_bl, isi_tup_int, isi_tup_str, isi_tup_lst, isi_tup_tup, isi_dct_bl, isi_dct_int, isi_dct_str, isi_dct_lst, isi_dct_tup, Kd_non, Kd_bl, Kd_int, Kd_str, sc_non_non, sc_non_int, sc_int_non, sc_non_bl, sc_bl_non, sc_non_str, sc_str_non, sc_int_int, sc_bl_bl, sc_str_str, sc_int_str, sc_str_int, sc_bl_str, sc_str_bl, decide_true, decide_false, tFor_eq, iList, iTup, iRng1, iRng2, iRng3, rIndexT, tBM0, tBMT, tyK_int, tyK_bool, tyK_str, tyK_list, tyK_tuple, L2.start, cxK, Int.reduceToNat, List.map_cons, List.map_nil, List.length_cons, List.length_nil, Nat.reduceAdd, Nat.reduceSub, Nat.zero_add, List.replicate_succ, List.replicate_zero, List.cons_append, List.nil_append, List.append_nil, List.getElem?_cons_zero, List.getElem?_cons_succ, List.set_cons_zero, List.set_cons_succ, Option.some.injEq, V.int.injEq, V.bl.injEq, V.ref.injEq, V.str.injEq, V.ty.injEq, List.cons.injEq, exists_eq_left', exists_eq_left, exists_eq_right, exists_and_left, exists_and_right, and_true, true_and, and_assoc, exists_const, decide_eq_true_eq, Bool.not_eq_true', Bool.not_true, Bool.not_false, Bool.not_not, decide_eq_false_iff_not, ite_not, Bool.false_eq_true, if_true, if_false, reduceCtorEq, and_false, false_and, exists_false, or_false, false_or, ↓reduceIte, eq_self, reduceIte]
    refine ⟨_, Kd.tup T, ?_⟩
    rw [if_neg (by decide)]
    refine ⟨_, .inr T, ?_⟩
    by_cases h4 : 4 < (xs.length : Int)
    · rw [if_pos h4]
      have e : prefB xs = false := by
        unfold prefB
        rw [decide_eq_false (by omega)]
        rfl
      rw [← e]
      exact q _ (Same.refl _)
    rw [if_neg h4]
    refine ⟨⟨_, T⟩, fun D hD => ?_⟩
    obtain ⟨Pc, hC⟩ : ∃ Pc : Nat → St → Hp → Prop, Pc = fun i τ H' => ∃ z, H' D = some (.lst (((xs.map itB).take i).map V.bl)) ∧ Same H H' ∧ τ = [z] := ⟨_, rfl⟩
    refine compS_tup xs Pc ?_ (fun i τ H' _ h => by rw [hC] at h; obtain ⟨z, _, e, _⟩ := h; exact Same.tup e T) ?_ ?_
    · rw [hC]
      exact ⟨_, upd_same, same_new hD _, rfl⟩
    · intro i x τ H' R hx h next
      rw [hC] at h
      obtain ⟨z, d1, d2, rfl⟩ := h
      have li : i < xs.length := (List.getElem?_eq_some_iff.mp hx).1
      have key : ∃ ys, H' D = some (.lst ys) ∧ ys.length < sizeLine ∧ R [some x] (upd H' D (.lst (ys ++ [.bl (itB x)]))) := by
        refine ⟨_, d1, ?_, next _ _ ?_⟩
        · rw [List.length_map, List.length_take, List.length_map]
          exact Nat.lt_of_lt_of_le (m := 64) (by omega) (by decide)
        · rw [hC]
          refine ⟨_, ?_, fun b o hb => by rw [upd_ne (ne_of_none hb hD)]; exact d2 _ _ hb, rfl⟩
          rw [upd_same, List.take_add_one, List.getElem?_map, hx, List.map_append]
          rfl
      obtain ⟨k, kd⟩ := (kn x (List.mem_of_getElem? hx)).same d2
      rcases whole_it kd with ⟨rfl, j, rfl⟩ | ⟨e1, e2⟩
      · simp only [tTurn, rTurnT, tTryS, rCountT, rPop, rRep, tCont, iZipT, tChain3, tFld, sFld, tMake, tMake0, tMethD, tBM0, rUpper, tDict1T, tTryN, rSlS, rMulS, rCatS, iZipL, rInsert, rReverse, tDNewX, tTry, tRaise, iEnumL, iEnumT, iZip, iSeq, iOr, rIx, iStr, rLeS, rJoin, rSlTA, tComp_eq, tComp1, slots, Option.getD_some, Option.getD_none, tYes, tSeq, tAsg, gName, tOp, tUn, tC, tVar, tCB, tCons, tNil, tCall, rI, rI0, rU, tRet, tRetN, tIfS, tTest, tB, tAnd, tOr, tNot, tAndV, tOrV, tNotV, tIf, tChain, tMenu, tPar, tDrop, tTup, tLst, tNext, tSl, tPart, tNoPart, tNever, gTup, gCons, gNil, gSub, rSetL, tBM, rAppend, rEq, rNe, rIsi, rIxL, rIxT, rIxS, rSlL, isi_non_bl, isi_non_int, isi_non_str, isi_non_lst, isi_non_tup, isi_bl_bl, isi_bl_int, isi_bl_str, isi_bl_lst, isi_bl_tup, isi_int_bl, isi_int_int, isi_int_str, isi_int_lst, isi_int_tup, isi_str_bl, isi_str_int, isi_str_str, isi_str_lst, isi_str_tup, isi_lst_bl, isi_lst_int, isi_lst_str, isi_lst_lst, isi_lst_tup, isi_tup_bl, isi_tup_int, isi_tup_str, isi_tup_lst, isi_tup_tup, isi_dct_bl, isi_dct_int, isi_dct_str, isi_dct_lst, isi_dct_tup, Kd_non, Kd_bl, Kd_int, Kd_str, sc_non_non, sc_non_int, sc_int_non, sc_non_bl, sc_bl_non, sc_non_str, sc_str_non, sc_int_int, sc_bl_bl, sc_str_str, sc_int_str, sc_str_int, sc_bl_str, sc_str_bl, decide_true, decide_false, tFor_eq, iList, iTup, iRng1, iRng2, iRng3, rIndexT, tBM0, tBMT, tyK_int, tyK_bool, tyK_str, tyK_list, tyK_tuple, L2.start, cxK, Int.reduceToNat, List.map_cons, List.map_nil, List.length_cons, List.length_nil, Nat.reduceAdd, Nat.reduceSub, Nat.zero_add, List.replicate_succ, List.replicate_zero, List.cons_append, List.nil_append, List.append_nil, List.getElem?_cons_zero, List.getElem?_cons_succ, List.set_cons_zero, List.set_cons_succ, Option.some.injEq, V.int.injEq, V.bl.injEq, V.ref.injEq, V.str.injEq, V.ty.injEq, List.cons.injEq, exists_eq_left', exists_eq_left, exists_eq_right, exists_and_left, exists_and_right, and_true, true_and, and_assoc, exists_const, decide_eq_true_eq, Bool.not_eq_true', Bool.not_true, Bool.not_false, Bool.not_not, decide_eq_false_iff_not, ite_not, Bool.false_eq_true, if_true, if_false, reduceCtorEq, and_false, false_and, exists_false, or_false, false_or, ↓reduceIte, eq_self, reduceIte]
        refine spIsWhole_of kd ⟨_, rfl, ?_⟩
        rw [if_pos (by decide)]
        have ei : itB (.int j) = (decide (1 ≤ j) && decide (j ≤ 99)) := by
          show decide (1 ≤ j ∧ j ≤ 99) = _
          by_cases a : 1 ≤ j <;> by_cases b : j ≤ 99 <;> simp [a, b]
        rw [ei] at key
        by_cases h1 : 1 ≤ j
        · rw [decide_eq_true h1, Bool.true_and] at key
          rw [if_pos h1]
          exact key
        · rw [decide_eq_false h1, Bool.false_and] at key
          rw [if_neg h1]
          exact key
      · simp only [tTurn, rTurnT, tTryS, rCountT, rPop, rRep, tCont, iZipT, tChain3, tFld, sFld, tMake, tMake0, tMethD, tBM0, rUpper, tDict1T, tTryN, rSlS, rMulS, rCatS, iZipL, rInsert, rReverse, tDNewX, tTry, tRaise, iEnumL, iEnumT, iZip, iSeq, iOr, rIx, iStr, rLeS, rJoin, rSlTA, tComp_eq, tComp1, slots, Option.getD_some, Option.getD_none, tYes, tSeq, tAsg, gName, tOp, tUn, tC, tVar, tCB, tCons, tNil, tCall, rI, rI0, rU, tRet, tRetN, tIfS, tTest, tB, tAnd, tOr, tNot, tAndV, tOrV, tNotV, tIf, tChain, tMenu, tPar, tDrop, tTup, tLst, tNext, tSl, tPart, tNoPart, tNever, gTup, gCons, gNil, gSub, rSetL, tBM, rAppend, rEq, rNe, rIsi, rIxL, rIxT, rIxS, rSlL, isi_non_bl, isi_non_int, isi_non_str, isi_non_lst, isi_non_tup, isi_bl_bl, isi_bl_int, isi_bl_str, isi_bl_lst, isi_bl_tup, isi_int_bl, isi_int_int, isi_int_str, isi_int_lst, isi_int_tup, isi_str_bl, isi_str_int, isi_str_str, isi_str_lst, isi_str_tup, isi_lst_bl, isi_lst_int, isi_lst_str, isi_lst_lst, isi_lst_tup, isi_tup_bl, isi_tup_int, isi_tup_str, isi_tup_lst, isi_tup_tup, isi_dct_bl, isi_dct_int, isi_dct_str, isi_dct_lst, isi_dct_tup, Kd_non, Kd_bl, Kd_int, Kd_str, sc_non_non, sc_non_int, sc_int_non, sc_non_bl, sc_bl_non, sc_non_str, sc_str_non, sc_int_int, sc_bl_bl, sc_str_str, sc_int_str, sc_str_int, sc_bl_str, sc_str_bl, decide_true, decide_false, tFor_eq, iList, iTup, iRng1, iRng2, iRng3, rIndexT, tBM0, tBMT, tyK_int, tyK_bool, tyK_str, tyK_list, tyK_tuple, L2.start, cxK, Int.reduceToNat, List.map_cons, List.map_nil, List.length_cons, List.length_nil, Nat.reduceAdd, Nat.reduceSub, Nat.zero_add, List.replicate_succ, List.replicate_zero, List.cons_append, List.nil_append, List.append_nil, List.getElem?_cons_zero, List.getElem?_cons_succ, List.set_cons_zero, List.set_cons_succ, Option.some.injEq, V.int.injEq, V.bl.injEq, V.ref.injEq, V.str.injEq, V.ty.injEq, List.cons.injEq, exists_eq_left', exists_eq_left, exists_eq_right, exists_and_left, exists_and_right, and_true, true_and, and_assoc, exists_const, decide_eq_true_eq, Bool.not_eq_true', Bool.not_true, Bool.not_false, Bool.not_not, decide_eq_false_iff_not, ite_not, Bool.false_eq_true, if_true, if_false, reduceCtorEq, and_false, false_and, exists_false, or_false, false_or, ↓reduceIte, eq_self, reduceIte]
        refine spIsWhole_of kd ⟨_, rfl, ?_⟩
        rw [e1, if_neg (by decide)]
        rw [e2] at key
        exact key
    · intro τ H' h
      rw [hC] at h
      obtain ⟨z, d1, d2, rfl⟩ := h
      rw [List.take_of_length_le (by rw [List.length_map]; exact Nat.le_refl _)] at d1
      refine ⟨_, rfl, _, SqL.of d1, ?_⟩
      have e : prefB xs = (xs.map itB).all id := by
        unfold prefB
        rw [decide_eq_true (by omega), Bool.true_and, List.all_map]
        rfl
      rw [← e]
      exact q _ d2
theorem ok_is_number (F : Fun K "is_number" "is_number" s_is_number f fd) (M : Mg mg) (C_is_prefix : Cal P w K mg base CX0 "is_prefix" 2 ["thing"] (spIsPrefix K)) : FnOk P w K mg base CX0 3 f fd ["thing"] (spIsNumber K) := by
  refine F.ok sc_is_number (fun vs H Q E h => ?_) (fun cdv A outer s H vs Q E hr h => ?_)
  · obtain ⟨v, b, rfl, _⟩ := h
    rfl
  obtain ⟨v, b, rfl, N, q⟩ := h
  refine ⟨_, (@pss_one _ _ _ (@ps_ret _ _ _ _ (@pe_and _ _ _ _ _ _ _ (@pe_callC _ _ _ _ _ _ _ _ _ _ _ C_is_prefix hr g_is_number_is_prefix (@pa_cons _ _ _ _ _ (@pe_var _ 0 _ _ rfl v_is_number_0 dn_thing dc_thing) (@pa_nil _) (star1 rfl)) (by decide) dn_is_prefix (star1 rfl) nost0) (@pe_one _ _ _ _ _ (@pe_cmpR _ _ _ _ _ _ _ _ (@op_ge _) (@pe_callB _ _ _ _ _ _ _ _ _ call_len_seq g_is_number_len M.m_len b_len (@pa_cons _ _ _ _ _ (@pe_var _ 0 _ _ rfl v_is_number_0 dn_thing dc_thing) (@pa_nil _) (star1 rfl)) nn_len dn_len (star1 rfl) nost0) (@pe_int _ _ _ _) (nomark _)))))), ?_⟩
  cases N with
  | no kd hk =>
    simp only [tTurn, rTurnT, tTryS, rCountT, rPop, rRep, tCont, iZipT, tChain3, tFld, sFld, tMake, tMake0, tMethD, tBM0, rUpper, tDict1T, tTryN, rSlS, rMulS, rCatS, iZipL, rInsert, rReverse, tDNewX, tTry, tRaise, iEnumL, iEnumT, iZip, iSeq, iOr, rIx, iStr, rLeS, rJoin, rSlTA, tComp_eq, tComp1, slots, Option.getD_some, Option.getD_none, tYes, tSeq, tAsg, gName, tOp, tUn, tC, tVar, tCB, tCons, tNil, tCall, rI, rI0, rU, tRet, tRetN, tIfS, tTest, tB, tAnd, tOr, tNot, tAndV, tOrV, tNotV, tIf, tChain, tMenu, tPar, tDrop, tTup, tLst, tNext, tSl, tPart, tNoPart, tNever, gTup, gCons, gNil, gSub, rSetL, tBM, rAppend, rEq, rNe, rIsi, rIxL, rIxT, rIxS, rSlL, isi_non_bl, isi_non_int, isi_non_str, isi_non_lst, isi_non_tup, isi_bl_bl, isi_bl_int, isi_bl_str, isi_bl_lst, isi_bl_tup, isi_int_bl, isi_int_int, isi_int_str, isi_int_lst, isi_int_tup, isi_str_bl, isi_str_int, isi_str_str, isi_str_lst, isi_str_tup, isi_lst_bl, isi_lst_int, isi_lst_str, isi_lst_lst, isi_lst_tup, isi_tup_bl, isi_tup_int, isi_tup_str, isi_tup_lst, isi_tup_tup, isi_dct_bl, isi_dct_int, isi_dct_str, isi_dct_lst, isi_dct_tup, Kd_non, Kd_bl, Kd_int, Kd_str, sc_non_non, sc_non_int, sc_int_non, sc_non_bl, sc_bl_non, sc_non_str, sc_str_non, sc_int_int, sc_bl_bl, sc_str_str, sc_int_str, sc_str_int, sc_bl_str, sc_str_bl, decide_true, decide_false, tFor_eq, iList, iTup, iRng1, iRng2, iRng3, rIndexT, tBM0, tBMT, tyK_int, tyK_bool, tyK_str, tyK_list, tyK_tuple, L2.start, cxK, Int.reduceToNat, List.map_cons, List.map_nil, List.length_cons, List.length_nil, Nat.reduceAdd, Nat.reduceSub, Nat.zero_add, List.replicate_succ, List.replicate_zero, List.cons_append, List.nil_append, List.append_nil, List.getElem?_cons_zero, List.getElem?_cons_succ, List.set_cons_zero, List.set_cons_succ, Option.some.injEq, V.int.injEq, V.bl.injEq, V.ref.injEq, V.str.injEq, V.ty.injEq, List.cons.injEq, exists_eq_left', exists_eq_left, exists_eq_right, exists_and_left, exists_and_right, and_true, true_and, and_assoc, exists_const, decide_eq_true_eq, Bool.not_eq_true', Bool.not_true, Bool.not_false, Bool.not_not, decide_eq_false_iff_not, ite_not, Bool.false_eq_true, if_true, if_false, reduceCtorEq, and_false, false_and, exists_false, or_false, false_or, ↓reduceIte, eq_self, reduceIte]
    refine ⟨_, _, rfl, .no kd hk, fun H' e => ⟨_, rfl, ?_⟩⟩
    exact q _ e
  | @tup p xs T kn =>
    simp only [tTurn, rTurnT, tTryS, rCountT, rPop, rRep, tCont, iZipT, tChain3, tFld, sFld, tMake, tMake0, tMethD, tBM0, rUpper, tDict1T, tTryN, rSlS, rMulS, rCatS, iZipL, rInsert, rReverse, tDNewX, tTry, tRaise, iEnumL, iEnumT, iZip, iSeq, iOr, rIx, iStr, rLeS, rJoin, rSlTA, tComp_eq, tComp1, slots, Option.getD_some, Option.getD_none, tYes, tSeq, tAsg, gName, tOp, tUn, tC, tVar, tCB, tCons, tNil, tCall, rI, rI0, rU, tRet, tRetN, tIfS, tTest, tB, tAnd, tOr, tNot, tAndV, tOrV, tNotV, tIf, tChain, tMenu, tPar, tDrop, tTup, tLst, tNext, tSl, tPart, tNoPart, tNever, gTup, gCons, gNil, gSub, rSetL, tBM, rAppend, rEq, rNe, rIsi, rIxL, rIxT, rIxS, rSlL, isi_non_bl, isi_non_int, isi_non_str, isi_non_lst, isi_non_tup, isi_bl_bl, isi_bl_int, isi_bl_str, isi_bl_lst, isi_bl_tup, isi_int_bl, isi_int_int, isi_int_str, isi_int_lst, isi_int_tup, isi_str_bl, isi_str_int, isi_str_str, isi_str_lst, isi_str_tup, isi_lst_bl, isi_lst_int, isi_lst_str, isi_lst_lst, isi_lst_tup, isi_tup_bl, isi_tup_int, isi_tup_str, isi_tup_lst, isi_tup_tup, isi_dct_bl, isi_dct_int, isi_dct_str, isi_dct_lst, isi_dct_tup, Kd_non, Kd_bl, Kd_int, Kd_str, sc_non_non, sc_non_int, sc_int_non, sc_non_bl, sc_bl_non, sc_non_str, sc_str_non, sc_int_int, sc_bl_bl, sc_str_str, sc_int_str, sc_str_int, sc_bl_str, sc_str_bl, decide_true, decide_false, tFor_eq, iList, iTup, iRng1, iRng2, iRng3, rIndexT, tBM0, tBMT, tyK_int, tyK_bool, tyK_str, tyK_list, tyK_tuple, L2.start, cxK, Int.reduceToNat, List.map_cons, List.map_nil, List.length_cons, List.length_nil, Nat.reduceAdd, Nat.reduceSub, Nat.zero_add, List.replicate_succ, List.replicate_zero, List.cons_append, List.nil_append, List.append_nil, List.getElem?_cons_zero, List.getElem?_cons_succ, List.set_cons_zero, List.set_cons_succ, Option.some.injEq, V.int.injEq, V.bl.injEq, V.ref.injEq, V.str.injEq, V.ty.injEq, List.cons.injEq, exists_eq_left', exists_eq_left, exists_eq_right, exists_and_left, exists_and_right, and_true, true_and, and_assoc, exists_const, decide_eq_true_eq, Bool.not_eq_true', Bool.not_true, Bool.not_false, Bool.not_not, decide_eq_false_iff_not, ite_not, Bool.false_eq_true, if_true, if_false, reduceCtorEq, and_false, false_and, exists_false, or_false, false_or, ↓reduceIte, eq_self, reduceIte]
    refine ⟨_, _, rfl, .tup T kn, fun H' e => ⟨_, rfl, ?_⟩⟩
    cases hp : prefB xs with
    | false =>
      rw [if_neg (by decide)]
      rw [hp] at q
      exact q _ e
    | true =>
      rw [if_pos rfl]
      refine ⟨_, .inr (Same.tup e T), ?_⟩
      rw [hp, Bool.true_and] at q
      have : decide (1 ≤ (xs.length : Int)) = decide (1 ≤ xs.length) := by
        by_cases h : 1 ≤ xs.length
        · rw [decide_eq_true h, decide_eq_true (by omega)]
        · rw [decide_eq_false h, decide_eq_false (by omega)]
      rw [this]
      exact q _ e
end

structure Lt where
  q : Addr
  np : Addr
  ip : Addr
  cs : List Nat
  nv : List Int
  pr : Int
  is : List Int
def refs (gs : List Lt) : List V := gs.map fun g => V.ref g.q
structure LtAt (K : PySem.W.Frag) (H : Hp) (g : Lt) : Prop where
  tq : SqT K H g.q [.str (txt g.cs), .ref g.np, .int g.pr, .ref g.ip]
  tn : SqT K H g.np (g.nv.map V.int)
  ti : H g.ip = some (.tup (g.is.map V.int))
theorem LtAt.same {K : PySem.W.Frag} {H H' : Hp} {g : Lt} (h : LtAt K H g) (e : Same H H') : LtAt K H' g := ⟨Same.tup e h.tq, Same.tup e h.tn, e _ _ h.ti⟩
theorem LtAt.upd {K : PySem.W.Frag} {H : Hp} {g : Lt} {l : Addr} {xs ys : List V} (h : LtAt K H g) (d : H l = some (.lst xs)) : LtAt K (upd H l (.lst ys)) g :=
  ⟨SqT.lst h.tq d, SqT.lst h.tn d, by rw [upd_ne (ne_of h.ti d (by intro z; cases z))]; exact h.ti⟩
def prAt (gs : List Lt) (j : Int) : Int := ((gs[j.toNat]?).map (·.pr)).getD 0
def sumP (gs : List Lt) (is : List Int) : Int := (is.map (prAt gs)).sum
structure GoodL (gs : List Lt) (g : Lt) : Prop where
  name : nameB g.cs = true
  nl1 : 1 ≤ g.nv.length
  nl4 : g.nv.length ≤ 4
  nin : ∀ i ∈ g.nv, 1 ≤ i ∧ i ≤ 99
  p1 : 1 ≤ g.pr
  p2 : g.pr ≤ 10 ^ 12
  il : g.is.length ≤ 4
  iin : ∀ i ∈ g.is, 0 ≤ i ∧ i < gs.length
  nd : ∀ i ∈ g.is, g.is.count i = 1
  sm : sumP gs g.is ≤ g.pr
def Lots (gs : List Lt) : Prop := ∀ (i : Nat) g, gs[i]? = some g → GoodL (gs.take i) g
theorem refs_len (gs : List Lt) : (refs gs).length = gs.length := List.length_map ..
theorem refs_ok (gs : List Lt) : (refs gs).all okV = true := by
  rw [List.all_eq_true]
  intro x hx
  obtain ⟨r, _, rfl⟩ := List.mem_map.mp hx
  rfl
theorem refs_at {gs : List Lt} {i : Nat} {x : V} (h : (refs gs)[i]? = some x) : ∃ g, gs[i]? = some g ∧ x = .ref g.q := by
  unfold refs at h
  rw [List.getElem?_map] at h
  cases e : gs[i]? with
  | none => rw [e] at h; cases h
  | some r => rw [e] at h; exact ⟨r, rfl, (Option.some.inj h).symm⟩
theorem refs_get {gs : List Lt} {i : Nat} {g : Lt} (h : gs[i]? = some g) : (refs gs)[i]? = some (.ref g.q) := by
  unfold refs
  rw [List.getElem?_map, h]
  rfl
theorem refs_ix {gs : List Lt} {i : Nat} {g : Lt} (h : gs[i]? = some g) : atI (refs gs) (i : Int) = some (.ref g.q) := atI_nat (refs_get h)
theorem refs_snoc (gs : List Lt) (g : Lt) : refs (gs ++ [g]) = refs gs ++ [.ref g.q] := by
  unfold refs
  rw [List.map_append]
  rfl
theorem take_snoc {α : Type} {gs : List α} {i : Nat} {g : α} (h : gs[i]? = some g) : gs.take (i + 1) = gs.take i ++ [g] := by
  rw [List.take_add_one, h]
  rfl
inductive PriceV (K : PySem.W.Frag) (H : Hp) : V → Bool → Prop
  | no {v : V} {k : Kn} : Kd K H v k → k ≠ .int → PriceV K H v false
  | int {i : Int} : PriceV K H (.int i) (decide (1 ≤ i ∧ i ≤ 10 ^ 12))
def inI (many : Nat) : V → Bool
  | .int i => decide (0 ≤ i ∧ i < (many : Int))
  | _ => false
inductive InpV (K : PySem.W.Frag) (H : Hp) (many : Nat) : V → Bool → Prop
  | no {v : V} {k : Kn} : Kd K H v k → k ≠ .tup → InpV K H many v false
  | odd {p : Addr} {xs : List V} : SqT K H p xs → (∀ x ∈ xs, Knd K H x) → (decide (xs.length ≤ 4) && xs.all (inI many)) = false → InpV K H many (.ref p) false
  | nums {p : Addr} {is : List Int} : H p = some (.tup (is.map V.int)) → is.length ≤ 4 → (∀ i ∈ is, 0 ≤ i ∧ i < (many : Int)) → InpV K H many (.ref p) (is.all fun i => decide (is.count i = 1))
theorem PriceV.same {K : PySem.W.Frag} {H H' : Hp} {v : V} {b : Bool} (h : PriceV K H v b) (e : Same H H') : PriceV K H' v b := by
  cases h with
  | no a c => exact .no (kd_same e a) c
  | int => exact .int
theorem InpV.same {K : PySem.W.Frag} {H H' : Hp} {m : Nat} {v : V} {b : Bool} (h : InpV K H m v b) (e : Same H H') : InpV K H' m v b := by
  cases h with
  | no a c => exact .no (kd_same e a) c
  | odd a c d => exact .odd (Same.tup e a) (fun x hx => (c x hx).same e) d
  | nums a c d => exact .nums (e _ _ a) c d
theorem NameV.same {K : PySem.W.Frag} {H H' : Hp} {v : V} {b : Bool} (h : NameV K H v b) (e : Same H H') : NameV K H' v b := by
  cases h with
  | no a c => exact .no (kd_same e a) c
  | txt a c => exact .txt a c
theorem NumV.same {K : PySem.W.Frag} {H H' : Hp} {v : V} {b : Bool} (h : NumV K H v b) (e : Same H H') : NumV K H' v b := by
  cases h with
  | no a c => exact .no (kd_same e a) c
  | tup a c => exact .tup (Same.tup e a) fun x hx => (c x hx).same e
inductive LotV (K : PySem.W.Frag) (H : Hp) (gs : List Lt) : V → Bool → Prop
  | no {v : V} {k : Kn} : Kd K H v k → k ≠ .tup → LotV K H gs v false
  | len {p : Addr} {xs : List V} : SqT K H p xs → xs.length ≠ 4 → LotV K H gs (.ref p) false
  | word {p : Addr} {x y z t : V} {a b c : Bool} : SqT K H p [x, y, z, t] → NameV K H x a → NumV K H y b → PriceV K H z c → (a && b && c) = false → LotV K H gs (.ref p) false
  | inp {p : Addr} {x y t : V} {pr : Int} : SqT K H p [x, y, .int pr, t] → NameV K H x true → NumV K H y true → 1 ≤ pr → pr ≤ 10 ^ 12 → InpV K H gs.length t false → LotV K H gs (.ref p) false
  | sum {p ip : Addr} {x y : V} {pr : Int} {is : List Int} : SqT K H p [x, y, .int pr, .ref ip] → NameV K H x true → NumV K H y true → 1 ≤ pr → pr ≤ 10 ^ 12 → H ip = some (.tup (is.map V.int)) → is.length ≤ 4 → (∀ i ∈ is, 0 ≤ i ∧ i < (gs.length : Int)) → (∀ i ∈ is, is.count i = 1) →
      LotV K H gs (.ref p) (decide (sumP gs is ≤ pr))
theorem LotV.same {K : PySem.W.Frag} {H H' : Hp} {gs : List Lt} {v : V} {b : Bool} (h : LotV K H gs v b) (e : Same H H') : LotV K H' gs v b := by
  cases h with
  | no a c => exact .no (kd_same e a) c
  | len a c => exact .len (Same.tup e a) c
  | word a c d f g => exact .word (Same.tup e a) (c.same e) (d.same e) (f.same e) g
  | inp a c d f g i => exact .inp (Same.tup e a) (c.same e) (d.same e) f g (i.same e)
  | sum a c d f g i j k l => exact .sum (Same.tup e a) (c.same e) (d.same e) f g (e _ _ i) j k l
inductive BadR (K : PySem.W.Frag) (H : Hp) : V → Prop
  | no {v : V} {k : Kn} : Kd K H v k → k ≠ .lst → BadR K H v
  | long {l : Addr} {xs : List V} : SqL K H l xs → 24 < xs.length → BadR K H (.ref l)
  | at {l : Addr} {gs : List Lt} {v : V} {ys : List V} : SqL K H l (refs gs ++ v :: ys) → (∀ g ∈ gs, LtAt K H g) → Lots gs → (refs gs ++ v :: ys).length ≤ 24 → LotV K H gs v false → BadR K H (.ref l)
theorem BadR.same {K : PySem.W.Frag} {H H' : Hp} {v : V} (h : BadR K H v) (e : Same H H') : BadR K H' v := by
  cases h with
  | no a c => exact .no (kd_same e a) c
  | long a c => exact .long (e.seq a) c
  | «at» a c d f g => exact .at (e.seq a) (fun x hx => (c x hx).same e) d f (g.same e)
theorem pref_good {ps : List Int} (l : ps.length ≤ 4) (h : ∀ i ∈ ps, 1 ≤ i ∧ i ≤ 99) : prefB (ps.map V.int) = true := by
  unfold prefB
  rw [List.length_map, decide_eq_true l, Bool.true_and, List.all_eq_true]
  intro x hx
  obtain ⟨i, hi, rfl⟩ := List.mem_map.mp hx
  exact decide_eq_true (h i hi)
theorem knd_ints {K : PySem.W.Frag} {H : Hp} (ps : List Int) : ∀ x ∈ ps.map V.int, Knd K H x := fun x hx => by
  obtain ⟨i, _, rfl⟩ := List.mem_map.mp hx
  exact ⟨.int, rfl⟩
theorem nameV_of {K : PySem.W.Frag} {H : Hp} {v : V} {b c : Bool} (h : NameV K H v b) (e : b = c) : NameV K H v c := e ▸ h
theorem numV_of {K : PySem.W.Frag} {H : Hp} {v : V} {b c : Bool} (h : NumV K H v b) (e : b = c) : NumV K H v c := e ▸ h
theorem lotV_of {K : PySem.W.Frag} {H : Hp} {gs : List Lt} {v : V} {b c : Bool} (h : LotV K H gs v b) (e : b = c) : LotV K H gs v c := e ▸ h
theorem name_parts {cs : List Nat} (h : nameB cs = true) : (1 ≤ cs.length ∧ cs.length ≤ 8) ∧ cs.all isLow = true := by
  unfold nameB at h
  rw [Bool.and_eq_true, decide_eq_true_iff] at h
  exact h
theorem name_asc {cs : List Nat} (h : nameB cs = true) : asc cs := List.all_eq_true.mpr fun c hc => decide_eq_true (by
  have := List.all_eq_true.mp (name_parts h).2 c hc
  unfold isLow at this
  rw [Bool.and_eq_true, decide_eq_true_iff, decide_eq_true_iff] at this
  omega)
theorem name_good {K : PySem.W.Frag} {H : Hp} {cs : List Nat} (h : nameB cs = true) : NameV K H (.str (txt cs)) true := nameV_of (.txt (name_asc h) (Nat.le_trans (name_parts h).1.2 (by decide))) h
theorem num_good {K : PySem.W.Frag} {H : Hp} {p : Addr} {nv : List Int} (T : SqT K H p (nv.map V.int)) (l1 : 1 ≤ nv.length) (l4 : nv.length ≤ 4) (h : ∀ i ∈ nv, 1 ≤ i ∧ i ≤ 99) : NumV K H (.ref p) true := by
  refine numV_of (.tup T (knd_ints nv)) ?_
  rw [pref_good l4 h, List.length_map, decide_eq_true l1]
  rfl
theorem LtAt.lot {K : PySem.W.Frag} {H : Hp} {gs : List Lt} {g : Lt} (h : LtAt K H g) (G : GoodL gs g) : LotV K H gs (.ref g.q) true :=
  lotV_of (.sum h.tq (name_good G.name) (num_good h.tn G.nl1 G.nl4 G.nin) G.p1 G.p2 h.ti G.il G.iin G.nd) (decide_eq_true G.sm)
def spIsPrice (K : PySem.W.Frag) : Sp := fun vs H Q _ => ∃ v b, vs = [v] ∧ PriceV K H v b ∧ Q (.bl b) H
def spAreInputs (K : PySem.W.Frag) : Sp := fun vs H Q _ => ∃ v b, ∃ many : Nat, vs = [v, .int many] ∧ InpV K H many v b ∧ ∀ H', Same H H' → Q (.bl b) H'
def spPriceOf (K : PySem.W.Frag) : Sp := fun vs H Q _ => ∃ (a ip : Addr) (gs : List Lt) (is : List Int), vs = [.ref a, .ref ip] ∧ SqL K H a (refs gs) ∧ (∀ g ∈ gs, LtAt K H g) ∧ SqT K H ip (is.map V.int) ∧ is.length ≤ 4 ∧ (∀ i ∈ is, 0 ≤ i ∧ i < (gs.length : Int)) ∧ ∀ H', Same H H' → Q (.int (sumP gs is)) H'
def spIsLot (K : PySem.W.Frag) : Sp := fun vs H Q _ => ∃ (v : V) (b : Bool) (a : Addr) (gs : List Lt), vs = [v, .ref a] ∧ SqL K H a (refs gs) ∧ (∀ g ∈ gs, LtAt K H g) ∧ gs.length ≤ 24 ∧ LotV K H gs v b ∧ ∀ H', Same H H' → Q (.bl b) H'
def spLotsOf (K : PySem.W.Frag) (cN : Addr) : Sp := fun vs H Q E => (∃ v, vs = [v] ∧ BadR K H v ∧ ∀ H', Same H H' → E (.ref cN) none H') ∨
  ∃ l gs, vs = [.ref l] ∧ SqL K H l (refs gs) ∧ (∀ g ∈ gs, LtAt K H g) ∧ Lots gs ∧ gs.length ≤ 24 ∧ ∀ n H', Same H H' → H n = none → H' n = some (.lst (refs gs)) → Q (.ref n) H'
section
variable {P : Program} {w : World} {K : PySem.W.Frag} {mg : Str → Option Value} {base : Heap} {f : Addr} {fd : FuncData}
theorem isi_lst_ne {k : Kn} (h : k ≠ .lst) : isiB k .lst = false := by
  cases k <;> first | rfl | exact absurd rfl h
theorem ok_is_price (F : Fun K "is_price" "is_price" s_is_price f fd) (M : Mg mg) (C_is_whole : Cal P w K mg base CX0 "is_whole" 1 ["thing"] (spIsWhole K)) : FnOk P w K mg base CX0 2 f fd ["thing"] (spIsPrice K) := by
  refine F.ok sc_is_price (fun vs H Q E h => ?_) (fun cdv A outer s H vs Q E hr h => ?_)
  · obtain ⟨v, b, rfl, _⟩ := h
    rfl
  obtain ⟨v, b, rfl, N, q⟩ := h
  refine ⟨_, (@pss_one _ _ _ (@ps_ret _ _ _ _ (@pe_and _ _ _ _ _ _ _ (@pe_callC _ _ _ _ _ _ _ _ _ _ _ C_is_whole hr g_is_price_is_whole (@pa_cons _ _ _ _ _ (@pe_var _ 0 _ _ rfl v_is_price_0 dn_thing dc_thing) (@pa_nil _) (star1 rfl)) (by decide) dn_is_whole (star1 rfl) nost0) (@pe_one _ _ _ _ _ (@pe_chain _ _ _ _ _ _ _ _ _ _ _ _ op_le op_le (@pe_int _ _ _ _) (@pe_var _ 0 _ _ rfl v_is_price_0 dn_thing dc_thing) (@pe_op _ _ _ _ _ _ _ _ (@op_pow _) (@pe_int _ _ _ _) (@pe_int _ _ _ _)) (by with_unfolding_all rfl)))))), ?_⟩
  cases N with
  | no kd hk =>
    simp only [tTurn, rTurnT, tTryS, rCountT, rPop, rRep, tCont, iZipT, tChain3, tFld, sFld, tMake, tMake0, tMethD, tBM0, rUpper, tDict1T, tTryN, rSlS, rMulS, rCatS, iZipL, rInsert, rReverse, tDNewX, tTry, tRaise, iEnumL, iEnumT, iZip, iSeq, iOr, rIx, iStr, rLeS, rJoin, rSlTA, tComp_eq, tComp1, slots, Option.getD_some, Option.getD_none, tYes, tSeq, tAsg, gName, tOp, tUn, tC, tVar, tCB, tCons, tNil, tCall, rI, rI0, rU, tRet, tRetN, tIfS, tTest, tB, tAnd, tOr, tNot, tAndV, tOrV, tNotV, tIf, tChain, tMenu, tPar, tDrop, tTup, tLst, tNext, tSl, tPart, tNoPart, tNever, gTup, gCons, gNil, gSub, rSetL, tBM, rAppend, rEq, rNe, rIsi, rIxL, rIxT, rIxS, rSlL, isi_non_bl, isi_non_int, isi_non_str, isi_non_lst, isi_non_tup, isi_bl_bl, isi_bl_int, isi_bl_str, isi_bl_lst, isi_bl_tup, isi_int_bl, isi_int_int, isi_int_str, isi_int_lst, isi_int_tup, isi_str_bl, isi_str_int, isi_str_str, isi_str_lst, isi_str_tup, isi_lst_bl, isi_lst_int, isi_lst_str, isi_lst_lst, isi_lst_tup, isi_tup_bl, isi_tup_int, isi_tup_str, isi_tup_lst, isi_tup_tup, isi_dct_bl, isi_dct_int, isi_dct_str, isi_dct_lst, isi_dct_tup, Kd_non, Kd_bl, Kd_int, Kd_str, sc_non_non, sc_non_int, sc_int_non, sc_non_bl, sc_bl_non, sc_non_str, sc_str_non, sc_int_int, sc_bl_bl, sc_str_str, sc_int_str, sc_str_int, sc_bl_str, sc_str_bl, decide_true, decide_false, tFor_eq, iList, iTup, iRng1, iRng2, iRng3, rIndexT, tBM0, tBMT, tyK_int, tyK_bool, tyK_str, tyK_list, tyK_tuple, L2.start, cxK, Int.reduceToNat, List.map_cons, List.map_nil, List.length_cons, List.length_nil, Nat.reduceAdd, Nat.reduceSub, Nat.zero_add, List.replicate_succ, List.replicate_zero, List.cons_append, List.nil_append, List.append_nil, List.getElem?_cons_zero, List.getElem?_cons_succ, List.set_cons_zero, List.set_cons_succ, Option.some.injEq, V.int.injEq, V.bl.injEq, V.ref.injEq, V.str.injEq, V.ty.injEq, List.cons.injEq, exists_eq_left', exists_eq_left, exists_eq_right, exists_and_left, exists_and_right, and_true, true_and, and_assoc, exists_const, decide_eq_true_eq, Bool.not_eq_true', Bool.not_true, Bool.not_false, Bool.not_not, decide_eq_false_iff_not, ite_not, Bool.false_eq_true, if_true, if_false, reduceCtorEq, and_false, false_and, exists_false, or_false, false_or, ↓reduceIte, eq_self, reduceIte]
    refine spIsWhole_of kd ⟨_, rfl, ?_⟩
    rw [wholeK_ne hk, if_neg (by decide)]
    exact q
  | @int i =>
    simp only [tTurn, rTurnT, tTryS, rCountT, rPop, rRep, tCont, iZipT, tChain3, tFld, sFld, tMake, tMake0, tMethD, tBM0, rUpper, tDict1T, tTryN, rSlS, rMulS, rCatS, iZipL, rInsert, rReverse, tDNewX, tTry, tRaise, iEnumL, iEnumT, iZip, iSeq, iOr, rIx, iStr, rLeS, rJoin, rSlTA, tComp_eq, tComp1, slots, Option.getD_some, Option.getD_none, tYes, tSeq, tAsg, gName, tOp, tUn, tC, tVar, tCB, tCons, tNil, tCall, rI, rI0, rU, tRet, tRetN, tIfS, tTest, tB, tAnd, tOr, tNot, tAndV, tOrV, tNotV, tIf, tChain, tMenu, tPar, tDrop, tTup, tLst, tNext, tSl, tPart, tNoPart, tNever, gTup, gCons, gNil, gSub, rSetL, tBM, rAppend, rEq, rNe, rIsi, rIxL, rIxT, rIxS, rSlL, isi_non_bl, isi_non_int, isi_non_str, isi_non_lst, isi_non_tup, isi_bl_bl, isi_bl_int, isi_bl_str, isi_bl_lst, isi_bl_tup, isi_int_bl, isi_int_int, isi_int_str, isi_int_lst, isi_int_tup, isi_str_bl, isi_str_int, isi_str_str, isi_str_lst, isi_str_tup, isi_lst_bl, isi_lst_int, isi_lst_str, isi_lst_lst, isi_lst_tup, isi_tup_bl, isi_tup_int, isi_tup_str, isi_tup_lst, isi_tup_tup, isi_dct_bl, isi_dct_int, isi_dct_str, isi_dct_lst, isi_dct_tup, Kd_non, Kd_bl, Kd_int, Kd_str, sc_non_non, sc_non_int, sc_int_non, sc_non_bl, sc_bl_non, sc_non_str, sc_str_non, sc_int_int, sc_bl_bl, sc_str_str, sc_int_str, sc_str_int, sc_bl_str, sc_str_bl, decide_true, decide_false, tFor_eq, iList, iTup, iRng1, iRng2, iRng3, rIndexT, tBM0, tBMT, tyK_int, tyK_bool, tyK_str, tyK_list, tyK_tuple, L2.start, cxK, Int.reduceToNat, List.map_cons, List.map_nil, List.length_cons, List.length_nil, Nat.reduceAdd, Nat.reduceSub, Nat.zero_add, List.replicate_succ, List.replicate_zero, List.cons_append, List.nil_append, List.append_nil, List.getElem?_cons_zero, List.getElem?_cons_succ, List.set_cons_zero, List.set_cons_succ, Option.some.injEq, V.int.injEq, V.bl.injEq, V.ref.injEq, V.str.injEq, V.ty.injEq, List.cons.injEq, exists_eq_left', exists_eq_left, exists_eq_right, exists_and_left, exists_and_right, and_true, true_and, and_assoc, exists_const, decide_eq_true_eq, Bool.not_eq_true', Bool.not_true, Bool.not_false, Bool.not_not, decide_eq_false_iff_not, ite_not, Bool.false_eq_true, if_true, if_false, reduceCtorEq, and_false, false_and, exists_false, or_false, false_or, ↓reduceIte, eq_self, reduceIte]
    refine spIsWhole_of (show Kd K H (.int i) .int from rfl) ⟨_, rfl, ?_⟩
    rw [if_pos (by decide)]
    by_cases h0 : 1 ≤ i
    · rw [if_pos h0]
      have : decide (1 ≤ i ∧ i ≤ 10 ^ 12) = decide (i ≤ 10 ^ 12) := by simp [h0]
      rw [this] at q
      exact ⟨cpow, q⟩
    · rw [if_neg h0]
      have : decide (1 ≤ i ∧ i ≤ 10 ^ 12) = false := by simp [h0]
      rw [this] at q
      exact q
theorem whole_in {K : PySem.W.Frag} {H : Hp} {x : V} {k : Kn} (m : Nat) (h : Kd K H x k) : (k = .int ∧ ∃ i, x = .int i) ∨ (wholeK k = false ∧ inI m x = false) := by
  by_cases e : k = .int
  · subst e
    exact .inl ⟨rfl, kd_int h⟩
  · refine .inr ⟨wholeK_ne e, ?_⟩
    cases x with
    | int i => exact absurd h e
    | _ => rfl
theorem ok_are_inputs (F : Fun K "are_inputs" "are_inputs" s_are_inputs f fd) (M : Mg mg) (C_is_whole : Cal P w K mg base CX0 "is_whole" 1 ["thing"] (spIsWhole K)) : FnOk P w K mg base CX0 2 f fd ["thing", "many"] (spAreInputs K) := by
  refine F.ok sc_are_inputs (fun vs H Q E h => ?_) (fun cdv A outer s H vs Q E hr h => ?_)
  · obtain ⟨v, b, many, rfl, _⟩ := h
    rfl
  obtain ⟨v, b, many, rfl, N, q⟩ := h
  refine ⟨_, (@pss_cons _ _ _ _ _ (@ps_if _ _ _ _ _ _ _ _ (@PW.pt _ _ _ (@pw_or _ _ _ _ _ _ _ (@pt_not _ _ _ _ (@pt_val _ _ _ (@pe_callB _ _ _ _ _ _ _ _ _ call_isi g_are_inputs_isinstance M.m_isinstance b_isinstance (@pa_cons _ _ _ _ _ (@pe_var _ 0 _ _ rfl v_are_inputs_0 dn_thing dc_thing) (@pa_cons _ _ _ _ _ (@pe_bltn _ _ (.ty "tuple") _ _ g_are_inputs_tuple M.m_tuple b_tuple rfl nn_tuple dn_tuple) (@pa_nil _) (star1 rfl)) (star1 rfl)) nn_isinstance dn_isinstance (star1 rfl) (nost1 rfl nost0)) (test1 rfl))) (@pw_or1 _ _ _ _ (@pt_cmpR _ _ _ _ _ _ _ _ (@op_gt _) (@pe_callB _ _ _ _ _ _ _ _ _ call_len_seq g_are_inputs_len M.m_len b_len (@pa_cons _ _ _ _ _ (@pe_var _ 0 _ _ rfl v_are_inputs_0 dn_thing dc_thing) (@pa_nil _) (star1 rfl)) nn_len dn_len (star1 rfl) nost0) (@pe_int _ _ _ _) (nomark _))))) (@pss_one _ _ _ (@ps_ret _ _ _ _ (@pe_bl _ _ _ _))) (@pss_nil _)) (@pss_cons _ _ _ _ _ (@ps_if _ _ _ _ _ _ _ _ (@pt_not _ _ _ _ (@pt_val _ _ _ (@pe_callB _ _ _ _ _ _ _ _ _ (call_all1 rfl) g_are_inputs_all M.m_all b_all (@pa_cons _ _ _ _ _ (@pe_comp _ _ _ _ _ _ _ _ _ _ _ _ _ _ _ rfl (CompOk.make (N' := ["many", "place"]) (ix := [1]) (nl := 1) (by rfl) (fm1 rfl fm0) (by rfl) (by decide +kernel) rfl (by decide +kernel) rfl (And.intro ⟨rfl, .inl rfl, .inl rfl⟩ True.intro)) (@pi_tup _ _ _ _ (@pe_var _ 0 _ _ rfl v_are_inputs_0 dn_thing dc_thing)) (fun _ _ _ _ _ => (@pg_name _ _ 1 _ (show List.Nodup (["many", "place"] : List Str) from by decide) rfl (Or.inl rfl) (by first | exact .inl rfl | exact .inr rfl | assumption))) (fun _ _ _ _ _ => (@pif_nil _)) (fun _ _ _ _ _ => (@pe_and _ _ _ _ _ _ _ (@pe_callC _ _ _ _ _ _ _ _ _ _ _ C_is_whole hr rfl (@pa_cons _ _ _ _ _ (@pv _ 1 _ _ (by rfl) (by first | exact Or.inl rfl | exact Or.inr (Or.inl rfl) | exact Or.inr (Or.inr rfl)) (by decide) (by decide)) (@pa_nil _) (star1 rfl)) (by decide) dn_is_whole (star1 rfl) nost0) (@pe_one _ _ _ _ _ (@pe_chain _ _ _ _ _ _ _ _ _ _ _ _ op_le (@op_lt _) (@pe_int _ _ _ _) (@pv _ 1 _ _ (by rfl) (by first | exact Or.inl rfl | exact Or.inr (Or.inl rfl) | exact Or.inr (Or.inr rfl)) (by decide) (by decide)) (@pv _ 0 _ _ (by rfl) (by first | exact Or.inl rfl | exact Or.inr (Or.inl rfl) | exact Or.inr (Or.inr rfl)) (by decide) (by decide)) (by with_unfolding_all rfl))))) (by intro _; rfl)) (@pa_nil _) (star1 rfl)) nn_all dn_all (star1 rfl) nost0) (test1 rfl))) (@pss_one _ _ _ (@ps_ret _ _ _ _ (@pe_bl _ _ _ _))) (@pss_nil _)) (@pss_one _ _ _ (@ps_ret _ _ _ _ (@pe_callB _ _ _ _ _ _ _ _ _ (call_all1 rfl) g_are_inputs_all M.m_all b_all (@pa_cons _ _ _ _ _ (@pe_comp _ _ _ _ _ _ _ _ _ _ _ _ _ _ _ rfl (CompOk.make (N' := ["thing", "place"]) (ix := [0]) (nl := 1) (by rfl) (fm1 rfl fm0) (by rfl) (by decide +kernel) rfl (by decide +kernel) rfl (And.intro ⟨rfl, .inl rfl, .inl rfl⟩ True.intro)) (@pi_tup _ _ _ _ (@pe_var _ 0 _ _ rfl v_are_inputs_0 dn_thing dc_thing)) (fun _ _ _ _ _ => (@pg_name _ _ 1 _ (show List.Nodup (["thing", "place"] : List Str) from by decide) rfl (Or.inl rfl) (by first | exact .inl rfl | exact .inr rfl | assumption))) (fun _ _ _ _ _ => (@pif_nil _)) (fun _ _ _ _ _ => (@pe_cmpR _ _ _ _ _ _ _ _ (@op_eq _) (@pe_bmTK _ K _ _ _ _ _ _ _ _ _ _ rfl PySem.F.slot_tuple_count PySem.F.type_tuple_count mt_countT (@pv _ 0 _ _ (by rfl) (by first | exact Or.inl rfl | exact Or.inr (Or.inl rfl) | exact Or.inr (Or.inr rfl)) (by decide) (by decide)) (@pa_cons _ _ _ _ _ (@pv _ 1 _ _ (by rfl) (by first | exact Or.inl rfl | exact Or.inr (Or.inl rfl) | exact Or.inr (Or.inr rfl)) (by decide) (by decide)) (@pa_nil _) (star1 rfl)) (by rfl) (by rfl) (by rfl) (by rfl) (by rfl)) (@pe_int _ _ _ _) (nomark _))) (by intro _; rfl)) (@pa_nil _) (star1 rfl)) nn_all dn_all (star1 rfl) nost0))))), ?_⟩
  cases N with
  | no kd hk =>
    simp only [tTurn, rTurnT, tTryS, rCountT, rPop, rRep, tCont, iZipT, tChain3, tFld, sFld, tMake, tMake0, tMethD, tBM0, rUpper, tDict1T, tTryN, rSlS, rMulS, rCatS, iZipL, rInsert, rReverse, tDNewX, tTry, tRaise, iEnumL, iEnumT, iZip, iSeq, iOr, rIx, iStr, rLeS, rJoin, rSlTA, tComp_eq, tComp1, slots, Option.getD_some, Option.getD_none, tYes, tSeq, tAsg, gName, tOp, tUn, tC, tVar, tCB, tCons, tNil, tCall, rI, rI0, rU, tRet, tRetN, tIfS, tTest, tB, tAnd, tOr, tNot, tAndV, tOrV, tNotV, tIf, tChain, tMenu, tPar, tDrop, tTup, tLst, tNext, tSl, tPart, tNoPart, tNever, gTup, gCons, gNil, gSub, rSetL, tBM, rAppend, rEq, rNe, rIsi, rIxL, rIxT, rIxS, rSlL, isi_non_bl, isi_non_int, isi_non_str, isi_non_lst, isi_non_tup, isi_bl_bl, isi_bl_int, isi_bl_str, isi_bl_lst, isi_bl_tup, isi_int_bl, isi_int_int, isi_int_str, isi_int_lst, isi_int_tup, isi_str_bl, isi_str_int, isi_str_str, isi_str_lst, isi_str_tup, isi_lst_bl, isi_lst_int, isi_lst_str, isi_lst_lst, isi_lst_tup, isi_tup_bl, isi_tup_int, isi_tup_str, isi_tup_lst, isi_tup_tup, isi_dct_bl, isi_dct_int, isi_dct_str, isi_dct_lst, isi_dct_tup, Kd_non, Kd_bl, Kd_int, Kd_str, sc_non_non, sc_non_int, sc_int_non, sc_non_bl, sc_bl_non, sc_non_str, sc_str_non, sc_int_int, sc_bl_bl, sc_str_str, sc_int_str, sc_str_int, sc_bl_str, sc_str_bl, decide_true, decide_false, tFor_eq, iList, iTup, iRng1, iRng2, iRng3, rIndexT, tBM0, tBMT, tyK_int, tyK_bool, tyK_str, tyK_list, tyK_tuple, L2.start, cxK, Int.reduceToNat, List.map_cons, List.map_nil, List.length_cons, List.length_nil, Nat.reduceAdd, Nat.reduceSub, Nat.zero_add, List.replicate_succ, List.replicate_zero, List.cons_append, List.nil_append, List.append_nil, List.getElem?_cons_zero, List.getElem?_cons_succ, List.set_cons_zero, List.set_cons_succ, Option.some.injEq, V.int.injEq, V.bl.injEq, V.ref.injEq, V.str.injEq, V.ty.injEq, List.cons.injEq, exists_eq_left', exists_eq_left, exists_eq_right, exists_and_left, exists_and_right, and_true, true_and, and_assoc, exists_const, decide_eq_true_eq, Bool.not_eq_true', Bool.not_true, Bool.not_false, Bool.not_not, decide_eq_false_iff_not, ite_not, Bool.false_eq_true, if_true, if_false, reduceCtorEq, and_false, false_and, exists_false, or_false, false_or, ↓reduceIte, eq_self, reduceIte]
    refine ⟨_, kd, ?_⟩
    rw [if_pos (isi_tup_ne hk)]
    exact q _ (Same.refl _)
  | @odd p xs T kn bad =>
    simp only [tTurn, rTurnT, tTryS, rCountT, rPop, rRep, tCont, iZipT, tChain3, tFld, sFld, tMake, tMake0, tMethD, tBM0, rUpper, tDict1T, tTryN, rSlS, rMulS, rCatS, iZipL, rInsert, rReverse, tDNewX, tTry, tRaise, iEnumL, iEnumT, iZip, iSeq, iOr, rIx, iStr, rLeS, rJoin, rSlTA, tComp_eq, tComp1, slots, Option.getD_some, Option.getD_none, tYes, tSeq, tAsg, gName, tOp, tUn, tC, tVar, tCB, tCons, tNil, tCall, rI, rI0, rU, tRet, tRetN, tIfS, tTest, tB, tAnd, tOr, tNot, tAndV, tOrV, tNotV, tIf, tChain, tMenu, tPar, tDrop, tTup, tLst, tNext, tSl, tPart, tNoPart, tNever, gTup, gCons, gNil, gSub, rSetL, tBM, rAppend, rEq, rNe, rIsi, rIxL, rIxT, rIxS, rSlL, isi_non_bl, isi_non_int, isi_non_str, isi_non_lst, isi_non_tup, isi_bl_bl, isi_bl_int, isi_bl_str, isi_bl_lst, isi_bl_tup, isi_int_bl, isi_int_int, isi_int_str, isi_int_lst, isi_int_tup, isi_str_bl, isi_str_int, isi_str_str, isi_str_lst, isi_str_tup, isi_lst_bl, isi_lst_int, isi_lst_str, isi_lst_lst, isi_lst_tup, isi_tup_bl, isi_tup_int, isi_tup_str, isi_tup_lst, isi_tup_tup, isi_dct_bl, isi_dct_int, isi_dct_str, isi_dct_lst, isi_dct_tup, Kd_non, Kd_bl, Kd_int, Kd_str, sc_non_non, sc_non_int, sc_int_non, sc_non_bl, sc_bl_non, sc_non_str, sc_str_non, sc_int_int, sc_bl_bl, sc_str_str, sc_int_str, sc_str_int, sc_bl_str, sc_str_bl, decide_true, decide_false, tFor_eq, iList, iTup, iRng1, iRng2, iRng3, rIndexT, tBM0, tBMT, tyK_int, tyK_bool, tyK_str, tyK_list, tyK_tuple, L2.start, cxK, Int.reduceToNat, List.map_cons, List.map_nil, List.length_cons, List.length_nil, Nat.reduceAdd, Nat.reduceSub, Nat.zero_add, List.replicate_succ, List.replicate_zero, List.cons_append, List.nil_append, List.append_nil, List.getElem?_cons_zero, List.getElem?_cons_succ, List.set_cons_zero, List.set_cons_succ, Option.some.injEq, V.int.injEq, V.bl.injEq, V.ref.injEq, V.str.injEq, V.ty.injEq, List.cons.injEq, exists_eq_left', exists_eq_left, exists_eq_right, exists_and_left, exists_and_right, and_true, true_and, and_assoc, exists_const, decide_eq_true_eq, Bool.not_eq_true', Bool.not_true, Bool.not_false, Bool.not_not, decide_eq_false_iff_not, ite_not, Bool.false_eq_true, if_true, if_false, reduceCtorEq, and_false, false_and, exists_false, or_false, false_or, ↓reduceIte, eq_self, reduceIte]
    refine ⟨_, Kd.tup T, ?_⟩
    rw [if_neg (by decide)]
    refine ⟨_, .inr T, ?_⟩
    by_cases h4 : 4 < (xs.length : Int)
    · rw [if_pos h4]
      exact q _ (Same.refl _)
    rw [if_neg h4]
    rw [decide_eq_true (show xs.length ≤ 4 by omega), Bool.true_and] at bad
    refine ⟨⟨_, T⟩, fun D hD => ?_⟩
    obtain ⟨Pc, hC⟩ : ∃ Pc : Nat → St → Hp → Prop, Pc = fun i τ H' => ∃ z, H' D = some (.lst (((xs.map (inI many)).take i).map V.bl)) ∧ Same H H' ∧ τ = [some (.int many), z] := ⟨_, rfl⟩
    refine compS_tup xs Pc ?_ (fun i τ H' _ h => by rw [hC] at h; obtain ⟨z, _, e, _⟩ := h; exact Same.tup e T) ?_ ?_
    · rw [hC]
      exact ⟨_, upd_same, same_new hD _, rfl⟩
    · intro i x τ H' R hx h next
      rw [hC] at h
      obtain ⟨z, d1, d2, rfl⟩ := h
      have li : i < xs.length := (List.getElem?_eq_some_iff.mp hx).1
      have key : ∃ ys, H' D = some (.lst ys) ∧ ys.length < sizeLine ∧ R [some (.int many), some x] (upd H' D (.lst (ys ++ [.bl (inI many x)]))) := by
        refine ⟨_, d1, ?_, next _ _ ?_⟩
        · rw [List.length_map, List.length_take, List.length_map]
          exact Nat.lt_of_lt_of_le (m := 64) (by omega) (by decide)
        · rw [hC]
          refine ⟨_, ?_, same_upd d2 hD _, rfl⟩
          rw [upd_same, List.take_add_one, List.getElem?_map, hx, List.map_append]
          rfl
      obtain ⟨k, kd⟩ := (kn x (List.mem_of_getElem? hx)).same d2
      rcases whole_in many kd with ⟨rfl, j, rfl⟩ | ⟨e1, e2⟩
      · simp only [tTurn, rTurnT, tTryS, rCountT, rPop, rRep, tCont, iZipT, tChain3, tFld, sFld, tMake, tMake0, tMethD, tBM0, rUpper, tDict1T, tTryN, rSlS, rMulS, rCatS, iZipL, rInsert, rReverse, tDNewX, tTry, tRaise, iEnumL, iEnumT, iZip, iSeq, iOr, rIx, iStr, rLeS, rJoin, rSlTA, tComp_eq, tComp1, slots, Option.getD_some, Option.getD_none, tYes, tSeq, tAsg, gName, tOp, tUn, tC, tVar, tCB, tCons, tNil, tCall, rI, rI0, rU, tRet, tRetN, tIfS, tTest, tB, tAnd, tOr, tNot, tAndV, tOrV, tNotV, tIf, tChain, tMenu, tPar, tDrop, tTup, tLst, tNext, tSl, tPart, tNoPart, tNever, gTup, gCons, gNil, gSub, rSetL, tBM, rAppend, rEq, rNe, rIsi, rIxL, rIxT, rIxS, rSlL, isi_non_bl, isi_non_int, isi_non_str, isi_non_lst, isi_non_tup, isi_bl_bl, isi_bl_int, isi_bl_str, isi_bl_lst, isi_bl_tup, isi_int_bl, isi_int_int, isi_int_str, isi_int_lst, isi_int_tup, isi_str_bl, isi_str_int, isi_str_str, isi_str_lst, isi_str_tup, isi_lst_bl, isi_lst_int, isi_lst_str, isi_lst_lst, isi_lst_tup, isi_tup_bl, isi_tup_int, isi_tup_str, isi_tup_lst, isi_tup_tup, isi_dct_bl, isi_dct_int, isi_dct_str, isi_dct_lst, isi_dct_tup, Kd_non, Kd_bl, Kd_int, Kd_str, sc_non_non, sc_non_int, sc_int_non, sc_non_bl, sc_bl_non, sc_non_str, sc_str_non, sc_int_int, sc_bl_bl, sc_str_str, sc_int_str, sc_str_int, sc_bl_str, sc_str_bl, decide_true, decide_false, tFor_eq, iList, iTup, iRng1, iRng2, iRng3, rIndexT, tBM0, tBMT, tyK_int, tyK_bool, tyK_str, tyK_list, tyK_tuple, L2.start, cxK, Int.reduceToNat, List.map_cons, List.map_nil, List.length_cons, List.length_nil, Nat.reduceAdd, Nat.reduceSub, Nat.zero_add, List.replicate_succ, List.replicate_zero, List.cons_append, List.nil_append, List.append_nil, List.getElem?_cons_zero, List.getElem?_cons_succ, List.set_cons_zero, List.set_cons_succ, Option.some.injEq, V.int.injEq, V.bl.injEq, V.ref.injEq, V.str.injEq, V.ty.injEq, List.cons.injEq, exists_eq_left', exists_eq_left, exists_eq_right, exists_and_left, exists_and_right, and_true, true_and, and_assoc, exists_const, decide_eq_true_eq, Bool.not_eq_true', Bool.not_true, Bool.not_false, Bool.not_not, decide_eq_false_iff_not, ite_not, Bool.false_eq_true, if_true, if_false, reduceCtorEq, and_false, false_and, exists_false, or_false, false_or, ↓reduceIte, eq_self, reduceIte]
        refine spIsWhole_of kd ⟨_, rfl, ?_⟩
        rw [if_pos (by decide)]
        have ei : inI many (.int j) = (decide (0 ≤ j) && decide (j < (many : Int))) := by
          show decide (0 ≤ j ∧ j < (many : Int)) = _
          by_cases a : 0 ≤ j <;> by_cases b : j < (many : Int) <;> simp [a, b]
        rw [ei] at key
        by_cases h1 : 0 ≤ j
        · rw [decide_eq_true h1, Bool.true_and] at key
          rw [if_pos h1]
          exact key
        · rw [decide_eq_false h1, Bool.false_and] at key
          rw [if_neg h1]
          exact key
      · simp only [tTurn, rTurnT, tTryS, rCountT, rPop, rRep, tCont, iZipT, tChain3, tFld, sFld, tMake, tMake0, tMethD, tBM0, rUpper, tDict1T, tTryN, rSlS, rMulS, rCatS, iZipL, rInsert, rReverse, tDNewX, tTry, tRaise, iEnumL, iEnumT, iZip, iSeq, iOr, rIx, iStr, rLeS, rJoin, rSlTA, tComp_eq, tComp1, slots, Option.getD_some, Option.getD_none, tYes, tSeq, tAsg, gName, tOp, tUn, tC, tVar, tCB, tCons, tNil, tCall, rI, rI0, rU, tRet, tRetN, tIfS, tTest, tB, tAnd, tOr, tNot, tAndV, tOrV, tNotV, tIf, tChain, tMenu, tPar, tDrop, tTup, tLst, tNext, tSl, tPart, tNoPart, tNever, gTup, gCons, gNil, gSub, rSetL, tBM, rAppend, rEq, rNe, rIsi, rIxL, rIxT, rIxS, rSlL, isi_non_bl, isi_non_int, isi_non_str, isi_non_lst, isi_non_tup, isi_bl_bl, isi_bl_int, isi_bl_str, isi_bl_lst, isi_bl_tup, isi_int_bl, isi_int_int, isi_int_str, isi_int_lst, isi_int_tup, isi_str_bl, isi_str_int, isi_str_str, isi_str_lst, isi_str_tup, isi_lst_bl, isi_lst_int, isi_lst_str, isi_lst_lst, isi_lst_tup, isi_tup_bl, isi_tup_int, isi_tup_str, isi_tup_lst, isi_tup_tup, isi_dct_bl, isi_dct_int, isi_dct_str, isi_dct_lst, isi_dct_tup, Kd_non, Kd_bl, Kd_int, Kd_str, sc_non_non, sc_non_int, sc_int_non, sc_non_bl, sc_bl_non, sc_non_str, sc_str_non, sc_int_int, sc_bl_bl, sc_str_str, sc_int_str, sc_str_int, sc_bl_str, sc_str_bl, decide_true, decide_false, tFor_eq, iList, iTup, iRng1, iRng2, iRng3, rIndexT, tBM0, tBMT, tyK_int, tyK_bool, tyK_str, tyK_list, tyK_tuple, L2.start, cxK, Int.reduceToNat, List.map_cons, List.map_nil, List.length_cons, List.length_nil, Nat.reduceAdd, Nat.reduceSub, Nat.zero_add, List.replicate_succ, List.replicate_zero, List.cons_append, List.nil_append, List.append_nil, List.getElem?_cons_zero, List.getElem?_cons_succ, List.set_cons_zero, List.set_cons_succ, Option.some.injEq, V.int.injEq, V.bl.injEq, V.ref.injEq, V.str.injEq, V.ty.injEq, List.cons.injEq, exists_eq_left', exists_eq_left, exists_eq_right, exists_and_left, exists_and_right, and_true, true_and, and_assoc, exists_const, decide_eq_true_eq, Bool.not_eq_true', Bool.not_true, Bool.not_false, Bool.not_not, decide_eq_false_iff_not, ite_not, Bool.false_eq_true, if_true, if_false, reduceCtorEq, and_false, false_and, exists_false, or_false, false_or, ↓reduceIte, eq_self, reduceIte]
        refine spIsWhole_of kd ⟨_, rfl, ?_⟩
        rw [e1, if_neg (by decide)]
        rw [e2] at key
        exact key
    intro τ H' h
    rw [hC] at h
    obtain ⟨z, d1, d2, rfl⟩ := h
    rw [List.take_of_length_le (by rw [List.length_map]; exact Nat.le_refl _)] at d1
    refine ⟨_, rfl, _, SqL.of d1, ?_⟩
    have e : (xs.map (inI many)).all id = false := by
      rw [List.all_map]
      exact bad
    rw [e, if_pos (by decide)]
    exact q _ d2
  | @nums p is ti l4 iin =>
    obtain ⟨xs, hxs⟩ : ∃ xs, xs = is.map V.int := ⟨_, rfl⟩
    have T : SqT K H p xs := by
      rw [hxs]
      exact SqT.of ti
    have kn : ∀ x ∈ xs, Knd K H x := by
      rw [hxs]
      exact knd_ints is
    have lx : xs.length = is.length := by rw [hxs, List.length_map]
    simp only [tTurn, rTurnT, tTryS, rCountT, rPop, rRep, tCont, iZipT, tChain3, tFld, sFld, tMake, tMake0, tMethD, tBM0, rUpper, tDict1T, tTryN, rSlS, rMulS, rCatS, iZipL, rInsert, rReverse, tDNewX, tTry, tRaise, iEnumL, iEnumT, iZip, iSeq, iOr, rIx, iStr, rLeS, rJoin, rSlTA, tComp_eq, tComp1, slots, Option.getD_some, Option.getD_none, tYes, tSeq, tAsg, gName, tOp, tUn, tC, tVar, tCB, tCons, tNil, tCall, rI, rI0, rU, tRet, tRetN, tIfS, tTest, tB, tAnd, tOr, tNot, tAndV, tOrV, tNotV, tIf, tChain, tMenu, tPar, tDrop, tTup, tLst, tNext, tSl, tPart, tNoPart, tNever, gTup, gCons, gNil, gSub, rSetL, tBM, rAppend, rEq, rNe, rIsi, rIxL, rIxT, rIxS, rSlL, isi_non_bl, isi_non_int, isi_non_str, isi_non_lst, isi_non_tup, isi_bl_bl, isi_bl_int, isi_bl_str, isi_bl_lst, isi_bl_tup, isi_int_bl, isi_int_int, isi_int_str, isi_int_lst, isi_int_tup, isi_str_bl, isi_str_int, isi_str_str, isi_str_lst, isi_str_tup, isi_lst_bl, isi_lst_int, isi_lst_str, isi_lst_lst, isi_lst_tup, isi_tup_bl, isi_tup_int, isi_tup_str, isi_tup_lst, isi_tup_tup, isi_dct_bl, isi_dct_int, isi_dct_str, isi_dct_lst, isi_dct_tup, Kd_non, Kd_bl, Kd_int, Kd_str, sc_non_non, sc_non_int, sc_int_non, sc_non_bl, sc_bl_non, sc_non_str, sc_str_non, sc_int_int, sc_bl_bl, sc_str_str, sc_int_str, sc_str_int, sc_bl_str, sc_str_bl, decide_true, decide_false, tFor_eq, iList, iTup, iRng1, iRng2, iRng3, rIndexT, tBM0, tBMT, tyK_int, tyK_bool, tyK_str, tyK_list, tyK_tuple, L2.start, cxK, Int.reduceToNat, List.map_cons, List.map_nil, List.length_cons, List.length_nil, Nat.reduceAdd, Nat.reduceSub, Nat.zero_add, List.replicate_succ, List.replicate_zero, List.cons_append, List.nil_append, List.append_nil, List.getElem?_cons_zero, List.getElem?_cons_succ, List.set_cons_zero, List.set_cons_succ, Option.some.injEq, V.int.injEq, V.bl.injEq, V.ref.injEq, V.str.injEq, V.ty.injEq, List.cons.injEq, exists_eq_left', exists_eq_left, exists_eq_right, exists_and_left, exists_and_right, and_true, true_and, and_assoc, exists_const, decide_eq_true_eq, Bool.not_eq_true', Bool.not_true, Bool.not_false, Bool.not_not, decide_eq_false_iff_not, ite_not, Bool.false_eq_true, if_true, if_false, reduceCtorEq, and_false, false_and, exists_false, or_false, false_or, ↓reduceIte, eq_self, reduceIte]
    refine ⟨_, Kd.tup T, ?_⟩
    rw [if_neg (by decide)]
    refine ⟨_, .inr T, ?_⟩
    have h4 : ¬ 4 < (xs.length : Int) := by omega
    rw [if_neg h4]
    refine ⟨⟨_, T⟩, fun D hD => ?_⟩
    obtain ⟨Pc, hC⟩ : ∃ Pc : Nat → St → Hp → Prop, Pc = fun i τ H' => ∃ z, H' D = some (.lst (((xs.map (inI many)).take i).map V.bl)) ∧ Same H H' ∧ τ = [some (.int many), z] := ⟨_, rfl⟩
    refine compS_tup xs Pc ?_ (fun i τ H' _ h => by rw [hC] at h; obtain ⟨z, _, e, _⟩ := h; exact Same.tup e T) ?_ ?_
    · rw [hC]
      exact ⟨_, upd_same, same_new hD _, rfl⟩
    · intro i x τ H' R hx h next
      rw [hC] at h
      obtain ⟨z, d1, d2, rfl⟩ := h
      have li : i < xs.length := (List.getElem?_eq_some_iff.mp hx).1
      have key : ∃ ys, H' D = some (.lst ys) ∧ ys.length < sizeLine ∧ R [some (.int many), some x] (upd H' D (.lst (ys ++ [.bl (inI many x)]))) := by
        refine ⟨_, d1, ?_, next _ _ ?_⟩
        · rw [List.length_map, List.length_take, List.length_map]
          exact Nat.lt_of_lt_of_le (m := 64) (by omega) (by decide)
        · rw [hC]
          refine ⟨_, ?_, same_upd d2 hD _, rfl⟩
          rw [upd_same, List.take_add_one, List.getElem?_map, hx, List.map_append]
          rfl
      obtain ⟨k, kd⟩ := (kn x (List.mem_of_getElem? hx)).same d2
      rcases whole_in many kd with ⟨rfl, j, rfl⟩ | ⟨e1, e2⟩
      · simp only [tTurn, rTurnT, tTryS, rCountT, rPop, rRep, tCont, iZipT, tChain3, tFld, sFld, tMake, tMake0, tMethD, tBM0, rUpper, tDict1T, tTryN, rSlS, rMulS, rCatS, iZipL, rInsert, rReverse, tDNewX, tTry, tRaise, iEnumL, iEnumT, iZip, iSeq, iOr, rIx, iStr, rLeS, rJoin, rSlTA, tComp_eq, tComp1, slots, Option.getD_some, Option.getD_none, tYes, tSeq, tAsg, gName, tOp, tUn, tC, tVar, tCB, tCons, tNil, tCall, rI, rI0, rU, tRet, tRetN, tIfS, tTest, tB, tAnd, tOr, tNot, tAndV, tOrV, tNotV, tIf, tChain, tMenu, tPar, tDrop, tTup, tLst, tNext, tSl, tPart, tNoPart, tNever, gTup, gCons, gNil, gSub, rSetL, tBM, rAppend, rEq, rNe, rIsi, rIxL, rIxT, rIxS, rSlL, isi_non_bl, isi_non_int, isi_non_str, isi_non_lst, isi_non_tup, isi_bl_bl, isi_bl_int, isi_bl_str, isi_bl_lst, isi_bl_tup, isi_int_bl, isi_int_int, isi_int_str, isi_int_lst, isi_int_tup, isi_str_bl, isi_str_int, isi_str_str, isi_str_lst, isi_str_tup, isi_lst_bl, isi_lst_int, isi_lst_str, isi_lst_lst, isi_lst_tup, isi_tup_bl, isi_tup_int, isi_tup_str, isi_tup_lst, isi_tup_tup, isi_dct_bl, isi_dct_int, isi_dct_str, isi_dct_lst, isi_dct_tup, Kd_non, Kd_bl, Kd_int, Kd_str, sc_non_non, sc_non_int, sc_int_non, sc_non_bl, sc_bl_non, sc_non_str, sc_str_non, sc_int_int, sc_bl_bl, sc_str_str, sc_int_str, sc_str_int, sc_bl_str, sc_str_bl, decide_true, decide_false, tFor_eq, iList, iTup, iRng1, iRng2, iRng3, rIndexT, tBM0, tBMT, tyK_int, tyK_bool, tyK_str, tyK_list, tyK_tuple, L2.start, cxK, Int.reduceToNat, List.map_cons, List.map_nil, List.length_cons, List.length_nil, Nat.reduceAdd, Nat.reduceSub, Nat.zero_add, List.replicate_succ, List.replicate_zero, List.cons_append, List.nil_append, List.append_nil, List.getElem?_cons_zero, List.getElem?_cons_succ, List.set_cons_zero, List.set_cons_succ, Option.some.injEq, V.int.injEq, V.bl.injEq, V.ref.injEq, V.str.injEq, V.ty.injEq, List.cons.injEq, exists_eq_left', exists_eq_left, exists_eq_right, exists_and_left, exists_and_right, and_true, true_and, and_assoc, exists_const, decide_eq_true_eq, Bool.not_eq_true', Bool.not_true, Bool.not_false, Bool.not_not, decide_eq_false_iff_not, ite_not, Bool.false_eq_true, if_true, if_false, reduceCtorEq, and_false, false_and, exists_false, or_false, false_or, ↓reduceIte, eq_self, reduceIte]
        refine spIsWhole_of kd ⟨_, rfl, ?_⟩
        rw [if_pos (by decide)]
        have ei : inI many (.int j) = (decide (0 ≤ j) && decide (j < (many : Int))) := by
          show decide (0 ≤ j ∧ j < (many : Int)) = _
          by_cases a : 0 ≤ j <;> by_cases b : j < (many : Int) <;> simp [a, b]
        rw [ei] at key
        by_cases h1 : 0 ≤ j
        · rw [decide_eq_true h1, Bool.true_and] at key
          rw [if_pos h1]
          exact key
        · rw [decide_eq_false h1, Bool.false_and] at key
          rw [if_neg h1]
          exact key
      · simp only [tTurn, rTurnT, tTryS, rCountT, rPop, rRep, tCont, iZipT, tChain3, tFld, sFld, tMake, tMake0, tMethD, tBM0, rUpper, tDict1T, tTryN, rSlS, rMulS, rCatS, iZipL, rInsert, rReverse, tDNewX, tTry, tRaise, iEnumL, iEnumT, iZip, iSeq, iOr, rIx, iStr, rLeS, rJoin, rSlTA, tComp_eq, tComp1, slots, Option.getD_some, Option.getD_none, tYes, tSeq, tAsg, gName, tOp, tUn, tC, tVar, tCB, tCons, tNil, tCall, rI, rI0, rU, tRet, tRetN, tIfS, tTest, tB, tAnd, tOr, tNot, tAndV, tOrV, tNotV, tIf, tChain, tMenu, tPar, tDrop, tTup, tLst, tNext, tSl, tPart, tNoPart, tNever, gTup, gCons, gNil, gSub, rSetL, tBM, rAppend, rEq, rNe, rIsi, rIxL, rIxT, rIxS, rSlL, isi_non_bl, isi_non_int, isi_non_str, isi_non_lst, isi_non_tup, isi_bl_bl, isi_bl_int, isi_bl_str, isi_bl_lst, isi_bl_tup, isi_int_bl, isi_int_int, isi_int_str, isi_int_lst, isi_int_tup, isi_str_bl, isi_str_int, isi_str_str, isi_str_lst, isi_str_tup, isi_lst_bl, isi_lst_int, isi_lst_str, isi_lst_lst, isi_lst_tup, isi_tup_bl, isi_tup_int, isi_tup_str, isi_tup_lst, isi_tup_tup, isi_dct_bl, isi_dct_int, isi_dct_str, isi_dct_lst, isi_dct_tup, Kd_non, Kd_bl, Kd_int, Kd_str, sc_non_non, sc_non_int, sc_int_non, sc_non_bl, sc_bl_non, sc_non_str, sc_str_non, sc_int_int, sc_bl_bl, sc_str_str, sc_int_str, sc_str_int, sc_bl_str, sc_str_bl, decide_true, decide_false, tFor_eq, iList, iTup, iRng1, iRng2, iRng3, rIndexT, tBM0, tBMT, tyK_int, tyK_bool, tyK_str, tyK_list, tyK_tuple, L2.start, cxK, Int.reduceToNat, List.map_cons, List.map_nil, List.length_cons, List.length_nil, Nat.reduceAdd, Nat.reduceSub, Nat.zero_add, List.replicate_succ, List.replicate_zero, List.cons_append, List.nil_append, List.append_nil, List.getElem?_cons_zero, List.getElem?_cons_succ, List.set_cons_zero, List.set_cons_succ, Option.some.injEq, V.int.injEq, V.bl.injEq, V.ref.injEq, V.str.injEq, V.ty.injEq, List.cons.injEq, exists_eq_left', exists_eq_left, exists_eq_right, exists_and_left, exists_and_right, and_true, true_and, and_assoc, exists_const, decide_eq_true_eq, Bool.not_eq_true', Bool.not_true, Bool.not_false, Bool.not_not, decide_eq_false_iff_not, ite_not, Bool.false_eq_true, if_true, if_false, reduceCtorEq, and_false, false_and, exists_false, or_false, false_or, ↓reduceIte, eq_self, reduceIte]
        refine spIsWhole_of kd ⟨_, rfl, ?_⟩
        rw [e1, if_neg (by decide)]
        rw [e2] at key
        exact key
    intro τ H' h
    rw [hC] at h
    obtain ⟨z, d1, d2, rfl⟩ := h
    rw [List.take_of_length_le (by rw [List.length_map]; exact Nat.le_refl _)] at d1
    refine ⟨_, rfl, _, SqL.of d1, ?_⟩
    have e : (xs.map (inI many)).all id = true := by
      rw [List.all_map, hxs, List.all_eq_true]
      intro x hx
      obtain ⟨i, hi, rfl⟩ := List.mem_map.mp hx
      exact decide_eq_true (iin i hi)
    rw [e, if_neg (by decide)]
    have ti2 := d2 _ _ ti
    refine ⟨⟨_, SqT.of ti2⟩, fun D2 hD2 => ?_⟩
    obtain ⟨Pd, hE⟩ : ∃ Pd : Nat → St → Hp → Prop, Pd = fun i τ H2 => ∃ z, H2 D2 = some (.lst (((is.map fun i => decide (is.count i = 1)).take i).map V.bl)) ∧ Same H' H2 ∧ τ = [some (.ref p), z] := ⟨_, rfl⟩
    refine compS_tup (is.map V.int) Pd ?_ (fun i τ H2 _ h => by rw [hE] at h; obtain ⟨z, _, e, _⟩ := h; exact SqT.of (e _ _ ti2)) ?_ ?_
    · rw [hE]
      exact ⟨_, upd_same, same_new hD2 _, rfl⟩
    · intro i x τ H2 R hx h next
      rw [hE] at h
      obtain ⟨z, c1, c2, rfl⟩ := h
      rw [List.getElem?_map] at hx
      obtain ⟨o, ho, rfl⟩ := Option.map_eq_some_iff.mp hx
      have li := (List.getElem?_eq_some_iff.mp ho).1
      simp only [tTurn, rTurnT, tTryS, rCountT, rPop, rRep, tCont, iZipT, tChain3, tFld, sFld, tMake, tMake0, tMethD, tBM0, rUpper, tDict1T, tTryN, rSlS, rMulS, rCatS, iZipL, rInsert, rReverse, tDNewX, tTry, tRaise, iEnumL, iEnumT, iZip, iSeq, iOr, rIx, iStr, rLeS, rJoin, rSlTA, tComp_eq, tComp1, slots, Option.getD_some, Option.getD_none, tYes, tSeq, tAsg, gName, tOp, tUn, tC, tVar, tCB, tCons, tNil, tCall, rI, rI0, rU, tRet, tRetN, tIfS, tTest, tB, tAnd, tOr, tNot, tAndV, tOrV, tNotV, tIf, tChain, tMenu, tPar, tDrop, tTup, tLst, tNext, tSl, tPart, tNoPart, tNever, gTup, gCons, gNil, gSub, rSetL, tBM, rAppend, rEq, rNe, rIsi, rIxL, rIxT, rIxS, rSlL, isi_non_bl, isi_non_int, isi_non_str, isi_non_lst, isi_non_tup, isi_bl_bl, isi_bl_int, isi_bl_str, isi_bl_lst, isi_bl_tup, isi_int_bl, isi_int_int, isi_int_str, isi_int_lst, isi_int_tup, isi_str_bl, isi_str_int, isi_str_str, isi_str_lst, isi_str_tup, isi_lst_bl, isi_lst_int, isi_lst_str, isi_lst_lst, isi_lst_tup, isi_tup_bl, isi_tup_int, isi_tup_str, isi_tup_lst, isi_tup_tup, isi_dct_bl, isi_dct_int, isi_dct_str, isi_dct_lst, isi_dct_tup, Kd_non, Kd_bl, Kd_int, Kd_str, sc_non_non, sc_non_int, sc_int_non, sc_non_bl, sc_bl_non, sc_non_str, sc_str_non, sc_int_int, sc_bl_bl, sc_str_str, sc_int_str, sc_str_int, sc_bl_str, sc_str_bl, decide_true, decide_false, tFor_eq, iList, iTup, iRng1, iRng2, iRng3, rIndexT, tBM0, tBMT, tyK_int, tyK_bool, tyK_str, tyK_list, tyK_tuple, L2.start, cxK, Int.reduceToNat, List.map_cons, List.map_nil, List.length_cons, List.length_nil, Nat.reduceAdd, Nat.reduceSub, Nat.zero_add, List.replicate_succ, List.replicate_zero, List.cons_append, List.nil_append, List.append_nil, List.getElem?_cons_zero, List.getElem?_cons_succ, List.set_cons_zero, List.set_cons_succ, Option.some.injEq, V.int.injEq, V.bl.injEq, V.ref.injEq, V.str.injEq, V.ty.injEq, List.cons.injEq, exists_eq_left', exists_eq_left, exists_eq_right, exists_and_left, exists_and_right, and_true, true_and, and_assoc, exists_const, decide_eq_true_eq, Bool.not_eq_true', Bool.not_true, Bool.not_false, Bool.not_not, decide_eq_false_iff_not, ite_not, Bool.false_eq_true, if_true, if_false, reduceCtorEq, and_false, false_and, exists_false, or_false, false_or, ↓reduceIte, eq_self, reduceIte]
      refine ⟨⟨_, c2 _ _ ti2⟩, is, c2 _ _ ti2, _, c1, by rw [List.length_map, List.length_take, List.length_map]; exact Nat.lt_of_lt_of_le (m := 64) (by omega) (by decide), next _ _ ?_⟩
      rw [hE]
      refine ⟨_, ?_, same_upd c2 hD2 _, rfl⟩
      have ed : decide ((List.count o is : Int) = 1) = decide (List.count o is = 1) := by
        refine decide_eq_decide.mpr ⟨fun h => by omega, fun h => by omega⟩
      rw [upd_same, List.take_add_one, List.getElem?_map, ho, List.map_append, ed]
      rfl
    · intro τ H2 h
      rw [hE] at h
      obtain ⟨z, c1, c2, rfl⟩ := h
      rw [List.length_map, List.take_of_length_le (by rw [List.length_map]; exact Nat.le_refl _)] at c1
      refine ⟨_, rfl, _, SqL.of c1, ?_⟩
      have e3 : (is.map fun i => decide (is.count i = 1)).all id = is.all fun i => decide (is.count i = 1) := by
        rw [List.all_map]
        rfl
      rw [e3]
      exact q _ (d2.trans c2)
theorem ok_price_of_inputs (F : Fun K "price_of_inputs" "price_of_inputs" s_price_of_inputs f fd) (M : Mg mg) : FnOk P w K mg base CX0 1 f fd ["lots", "inputs"] (spPriceOf K) := by
  refine F.ok sc_price_of_inputs (fun vs H Q E h => ?_) (fun cdv A outer s H vs Q E hr h => ?_)
  · obtain ⟨a, ip, gs, is, rfl, _⟩ := h
    rfl
  obtain ⟨a, ip, gs, is, rfl, L, at_, T, l4, iin, q⟩ := h
  refine ⟨_, (@pss_one _ _ _ (@ps_ret _ _ _ _ (@pe_callB _ _ _ _ _ _ _ _ _ (call_sum1 rfl) g_price_of_inputs_sum M.m_sum b_sum (@pa_cons _ _ _ _ _ (@pe_comp _ _ _ _ _ _ _ _ _ _ _ _ _ _ _ rfl (CompOk.make (N' := ["lots", "place"]) (ix := [0]) (nl := 1) (by rfl) (fm1 rfl fm0) (by rfl) (by decide +kernel) rfl (by decide +kernel) rfl (And.intro ⟨rfl, .inl rfl, .inl rfl⟩ True.intro)) (@pi_tup _ _ _ _ (@pe_var _ 1 _ _ rfl v_price_of_inputs_1 dn_inputs dc_inputs)) (fun _ _ _ _ _ => (@pg_name _ _ 1 _ (show List.Nodup (["lots", "place"] : List Str) from by decide) rfl (Or.inl rfl) (by first | exact .inl rfl | exact .inr rfl | assumption))) (fun _ _ _ _ _ => (@pif_nil _)) (fun _ _ _ _ _ => (@pe_ix _ _ _ _ _ _ _ (ix_tupK (K := K) rfl) (@pe_ix _ _ _ _ _ _ _ (@ix_listK _ K rfl) (@pv _ 0 _ _ (by rfl) (by first | exact Or.inl rfl | exact Or.inr (Or.inl rfl) | exact Or.inr (Or.inr rfl)) (by decide) (by decide)) (@pv _ 1 _ _ (by rfl) (by first | exact Or.inl rfl | exact Or.inr (Or.inl rfl) | exact Or.inr (Or.inr rfl)) (by decide) (by decide)) (fun _ _ => rfl)) (@pe_int _ _ _ _) (fun _ _ => rfl))) (by intro _; rfl)) (@pa_nil _) (star1 rfl)) nn_sum dn_sum (star1 rfl) nost0))), ?_⟩
  simp only [tTurn, rTurnT, tTryS, rCountT, rPop, rRep, tCont, iZipT, tChain3, tFld, sFld, tMake, tMake0, tMethD, tBM0, rUpper, tDict1T, tTryN, rSlS, rMulS, rCatS, iZipL, rInsert, rReverse, tDNewX, tTry, tRaise, iEnumL, iEnumT, iZip, iSeq, iOr, rIx, iStr, rLeS, rJoin, rSlTA, tComp_eq, tComp1, slots, Option.getD_some, Option.getD_none, tYes, tSeq, tAsg, gName, tOp, tUn, tC, tVar, tCB, tCons, tNil, tCall, rI, rI0, rU, tRet, tRetN, tIfS, tTest, tB, tAnd, tOr, tNot, tAndV, tOrV, tNotV, tIf, tChain, tMenu, tPar, tDrop, tTup, tLst, tNext, tSl, tPart, tNoPart, tNever, gTup, gCons, gNil, gSub, rSetL, tBM, rAppend, rEq, rNe, rIsi, rIxL, rIxT, rIxS, rSlL, isi_non_bl, isi_non_int, isi_non_str, isi_non_lst, isi_non_tup, isi_bl_bl, isi_bl_int, isi_bl_str, isi_bl_lst, isi_bl_tup, isi_int_bl, isi_int_int, isi_int_str, isi_int_lst, isi_int_tup, isi_str_bl, isi_str_int, isi_str_str, isi_str_lst, isi_str_tup, isi_lst_bl, isi_lst_int, isi_lst_str, isi_lst_lst, isi_lst_tup, isi_tup_bl, isi_tup_int, isi_tup_str, isi_tup_lst, isi_tup_tup, isi_dct_bl, isi_dct_int, isi_dct_str, isi_dct_lst, isi_dct_tup, Kd_non, Kd_bl, Kd_int, Kd_str, sc_non_non, sc_non_int, sc_int_non, sc_non_bl, sc_bl_non, sc_non_str, sc_str_non, sc_int_int, sc_bl_bl, sc_str_str, sc_int_str, sc_str_int, sc_bl_str, sc_str_bl, decide_true, decide_false, tFor_eq, iList, iTup, iRng1, iRng2, iRng3, rIndexT, tBM0, tBMT, tyK_int, tyK_bool, tyK_str, tyK_list, tyK_tuple, L2.start, cxK, Int.reduceToNat, List.map_cons, List.map_nil, List.length_cons, List.length_nil, Nat.reduceAdd, Nat.reduceSub, Nat.zero_add, List.replicate_succ, List.replicate_zero, List.cons_append, List.nil_append, List.append_nil, List.getElem?_cons_zero, List.getElem?_cons_succ, List.set_cons_zero, List.set_cons_succ, Option.some.injEq, V.int.injEq, V.bl.injEq, V.ref.injEq, V.str.injEq, V.ty.injEq, List.cons.injEq, exists_eq_left', exists_eq_left, exists_eq_right, exists_and_left, exists_and_right, and_true, true_and, and_assoc, exists_const, decide_eq_true_eq, Bool.not_eq_true', Bool.not_true, Bool.not_false, Bool.not_not, decide_eq_false_iff_not, ite_not, Bool.false_eq_true, if_true, if_false, reduceCtorEq, and_false, false_and, exists_false, or_false, false_or, ↓reduceIte, eq_self, reduceIte]
  refine ⟨⟨_, T⟩, fun D hD => ?_⟩
  obtain ⟨Pc, hC⟩ : ∃ Pc : Nat → St → Hp → Prop, Pc = fun i τ H' => ∃ z, H' D = some (.lst (((is.map (prAt gs)).take i).map V.int)) ∧ Same H H' ∧ τ = [some (.ref a), z] := ⟨_, rfl⟩
  refine compS_tup (is.map V.int) Pc ?_ (fun i τ H' _ h => by rw [hC] at h; obtain ⟨z, _, e, _⟩ := h; exact Same.tup e T) ?_ ?_
  · rw [hC]
    exact ⟨_, upd_same, same_new hD _, rfl⟩
  · intro i x τ H' R hx h next
    rw [hC] at h
    obtain ⟨z, d1, d2, rfl⟩ := h
    rw [List.getElem?_map] at hx
    obtain ⟨o, ho, rfl⟩ := Option.map_eq_some_iff.mp hx
    have li := (List.getElem?_eq_some_iff.mp ho).1
    have oi := iin o (List.mem_of_getElem? ho)
    obtain ⟨j, hj⟩ : ∃ j : Nat, o = (j : Int) := ⟨o.toNat, by omega⟩
    subst hj
    have er : gs[j]? = some (gs[j]'(by omega)) := List.getElem?_eq_getElem _
    obtain ⟨g, hg⟩ : ∃ g, gs[j]? = some g := ⟨_, er⟩
    have ga := at_ g (List.mem_of_getElem? hg)
    have ep : prAt gs (j : Int) = g.pr := by
      unfold prAt
      rw [Int.toNat_natCast, hg]
      rfl
    simp only [tTurn, rTurnT, tTryS, rCountT, rPop, rRep, tCont, iZipT, tChain3, tFld, sFld, tMake, tMake0, tMethD, tBM0, rUpper, tDict1T, tTryN, rSlS, rMulS, rCatS, iZipL, rInsert, rReverse, tDNewX, tTry, tRaise, iEnumL, iEnumT, iZip, iSeq, iOr, rIx, iStr, rLeS, rJoin, rSlTA, tComp_eq, tComp1, slots, Option.getD_some, Option.getD_none, tYes, tSeq, tAsg, gName, tOp, tUn, tC, tVar, tCB, tCons, tNil, tCall, rI, rI0, rU, tRet, tRetN, tIfS, tTest, tB, tAnd, tOr, tNot, tAndV, tOrV, tNotV, tIf, tChain, tMenu, tPar, tDrop, tTup, tLst, tNext, tSl, tPart, tNoPart, tNever, gTup, gCons, gNil, gSub, rSetL, tBM, rAppend, rEq, rNe, rIsi, rIxL, rIxT, rIxS, rSlL, isi_non_bl, isi_non_int, isi_non_str, isi_non_lst, isi_non_tup, isi_bl_bl, isi_bl_int, isi_bl_str, isi_bl_lst, isi_bl_tup, isi_int_bl, isi_int_int, isi_int_str, isi_int_lst, isi_int_tup, isi_str_bl, isi_str_int, isi_str_str, isi_str_lst, isi_str_tup, isi_lst_bl, isi_lst_int, isi_lst_str, isi_lst_lst, isi_lst_tup, isi_tup_bl, isi_tup_int, isi_tup_str, isi_tup_lst, isi_tup_tup, isi_dct_bl, isi_dct_int, isi_dct_str, isi_dct_lst, isi_dct_tup, Kd_non, Kd_bl, Kd_int, Kd_str, sc_non_non, sc_non_int, sc_int_non, sc_non_bl, sc_bl_non, sc_non_str, sc_str_non, sc_int_int, sc_bl_bl, sc_str_str, sc_int_str, sc_str_int, sc_bl_str, sc_str_bl, decide_true, decide_false, tFor_eq, iList, iTup, iRng1, iRng2, iRng3, rIndexT, tBM0, tBMT, tyK_int, tyK_bool, tyK_str, tyK_list, tyK_tuple, L2.start, cxK, Int.reduceToNat, List.map_cons, List.map_nil, List.length_cons, List.length_nil, Nat.reduceAdd, Nat.reduceSub, Nat.zero_add, List.replicate_succ, List.replicate_zero, List.cons_append, List.nil_append, List.append_nil, List.getElem?_cons_zero, List.getElem?_cons_succ, List.set_cons_zero, List.set_cons_succ, Option.some.injEq, V.int.injEq, V.bl.injEq, V.ref.injEq, V.str.injEq, V.ty.injEq, List.cons.injEq, exists_eq_left', exists_eq_left, exists_eq_right, exists_and_left, exists_and_right, and_true, true_and, and_assoc, exists_const, decide_eq_true_eq, Bool.not_eq_true', Bool.not_true, Bool.not_false, Bool.not_not, decide_eq_false_iff_not, ite_not, Bool.false_eq_true, if_true, if_false, reduceCtorEq, and_false, false_and, exists_false, or_false, false_or, ↓reduceIte, eq_self, reduceIte]
    refine ⟨_, d2.seq L, _, refs_ix hg, _, rfl, _, Same.tup d2 ga.tq, _, rfl, _, d1, by rw [List.length_map, List.length_take, List.length_map]; exact Nat.lt_of_lt_of_le (m := 64) (by omega) (by decide), next _ _ ?_⟩
    rw [hC]
    refine ⟨_, ?_, same_upd d2 hD _, rfl⟩
    rw [upd_same, List.take_add_one, List.getElem?_map, ho, List.map_append]
    show _ = some (HO.lst (_ ++ [V.int (prAt gs (j : Int))]))
    rw [ep]
  · intro τ H' h
    rw [hC] at h
    obtain ⟨z, d1, d2, rfl⟩ := h
    rw [List.length_map, List.take_of_length_le (by rw [List.length_map]; exact Nat.le_refl _)] at d1
    refine ⟨_, rfl, _, SqL.of d1, ?_⟩
    exact q _ d2
theorem ok_is_lot (F : Fun K "is_lot" "is_lot" s_is_lot f fd) (M : Mg mg) (C_is_name : Cal P w K mg base CX0 "is_name" 1 ["thing"] (spIsName K)) (C_is_number : Cal P w K mg base CX0 "is_number" 3 ["thing"] (spIsNumber K)) (C_is_price : Cal P w K mg base CX0 "is_price" 2 ["thing"] (spIsPrice K))
    (C_are_inputs : Cal P w K mg base CX0 "are_inputs" 2 ["thing", "many"] (spAreInputs K)) (C_price_of_inputs : Cal P w K mg base CX0 "price_of_inputs" 1 ["lots", "inputs"] (spPriceOf K)) : FnOk P w K mg base CX0 4 f fd ["thing", "ahead"] (spIsLot K) := by
  refine F.ok sc_is_lot (fun vs H Q E h => ?_) (fun cdv A outer s H vs Q E hr h => ?_)
  · obtain ⟨v, b, a, gs, rfl, _⟩ := h
    rfl
  obtain ⟨v, b, a, gs, rfl, L, at_, l24, N, q⟩ := h
  refine ⟨_, (@pss_cons _ _ _ _ _ (@ps_if _ _ _ _ _ _ _ _ (@PW.pt _ _ _ (@pw_or _ _ _ _ _ _ _ (@pt_not _ _ _ _ (@pt_val _ _ _ (@pe_callB _ _ _ _ _ _ _ _ _ call_isi g_is_lot_isinstance M.m_isinstance b_isinstance (@pa_cons _ _ _ _ _ (@pe_var _ 0 _ _ rfl v_is_lot_0 dn_thing dc_thing) (@pa_cons _ _ _ _ _ (@pe_bltn _ _ (.ty "tuple") _ _ g_is_lot_tuple M.m_tuple b_tuple rfl nn_tuple dn_tuple) (@pa_nil _) (star1 rfl)) (star1 rfl)) nn_isinstance dn_isinstance (star1 rfl) (nost1 rfl nost0)) (test1 rfl))) (@pw_or1 _ _ _ _ (@pt_cmpR _ _ _ _ _ _ _ _ (@op_ne _) (@pe_callB _ _ _ _ _ _ _ _ _ call_len_seq g_is_lot_len M.m_len b_len (@pa_cons _ _ _ _ _ (@pe_var _ 0 _ _ rfl v_is_lot_0 dn_thing dc_thing) (@pa_nil _) (star1 rfl)) nn_len dn_len (star1 rfl) nost0) (@pe_int _ _ _ _) (nomark _))))) (@pss_one _ _ _ (@ps_ret _ _ _ _ (@pe_bl _ _ _ _))) (@pss_nil _)) (@pss_cons _ _ _ _ _ (@ps_if _ _ _ _ _ _ _ _ (@PW.pt _ _ _ (@pw_or _ _ _ _ _ _ _ (@pt_not _ _ _ _ (@pt_val _ _ _ (@pe_callC _ _ _ _ _ _ _ _ _ _ _ C_is_name hr g_is_lot_is_name (@pa_cons _ _ _ _ _ (@pe_ix _ _ _ _ _ _ _ (@ix_tup _) (@pe_var _ 0 _ _ rfl v_is_lot_0 dn_thing dc_thing) (@pe_int _ _ _ _) (fun _ _ => rfl)) (@pa_nil _) (star1 rfl)) (by decide) dn_is_name (star1 rfl) nost0) (test1 rfl))) (@pw_or _ _ _ _ _ _ _ (@pt_not _ _ _ _ (@pt_val _ _ _ (@pe_callC _ _ _ _ _ _ _ _ _ _ _ C_is_number hr g_is_lot_is_number (@pa_cons _ _ _ _ _ (@pe_ix _ _ _ _ _ _ _ (@ix_tup _) (@pe_var _ 0 _ _ rfl v_is_lot_0 dn_thing dc_thing) (@pe_int _ _ _ _) (fun _ _ => rfl)) (@pa_nil _) (star1 rfl)) (by decide) dn_is_number (star1 rfl) nost0) (test1 rfl))) (@pw_or1 _ _ _ _ (@pt_not _ _ _ _ (@pt_val _ _ _ (@pe_callC _ _ _ _ _ _ _ _ _ _ _ C_is_price hr g_is_lot_is_price (@pa_cons _ _ _ _ _ (@pe_ix _ _ _ _ _ _ _ (@ix_tup _) (@pe_var _ 0 _ _ rfl v_is_lot_0 dn_thing dc_thing) (@pe_int _ _ _ _) (fun _ _ => rfl)) (@pa_nil _) (star1 rfl)) (by decide) dn_is_price (star1 rfl) nost0) (test1 rfl))))))) (@pss_one _ _ _ (@ps_ret _ _ _ _ (@pe_bl _ _ _ _))) (@pss_nil _)) (@pss_one _ _ _ (@ps_ret _ _ _ _ (@pe_and _ _ _ _ _ _ _ (@pe_callC _ _ _ _ _ _ _ _ _ _ _ C_are_inputs hr g_is_lot_are_inputs (@pa_cons _ _ _ _ _ (@pe_ix _ _ _ _ _ _ _ (@ix_tup _) (@pe_var _ 0 _ _ rfl v_is_lot_0 dn_thing dc_thing) (@pe_int _ _ _ _) (fun _ _ => rfl)) (@pa_cons _ _ _ _ _ (@pe_callB _ _ _ _ _ _ _ _ _ call_len_seq g_is_lot_len M.m_len b_len (@pa_cons _ _ _ _ _ (@pe_var _ 1 _ _ rfl v_is_lot_1 dn_ahead dc_ahead) (@pa_nil _) (star1 rfl)) nn_len dn_len (star1 rfl) nost0) (@pa_nil _) (star1 rfl)) (star1 rfl)) (by decide) dn_are_inputs (star1 rfl) (nost1 rfl nost0)) (@pe_one _ _ _ _ _ (@pe_cmpR _ _ _ _ _ _ _ _ op_le (@pe_callC _ _ _ _ _ _ _ _ _ _ _ C_price_of_inputs hr g_is_lot_price_of_inputs (@pa_cons _ _ _ _ _ (@pe_var _ 1 _ _ rfl v_is_lot_1 dn_ahead dc_ahead) (@pa_cons _ _ _ _ _ (@pe_ix _ _ _ _ _ _ _ (@ix_tup _) (@pe_var _ 0 _ _ rfl v_is_lot_0 dn_thing dc_thing) (@pe_int _ _ _ _) (fun _ _ => rfl)) (@pa_nil _) (star1 rfl)) (star1 rfl)) (by decide) dn_price_of_inputs (star1 rfl) (nost1 rfl nost0)) (@pe_ix _ _ _ _ _ _ _ (@ix_tup _) (@pe_var _ 0 _ _ rfl v_is_lot_0 dn_thing dc_thing) (@pe_int _ _ _ _) (fun _ _ => rfl)) (nomark _)))))))), ?_⟩
  cases N with
  | no kd hk =>
    simp only [tTurn, rTurnT, tTryS, rCountT, rPop, rRep, tCont, iZipT, tChain3, tFld, sFld, tMake, tMake0, tMethD, tBM0, rUpper, tDict1T, tTryN, rSlS, rMulS, rCatS, iZipL, rInsert, rReverse, tDNewX, tTry, tRaise, iEnumL, iEnumT, iZip, iSeq, iOr, rIx, iStr, rLeS, rJoin, rSlTA, tComp_eq, tComp1, slots, Option.getD_some, Option.getD_none, tYes, tSeq, tAsg, gName, tOp, tUn, tC, tVar, tCB, tCons, tNil, tCall, rI, rI0, rU, tRet, tRetN, tIfS, tTest, tB, tAnd, tOr, tNot, tAndV, tOrV, tNotV, tIf, tChain, tMenu, tPar, tDrop, tTup, tLst, tNext, tSl, tPart, tNoPart, tNever, gTup, gCons, gNil, gSub, rSetL, tBM, rAppend, rEq, rNe, rIsi, rIxL, rIxT, rIxS, rSlL, isi_non_bl, isi_non_int, isi_non_str, isi_non_lst, isi_non_tup, isi_bl_bl, isi_bl_int, isi_bl_str, isi_bl_lst, isi_bl_tup, isi_int_bl, isi_int_int, isi_int_str, isi_int_lst, isi_int_tup, isi_str_bl, isi_str_int, isi_str_str, isi_str_lst, isi_str_tup, isi_lst_bl, isi_lst_int, isi_lst_str, isi_lst_lst, isi_lst_tup, isi_tup_bl, isi_tup_int, isi_tup_str, isi_tup_lst, isi_tup_tup, isi_dct_bl, isi_dct_int, isi_dct_str, isi_dct_lst, isi_dct_tup, Kd_non, Kd_bl, Kd_int, Kd_str, sc_non_non, sc_non_int, sc_int_non, sc_non_bl, sc_bl_non, sc_non_str, sc_str_non, sc_int_int, sc_bl_bl, sc_str_str, sc_int_str, sc_str_int, sc_bl_str, sc_str_bl, decide_true, decide_false, tFor_eq, iList, iTup, iRng1, iRng2, iRng3, rIndexT, tBM0, tBMT, tyK_int, tyK_bool, tyK_str, tyK_list, tyK_tuple, L2.start, cxK, Int.reduceToNat, List.map_cons, List.map_nil, List.length_cons, List.length_nil, Nat.reduceAdd, Nat.reduceSub, Nat.zero_add, List.replicate_succ, List.replicate_zero, List.cons_append, List.nil_append, List.append_nil, List.getElem?_cons_zero, List.getElem?_cons_succ, List.set_cons_zero, List.set_cons_succ, Option.some.injEq, V.int.injEq, V.bl.injEq, V.ref.injEq, V.str.injEq, V.ty.injEq, List.cons.injEq, exists_eq_left', exists_eq_left, exists_eq_right, exists_and_left, exists_and_right, and_true, true_and, and_assoc, exists_const, decide_eq_true_eq, Bool.not_eq_true', Bool.not_true, Bool.not_false, Bool.not_not, decide_eq_false_iff_not, ite_not, Bool.false_eq_true, if_true, if_false, reduceCtorEq, and_false, false_and, exists_false, or_false, false_or, ↓reduceIte, eq_self, reduceIte]
    refine ⟨_, kd, ?_⟩
    rw [if_pos (isi_tup_ne hk)]
    exact q _ (Same.refl _)
  | @len p xs T h3 =>
    simp only [tTurn, rTurnT, tTryS, rCountT, rPop, rRep, tCont, iZipT, tChain3, tFld, sFld, tMake, tMake0, tMethD, tBM0, rUpper, tDict1T, tTryN, rSlS, rMulS, rCatS, iZipL, rInsert, rReverse, tDNewX, tTry, tRaise, iEnumL, iEnumT, iZip, iSeq, iOr, rIx, iStr, rLeS, rJoin, rSlTA, tComp_eq, tComp1, slots, Option.getD_some, Option.getD_none, tYes, tSeq, tAsg, gName, tOp, tUn, tC, tVar, tCB, tCons, tNil, tCall, rI, rI0, rU, tRet, tRetN, tIfS, tTest, tB, tAnd, tOr, tNot, tAndV, tOrV, tNotV, tIf, tChain, tMenu, tPar, tDrop, tTup, tLst, tNext, tSl, tPart, tNoPart, tNever, gTup, gCons, gNil, gSub, rSetL, tBM, rAppend, rEq, rNe, rIsi, rIxL, rIxT, rIxS, rSlL, isi_non_bl, isi_non_int, isi_non_str, isi_non_lst, isi_non_tup, isi_bl_bl, isi_bl_int, isi_bl_str, isi_bl_lst, isi_bl_tup, isi_int_bl, isi_int_int, isi_int_str, isi_int_lst, isi_int_tup, isi_str_bl, isi_str_int, isi_str_str, isi_str_lst, isi_str_tup, isi_lst_bl, isi_lst_int, isi_lst_str, isi_lst_lst, isi_lst_tup, isi_tup_bl, isi_tup_int, isi_tup_str, isi_tup_lst, isi_tup_tup, isi_dct_bl, isi_dct_int, isi_dct_str, isi_dct_lst, isi_dct_tup, Kd_non, Kd_bl, Kd_int, Kd_str, sc_non_non, sc_non_int, sc_int_non, sc_non_bl, sc_bl_non, sc_non_str, sc_str_non, sc_int_int, sc_bl_bl, sc_str_str, sc_int_str, sc_str_int, sc_bl_str, sc_str_bl, decide_true, decide_false, tFor_eq, iList, iTup, iRng1, iRng2, iRng3, rIndexT, tBM0, tBMT, tyK_int, tyK_bool, tyK_str, tyK_list, tyK_tuple, L2.start, cxK, Int.reduceToNat, List.map_cons, List.map_nil, List.length_cons, List.length_nil, Nat.reduceAdd, Nat.reduceSub, Nat.zero_add, List.replicate_succ, List.replicate_zero, List.cons_append, List.nil_append, List.append_nil, List.getElem?_cons_zero, List.getElem?_cons_succ, List.set_cons_zero, List.set_cons_succ, Option.some.injEq, V.int.injEq, V.bl.injEq, V.ref.injEq, V.str.injEq, V.ty.injEq, List.cons.injEq, exists_eq_left', exists_eq_left, exists_eq_right, exists_and_left, exists_and_right, and_true, true_and, and_assoc, exists_const, decide_eq_true_eq, Bool.not_eq_true', Bool.not_true, Bool.not_false, Bool.not_not, decide_eq_false_iff_not, ite_not, Bool.false_eq_true, if_true, if_false, reduceCtorEq, and_false, false_and, exists_false, or_false, false_or, ↓reduceIte, eq_self, reduceIte]
    refine ⟨_, Kd.tup T, ?_⟩
    rw [if_neg (by decide)]
    refine ⟨_, .inr T, ?_⟩
    rw [if_neg (by omega)]
    exact q _ (Same.refl _)
  | @word p x y z t a1 b1 c1 T h1 h2 h3 bad =>
    simp only [tTurn, rTurnT, tTryS, rCountT, rPop, rRep, tCont, iZipT, tChain3, tFld, sFld, tMake, tMake0, tMethD, tBM0, rUpper, tDict1T, tTryN, rSlS, rMulS, rCatS, iZipL, rInsert, rReverse, tDNewX, tTry, tRaise, iEnumL, iEnumT, iZip, iSeq, iOr, rIx, iStr, rLeS, rJoin, rSlTA, tComp_eq, tComp1, slots, Option.getD_some, Option.getD_none, tYes, tSeq, tAsg, gName, tOp, tUn, tC, tVar, tCB, tCons, tNil, tCall, rI, rI0, rU, tRet, tRetN, tIfS, tTest, tB, tAnd, tOr, tNot, tAndV, tOrV, tNotV, tIf, tChain, tMenu, tPar, tDrop, tTup, tLst, tNext, tSl, tPart, tNoPart, tNever, gTup, gCons, gNil, gSub, rSetL, tBM, rAppend, rEq, rNe, rIsi, rIxL, rIxT, rIxS, rSlL, isi_non_bl, isi_non_int, isi_non_str, isi_non_lst, isi_non_tup, isi_bl_bl, isi_bl_int, isi_bl_str, isi_bl_lst, isi_bl_tup, isi_int_bl, isi_int_int, isi_int_str, isi_int_lst, isi_int_tup, isi_str_bl, isi_str_int, isi_str_str, isi_str_lst, isi_str_tup, isi_lst_bl, isi_lst_int, isi_lst_str, isi_lst_lst, isi_lst_tup, isi_tup_bl, isi_tup_int, isi_tup_str, isi_tup_lst, isi_tup_tup, isi_dct_bl, isi_dct_int, isi_dct_str, isi_dct_lst, isi_dct_tup, Kd_non, Kd_bl, Kd_int, Kd_str, sc_non_non, sc_non_int, sc_int_non, sc_non_bl, sc_bl_non, sc_non_str, sc_str_non, sc_int_int, sc_bl_bl, sc_str_str, sc_int_str, sc_str_int, sc_bl_str, sc_str_bl, decide_true, decide_false, tFor_eq, iList, iTup, iRng1, iRng2, iRng3, rIndexT, tBM0, tBMT, tyK_int, tyK_bool, tyK_str, tyK_list, tyK_tuple, L2.start, cxK, Int.reduceToNat, List.map_cons, List.map_nil, List.length_cons, List.length_nil, Nat.reduceAdd, Nat.reduceSub, Nat.zero_add, List.replicate_succ, List.replicate_zero, List.cons_append, List.nil_append, List.append_nil, List.getElem?_cons_zero, List.getElem?_cons_succ, List.set_cons_zero, List.set_cons_succ, Option.some.injEq, V.int.injEq, V.bl.injEq, V.ref.injEq, V.str.injEq, V.ty.injEq, List.cons.injEq, exists_eq_left', exists_eq_left, exists_eq_right, exists_and_left, exists_and_right, and_true, true_and, and_assoc, exists_const, decide_eq_true_eq, Bool.not_eq_true', Bool.not_true, Bool.not_false, Bool.not_not, decide_eq_false_iff_not, ite_not, Bool.false_eq_true, if_true, if_false, reduceCtorEq, and_false, false_and, exists_false, or_false, false_or, ↓reduceIte, eq_self, reduceIte]
    refine ⟨_, Kd.tup T, ?_⟩
    rw [if_neg (by decide)]
    refine ⟨_, .inr T, ?_⟩
    rw [if_pos (by rfl)]
    refine ⟨_, T, _, rfl, _, _, rfl, h1, fun H1 e1 => ⟨_, rfl, ?_⟩⟩
    cases a1 with
    | false =>
      rw [if_pos (by decide)]
      exact q _ e1
    | true =>
      rw [if_neg (by decide)]
      refine ⟨_, Same.tup e1 T, _, rfl, _, _, rfl, h2.same e1, fun H2 e2 => ⟨_, rfl, ?_⟩⟩
      have e12 := e1.trans e2
      cases b1 with
      | false =>
        rw [if_pos (by decide)]
        exact q _ e12
      | true =>
        rw [if_neg (by decide)]
        refine ⟨_, Same.tup e12 T, _, rfl, _, _, rfl, h3.same e12, _, rfl, ?_⟩
        cases c1 with
        | false =>
          rw [if_pos (by decide)]
          exact q _ e12
        | true => exact absurd bad (by decide)
  | @inp p x y t pr T h1 h2 p1 p2 hi =>
    simp only [tTurn, rTurnT, tTryS, rCountT, rPop, rRep, tCont, iZipT, tChain3, tFld, sFld, tMake, tMake0, tMethD, tBM0, rUpper, tDict1T, tTryN, rSlS, rMulS, rCatS, iZipL, rInsert, rReverse, tDNewX, tTry, tRaise, iEnumL, iEnumT, iZip, iSeq, iOr, rIx, iStr, rLeS, rJoin, rSlTA, tComp_eq, tComp1, slots, Option.getD_some, Option.getD_none, tYes, tSeq, tAsg, gName, tOp, tUn, tC, tVar, tCB, tCons, tNil, tCall, rI, rI0, rU, tRet, tRetN, tIfS, tTest, tB, tAnd, tOr, tNot, tAndV, tOrV, tNotV, tIf, tChain, tMenu, tPar, tDrop, tTup, tLst, tNext, tSl, tPart, tNoPart, tNever, gTup, gCons, gNil, gSub, rSetL, tBM, rAppend, rEq, rNe, rIsi, rIxL, rIxT, rIxS, rSlL, isi_non_bl, isi_non_int, isi_non_str, isi_non_lst, isi_non_tup, isi_bl_bl, isi_bl_int, isi_bl_str, isi_bl_lst, isi_bl_tup, isi_int_bl, isi_int_int, isi_int_str, isi_int_lst, isi_int_tup, isi_str_bl, isi_str_int, isi_str_str, isi_str_lst, isi_str_tup, isi_lst_bl, isi_lst_int, isi_lst_str, isi_lst_lst, isi_lst_tup, isi_tup_bl, isi_tup_int, isi_tup_str, isi_tup_lst, isi_tup_tup, isi_dct_bl, isi_dct_int, isi_dct_str, isi_dct_lst, isi_dct_tup, Kd_non, Kd_bl, Kd_int, Kd_str, sc_non_non, sc_non_int, sc_int_non, sc_non_bl, sc_bl_non, sc_non_str, sc_str_non, sc_int_int, sc_bl_bl, sc_str_str, sc_int_str, sc_str_int, sc_bl_str, sc_str_bl, decide_true, decide_false, tFor_eq, iList, iTup, iRng1, iRng2, iRng3, rIndexT, tBM0, tBMT, tyK_int, tyK_bool, tyK_str, tyK_list, tyK_tuple, L2.start, cxK, Int.reduceToNat, List.map_cons, List.map_nil, List.length_cons, List.length_nil, Nat.reduceAdd, Nat.reduceSub, Nat.zero_add, List.replicate_succ, List.replicate_zero, List.cons_append, List.nil_append, List.append_nil, List.getElem?_cons_zero, List.getElem?_cons_succ, List.set_cons_zero, List.set_cons_succ, Option.some.injEq, V.int.injEq, V.bl.injEq, V.ref.injEq, V.str.injEq, V.ty.injEq, List.cons.injEq, exists_eq_left', exists_eq_left, exists_eq_right, exists_and_left, exists_and_right, and_true, true_and, and_assoc, exists_const, decide_eq_true_eq, Bool.not_eq_true', Bool.not_true, Bool.not_false, Bool.not_not, decide_eq_false_iff_not, ite_not, Bool.false_eq_true, if_true, if_false, reduceCtorEq, and_false, false_and, exists_false, or_false, false_or, ↓reduceIte, eq_self, reduceIte]
    refine ⟨_, Kd.tup T, ?_⟩
    rw [if_neg (by decide)]
    refine ⟨_, .inr T, ?_⟩
    rw [if_pos (by rfl)]
    refine ⟨_, T, _, rfl, _, _, rfl, h1, fun H1 e1 => ⟨_, rfl, ?_⟩⟩
    rw [if_neg (by decide)]
    refine ⟨_, Same.tup e1 T, _, rfl, _, _, rfl, h2.same e1, fun H2 e2 => ⟨_, rfl, ?_⟩⟩
    have e12 := e1.trans e2
    rw [if_neg (by decide)]
    refine ⟨_, Same.tup e12 T, _, rfl, _, _, rfl, .int, _, rfl, ?_⟩
    rw [decide_eq_true ⟨p1, p2⟩, if_neg (by decide)]
    refine ⟨_, Same.tup e12 T, _, rfl, _, .inl (e12.seq L), ?_⟩
    rw [refs_len]
    refine ⟨_, _, _, rfl, hi.same e12, fun H3 e3 => ⟨_, rfl, ?_⟩⟩
    rw [if_neg (by decide)]
    exact q _ (e12.trans e3)
  | @sum p ip x y pr is T h1 h2 p1 p2 ti l4 iin nd =>
    simp only [tTurn, rTurnT, tTryS, rCountT, rPop, rRep, tCont, iZipT, tChain3, tFld, sFld, tMake, tMake0, tMethD, tBM0, rUpper, tDict1T, tTryN, rSlS, rMulS, rCatS, iZipL, rInsert, rReverse, tDNewX, tTry, tRaise, iEnumL, iEnumT, iZip, iSeq, iOr, rIx, iStr, rLeS, rJoin, rSlTA, tComp_eq, tComp1, slots, Option.getD_some, Option.getD_none, tYes, tSeq, tAsg, gName, tOp, tUn, tC, tVar, tCB, tCons, tNil, tCall, rI, rI0, rU, tRet, tRetN, tIfS, tTest, tB, tAnd, tOr, tNot, tAndV, tOrV, tNotV, tIf, tChain, tMenu, tPar, tDrop, tTup, tLst, tNext, tSl, tPart, tNoPart, tNever, gTup, gCons, gNil, gSub, rSetL, tBM, rAppend, rEq, rNe, rIsi, rIxL, rIxT, rIxS, rSlL, isi_non_bl, isi_non_int, isi_non_str, isi_non_lst, isi_non_tup, isi_bl_bl, isi_bl_int, isi_bl_str, isi_bl_lst, isi_bl_tup, isi_int_bl, isi_int_int, isi_int_str, isi_int_lst, isi_int_tup, isi_str_bl, isi_str_int, isi_str_str, isi_str_lst, isi_str_tup, isi_lst_bl, isi_lst_int, isi_lst_str, isi_lst_lst, isi_lst_tup, isi_tup_bl, isi_tup_int, isi_tup_str, isi_tup_lst, isi_tup_tup, isi_dct_bl, isi_dct_int, isi_dct_str, isi_dct_lst, isi_dct_tup, Kd_non, Kd_bl, Kd_int, Kd_str, sc_non_non, sc_non_int, sc_int_non, sc_non_bl, sc_bl_non, sc_non_str, sc_str_non, sc_int_int, sc_bl_bl, sc_str_str, sc_int_str, sc_str_int, sc_bl_str, sc_str_bl, decide_true, decide_false, tFor_eq, iList, iTup, iRng1, iRng2, iRng3, rIndexT, tBM0, tBMT, tyK_int, tyK_bool, tyK_str, tyK_list, tyK_tuple, L2.start, cxK, Int.reduceToNat, List.map_cons, List.map_nil, List.length_cons, List.length_nil, Nat.reduceAdd, Nat.reduceSub, Nat.zero_add, List.replicate_succ, List.replicate_zero, List.cons_append, List.nil_append, List.append_nil, List.getElem?_cons_zero, List.getElem?_cons_succ, List.set_cons_zero, List.set_cons_succ, Option.some.injEq, V.int.injEq, V.bl.injEq, V.ref.injEq, V.str.injEq, V.ty.injEq, List.cons.injEq, exists_eq_left', exists_eq_left, exists_eq_right, exists_and_left, exists_and_right, and_true, true_and, and_assoc, exists_const, decide_eq_true_eq, Bool.not_eq_true', Bool.not_true, Bool.not_false, Bool.not_not, decide_eq_false_iff_not, ite_not, Bool.false_eq_true, if_true, if_false, reduceCtorEq, and_false, false_and, exists_false, or_false, false_or, ↓reduceIte, eq_self, reduceIte]
    refine ⟨_, Kd.tup T, ?_⟩
    rw [if_neg (by decide)]
    refine ⟨_, .inr T, ?_⟩
    rw [if_pos (by rfl)]
    refine ⟨_, T, _, rfl, _, _, rfl, h1, fun H1 e1 => ⟨_, rfl, ?_⟩⟩
    rw [if_neg (by decide)]
    refine ⟨_, Same.tup e1 T, _, rfl, _, _, rfl, h2.same e1, fun H2 e2 => ⟨_, rfl, ?_⟩⟩
    have e12 := e1.trans e2
    rw [if_neg (by decide)]
    refine ⟨_, Same.tup e12 T, _, rfl, _, _, rfl, .int, _, rfl, ?_⟩
    rw [decide_eq_true ⟨p1, p2⟩, if_neg (by decide)]
    refine ⟨_, Same.tup e12 T, _, rfl, _, .inl (e12.seq L), ?_⟩
    rw [refs_len]
    refine ⟨_, _, _, rfl, .nums (e12 _ _ ti) l4 iin, fun H3 e3 => ⟨_, rfl, ?_⟩⟩
    have e13 := e12.trans e3
    have en : (is.all fun i => decide (is.count i = 1)) = true := List.all_eq_true.mpr fun i hi => decide_eq_true (nd i hi)
    rw [en, if_pos rfl]
    refine ⟨_, Same.tup e13 T, _, rfl, _, _, _, _, rfl, e13.seq L, fun g hg => (at_ g hg).same e13, SqT.of (e13 _ _ ti), l4, iin, fun H4 e4 => ?_⟩
    have e14 := e13.trans e4
    refine ⟨_, Same.tup e14 T, _, rfl, ?_⟩
    exact ⟨_, rfl, _, rfl, q _ e14⟩
theorem Lots.take {gs : List Lt} (h : Lots gs) (n : Nat) : Lots (gs.take n) := fun i g hg => by
  rw [List.getElem?_take] at hg
  split at hg
  · rename_i hi
    have := h i g hg
    rw [List.take_take, Nat.min_eq_left (by omega)]
    exact this
  · cases hg
theorem ok_lots_of {c_NoLot : Addr} (F : Fun K "lots_of" "lots_of" s_lots_of f fd) (M : Mg mg) (C_is_lot : Cal P w K mg base CX0 "is_lot" 4 ["thing", "ahead"] (spIsLot K)) (R_NoLot : XRaise K mg "NoLot" c_NoLot) : FnOk P w K mg base (CXE P w) 5 f fd ["rows"] (spLotsOf K c_NoLot) := by
  refine F.okX sc_lots_of (fun vs H Q E h => ?_) (fun cdv A outer s H vs Q E hr h => ?_)
  · rcases h with ⟨v, rfl, _⟩ | ⟨l, gs, rfl, _⟩ <;> rfl
  refine ⟨_, (@pss_cons _ _ _ _ _ (@ps_if _ _ _ _ _ _ _ _ (@PW.pt _ _ _ (@pw_or _ _ _ _ _ _ _ (@pt_not _ _ _ _ (@pt_val _ _ _ (@pe_callB _ _ _ _ _ _ _ _ _ call_isi g_lots_of_isinstance M.m_isinstance b_isinstance (@pa_cons _ _ _ _ _ (@pe_var _ 0 _ _ rfl v_lots_of_0 dn_rows dc_rows) (@pa_cons _ _ _ _ _ (@pe_bltn _ _ (.ty "list") _ _ g_lots_of_list M.m_list b_list rfl nn_list dn_list) (@pa_nil _) (star1 rfl)) (star1 rfl)) nn_isinstance dn_isinstance (star1 rfl) (nost1 rfl nost0)) (test1 rfl))) (@pw_or1 _ _ _ _ (@pt_cmpR _ _ _ _ _ _ _ _ (@op_gt _) (@pe_callB _ _ _ _ _ _ _ _ _ call_len_seq g_lots_of_len M.m_len b_len (@pa_cons _ _ _ _ _ (@pe_var _ 0 _ _ rfl v_lots_of_0 dn_rows dc_rows) (@pa_nil _) (star1 rfl)) nn_len dn_len (star1 rfl) nost0) (@pe_int _ _ _ _) (nomark _))))) (@pss_one _ _ _ (@ps_raise _ _ _ _ _ _ _ _ _ _ _ throws_cx hr g_lots_of_NoLot R_NoLot (@pa_cons _ _ _ _ _ (@pe_str _ _ _ _) (@pa_nil _) (star1 rfl)) (star1 rfl) (by rfl) dn_NoLot)) (@pss_nil _)) (@pss_cons _ _ _ _ _ (@ps_set _ _ 1 _ _ _ _ sc_lots_of.nd rfl l_lots_of_1 (@pe_lst _ _ _ _ (@pa_nil _)) (swap1 rfl) (.inl rfl)) (@pss_cons _ _ _ _ _ (@ps_for _ _ _ _ _ _ _ _ PassesOwn.leaving rfl (@pi_list _ _ _ _ (@pe_var _ 0 _ _ rfl v_lots_of_0 dn_rows dc_rows)) (@pg_name _ _ 2 _ sc_lots_of.nd rfl l_lots_of_2 (.inl rfl)) (@pss_cons _ _ _ _ _ (@ps_if _ _ _ _ _ _ _ _ (@pt_not _ _ _ _ (@pt_val _ _ _ (@pe_callC _ _ _ _ _ _ _ _ _ _ _ C_is_lot hr g_lots_of_is_lot (@pa_cons _ _ _ _ _ (@pe_var _ 2 _ _ rfl v_lots_of_2 dn_row dc_row) (@pa_cons _ _ _ _ _ (@pe_var _ 1 _ _ rfl v_lots_of_1 dn_lots dc_lots) (@pa_nil _) (star1 rfl)) (star1 rfl)) (by decide) dn_is_lot (star1 rfl) (nost1 rfl nost0)) (test1 rfl))) (@pss_one _ _ _ (@ps_raise _ _ _ _ _ _ _ _ _ _ _ throws_cx hr g_lots_of_NoLot R_NoLot (@pa_cons _ _ _ _ _ (@pe_str _ _ _ _) (@pa_nil _) (star1 rfl)) (star1 rfl) (by rfl) dn_NoLot)) (@pss_nil _)) (@pss_one _ _ _ (@ps_expr _ _ _ _ (@pe_bm _ _ _ _ _ _ _ _ _ _ _ _ PySem.F.plainAttrs_list PySem.F.slot_list_append PySem.F.type_list_append mt_append (@pe_var _ 1 _ _ rfl v_lots_of_1 dn_lots dc_lots) (@pa_cons _ _ _ _ _ (@pe_var _ 2 _ _ rfl v_lots_of_2 dn_row dc_row) (@pa_nil _) (star1 rfl)) (by rfl) (by rfl) (by rfl) (by rfl) (by rfl)) (swap1 rfl)))) (by intro _; rfl)) (@pss_one _ _ _ (@ps_ret _ _ _ _ (@pe_var _ 1 _ _ rfl v_lots_of_1 dn_lots dc_lots)))))), ?_⟩
  rcases h with ⟨v, rfl, B, qf⟩ | ⟨l, gs, rfl, L, at_, lo, l24, qt⟩
  · cases B with
    | no kd hk =>
      simp only [tTurn, rTurnT, tTryS, rCountT, rPop, rRep, tCont, iZipT, tChain3, tFld, sFld, tMake, tMake0, tMethD, tBM0, rUpper, tDict1T, tTryN, rSlS, rMulS, rCatS, iZipL, rInsert, rReverse, tDNewX, tTry, tRaise, iEnumL, iEnumT, iZip, iSeq, iOr, rIx, iStr, rLeS, rJoin, rSlTA, tComp_eq, tComp1, slots, Option.getD_some, Option.getD_none, tYes, tSeq, tAsg, gName, tOp, tUn, tC, tVar, tCB, tCons, tNil, tCall, rI, rI0, rU, tRet, tRetN, tIfS, tTest, tB, tAnd, tOr, tNot, tAndV, tOrV, tNotV, tIf, tChain, tMenu, tPar, tDrop, tTup, tLst, tNext, tSl, tPart, tNoPart, tNever, gTup, gCons, gNil, gSub, rSetL, tBM, rAppend, rEq, rNe, rIsi, rIxL, rIxT, rIxS, rSlL, isi_non_bl, isi_non_int, isi_non_str, isi_non_lst, isi_non_tup, isi_bl_bl, isi_bl_int, isi_bl_str, isi_bl_lst, isi_bl_tup, isi_int_bl, isi_int_int, isi_int_str, isi_int_lst, isi_int_tup, isi_str_bl, isi_str_int, isi_str_str, isi_str_lst, isi_str_tup, isi_lst_bl, isi_lst_int, isi_lst_str, isi_lst_lst, isi_lst_tup, isi_tup_bl, isi_tup_int, isi_tup_str, isi_tup_lst, isi_tup_tup, isi_dct_bl, isi_dct_int, isi_dct_str, isi_dct_lst, isi_dct_tup, Kd_non, Kd_bl, Kd_int, Kd_str, sc_non_non, sc_non_int, sc_int_non, sc_non_bl, sc_bl_non, sc_non_str, sc_str_non, sc_int_int, sc_bl_bl, sc_str_str, sc_int_str, sc_str_int, sc_bl_str, sc_str_bl, decide_true, decide_false, tFor_eq, iList, iTup, iRng1, iRng2, iRng3, rIndexT, tBM0, tBMT, tyK_int, tyK_bool, tyK_str, tyK_list, tyK_tuple, L2.start, cxK, Int.reduceToNat, List.map_cons, List.map_nil, List.length_cons, List.length_nil, Nat.reduceAdd, Nat.reduceSub, Nat.zero_add, List.replicate_succ, List.replicate_zero, List.cons_append, List.nil_append, List.append_nil, List.getElem?_cons_zero, List.getElem?_cons_succ, List.set_cons_zero, List.set_cons_succ, Option.some.injEq, V.int.injEq, V.bl.injEq, V.ref.injEq, V.str.injEq, V.ty.injEq, List.cons.injEq, exists_eq_left', exists_eq_left, exists_eq_right, exists_and_left, exists_and_right, and_true, true_and, and_assoc, exists_const, decide_eq_true_eq, Bool.not_eq_true', Bool.not_true, Bool.not_false, Bool.not_not, decide_eq_false_iff_not, ite_not, Bool.false_eq_true, if_true, if_false, reduceCtorEq, and_false, false_and, exists_false, or_false, false_or, ↓reduceIte, eq_self, reduceIte]
      refine ⟨_, kd, ?_⟩
      rw [if_pos (isi_lst_ne hk)]
      exact ⟨by decide, qf _ (Same.refl _)⟩
    | @long l xs L hl =>
      simp only [tTurn, rTurnT, tTryS, rCountT, rPop, rRep, tCont, iZipT, tChain3, tFld, sFld, tMake, tMake0, tMethD, tBM0, rUpper, tDict1T, tTryN, rSlS, rMulS, rCatS, iZipL, rInsert, rReverse, tDNewX, tTry, tRaise, iEnumL, iEnumT, iZip, iSeq, iOr, rIx, iStr, rLeS, rJoin, rSlTA, tComp_eq, tComp1, slots, Option.getD_some, Option.getD_none, tYes, tSeq, tAsg, gName, tOp, tUn, tC, tVar, tCB, tCons, tNil, tCall, rI, rI0, rU, tRet, tRetN, tIfS, tTest, tB, tAnd, tOr, tNot, tAndV, tOrV, tNotV, tIf, tChain, tMenu, tPar, tDrop, tTup, tLst, tNext, tSl, tPart, tNoPart, tNever, gTup, gCons, gNil, gSub, rSetL, tBM, rAppend, rEq, rNe, rIsi, rIxL, rIxT, rIxS, rSlL, isi_non_bl, isi_non_int, isi_non_str, isi_non_lst, isi_non_tup, isi_bl_bl, isi_bl_int, isi_bl_str, isi_bl_lst, isi_bl_tup, isi_int_bl, isi_int_int, isi_int_str, isi_int_lst, isi_int_tup, isi_str_bl, isi_str_int, isi_str_str, isi_str_lst, isi_str_tup, isi_lst_bl, isi_lst_int, isi_lst_str, isi_lst_lst, isi_lst_tup, isi_tup_bl, isi_tup_int, isi_tup_str, isi_tup_lst, isi_tup_tup, isi_dct_bl, isi_dct_int, isi_dct_str, isi_dct_lst, isi_dct_tup, Kd_non, Kd_bl, Kd_int, Kd_str, sc_non_non, sc_non_int, sc_int_non, sc_non_bl, sc_bl_non, sc_non_str, sc_str_non, sc_int_int, sc_bl_bl, sc_str_str, sc_int_str, sc_str_int, sc_bl_str, sc_str_bl, decide_true, decide_false, tFor_eq, iList, iTup, iRng1, iRng2, iRng3, rIndexT, tBM0, tBMT, tyK_int, tyK_bool, tyK_str, tyK_list, tyK_tuple, L2.start, cxK, Int.reduceToNat, List.map_cons, List.map_nil, List.length_cons, List.length_nil, Nat.reduceAdd, Nat.reduceSub, Nat.zero_add, List.replicate_succ, List.replicate_zero, List.cons_append, List.nil_append, List.append_nil, List.getElem?_cons_zero, List.getElem?_cons_succ, List.set_cons_zero, List.set_cons_succ, Option.some.injEq, V.int.injEq, V.bl.injEq, V.ref.injEq, V.str.injEq, V.ty.injEq, List.cons.injEq, exists_eq_left', exists_eq_left, exists_eq_right, exists_and_left, exists_and_right, and_true, true_and, and_assoc, exists_const, decide_eq_true_eq, Bool.not_eq_true', Bool.not_true, Bool.not_false, Bool.not_not, decide_eq_false_iff_not, ite_not, Bool.false_eq_true, if_true, if_false, reduceCtorEq, and_false, false_and, exists_false, or_false, false_or, ↓reduceIte, eq_self, reduceIte]
      refine ⟨_, Kd.lst L, ?_⟩
      rw [if_neg (by decide)]
      refine ⟨_, .inl L, ?_⟩
      rw [if_pos (by omega)]
      exact ⟨by decide, qf _ (Same.refl _)⟩
    | @«at» l gs v ys L at_ lo l24 lv =>
      rw [List.length_append, refs_len, List.length_cons] at l24
      simp only [tTurn, rTurnT, tTryS, rCountT, rPop, rRep, tCont, iZipT, tChain3, tFld, sFld, tMake, tMake0, tMethD, tBM0, rUpper, tDict1T, tTryN, rSlS, rMulS, rCatS, iZipL, rInsert, rReverse, tDNewX, tTry, tRaise, iEnumL, iEnumT, iZip, iSeq, iOr, rIx, iStr, rLeS, rJoin, rSlTA, tComp_eq, tComp1, slots, Option.getD_some, Option.getD_none, tYes, tSeq, tAsg, gName, tOp, tUn, tC, tVar, tCB, tCons, tNil, tCall, rI, rI0, rU, tRet, tRetN, tIfS, tTest, tB, tAnd, tOr, tNot, tAndV, tOrV, tNotV, tIf, tChain, tMenu, tPar, tDrop, tTup, tLst, tNext, tSl, tPart, tNoPart, tNever, gTup, gCons, gNil, gSub, rSetL, tBM, rAppend, rEq, rNe, rIsi, rIxL, rIxT, rIxS, rSlL, isi_non_bl, isi_non_int, isi_non_str, isi_non_lst, isi_non_tup, isi_bl_bl, isi_bl_int, isi_bl_str, isi_bl_lst, isi_bl_tup, isi_int_bl, isi_int_int, isi_int_str, isi_int_lst, isi_int_tup, isi_str_bl, isi_str_int, isi_str_str, isi_str_lst, isi_str_tup, isi_lst_bl, isi_lst_int, isi_lst_str, isi_lst_lst, isi_lst_tup, isi_tup_bl, isi_tup_int, isi_tup_str, isi_tup_lst, isi_tup_tup, isi_dct_bl, isi_dct_int, isi_dct_str, isi_dct_lst, isi_dct_tup, Kd_non, Kd_bl, Kd_int, Kd_str, sc_non_non, sc_non_int, sc_int_non, sc_non_bl, sc_bl_non, sc_non_str, sc_str_non, sc_int_int, sc_bl_bl, sc_str_str, sc_int_str, sc_str_int, sc_bl_str, sc_str_bl, decide_true, decide_false, tFor_eq, iList, iTup, iRng1, iRng2, iRng3, rIndexT, tBM0, tBMT, tyK_int, tyK_bool, tyK_str, tyK_list, tyK_tuple, L2.start, cxK, Int.reduceToNat, List.map_cons, List.map_nil, List.length_cons, List.length_nil, Nat.reduceAdd, Nat.reduceSub, Nat.zero_add, List.replicate_succ, List.replicate_zero, List.cons_append, List.nil_append, List.append_nil, List.getElem?_cons_zero, List.getElem?_cons_succ, List.set_cons_zero, List.set_cons_succ, Option.some.injEq, V.int.injEq, V.bl.injEq, V.ref.injEq, V.str.injEq, V.ty.injEq, List.cons.injEq, exists_eq_left', exists_eq_left, exists_eq_right, exists_and_left, exists_and_right, and_true, true_and, and_assoc, exists_const, decide_eq_true_eq, Bool.not_eq_true', Bool.not_true, Bool.not_false, Bool.not_not, decide_eq_false_iff_not, ite_not, Bool.false_eq_true, if_true, if_false, reduceCtorEq, and_false, false_and, exists_false, or_false, false_or, ↓reduceIte, eq_self, reduceIte]
      refine ⟨_, Kd.lst L, ?_⟩
      rw [if_neg (by decide)]
      refine ⟨_, .inl L, ?_⟩
      rw [if_neg (by rw [List.length_append, refs_len, List.length_cons]; omega)]
      refine ⟨by decide, fun n hn => ⟨⟨_, (same_new hn _).seq L⟩, ?_⟩⟩
      obtain ⟨Pv, hP⟩ : ∃ Pv : Nat → St → Hp → Prop, Pv = fun i σ H' => ∃ z, i ≤ gs.length ∧ H' n = some (.lst (refs (gs.take i))) ∧ Same H H' ∧ σ = [some (.ref l), some (.ref n), z] := ⟨_, rfl⟩
      refine forW_list (refs gs ++ v :: ys) Pv ?_ (fun i σ H' _ h => by rw [hP] at h; obtain ⟨_, _, _, e, _⟩ := h; exact e.seq L) ?_ ?_
      · rw [hP]
        exact ⟨_, Nat.zero_le _, upd_same, same_new hn _, rfl⟩
      · intro i x σ H' hx h
        rw [hP] at h
        obtain ⟨z, hi, dn, e, rfl⟩ := h
        have tk : ∀ g ∈ gs.take i, LtAt K H' g := fun g hg => (at_ g (List.mem_of_mem_take hg)).same e
        have tl : (gs.take i).length ≤ 24 := by rw [List.length_take]; omega
        by_cases hlt : i < gs.length
        · rw [List.getElem?_append_left (by rw [refs_len]; exact hlt)] at hx
          obtain ⟨g, hg, rfl⟩ := refs_at hx
          simp only [tTurn, rTurnT, tTryS, rCountT, rPop, rRep, tCont, iZipT, tChain3, tFld, sFld, tMake, tMake0, tMethD, tBM0, rUpper, tDict1T, tTryN, rSlS, rMulS, rCatS, iZipL, rInsert, rReverse, tDNewX, tTry, tRaise, iEnumL, iEnumT, iZip, iSeq, iOr, rIx, iStr, rLeS, rJoin, rSlTA, tComp_eq, tComp1, slots, Option.getD_some, Option.getD_none, tYes, tSeq, tAsg, gName, tOp, tUn, tC, tVar, tCB, tCons, tNil, tCall, rI, rI0, rU, tRet, tRetN, tIfS, tTest, tB, tAnd, tOr, tNot, tAndV, tOrV, tNotV, tIf, tChain, tMenu, tPar, tDrop, tTup, tLst, tNext, tSl, tPart, tNoPart, tNever, gTup, gCons, gNil, gSub, rSetL, tBM, rAppend, rEq, rNe, rIsi, rIxL, rIxT, rIxS, rSlL, isi_non_bl, isi_non_int, isi_non_str, isi_non_lst, isi_non_tup, isi_bl_bl, isi_bl_int, isi_bl_str, isi_bl_lst, isi_bl_tup, isi_int_bl, isi_int_int, isi_int_str, isi_int_lst, isi_int_tup, isi_str_bl, isi_str_int, isi_str_str, isi_str_lst, isi_str_tup, isi_lst_bl, isi_lst_int, isi_lst_str, isi_lst_lst, isi_lst_tup, isi_tup_bl, isi_tup_int, isi_tup_str, isi_tup_lst, isi_tup_tup, isi_dct_bl, isi_dct_int, isi_dct_str, isi_dct_lst, isi_dct_tup, Kd_non, Kd_bl, Kd_int, Kd_str, sc_non_non, sc_non_int, sc_int_non, sc_non_bl, sc_bl_non, sc_non_str, sc_str_non, sc_int_int, sc_bl_bl, sc_str_str, sc_int_str, sc_str_int, sc_bl_str, sc_str_bl, decide_true, decide_false, tFor_eq, iList, iTup, iRng1, iRng2, iRng3, rIndexT, tBM0, tBMT, tyK_int, tyK_bool, tyK_str, tyK_list, tyK_tuple, L2.start, cxK, Int.reduceToNat, List.map_cons, List.map_nil, List.length_cons, List.length_nil, Nat.reduceAdd, Nat.reduceSub, Nat.zero_add, List.replicate_succ, List.replicate_zero, List.cons_append, List.nil_append, List.append_nil, List.getElem?_cons_zero, List.getElem?_cons_succ, List.set_cons_zero, List.set_cons_succ, Option.some.injEq, V.int.injEq, V.bl.injEq, V.ref.injEq, V.str.injEq, V.ty.injEq, List.cons.injEq, exists_eq_left', exists_eq_left, exists_eq_right, exists_and_left, exists_and_right, and_true, true_and, and_assoc, exists_const, decide_eq_true_eq, Bool.not_eq_true', Bool.not_true, Bool.not_false, Bool.not_not, decide_eq_false_iff_not, ite_not, Bool.false_eq_true, if_true, if_false, reduceCtorEq, and_false, false_and, exists_false, or_false, false_or, ↓reduceIte, eq_self, reduceIte]
          refine ⟨_, _, _, _, rfl, SqL.of dn, tk, tl, ((at_ g (List.mem_of_getElem? hg)).same e).lot (lo i g hg), fun H2 e2 => ⟨_, rfl, ?_⟩⟩
          rw [if_neg (by decide)]
          have d2 := e2 _ _ dn
          refine ⟨.inl ⟨rfl, _, SqL.of d2⟩, _, d2, by rw [refs_len]; exact Nat.lt_of_lt_of_le (m := 64) (by omega) (by decide), ?_⟩
          rw [hP]
          refine ⟨_, hlt, ?_, same_upd (e.trans e2) hn _, rfl⟩
          rw [upd_same, take_snoc hg, refs_snoc]
        · have ei : i = gs.length := by omega
          subst ei
          rw [List.getElem?_append_right (by rw [refs_len]; exact Nat.le_refl _), refs_len, Nat.sub_self] at hx
          cases hx
          rw [List.take_of_length_le (Nat.le_refl _)] at dn tk
          simp only [tTurn, rTurnT, tTryS, rCountT, rPop, rRep, tCont, iZipT, tChain3, tFld, sFld, tMake, tMake0, tMethD, tBM0, rUpper, tDict1T, tTryN, rSlS, rMulS, rCatS, iZipL, rInsert, rReverse, tDNewX, tTry, tRaise, iEnumL, iEnumT, iZip, iSeq, iOr, rIx, iStr, rLeS, rJoin, rSlTA, tComp_eq, tComp1, slots, Option.getD_some, Option.getD_none, tYes, tSeq, tAsg, gName, tOp, tUn, tC, tVar, tCB, tCons, tNil, tCall, rI, rI0, rU, tRet, tRetN, tIfS, tTest, tB, tAnd, tOr, tNot, tAndV, tOrV, tNotV, tIf, tChain, tMenu, tPar, tDrop, tTup, tLst, tNext, tSl, tPart, tNoPart, tNever, gTup, gCons, gNil, gSub, rSetL, tBM, rAppend, rEq, rNe, rIsi, rIxL, rIxT, rIxS, rSlL, isi_non_bl, isi_non_int, isi_non_str, isi_non_lst, isi_non_tup, isi_bl_bl, isi_bl_int, isi_bl_str, isi_bl_lst, isi_bl_tup, isi_int_bl, isi_int_int, isi_int_str, isi_int_lst, isi_int_tup, isi_str_bl, isi_str_int, isi_str_str, isi_str_lst, isi_str_tup, isi_lst_bl, isi_lst_int, isi_lst_str, isi_lst_lst, isi_lst_tup, isi_tup_bl, isi_tup_int, isi_tup_str, isi_tup_lst, isi_tup_tup, isi_dct_bl, isi_dct_int, isi_dct_str, isi_dct_lst, isi_dct_tup, Kd_non, Kd_bl, Kd_int, Kd_str, sc_non_non, sc_non_int, sc_int_non, sc_non_bl, sc_bl_non, sc_non_str, sc_str_non, sc_int_int, sc_bl_bl, sc_str_str, sc_int_str, sc_str_int, sc_bl_str, sc_str_bl, decide_true, decide_false, tFor_eq, iList, iTup, iRng1, iRng2, iRng3, rIndexT, tBM0, tBMT, tyK_int, tyK_bool, tyK_str, tyK_list, tyK_tuple, L2.start, cxK, Int.reduceToNat, List.map_cons, List.map_nil, List.length_cons, List.length_nil, Nat.reduceAdd, Nat.reduceSub, Nat.zero_add, List.replicate_succ, List.replicate_zero, List.cons_append, List.nil_append, List.append_nil, List.getElem?_cons_zero, List.getElem?_cons_succ, List.set_cons_zero, List.set_cons_succ, Option.some.injEq, V.int.injEq, V.bl.injEq, V.ref.injEq, V.str.injEq, V.ty.injEq, List.cons.injEq, exists_eq_left', exists_eq_left, exists_eq_right, exists_and_left, exists_and_right, and_true, true_and, and_assoc, exists_const, decide_eq_true_eq, Bool.not_eq_true', Bool.not_true, Bool.not_false, Bool.not_not, decide_eq_false_iff_not, ite_not, Bool.false_eq_true, if_true, if_false, reduceCtorEq, and_false, false_and, exists_false, or_false, false_or, ↓reduceIte, eq_self, reduceIte]
          refine ⟨_, _, _, _, rfl, SqL.of dn, tk, by omega, lv.same e, fun H2 e2 => ⟨_, rfl, ?_⟩⟩
          rw [if_pos (by decide)]
          exact ⟨by decide, qf _ (e.trans e2)⟩
      · intro σ H' h
        rw [hP] at h
        obtain ⟨z, hi, _⟩ := h
        rw [List.length_append, refs_len, List.length_cons] at hi
        omega
  · simp only [tTurn, rTurnT, tTryS, rCountT, rPop, rRep, tCont, iZipT, tChain3, tFld, sFld, tMake, tMake0, tMethD, tBM0, rUpper, tDict1T, tTryN, rSlS, rMulS, rCatS, iZipL, rInsert, rReverse, tDNewX, tTry, tRaise, iEnumL, iEnumT, iZip, iSeq, iOr, rIx, iStr, rLeS, rJoin, rSlTA, tComp_eq, tComp1, slots, Option.getD_some, Option.getD_none, tYes, tSeq, tAsg, gName, tOp, tUn, tC, tVar, tCB, tCons, tNil, tCall, rI, rI0, rU, tRet, tRetN, tIfS, tTest, tB, tAnd, tOr, tNot, tAndV, tOrV, tNotV, tIf, tChain, tMenu, tPar, tDrop, tTup, tLst, tNext, tSl, tPart, tNoPart, tNever, gTup, gCons, gNil, gSub, rSetL, tBM, rAppend, rEq, rNe, rIsi, rIxL, rIxT, rIxS, rSlL, isi_non_bl, isi_non_int, isi_non_str, isi_non_lst, isi_non_tup, isi_bl_bl, isi_bl_int, isi_bl_str, isi_bl_lst, isi_bl_tup, isi_int_bl, isi_int_int, isi_int_str, isi_int_lst, isi_int_tup, isi_str_bl, isi_str_int, isi_str_str, isi_str_lst, isi_str_tup, isi_lst_bl, isi_lst_int, isi_lst_str, isi_lst_lst, isi_lst_tup, isi_tup_bl, isi_tup_int, isi_tup_str, isi_tup_lst, isi_tup_tup, isi_dct_bl, isi_dct_int, isi_dct_str, isi_dct_lst, isi_dct_tup, Kd_non, Kd_bl, Kd_int, Kd_str, sc_non_non, sc_non_int, sc_int_non, sc_non_bl, sc_bl_non, sc_non_str, sc_str_non, sc_int_int, sc_bl_bl, sc_str_str, sc_int_str, sc_str_int, sc_bl_str, sc_str_bl, decide_true, decide_false, tFor_eq, iList, iTup, iRng1, iRng2, iRng3, rIndexT, tBM0, tBMT, tyK_int, tyK_bool, tyK_str, tyK_list, tyK_tuple, L2.start, cxK, Int.reduceToNat, List.map_cons, List.map_nil, List.length_cons, List.length_nil, Nat.reduceAdd, Nat.reduceSub, Nat.zero_add, List.replicate_succ, List.replicate_zero, List.cons_append, List.nil_append, List.append_nil, List.getElem?_cons_zero, List.getElem?_cons_succ, List.set_cons_zero, List.set_cons_succ, Option.some.injEq, V.int.injEq, V.bl.injEq, V.ref.injEq, V.str.injEq, V.ty.injEq, List.cons.injEq, exists_eq_left', exists_eq_left, exists_eq_right, exists_and_left, exists_and_right, and_true, true_and, and_assoc, exists_const, decide_eq_true_eq, Bool.not_eq_true', Bool.not_true, Bool.not_false, Bool.not_not, decide_eq_false_iff_not, ite_not, Bool.false_eq_true, if_true, if_false, reduceCtorEq, and_false, false_and, exists_false, or_false, false_or, ↓reduceIte, eq_self, reduceIte]
    refine ⟨_, Kd.lst L, ?_⟩
    rw [if_neg (by decide)]
    refine ⟨_, .inl L, ?_⟩
    rw [if_neg (by rw [refs_len]; omega)]
    refine ⟨by decide, fun n hn => ⟨⟨_, (same_new hn _).seq L⟩, ?_⟩⟩
    obtain ⟨Pv, hP⟩ : ∃ Pv : Nat → St → Hp → Prop, Pv = fun i σ H' => ∃ z, H' n = some (.lst (refs (gs.take i))) ∧ Same H H' ∧ σ = [some (.ref l), some (.ref n), z] := ⟨_, rfl⟩
    refine forW_list (refs gs) Pv ?_ (fun i σ H' _ h => by rw [hP] at h; obtain ⟨_, _, e, _⟩ := h; exact e.seq L) ?_ ?_
    · rw [hP]
      exact ⟨_, upd_same, same_new hn _, rfl⟩
    · intro i x σ H' hx h
      rw [hP] at h
      obtain ⟨z, dn, e, rfl⟩ := h
      obtain ⟨g, hg, rfl⟩ := refs_at hx
      have tk : ∀ g ∈ gs.take i, LtAt K H' g := fun g hg => (at_ g (List.mem_of_mem_take hg)).same e
      have tl : (gs.take i).length ≤ 24 := by rw [List.length_take]; omega
      simp only [tTurn, rTurnT, tTryS, rCountT, rPop, rRep, tCont, iZipT, tChain3, tFld, sFld, tMake, tMake0, tMethD, tBM0, rUpper, tDict1T, tTryN, rSlS, rMulS, rCatS, iZipL, rInsert, rReverse, tDNewX, tTry, tRaise, iEnumL, iEnumT, iZip, iSeq, iOr, rIx, iStr, rLeS, rJoin, rSlTA, tComp_eq, tComp1, slots, Option.getD_some, Option.getD_none, tYes, tSeq, tAsg, gName, tOp, tUn, tC, tVar, tCB, tCons, tNil, tCall, rI, rI0, rU, tRet, tRetN, tIfS, tTest, tB, tAnd, tOr, tNot, tAndV, tOrV, tNotV, tIf, tChain, tMenu, tPar, tDrop, tTup, tLst, tNext, tSl, tPart, tNoPart, tNever, gTup, gCons, gNil, gSub, rSetL, tBM, rAppend, rEq, rNe, rIsi, rIxL, rIxT, rIxS, rSlL, isi_non_bl, isi_non_int, isi_non_str, isi_non_lst, isi_non_tup, isi_bl_bl, isi_bl_int, isi_bl_str, isi_bl_lst, isi_bl_tup, isi_int_bl, isi_int_int, isi_int_str, isi_int_lst, isi_int_tup, isi_str_bl, isi_str_int, isi_str_str, isi_str_lst, isi_str_tup, isi_lst_bl, isi_lst_int, isi_lst_str, isi_lst_lst, isi_lst_tup, isi_tup_bl, isi_tup_int, isi_tup_str, isi_tup_lst, isi_tup_tup, isi_dct_bl, isi_dct_int, isi_dct_str, isi_dct_lst, isi_dct_tup, Kd_non, Kd_bl, Kd_int, Kd_str, sc_non_non, sc_non_int, sc_int_non, sc_non_bl, sc_bl_non, sc_non_str, sc_str_non, sc_int_int, sc_bl_bl, sc_str_str, sc_int_str, sc_str_int, sc_bl_str, sc_str_bl, decide_true, decide_false, tFor_eq, iList, iTup, iRng1, iRng2, iRng3, rIndexT, tBM0, tBMT, tyK_int, tyK_bool, tyK_str, tyK_list, tyK_tuple, L2.start, cxK, Int.reduceToNat, List.map_cons, List.map_nil, List.length_cons, List.length_nil, Nat.reduceAdd, Nat.reduceSub, Nat.zero_add, List.replicate_succ, List.replicate_zero, List.cons_append, List.nil_append, List.append_nil, List.getElem?_cons_zero, List.getElem?_cons_succ, List.set_cons_zero, List.set_cons_succ, Option.some.injEq, V.int.injEq, V.bl.injEq, V.ref.injEq, V.str.injEq, V.ty.injEq, List.cons.injEq, exists_eq_left', exists_eq_left, exists_eq_right, exists_and_left, exists_and_right, and_true, true_and, and_assoc, exists_const, decide_eq_true_eq, Bool.not_eq_true', Bool.not_true, Bool.not_false, Bool.not_not, decide_eq_false_iff_not, ite_not, Bool.false_eq_true, if_true, if_false, reduceCtorEq, and_false, false_and, exists_false, or_false, false_or, ↓reduceIte, eq_self, reduceIte]
      refine ⟨_, _, _, _, rfl, SqL.of dn, tk, tl, ((at_ g (List.mem_of_getElem? hg)).same e).lot (lo i g hg), fun H2 e2 => ⟨_, rfl, ?_⟩⟩
      rw [if_neg (by decide)]
      have d2 := e2 _ _ dn
      refine ⟨.inl ⟨rfl, _, SqL.of d2⟩, _, d2, by rw [refs_len]; exact Nat.lt_of_lt_of_le (m := 64) (by omega) (by decide), ?_⟩
      rw [hP]
      refine ⟨_, ?_, same_upd (e.trans e2) hn _, rfl⟩
      rw [upd_same, take_snoc hg, refs_snoc]
    · intro σ H' h
      rw [hP] at h
      obtain ⟨z, dn, e, rfl⟩ := h
      rw [refs_len, List.take_of_length_le (Nat.le_refl _)] at dn
      simp only [tTurn, rTurnT, tTryS, rCountT, rPop, rRep, tCont, iZipT, tChain3, tFld, sFld, tMake, tMake0, tMethD, tBM0, rUpper, tDict1T, tTryN, rSlS, rMulS, rCatS, iZipL, rInsert, rReverse, tDNewX, tTry, tRaise, iEnumL, iEnumT, iZip, iSeq, iOr, rIx, iStr, rLeS, rJoin, rSlTA, tComp_eq, tComp1, slots, Option.getD_some, Option.getD_none, tYes, tSeq, tAsg, gName, tOp, tUn, tC, tVar, tCB, tCons, tNil, tCall, rI, rI0, rU, tRet, tRetN, tIfS, tTest, tB, tAnd, tOr, tNot, tAndV, tOrV, tNotV, tIf, tChain, tMenu, tPar, tDrop, tTup, tLst, tNext, tSl, tPart, tNoPart, tNever, gTup, gCons, gNil, gSub, rSetL, tBM, rAppend, rEq, rNe, rIsi, rIxL, rIxT, rIxS, rSlL, isi_non_bl, isi_non_int, isi_non_str, isi_non_lst, isi_non_tup, isi_bl_bl, isi_bl_int, isi_bl_str, isi_bl_lst, isi_bl_tup, isi_int_bl, isi_int_int, isi_int_str, isi_int_lst, isi_int_tup, isi_str_bl, isi_str_int, isi_str_str, isi_str_lst, isi_str_tup, isi_lst_bl, isi_lst_int, isi_lst_str, isi_lst_lst, isi_lst_tup, isi_tup_bl, isi_tup_int, isi_tup_str, isi_tup_lst, isi_tup_tup, isi_dct_bl, isi_dct_int, isi_dct_str, isi_dct_lst, isi_dct_tup, Kd_non, Kd_bl, Kd_int, Kd_str, sc_non_non, sc_non_int, sc_int_non, sc_non_bl, sc_bl_non, sc_non_str, sc_str_non, sc_int_int, sc_bl_bl, sc_str_str, sc_int_str, sc_str_int, sc_bl_str, sc_str_bl, decide_true, decide_false, tFor_eq, iList, iTup, iRng1, iRng2, iRng3, rIndexT, tBM0, tBMT, tyK_int, tyK_bool, tyK_str, tyK_list, tyK_tuple, L2.start, cxK, Int.reduceToNat, List.map_cons, List.map_nil, List.length_cons, List.length_nil, Nat.reduceAdd, Nat.reduceSub, Nat.zero_add, List.replicate_succ, List.replicate_zero, List.cons_append, List.nil_append, List.append_nil, List.getElem?_cons_zero, List.getElem?_cons_succ, List.set_cons_zero, List.set_cons_succ, Option.some.injEq, V.int.injEq, V.bl.injEq, V.ref.injEq, V.str.injEq, V.ty.injEq, List.cons.injEq, exists_eq_left', exists_eq_left, exists_eq_right, exists_and_left, exists_and_right, and_true, true_and, and_assoc, exists_const, decide_eq_true_eq, Bool.not_eq_true', Bool.not_true, Bool.not_false, Bool.not_not, decide_eq_false_iff_not, ite_not, Bool.false_eq_true, if_true, if_false, reduceCtorEq, and_false, false_and, exists_false, or_false, false_or, ↓reduceIte, eq_self, reduceIte]
      exact qt _ _ e hn dn
end

def spWholeV : Sp := fun vs H Q _ => ∃ i, vs = [.int i] ∧ Q (.bl true) H
abbrev lettersS : Str := "abcdefghijklmnopqrstuvwxyz"
theorem letters_at : ∀ r : Nat, r < 26 → lettersS.cps.toList[r]? = some (97 + r) := by decide +kernel
def spCellX (K : PySem.W.Frag) : Sp := fun vs H Q _ => ∃ (a : Addr) (ns : List Int) (k : Int), vs = [.ref a, .int k] ∧ SqL K H a (ns.map V.int) ∧ 0 ≤ k ∧ ∀ i : Int, Q (.int i) H
theorem spCellX_of {K : PySem.W.Frag} {H : Hp} {a : Addr} {ns : List Int} {k : Int} {Q : VK} {E : XK} (h : SqL K H a (ns.map V.int)) (h0 : 0 ≤ k) (q : ∀ i, Q (.int i) H) : spCellX K [.ref a, .int k] H Q E := ⟨a, ns, k, rfl, h, h0, q⟩
def spMix : Sp := fun vs H Q _ => ∃ c b : Int, vs = [.int c, .int b] ∧ 0 ≤ b ∧ b ≤ 100000 ∧ ∀ i : Int, 0 ≤ i → i < 999983 → Q (.int i) H
def spNumber (K : PySem.W.Frag) : Sp := fun vs H Q _ => ∃ c : Int, vs = [.int c] ∧ ∀ (r : Addr) (nv : List Int) H', Same H H' → H' r = some (.tup (nv.map V.int)) → 1 ≤ nv.length → nv.length ≤ 4 → (∀ i ∈ nv, 1 ≤ i ∧ i ≤ 99) → Q (.ref r) H'
def spLands (K : PySem.W.Frag) : Sp := fun vs H Q _ => ∃ c : Int, vs = [.int c] ∧ ∀ (r : Addr) (css : List (List Nat)) H', Same H H' → H' r = some (.lst (css.map fun cs => V.str (txt cs))) → 1 ≤ css.length → css.length ≤ 7 → (∀ cs ∈ css, nameB cs = true) → Q (.ref r) H'
theorem name_ints {ks : List Int} (h : ∀ i ∈ ks, 0 ≤ i ∧ i < 26) (l1 : 1 ≤ ks.length) (l8 : ks.length ≤ 8) : nameB (ks.map fun i => 97 + i.toNat) = true := by
  unfold nameB
  rw [List.length_map, decide_eq_true ⟨l1, l8⟩, Bool.true_and, List.all_eq_true]
  intro c hc
  obtain ⟨i, hi, rfl⟩ := List.mem_map.mp hc
  have := h i hi
  unfold isLow
  rw [decide_eq_true (by omega), decide_eq_true (by omega)]
  rfl
section
variable {P : Program} {w : World} {K : PySem.W.Frag} {mg : Str → Option Value} {base : Heap} {f : Addr} {fd : FuncData}
theorem ok_law_cell_at (F : Fun K "_law_cell_at" "_law_cell_at" s_law_cell_at f fd) (M : Mg mg) : FnOk P w K mg base CX0 1 f fd ["_law_script", "_law_k"] (spCellX K) := by
  refine F.ok sc_law_cell_at (fun vs H Q E h => ?_) (fun cdv A outer s H vs Q E hr h => ?_)
  · obtain ⟨a, ns, k, rfl, _⟩ := h
    rfl
  obtain ⟨a, ns, k, rfl, hS, h0, q⟩ := h
  refine ⟨_, (@pss_cons _ _ _ _ _ (@ps_if _ _ _ _ _ _ _ _ (@pt_cmpR _ _ _ _ _ _ _ _ (@op_lt _) (@pe_var _ 1 _ _ rfl v_law_cell_at_1 dn__law_k dc__law_k) (@pe_callB _ _ _ _ _ _ _ _ _ call_len_seq g_law_cell_at_len M.m_len b_len (@pa_cons _ _ _ _ _ (@pe_var _ 0 _ _ rfl v_law_cell_at_0 dn__law_script dc__law_script) (@pa_nil _) (star1 rfl)) nn_len dn_len (star1 rfl) nost0) (nomark _)) (@pss_one _ _ _ (@ps_ret _ _ _ _ (@pe_ix _ _ _ _ _ _ _ (@ix_list _) (@pe_var _ 0 _ _ rfl v_law_cell_at_0 dn__law_script dc__law_script) (@pe_var _ 1 _ _ rfl v_law_cell_at_1 dn__law_k dc__law_k) (fun _ _ => rfl)))) (@pss_nil _)) (@pss_one _ _ _ (@ps_ret _ _ _ _ (@pe_int _ _ _ _)))), ?_⟩
  simp only [tTurn, rTurnT, tTryS, rCountT, rPop, rRep, tCont, iZipT, tChain3, tFld, sFld, tMake, tMake0, tMethD, tBM0, rUpper, tDict1T, tTryN, rSlS, rMulS, rCatS, iZipL, rInsert, rReverse, tDNewX, tTry, tRaise, iEnumL, iEnumT, iZip, iSeq, iOr, rIx, iStr, rLeS, rJoin, rSlTA, tComp_eq, tComp1, slots, Option.getD_some, Option.getD_none, tYes, tSeq, tAsg, gName, tOp, tUn, tC, tVar, tCB, tCons, tNil, tCall, rI, rI0, rU, tRet, tRetN, tIfS, tTest, tB, tAnd, tOr, tNot, tAndV, tOrV, tNotV, tIf, tChain, tMenu, tPar, tDrop, tTup, tLst, tNext, tSl, tPart, tNoPart, tNever, gTup, gCons, gNil, gSub, rSetL, tBM, rAppend, rEq, rNe, rIsi, rIxL, rIxT, rIxS, rSlL, isi_non_bl, isi_non_int, isi_non_str, isi_non_lst, isi_non_tup, isi_bl_bl, isi_bl_int, isi_bl_str, isi_bl_lst, isi_bl_tup, isi_int_bl, isi_int_int, isi_int_str, isi_int_lst, isi_int_tup, isi_str_bl, isi_str_int, isi_str_str, isi_str_lst, isi_str_tup, isi_lst_bl, isi_lst_int, isi_lst_str, isi_lst_lst, isi_lst_tup, isi_tup_bl, isi_tup_int, isi_tup_str, isi_tup_lst, isi_tup_tup, isi_dct_bl, isi_dct_int, isi_dct_str, isi_dct_lst, isi_dct_tup, Kd_non, Kd_bl, Kd_int, Kd_str, sc_non_non, sc_non_int, sc_int_non, sc_non_bl, sc_bl_non, sc_non_str, sc_str_non, sc_int_int, sc_bl_bl, sc_str_str, sc_int_str, sc_str_int, sc_bl_str, sc_str_bl, decide_true, decide_false, tFor_eq, iList, iTup, iRng1, iRng2, iRng3, rIndexT, tBM0, tBMT, tyK_int, tyK_bool, tyK_str, tyK_list, tyK_tuple, L2.start, cxK, Int.reduceToNat, List.map_cons, List.map_nil, List.length_cons, List.length_nil, Nat.reduceAdd, Nat.reduceSub, Nat.zero_add, List.replicate_succ, List.replicate_zero, List.cons_append, List.nil_append, List.append_nil, List.getElem?_cons_zero, List.getElem?_cons_succ, List.set_cons_zero, List.set_cons_succ, Option.some.injEq, V.int.injEq, V.bl.injEq, V.ref.injEq, V.str.injEq, V.ty.injEq, List.cons.injEq, exists_eq_left', exists_eq_left, exists_eq_right, exists_and_left, exists_and_right, and_true, true_and, and_assoc, exists_const, decide_eq_true_eq, Bool.not_eq_true', Bool.not_true, Bool.not_false, Bool.not_not, decide_eq_false_iff_not, ite_not, Bool.false_eq_true, if_true, if_false, reduceCtorEq, and_false, false_and, exists_false, or_false, false_or, ↓reduceIte, eq_self, reduceIte]
  refine ⟨_, .inl hS, ?_⟩
  rw [List.length_map]
  by_cases hk : k < (ns.length : Int)
  · rw [if_pos hk]
    exact ⟨_, hS, _, atI_map h0 hk, q _⟩
  · rw [if_neg hk]
    exact q _
theorem ok_law_mix (F : Fun K "_law_mix" "_law_mix" s_law_mix f fd) (M : Mg mg) : FnOk P w K mg base CX0 1 f fd ["_law_cell", "_law_by"] spMix := by
  refine F.ok sc_law_mix (fun vs H Q E h => ?_) (fun cdv A outer s H vs Q E hr h => ?_)
  · obtain ⟨c, b, rfl, _⟩ := h
    rfl
  obtain ⟨c, b, rfl, b0, b1, q⟩ := h
  refine ⟨_, (@pss_one _ _ _ (@ps_ret _ _ _ _ (@pe_op _ _ _ _ _ _ _ _ (@op_mod _) (@pe_op _ _ _ _ _ _ _ _ (@op_mulB _) (@pe_op _ _ _ _ _ _ _ _ (@op_mod _) (@pe_var _ 0 _ _ rfl v_law_mix_0 dn__law_cell dc__law_cell) (@pe_int _ _ _ _)) (@pe_var _ 1 _ _ rfl v_law_mix_1 dn__law_by dc__law_by)) (@pe_int _ _ _ _)))), ?_⟩
  simp only [tTurn, rTurnT, tTryS, rCountT, rPop, rRep, tCont, iZipT, tChain3, tFld, sFld, tMake, tMake0, tMethD, tBM0, rUpper, tDict1T, tTryN, rSlS, rMulS, rCatS, iZipL, rInsert, rReverse, tDNewX, tTry, tRaise, iEnumL, iEnumT, iZip, iSeq, iOr, rIx, iStr, rLeS, rJoin, rSlTA, tComp_eq, tComp1, slots, Option.getD_some, Option.getD_none, tYes, tSeq, tAsg, gName, tOp, tUn, tC, tVar, tCB, tCons, tNil, tCall, rI, rI0, rU, tRet, tRetN, tIfS, tTest, tB, tAnd, tOr, tNot, tAndV, tOrV, tNotV, tIf, tChain, tMenu, tPar, tDrop, tTup, tLst, tNext, tSl, tPart, tNoPart, tNever, gTup, gCons, gNil, gSub, rSetL, tBM, rAppend, rEq, rNe, rIsi, rIxL, rIxT, rIxS, rSlL, isi_non_bl, isi_non_int, isi_non_str, isi_non_lst, isi_non_tup, isi_bl_bl, isi_bl_int, isi_bl_str, isi_bl_lst, isi_bl_tup, isi_int_bl, isi_int_int, isi_int_str, isi_int_lst, isi_int_tup, isi_str_bl, isi_str_int, isi_str_str, isi_str_lst, isi_str_tup, isi_lst_bl, isi_lst_int, isi_lst_str, isi_lst_lst, isi_lst_tup, isi_tup_bl, isi_tup_int, isi_tup_str, isi_tup_lst, isi_tup_tup, isi_dct_bl, isi_dct_int, isi_dct_str, isi_dct_lst, isi_dct_tup, Kd_non, Kd_bl, Kd_int, Kd_str, sc_non_non, sc_non_int, sc_int_non, sc_non_bl, sc_bl_non, sc_non_str, sc_str_non, sc_int_int, sc_bl_bl, sc_str_str, sc_int_str, sc_str_int, sc_bl_str, sc_str_bl, decide_true, decide_false, tFor_eq, iList, iTup, iRng1, iRng2, iRng3, rIndexT, tBM0, tBMT, tyK_int, tyK_bool, tyK_str, tyK_list, tyK_tuple, L2.start, cxK, Int.reduceToNat, List.map_cons, List.map_nil, List.length_cons, List.length_nil, Nat.reduceAdd, Nat.reduceSub, Nat.zero_add, List.replicate_succ, List.replicate_zero, List.cons_append, List.nil_append, List.append_nil, List.getElem?_cons_zero, List.getElem?_cons_succ, List.set_cons_zero, List.set_cons_succ, Option.some.injEq, V.int.injEq, V.bl.injEq, V.ref.injEq, V.str.injEq, V.ty.injEq, List.cons.injEq, exists_eq_left', exists_eq_left, exists_eq_right, exists_and_left, exists_and_right, and_true, true_and, and_assoc, exists_const, decide_eq_true_eq, Bool.not_eq_true', Bool.not_true, Bool.not_false, Bool.not_not, decide_eq_false_iff_not, ite_not, Bool.false_eq_true, if_true, if_false, reduceCtorEq, and_false, false_and, exists_false, or_false, false_or, ↓reduceIte, eq_self, reduceIte]
  have c0 := Int.emod_nonneg c (show (1000003 : Int) ≠ 0 by decide)
  have c1 := Int.emod_lt_of_pos c (show (0 : Int) < 1000003 by decide)
  exact ⟨by decide, cmul (by omega) (by omega) (by omega) (by omega), by decide, q _ (Int.emod_nonneg _ (by decide)) (Int.emod_lt_of_pos _ (by decide))⟩
theorem ok_law_whole (F : Fun K "_law_whole" "_law_whole" s_law_whole f fd) (M : Mg mg) : FnOk P w K mg base CX0 1 f fd ["_law_thing"] spWholeV := by
  refine F.ok sc_law_whole (fun vs H Q E h => ?_) (fun cdv A outer s H vs Q E hr h => ?_)
  · obtain ⟨i, rfl, _⟩ := h
    rfl
  obtain ⟨i, rfl, q⟩ := h
  refine ⟨_, (@pss_one _ _ _ (@ps_ret _ _ _ _ (@pe_and _ _ _ _ _ _ _ (@pe_callB _ _ _ _ _ _ _ _ _ call_isi g_law_whole_isinstance M.m_isinstance b_isinstance (@pa_cons _ _ _ _ _ (@pe_var _ 0 _ _ rfl v_law_whole_0 dn__law_thing dc__law_thing) (@pa_cons _ _ _ _ _ (@pe_bltn _ _ (.ty "int") _ _ g_law_whole_int M.m_int b_int rfl nn_int dn_int) (@pa_nil _) (star1 rfl)) (star1 rfl)) nn_isinstance dn_isinstance (star1 rfl) (nost1 rfl nost0)) (@pe_one _ _ _ _ _ (@pe_not _ _ _ _ (@pe_callB _ _ _ _ _ _ _ _ _ call_isi g_law_whole_isinstance M.m_isinstance b_isinstance (@pa_cons _ _ _ _ _ (@pe_var _ 0 _ _ rfl v_law_whole_0 dn__law_thing dc__law_thing) (@pa_cons _ _ _ _ _ (@pe_bltn _ _ (.ty "bool") _ _ g_law_whole_bool M.m_bool b_bool rfl nn_bool dn_bool) (@pa_nil _) (star1 rfl)) (star1 rfl)) nn_isinstance dn_isinstance (star1 rfl) (nost1 rfl nost0))))))), ?_⟩
  simp only [tTurn, rTurnT, tTryS, rCountT, rPop, rRep, tCont, iZipT, tChain3, tFld, sFld, tMake, tMake0, tMethD, tBM0, rUpper, tDict1T, tTryN, rSlS, rMulS, rCatS, iZipL, rInsert, rReverse, tDNewX, tTry, tRaise, iEnumL, iEnumT, iZip, iSeq, iOr, rIx, iStr, rLeS, rJoin, rSlTA, tComp_eq, tComp1, slots, Option.getD_some, Option.getD_none, tYes, tSeq, tAsg, gName, tOp, tUn, tC, tVar, tCB, tCons, tNil, tCall, rI, rI0, rU, tRet, tRetN, tIfS, tTest, tB, tAnd, tOr, tNot, tAndV, tOrV, tNotV, tIf, tChain, tMenu, tPar, tDrop, tTup, tLst, tNext, tSl, tPart, tNoPart, tNever, gTup, gCons, gNil, gSub, rSetL, tBM, rAppend, rEq, rNe, rIsi, rIxL, rIxT, rIxS, rSlL, isi_non_bl, isi_non_int, isi_non_str, isi_non_lst, isi_non_tup, isi_bl_bl, isi_bl_int, isi_bl_str, isi_bl_lst, isi_bl_tup, isi_int_bl, isi_int_int, isi_int_str, isi_int_lst, isi_int_tup, isi_str_bl, isi_str_int, isi_str_str, isi_str_lst, isi_str_tup, isi_lst_bl, isi_lst_int, isi_lst_str, isi_lst_lst, isi_lst_tup, isi_tup_bl, isi_tup_int, isi_tup_str, isi_tup_lst, isi_tup_tup, isi_dct_bl, isi_dct_int, isi_dct_str, isi_dct_lst, isi_dct_tup, Kd_non, Kd_bl, Kd_int, Kd_str, sc_non_non, sc_non_int, sc_int_non, sc_non_bl, sc_bl_non, sc_non_str, sc_str_non, sc_int_int, sc_bl_bl, sc_str_str, sc_int_str, sc_str_int, sc_bl_str, sc_str_bl, decide_true, decide_false, tFor_eq, iList, iTup, iRng1, iRng2, iRng3, rIndexT, tBM0, tBMT, tyK_int, tyK_bool, tyK_str, tyK_list, tyK_tuple, L2.start, cxK, Int.reduceToNat, List.map_cons, List.map_nil, List.length_cons, List.length_nil, Nat.reduceAdd, Nat.reduceSub, Nat.zero_add, List.replicate_succ, List.replicate_zero, List.cons_append, List.nil_append, List.append_nil, List.getElem?_cons_zero, List.getElem?_cons_succ, List.set_cons_zero, List.set_cons_succ, Option.some.injEq, V.int.injEq, V.bl.injEq, V.ref.injEq, V.str.injEq, V.ty.injEq, List.cons.injEq, exists_eq_left', exists_eq_left, exists_eq_right, exists_and_left, exists_and_right, and_true, true_and, and_assoc, exists_const, decide_eq_true_eq, Bool.not_eq_true', Bool.not_true, Bool.not_false, Bool.not_not, decide_eq_false_iff_not, ite_not, Bool.false_eq_true, if_true, if_false, reduceCtorEq, and_false, false_and, exists_false, or_false, false_or, ↓reduceIte, eq_self, reduceIte]
  exact q
theorem ok_law_number (F : Fun K "_law_number" "_law_number" s_law_number f fd) (M : Mg mg) (C_law_mix : Cal P w K mg base CX0 "_law_mix" 1 ["_law_cell", "_law_by"] spMix) : FnOk P w K mg base CX0 2 f fd ["_law_cell"] (spNumber K) := by
  refine F.ok sc_law_number (fun vs H Q E h => ?_) (fun cdv A outer s H vs Q E hr h => ?_)
  · obtain ⟨c, rfl, _⟩ := h
    rfl
  obtain ⟨c, rfl, q⟩ := h
  refine ⟨_, (@pss_cons _ _ _ _ _ (@ps_set _ _ 1 _ _ _ _ sc_law_number.nd rfl l_law_number_1 (@pe_op _ _ _ _ _ _ _ _ (@op_add _) (@pe_int _ _ _ _) (@pe_op _ _ _ _ _ _ _ _ (@op_mod _) (@pe_var _ 0 _ _ rfl v_law_number_0 dn__law_cell dc__law_cell) (@pe_int _ _ _ _))) (swap1 rfl) (.inl rfl)) (@pss_cons _ _ _ _ _ (@ps_set _ _ 2 _ _ _ _ sc_law_number.nd rfl l_law_number_2 (@pe_menu _ _ _ _ _ _ _ (@pa_cons _ _ _ _ _ (@pe_int _ _ _ _) (@pa_cons _ _ _ _ _ (@pe_int _ _ _ _) (@pa_cons _ _ _ _ _ (@pe_int _ _ _ _) (@pa_cons _ _ _ _ _ (@pe_int _ _ _ _) (@pa_nil _) (star1 rfl)) (star1 rfl)) (star1 rfl)) (star1 rfl)) (@pe_op _ _ _ _ _ _ _ _ (@op_mod _) (@pe_op _ _ _ _ _ _ _ _ (@op_fdivB _) (@pe_var _ 0 _ _ rfl v_law_number_0 dn__law_cell dc__law_cell) (@pe_int _ _ _ _)) (@pe_int _ _ _ _)) (fun _ _ => rfl)) (swap1 rfl) (.inl rfl)) (@pss_cons _ _ _ _ _ (@ps_set _ _ 3 _ _ _ _ sc_law_number.nd rfl l_law_number_3 (@pe_lst _ _ _ _ (@pa_cons _ _ _ _ _ (@pe_int _ _ _ _) (@pa_cons _ _ _ _ _ (@pe_int _ _ _ _) (@pa_cons _ _ _ _ _ (@pe_int _ _ _ _) (@pa_cons _ _ _ _ _ (@pe_int _ _ _ _) (@pa_nil _) (star1 rfl)) (star1 rfl)) (star1 rfl)) (star1 rfl))) (swap1 rfl) (.inl rfl)) (@pss_one _ _ _ (@ps_ret _ _ _ _ (@pe_callTy _ _ _ _ _ _ _ _ _ call_tupleL g_law_number_tuple M.m_tuple b_tuple (@pa_cons _ _ _ _ _ (@pe_comp _ _ _ _ _ _ _ _ _ _ _ _ _ _ _ rfl (CompOk.make (N' := ["_law_wide", "_law_by", "_law_cell", "_law_k"]) (ix := [2, 3, 0]) (nl := 1) (by rfl) (fm1 rfl (fm1 rfl (fm1 rfl fm0))) (by rfl) (by decide +kernel) rfl (by decide +kernel) rfl (And.intro ⟨rfl, .inl rfl, .inl rfl⟩ (And.intro ⟨rfl, .inl rfl, .inl rfl⟩ (And.intro ⟨rfl, .inl rfl, .inl rfl⟩ True.intro)))) (@pi_range1 _ _ _ _ _ _ g_law_number_range M.m_range (@pa_cons _ _ _ _ _ (@pe_var _ 1 _ _ rfl v_law_number_1 dn__law_size dc__law_size) (@pa_nil _) (star1 rfl)) (star1' rfl)) (fun _ _ _ _ _ => (@pg_name _ _ 3 _ (show List.Nodup (["_law_wide", "_law_by", "_law_cell", "_law_k"] : List Str) from by decide) rfl (Or.inl rfl) (by first | exact .inl rfl | exact .inr rfl | assumption))) (fun _ _ _ _ _ => (@pif_nil _)) (fun _ _ _ _ _ => (@pe_op _ _ _ _ _ _ _ _ (@op_add _) (@pe_int _ _ _ _) (@pe_op _ _ _ _ _ _ _ _ (@op_mod _) (@pe_callC _ _ _ _ _ _ _ _ _ _ _ C_law_mix hr rfl (@pa_cons _ _ _ _ _ (@pe_op _ _ _ _ _ _ _ _ (@op_add _) (@pe_op _ _ _ _ _ _ _ _ (@op_fdivB _) (@pv _ 2 _ _ (by rfl) (by first | exact Or.inl rfl | exact Or.inr (Or.inl rfl) | exact Or.inr (Or.inr rfl)) (by decide) (by decide)) (@pe_int _ _ _ _)) (@pe_op _ _ _ _ _ _ _ _ (@op_mulB _) (@pe_int _ _ _ _) (@pv _ 3 _ _ (by rfl) (by first | exact Or.inl rfl | exact Or.inr (Or.inl rfl) | exact Or.inr (Or.inr rfl)) (by decide) (by decide)))) (@pa_cons _ _ _ _ _ (@pe_ix _ _ _ _ _ _ _ (@ix_listK _ K rfl) (@pv _ 1 _ _ (by rfl) (by first | exact Or.inl rfl | exact Or.inr (Or.inl rfl) | exact Or.inr (Or.inr rfl)) (by decide) (by decide)) (@pv _ 3 _ _ (by rfl) (by first | exact Or.inl rfl | exact Or.inr (Or.inl rfl) | exact Or.inr (Or.inr rfl)) (by decide) (by decide)) (fun _ _ => rfl)) (@pa_nil _) (star1 rfl)) (star1 rfl)) (by decide) dn__law_mix (star1 rfl) (nost1 rfl nost0)) (@pv _ 0 _ _ (by rfl) (by first | exact Or.inl rfl | exact Or.inr (Or.inl rfl) | exact Or.inr (Or.inr rfl)) (by decide) (by decide))))) (by intro _; rfl)) (@pa_nil _) (star1 rfl)) nn_tuple dn_tuple (star1 rfl) nost0)))))), ?_⟩
  have c0 := Int.emod_nonneg c (show (4 : Int) ≠ 0 by decide)
  have c1 := Int.emod_lt_of_pos c (show (0 : Int) < 4 by decide)
  have d0 := Int.emod_nonneg (c / 4) (show (4 : Int) ≠ 0 by decide)
  have d1 := Int.emod_lt_of_pos (c / 4) (show (0 : Int) < 4 by decide)
  obtain ⟨wd, hw⟩ : ∃ wd, ([V.int 2, V.int 2, V.int 3, V.int 99] : List V)[(c / 4 % 4).toNat]? = some wd := ⟨_, List.getElem?_eq_getElem (by show (c / 4 % 4).toNat < 4; omega)⟩
  obtain ⟨wi, rfl, w1, w99⟩ : ∃ wi : Int, wd = .int wi ∧ 1 ≤ wi ∧ wi ≤ 99 := by
    have := List.mem_of_getElem? hw
    simp only [List.mem_cons, List.not_mem_nil, or_false] at this
    rcases this with rfl | rfl | rfl | rfl <;> exact ⟨_, rfl, by decide, by decide⟩
  simp only [tTurn, rTurnT, tTryS, rCountT, rPop, rRep, tCont, iZipT, tChain3, tFld, sFld, tMake, tMake0, tMethD, tBM0, rUpper, tDict1T, tTryN, rSlS, rMulS, rCatS, iZipL, rInsert, rReverse, tDNewX, tTry, tRaise, iEnumL, iEnumT, iZip, iSeq, iOr, rIx, iStr, rLeS, rJoin, rSlTA, tComp_eq, tComp1, slots, Option.getD_some, Option.getD_none, tYes, tSeq, tAsg, gName, tOp, tUn, tC, tVar, tCB, tCons, tNil, tCall, rI, rI0, rU, tRet, tRetN, tIfS, tTest, tB, tAnd, tOr, tNot, tAndV, tOrV, tNotV, tIf, tChain, tMenu, tPar, tDrop, tTup, tLst, tNext, tSl, tPart, tNoPart, tNever, gTup, gCons, gNil, gSub, rSetL, tBM, rAppend, rEq, rNe, rIsi, rIxL, rIxT, rIxS, rSlL, isi_non_bl, isi_non_int, isi_non_str, isi_non_lst, isi_non_tup, isi_bl_bl, isi_bl_int, isi_bl_str, isi_bl_lst, isi_bl_tup, isi_int_bl, isi_int_int, isi_int_str, isi_int_lst, isi_int_tup, isi_str_bl, isi_str_int, isi_str_str, isi_str_lst, isi_str_tup, isi_lst_bl, isi_lst_int, isi_lst_str, isi_lst_lst, isi_lst_tup, isi_tup_bl, isi_tup_int, isi_tup_str, isi_tup_lst, isi_tup_tup, isi_dct_bl, isi_dct_int, isi_dct_str, isi_dct_lst, isi_dct_tup, Kd_non, Kd_bl, Kd_int, Kd_str, sc_non_non, sc_non_int, sc_int_non, sc_non_bl, sc_bl_non, sc_non_str, sc_str_non, sc_int_int, sc_bl_bl, sc_str_str, sc_int_str, sc_str_int, sc_bl_str, sc_str_bl, decide_true, decide_false, tFor_eq, iList, iTup, iRng1, iRng2, iRng3, rIndexT, tBM0, tBMT, tyK_int, tyK_bool, tyK_str, tyK_list, tyK_tuple, L2.start, cxK, Int.reduceToNat, List.map_cons, List.map_nil, List.length_cons, List.length_nil, Nat.reduceAdd, Nat.reduceSub, Nat.zero_add, List.replicate_succ, List.replicate_zero, List.cons_append, List.nil_append, List.append_nil, List.getElem?_cons_zero, List.getElem?_cons_succ, List.set_cons_zero, List.set_cons_succ, Option.some.injEq, V.int.injEq, V.bl.injEq, V.ref.injEq, V.str.injEq, V.ty.injEq, List.cons.injEq, exists_eq_left', exists_eq_left, exists_eq_right, exists_and_left, exists_and_right, and_true, true_and, and_assoc, exists_const, decide_eq_true_eq, Bool.not_eq_true', Bool.not_true, Bool.not_false, Bool.not_not, decide_eq_false_iff_not, ite_not, Bool.false_eq_true, if_true, if_false, reduceCtorEq, and_false, false_and, exists_false, or_false, false_or, ↓reduceIte, eq_self, reduceIte]
  refine ⟨by decide, by decide, cdiv (by decide) (by decide), by decide, by omega, _, hw, by decide, fun bl hbl => ?_⟩
  obtain ⟨H1, g1, S1, L1⟩ := fresh_lst (K := K) hbl [.int 48271, .int 69621, .int 16807, .int 39373]
  rw [← g1]
  clear g1
  refine ⟨by omega, by omega, fun D hD => ?_⟩
  obtain ⟨Pc, hC⟩ : ∃ Pc : Nat → St → Hp → Prop, Pc = fun i τ H' => ∃ (ks : List Int) (z : Option V), H' D = some (.lst (ks.map V.int)) ∧ ks.length = i ∧ (∀ i ∈ ks, 1 ≤ i ∧ i ≤ 99) ∧ Same H1 H' ∧ τ = [some (.int wi), some (.ref bl), some (.int c), z] := ⟨_, rfl⟩
  refine compS_range Pc ?_ ?_ ?_
  · rw [hC]
    exact ⟨[], _, upd_same, rfl, (fun _ h => by cases h), same_new hD _, rfl⟩
  · intro i τ H' R hi g next
    rw [hC] at g
    obtain ⟨ks, z, e1, kl, ki, e, rfl⟩ := g
    have hi4 : i < 4 := by omega
    obtain ⟨bv, hb⟩ : ∃ bv, ([V.int 48271, V.int 69621, V.int 16807, V.int 39373] : List V)[i]? = some bv := ⟨_, List.getElem?_eq_getElem hi4⟩
    obtain ⟨b, rfl, b0, b1⟩ : ∃ b : Int, bv = .int b ∧ 0 ≤ b ∧ b ≤ 100000 := by
      have := List.mem_of_getElem? hb
      simp only [List.mem_cons, List.not_mem_nil, or_false] at this
      rcases this with rfl | rfl | rfl | rfl <;> exact ⟨_, rfl, by decide, by decide⟩
    have hb' : atI [V.int 48271, V.int 69621, V.int 16807, V.int 39373] (0 + (i : Int)) = some (.int b) := by
      rw [Int.zero_add]
      exact atI_nat hb
    simp only [tTurn, rTurnT, tTryS, rCountT, rPop, rRep, tCont, iZipT, tChain3, tFld, sFld, tMake, tMake0, tMethD, tBM0, rUpper, tDict1T, tTryN, rSlS, rMulS, rCatS, iZipL, rInsert, rReverse, tDNewX, tTry, tRaise, iEnumL, iEnumT, iZip, iSeq, iOr, rIx, iStr, rLeS, rJoin, rSlTA, tComp_eq, tComp1, slots, Option.getD_some, Option.getD_none, tYes, tSeq, tAsg, gName, tOp, tUn, tC, tVar, tCB, tCons, tNil, tCall, rI, rI0, rU, tRet, tRetN, tIfS, tTest, tB, tAnd, tOr, tNot, tAndV, tOrV, tNotV, tIf, tChain, tMenu, tPar, tDrop, tTup, tLst, tNext, tSl, tPart, tNoPart, tNever, gTup, gCons, gNil, gSub, rSetL, tBM, rAppend, rEq, rNe, rIsi, rIxL, rIxT, rIxS, rSlL, isi_non_bl, isi_non_int, isi_non_str, isi_non_lst, isi_non_tup, isi_bl_bl, isi_bl_int, isi_bl_str, isi_bl_lst, isi_bl_tup, isi_int_bl, isi_int_int, isi_int_str, isi_int_lst, isi_int_tup, isi_str_bl, isi_str_int, isi_str_str, isi_str_lst, isi_str_tup, isi_lst_bl, isi_lst_int, isi_lst_str, isi_lst_lst, isi_lst_tup, isi_tup_bl, isi_tup_int, isi_tup_str, isi_tup_lst, isi_tup_tup, isi_dct_bl, isi_dct_int, isi_dct_str, isi_dct_lst, isi_dct_tup, Kd_non, Kd_bl, Kd_int, Kd_str, sc_non_non, sc_non_int, sc_int_non, sc_non_bl, sc_bl_non, sc_non_str, sc_str_non, sc_int_int, sc_bl_bl, sc_str_str, sc_int_str, sc_str_int, sc_bl_str, sc_str_bl, decide_true, decide_false, tFor_eq, iList, iTup, iRng1, iRng2, iRng3, rIndexT, tBM0, tBMT, tyK_int, tyK_bool, tyK_str, tyK_list, tyK_tuple, L2.start, cxK, Int.reduceToNat, List.map_cons, List.map_nil, List.length_cons, List.length_nil, Nat.reduceAdd, Nat.reduceSub, Nat.zero_add, List.replicate_succ, List.replicate_zero, List.cons_append, List.nil_append, List.append_nil, List.getElem?_cons_zero, List.getElem?_cons_succ, List.set_cons_zero, List.set_cons_succ, Option.some.injEq, V.int.injEq, V.bl.injEq, V.ref.injEq, V.str.injEq, V.ty.injEq, List.cons.injEq, exists_eq_left', exists_eq_left, exists_eq_right, exists_and_left, exists_and_right, and_true, true_and, and_assoc, exists_const, decide_eq_true_eq, Bool.not_eq_true', Bool.not_true, Bool.not_false, Bool.not_not, decide_eq_false_iff_not, ite_not, Bool.false_eq_true, if_true, if_false, reduceCtorEq, and_false, false_and, exists_false, or_false, false_or, ↓reduceIte, eq_self, reduceIte]
    refine ⟨cdiv (by decide) (by decide), cmul (by decide) (by decide) (by omega) (by omega), _, e.seq L1, _, hb', _, _, rfl, b0, b1, fun v v0 v1 => ⟨_, rfl, by omega, _, e1, by rw [List.length_map]; exact Nat.lt_of_lt_of_le (m := 64) (by omega) (by decide), next _ _ ?_⟩⟩
    have x0 := Int.emod_nonneg v (show wi ≠ 0 by omega)
    have x1 := Int.emod_lt_of_pos v (show 0 < wi by omega)
    rw [hC]
    refine ⟨ks ++ [1 + v % wi], _, by rw [upd_same, List.map_append]; rfl, by rw [List.length_append, kl]; rfl, fun j hj => ?_, same_upd e hD _, rfl⟩
    rcases List.mem_append.mp hj with hj | hj
    · exact ki j hj
    · rw [List.mem_singleton.mp hj]
      omega
  · intro τ H' g
    rw [hC] at g
    obtain ⟨ks, z, e1, kl, ki, e, rfl⟩ := g
    refine ⟨_, rfl, _, SqL.of e1, fun t ht => ?_⟩
    exact q _ ks _ (S1.trans (e.trans (same_new ht _))) upd_same (by omega) (by omega) ki
theorem ok_law_lands (F : Fun K "_law_lands" "_law_lands" s_law_lands f fd) (M : Mg mg) (C_law_mix : Cal P w K mg base CX0 "_law_mix" 1 ["_law_cell", "_law_by"] spMix) : FnOk P w K mg base CX0 2 f fd ["_law_cell"] (spLands K) := by
  refine F.ok sc_law_lands (fun vs H Q E h => ?_) (fun cdv A outer s H vs Q E hr h => ?_)
  · obtain ⟨c, rfl, _⟩ := h
    rfl
  obtain ⟨c, rfl, q⟩ := h
  refine ⟨_, (@pss_cons _ _ _ _ _ (@ps_set _ _ 1 _ _ _ _ sc_law_lands.nd rfl l_law_lands_1 (@pe_str _ _ _ _) (swap1 rfl) (.inl rfl)) (@pss_cons _ _ _ _ _ (@ps_set _ _ 2 _ _ _ _ sc_law_lands.nd rfl l_law_lands_2 (@pe_lst _ _ _ _ (@pa_cons _ _ _ _ _ (@pe_int _ _ _ _) (@pa_cons _ _ _ _ _ (@pe_int _ _ _ _) (@pa_cons _ _ _ _ _ (@pe_int _ _ _ _) (@pa_cons _ _ _ _ _ (@pe_int _ _ _ _) (@pa_cons _ _ _ _ _ (@pe_int _ _ _ _) (@pa_cons _ _ _ _ _ (@pe_int _ _ _ _) (@pa_cons _ _ _ _ _ (@pe_int _ _ _ _) (@pa_cons _ _ _ _ _ (@pe_int _ _ _ _) (@pa_nil _) (star1 rfl)) (star1 rfl)) (star1 rfl)) (star1 rfl)) (star1 rfl)) (star1 rfl)) (star1 rfl)) (star1 rfl))) (swap1 rfl) (.inl rfl)) (@pss_cons _ _ _ _ _ (@ps_set _ _ 3 _ _ _ _ sc_law_lands.nd rfl l_law_lands_3 (@pe_comp _ _ _ _ _ _ _ _ _ _ _ _ _ _ _ rfl (CompOk.make (N' := ["_law_cell", "_law_by", "_law_k"]) (ix := [0, 2]) (nl := 1) (by rfl) (fm1 rfl (fm1 rfl fm0)) (by rfl) (by decide +kernel) rfl (by decide +kernel) rfl (And.intro ⟨rfl, .inl rfl, .inl rfl⟩ (And.intro ⟨rfl, .inl rfl, .inl rfl⟩ True.intro))) (@pi_range1 _ _ _ _ _ _ g_law_lands_range M.m_range (@pa_cons _ _ _ _ _ (@pe_int _ _ _ _) (@pa_nil _) (star1 rfl)) (star1' rfl)) (fun _ _ _ _ _ => (@pg_name _ _ 2 _ (show List.Nodup (["_law_cell", "_law_by", "_law_k"] : List Str) from by decide) rfl (Or.inl rfl) (by first | exact .inl rfl | exact .inr rfl | assumption))) (fun _ _ _ _ _ => (@pif_nil _)) (fun _ _ _ _ _ => (@pe_op _ _ _ _ _ _ _ _ (@op_mod _) (@pe_callC _ _ _ _ _ _ _ _ _ _ _ C_law_mix hr rfl (@pa_cons _ _ _ _ _ (@pe_op _ _ _ _ _ _ _ _ (@op_add _) (@pv _ 0 _ _ (by rfl) (by first | exact Or.inl rfl | exact Or.inr (Or.inl rfl) | exact Or.inr (Or.inr rfl)) (by decide) (by decide)) (@pv _ 2 _ _ (by rfl) (by first | exact Or.inl rfl | exact Or.inr (Or.inl rfl) | exact Or.inr (Or.inr rfl)) (by decide) (by decide))) (@pa_cons _ _ _ _ _ (@pe_ix _ _ _ _ _ _ _ (@ix_listK _ K rfl) (@pv _ 1 _ _ (by rfl) (by first | exact Or.inl rfl | exact Or.inr (Or.inl rfl) | exact Or.inr (Or.inr rfl)) (by decide) (by decide)) (@pv _ 2 _ _ (by rfl) (by first | exact Or.inl rfl | exact Or.inr (Or.inl rfl) | exact Or.inr (Or.inr rfl)) (by decide) (by decide)) (fun _ _ => rfl)) (@pa_nil _) (star1 rfl)) (star1 rfl)) (by decide) dn__law_mix (star1 rfl) (nost1 rfl nost0)) (@pe_int _ _ _ _))) (by intro _; rfl)) (by rfl) (.inl rfl)) (@pss_cons _ _ _ _ _ (@ps_set _ _ 4 _ _ _ _ sc_law_lands.nd rfl l_law_lands_4 (@pe_menu _ _ _ _ _ _ _ (@pa_cons _ _ _ _ _ (@pe_int _ _ _ _) (@pa_cons _ _ _ _ _ (@pe_int _ _ _ _) (@pa_cons _ _ _ _ _ (@pe_int _ _ _ _) (@pa_nil _) (star1 rfl)) (star1 rfl)) (star1 rfl)) (@pe_op _ _ _ _ _ _ _ _ (@op_mod _) (@pe_op _ _ _ _ _ _ _ _ (@op_fdivB _) (@pe_var _ 0 _ _ rfl v_law_lands_0 dn__law_cell dc__law_cell) (@pe_int _ _ _ _)) (@pe_int _ _ _ _)) (fun _ _ => rfl)) (swap1 rfl) (.inl rfl)) (@pss_cons _ _ _ _ _ (@ps_if _ _ _ _ _ _ _ _ (@pt_cmpR _ _ _ _ _ _ _ _ (@op_eq _) (@pe_op _ _ _ _ _ _ _ _ (@op_mod _) (@pe_var _ 0 _ _ rfl v_law_lands_0 dn__law_cell dc__law_cell) (@pe_int _ _ _ _)) (@pe_int _ _ _ _) (nomark _)) (@pss_one _ _ _ (@ps_ret _ _ _ _ (@pe_comp _ _ _ _ _ _ _ _ _ _ _ _ _ _ _ rfl (CompOk.make (N' := ["_law_letters", "_law_base", "_law_k"]) (ix := [1, 3]) (nl := 1) (by rfl) (fm1 rfl (fm1 rfl fm0)) (by rfl) (by decide +kernel) rfl (by decide +kernel) rfl (And.intro ⟨rfl, .inl rfl, .inl rfl⟩ (And.intro ⟨rfl, .inl rfl, .inl rfl⟩ True.intro))) (@pi_range1 _ _ _ _ _ _ g_law_lands_range M.m_range (@pa_cons _ _ _ _ _ (@pe_var _ 4 _ _ rfl v_law_lands_4 dn__law_many dc__law_many) (@pa_nil _) (star1 rfl)) (star1' rfl)) (fun _ _ _ _ _ => (@pg_name _ _ 2 _ (show List.Nodup (["_law_letters", "_law_base", "_law_k"] : List Str) from by decide) rfl (Or.inl rfl) (by first | exact .inl rfl | exact .inr rfl | assumption))) (fun _ _ _ _ _ => (@pif_nil _)) (fun _ _ _ _ _ => (@pe_bmK _ K _ _ _ _ _ _ _ _ _ _ _ rfl PySem.F.plainAttrs_str PySem.F.slot_str_join PySem.F.type_str_join (mt_joinK (K := K) rfl) (@pe_str _ _ _ _) (@pa_cons _ _ _ _ _ (@pe_comp _ _ _ _ _ _ _ _ _ _ _ _ _ _ _ rfl (CompOk.make (N' := ["_law_letters", "_law_n"]) (ix := [0]) (nl := 1) (by rfl) (fm1 rfl fm0) (by rfl) (by decide +kernel) rfl (by decide +kernel) rfl (And.intro ⟨rfl, (by first | exact .inl rfl | exact .inr rfl), (by first | exact .inl rfl | exact .inr rfl)⟩ True.intro)) (@pi_listK _ K _ _ _ rfl (@pe_slice _ _ _ _ _ _ _ _ _ _ (sl_listK (K := K) rfl) (@pv _ 1 _ _ (by rfl) (by first | exact Or.inl rfl | exact Or.inr (Or.inl rfl) | exact Or.inr (Or.inr rfl)) (by decide) (by decide)) (@po_none _) (@po_some _ _ _ (@pe_op _ _ _ _ _ _ _ _ (@op_add _) (@pv _ 2 _ _ (by rfl) (by first | exact Or.inl rfl | exact Or.inr (Or.inl rfl) | exact Or.inr (Or.inr rfl)) (by decide) (by decide)) (@pe_int _ _ _ _))))) (fun _ _ _ _ _ => (@pg_name _ _ 1 _ (show List.Nodup (["_law_letters", "_law_n"] : List Str) from by decide) rfl (Or.inl rfl) (by first | exact .inl rfl | exact .inr rfl | assumption))) (fun _ _ _ _ _ => (@pif_nil _)) (fun _ _ _ _ _ => (@pe_ix _ _ _ _ _ _ _ ix_str (@pv _ 0 _ _ (by rfl) (by first | exact Or.inl rfl | exact Or.inr (Or.inl rfl) | exact Or.inr (Or.inr rfl)) (by decide) (by decide)) (@pv _ 1 _ _ (by rfl) (by first | exact Or.inl rfl | exact Or.inr (Or.inl rfl) | exact Or.inr (Or.inr rfl)) (by decide) (by decide)) (fun _ _ => rfl))) (by intro _; rfl)) (@pa_nil _) (star1 rfl)) (by rfl) (by rfl) (by rfl) (by rfl) (by rfl))) (by intro _; rfl)))) (@pss_nil _)) (@pss_cons _ _ _ _ _ (@ps_set _ _ 5 _ _ _ _ sc_law_lands.nd rfl l_law_lands_5 (@pe_op _ _ _ _ _ _ _ _ (@op_add _) (@pe_int _ _ _ _) (@pe_op _ _ _ _ _ _ _ _ (@op_mod _) (@pe_op _ _ _ _ _ _ _ _ (@op_fdivB _) (@pe_var _ 0 _ _ rfl v_law_lands_0 dn__law_cell dc__law_cell) (@pe_int _ _ _ _)) (@pe_int _ _ _ _))) (swap1 rfl) (.inl rfl)) (@pss_cons _ _ _ _ _ (@ps_set _ _ 6 _ _ _ _ sc_law_lands.nd rfl l_law_lands_6 (@pe_op _ _ _ _ _ _ _ _ (@op_mod _) (@pe_op _ _ _ _ _ _ _ _ (@op_fdivB _) (@pe_var _ 0 _ _ rfl v_law_lands_0 dn__law_cell dc__law_cell) (@pe_int _ _ _ _)) (@pe_var _ 5 _ _ rfl v_law_lands_5 dn__law_size dc__law_size)) (swap1 rfl) (.inl rfl)) (@pss_cons _ _ _ _ _ (@ps_set _ _ 7 _ _ _ _ sc_law_lands.nd rfl l_law_lands_7 (@pe_lst _ _ _ _ (@pa_nil _)) (swap1 rfl) (.inl rfl)) (@pss_cons _ _ _ _ _ (@ps_for _ _ _ _ _ _ _ _ PassesOwn.never rfl (@pi_range1 _ _ _ _ _ _ g_law_lands_range M.m_range (@pa_cons _ _ _ _ _ (@pe_var _ 4 _ _ rfl v_law_lands_4 dn__law_many dc__law_many) (@pa_nil _) (star1 rfl)) (star1' rfl)) (@pg_name _ _ 8 _ sc_law_lands.nd rfl l_law_lands_8 (.inl rfl)) (@pss_cons _ _ _ _ _ (@ps_set _ _ 9 _ _ _ _ sc_law_lands.nd rfl l_law_lands_9 (@pe_slice _ _ _ _ _ _ _ _ _ _ (@sl_list _) (@pe_var _ 3 _ _ rfl v_law_lands_3 dn__law_base dc__law_base) (@po_none _) (@po_some _ _ _ (@pe_var _ 5 _ _ rfl v_law_lands_5 dn__law_size dc__law_size))) (swap1 rfl) (.inl rfl)) (@pss_cons _ _ _ _ _ (@ps_asg _ _ _ _ _ _ (@pe_op _ _ _ _ _ _ _ _ (@op_mod _) (@pe_op _ _ _ _ _ _ _ _ (@op_add _) (@pe_ix _ _ _ _ _ _ _ (@ix_list _) (@pe_var _ 9 _ _ rfl v_law_lands_9 dn__law_row dc__law_row) (@pe_var _ 6 _ _ rfl v_law_lands_6 dn__law_at dc__law_at) (fun _ _ => rfl)) (@pe_op _ _ _ _ _ _ _ _ (@op_mulB _) (@pe_int _ _ _ _) (@pe_var _ 8 _ _ rfl v_law_lands_8 dn__law_k dc__law_k))) (@pe_int _ _ _ _)) (@pg_sub _ _ _ _ _ _ _ (@pe_var _ 9 _ _ rfl v_law_lands_9 dn__law_row dc__law_row) (@pe_var _ 6 _ _ rfl v_law_lands_6 dn__law_at dc__law_at) set_list (by intro _; rfl)) (by rfl) (by rfl) (by rfl)) (@pss_one _ _ _ (@ps_expr _ _ _ _ (@pe_bm _ _ _ _ _ _ _ _ _ _ _ _ PySem.F.plainAttrs_list PySem.F.slot_list_append PySem.F.type_list_append mt_append (@pe_var _ 7 _ _ rfl v_law_lands_7 dn__law_names dc__law_names) (@pa_cons _ _ _ _ _ (@pe_bm _ _ _ _ _ _ _ _ _ _ _ _ PySem.F.plainAttrs_str PySem.F.slot_str_join PySem.F.type_str_join mt_join (@pe_str _ _ _ _) (@pa_cons _ _ _ _ _ (@pe_comp _ _ _ _ _ _ _ _ _ _ _ _ _ _ _ rfl (CompOk.make (N' := ["_law_letters", "_law_n"]) (ix := [1]) (nl := 1) (by rfl) (fm1 rfl fm0) (by rfl) (by decide +kernel) rfl (by decide +kernel) rfl (And.intro ⟨rfl, .inl rfl, .inl rfl⟩ True.intro)) (@pi_list _ _ _ _ (@pe_var _ 9 _ _ rfl v_law_lands_9 dn__law_row dc__law_row)) (fun _ _ _ _ _ => (@pg_name _ _ 1 _ (show List.Nodup (["_law_letters", "_law_n"] : List Str) from by decide) rfl (Or.inl rfl) (by first | exact .inl rfl | exact .inr rfl | assumption))) (fun _ _ _ _ _ => (@pif_nil _)) (fun _ _ _ _ _ => (@pe_ix _ _ _ _ _ _ _ ix_str (@pv _ 0 _ _ (by rfl) (by first | exact Or.inl rfl | exact Or.inr (Or.inl rfl) | exact Or.inr (Or.inr rfl)) (by decide) (by decide)) (@pv _ 1 _ _ (by rfl) (by first | exact Or.inl rfl | exact Or.inr (Or.inl rfl) | exact Or.inr (Or.inr rfl)) (by decide) (by decide)) (fun _ _ => rfl))) (by intro _; rfl)) (@pa_nil _) (star1 rfl)) (by rfl) (by rfl) (by rfl) (by rfl) (by rfl)) (@pa_nil _) (star1 rfl)) (by rfl) (by rfl) (by rfl) (by rfl) (by rfl)) (swap1 rfl))))) (by intro _; rfl)) (@pss_one _ _ _ (@ps_ret _ _ _ _ (@pe_var _ 7 _ _ rfl v_law_lands_7 dn__law_names dc__law_names)))))))))))), ?_⟩
  have n0 := Int.emod_nonneg (c / 2) (show (3 : Int) ≠ 0 by decide)
  have n1 := Int.emod_lt_of_pos (c / 2) (show (0 : Int) < 3 by decide)
  obtain ⟨wd, hw⟩ : ∃ wd, ([V.int 4, V.int 4, V.int 7] : List V)[(c / 2 % 3).toNat]? = some wd := ⟨_, List.getElem?_eq_getElem (by show (c / 2 % 3).toNat < 3; omega)⟩
  obtain ⟨mn, rfl, mn1, mn7⟩ : ∃ mn : Int, wd = .int mn ∧ 1 ≤ mn ∧ mn ≤ 7 := by
    have := List.mem_of_getElem? hw
    simp only [List.mem_cons, List.not_mem_nil, or_false] at this
    rcases this with rfl | rfl | rfl <;> exact ⟨_, rfl, by decide, by decide⟩
  simp only [tTurn, rTurnT, tTryS, rCountT, rPop, rRep, tCont, iZipT, tChain3, tFld, sFld, tMake, tMake0, tMethD, tBM0, rUpper, tDict1T, tTryN, rSlS, rMulS, rCatS, iZipL, rInsert, rReverse, tDNewX, tTry, tRaise, iEnumL, iEnumT, iZip, iSeq, iOr, rIx, iStr, rLeS, rJoin, rSlTA, tComp_eq, tComp1, slots, Option.getD_some, Option.getD_none, tYes, tSeq, tAsg, gName, tOp, tUn, tC, tVar, tCB, tCons, tNil, tCall, rI, rI0, rU, tRet, tRetN, tIfS, tTest, tB, tAnd, tOr, tNot, tAndV, tOrV, tNotV, tIf, tChain, tMenu, tPar, tDrop, tTup, tLst, tNext, tSl, tPart, tNoPart, tNever, gTup, gCons, gNil, gSub, rSetL, tBM, rAppend, rEq, rNe, rIsi, rIxL, rIxT, rIxS, rSlL, isi_non_bl, isi_non_int, isi_non_str, isi_non_lst, isi_non_tup, isi_bl_bl, isi_bl_int, isi_bl_str, isi_bl_lst, isi_bl_tup, isi_int_bl, isi_int_int, isi_int_str, isi_int_lst, isi_int_tup, isi_str_bl, isi_str_int, isi_str_str, isi_str_lst, isi_str_tup, isi_lst_bl, isi_lst_int, isi_lst_str, isi_lst_lst, isi_lst_tup, isi_tup_bl, isi_tup_int, isi_tup_str, isi_tup_lst, isi_tup_tup, isi_dct_bl, isi_dct_int, isi_dct_str, isi_dct_lst, isi_dct_tup, Kd_non, Kd_bl, Kd_int, Kd_str, sc_non_non, sc_non_int, sc_int_non, sc_non_bl, sc_bl_non, sc_non_str, sc_str_non, sc_int_int, sc_bl_bl, sc_str_str, sc_int_str, sc_str_int, sc_bl_str, sc_str_bl, decide_true, decide_false, tFor_eq, iList, iTup, iRng1, iRng2, iRng3, rIndexT, tBM0, tBMT, tyK_int, tyK_bool, tyK_str, tyK_list, tyK_tuple, L2.start, cxK, Int.reduceToNat, List.map_cons, List.map_nil, List.length_cons, List.length_nil, Nat.reduceAdd, Nat.reduceSub, Nat.zero_add, List.replicate_succ, List.replicate_zero, List.cons_append, List.nil_append, List.append_nil, List.getElem?_cons_zero, List.getElem?_cons_succ, List.set_cons_zero, List.set_cons_succ, Option.some.injEq, V.int.injEq, V.bl.injEq, V.ref.injEq, V.str.injEq, V.ty.injEq, List.cons.injEq, exists_eq_left', exists_eq_left, exists_eq_right, exists_and_left, exists_and_right, and_true, true_and, and_assoc, exists_const, decide_eq_true_eq, Bool.not_eq_true', Bool.not_true, Bool.not_false, Bool.not_not, decide_eq_false_iff_not, ite_not, Bool.false_eq_true, if_true, if_false, reduceCtorEq, and_false, false_and, exists_false, or_false, false_or, ↓reduceIte, eq_self, reduceIte]
  refine ⟨by decide, fun bl hbl => ?_⟩
  obtain ⟨H1, g1, S1, L1⟩ := fresh_lst (K := K) hbl [.int 48271, .int 69621, .int 16807, .int 39373, .int 40692, .int 52774, .int 45991, .int 62089]
  rw [← g1]
  clear g1
  refine ⟨by decide, by decide, fun B hB => ?_⟩
  obtain ⟨Pc, hC⟩ : ∃ Pc : Nat → St → Hp → Prop, Pc = fun i τ H' => ∃ (ks : List Int) (z : Option V), H' B = some (.lst (ks.map V.int)) ∧ ks.length = i ∧ (∀ i ∈ ks, 0 ≤ i ∧ i < 26) ∧ Same H1 H' ∧ τ = [some (.int c), some (.ref bl), z] := ⟨_, rfl⟩
  refine compS_range Pc ?_ ?_ ?_
  · rw [hC]
    exact ⟨[], _, upd_same, rfl, (fun _ h => by cases h), same_new hB _, rfl⟩
  · intro i τ H' R hi g next
    rw [hC] at g
    obtain ⟨ks, z, e1, kl, ki, e, rfl⟩ := g
    have hi8 : i < 8 := hi
    obtain ⟨bv, hb⟩ : ∃ bv, ([.int 48271, .int 69621, .int 16807, .int 39373, .int 40692, .int 52774, .int 45991, .int 62089] : List V)[i]? = some bv := ⟨_, List.getElem?_eq_getElem hi8⟩
    obtain ⟨b, rfl, b0, b1⟩ : ∃ b : Int, bv = .int b ∧ 0 ≤ b ∧ b ≤ 100000 := by
      have := List.mem_of_getElem? hb
      simp only [List.mem_cons, List.not_mem_nil, or_false] at this
      rcases this with rfl | rfl | rfl | rfl | rfl | rfl | rfl | rfl <;> exact ⟨_, rfl, by decide, by decide⟩
    have hb' : atI [.int 48271, .int 69621, .int 16807, .int 39373, .int 40692, .int 52774, .int 45991, .int 62089] (0 + (i : Int)) = some (V.int b) := by
      rw [Int.zero_add]
      exact atI_nat hb
    simp only [tTurn, rTurnT, tTryS, rCountT, rPop, rRep, tCont, iZipT, tChain3, tFld, sFld, tMake, tMake0, tMethD, tBM0, rUpper, tDict1T, tTryN, rSlS, rMulS, rCatS, iZipL, rInsert, rReverse, tDNewX, tTry, tRaise, iEnumL, iEnumT, iZip, iSeq, iOr, rIx, iStr, rLeS, rJoin, rSlTA, tComp_eq, tComp1, slots, Option.getD_some, Option.getD_none, tYes, tSeq, tAsg, gName, tOp, tUn, tC, tVar, tCB, tCons, tNil, tCall, rI, rI0, rU, tRet, tRetN, tIfS, tTest, tB, tAnd, tOr, tNot, tAndV, tOrV, tNotV, tIf, tChain, tMenu, tPar, tDrop, tTup, tLst, tNext, tSl, tPart, tNoPart, tNever, gTup, gCons, gNil, gSub, rSetL, tBM, rAppend, rEq, rNe, rIsi, rIxL, rIxT, rIxS, rSlL, isi_non_bl, isi_non_int, isi_non_str, isi_non_lst, isi_non_tup, isi_bl_bl, isi_bl_int, isi_bl_str, isi_bl_lst, isi_bl_tup, isi_int_bl, isi_int_int, isi_int_str, isi_int_lst, isi_int_tup, isi_str_bl, isi_str_int, isi_str_str, isi_str_lst, isi_str_tup, isi_lst_bl, isi_lst_int, isi_lst_str, isi_lst_lst, isi_lst_tup, isi_tup_bl, isi_tup_int, isi_tup_str, isi_tup_lst, isi_tup_tup, isi_dct_bl, isi_dct_int, isi_dct_str, isi_dct_lst, isi_dct_tup, Kd_non, Kd_bl, Kd_int, Kd_str, sc_non_non, sc_non_int, sc_int_non, sc_non_bl, sc_bl_non, sc_non_str, sc_str_non, sc_int_int, sc_bl_bl, sc_str_str, sc_int_str, sc_str_int, sc_bl_str, sc_str_bl, decide_true, decide_false, tFor_eq, iList, iTup, iRng1, iRng2, iRng3, rIndexT, tBM0, tBMT, tyK_int, tyK_bool, tyK_str, tyK_list, tyK_tuple, L2.start, cxK, Int.reduceToNat, List.map_cons, List.map_nil, List.length_cons, List.length_nil, Nat.reduceAdd, Nat.reduceSub, Nat.zero_add, List.replicate_succ, List.replicate_zero, List.cons_append, List.nil_append, List.append_nil, List.getElem?_cons_zero, List.getElem?_cons_succ, List.set_cons_zero, List.set_cons_succ, Option.some.injEq, V.int.injEq, V.bl.injEq, V.ref.injEq, V.str.injEq, V.ty.injEq, List.cons.injEq, exists_eq_left', exists_eq_left, exists_eq_right, exists_and_left, exists_and_right, and_true, true_and, and_assoc, exists_const, decide_eq_true_eq, Bool.not_eq_true', Bool.not_true, Bool.not_false, Bool.not_not, decide_eq_false_iff_not, ite_not, Bool.false_eq_true, if_true, if_false, reduceCtorEq, and_false, false_and, exists_false, or_false, false_or, ↓reduceIte, eq_self, reduceIte]
    refine ⟨_, e.seq L1, _, hb', _, _, rfl, b0, b1, fun v v0 v1 => ⟨_, rfl, by decide, _, e1, by rw [List.length_map]; exact Nat.lt_of_lt_of_le (m := 64) (by omega) (by decide), next _ _ ?_⟩⟩
    rw [hC]
    refine ⟨ks ++ [v % 26], _, by rw [upd_same, List.map_append]; rfl, by rw [List.length_append, kl]; rfl, fun j hj => ?_, same_upd e hB _, rfl⟩
    rcases List.mem_append.mp hj with hj | hj
    · exact ki j hj
    · rw [List.mem_singleton.mp hj]
      exact ⟨Int.emod_nonneg _ (by decide), Int.emod_lt_of_pos _ (by decide)⟩
  intro τ H2 g
  rw [hC] at g
  obtain ⟨bs, z, dB, bl8, bi, e2, rfl⟩ := g
  clear hC Pc
  have S02 := S1.trans e2
  refine ⟨by decide, cdiv (by decide) (by decide), by decide, by omega, _, hw, by decide, ?_⟩
  by_cases w3 : c % 3 = 0
  · rw [if_pos w3]
    refine ⟨_, rfl, by omega, by omega, fun D hD => ?_⟩
    obtain ⟨Pc, hC⟩ : ∃ Pc : Nat → St → Hp → Prop, Pc = fun i τ H' => ∃ (css : List (List Nat)) (z : Option V), H' D = some (.lst (css.map fun cs => V.str (txt cs))) ∧ css.length = i ∧ (∀ cs ∈ css, nameB cs = true) ∧ Same H2 H' ∧ τ = [some (.str lettersS), some (.ref B), z] := ⟨_, rfl⟩
    refine compS_range Pc ?_ ?_ ?_
    · rw [hC]
      exact ⟨[], _, upd_same, rfl, (fun _ h => by cases h), same_new hD _, rfl⟩
    · intro i τ H3 R hi g next
      rw [hC] at g
      obtain ⟨css, z, dD, cl, ci, e3, rfl⟩ := g
      have ec : cutV (bs.map V.int) none (some (0 + (i : Int) + 1)) = (bs.take (i + 1)).map V.int := by
        have := cut_to (xs := bs.map V.int) (n := i + 1)
        rw [List.map_take, ← this]
        congr 2
        omega
      simp only [tTurn, rTurnT, tTryS, rCountT, rPop, rRep, tCont, iZipT, tChain3, tFld, sFld, tMake, tMake0, tMethD, tBM0, rUpper, tDict1T, tTryN, rSlS, rMulS, rCatS, iZipL, rInsert, rReverse, tDNewX, tTry, tRaise, iEnumL, iEnumT, iZip, iSeq, iOr, rIx, iStr, rLeS, rJoin, rSlTA, tComp_eq, tComp1, slots, Option.getD_some, Option.getD_none, tYes, tSeq, tAsg, gName, tOp, tUn, tC, tVar, tCB, tCons, tNil, tCall, rI, rI0, rU, tRet, tRetN, tIfS, tTest, tB, tAnd, tOr, tNot, tAndV, tOrV, tNotV, tIf, tChain, tMenu, tPar, tDrop, tTup, tLst, tNext, tSl, tPart, tNoPart, tNever, gTup, gCons, gNil, gSub, rSetL, tBM, rAppend, rEq, rNe, rIsi, rIxL, rIxT, rIxS, rSlL, isi_non_bl, isi_non_int, isi_non_str, isi_non_lst, isi_non_tup, isi_bl_bl, isi_bl_int, isi_bl_str, isi_bl_lst, isi_bl_tup, isi_int_bl, isi_int_int, isi_int_str, isi_int_lst, isi_int_tup, isi_str_bl, isi_str_int, isi_str_str, isi_str_lst, isi_str_tup, isi_lst_bl, isi_lst_int, isi_lst_str, isi_lst_lst, isi_lst_tup, isi_tup_bl, isi_tup_int, isi_tup_str, isi_tup_lst, isi_tup_tup, isi_dct_bl, isi_dct_int, isi_dct_str, isi_dct_lst, isi_dct_tup, Kd_non, Kd_bl, Kd_int, Kd_str, sc_non_non, sc_non_int, sc_int_non, sc_non_bl, sc_bl_non, sc_non_str, sc_str_non, sc_int_int, sc_bl_bl, sc_str_str, sc_int_str, sc_str_int, sc_bl_str, sc_str_bl, decide_true, decide_false, tFor_eq, iList, iTup, iRng1, iRng2, iRng3, rIndexT, tBM0, tBMT, tyK_int, tyK_bool, tyK_str, tyK_list, tyK_tuple, L2.start, cxK, Int.reduceToNat, List.map_cons, List.map_nil, List.length_cons, List.length_nil, Nat.reduceAdd, Nat.reduceSub, Nat.zero_add, List.replicate_succ, List.replicate_zero, List.cons_append, List.nil_append, List.append_nil, List.getElem?_cons_zero, List.getElem?_cons_succ, List.set_cons_zero, List.set_cons_succ, Option.some.injEq, V.int.injEq, V.bl.injEq, V.ref.injEq, V.str.injEq, V.ty.injEq, List.cons.injEq, exists_eq_left', exists_eq_left, exists_eq_right, exists_and_left, exists_and_right, and_true, true_and, and_assoc, exists_const, decide_eq_true_eq, Bool.not_eq_true', Bool.not_true, Bool.not_false, Bool.not_not, decide_eq_false_iff_not, ite_not, Bool.false_eq_true, if_true, if_false, reduceCtorEq, and_false, false_and, exists_false, or_false, false_or, ↓reduceIte, eq_self, reduceIte]
      refine ⟨rfl, _, SqL.of (e3 _ _ dB), fun s1 hs1 => ?_⟩
      rw [ec]
      obtain ⟨H4, g4, S4, L4⟩ : ∃ H4, H4 = upd H3 s1 (.lst ((bs.take (i + 1)).map V.int)) ∧ Same H3 H4 ∧ H4 s1 = some (.lst ((bs.take (i + 1)).map V.int)) := ⟨_, rfl, same_new hs1 _, upd_same⟩
      rw [← g4]
      clear g4
      obtain ⟨ks, hks⟩ : ∃ ks, ks = bs.take (i + 1) := ⟨_, rfl⟩
      rw [← hks] at L4
      have hk : ∀ j ∈ ks, 0 ≤ j ∧ j < 26 := fun j hj => bi j (List.mem_of_mem_take (hks ▸ hj))
      have lk : ks.length = i + 1 := by rw [hks, List.length_take]; omega
      refine ⟨⟨_, SqL.of L4⟩, fun D2 hD2 => ?_⟩
      obtain ⟨Pd, hQ⟩ : ∃ Pd : Nat → St → Hp → Prop, Pd = fun j τ H5 => ∃ z, H5 D2 = some (.lst (((ks.map fun i => 97 + i.toNat).take j).map sgn)) ∧ Same H4 H5 ∧ τ = [some (.str lettersS), z] := ⟨_, rfl⟩
      refine compS_list (ks.map V.int) Pd ?_ (fun j τ H5 _ h => by rw [hQ] at h; obtain ⟨z, _, e, _⟩ := h; exact SqL.of (e _ _ L4)) ?_ ?_
      · rw [hQ]
        exact ⟨_, upd_same, same_new hD2 _, rfl⟩
      · intro j v τ H5 R5 hv h nx5
        rw [hQ] at h
        obtain ⟨z, c1, c2, rfl⟩ := h
        rw [List.getElem?_map] at hv
        obtain ⟨o, ho, rfl⟩ := Option.map_eq_some_iff.mp hv
        have oi := hk o (List.mem_of_getElem? ho)
        have lj := (List.getElem?_eq_some_iff.mp ho).1
        obtain ⟨r, hr'⟩ : ∃ r : Nat, o = (r : Int) := ⟨o.toNat, by omega⟩
        subst hr'
        simp only [tTurn, rTurnT, tTryS, rCountT, rPop, rRep, tCont, iZipT, tChain3, tFld, sFld, tMake, tMake0, tMethD, tBM0, rUpper, tDict1T, tTryN, rSlS, rMulS, rCatS, iZipL, rInsert, rReverse, tDNewX, tTry, tRaise, iEnumL, iEnumT, iZip, iSeq, iOr, rIx, iStr, rLeS, rJoin, rSlTA, tComp_eq, tComp1, slots, Option.getD_some, Option.getD_none, tYes, tSeq, tAsg, gName, tOp, tUn, tC, tVar, tCB, tCons, tNil, tCall, rI, rI0, rU, tRet, tRetN, tIfS, tTest, tB, tAnd, tOr, tNot, tAndV, tOrV, tNotV, tIf, tChain, tMenu, tPar, tDrop, tTup, tLst, tNext, tSl, tPart, tNoPart, tNever, gTup, gCons, gNil, gSub, rSetL, tBM, rAppend, rEq, rNe, rIsi, rIxL, rIxT, rIxS, rSlL, isi_non_bl, isi_non_int, isi_non_str, isi_non_lst, isi_non_tup, isi_bl_bl, isi_bl_int, isi_bl_str, isi_bl_lst, isi_bl_tup, isi_int_bl, isi_int_int, isi_int_str, isi_int_lst, isi_int_tup, isi_str_bl, isi_str_int, isi_str_str, isi_str_lst, isi_str_tup, isi_lst_bl, isi_lst_int, isi_lst_str, isi_lst_lst, isi_lst_tup, isi_tup_bl, isi_tup_int, isi_tup_str, isi_tup_lst, isi_tup_tup, isi_dct_bl, isi_dct_int, isi_dct_str, isi_dct_lst, isi_dct_tup, Kd_non, Kd_bl, Kd_int, Kd_str, sc_non_non, sc_non_int, sc_int_non, sc_non_bl, sc_bl_non, sc_non_str, sc_str_non, sc_int_int, sc_bl_bl, sc_str_str, sc_int_str, sc_str_int, sc_bl_str, sc_str_bl, decide_true, decide_false, tFor_eq, iList, iTup, iRng1, iRng2, iRng3, rIndexT, tBM0, tBMT, tyK_int, tyK_bool, tyK_str, tyK_list, tyK_tuple, L2.start, cxK, Int.reduceToNat, List.map_cons, List.map_nil, List.length_cons, List.length_nil, Nat.reduceAdd, Nat.reduceSub, Nat.zero_add, List.replicate_succ, List.replicate_zero, List.cons_append, List.nil_append, List.append_nil, List.getElem?_cons_zero, List.getElem?_cons_succ, List.set_cons_zero, List.set_cons_succ, Option.some.injEq, V.int.injEq, V.bl.injEq, V.ref.injEq, V.str.injEq, V.ty.injEq, List.cons.injEq, exists_eq_left', exists_eq_left, exists_eq_right, exists_and_left, exists_and_right, and_true, true_and, and_assoc, exists_const, decide_eq_true_eq, Bool.not_eq_true', Bool.not_true, Bool.not_false, Bool.not_not, decide_eq_false_iff_not, ite_not, Bool.false_eq_true, if_true, if_false, reduceCtorEq, and_false, false_and, exists_false, or_false, false_or, ↓reduceIte, eq_self, reduceIte]
        refine ⟨by decide, 97 + r, atI_nat (letters_at r (by omega)), _, c1, by rw [List.length_map, List.length_take, List.length_map]; exact Nat.lt_of_lt_of_le (m := 64) (by omega) (by decide), nx5 _ _ ?_⟩
        rw [hQ]
        refine ⟨_, ?_, same_upd c2 hD2 _, rfl⟩
        rw [upd_same, List.take_add_one, List.getElem?_map, ho, List.map_append]
        rfl
      intro τ5 H5 h5
      rw [hQ] at h5
      obtain ⟨z5, c1, c2, rfl⟩ := h5
      rw [List.length_map, List.take_of_length_le (by rw [List.length_map]; exact Nat.le_refl _)] at c1
      refine ⟨_, rfl, _, SqL.of c1, by rw [List.length_map]; omega, _, (S4.trans c2) _ _ dD, by rw [List.length_map]; exact Nat.lt_of_lt_of_le (m := 64) (by omega) (by decide), next _ _ ?_⟩
      rw [hC]
      refine ⟨css ++ [ks.map fun i => 97 + i.toNat], _, by rw [upd_same, List.map_append]; rfl, by rw [List.length_append, cl]; rfl, fun cs hcs => ?_, same_upd (e3.trans (S4.trans c2)) hD _, rfl⟩
      rcases List.mem_append.mp hcs with hcs | hcs
      · exact ci cs hcs
      · rw [List.mem_singleton.mp hcs]
        exact name_ints hk (by omega) (by omega)
    · intro τ H3 g
      rw [hC] at g
      obtain ⟨css, z, dD, cl, ci, e3, rfl⟩ := g
      exact q _ css _ (S02.trans e3) dD (by omega) (by omega) ci
  · rw [if_neg w3]
    have z0 := Int.emod_nonneg (c / 3) (show (8 : Int) ≠ 0 by decide)
    have z1 := Int.emod_lt_of_pos (c / 3) (show (0 : Int) < 8 by decide)
    have a0 := Int.emod_nonneg (c / 24) (show (1 + c / 3 % 8) ≠ 0 by omega)
    have a1 := Int.emod_lt_of_pos (c / 24) (show 0 < 1 + c / 3 % 8 by omega)
    refine ⟨cdiv (by decide) (by decide), by decide, cdiv (by decide) (by decide), by omega, by decide, fun p1 hp1 => ⟨_, rfl, by omega, by omega, ?_⟩⟩
    obtain ⟨sn, hsn⟩ : ∃ sn : Nat, 1 + c / 3 % 8 = (sn : Int) := ⟨(1 + c / 3 % 8).toNat, by omega⟩
    rw [hsn] at a0 a1
    rw [hsn]
    obtain ⟨an, han⟩ : ∃ an : Nat, c / 24 % (sn : Int) = (an : Int) := ⟨(c / 24 % (sn : Int)).toNat, by omega⟩
    rw [han] at a0 a1
    rw [han]
    obtain ⟨Pv, hP⟩ : ∃ Pv : Nat → St → Hp → Prop, Pv = fun i σ H' => ∃ (css : List (List Nat)) (y z : Option V), H' p1 = some (.lst (css.map fun cs => V.str (txt cs))) ∧ css.length = i ∧ (∀ cs ∈ css, nameB cs = true) ∧ Same H2 H' ∧ σ = [some (.int c), some (.str lettersS), some (.ref bl), some (.ref B), some (.int mn), some (.int sn), some (.int an), some (.ref p1), y, z] := ⟨_, rfl⟩
    refine forW_range Pv ?_ ?_ ?_
    · rw [hP]
      exact ⟨[], _, _, upd_same, rfl, (fun _ h => by cases h), same_new hp1 _, rfl⟩
    · intro i σ H3 hi g
      rw [hP] at g
      obtain ⟨css, y, z, dD, cl, ci, e3, rfl⟩ := g
      simp only [tTurn, rTurnT, tTryS, rCountT, rPop, rRep, tCont, iZipT, tChain3, tFld, sFld, tMake, tMake0, tMethD, tBM0, rUpper, tDict1T, tTryN, rSlS, rMulS, rCatS, iZipL, rInsert, rReverse, tDNewX, tTry, tRaise, iEnumL, iEnumT, iZip, iSeq, iOr, rIx, iStr, rLeS, rJoin, rSlTA, tComp_eq, tComp1, slots, Option.getD_some, Option.getD_none, tYes, tSeq, tAsg, gName, tOp, tUn, tC, tVar, tCB, tCons, tNil, tCall, rI, rI0, rU, tRet, tRetN, tIfS, tTest, tB, tAnd, tOr, tNot, tAndV, tOrV, tNotV, tIf, tChain, tMenu, tPar, tDrop, tTup, tLst, tNext, tSl, tPart, tNoPart, tNever, gTup, gCons, gNil, gSub, rSetL, tBM, rAppend, rEq, rNe, rIsi, rIxL, rIxT, rIxS, rSlL, isi_non_bl, isi_non_int, isi_non_str, isi_non_lst, isi_non_tup, isi_bl_bl, isi_bl_int, isi_bl_str, isi_bl_lst, isi_bl_tup, isi_int_bl, isi_int_int, isi_int_str, isi_int_lst, isi_int_tup, isi_str_bl, isi_str_int, isi_str_str, isi_str_lst, isi_str_tup, isi_lst_bl, isi_lst_int, isi_lst_str, isi_lst_lst, isi_lst_tup, isi_tup_bl, isi_tup_int, isi_tup_str, isi_tup_lst, isi_tup_tup, isi_dct_bl, isi_dct_int, isi_dct_str, isi_dct_lst, isi_dct_tup, Kd_non, Kd_bl, Kd_int, Kd_str, sc_non_non, sc_non_int, sc_int_non, sc_non_bl, sc_bl_non, sc_non_str, sc_str_non, sc_int_int, sc_bl_bl, sc_str_str, sc_int_str, sc_str_int, sc_bl_str, sc_str_bl, decide_true, decide_false, tFor_eq, iList, iTup, iRng1, iRng2, iRng3, rIndexT, tBM0, tBMT, tyK_int, tyK_bool, tyK_str, tyK_list, tyK_tuple, L2.start, cxK, Int.reduceToNat, List.map_cons, List.map_nil, List.length_cons, List.length_nil, Nat.reduceAdd, Nat.reduceSub, Nat.zero_add, List.replicate_succ, List.replicate_zero, List.cons_append, List.nil_append, List.append_nil, List.getElem?_cons_zero, List.getElem?_cons_succ, List.set_cons_zero, List.set_cons_succ, Option.some.injEq, V.int.injEq, V.bl.injEq, V.ref.injEq, V.str.injEq, V.ty.injEq, List.cons.injEq, exists_eq_left', exists_eq_left, exists_eq_right, exists_and_left, exists_and_right, and_true, true_and, and_assoc, exists_const, decide_eq_true_eq, Bool.not_eq_true', Bool.not_true, Bool.not_false, Bool.not_not, decide_eq_false_iff_not, ite_not, Bool.false_eq_true, if_true, if_false, reduceCtorEq, and_false, false_and, exists_false, or_false, false_or, ↓reduceIte, eq_self, reduceIte]
      refine ⟨_, SqL.of (e3 _ _ dB), fun s1 hs1 => ?_⟩
      rw [cut_to, ← List.map_take]
      have lt : (bs.take sn).length = sn := by rw [List.length_take]; omega
      obtain ⟨Hs, gs, Ss, Ls⟩ : ∃ Hs, Hs = upd H3 s1 (.lst ((bs.take sn).map V.int)) ∧ Same H3 Hs ∧ Hs s1 = some (.lst ((bs.take sn).map V.int)) := ⟨_, rfl, same_new hs1 _, upd_same⟩
      rw [← gs]
      clear gs
      refine ⟨_, SqL.of Ls, _, atI_map (by omega) (by omega), cmul (by decide) (by decide) (by omega) (by omega), _, rfl, by decide, ?_⟩
      obtain ⟨nv, hnv, nv0, nv1⟩ : ∃ nv : Int, ((bs.take sn).getD ((an : Nat) : Int).toNat 0 + 3 * (0 + (i : Int))) % 26 = nv ∧ 0 ≤ nv ∧ nv < 26 := ⟨_, rfl, Int.emod_nonneg _ (by decide), Int.emod_lt_of_pos _ (by decide)⟩
      rw [hnv]
      clear hnv
      refine ⟨_, Ls, an, ixN_nat (by rw [List.length_map]; omega), ?_⟩
      have es : ((bs.take sn).map V.int).set an (V.int nv) = ((bs.take sn).set an nv).map V.int := (List.map_set ..).symm
      rw [es]
      obtain ⟨ks, hks⟩ : ∃ ks, ks = (bs.take sn).set an nv := ⟨_, rfl⟩
      rw [← hks]
      have hk : ∀ j ∈ ks, 0 ≤ j ∧ j < 26 := fun j hj => by
        rw [hks] at hj
        rcases List.mem_or_eq_of_mem_set hj with hj | rfl
        · exact bi j (List.mem_of_mem_take hj)
        · exact ⟨nv0, nv1⟩
      have lk : ks.length = sn := by rw [hks, List.length_set, lt]
      obtain ⟨H4, g4, S4, L4⟩ : ∃ H4, H4 = upd Hs s1 (.lst (ks.map V.int)) ∧ Same H3 H4 ∧ H4 s1 = some (.lst (ks.map V.int)) := ⟨_, rfl, same_upd Ss hs1 _, upd_same⟩
      rw [← g4]
      clear g4
      refine ⟨.inl ⟨rfl, _, SqL.of (S4 _ _ dD)⟩, rfl, ?_⟩
      refine ⟨⟨_, SqL.of L4⟩, fun D2 hD2 => ?_⟩
      obtain ⟨Pd, hQ⟩ : ∃ Pd : Nat → St → Hp → Prop, Pd = fun j τ H5 => ∃ z, H5 D2 = some (.lst (((ks.map fun i => 97 + i.toNat).take j).map sgn)) ∧ Same H4 H5 ∧ τ = [some (.str lettersS), z] := ⟨_, rfl⟩
      refine compS_list (ks.map V.int) Pd ?_ (fun j τ H5 _ h => by rw [hQ] at h; obtain ⟨z, _, e, _⟩ := h; exact SqL.of (e _ _ L4)) ?_ ?_
      · rw [hQ]
        exact ⟨_, upd_same, same_new hD2 _, rfl⟩
      · intro j v τ H5 R5 hv h nx5
        rw [hQ] at h
        obtain ⟨z, c1, c2, rfl⟩ := h
        rw [List.getElem?_map] at hv
        obtain ⟨o, ho, rfl⟩ := Option.map_eq_some_iff.mp hv
        have oi := hk o (List.mem_of_getElem? ho)
        have lj := (List.getElem?_eq_some_iff.mp ho).1
        obtain ⟨r, hr'⟩ : ∃ r : Nat, o = (r : Int) := ⟨o.toNat, by omega⟩
        subst hr'
        simp only [tTurn, rTurnT, tTryS, rCountT, rPop, rRep, tCont, iZipT, tChain3, tFld, sFld, tMake, tMake0, tMethD, tBM0, rUpper, tDict1T, tTryN, rSlS, rMulS, rCatS, iZipL, rInsert, rReverse, tDNewX, tTry, tRaise, iEnumL, iEnumT, iZip, iSeq, iOr, rIx, iStr, rLeS, rJoin, rSlTA, tComp_eq, tComp1, slots, Option.getD_some, Option.getD_none, tYes, tSeq, tAsg, gName, tOp, tUn, tC, tVar, tCB, tCons, tNil, tCall, rI, rI0, rU, tRet, tRetN, tIfS, tTest, tB, tAnd, tOr, tNot, tAndV, tOrV, tNotV, tIf, tChain, tMenu, tPar, tDrop, tTup, tLst, tNext, tSl, tPart, tNoPart, tNever, gTup, gCons, gNil, gSub, rSetL, tBM, rAppend, rEq, rNe, rIsi, rIxL, rIxT, rIxS, rSlL, isi_non_bl, isi_non_int, isi_non_str, isi_non_lst, isi_non_tup, isi_bl_bl, isi_bl_int, isi_bl_str, isi_bl_lst, isi_bl_tup, isi_int_bl, isi_int_int, isi_int_str, isi_int_lst, isi_int_tup, isi_str_bl, isi_str_int, isi_str_str, isi_str_lst, isi_str_tup, isi_lst_bl, isi_lst_int, isi_lst_str, isi_lst_lst, isi_lst_tup, isi_tup_bl, isi_tup_int, isi_tup_str, isi_tup_lst, isi_tup_tup, isi_dct_bl, isi_dct_int, isi_dct_str, isi_dct_lst, isi_dct_tup, Kd_non, Kd_bl, Kd_int, Kd_str, sc_non_non, sc_non_int, sc_int_non, sc_non_bl, sc_bl_non, sc_non_str, sc_str_non, sc_int_int, sc_bl_bl, sc_str_str, sc_int_str, sc_str_int, sc_bl_str, sc_str_bl, decide_true, decide_false, tFor_eq, iList, iTup, iRng1, iRng2, iRng3, rIndexT, tBM0, tBMT, tyK_int, tyK_bool, tyK_str, tyK_list, tyK_tuple, L2.start, cxK, Int.reduceToNat, List.map_cons, List.map_nil, List.length_cons, List.length_nil, Nat.reduceAdd, Nat.reduceSub, Nat.zero_add, List.replicate_succ, List.replicate_zero, List.cons_append, List.nil_append, List.append_nil, List.getElem?_cons_zero, List.getElem?_cons_succ, List.set_cons_zero, List.set_cons_succ, Option.some.injEq, V.int.injEq, V.bl.injEq, V.ref.injEq, V.str.injEq, V.ty.injEq, List.cons.injEq, exists_eq_left', exists_eq_left, exists_eq_right, exists_and_left, exists_and_right, and_true, true_and, and_assoc, exists_const, decide_eq_true_eq, Bool.not_eq_true', Bool.not_true, Bool.not_false, Bool.not_not, decide_eq_false_iff_not, ite_not, Bool.false_eq_true, if_true, if_false, reduceCtorEq, and_false, false_and, exists_false, or_false, false_or, ↓reduceIte, eq_self, reduceIte]
        refine ⟨by decide, 97 + r, atI_nat (letters_at r (by omega)), _, c1, by rw [List.length_map, List.length_take, List.length_map]; exact Nat.lt_of_lt_of_le (m := 64) (by omega) (by decide), nx5 _ _ ?_⟩
        rw [hQ]
        refine ⟨_, ?_, same_upd c2 hD2 _, rfl⟩
        rw [upd_same, List.take_add_one, List.getElem?_map, ho, List.map_append]
        rfl
      intro τ5 H5 h5
      rw [hQ] at h5
      obtain ⟨z5, c1, c2, rfl⟩ := h5
      rw [List.length_map, List.take_of_length_le (by rw [List.length_map]; exact Nat.le_refl _)] at c1
      refine ⟨_, rfl, _, SqL.of c1, by rw [List.length_map]; omega, _, (S4.trans c2) _ _ dD, by rw [List.length_map]; exact Nat.lt_of_lt_of_le (m := 64) (by omega) (by decide), ?_⟩
      rw [hP]
      refine ⟨css ++ [ks.map fun i => 97 + i.toNat], _, _, by rw [upd_same, List.map_append]; rfl, by rw [List.length_append, cl]; rfl, fun cs hcs => ?_, same_upd (e3.trans (S4.trans c2)) hp1 _, rfl⟩
      rcases List.mem_append.mp hcs with hcs | hcs
      · exact ci cs hcs
      · rw [List.mem_singleton.mp hcs]
        exact name_ints hk (by omega) (by omega)
    · intro σ H3 g
      rw [hP] at g
      obtain ⟨css, y, z, dD, cl, ci, e3, rfl⟩ := g
      simp only [tTurn, rTurnT, tTryS, rCountT, rPop, rRep, tCont, iZipT, tChain3, tFld, sFld, tMake, tMake0, tMethD, tBM0, rUpper, tDict1T, tTryN, rSlS, rMulS, rCatS, iZipL, rInsert, rReverse, tDNewX, tTry, tRaise, iEnumL, iEnumT, iZip, iSeq, iOr, rIx, iStr, rLeS, rJoin, rSlTA, tComp_eq, tComp1, slots, Option.getD_some, Option.getD_none, tYes, tSeq, tAsg, gName, tOp, tUn, tC, tVar, tCB, tCons, tNil, tCall, rI, rI0, rU, tRet, tRetN, tIfS, tTest, tB, tAnd, tOr, tNot, tAndV, tOrV, tNotV, tIf, tChain, tMenu, tPar, tDrop, tTup, tLst, tNext, tSl, tPart, tNoPart, tNever, gTup, gCons, gNil, gSub, rSetL, tBM, rAppend, rEq, rNe, rIsi, rIxL, rIxT, rIxS, rSlL, isi_non_bl, isi_non_int, isi_non_str, isi_non_lst, isi_non_tup, isi_bl_bl, isi_bl_int, isi_bl_str, isi_bl_lst, isi_bl_tup, isi_int_bl, isi_int_int, isi_int_str, isi_int_lst, isi_int_tup, isi_str_bl, isi_str_int, isi_str_str, isi_str_lst, isi_str_tup, isi_lst_bl, isi_lst_int, isi_lst_str, isi_lst_lst, isi_lst_tup, isi_tup_bl, isi_tup_int, isi_tup_str, isi_tup_lst, isi_tup_tup, isi_dct_bl, isi_dct_int, isi_dct_str, isi_dct_lst, isi_dct_tup, Kd_non, Kd_bl, Kd_int, Kd_str, sc_non_non, sc_non_int, sc_int_non, sc_non_bl, sc_bl_non, sc_non_str, sc_str_non, sc_int_int, sc_bl_bl, sc_str_str, sc_int_str, sc_str_int, sc_bl_str, sc_str_bl, decide_true, decide_false, tFor_eq, iList, iTup, iRng1, iRng2, iRng3, rIndexT, tBM0, tBMT, tyK_int, tyK_bool, tyK_str, tyK_list, tyK_tuple, L2.start, cxK, Int.reduceToNat, List.map_cons, List.map_nil, List.length_cons, List.length_nil, Nat.reduceAdd, Nat.reduceSub, Nat.zero_add, List.replicate_succ, List.replicate_zero, List.cons_append, List.nil_append, List.append_nil, List.getElem?_cons_zero, List.getElem?_cons_succ, List.set_cons_zero, List.set_cons_succ, Option.some.injEq, V.int.injEq, V.bl.injEq, V.ref.injEq, V.str.injEq, V.ty.injEq, List.cons.injEq, exists_eq_left', exists_eq_left, exists_eq_right, exists_and_left, exists_and_right, and_true, true_and, and_assoc, exists_const, decide_eq_true_eq, Bool.not_eq_true', Bool.not_true, Bool.not_false, Bool.not_not, decide_eq_false_iff_not, ite_not, Bool.false_eq_true, if_true, if_false, reduceCtorEq, and_false, false_and, exists_false, or_false, false_or, ↓reduceIte, eq_self, reduceIte]
      exact q _ css _ (S02.trans e3) dD (by omega) (by omega) ci
end

def spInputs (K : PySem.W.Frag) : Sp := fun vs H Q _ => ∃ (c : Int) (many : Nat), vs = [.int c, .int many] ∧ many ≤ 24 ∧ ∀ (r : Addr) (is : List Int) H', Same H H' → H r = none → H' r = some (.lst (is.map V.int)) → is.length ≤ 4 → (∀ i ∈ is, 0 ≤ i ∧ i < (many : Int)) → is.Nodup → Q (.ref r) H'
theorem in_ints_iff (ks : List Int) (j : Int) : inV (.int j) (ks.map V.int) = decide (j ∈ ks) := by
  unfold inV
  rw [List.any_map]
  by_cases h : j ∈ ks
  · rw [decide_eq_true h, List.any_eq_true]
    exact ⟨j, h, by simp [eqV]⟩
  · rw [decide_eq_false h, List.any_eq_false]
    intro x hx
    have : x ≠ j := fun z => h (z ▸ hx)
    simp [eqV, this]
theorem flat_ints (ks : List Int) : (ks.map V.int).all flatV = true := all_flat_ints ks
theorem sql_upd {K : PySem.W.Frag} {H : Hp} {b l : Addr} {xs ys : List V} (h : SqL K H b xs) (n : b ≠ l) : SqL K (upd H l (.lst ys)) b xs := by
  rcases h with (h | ⟨o, h⟩) | h
  · exact .inl (.inl (by rw [upd_ne n]; exact h))
  · exact .inl (.inr ⟨o, by rw [upd_ne n]; exact h⟩)
  · exact .inr h
section
variable {P : Program} {w : World} {K : PySem.W.Frag} {mg : Str → Option Value} {base : Heap} {f : Addr} {fd : FuncData}
theorem ok_law_inputs (F : Fun K "_law_inputs" "_law_inputs" s_law_inputs f fd) (M : Mg mg) (C_law_mix : Cal P w K mg base CX0 "_law_mix" 1 ["_law_cell", "_law_by"] spMix) : FnOk P w K mg base CX0 2 f fd ["_law_cell", "_law_many"] (spInputs K) := by
  refine F.ok sc_law_inputs (fun vs H Q E h => ?_) (fun cdv A outer s H vs Q E hr h => ?_)
  · obtain ⟨c, many, rfl, _⟩ := h
    rfl
  obtain ⟨c, many, rfl, m24, q⟩ := h
  refine ⟨_, (@pss_cons _ _ _ _ _ (@ps_set _ _ 2 _ _ _ _ sc_law_inputs.nd rfl l_law_inputs_2 (@pe_lst _ _ _ _ (@pa_nil _)) (swap1 rfl) (.inl rfl)) (@pss_cons _ _ _ _ _ (@ps_set _ _ 3 _ _ _ _ sc_law_inputs.nd rfl l_law_inputs_3 (@pe_lst _ _ _ _ (@pa_cons _ _ _ _ _ (@pe_int _ _ _ _) (@pa_cons _ _ _ _ _ (@pe_int _ _ _ _) (@pa_cons _ _ _ _ _ (@pe_int _ _ _ _) (@pa_cons _ _ _ _ _ (@pe_int _ _ _ _) (@pa_nil _) (star1 rfl)) (star1 rfl)) (star1 rfl)) (star1 rfl))) (swap1 rfl) (.inl rfl)) (@pss_cons _ _ _ _ _ (@ps_set _ _ 4 _ _ _ _ sc_law_inputs.nd rfl l_law_inputs_4 (@pe_callB _ _ _ _ _ _ _ _ _ (call_max2 rfl) g_law_inputs_max M.m_max b_max (@pa_cons _ _ _ _ _ (@pe_int _ _ _ _) (@pa_cons _ _ _ _ _ (@pe_var _ 1 _ _ rfl v_law_inputs_1 dn__law_many dc__law_many) (@pa_nil _) (star1 rfl)) (star1 rfl)) nn_max dn_max (star1 rfl) (nost1 rfl nost0)) (swap1 rfl) (.inl rfl)) (@pss_cons _ _ _ _ _ (@ps_if _ _ _ _ _ _ _ _ (@pt_cmpR _ _ _ _ _ _ _ _ (@op_eq _) (@pe_op _ _ _ _ _ _ _ _ (@op_mod _) (@pe_op _ _ _ _ _ _ _ _ (@op_fdivB _) (@pe_var _ 0 _ _ rfl v_law_inputs_0 dn__law_cell dc__law_cell) (@pe_int _ _ _ _)) (@pe_int _ _ _ _)) (@pe_int _ _ _ _) (nomark _)) (@pss_one _ _ _ (@ps_set _ _ 4 _ _ _ _ sc_law_inputs.nd rfl l_law_inputs_4 (@pe_callB _ _ _ _ _ _ _ _ _ (call_min2 rfl) g_law_inputs_min M.m_min b_min (@pa_cons _ _ _ _ _ (@pe_var _ 4 _ _ rfl v_law_inputs_4 dn__law_near dc__law_near) (@pa_cons _ _ _ _ _ (@pe_int _ _ _ _) (@pa_nil _) (star1 rfl)) (star1 rfl)) nn_min dn_min (star1 rfl) (nost1 rfl nost0)) (swap1 rfl) (.inl rfl))) (@pss_nil _)) (@pss_cons _ _ _ _ _ (@ps_for _ _ _ _ _ _ _ _ PassesOwn.never rfl (@pi_range1 _ _ _ _ _ _ g_law_inputs_range M.m_range (@pa_cons _ _ _ _ _ (@pe_op _ _ _ _ _ _ _ _ (@op_mod _) (@pe_var _ 0 _ _ rfl v_law_inputs_0 dn__law_cell dc__law_cell) (@pe_int _ _ _ _)) (@pa_nil _) (star1 rfl)) (star1' rfl)) (@pg_name _ _ 5 _ sc_law_inputs.nd rfl l_law_inputs_5 (.inl rfl)) (@pss_cons _ _ _ _ _ (@ps_set _ _ 6 _ _ _ _ sc_law_inputs.nd rfl l_law_inputs_6 (@pe_op _ _ _ _ _ _ _ _ (@op_sub _) (@pe_op _ _ _ _ _ _ _ _ (@op_sub _) (@pe_var _ 1 _ _ rfl v_law_inputs_1 dn__law_many dc__law_many) (@pe_int _ _ _ _)) (@pe_op _ _ _ _ _ _ _ _ (@op_mod _) (@pe_callC _ _ _ _ _ _ _ _ _ _ _ C_law_mix hr g_law_inputs__law_mix (@pa_cons _ _ _ _ _ (@pe_op _ _ _ _ _ _ _ _ (@op_add _) (@pe_op _ _ _ _ _ _ _ _ (@op_fdivB _) (@pe_var _ 0 _ _ rfl v_law_inputs_0 dn__law_cell dc__law_cell) (@pe_int _ _ _ _)) (@pe_op _ _ _ _ _ _ _ _ (@op_mulB _) (@pe_var _ 5 _ _ rfl v_law_inputs_5 dn__law_k dc__law_k) (@pe_var _ 5 _ _ rfl v_law_inputs_5 dn__law_k dc__law_k))) (@pa_cons _ _ _ _ _ (@pe_ix _ _ _ _ _ _ _ (@ix_list _) (@pe_var _ 3 _ _ rfl v_law_inputs_3 dn__law_by dc__law_by) (@pe_var _ 5 _ _ rfl v_law_inputs_5 dn__law_k dc__law_k) (fun _ _ => rfl)) (@pa_nil _) (star1 rfl)) (star1 rfl)) (by decide) dn__law_mix (star1 rfl) (nost1 rfl nost0)) (@pe_var _ 4 _ _ rfl v_law_inputs_4 dn__law_near dc__law_near))) (swap1 rfl) (.inl rfl)) (@pss_one _ _ _ (@ps_if _ _ _ _ _ _ _ _ (@PW.pt _ _ _ (@pw_and _ _ _ _ _ _ _ (@pt_cmpR _ _ _ _ _ _ _ _ (@op_ge _) (@pe_var _ 6 _ _ rfl v_law_inputs_6 dn__law_at dc__law_at) (@pe_int _ _ _ _) (nomark _)) (@pw_and1 _ _ _ _ (@pt_cmpR _ _ _ _ _ _ _ _ (@op_notIn_seq _) (@pe_var _ 6 _ _ rfl v_law_inputs_6 dn__law_at dc__law_at) (@pe_var _ 2 _ _ rfl v_law_inputs_2 dn__law_some dc__law_some) (by with_unfolding_all rfl))))) (@pss_one _ _ _ (@ps_expr _ _ _ _ (@pe_bm _ _ _ _ _ _ _ _ _ _ _ _ PySem.F.plainAttrs_list PySem.F.slot_list_append PySem.F.type_list_append mt_append (@pe_var _ 2 _ _ rfl v_law_inputs_2 dn__law_some dc__law_some) (@pa_cons _ _ _ _ _ (@pe_var _ 6 _ _ rfl v_law_inputs_6 dn__law_at dc__law_at) (@pa_nil _) (star1 rfl)) (by rfl) (by rfl) (by rfl) (by rfl) (by rfl)) (swap1 rfl))) (@pss_nil _)))) (by intro _; rfl)) (@pss_one _ _ _ (@ps_ret _ _ _ _ (@pe_var _ 2 _ _ rfl v_law_inputs_2 dn__law_some dc__law_some)))))))), ?_⟩
  have c0 := Int.emod_nonneg c (show (5 : Int) ≠ 0 by decide)
  have c1 := Int.emod_lt_of_pos c (show (0 : Int) < 5 by decide)
  simp only [tTurn, rTurnT, tTryS, rCountT, rPop, rRep, tCont, iZipT, tChain3, tFld, sFld, tMake, tMake0, tMethD, tBM0, rUpper, tDict1T, tTryN, rSlS, rMulS, rCatS, iZipL, rInsert, rReverse, tDNewX, tTry, tRaise, iEnumL, iEnumT, iZip, iSeq, iOr, rIx, iStr, rLeS, rJoin, rSlTA, tComp_eq, tComp1, slots, Option.getD_some, Option.getD_none, tYes, tSeq, tAsg, gName, tOp, tUn, tC, tVar, tCB, tCons, tNil, tCall, rI, rI0, rU, tRet, tRetN, tIfS, tTest, tB, tAnd, tOr, tNot, tAndV, tOrV, tNotV, tIf, tChain, tMenu, tPar, tDrop, tTup, tLst, tNext, tSl, tPart, tNoPart, tNever, gTup, gCons, gNil, gSub, rSetL, tBM, rAppend, rEq, rNe, rIsi, rIxL, rIxT, rIxS, rSlL, isi_non_bl, isi_non_int, isi_non_str, isi_non_lst, isi_non_tup, isi_bl_bl, isi_bl_int, isi_bl_str, isi_bl_lst, isi_bl_tup, isi_int_bl, isi_int_int, isi_int_str, isi_int_lst, isi_int_tup, isi_str_bl, isi_str_int, isi_str_str, isi_str_lst, isi_str_tup, isi_lst_bl, isi_lst_int, isi_lst_str, isi_lst_lst, isi_lst_tup, isi_tup_bl, isi_tup_int, isi_tup_str, isi_tup_lst, isi_tup_tup, isi_dct_bl, isi_dct_int, isi_dct_str, isi_dct_lst, isi_dct_tup, Kd_non, Kd_bl, Kd_int, Kd_str, sc_non_non, sc_non_int, sc_int_non, sc_non_bl, sc_bl_non, sc_non_str, sc_str_non, sc_int_int, sc_bl_bl, sc_str_str, sc_int_str, sc_str_int, sc_bl_str, sc_str_bl, decide_true, decide_false, tFor_eq, iList, iTup, iRng1, iRng2, iRng3, rIndexT, tBM0, tBMT, tyK_int, tyK_bool, tyK_str, tyK_list, tyK_tuple, L2.start, cxK, Int.reduceToNat, List.map_cons, List.map_nil, List.length_cons, List.length_nil, Nat.reduceAdd, Nat.reduceSub, Nat.zero_add, List.replicate_succ, List.replicate_zero, List.cons_append, List.nil_append, List.append_nil, List.getElem?_cons_zero, List.getElem?_cons_succ, List.set_cons_zero, List.set_cons_succ, Option.some.injEq, V.int.injEq, V.bl.injEq, V.ref.injEq, V.str.injEq, V.ty.injEq, List.cons.injEq, exists_eq_left', exists_eq_left, exists_eq_right, exists_and_left, exists_and_right, and_true, true_and, and_assoc, exists_const, decide_eq_true_eq, Bool.not_eq_true', Bool.not_true, Bool.not_false, Bool.not_not, decide_eq_false_iff_not, ite_not, Bool.false_eq_true, if_true, if_false, reduceCtorEq, and_false, false_and, exists_false, or_false, false_or, ↓reduceIte, eq_self, reduceIte]
  refine ⟨by decide, fun r hr0 => ⟨by decide, fun bl hbl => ?_⟩⟩
  have hne : bl ≠ r := fun z => by rw [z, upd_same] at hbl; cases hbl
  obtain ⟨H1, g1, S1, L1⟩ := fresh_lst (K := K) hbl [.int 48271, .int 69621, .int 16807, .int 39373]
  rw [← g1]
  clear g1
  have d1 : H1 r = some (.lst (([] : List Int).map V.int)) := S1 _ _ upd_same
  have S0 : Same H H1 := (same_new hr0 _).trans S1
  refine ⟨cdiv (by decide) (by decide), by decide, ?_⟩
  obtain ⟨nm, hnm, nm1⟩ : ∃ nm : Int, (if (many : Int) > 1 then (many : Int) else 1) = nm ∧ 1 ≤ nm := ⟨_, rfl, by split <;> omega⟩
  rw [hnm]
  by_cases w2 : c / 5 % 2 = 1
  · rw [if_pos w2]
    obtain ⟨nr, hnr, nr1⟩ : ∃ nr : Int, (if 3 < nm then 3 else nm) = nr ∧ 1 ≤ nr := ⟨_, rfl, by split <;> omega⟩
    rw [hnr]
    refine ⟨by decide, by omega, by omega, ?_⟩
    obtain ⟨Pv, hP⟩ : ∃ Pv : Nat → St → Hp → Prop, Pv = fun i σ H' => ∃ (is : List Int) (y z : Option V), H' r = some (.lst (is.map V.int)) ∧ is.length ≤ i ∧ (∀ i ∈ is, 0 ≤ i ∧ i < (many : Int)) ∧ is.Nodup ∧ Same H H' ∧ SqL K H' bl [.int 48271, .int 69621, .int 16807, .int 39373] ∧ σ = [some (.int c), some (.int many), some (.ref r), some (.ref bl), some (.int nr), y, z] := ⟨_, rfl⟩
    refine forW_range Pv ?_ ?_ ?_
    · rw [hP]
      exact ⟨[], _, _, d1, Nat.le_refl _, (fun _ h => by cases h), .nil, S0, L1, rfl⟩
    · intro i σ H' hi g
      rw [hP] at g
      obtain ⟨is, y, z, dr, il, iin, nd, e, Lb, rfl⟩ := g
      have hi4 : i < 4 := by omega
      obtain ⟨bv, hb⟩ : ∃ bv, ([V.int 48271, V.int 69621, V.int 16807, V.int 39373] : List V)[i]? = some bv := ⟨_, List.getElem?_eq_getElem hi4⟩
      obtain ⟨b, rfl, b0, b1⟩ : ∃ b : Int, bv = .int b ∧ 0 ≤ b ∧ b ≤ 100000 := by
        have := List.mem_of_getElem? hb
        simp only [List.mem_cons, List.not_mem_nil, or_false] at this
        rcases this with rfl | rfl | rfl | rfl <;> exact ⟨_, rfl, by decide, by decide⟩
      have hb' : atI [V.int 48271, V.int 69621, V.int 16807, V.int 39373] (0 + (i : Int)) = some (.int b) := by
        rw [Int.zero_add]
        exact atI_nat hb
      simp only [tTurn, rTurnT, tTryS, rCountT, rPop, rRep, tCont, iZipT, tChain3, tFld, sFld, tMake, tMake0, tMethD, tBM0, rUpper, tDict1T, tTryN, rSlS, rMulS, rCatS, iZipL, rInsert, rReverse, tDNewX, tTry, tRaise, iEnumL, iEnumT, iZip, iSeq, iOr, rIx, iStr, rLeS, rJoin, rSlTA, tComp_eq, tComp1, slots, Option.getD_some, Option.getD_none, tYes, tSeq, tAsg, gName, tOp, tUn, tC, tVar, tCB, tCons, tNil, tCall, rI, rI0, rU, tRet, tRetN, tIfS, tTest, tB, tAnd, tOr, tNot, tAndV, tOrV, tNotV, tIf, tChain, tMenu, tPar, tDrop, tTup, tLst, tNext, tSl, tPart, tNoPart, tNever, gTup, gCons, gNil, gSub, rSetL, tBM, rAppend, rEq, rNe, rIsi, rIxL, rIxT, rIxS, rSlL, isi_non_bl, isi_non_int, isi_non_str, isi_non_lst, isi_non_tup, isi_bl_bl, isi_bl_int, isi_bl_str, isi_bl_lst, isi_bl_tup, isi_int_bl, isi_int_int, isi_int_str, isi_int_lst, isi_int_tup, isi_str_bl, isi_str_int, isi_str_str, isi_str_lst, isi_str_tup, isi_lst_bl, isi_lst_int, isi_lst_str, isi_lst_lst, isi_lst_tup, isi_tup_bl, isi_tup_int, isi_tup_str, isi_tup_lst, isi_tup_tup, isi_dct_bl, isi_dct_int, isi_dct_str, isi_dct_lst, isi_dct_tup, Kd_non, Kd_bl, Kd_int, Kd_str, sc_non_non, sc_non_int, sc_int_non, sc_non_bl, sc_bl_non, sc_non_str, sc_str_non, sc_int_int, sc_bl_bl, sc_str_str, sc_int_str, sc_str_int, sc_bl_str, sc_str_bl, decide_true, decide_false, tFor_eq, iList, iTup, iRng1, iRng2, iRng3, rIndexT, tBM0, tBMT, tyK_int, tyK_bool, tyK_str, tyK_list, tyK_tuple, L2.start, cxK, Int.reduceToNat, List.map_cons, List.map_nil, List.length_cons, List.length_nil, Nat.reduceAdd, Nat.reduceSub, Nat.zero_add, List.replicate_succ, List.replicate_zero, List.cons_append, List.nil_append, List.append_nil, List.getElem?_cons_zero, List.getElem?_cons_succ, List.set_cons_zero, List.set_cons_succ, Option.some.injEq, V.int.injEq, V.bl.injEq, V.ref.injEq, V.str.injEq, V.ty.injEq, List.cons.injEq, exists_eq_left', exists_eq_left, exists_eq_right, exists_and_left, exists_and_right, and_true, true_and, and_assoc, exists_const, decide_eq_true_eq, Bool.not_eq_true', Bool.not_true, Bool.not_false, Bool.not_not, decide_eq_false_iff_not, ite_not, Bool.false_eq_true, if_true, if_false, reduceCtorEq, and_false, false_and, exists_false, or_false, false_or, ↓reduceIte, eq_self, reduceIte]
      refine ⟨cdiv (by decide) (by decide), cmul (by omega) (by omega) (by omega) (by omega), _, Lb, _, hb', _, _, rfl, b0, b1, fun v v0 v1 => ⟨_, rfl, by omega, ?_⟩⟩
      have x0 := Int.emod_nonneg v (show nr ≠ 0 by omega)
      obtain ⟨at', ha, am⟩ : ∃ at' : Int, (many : Int) - 1 - v % nr = at' ∧ at' < (many : Int) := ⟨_, rfl, by omega⟩
      rw [ha]
      by_cases a0 : 0 ≤ at'
      · rw [if_pos a0]
        refine ⟨_, _, rfl, .inl (SqL.of dr), rfl, flat_ints is, _, rfl, ?_⟩
        rw [in_ints_iff]
        by_cases hin : at' ∈ is
        · rw [decide_eq_true hin, if_neg (by decide), hP]
          exact ⟨is, _, _, dr, by omega, iin, nd, e, Lb, rfl⟩
        · rw [decide_eq_false hin, if_pos (by decide)]
          refine ⟨.inl ⟨rfl, _, SqL.of dr⟩, _, dr, by rw [List.length_map]; exact Nat.lt_of_lt_of_le (m := 64) (by omega) (by decide), ?_⟩
          rw [hP]
          refine ⟨is ++ [at'], _, _, by rw [upd_same, List.map_append]; rfl, by rw [List.length_append]; show is.length + 1 ≤ i + 1; omega, fun j hj => ?_, ?_, same_upd e hr0 _, ?_, rfl⟩
          · rcases List.mem_append.mp hj with hj | hj
            · exact iin j hj
            · rw [List.mem_singleton.mp hj]
              exact ⟨a0, am⟩
          · rw [List.nodup_append]
            refine ⟨nd, List.nodup_cons.mpr ⟨List.not_mem_nil, .nil⟩, fun x hx y hy => ?_⟩
            rw [List.mem_singleton.mp hy]
            exact fun z => hin (z ▸ hx)
          · exact sql_upd Lb hne
      · rw [if_neg a0, hP]
        exact ⟨is, _, _, dr, by omega, iin, nd, e, Lb, rfl⟩
    · intro σ H' g
      rw [hP] at g
      obtain ⟨is, y, z, dr, il, iin, nd, e, Lb, rfl⟩ := g
      simp only [tTurn, rTurnT, tTryS, rCountT, rPop, rRep, tCont, iZipT, tChain3, tFld, sFld, tMake, tMake0, tMethD, tBM0, rUpper, tDict1T, tTryN, rSlS, rMulS, rCatS, iZipL, rInsert, rReverse, tDNewX, tTry, tRaise, iEnumL, iEnumT, iZip, iSeq, iOr, rIx, iStr, rLeS, rJoin, rSlTA, tComp_eq, tComp1, slots, Option.getD_some, Option.getD_none, tYes, tSeq, tAsg, gName, tOp, tUn, tC, tVar, tCB, tCons, tNil, tCall, rI, rI0, rU, tRet, tRetN, tIfS, tTest, tB, tAnd, tOr, tNot, tAndV, tOrV, tNotV, tIf, tChain, tMenu, tPar, tDrop, tTup, tLst, tNext, tSl, tPart, tNoPart, tNever, gTup, gCons, gNil, gSub, rSetL, tBM, rAppend, rEq, rNe, rIsi, rIxL, rIxT, rIxS, rSlL, isi_non_bl, isi_non_int, isi_non_str, isi_non_lst, isi_non_tup, isi_bl_bl, isi_bl_int, isi_bl_str, isi_bl_lst, isi_bl_tup, isi_int_bl, isi_int_int, isi_int_str, isi_int_lst, isi_int_tup, isi_str_bl, isi_str_int, isi_str_str, isi_str_lst, isi_str_tup, isi_lst_bl, isi_lst_int, isi_lst_str, isi_lst_lst, isi_lst_tup, isi_tup_bl, isi_tup_int, isi_tup_str, isi_tup_lst, isi_tup_tup, isi_dct_bl, isi_dct_int, isi_dct_str, isi_dct_lst, isi_dct_tup, Kd_non, Kd_bl, Kd_int, Kd_str, sc_non_non, sc_non_int, sc_int_non, sc_non_bl, sc_bl_non, sc_non_str, sc_str_non, sc_int_int, sc_bl_bl, sc_str_str, sc_int_str, sc_str_int, sc_bl_str, sc_str_bl, decide_true, decide_false, tFor_eq, iList, iTup, iRng1, iRng2, iRng3, rIndexT, tBM0, tBMT, tyK_int, tyK_bool, tyK_str, tyK_list, tyK_tuple, L2.start, cxK, Int.reduceToNat, List.map_cons, List.map_nil, List.length_cons, List.length_nil, Nat.reduceAdd, Nat.reduceSub, Nat.zero_add, List.replicate_succ, List.replicate_zero, List.cons_append, List.nil_append, List.append_nil, List.getElem?_cons_zero, List.getElem?_cons_succ, List.set_cons_zero, List.set_cons_succ, Option.some.injEq, V.int.injEq, V.bl.injEq, V.ref.injEq, V.str.injEq, V.ty.injEq, List.cons.injEq, exists_eq_left', exists_eq_left, exists_eq_right, exists_and_left, exists_and_right, and_true, true_and, and_assoc, exists_const, decide_eq_true_eq, Bool.not_eq_true', Bool.not_true, Bool.not_false, Bool.not_not, decide_eq_false_iff_not, ite_not, Bool.false_eq_true, if_true, if_false, reduceCtorEq, and_false, false_and, exists_false, or_false, false_or, ↓reduceIte, eq_self, reduceIte]
      exact q _ is _ e hr0 dr (by omega) iin nd
  · rw [if_neg w2]
    obtain ⟨nr, hnr, nr1⟩ : ∃ nr : Int, nm = nr ∧ 1 ≤ nr := ⟨_, rfl, nm1⟩
    rw [hnr]
    refine ⟨by decide, by omega, by omega, ?_⟩
    obtain ⟨Pv, hP⟩ : ∃ Pv : Nat → St → Hp → Prop, Pv = fun i σ H' => ∃ (is : List Int) (y z : Option V), H' r = some (.lst (is.map V.int)) ∧ is.length ≤ i ∧ (∀ i ∈ is, 0 ≤ i ∧ i < (many : Int)) ∧ is.Nodup ∧ Same H H' ∧ SqL K H' bl [.int 48271, .int 69621, .int 16807, .int 39373] ∧ σ = [some (.int c), some (.int many), some (.ref r), some (.ref bl), some (.int nr), y, z] := ⟨_, rfl⟩
    refine forW_range Pv ?_ ?_ ?_
    · rw [hP]
      exact ⟨[], _, _, d1, Nat.le_refl _, (fun _ h => by cases h), .nil, S0, L1, rfl⟩
    · intro i σ H' hi g
      rw [hP] at g
      obtain ⟨is, y, z, dr, il, iin, nd, e, Lb, rfl⟩ := g
      have hi4 : i < 4 := by omega
      obtain ⟨bv, hb⟩ : ∃ bv, ([V.int 48271, V.int 69621, V.int 16807, V.int 39373] : List V)[i]? = some bv := ⟨_, List.getElem?_eq_getElem hi4⟩
      obtain ⟨b, rfl, b0, b1⟩ : ∃ b : Int, bv = .int b ∧ 0 ≤ b ∧ b ≤ 100000 := by
        have := List.mem_of_getElem? hb
        simp only [List.mem_cons, List.not_mem_nil, or_false] at this
        rcases this with rfl | rfl | rfl | rfl <;> exact ⟨_, rfl, by decide, by decide⟩
      have hb' : atI [V.int 48271, V.int 69621, V.int 16807, V.int 39373] (0 + (i : Int)) = some (.int b) := by
        rw [Int.zero_add]
        exact atI_nat hb
      simp only [tTurn, rTurnT, tTryS, rCountT, rPop, rRep, tCont, iZipT, tChain3, tFld, sFld, tMake, tMake0, tMethD, tBM0, rUpper, tDict1T, tTryN, rSlS, rMulS, rCatS, iZipL, rInsert, rReverse, tDNewX, tTry, tRaise, iEnumL, iEnumT, iZip, iSeq, iOr, rIx, iStr, rLeS, rJoin, rSlTA, tComp_eq, tComp1, slots, Option.getD_some, Option.getD_none, tYes, tSeq, tAsg, gName, tOp, tUn, tC, tVar, tCB, tCons, tNil, tCall, rI, rI0, rU, tRet, tRetN, tIfS, tTest, tB, tAnd, tOr, tNot, tAndV, tOrV, tNotV, tIf, tChain, tMenu, tPar, tDrop, tTup, tLst, tNext, tSl, tPart, tNoPart, tNever, gTup, gCons, gNil, gSub, rSetL, tBM, rAppend, rEq, rNe, rIsi, rIxL, rIxT, rIxS, rSlL, isi_non_bl, isi_non_int, isi_non_str, isi_non_lst, isi_non_tup, isi_bl_bl, isi_bl_int, isi_bl_str, isi_bl_lst, isi_bl_tup, isi_int_bl, isi_int_int, isi_int_str, isi_int_lst, isi_int_tup, isi_str_bl, isi_str_int, isi_str_str, isi_str_lst, isi_str_tup, isi_lst_bl, isi_lst_int, isi_lst_str, isi_lst_lst, isi_lst_tup, isi_tup_bl, isi_tup_int, isi_tup_str, isi_tup_lst, isi_tup_tup, isi_dct_bl, isi_dct_int, isi_dct_str, isi_dct_lst, isi_dct_tup, Kd_non, Kd_bl, Kd_int, Kd_str, sc_non_non, sc_non_int, sc_int_non, sc_non_bl, sc_bl_non, sc_non_str, sc_str_non, sc_int_int, sc_bl_bl, sc_str_str, sc_int_str, sc_str_int, sc_bl_str, sc_str_bl, decide_true, decide_false, tFor_eq, iList, iTup, iRng1, iRng2, iRng3, rIndexT, tBM0, tBMT, tyK_int, tyK_bool, tyK_str, tyK_list, tyK_tuple, L2.start, cxK, Int.reduceToNat, List.map_cons, List.map_nil, List.length_cons, List.length_nil, Nat.reduceAdd, Nat.reduceSub, Nat.zero_add, List.replicate_succ, List.replicate_zero, List.cons_append, List.nil_append, List.append_nil, List.getElem?_cons_zero, List.getElem?_cons_succ, List.set_cons_zero, List.set_cons_succ, Option.some.injEq, V.int.injEq, V.bl.injEq, V.ref.injEq, V.str.injEq, V.ty.injEq, List.cons.injEq, exists_eq_left', exists_eq_left, exists_eq_right, exists_and_left, exists_and_right, and_true, true_and, and_assoc, exists_const, decide_eq_true_eq, Bool.not_eq_true', Bool.not_true, Bool.not_false, Bool.not_not, decide_eq_false_iff_not, ite_not, Bool.false_eq_true, if_true, if_false, reduceCtorEq, and_false, false_and, exists_false, or_false, false_or, ↓reduceIte, eq_self, reduceIte]
      refine ⟨cdiv (by decide) (by decide), cmul (by omega) (by omega) (by omega) (by omega), _, Lb, _, hb', _, _, rfl, b0, b1, fun v v0 v1 => ⟨_, rfl, by omega, ?_⟩⟩
      have x0 := Int.emod_nonneg v (show nr ≠ 0 by omega)
      obtain ⟨at', ha, am⟩ : ∃ at' : Int, (many : Int) - 1 - v % nr = at' ∧ at' < (many : Int) := ⟨_, rfl, by omega⟩
      rw [ha]
      by_cases a0 : 0 ≤ at'
      · rw [if_pos a0]
        refine ⟨_, _, rfl, .inl (SqL.of dr), rfl, flat_ints is, _, rfl, ?_⟩
        rw [in_ints_iff]
        by_cases hin : at' ∈ is
        · rw [decide_eq_true hin, if_neg (by decide), hP]
          exact ⟨is, _, _, dr, by omega, iin, nd, e, Lb, rfl⟩
        · rw [decide_eq_false hin, if_pos (by decide)]
          refine ⟨.inl ⟨rfl, _, SqL.of dr⟩, _, dr, by rw [List.length_map]; exact Nat.lt_of_lt_of_le (m := 64) (by omega) (by decide), ?_⟩
          rw [hP]
          refine ⟨is ++ [at'], _, _, by rw [upd_same, List.map_append]; rfl, by rw [List.length_append]; show is.length + 1 ≤ i + 1; omega, fun j hj => ?_, ?_, same_upd e hr0 _, ?_, rfl⟩
          · rcases List.mem_append.mp hj with hj | hj
            · exact iin j hj
            · rw [List.mem_singleton.mp hj]
              exact ⟨a0, am⟩
          · rw [List.nodup_append]
            refine ⟨nd, List.nodup_cons.mpr ⟨List.not_mem_nil, .nil⟩, fun x hx y hy => ?_⟩
            rw [List.mem_singleton.mp hy]
            exact fun z => hin (z ▸ hx)
          · exact sql_upd Lb hne
      · rw [if_neg a0, hP]
        exact ⟨is, _, _, dr, by omega, iin, nd, e, Lb, rfl⟩
    · intro σ H' g
      rw [hP] at g
      obtain ⟨is, y, z, dr, il, iin, nd, e, Lb, rfl⟩ := g
      simp only [tTurn, rTurnT, tTryS, rCountT, rPop, rRep, tCont, iZipT, tChain3, tFld, sFld, tMake, tMake0, tMethD, tBM0, rUpper, tDict1T, tTryN, rSlS, rMulS, rCatS, iZipL, rInsert, rReverse, tDNewX, tTry, tRaise, iEnumL, iEnumT, iZip, iSeq, iOr, rIx, iStr, rLeS, rJoin, rSlTA, tComp_eq, tComp1, slots, Option.getD_some, Option.getD_none, tYes, tSeq, tAsg, gName, tOp, tUn, tC, tVar, tCB, tCons, tNil, tCall, rI, rI0, rU, tRet, tRetN, tIfS, tTest, tB, tAnd, tOr, tNot, tAndV, tOrV, tNotV, tIf, tChain, tMenu, tPar, tDrop, tTup, tLst, tNext, tSl, tPart, tNoPart, tNever, gTup, gCons, gNil, gSub, rSetL, tBM, rAppend, rEq, rNe, rIsi, rIxL, rIxT, rIxS, rSlL, isi_non_bl, isi_non_int, isi_non_str, isi_non_lst, isi_non_tup, isi_bl_bl, isi_bl_int, isi_bl_str, isi_bl_lst, isi_bl_tup, isi_int_bl, isi_int_int, isi_int_str, isi_int_lst, isi_int_tup, isi_str_bl, isi_str_int, isi_str_str, isi_str_lst, isi_str_tup, isi_lst_bl, isi_lst_int, isi_lst_str, isi_lst_lst, isi_lst_tup, isi_tup_bl, isi_tup_int, isi_tup_str, isi_tup_lst, isi_tup_tup, isi_dct_bl, isi_dct_int, isi_dct_str, isi_dct_lst, isi_dct_tup, Kd_non, Kd_bl, Kd_int, Kd_str, sc_non_non, sc_non_int, sc_int_non, sc_non_bl, sc_bl_non, sc_non_str, sc_str_non, sc_int_int, sc_bl_bl, sc_str_str, sc_int_str, sc_str_int, sc_bl_str, sc_str_bl, decide_true, decide_false, tFor_eq, iList, iTup, iRng1, iRng2, iRng3, rIndexT, tBM0, tBMT, tyK_int, tyK_bool, tyK_str, tyK_list, tyK_tuple, L2.start, cxK, Int.reduceToNat, List.map_cons, List.map_nil, List.length_cons, List.length_nil, Nat.reduceAdd, Nat.reduceSub, Nat.zero_add, List.replicate_succ, List.replicate_zero, List.cons_append, List.nil_append, List.append_nil, List.getElem?_cons_zero, List.getElem?_cons_succ, List.set_cons_zero, List.set_cons_succ, Option.some.injEq, V.int.injEq, V.bl.injEq, V.ref.injEq, V.str.injEq, V.ty.injEq, List.cons.injEq, exists_eq_left', exists_eq_left, exists_eq_right, exists_and_left, exists_and_right, and_true, true_and, and_assoc, exists_const, decide_eq_true_eq, Bool.not_eq_true', Bool.not_true, Bool.not_false, Bool.not_not, decide_eq_false_iff_not, ite_not, Bool.false_eq_true, if_true, if_false, reduceCtorEq, and_false, false_and, exists_false, or_false, false_or, ↓reduceIte, eq_self, reduceIte]
      exact q _ is _ e hr0 dr (by omega) iin nd
end

theorem cut2 {s1 s2 tl : TS} {D : Ends} {σ : St} {H : Hp} (h : ∀ tl', tl' = tl → tSeq s1 (tSeq s2 tl') D σ H) : tSeq s1 (tSeq s2 tl) D σ H := h tl rfl
def spLot (K : PySem.W.Frag) : Sp := fun vs H Q _ => ∃ (a ld cl : Addr) (gs : List Lt) (css : List (List Nat)) (x0 x1 x2 : Int), vs = [.ref a, .ref ld, .ref cl] ∧ SqL K H a (refs gs) ∧ (∀ g ∈ gs, LtAt K H g) ∧ Lots gs ∧ gs.length ≤ 23 ∧
  SqL K H ld (css.map fun cs => V.str (txt cs)) ∧ 1 ≤ css.length ∧ (∀ cs ∈ css, nameB cs = true) ∧ SqL K H cl [.int x0, .int x1, .int x2] ∧ ∀ g H', Same H H' → LtAt K H' g → GoodL gs g → Q (.ref g.q) H'
theorem prAt_in {gs : List Lt} (lo : Lots gs) {j : Int} (h0 : 0 ≤ j) (h1 : j < (gs.length : Int)) : 1 ≤ prAt gs j ∧ prAt gs j ≤ 10 ^ 12 := by
  have hg : gs[j.toNat]? = some (gs[j.toNat]'(by omega)) := List.getElem?_eq_getElem _
  have G := lo _ _ hg
  unfold prAt
  rw [hg]
  exact ⟨G.p1, G.p2⟩
theorem sumP_nn {gs : List Lt} (lo : Lots gs) : ∀ {is : List Int}, (∀ i ∈ is, 0 ≤ i ∧ i < (gs.length : Int)) → 0 ≤ sumP gs is
  | [], _ => Int.le_refl _
  | i :: is, h => by
    have h1 := h i (List.mem_cons_self ..)
    have := prAt_in lo h1.1 h1.2
    have ih := sumP_nn lo (is := is) fun j hj => h j (List.mem_cons_of_mem _ hj)
    unfold sumP at ih ⊢
    rw [List.map_cons, List.sum_cons]
    omega
theorem cut6 {s1 s2 s3 s4 s5 s6 tl : TS} {D : Ends} {σ : St} {H : Hp} (h : ∀ tl', tl' = tl → tSeq s1 (tSeq s2 (tSeq s3 (tSeq s4 (tSeq s5 (tSeq s6 tl'))))) D σ H) : tSeq s1 (tSeq s2 (tSeq s3 (tSeq s4 (tSeq s5 (tSeq s6 tl))))) D σ H := h tl rfl
theorem emod_le {x m : Int} (h : 0 ≤ x) (hm : 0 < m) : x % m ≤ x := by
  rw [Int.emod_def]
  exact Int.sub_le_self x (Int.mul_nonneg (Int.le_of_lt hm) (Int.ediv_nonneg h (Int.le_of_lt hm)))
theorem nodup_count {is : List Int} (h : is.Nodup) : ∀ i ∈ is, is.count i = 1 := by
  induction is with
  | nil => intro i hi; cases hi
  | cons j is ih =>
    intro i hi
    rw [List.nodup_cons] at h
    rw [List.count_cons]
    rcases List.mem_cons.mp hi with rfl | hi
    · rw [List.count_eq_zero.mpr h.1]
      simp
    · have : j ≠ i := fun z => h.1 (z ▸ hi)
      rw [ih h.2 i hi]
      simp [this]
section
variable {P : Program} {w : World} {K : PySem.W.Frag} {mg : Str → Option Value} {base : Heap} {f : Addr} {fd : FuncData}
theorem ok_law_lot (F : Fun K "_law_lot" "_law_lot" s_law_lot f fd) (M : Mg mg) (C_law_inputs : Cal P w K mg base CX0 "_law_inputs" 2 ["_law_cell", "_law_many"] (spInputs K)) (C_law_number : Cal P w K mg base CX0 "_law_number" 2 ["_law_cell"] (spNumber K)) : FnOk P w K mg base CX0 3 f fd ["_law_lots_here", "_law_lands_here", "_law_cells"] (spLot K) := by
  refine F.ok sc_law_lot (fun vs H Q E h => ?_) (fun cdv A outer s H vs Q E hr h => ?_)
  · obtain ⟨a, ld, cl, gs, css, x0, x1, x2, rfl, _⟩ := h
    rfl
  obtain ⟨a, ld, cl, gs, css, x0, x1, x2, rfl, L, at_, lo, l23, LD, lc, cn, LC, q⟩ := h
  refine ⟨_, (@pss_cons _ _ _ _ _ (@ps_set _ _ 3 _ _ _ _ sc_law_lot.nd rfl l_law_lot_3 (@pe_callC _ _ _ _ _ _ _ _ _ _ _ C_law_inputs hr g_law_lot__law_inputs (@pa_cons _ _ _ _ _ (@pe_ix _ _ _ _ _ _ _ (@ix_list _) (@pe_var _ 2 _ _ rfl v_law_lot_2 dn__law_cells dc__law_cells) (@pe_int _ _ _ _) (fun _ _ => rfl)) (@pa_cons _ _ _ _ _ (@pe_callB _ _ _ _ _ _ _ _ _ call_len_seq g_law_lot_len M.m_len b_len (@pa_cons _ _ _ _ _ (@pe_var _ 0 _ _ rfl v_law_lot_0 dn__law_lots_here dc__law_lots_here) (@pa_nil _) (star1 rfl)) nn_len dn_len (star1 rfl) nost0) (@pa_nil _) (star1 rfl)) (star1 rfl)) (by decide) dn__law_inputs (star1 rfl) (nost1 rfl nost0)) (swap1 rfl) (.inl rfl)) (@pss_cons _ _ _ _ _ (@ps_while _ _ _ _ _ _ PassesOwn.never (@pt_cmpR _ _ _ _ _ _ _ _ (@op_gt _) (@pe_callB _ _ _ _ _ _ _ _ _ (call_sum1 rfl) g_law_lot_sum M.m_sum b_sum (@pa_cons _ _ _ _ _ (@pe_comp _ _ _ _ _ _ _ _ _ _ _ _ _ _ _ rfl (CompOk.make (N' := ["_law_lots_here", "_law_at"]) (ix := [0]) (nl := 1) (by rfl) (fm1 rfl fm0) (by rfl) (by decide +kernel) rfl (by decide +kernel) rfl (And.intro ⟨rfl, .inl rfl, .inl rfl⟩ True.intro)) (@pi_list _ _ _ _ (@pe_var _ 3 _ _ rfl v_law_lot_3 dn__law_inputs_here dc__law_inputs_here)) (fun _ _ _ _ _ => (@pg_name _ _ 1 _ (show List.Nodup (["_law_lots_here", "_law_at"] : List Str) from by decide) rfl (Or.inl rfl) (by first | exact .inl rfl | exact .inr rfl | assumption))) (fun _ _ _ _ _ => (@pif_nil _)) (fun _ _ _ _ _ => (@pe_ix _ _ _ _ _ _ _ (ix_tupK (K := K) rfl) (@pe_ix _ _ _ _ _ _ _ (@ix_listK _ K rfl) (@pv _ 0 _ _ (by rfl) (by first | exact Or.inl rfl | exact Or.inr (Or.inl rfl) | exact Or.inr (Or.inr rfl)) (by decide) (by decide)) (@pv _ 1 _ _ (by rfl) (by first | exact Or.inl rfl | exact Or.inr (Or.inl rfl) | exact Or.inr (Or.inr rfl)) (by decide) (by decide)) (fun _ _ => rfl)) (@pe_int _ _ _ _) (fun _ _ => rfl))) (by intro _; rfl)) (@pa_nil _) (star1 rfl)) nn_sum dn_sum (star1 rfl) nost0) (@pe_op _ _ _ _ _ _ _ _ (@op_sub _) (@pe_op _ _ _ _ _ _ _ _ (@op_pow _) (@pe_int _ _ _ _) (@pe_int _ _ _ _)) (@pe_op _ _ _ _ _ _ _ _ (@op_pow _) (@pe_int _ _ _ _) (@pe_int _ _ _ _))) (nomark _)) (@pss_one _ _ _ (@ps_expr _ _ _ _ (@pe_bm0 _ _ _ _ _ _ _ _ _ PySem.F.plainAttrs_list PySem.F.slot_list_pop PySem.F.type_list_pop mt_pop (@pe_var _ 3 _ _ rfl v_law_lot_3 dn__law_inputs_here dc__law_inputs_here) (by rfl) (by rfl)) (swap1 rfl)))) (@pss_cons _ _ _ _ _ (@ps_set _ _ 4 _ _ _ _ sc_law_lot.nd rfl l_law_lot_4 (@pe_callB _ _ _ _ _ _ _ _ _ (call_sum1 rfl) g_law_lot_sum M.m_sum b_sum (@pa_cons _ _ _ _ _ (@pe_comp _ _ _ _ _ _ _ _ _ _ _ _ _ _ _ rfl (CompOk.make (N' := ["_law_lots_here", "_law_at"]) (ix := [0]) (nl := 1) (by rfl) (fm1 rfl fm0) (by rfl) (by decide +kernel) rfl (by decide +kernel) rfl (And.intro ⟨rfl, .inl rfl, .inl rfl⟩ True.intro)) (@pi_list _ _ _ _ (@pe_var _ 3 _ _ rfl v_law_lot_3 dn__law_inputs_here dc__law_inputs_here)) (fun _ _ _ _ _ => (@pg_name _ _ 1 _ (show List.Nodup (["_law_lots_here", "_law_at"] : List Str) from by decide) rfl (Or.inl rfl) (by first | exact .inl rfl | exact .inr rfl | assumption))) (fun _ _ _ _ _ => (@pif_nil _)) (fun _ _ _ _ _ => (@pe_ix _ _ _ _ _ _ _ (ix_tupK (K := K) rfl) (@pe_ix _ _ _ _ _ _ _ (@ix_listK _ K rfl) (@pv _ 0 _ _ (by rfl) (by first | exact Or.inl rfl | exact Or.inr (Or.inl rfl) | exact Or.inr (Or.inr rfl)) (by decide) (by decide)) (@pv _ 1 _ _ (by rfl) (by first | exact Or.inl rfl | exact Or.inr (Or.inl rfl) | exact Or.inr (Or.inr rfl)) (by decide) (by decide)) (fun _ _ => rfl)) (@pe_int _ _ _ _) (fun _ _ => rfl))) (by intro _; rfl)) (@pa_nil _) (star1 rfl)) nn_sum dn_sum (star1 rfl) nost0) (swap1 rfl) (.inl rfl)) (@pss_cons _ _ _ _ _ (@ps_set _ _ 5 _ _ _ _ sc_law_lot.nd rfl l_law_lot_5 (@pe_op _ _ _ _ _ _ _ _ (@op_mod _) (@pe_ix _ _ _ _ _ _ _ (@ix_list _) (@pe_var _ 2 _ _ rfl v_law_lot_2 dn__law_cells dc__law_cells) (@pe_int _ _ _ _) (fun _ _ => rfl)) (@pe_int _ _ _ _)) (swap1 rfl) (.inl rfl)) (@pss_cons _ _ _ _ _ (@ps_set _ _ 6 _ _ _ _ sc_law_lot.nd rfl l_law_lot_6 (@pe_op _ _ _ _ _ _ _ _ (@op_mod _) (@pe_op _ _ _ _ _ _ _ _ (@op_fdivB _) (@pe_ix _ _ _ _ _ _ _ (@ix_list _) (@pe_var _ 2 _ _ rfl v_law_lot_2 dn__law_cells dc__law_cells) (@pe_int _ _ _ _) (fun _ _ => rfl)) (@pe_int _ _ _ _)) (@pe_op _ _ _ _ _ _ _ _ (@op_pow _) (@pe_int _ _ _ _) (@pe_int _ _ _ _))) (swap1 rfl) (.inl rfl)) (@pss_cons _ _ _ _ _ (@ps_if _ _ _ _ _ _ _ _ (@pt_cmpR _ _ _ _ _ _ _ _ (@op_lt _) (@pe_var _ 5 _ _ rfl v_law_lot_5 dn__law_way dc__law_way) (@pe_int _ _ _ _) (nomark _)) (@pss_one _ _ _ (@ps_set _ _ 6 _ _ _ _ sc_law_lot.nd rfl l_law_lot_6 (@pe_op _ _ _ _ _ _ _ _ (@op_mod _) (@pe_var _ 6 _ _ rfl v_law_lot_6 dn__law_own dc__law_own) (@pe_int _ _ _ _)) (swap1 rfl) (.inl rfl))) (@pss_nil _)) (@pss_cons _ _ _ _ _ (@ps_if _ _ _ _ _ _ _ _ (@pt_cmpR _ _ _ _ _ _ _ _ (@op_eq _) (@pe_var _ 5 _ _ rfl v_law_lot_5 dn__law_way dc__law_way) (@pe_int _ _ _ _) (nomark _)) (@pss_one _ _ _ (@ps_set _ _ 6 _ _ _ _ sc_law_lot.nd rfl l_law_lot_6 (@pe_op _ _ _ _ _ _ _ _ (@op_mod _) (@pe_var _ 6 _ _ rfl v_law_lot_6 dn__law_own dc__law_own) (@pe_op _ _ _ _ _ _ _ _ (@op_add _) (@pe_var _ 4 _ _ rfl v_law_lot_4 dn__law_total dc__law_total) (@pe_int _ _ _ _))) (swap1 rfl) (.inl rfl))) (@pss_nil _)) (@pss_cons _ _ _ _ _ (@ps_if _ _ _ _ _ _ _ _ (@pt_cmpR _ _ _ _ _ _ _ _ (@op_eq _) (@pe_var _ 5 _ _ rfl v_law_lot_5 dn__law_way dc__law_way) (@pe_int _ _ _ _) (nomark _)) (@pss_one _ _ _ (@ps_set _ _ 6 _ _ _ _ sc_law_lot.nd rfl l_law_lot_6 (@pe_op _ _ _ _ _ _ _ _ (@op_sub _) (@pe_op _ _ _ _ _ _ _ _ (@op_pow _) (@pe_int _ _ _ _) (@pe_int _ _ _ _)) (@pe_var _ 4 _ _ rfl v_law_lot_4 dn__law_total dc__law_total)) (swap1 rfl) (.inl rfl))) (@pss_nil _)) (@pss_cons _ _ _ _ _ (@ps_set _ _ 7 _ _ _ _ sc_law_lot.nd rfl l_law_lot_7 (@pe_callB _ _ _ _ _ _ _ _ _ (call_max2 rfl) g_law_lot_max M.m_max b_max (@pa_cons _ _ _ _ _ (@pe_int _ _ _ _) (@pa_cons _ _ _ _ _ (@pe_op _ _ _ _ _ _ _ _ (@op_add _) (@pe_var _ 4 _ _ rfl v_law_lot_4 dn__law_total dc__law_total) (@pe_var _ 6 _ _ rfl v_law_lot_6 dn__law_own dc__law_own)) (@pa_nil _) (star1 rfl)) (star1 rfl)) nn_max dn_max (star1 rfl) (nost1 rfl nost0)) (swap1 rfl) (.inl rfl)) (@pss_one _ _ _ (@ps_ret _ _ _ _ (@pe_tup _ _ _ _ _ (@pa_cons _ _ _ _ _ (@pe_ix _ _ _ _ _ _ _ (@ix_list _) (@pe_var _ 1 _ _ rfl v_law_lot_1 dn__law_lands_here dc__law_lands_here) (@pe_op _ _ _ _ _ _ _ _ (@op_mod _) (@pe_ix _ _ _ _ _ _ _ (@ix_list _) (@pe_var _ 2 _ _ rfl v_law_lot_2 dn__law_cells dc__law_cells) (@pe_int _ _ _ _) (fun _ _ => rfl)) (@pe_callB _ _ _ _ _ _ _ _ _ call_len_seq g_law_lot_len M.m_len b_len (@pa_cons _ _ _ _ _ (@pe_var _ 1 _ _ rfl v_law_lot_1 dn__law_lands_here dc__law_lands_here) (@pa_nil _) (star1 rfl)) nn_len dn_len (star1 rfl) nost0)) (fun _ _ => rfl)) (@pa_cons _ _ _ _ _ (@pe_callC _ _ _ _ _ _ _ _ _ _ _ C_law_number hr g_law_lot__law_number (@pa_cons _ _ _ _ _ (@pe_op _ _ _ _ _ _ _ _ (@op_fdivB _) (@pe_ix _ _ _ _ _ _ _ (@ix_list _) (@pe_var _ 2 _ _ rfl v_law_lot_2 dn__law_cells dc__law_cells) (@pe_int _ _ _ _) (fun _ _ => rfl)) (@pe_int _ _ _ _)) (@pa_nil _) (star1 rfl)) (by decide) dn__law_number (star1 rfl) nost0) (@pa_cons _ _ _ _ _ (@pe_var _ 7 _ _ rfl v_law_lot_7 dn__law_price dc__law_price) (@pa_cons _ _ _ _ _ (@pe_callTy _ _ _ _ _ _ _ _ _ call_tupleL g_law_lot_tuple M.m_tuple b_tuple (@pa_cons _ _ _ _ _ (@pe_var _ 3 _ _ rfl v_law_lot_3 dn__law_inputs_here dc__law_inputs_here) (@pa_nil _) (star1 rfl)) nn_tuple dn_tuple (star1 rfl) nost0) (@pa_nil _) (star1 rfl)) (star1 rfl)) (star1 rfl)) (star1 rfl)))))))))))))), ?_⟩
  refine cut2 fun tl htl => ?_
  simp only [tTurn, rTurnT, tTryS, rCountT, rPop, rRep, tCont, iZipT, tChain3, tFld, sFld, tMake, tMake0, tMethD, tBM0, rUpper, tDict1T, tTryN, rSlS, rMulS, rCatS, iZipL, rInsert, rReverse, tDNewX, tTry, tRaise, iEnumL, iEnumT, iZip, iSeq, iOr, rIx, iStr, rLeS, rJoin, rSlTA, tComp_eq, tComp1, slots, Option.getD_some, Option.getD_none, tYes, tSeq, tAsg, gName, tOp, tUn, tC, tVar, tCB, tCons, tNil, tCall, rI, rI0, rU, tRet, tRetN, tIfS, tTest, tB, tAnd, tOr, tNot, tAndV, tOrV, tNotV, tIf, tChain, tMenu, tPar, tDrop, tTup, tLst, tNext, tSl, tPart, tNoPart, tNever, gTup, gCons, gNil, gSub, rSetL, tBM, rAppend, rEq, rNe, rIsi, rIxL, rIxT, rIxS, rSlL, isi_non_bl, isi_non_int, isi_non_str, isi_non_lst, isi_non_tup, isi_bl_bl, isi_bl_int, isi_bl_str, isi_bl_lst, isi_bl_tup, isi_int_bl, isi_int_int, isi_int_str, isi_int_lst, isi_int_tup, isi_str_bl, isi_str_int, isi_str_str, isi_str_lst, isi_str_tup, isi_lst_bl, isi_lst_int, isi_lst_str, isi_lst_lst, isi_lst_tup, isi_tup_bl, isi_tup_int, isi_tup_str, isi_tup_lst, isi_tup_tup, isi_dct_bl, isi_dct_int, isi_dct_str, isi_dct_lst, isi_dct_tup, Kd_non, Kd_bl, Kd_int, Kd_str, sc_non_non, sc_non_int, sc_int_non, sc_non_bl, sc_bl_non, sc_non_str, sc_str_non, sc_int_int, sc_bl_bl, sc_str_str, sc_int_str, sc_str_int, sc_bl_str, sc_str_bl, decide_true, decide_false, tFor_eq, iList, iTup, iRng1, iRng2, iRng3, rIndexT, tBM0, tBMT, tyK_int, tyK_bool, tyK_str, tyK_list, tyK_tuple, L2.start, cxK, Int.reduceToNat, List.map_cons, List.map_nil, List.length_cons, List.length_nil, Nat.reduceAdd, Nat.reduceSub, Nat.zero_add, List.replicate_succ, List.replicate_zero, List.cons_append, List.nil_append, List.append_nil, List.getElem?_cons_zero, List.getElem?_cons_succ, List.set_cons_zero, List.set_cons_succ, Option.some.injEq, V.int.injEq, V.bl.injEq, V.ref.injEq, V.str.injEq, V.ty.injEq, List.cons.injEq, exists_eq_left', exists_eq_left, exists_eq_right, exists_and_left, exists_and_right, and_true, true_and, and_assoc, exists_const, decide_eq_true_eq, Bool.not_eq_true', Bool.not_true, Bool.not_false, Bool.not_not, decide_eq_false_iff_not, ite_not, Bool.false_eq_true, if_true, if_false, reduceCtorEq, and_false, false_and, exists_false, or_false, false_or, ↓reduceIte, eq_self, reduceIte]
  refine ⟨_, LC, _, rfl, _, .inl L, ?_⟩
  rw [refs_len]
  refine ⟨_, _, rfl, by omega, fun r is0 H1 e1 hr0 dr0 il0 iin0 nd0 => ?_⟩
  refine ⟨fun m σ H' => ∃ is : List Int, is.length = m ∧ H' r = some (.lst (is.map V.int)) ∧ is.length ≤ 4 ∧ (∀ i ∈ is, 0 ≤ i ∧ i < (gs.length : Int)) ∧ is.Nodup ∧ Same H H' ∧ σ = [some (.ref a), some (.ref ld), some (.ref cl), some (.ref r), none, none, none, none], ⟨_, is0, rfl, dr0, il0, iin0, nd0, e1, rfl⟩, ?_⟩
  rintro m σ Hc ⟨is, rfl, dr, il, iin, nd, eC, rfl⟩
  simp only [tTurn, rTurnT, tTryS, rCountT, rPop, rRep, tCont, iZipT, tChain3, tFld, sFld, tMake, tMake0, tMethD, tBM0, rUpper, tDict1T, tTryN, rSlS, rMulS, rCatS, iZipL, rInsert, rReverse, tDNewX, tTry, tRaise, iEnumL, iEnumT, iZip, iSeq, iOr, rIx, iStr, rLeS, rJoin, rSlTA, tComp_eq, tComp1, slots, Option.getD_some, Option.getD_none, tYes, tSeq, tAsg, gName, tOp, tUn, tC, tVar, tCB, tCons, tNil, tCall, rI, rI0, rU, tRet, tRetN, tIfS, tTest, tB, tAnd, tOr, tNot, tAndV, tOrV, tNotV, tIf, tChain, tMenu, tPar, tDrop, tTup, tLst, tNext, tSl, tPart, tNoPart, tNever, gTup, gCons, gNil, gSub, rSetL, tBM, rAppend, rEq, rNe, rIsi, rIxL, rIxT, rIxS, rSlL, isi_non_bl, isi_non_int, isi_non_str, isi_non_lst, isi_non_tup, isi_bl_bl, isi_bl_int, isi_bl_str, isi_bl_lst, isi_bl_tup, isi_int_bl, isi_int_int, isi_int_str, isi_int_lst, isi_int_tup, isi_str_bl, isi_str_int, isi_str_str, isi_str_lst, isi_str_tup, isi_lst_bl, isi_lst_int, isi_lst_str, isi_lst_lst, isi_lst_tup, isi_tup_bl, isi_tup_int, isi_tup_str, isi_tup_lst, isi_tup_tup, isi_dct_bl, isi_dct_int, isi_dct_str, isi_dct_lst, isi_dct_tup, Kd_non, Kd_bl, Kd_int, Kd_str, sc_non_non, sc_non_int, sc_int_non, sc_non_bl, sc_bl_non, sc_non_str, sc_str_non, sc_int_int, sc_bl_bl, sc_str_str, sc_int_str, sc_str_int, sc_bl_str, sc_str_bl, decide_true, decide_false, tFor_eq, iList, iTup, iRng1, iRng2, iRng3, rIndexT, tBM0, tBMT, tyK_int, tyK_bool, tyK_str, tyK_list, tyK_tuple, L2.start, cxK, Int.reduceToNat, List.map_cons, List.map_nil, List.length_cons, List.length_nil, Nat.reduceAdd, Nat.reduceSub, Nat.zero_add, List.replicate_succ, List.replicate_zero, List.cons_append, List.nil_append, List.append_nil, List.getElem?_cons_zero, List.getElem?_cons_succ, List.set_cons_zero, List.set_cons_succ, Option.some.injEq, V.int.injEq, V.bl.injEq, V.ref.injEq, V.str.injEq, V.ty.injEq, List.cons.injEq, exists_eq_left', exists_eq_left, exists_eq_right, exists_and_left, exists_and_right, and_true, true_and, and_assoc, exists_const, decide_eq_true_eq, Bool.not_eq_true', Bool.not_true, Bool.not_false, Bool.not_not, decide_eq_false_iff_not, ite_not, Bool.false_eq_true, if_true, if_false, reduceCtorEq, and_false, false_and, exists_false, or_false, false_or, ↓reduceIte, eq_self, reduceIte]
  refine ⟨⟨_, SqL.of dr⟩, fun D hD => ?_⟩
  obtain ⟨Pc, hC⟩ : ∃ Pc : Nat → St → Hp → Prop, Pc = fun i τ H' => ∃ z, H' D = some (.lst (((is.map (prAt gs)).take i).map V.int)) ∧ Same Hc H' ∧ τ = [some (.ref a), z] := ⟨_, rfl⟩
  refine compS_list (is.map V.int) Pc ?_ (fun i τ H' _ h => by rw [hC] at h; obtain ⟨z, _, e, _⟩ := h; exact SqL.of (e _ _ dr)) ?_ ?_
  · rw [hC]
    exact ⟨_, upd_same, same_new hD _, rfl⟩
  · intro i x τ H' R hx h next
    rw [hC] at h
    obtain ⟨z, d1, d2, rfl⟩ := h
    rw [List.getElem?_map] at hx
    obtain ⟨o, ho, rfl⟩ := Option.map_eq_some_iff.mp hx
    have li := (List.getElem?_eq_some_iff.mp ho).1
    have oi := iin o (List.mem_of_getElem? ho)
    obtain ⟨j, hj⟩ : ∃ j : Nat, o = (j : Int) := ⟨o.toNat, by omega⟩
    subst hj
    obtain ⟨g, hg⟩ : ∃ g, gs[j]? = some g := ⟨_, List.getElem?_eq_getElem (show j < gs.length by omega)⟩
    have ga := ((at_ g (List.mem_of_getElem? hg)).same eC).same d2
    have ep : prAt gs (j : Int) = g.pr := by
      unfold prAt
      rw [Int.toNat_natCast, hg]
      rfl
    simp only [tTurn, rTurnT, tTryS, rCountT, rPop, rRep, tCont, iZipT, tChain3, tFld, sFld, tMake, tMake0, tMethD, tBM0, rUpper, tDict1T, tTryN, rSlS, rMulS, rCatS, iZipL, rInsert, rReverse, tDNewX, tTry, tRaise, iEnumL, iEnumT, iZip, iSeq, iOr, rIx, iStr, rLeS, rJoin, rSlTA, tComp_eq, tComp1, slots, Option.getD_some, Option.getD_none, tYes, tSeq, tAsg, gName, tOp, tUn, tC, tVar, tCB, tCons, tNil, tCall, rI, rI0, rU, tRet, tRetN, tIfS, tTest, tB, tAnd, tOr, tNot, tAndV, tOrV, tNotV, tIf, tChain, tMenu, tPar, tDrop, tTup, tLst, tNext, tSl, tPart, tNoPart, tNever, gTup, gCons, gNil, gSub, rSetL, tBM, rAppend, rEq, rNe, rIsi, rIxL, rIxT, rIxS, rSlL, isi_non_bl, isi_non_int, isi_non_str, isi_non_lst, isi_non_tup, isi_bl_bl, isi_bl_int, isi_bl_str, isi_bl_lst, isi_bl_tup, isi_int_bl, isi_int_int, isi_int_str, isi_int_lst, isi_int_tup, isi_str_bl, isi_str_int, isi_str_str, isi_str_lst, isi_str_tup, isi_lst_bl, isi_lst_int, isi_lst_str, isi_lst_lst, isi_lst_tup, isi_tup_bl, isi_tup_int, isi_tup_str, isi_tup_lst, isi_tup_tup, isi_dct_bl, isi_dct_int, isi_dct_str, isi_dct_lst, isi_dct_tup, Kd_non, Kd_bl, Kd_int, Kd_str, sc_non_non, sc_non_int, sc_int_non, sc_non_bl, sc_bl_non, sc_non_str, sc_str_non, sc_int_int, sc_bl_bl, sc_str_str, sc_int_str, sc_str_int, sc_bl_str, sc_str_bl, decide_true, decide_false, tFor_eq, iList, iTup, iRng1, iRng2, iRng3, rIndexT, tBM0, tBMT, tyK_int, tyK_bool, tyK_str, tyK_list, tyK_tuple, L2.start, cxK, Int.reduceToNat, List.map_cons, List.map_nil, List.length_cons, List.length_nil, Nat.reduceAdd, Nat.reduceSub, Nat.zero_add, List.replicate_succ, List.replicate_zero, List.cons_append, List.nil_append, List.append_nil, List.getElem?_cons_zero, List.getElem?_cons_succ, List.set_cons_zero, List.set_cons_succ, Option.some.injEq, V.int.injEq, V.bl.injEq, V.ref.injEq, V.str.injEq, V.ty.injEq, List.cons.injEq, exists_eq_left', exists_eq_left, exists_eq_right, exists_and_left, exists_and_right, and_true, true_and, and_assoc, exists_const, decide_eq_true_eq, Bool.not_eq_true', Bool.not_true, Bool.not_false, Bool.not_not, decide_eq_false_iff_not, ite_not, Bool.false_eq_true, if_true, if_false, reduceCtorEq, and_false, false_and, exists_false, or_false, false_or, ↓reduceIte, eq_self, reduceIte]
    refine ⟨_, (eC.trans d2).seq L, _, refs_ix hg, _, rfl, _, ga.tq, _, rfl, _, d1, by rw [List.length_map, List.length_take, List.length_map]; exact Nat.lt_of_lt_of_le (m := 64) (by omega) (by decide), next _ _ ?_⟩
    rw [hC]
    refine ⟨_, ?_, same_upd d2 hD _, rfl⟩
    rw [upd_same, List.take_add_one, List.getElem?_map, ho, List.map_append]
    show _ = some (HO.lst (_ ++ [V.int (prAt gs (j : Int))]))
    rw [ep]
  intro τ H' h
  rw [hC] at h
  obtain ⟨z, d1, d2, rfl⟩ := h
  rw [List.length_map, List.take_of_length_le (by rw [List.length_map]; exact Nat.le_refl _)] at d1
  clear hC Pc
  refine ⟨_, rfl, _, SqL.of d1, cpow, cpow, ?_⟩
  have es : (is.map (prAt gs)).sum = sumP gs is := rfl
  rw [es]
  have e2 := eC.trans d2
  have dr2 := d2 _ _ dr
  by_cases big : (10 : Int) ^ 12 - 10 ^ 9 < sumP gs is
  · rw [if_pos big]
    have l1 : 1 ≤ is.length := by
      cases is with
      | nil => exact absurd big (show ¬ ((10 : Int) ^ 12 - 10 ^ 9 < 0) by decide)
      | cons i is => exact Nat.le_add_left ..
    refine ⟨_, fun _ _ h => h, .inl ⟨rfl, _, SqL.of dr2⟩, _, dr2, ⟨_, List.getElem?_eq_getElem (by rw [List.length_map]; omega)⟩, ?_⟩
    refine ⟨_, ?_, is.dropLast, rfl, by rw [upd_same, ← List.map_dropLast], by rw [List.length_dropLast]; omega, fun i hi => iin i (List.dropLast_subset is hi), nd.sublist (List.dropLast_sublist is), same_upd e2 hr0 _, rfl⟩
    rw [List.length_dropLast]
    omega
  rw [if_neg big]
  have nn := sumP_nn lo iin
  clear d1 hD D
  obtain ⟨Hd, hHd⟩ : ∃ Hd, Hd = H' := ⟨_, rfl⟩
  subst hHd
  clear d2 eC dr
  have eC := e2
  have dr := dr2
  clear e2 dr2
  rw [htl]
  clear htl tl
  refine cut6 fun tl6 htl6 => ?_
  have TL6 : ∀ (H5 : Hp) (wy own : Int), Same H H5 → H5 r = some (.lst (is.map V.int)) → 0 ≤ own → sumP gs is + own ≤ 10 ^ 12 → tl6 { nx := fun x H' => Q V.non H', rt := Q } [some (V.ref a), some (V.ref ld), some (V.ref cl), some (V.ref r), some (V.int (sumP gs is)), some (V.int wy), some (V.int own), none] H5 := by
    intro H5 wy own e5 d5 o0 o1
    rw [htl6]
    simp only [tTurn, rTurnT, tTryS, rCountT, rPop, rRep, tCont, iZipT, tChain3, tFld, sFld, tMake, tMake0, tMethD, tBM0, rUpper, tDict1T, tTryN, rSlS, rMulS, rCatS, iZipL, rInsert, rReverse, tDNewX, tTry, tRaise, iEnumL, iEnumT, iZip, iSeq, iOr, rIx, iStr, rLeS, rJoin, rSlTA, tComp_eq, tComp1, slots, Option.getD_some, Option.getD_none, tYes, tSeq, tAsg, gName, tOp, tUn, tC, tVar, tCB, tCons, tNil, tCall, rI, rI0, rU, tRet, tRetN, tIfS, tTest, tB, tAnd, tOr, tNot, tAndV, tOrV, tNotV, tIf, tChain, tMenu, tPar, tDrop, tTup, tLst, tNext, tSl, tPart, tNoPart, tNever, gTup, gCons, gNil, gSub, rSetL, tBM, rAppend, rEq, rNe, rIsi, rIxL, rIxT, rIxS, rSlL, isi_non_bl, isi_non_int, isi_non_str, isi_non_lst, isi_non_tup, isi_bl_bl, isi_bl_int, isi_bl_str, isi_bl_lst, isi_bl_tup, isi_int_bl, isi_int_int, isi_int_str, isi_int_lst, isi_int_tup, isi_str_bl, isi_str_int, isi_str_str, isi_str_lst, isi_str_tup, isi_lst_bl, isi_lst_int, isi_lst_str, isi_lst_lst, isi_lst_tup, isi_tup_bl, isi_tup_int, isi_tup_str, isi_tup_lst, isi_tup_tup, isi_dct_bl, isi_dct_int, isi_dct_str, isi_dct_lst, isi_dct_tup, Kd_non, Kd_bl, Kd_int, Kd_str, sc_non_non, sc_non_int, sc_int_non, sc_non_bl, sc_bl_non, sc_non_str, sc_str_non, sc_int_int, sc_bl_bl, sc_str_str, sc_int_str, sc_str_int, sc_bl_str, sc_str_bl, decide_true, decide_false, tFor_eq, iList, iTup, iRng1, iRng2, iRng3, rIndexT, tBM0, tBMT, tyK_int, tyK_bool, tyK_str, tyK_list, tyK_tuple, L2.start, cxK, Int.reduceToNat, List.map_cons, List.map_nil, List.length_cons, List.length_nil, Nat.reduceAdd, Nat.reduceSub, Nat.zero_add, List.replicate_succ, List.replicate_zero, List.cons_append, List.nil_append, List.append_nil, List.getElem?_cons_zero, List.getElem?_cons_succ, List.set_cons_zero, List.set_cons_succ, Option.some.injEq, V.int.injEq, V.bl.injEq, V.ref.injEq, V.str.injEq, V.ty.injEq, List.cons.injEq, exists_eq_left', exists_eq_left, exists_eq_right, exists_and_left, exists_and_right, and_true, true_and, and_assoc, exists_const, decide_eq_true_eq, Bool.not_eq_true', Bool.not_true, Bool.not_false, Bool.not_not, decide_eq_false_iff_not, ite_not, Bool.false_eq_true, if_true, if_false, reduceCtorEq, and_false, false_and, exists_false, or_false, false_or, ↓reduceIte, eq_self, reduceIte]
    have lp : 0 < ((css.map fun cs => V.str (txt cs)).length : Int) := by rw [List.length_map]; omega
    have j0 := Int.emod_nonneg x0 (Int.ne_of_gt lp)
    have j1 := Int.emod_lt_of_pos x0 lp
    obtain ⟨j, hj⟩ : ∃ j : Nat, x0 % ((css.map fun cs => V.str (txt cs)).length : Int) = (j : Int) := ⟨(x0 % ((css.map fun cs => V.str (txt cs)).length : Int)).toNat, by omega⟩
    rw [hj, List.length_map] at j1
    obtain ⟨cs, hcs⟩ : ∃ cs, css[j]? = some cs := ⟨_, List.getElem?_eq_getElem (show j < css.length by omega)⟩
    have hx : (css.map fun cs => V.str (txt cs))[j]? = some (.str (txt cs)) := by rw [List.getElem?_map, hcs]; rfl
    refine ⟨_, e5.seq LC, _, rfl, _, .inl (e5.seq LD), _, rfl, lp, _, e5.seq LD, _, by rw [hj]; exact atI_nat hx, _, e5.seq LC, _, rfl, _, rfl, cdiv (by decide) (by decide), _, rfl, fun np nv H6 e6 dn l1 l4 nin => ?_⟩
    refine ⟨_, SqL.of (e6 _ _ d5), fun ip hip => ?_⟩
    obtain ⟨H7, g7, S7, T7⟩ : ∃ H7, H7 = upd H6 ip (.tup (is.map V.int)) ∧ Same H6 H7 ∧ H7 ip = some (.tup (is.map V.int)) := ⟨_, rfl, same_new hip _, upd_same⟩
    rw [← g7]
    clear g7
    refine ⟨by decide, fun t ht => ?_⟩
    obtain ⟨pr, hpr, p1, p2, p3⟩ : ∃ pr : Int, (if sumP gs is + own > 1 then sumP gs is + own else 1) = pr ∧ 1 ≤ pr ∧ pr ≤ 10 ^ 12 ∧ sumP gs is ≤ pr := ⟨_, rfl, by split <;> omega, by split <;> omega, by split <;> omega⟩
    rw [hpr]
    refine q ⟨t, np, ip, cs, nv, pr, is⟩ _ (e5.trans (e6.trans (S7.trans (same_new ht _)))) ⟨SqT.of upd_same, SqT.of ((S7.trans (same_new ht _)) _ _ dn), (same_new ht _) _ _ T7⟩ ⟨cn cs (List.mem_of_getElem? hcs), l1, l4, nin, p1, p2, il, iin, nodup_count nd, p3⟩
  simp only [tTurn, rTurnT, tTryS, rCountT, rPop, rRep, tCont, iZipT, tChain3, tFld, sFld, tMake, tMake0, tMethD, tBM0, rUpper, tDict1T, tTryN, rSlS, rMulS, rCatS, iZipL, rInsert, rReverse, tDNewX, tTry, tRaise, iEnumL, iEnumT, iZip, iSeq, iOr, rIx, iStr, rLeS, rJoin, rSlTA, tComp_eq, tComp1, slots, Option.getD_some, Option.getD_none, tYes, tSeq, tAsg, gName, tOp, tUn, tC, tVar, tCB, tCons, tNil, tCall, rI, rI0, rU, tRet, tRetN, tIfS, tTest, tB, tAnd, tOr, tNot, tAndV, tOrV, tNotV, tIf, tChain, tMenu, tPar, tDrop, tTup, tLst, tNext, tSl, tPart, tNoPart, tNever, gTup, gCons, gNil, gSub, rSetL, tBM, rAppend, rEq, rNe, rIsi, rIxL, rIxT, rIxS, rSlL, isi_non_bl, isi_non_int, isi_non_str, isi_non_lst, isi_non_tup, isi_bl_bl, isi_bl_int, isi_bl_str, isi_bl_lst, isi_bl_tup, isi_int_bl, isi_int_int, isi_int_str, isi_int_lst, isi_int_tup, isi_str_bl, isi_str_int, isi_str_str, isi_str_lst, isi_str_tup, isi_lst_bl, isi_lst_int, isi_lst_str, isi_lst_lst, isi_lst_tup, isi_tup_bl, isi_tup_int, isi_tup_str, isi_tup_lst, isi_tup_tup, isi_dct_bl, isi_dct_int, isi_dct_str, isi_dct_lst, isi_dct_tup, Kd_non, Kd_bl, Kd_int, Kd_str, sc_non_non, sc_non_int, sc_int_non, sc_non_bl, sc_bl_non, sc_non_str, sc_str_non, sc_int_int, sc_bl_bl, sc_str_str, sc_int_str, sc_str_int, sc_bl_str, sc_str_bl, decide_true, decide_false, tFor_eq, iList, iTup, iRng1, iRng2, iRng3, rIndexT, tBM0, tBMT, tyK_int, tyK_bool, tyK_str, tyK_list, tyK_tuple, L2.start, cxK, Int.reduceToNat, List.map_cons, List.map_nil, List.length_cons, List.length_nil, Nat.reduceAdd, Nat.reduceSub, Nat.zero_add, List.replicate_succ, List.replicate_zero, List.cons_append, List.nil_append, List.append_nil, List.getElem?_cons_zero, List.getElem?_cons_succ, List.set_cons_zero, List.set_cons_succ, Option.some.injEq, V.int.injEq, V.bl.injEq, V.ref.injEq, V.str.injEq, V.ty.injEq, List.cons.injEq, exists_eq_left', exists_eq_left, exists_eq_right, exists_and_left, exists_and_right, and_true, true_and, and_assoc, exists_const, decide_eq_true_eq, Bool.not_eq_true', Bool.not_true, Bool.not_false, Bool.not_not, decide_eq_false_iff_not, ite_not, Bool.false_eq_true, if_true, if_false, reduceCtorEq, and_false, false_and, exists_false, or_false, false_or, ↓reduceIte, eq_self, reduceIte]
  refine ⟨⟨_, SqL.of dr⟩, fun D hD => ?_⟩
  obtain ⟨Pc, hC⟩ : ∃ Pc : Nat → St → Hp → Prop, Pc = fun i τ H' => ∃ z, H' D = some (.lst (((is.map (prAt gs)).take i).map V.int)) ∧ Same Hd H' ∧ τ = [some (.ref a), z] := ⟨_, rfl⟩
  refine compS_list (is.map V.int) Pc ?_ (fun i τ H' _ h => by rw [hC] at h; obtain ⟨z, _, e, _⟩ := h; exact SqL.of (e _ _ dr)) ?_ ?_
  · rw [hC]
    exact ⟨_, upd_same, same_new hD _, rfl⟩
  · intro i x τ H' R hx h next
    rw [hC] at h
    obtain ⟨z, d1, d2, rfl⟩ := h
    rw [List.getElem?_map] at hx
    obtain ⟨o, ho, rfl⟩ := Option.map_eq_some_iff.mp hx
    have li := (List.getElem?_eq_some_iff.mp ho).1
    have oi := iin o (List.mem_of_getElem? ho)
    obtain ⟨j, hj⟩ : ∃ j : Nat, o = (j : Int) := ⟨o.toNat, by omega⟩
    subst hj
    obtain ⟨g, hg⟩ : ∃ g, gs[j]? = some g := ⟨_, List.getElem?_eq_getElem (show j < gs.length by omega)⟩
    have ga := ((at_ g (List.mem_of_getElem? hg)).same eC).same d2
    have ep : prAt gs (j : Int) = g.pr := by
      unfold prAt
      rw [Int.toNat_natCast, hg]
      rfl
    simp only [tTurn, rTurnT, tTryS, rCountT, rPop, rRep, tCont, iZipT, tChain3, tFld, sFld, tMake, tMake0, tMethD, tBM0, rUpper, tDict1T, tTryN, rSlS, rMulS, rCatS, iZipL, rInsert, rReverse, tDNewX, tTry, tRaise, iEnumL, iEnumT, iZip, iSeq, iOr, rIx, iStr, rLeS, rJoin, rSlTA, tComp_eq, tComp1, slots, Option.getD_some, Option.getD_none, tYes, tSeq, tAsg, gName, tOp, tUn, tC, tVar, tCB, tCons, tNil, tCall, rI, rI0, rU, tRet, tRetN, tIfS, tTest, tB, tAnd, tOr, tNot, tAndV, tOrV, tNotV, tIf, tChain, tMenu, tPar, tDrop, tTup, tLst, tNext, tSl, tPart, tNoPart, tNever, gTup, gCons, gNil, gSub, rSetL, tBM, rAppend, rEq, rNe, rIsi, rIxL, rIxT, rIxS, rSlL, isi_non_bl, isi_non_int, isi_non_str, isi_non_lst, isi_non_tup, isi_bl_bl, isi_bl_int, isi_bl_str, isi_bl_lst, isi_bl_tup, isi_int_bl, isi_int_int, isi_int_str, isi_int_lst, isi_int_tup, isi_str_bl, isi_str_int, isi_str_str, isi_str_lst, isi_str_tup, isi_lst_bl, isi_lst_int, isi_lst_str, isi_lst_lst, isi_lst_tup, isi_tup_bl, isi_tup_int, isi_tup_str, isi_tup_lst, isi_tup_tup, isi_dct_bl, isi_dct_int, isi_dct_str, isi_dct_lst, isi_dct_tup, Kd_non, Kd_bl, Kd_int, Kd_str, sc_non_non, sc_non_int, sc_int_non, sc_non_bl, sc_bl_non, sc_non_str, sc_str_non, sc_int_int, sc_bl_bl, sc_str_str, sc_int_str, sc_str_int, sc_bl_str, sc_str_bl, decide_true, decide_false, tFor_eq, iList, iTup, iRng1, iRng2, iRng3, rIndexT, tBM0, tBMT, tyK_int, tyK_bool, tyK_str, tyK_list, tyK_tuple, L2.start, cxK, Int.reduceToNat, List.map_cons, List.map_nil, List.length_cons, List.length_nil, Nat.reduceAdd, Nat.reduceSub, Nat.zero_add, List.replicate_succ, List.replicate_zero, List.cons_append, List.nil_append, List.append_nil, List.getElem?_cons_zero, List.getElem?_cons_succ, List.set_cons_zero, List.set_cons_succ, Option.some.injEq, V.int.injEq, V.bl.injEq, V.ref.injEq, V.str.injEq, V.ty.injEq, List.cons.injEq, exists_eq_left', exists_eq_left, exists_eq_right, exists_and_left, exists_and_right, and_true, true_and, and_assoc, exists_const, decide_eq_true_eq, Bool.not_eq_true', Bool.not_true, Bool.not_false, Bool.not_not, decide_eq_false_iff_not, ite_not, Bool.false_eq_true, if_true, if_false, reduceCtorEq, and_false, false_and, exists_false, or_false, false_or, ↓reduceIte, eq_self, reduceIte]
    refine ⟨_, (eC.trans d2).seq L, _, refs_ix hg, _, rfl, _, ga.tq, _, rfl, _, d1, by rw [List.length_map, List.length_take, List.length_map]; exact Nat.lt_of_lt_of_le (m := 64) (by omega) (by decide), next _ _ ?_⟩
    rw [hC]
    refine ⟨_, ?_, same_upd d2 hD _, rfl⟩
    rw [upd_same, List.take_add_one, List.getElem?_map, ho, List.map_append]
    show _ = some (HO.lst (_ ++ [V.int (prAt gs (j : Int))]))
    rw [ep]
  intro τ H' h
  rw [hC] at h
  obtain ⟨z, d1, d2, rfl⟩ := h
  rw [List.length_map, List.take_of_length_le (by rw [List.length_map]; exact Nat.le_refl _)] at d1
  clear hC Pc
  refine ⟨_, rfl, _, SqL.of d1, ?_⟩
  rw [es]
  have e9 := eC.trans d2
  have dr9 := d2 _ _ dr
  have o0 := Int.emod_nonneg (x2 / 8) (show (10 ^ 9 : Int) ≠ 0 by decide)
  have o1 := Int.emod_lt_of_pos (x2 / 8) (show (0 : Int) < 10 ^ 9 by decide)
  have o3 := Int.emod_nonneg (x2 / 8 % 10 ^ 9) (show (3 : Int) ≠ 0 by decide)
  have o4 := Int.emod_lt_of_pos (x2 / 8 % 10 ^ 9) (show (0 : Int) < 3 by decide)
  have o5 := Int.emod_nonneg (x2 / 8 % 10 ^ 9) (show (sumP gs is + 1) ≠ 0 by omega)
  have o6 : x2 / 8 % 10 ^ 9 % (sumP gs is + 1) ≤ x2 / 8 % 10 ^ 9 := emod_le o0 (by omega)
  refine ⟨_, e9.seq LC, _, rfl, _, rfl, by decide, _, e9.seq LC, _, rfl, _, rfl, cdiv (by decide) (by decide), cpow, by decide, ?_⟩
  by_cases w1 : x2 % 8 < 2
  · rw [if_pos w1]
    refine ⟨by decide, ?_⟩
    rw [if_neg (by omega), if_neg (by omega)]
    exact TL6 _ _ _ e9 dr9 o3 (by omega)
  rw [if_neg w1]
  by_cases w2 : x2 % 8 = 2
  · rw [if_pos w2]
    refine ⟨by omega, ?_⟩
    rw [if_neg (by omega)]
    exact TL6 _ _ _ e9 dr9 o5 (by omega)
  rw [if_neg w2]
  by_cases w3 : x2 % 8 = 3
  · rw [if_pos w3]
    exact ⟨cpow, TL6 _ _ _ e9 dr9 (by omega) (by omega)⟩
  · rw [if_neg w3]
    exact TL6 _ _ _ e9 dr9 o0 (by omega)
end

def spLots (K : PySem.W.Frag) : Sp := fun vs H Q _ => ∃ (a : Addr) (ns : List Int), vs = [.ref a] ∧ SqL K H a (ns.map V.int) ∧ ∀ (r : Addr) (gs : List Lt) H', Same H H' → H r = none → H' r = some (.lst (refs gs)) → (∀ g ∈ gs, LtAt K H' g) → Lots gs → 1 ≤ gs.length → gs.length ≤ 21 → Q (.ref r) H'
theorem Lots.snoc {gs : List Lt} {g : Lt} (h : Lots gs) (hg : GoodL gs g) : Lots (gs ++ [g]) := fun i x hx => by
  by_cases hi : i < gs.length
  · rw [List.getElem?_append_left hi] at hx
    have := h i x hx
    rw [List.take_append_of_le_length (Nat.le_of_lt hi)]
    exact this
  · have hl := (List.getElem?_eq_some_iff.mp hx).1
    rw [List.length_append] at hl
    have l1 : [g].length = 1 := rfl
    have e : i = gs.length := by omega
    subst e
    rw [List.getElem?_append_right (Nat.le_refl _), Nat.sub_self] at hx
    cases hx
    rw [List.take_append_of_le_length (Nat.le_refl _), List.take_of_length_le (Nat.le_refl _)]
    exact hg
theorem cut60 (xs : List V) : (cutV xs (some 2) (some 62)).length ≤ 60 := by
  unfold cutV
  have e1 : HT.sIx xs.length 0 (some 2) = min 2 xs.length := HT.sIx_nat xs.length 0 2
  have e2 : HT.sIx xs.length xs.length (some 62) = min 62 xs.length := HT.sIx_nat xs.length xs.length 62
  rw [e1, e2, List.length_take, List.length_drop]
  omega
section
variable {P : Program} {w : World} {K : PySem.W.Frag} {mg : Str → Option Value} {base : Heap} {f : Addr} {fd : FuncData}
theorem ok_law_lots (F : Fun K "_law_lots" "_law_lots" s_law_lots f fd) (M : Mg mg) (C_law_cell_at : Cal P w K mg base CX0 "_law_cell_at" 1 ["_law_script", "_law_k"] (spCellX K)) (C_law_lands : Cal P w K mg base CX0 "_law_lands" 2 ["_law_cell"] (spLands K))
    (C_law_lot : Cal P w K mg base CX0 "_law_lot" 3 ["_law_lots_here", "_law_lands_here", "_law_cells"] (spLot K)) : FnOk P w K mg base CX0 4 f fd ["_law_script"] (spLots K) := by
  refine F.ok sc_law_lots (fun vs H Q E h => ?_) (fun cdv A outer s H vs Q E hr h => ?_)
  · obtain ⟨a, ns, rfl, _⟩ := h
    rfl
  obtain ⟨a, ns, rfl, hS, q⟩ := h
  refine ⟨_, (@pss_cons _ _ _ _ _ (@ps_set _ _ 1 _ _ _ _ sc_law_lots.nd rfl l_law_lots_1 (@pe_callC _ _ _ _ _ _ _ _ _ _ _ C_law_lands hr g_law_lots__law_lands (@pa_cons _ _ _ _ _ (@pe_callC _ _ _ _ _ _ _ _ _ _ _ C_law_cell_at hr g_law_lots__law_cell_at (@pa_cons _ _ _ _ _ (@pe_var _ 0 _ _ rfl v_law_lots_0 dn__law_script dc__law_script) (@pa_cons _ _ _ _ _ (@pe_int _ _ _ _) (@pa_nil _) (star1 rfl)) (star1 rfl)) (by decide) dn__law_cell_at (star1 rfl) (nost1 rfl nost0)) (@pa_nil _) (star1 rfl)) (by decide) dn__law_lands (star1 rfl) nost0) (swap1 rfl) (.inl rfl)) (@pss_cons _ _ _ _ _ (@ps_set _ _ 2 _ _ _ _ sc_law_lots.nd rfl l_law_lots_2 (@pe_lst _ _ _ _ (@pa_nil _)) (swap1 rfl) (.inl rfl)) (@pss_cons _ _ _ _ _ (@ps_for _ _ _ _ _ _ _ _ PassesOwn.never rfl (@pi_range1 _ _ _ _ _ _ g_law_lots_range M.m_range (@pa_cons _ _ _ _ _ (@pe_op _ _ _ _ _ _ _ _ (@op_add _) (@pe_int _ _ _ _) (@pe_op _ _ _ _ _ _ _ _ (@op_fdivB _) (@pe_callB _ _ _ _ _ _ _ _ _ call_len_seq g_law_lots_len M.m_len b_len (@pa_cons _ _ _ _ _ (@pe_slice _ _ _ _ _ _ _ _ _ _ (@sl_list _) (@pe_var _ 0 _ _ rfl v_law_lots_0 dn__law_script dc__law_script) (@po_some _ _ _ (@pe_int _ _ _ _)) (@po_some _ _ _ (@pe_int _ _ _ _))) (@pa_nil _) (star1 rfl)) nn_len dn_len (star1 rfl) nost0) (@pe_int _ _ _ _))) (@pa_nil _) (star1 rfl)) (star1' rfl)) (@pg_name _ _ 3 _ sc_law_lots.nd rfl l_law_lots_3 (.inl rfl)) (@pss_cons _ _ _ _ _ (@ps_setComp _ _ _ _ _ _ _ _ _ _ _ _ _ _ _ 4 _ _ _ sc_law_lots.nd rfl l_law_lots_4 rfl (CompOk.make (N' := ["_law_script", "_law_j", "_law_k"]) (ix := [0, 3]) (nl := 1) (by rfl) (fm1 rfl (fm1 rfl fm0)) (by rfl) (by decide +kernel) rfl (by decide +kernel) rfl (And.intro ⟨rfl, .inl rfl, .inl rfl⟩ (And.intro ⟨rfl, .inl rfl, .inl rfl⟩ True.intro))) (@pi_range1 _ _ _ _ _ _ g_law_lots_range M.m_range (@pa_cons _ _ _ _ _ (@pe_int _ _ _ _) (@pa_nil _) (star1 rfl)) (star1' rfl)) (fun _ _ _ _ _ => (@pg_name _ _ 2 _ (show List.Nodup (["_law_script", "_law_j", "_law_k"] : List Str) from by decide) rfl (Or.inl rfl) (by first | exact .inl rfl | exact .inr rfl | assumption))) (fun _ _ _ _ _ => (@pif_nil _)) (fun _ _ _ _ _ => (@pe_callC _ _ _ _ _ _ _ _ _ _ _ C_law_cell_at hr rfl (@pa_cons _ _ _ _ _ (@pv _ 0 _ _ (by rfl) (by first | exact Or.inl rfl | exact Or.inr (Or.inl rfl) | exact Or.inr (Or.inr rfl)) (by decide) (by decide)) (@pa_cons _ _ _ _ _ (@pe_op _ _ _ _ _ _ _ _ (@op_add _) (@pe_op _ _ _ _ _ _ _ _ (@op_add _) (@pe_int _ _ _ _) (@pe_op _ _ _ _ _ _ _ _ (@op_mulB _) (@pe_int _ _ _ _) (@pv _ 1 _ _ (by rfl) (by first | exact Or.inl rfl | exact Or.inr (Or.inl rfl) | exact Or.inr (Or.inr rfl)) (by decide) (by decide)))) (@pv _ 2 _ _ (by rfl) (by first | exact Or.inl rfl | exact Or.inr (Or.inl rfl) | exact Or.inr (Or.inr rfl)) (by decide) (by decide))) (@pa_nil _) (star1 rfl)) (star1 rfl)) (by decide) dn__law_cell_at (star1 rfl) (nost1 rfl nost0))) (by rfl) (by intro _; rfl) (by first | exact .inl rfl | exact .inr rfl | assumption)) (@pss_one _ _ _ (@ps_expr _ _ _ _ (@pe_bm _ _ _ _ _ _ _ _ _ _ _ _ PySem.F.plainAttrs_list PySem.F.slot_list_append PySem.F.type_list_append mt_append (@pe_var _ 2 _ _ rfl v_law_lots_2 dn__law_lots_here dc__law_lots_here) (@pa_cons _ _ _ _ _ (@pe_callC _ _ _ _ _ _ _ _ _ _ _ C_law_lot hr g_law_lots__law_lot (@pa_cons _ _ _ _ _ (@pe_var _ 2 _ _ rfl v_law_lots_2 dn__law_lots_here dc__law_lots_here) (@pa_cons _ _ _ _ _ (@pe_var _ 1 _ _ rfl v_law_lots_1 dn__law_lands_here dc__law_lands_here) (@pa_cons _ _ _ _ _ (@pe_var _ 4 _ _ rfl v_law_lots_4 dn__law_cells dc__law_cells) (@pa_nil _) (star1 rfl)) (star1 rfl)) (star1 rfl)) (by decide) dn__law_lot (star1 rfl) (nost1 rfl (nost1 rfl nost0))) (@pa_nil _) (star1 rfl)) (by rfl) (by rfl) (by rfl) (by rfl) (by rfl)) (swap1 rfl)))) (by intro _; rfl)) (@pss_one _ _ _ (@ps_ret _ _ _ _ (@pe_var _ 2 _ _ rfl v_law_lots_2 dn__law_lots_here dc__law_lots_here)))))), ?_⟩
  simp only [tTurn, rTurnT, tTryS, rCountT, rPop, rRep, tCont, iZipT, tChain3, tFld, sFld, tMake, tMake0, tMethD, tBM0, rUpper, tDict1T, tTryN, rSlS, rMulS, rCatS, iZipL, rInsert, rReverse, tDNewX, tTry, tRaise, iEnumL, iEnumT, iZip, iSeq, iOr, rIx, iStr, rLeS, rJoin, rSlTA, tComp_eq, tComp1, slots, Option.getD_some, Option.getD_none, tYes, tSeq, tAsg, gName, tOp, tUn, tC, tVar, tCB, tCons, tNil, tCall, rI, rI0, rU, tRet, tRetN, tIfS, tTest, tB, tAnd, tOr, tNot, tAndV, tOrV, tNotV, tIf, tChain, tMenu, tPar, tDrop, tTup, tLst, tNext, tSl, tPart, tNoPart, tNever, gTup, gCons, gNil, gSub, rSetL, tBM, rAppend, rEq, rNe, rIsi, rIxL, rIxT, rIxS, rSlL, isi_non_bl, isi_non_int, isi_non_str, isi_non_lst, isi_non_tup, isi_bl_bl, isi_bl_int, isi_bl_str, isi_bl_lst, isi_bl_tup, isi_int_bl, isi_int_int, isi_int_str, isi_int_lst, isi_int_tup, isi_str_bl, isi_str_int, isi_str_str, isi_str_lst, isi_str_tup, isi_lst_bl, isi_lst_int, isi_lst_str, isi_lst_lst, isi_lst_tup, isi_tup_bl, isi_tup_int, isi_tup_str, isi_tup_lst, isi_tup_tup, isi_dct_bl, isi_dct_int, isi_dct_str, isi_dct_lst, isi_dct_tup, Kd_non, Kd_bl, Kd_int, Kd_str, sc_non_non, sc_non_int, sc_int_non, sc_non_bl, sc_bl_non, sc_non_str, sc_str_non, sc_int_int, sc_bl_bl, sc_str_str, sc_int_str, sc_str_int, sc_bl_str, sc_str_bl, decide_true, decide_false, tFor_eq, iList, iTup, iRng1, iRng2, iRng3, rIndexT, tBM0, tBMT, tyK_int, tyK_bool, tyK_str, tyK_list, tyK_tuple, L2.start, cxK, Int.reduceToNat, List.map_cons, List.map_nil, List.length_cons, List.length_nil, Nat.reduceAdd, Nat.reduceSub, Nat.zero_add, List.replicate_succ, List.replicate_zero, List.cons_append, List.nil_append, List.append_nil, List.getElem?_cons_zero, List.getElem?_cons_succ, List.set_cons_zero, List.set_cons_succ, Option.some.injEq, V.int.injEq, V.bl.injEq, V.ref.injEq, V.str.injEq, V.ty.injEq, List.cons.injEq, exists_eq_left', exists_eq_left, exists_eq_right, exists_and_left, exists_and_right, and_true, true_and, and_assoc, exists_const, decide_eq_true_eq, Bool.not_eq_true', Bool.not_true, Bool.not_false, Bool.not_not, decide_eq_false_iff_not, ite_not, Bool.false_eq_true, if_true, if_false, reduceCtorEq, and_false, false_and, exists_false, or_false, false_or, ↓reduceIte, eq_self, reduceIte]
  refine spCellX_of hS (by decide) fun c => ⟨_, rfl, fun ld css H1 e1 dl l1 l7 cn => ?_⟩
  simp only [tTurn, rTurnT, tTryS, rCountT, rPop, rRep, tCont, iZipT, tChain3, tFld, sFld, tMake, tMake0, tMethD, tBM0, rUpper, tDict1T, tTryN, rSlS, rMulS, rCatS, iZipL, rInsert, rReverse, tDNewX, tTry, tRaise, iEnumL, iEnumT, iZip, iSeq, iOr, rIx, iStr, rLeS, rJoin, rSlTA, tComp_eq, tComp1, slots, Option.getD_some, Option.getD_none, tYes, tSeq, tAsg, gName, tOp, tUn, tC, tVar, tCB, tCons, tNil, tCall, rI, rI0, rU, tRet, tRetN, tIfS, tTest, tB, tAnd, tOr, tNot, tAndV, tOrV, tNotV, tIf, tChain, tMenu, tPar, tDrop, tTup, tLst, tNext, tSl, tPart, tNoPart, tNever, gTup, gCons, gNil, gSub, rSetL, tBM, rAppend, rEq, rNe, rIsi, rIxL, rIxT, rIxS, rSlL, isi_non_bl, isi_non_int, isi_non_str, isi_non_lst, isi_non_tup, isi_bl_bl, isi_bl_int, isi_bl_str, isi_bl_lst, isi_bl_tup, isi_int_bl, isi_int_int, isi_int_str, isi_int_lst, isi_int_tup, isi_str_bl, isi_str_int, isi_str_str, isi_str_lst, isi_str_tup, isi_lst_bl, isi_lst_int, isi_lst_str, isi_lst_lst, isi_lst_tup, isi_tup_bl, isi_tup_int, isi_tup_str, isi_tup_lst, isi_tup_tup, isi_dct_bl, isi_dct_int, isi_dct_str, isi_dct_lst, isi_dct_tup, Kd_non, Kd_bl, Kd_int, Kd_str, sc_non_non, sc_non_int, sc_int_non, sc_non_bl, sc_bl_non, sc_non_str, sc_str_non, sc_int_int, sc_bl_bl, sc_str_str, sc_int_str, sc_str_int, sc_bl_str, sc_str_bl, decide_true, decide_false, tFor_eq, iList, iTup, iRng1, iRng2, iRng3, rIndexT, tBM0, tBMT, tyK_int, tyK_bool, tyK_str, tyK_list, tyK_tuple, L2.start, cxK, Int.reduceToNat, List.map_cons, List.map_nil, List.length_cons, List.length_nil, Nat.reduceAdd, Nat.reduceSub, Nat.zero_add, List.replicate_succ, List.replicate_zero, List.cons_append, List.nil_append, List.append_nil, List.getElem?_cons_zero, List.getElem?_cons_succ, List.set_cons_zero, List.set_cons_succ, Option.some.injEq, V.int.injEq, V.bl.injEq, V.ref.injEq, V.str.injEq, V.ty.injEq, List.cons.injEq, exists_eq_left', exists_eq_left, exists_eq_right, exists_and_left, exists_and_right, and_true, true_and, and_assoc, exists_const, decide_eq_true_eq, Bool.not_eq_true', Bool.not_true, Bool.not_false, Bool.not_not, decide_eq_false_iff_not, ite_not, Bool.false_eq_true, if_true, if_false, reduceCtorEq, and_false, false_and, exists_false, or_false, false_or, ↓reduceIte, eq_self, reduceIte]
  refine ⟨by decide, fun r hr0 => ?_⟩
  have Sr := same_new hr0 (.lst [])
  refine ⟨_, (e1.trans Sr).seq hS, fun sl hsl => ?_⟩
  have c60 := cut60 (ns.map V.int)
  obtain ⟨H2, g2, S2, L2'⟩ := fresh_lst (K := K) hsl (cutV (ns.map V.int) (some 2) (some 62))
  rw [← g2]
  clear g2
  refine ⟨_, .inl L2', cdiv (by decide) (by decide), by omega, by omega, ?_⟩
  obtain ⟨ln, hln, ln60⟩ : ∃ ln : Nat, (cutV (ns.map V.int) (some 2) (some 62)).length = ln ∧ ln ≤ 60 := ⟨_, rfl, c60⟩
  rw [hln]
  obtain ⟨Pv, hP⟩ : ∃ Pv : Nat → St → Hp → Prop, Pv = fun i σ H' => ∃ (gs : List Lt) (y z : Option V), H' r = some (.lst (refs gs)) ∧ gs.length = i ∧ (∀ g ∈ gs, LtAt K H' g) ∧ Lots gs ∧ Same H1 H' ∧ σ = [some (.ref a), some (.ref ld), some (.ref r), y, z] := ⟨_, rfl⟩
  refine forW_range Pv ?_ ?_ ?_
  · rw [hP]
    exact ⟨[], _, _, S2 _ _ upd_same, rfl, (fun _ h => by cases h), (fun i g h => by simp at h), Sr.trans S2, rfl⟩
  · intro i σ H3 hi g
    rw [hP] at g
    obtain ⟨gs, y, z, dr, gl, ga, lo, e3, rfl⟩ := g
    simp only [tTurn, rTurnT, tTryS, rCountT, rPop, rRep, tCont, iZipT, tChain3, tFld, sFld, tMake, tMake0, tMethD, tBM0, rUpper, tDict1T, tTryN, rSlS, rMulS, rCatS, iZipL, rInsert, rReverse, tDNewX, tTry, tRaise, iEnumL, iEnumT, iZip, iSeq, iOr, rIx, iStr, rLeS, rJoin, rSlTA, tComp_eq, tComp1, slots, Option.getD_some, Option.getD_none, tYes, tSeq, tAsg, gName, tOp, tUn, tC, tVar, tCB, tCons, tNil, tCall, rI, rI0, rU, tRet, tRetN, tIfS, tTest, tB, tAnd, tOr, tNot, tAndV, tOrV, tNotV, tIf, tChain, tMenu, tPar, tDrop, tTup, tLst, tNext, tSl, tPart, tNoPart, tNever, gTup, gCons, gNil, gSub, rSetL, tBM, rAppend, rEq, rNe, rIsi, rIxL, rIxT, rIxS, rSlL, isi_non_bl, isi_non_int, isi_non_str, isi_non_lst, isi_non_tup, isi_bl_bl, isi_bl_int, isi_bl_str, isi_bl_lst, isi_bl_tup, isi_int_bl, isi_int_int, isi_int_str, isi_int_lst, isi_int_tup, isi_str_bl, isi_str_int, isi_str_str, isi_str_lst, isi_str_tup, isi_lst_bl, isi_lst_int, isi_lst_str, isi_lst_lst, isi_lst_tup, isi_tup_bl, isi_tup_int, isi_tup_str, isi_tup_lst, isi_tup_tup, isi_dct_bl, isi_dct_int, isi_dct_str, isi_dct_lst, isi_dct_tup, Kd_non, Kd_bl, Kd_int, Kd_str, sc_non_non, sc_non_int, sc_int_non, sc_non_bl, sc_bl_non, sc_non_str, sc_str_non, sc_int_int, sc_bl_bl, sc_str_str, sc_int_str, sc_str_int, sc_bl_str, sc_str_bl, decide_true, decide_false, tFor_eq, iList, iTup, iRng1, iRng2, iRng3, rIndexT, tBM0, tBMT, tyK_int, tyK_bool, tyK_str, tyK_list, tyK_tuple, L2.start, cxK, Int.reduceToNat, List.map_cons, List.map_nil, List.length_cons, List.length_nil, Nat.reduceAdd, Nat.reduceSub, Nat.zero_add, List.replicate_succ, List.replicate_zero, List.cons_append, List.nil_append, List.append_nil, List.getElem?_cons_zero, List.getElem?_cons_succ, List.set_cons_zero, List.set_cons_succ, Option.some.injEq, V.int.injEq, V.bl.injEq, V.ref.injEq, V.str.injEq, V.ty.injEq, List.cons.injEq, exists_eq_left', exists_eq_left, exists_eq_right, exists_and_left, exists_and_right, and_true, true_and, and_assoc, exists_const, decide_eq_true_eq, Bool.not_eq_true', Bool.not_true, Bool.not_false, Bool.not_not, decide_eq_false_iff_not, ite_not, Bool.false_eq_true, if_true, if_false, reduceCtorEq, and_false, false_and, exists_false, or_false, false_or, ↓reduceIte, eq_self, reduceIte]
    refine ⟨by decide, by decide, fun D hD => ?_⟩
    obtain ⟨Pc, hC⟩ : ∃ Pc : Nat → St → Hp → Prop, Pc = fun j τ H' => ∃ (ks : List Int) (z : Option V), H' D = some (.lst (ks.map V.int)) ∧ ks.length = j ∧ Same H3 H' ∧ τ = [some (.ref a), some (.int (0 + (i : Int))), z] := ⟨_, rfl⟩
    refine compS_range Pc ?_ ?_ ?_
    · rw [hC]
      exact ⟨[], _, upd_same, rfl, same_new hD _, rfl⟩
    · intro j τ H' R hj g next
      rw [hC] at g
      obtain ⟨ks, z, d1, kl, e, rfl⟩ := g
      have hj3 : j < 3 := hj
      simp only [tTurn, rTurnT, tTryS, rCountT, rPop, rRep, tCont, iZipT, tChain3, tFld, sFld, tMake, tMake0, tMethD, tBM0, rUpper, tDict1T, tTryN, rSlS, rMulS, rCatS, iZipL, rInsert, rReverse, tDNewX, tTry, tRaise, iEnumL, iEnumT, iZip, iSeq, iOr, rIx, iStr, rLeS, rJoin, rSlTA, tComp_eq, tComp1, slots, Option.getD_some, Option.getD_none, tYes, tSeq, tAsg, gName, tOp, tUn, tC, tVar, tCB, tCons, tNil, tCall, rI, rI0, rU, tRet, tRetN, tIfS, tTest, tB, tAnd, tOr, tNot, tAndV, tOrV, tNotV, tIf, tChain, tMenu, tPar, tDrop, tTup, tLst, tNext, tSl, tPart, tNoPart, tNever, gTup, gCons, gNil, gSub, rSetL, tBM, rAppend, rEq, rNe, rIsi, rIxL, rIxT, rIxS, rSlL, isi_non_bl, isi_non_int, isi_non_str, isi_non_lst, isi_non_tup, isi_bl_bl, isi_bl_int, isi_bl_str, isi_bl_lst, isi_bl_tup, isi_int_bl, isi_int_int, isi_int_str, isi_int_lst, isi_int_tup, isi_str_bl, isi_str_int, isi_str_str, isi_str_lst, isi_str_tup, isi_lst_bl, isi_lst_int, isi_lst_str, isi_lst_lst, isi_lst_tup, isi_tup_bl, isi_tup_int, isi_tup_str, isi_tup_lst, isi_tup_tup, isi_dct_bl, isi_dct_int, isi_dct_str, isi_dct_lst, isi_dct_tup, Kd_non, Kd_bl, Kd_int, Kd_str, sc_non_non, sc_non_int, sc_int_non, sc_non_bl, sc_bl_non, sc_non_str, sc_str_non, sc_int_int, sc_bl_bl, sc_str_str, sc_int_str, sc_str_int, sc_bl_str, sc_str_bl, decide_true, decide_false, tFor_eq, iList, iTup, iRng1, iRng2, iRng3, rIndexT, tBM0, tBMT, tyK_int, tyK_bool, tyK_str, tyK_list, tyK_tuple, L2.start, cxK, Int.reduceToNat, List.map_cons, List.map_nil, List.length_cons, List.length_nil, Nat.reduceAdd, Nat.reduceSub, Nat.zero_add, List.replicate_succ, List.replicate_zero, List.cons_append, List.nil_append, List.append_nil, List.getElem?_cons_zero, List.getElem?_cons_succ, List.set_cons_zero, List.set_cons_succ, Option.some.injEq, V.int.injEq, V.bl.injEq, V.ref.injEq, V.str.injEq, V.ty.injEq, List.cons.injEq, exists_eq_left', exists_eq_left, exists_eq_right, exists_and_left, exists_and_right, and_true, true_and, and_assoc, exists_const, decide_eq_true_eq, Bool.not_eq_true', Bool.not_true, Bool.not_false, Bool.not_not, decide_eq_false_iff_not, ite_not, Bool.false_eq_true, if_true, if_false, reduceCtorEq, and_false, false_and, exists_false, or_false, false_or, ↓reduceIte, eq_self, reduceIte]
      refine ⟨cmul (by decide) (by decide) (by omega) (by omega), spCellX_of ((e1.trans (e3.trans e)).seq hS) (by omega) fun v => ⟨_, d1, by rw [List.length_map]; exact Nat.lt_of_lt_of_le (m := 64) (by omega) (by decide), next _ _ ?_⟩⟩
      rw [hC]
      exact ⟨ks ++ [v], _, by rw [upd_same, List.map_append]; rfl, by rw [List.length_append, kl]; rfl, same_upd e hD _, rfl⟩
    · intro τ H4 g
      rw [hC] at g
      obtain ⟨ks, z, d1, kl, e4, rfl⟩ := g
      obtain ⟨x0, x1, x2, hk⟩ : ∃ x0 x1 x2, ks = [x0, x1, x2] := by
        match ks, kl with
        | [x0, x1, x2], _ => exact ⟨x0, x1, x2, rfl⟩
      rw [hk] at d1
      have dr4 := e4 _ _ dr
      refine ⟨.inl ⟨rfl, _, SqL.of dr4⟩, ?_⟩
      refine ⟨_, _, _, gs, css, x0, x1, x2, rfl, SqL.of dr4, fun g hg => (ga g hg).same e4, lo, by omega, SqL.of ((e3.trans e4) _ _ dl), l1, cn, SqL.of d1, fun g H5 e5 gg good => ?_⟩
      have dr5 := e5 _ _ dr4
      refine ⟨_, dr5, by rw [refs_len]; exact Nat.lt_of_lt_of_le (m := 64) (by omega) (by decide), ?_⟩
      rw [hP]
      refine ⟨gs ++ [g], _, _, by rw [upd_same, refs_snoc], by rw [List.length_append, gl]; rfl, fun g' hg => ?_, Lots.snoc lo good, same_upd (e3.trans (e4.trans e5)) hr0 _, rfl⟩
      rcases List.mem_append.mp hg with hg | hg
      · exact ((ga g' hg).same (e4.trans e5)).upd dr5
      · rw [List.mem_singleton.mp hg]
        exact gg.upd dr5
  · intro σ H3 g
    rw [hP] at g
    obtain ⟨gs, y, z, dr, gl, ga, lo, e3, rfl⟩ := g
    simp only [tTurn, rTurnT, tTryS, rCountT, rPop, rRep, tCont, iZipT, tChain3, tFld, sFld, tMake, tMake0, tMethD, tBM0, rUpper, tDict1T, tTryN, rSlS, rMulS, rCatS, iZipL, rInsert, rReverse, tDNewX, tTry, tRaise, iEnumL, iEnumT, iZip, iSeq, iOr, rIx, iStr, rLeS, rJoin, rSlTA, tComp_eq, tComp1, slots, Option.getD_some, Option.getD_none, tYes, tSeq, tAsg, gName, tOp, tUn, tC, tVar, tCB, tCons, tNil, tCall, rI, rI0, rU, tRet, tRetN, tIfS, tTest, tB, tAnd, tOr, tNot, tAndV, tOrV, tNotV, tIf, tChain, tMenu, tPar, tDrop, tTup, tLst, tNext, tSl, tPart, tNoPart, tNever, gTup, gCons, gNil, gSub, rSetL, tBM, rAppend, rEq, rNe, rIsi, rIxL, rIxT, rIxS, rSlL, isi_non_bl, isi_non_int, isi_non_str, isi_non_lst, isi_non_tup, isi_bl_bl, isi_bl_int, isi_bl_str, isi_bl_lst, isi_bl_tup, isi_int_bl, isi_int_int, isi_int_str, isi_int_lst, isi_int_tup, isi_str_bl, isi_str_int, isi_str_str, isi_str_lst, isi_str_tup, isi_lst_bl, isi_lst_int, isi_lst_str, isi_lst_lst, isi_lst_tup, isi_tup_bl, isi_tup_int, isi_tup_str, isi_tup_lst, isi_tup_tup, isi_dct_bl, isi_dct_int, isi_dct_str, isi_dct_lst, isi_dct_tup, Kd_non, Kd_bl, Kd_int, Kd_str, sc_non_non, sc_non_int, sc_int_non, sc_non_bl, sc_bl_non, sc_non_str, sc_str_non, sc_int_int, sc_bl_bl, sc_str_str, sc_int_str, sc_str_int, sc_bl_str, sc_str_bl, decide_true, decide_false, tFor_eq, iList, iTup, iRng1, iRng2, iRng3, rIndexT, tBM0, tBMT, tyK_int, tyK_bool, tyK_str, tyK_list, tyK_tuple, L2.start, cxK, Int.reduceToNat, List.map_cons, List.map_nil, List.length_cons, List.length_nil, Nat.reduceAdd, Nat.reduceSub, Nat.zero_add, List.replicate_succ, List.replicate_zero, List.cons_append, List.nil_append, List.append_nil, List.getElem?_cons_zero, List.getElem?_cons_succ, List.set_cons_zero, List.set_cons_succ, Option.some.injEq, V.int.injEq, V.bl.injEq, V.ref.injEq, V.str.injEq, V.ty.injEq, List.cons.injEq, exists_eq_left', exists_eq_left, exists_eq_right, exists_and_left, exists_and_right, and_true, true_and, and_assoc, exists_const, decide_eq_true_eq, Bool.not_eq_true', Bool.not_true, Bool.not_false, Bool.not_not, decide_eq_false_iff_not, ite_not, Bool.false_eq_true, if_true, if_false, reduceCtorEq, and_false, false_and, exists_false, or_false, false_or, ↓reduceIte, eq_self, reduceIte]
    exact q _ gs _ (e1.trans e3) (e1.free hr0) dr ga lo (by omega) (by omega)
end


def BadL (K : PySem.W.Frag) (H : Hp) (v : V) : Prop := ∀ gs, LotV K H gs v false
def spBadW (K : PySem.W.Frag) : Sp := fun vs H Q _ => ∃ (g : Lt) (c : Int) (gs : List Lt), vs = [.ref g.q, .int c] ∧ LtAt K H g ∧ GoodL gs g ∧ ∀ v H', Same H H' → BadL K H' v → Q v H'
theorem priceV_of {K : PySem.W.Frag} {H : Hp} {v : V} {b c : Bool} (h : PriceV K H v b) (e : b = c) : PriceV K H v c := e ▸ h
theorem price_good {K : PySem.W.Frag} {H : Hp} {i : Int} (h1 : 1 ≤ i) (h2 : i ≤ 10 ^ 12) : PriceV K H (.int i) true := priceV_of .int (decide_eq_true ⟨h1, h2⟩)
theorem price_bad {K : PySem.W.Frag} {H : Hp} {i : Int} (h : ¬ (1 ≤ i ∧ i ≤ 10 ^ 12)) : PriceV K H (.int i) false := priceV_of .int (decide_eq_false h)
theorem name_bad {K : PySem.W.Frag} {H : Hp} (cs : List Nat) (a : asc cs := by decide) (l : cs.length ≤ 1000 := by decide) (n : nameB cs = false := by decide) : NameV K H (.str (txt cs)) false := nameV_of (.txt a l) n
theorem num_bad {K : PySem.W.Frag} {H : Hp} {p : Addr} {xs : List V} (T : SqT K H p xs) (k : ∀ x ∈ xs, Knd K H x) (n : (prefB xs && decide (1 ≤ xs.length)) = false) : NumV K H (.ref p) false := numV_of (.tup T k) n
theorem lt_num {K : PySem.W.Frag} {H : Hp} {gs : List Lt} {g : Lt} (h : LtAt K H g) (G : GoodL gs g) : NumV K H (.ref g.np) true := num_good h.tn G.nl1 G.nl4 G.nin
section
variable {P : Program} {w : World} {K : PySem.W.Frag} {mg : Str → Option Value} {base : Heap} {f : Addr} {fd : FuncData}
theorem ok_law_bad_word (F : Fun K "_law_bad_word" "_law_bad_word" s_law_bad_word f fd) (M : Mg mg) : FnOk P w K mg base CX0 1 f fd ["_law_lot_here", "_law_cell"] (spBadW K) := by
  refine F.ok sc_law_bad_word (fun vs H Q E h => ?_) (fun cdv A outer s H vs Q E hr h => ?_)
  · obtain ⟨g, c, gs, rfl, _⟩ := h
    rfl
  obtain ⟨g, c, gs, rfl, ga, G, q⟩ := h
  have T := ga.tq
  have hN : ∀ {H' : Hp}, NameV K H' (.str (txt g.cs)) true := name_good G.name
  have hU := lt_num ga G
  have hR : ∀ {H' : Hp}, PriceV K H' (.int g.pr) true := price_good G.p1 G.p2
  have c0 := Int.emod_nonneg c (show (6 : Int) ≠ 0 by decide)
  have c1 := Int.emod_lt_of_pos c (show (0 : Int) < 6 by decide)
  refine ⟨_, (@pss_cons _ _ _ _ _ (@ps_asg _ _ _ _ _ _ (@pe_var _ 0 _ _ rfl v_law_bad_word_0 dn__law_lot_here dc__law_lot_here) (@pg_tup _ _ _ _ _ _ rfl (@pgs_cons _ _ _ _ _ (@pg_name _ _ 2 _ sc_law_bad_word.nd rfl l_law_bad_word_2 (.inl rfl)) (@pgs_cons _ _ _ _ _ (@pg_name _ _ 3 _ sc_law_bad_word.nd rfl l_law_bad_word_3 (.inl rfl)) (@pgs_cons _ _ _ _ _ (@pg_name _ _ 4 _ sc_law_bad_word.nd rfl l_law_bad_word_4 (.inl rfl)) (@pgs_cons _ _ _ _ _ (@pg_name _ _ 5 _ sc_law_bad_word.nd rfl l_law_bad_word_5 (.inl rfl)) (@pgs_nil _) (by rfl)) (by rfl)) (by rfl)) (by rfl)) (by rfl) (by rfl)) (by rfl) (by rfl) (by rfl)) (@pss_cons _ _ _ _ _ (@ps_set _ _ 6 _ _ _ _ sc_law_bad_word.nd rfl l_law_bad_word_6 (@pe_op _ _ _ _ _ _ _ _ (@op_mod _) (@pe_var _ 1 _ _ rfl v_law_bad_word_1 dn__law_cell dc__law_cell) (@pe_int _ _ _ _)) (swap1 rfl) (.inl rfl)) (@pss_cons _ _ _ _ _ (@ps_set _ _ 7 _ _ _ _ sc_law_bad_word.nd rfl l_law_bad_word_7 (@pe_op _ _ _ _ _ _ _ _ (@op_fdivB _) (@pe_var _ 1 _ _ rfl v_law_bad_word_1 dn__law_cell dc__law_cell) (@pe_int _ _ _ _)) (swap1 rfl) (.inl rfl)) (@pss_cons _ _ _ _ _ (@ps_if _ _ _ _ _ _ _ _ (@pt_cmpR _ _ _ _ _ _ _ _ (@op_eq _) (@pe_var _ 6 _ _ rfl v_law_bad_word_6 dn__law_way dc__law_way) (@pe_int _ _ _ _) (nomark _)) (@pss_one _ _ _ (@ps_ret _ _ _ _ (@pe_callTy _ _ _ _ _ _ _ _ _ call_list_of g_law_bad_word_list M.m_list b_list (@pa_cons _ _ _ _ _ (@pe_var _ 0 _ _ rfl v_law_bad_word_0 dn__law_lot_here dc__law_lot_here) (@pa_nil _) (star1 rfl)) nn_list dn_list (star1 rfl) nost0))) (@pss_nil _)) (@pss_cons _ _ _ _ _ (@ps_if _ _ _ _ _ _ _ _ (@pt_cmpR _ _ _ _ _ _ _ _ (@op_eq _) (@pe_var _ 6 _ _ rfl v_law_bad_word_6 dn__law_way dc__law_way) (@pe_int _ _ _ _) (nomark _)) (@pss_one _ _ _ (@ps_ret _ _ _ _ (@pe_slice _ _ _ _ _ _ _ _ _ _ (sl_tupQK (K := K) rfl) (@pe_var _ 0 _ _ rfl v_law_bad_word_0 dn__law_lot_here dc__law_lot_here) (@po_none _) (@po_some _ _ _ (@pe_int _ _ _ _))))) (@pss_nil _)) (@pss_cons _ _ _ _ _ (@ps_if _ _ _ _ _ _ _ _ (@pt_cmpR _ _ _ _ _ _ _ _ (@op_eq _) (@pe_var _ 6 _ _ rfl v_law_bad_word_6 dn__law_way dc__law_way) (@pe_int _ _ _ _) (nomark _)) (@pss_one _ _ _ (@ps_ret _ _ _ _ (@pe_op _ _ _ _ _ _ _ _ op_catTQ (@pe_var _ 0 _ _ rfl v_law_bad_word_0 dn__law_lot_here dc__law_lot_here) (@pe_tup _ _ _ _ _ (@pa_cons _ _ _ _ _ (@pe_tup _ _ _ _ _ (@pa_nil _)) (@pa_nil _) (star1 rfl)))))) (@pss_nil _)) (@pss_cons _ _ _ _ _ (@ps_if _ _ _ _ _ _ _ _ (@pt_cmpR _ _ _ _ _ _ _ _ (@op_eq _) (@pe_var _ 6 _ _ rfl v_law_bad_word_6 dn__law_way dc__law_way) (@pe_int _ _ _ _) (nomark _)) (@pss_one _ _ _ (@ps_ret _ _ _ _ (@pe_tup _ _ _ _ _ (@pa_cons _ _ _ _ _ (@pe_menu _ _ _ _ _ _ _ (@pa_cons _ _ _ _ _ (@pe_str _ _ _ _) (@pa_cons _ _ _ _ _ (@pe_str _ _ _ _) (@pa_cons _ _ _ _ _ (@pe_str _ _ _ _) (@pa_cons _ _ _ _ _ (@pe_str _ _ _ _) (@pa_cons _ _ _ _ _ (@pe_str _ _ _ _) (@pa_cons _ _ _ _ _ (@pe_int _ _ _ _) (@pa_cons _ _ _ _ _ (@pe_non _ _ _) (@pa_nil _) (star1 rfl)) (star1 rfl)) (star1 rfl)) (star1 rfl)) (star1 rfl)) (star1 rfl)) (star1 rfl)) (@pe_op _ _ _ _ _ _ _ _ (@op_mod _) (@pe_var _ 7 _ _ rfl v_law_bad_word_7 dn__law_pick dc__law_pick) (@pe_int _ _ _ _)) (fun _ _ => rfl)) (@pa_cons _ _ _ _ _ (@pe_var _ 3 _ _ rfl v_law_bad_word_3 dn__law_number_here dc__law_number_here) (@pa_cons _ _ _ _ _ (@pe_var _ 4 _ _ rfl v_law_bad_word_4 dn__law_price dc__law_price) (@pa_cons _ _ _ _ _ (@pe_var _ 5 _ _ rfl v_law_bad_word_5 dn__law_inputs_here dc__law_inputs_here) (@pa_nil _) (star1 rfl)) (star1 rfl)) (star1 rfl)) (star1 rfl))))) (@pss_nil _)) (@pss_cons _ _ _ _ _ (@ps_if _ _ _ _ _ _ _ _ (@pt_cmpR _ _ _ _ _ _ _ _ (@op_eq _) (@pe_var _ 6 _ _ rfl v_law_bad_word_6 dn__law_way dc__law_way) (@pe_int _ _ _ _) (nomark _)) (@pss_cons _ _ _ _ _ (@ps_set _ _ 8 _ _ _ _ sc_law_bad_word.nd rfl l_law_bad_word_8 (@pe_lst _ _ _ _ (@pa_cons _ _ _ _ _ (@pe_tup _ _ _ _ _ (@pa_nil _)) (@pa_cons _ _ _ _ _ (@pe_tup _ _ _ _ _ (@pa_cons _ _ _ _ _ (@pe_int _ _ _ _) (@pa_nil _) (star1 rfl))) (@pa_cons _ _ _ _ _ (@pe_tup _ _ _ _ _ (@pa_cons _ _ _ _ _ (@pe_int _ _ _ _) (@pa_nil _) (star1 rfl))) (@pa_cons _ _ _ _ _ (@pe_tup _ _ _ _ _ (@pa_cons _ _ _ _ _ (@pe_int _ _ _ _) (@pa_cons _ _ _ _ _ (@pe_int _ _ _ _) (@pa_cons _ _ _ _ _ (@pe_int _ _ _ _) (@pa_cons _ _ _ _ _ (@pe_int _ _ _ _) (@pa_cons _ _ _ _ _ (@pe_int _ _ _ _) (@pa_nil _) (star1 rfl)) (star1 rfl)) (star1 rfl)) (star1 rfl)) (star1 rfl))) (@pa_cons _ _ _ _ _ (@pe_lst _ _ _ _ (@pa_cons _ _ _ _ _ (@pe_int _ _ _ _) (@pa_nil _) (star1 rfl))) (@pa_cons _ _ _ _ _ (@pe_tup _ _ _ _ _ (@pa_cons _ _ _ _ _ (@pe_bl _ _ _ _) (@pa_nil _) (star1 rfl))) (@pa_cons _ _ _ _ _ (@pe_int _ _ _ _) (@pa_cons _ _ _ _ _ (@pe_non _ _ _) (@pa_cons _ _ _ _ _ (@pe_tup _ _ _ _ _ (@pa_cons _ _ _ _ _ (@pe_str _ _ _ _) (@pa_nil _) (star1 rfl))) (@pa_cons _ _ _ _ _ (@pe_tup _ _ _ _ _ (@pa_cons _ _ _ _ _ (@pe_int _ _ _ _) (@pa_cons _ _ _ _ _ (@pe_un _ _ _ _ _ _ (@un_neg _) (@pe_int _ _ _ _)) (@pa_nil _) (star1 rfl)) (star1 rfl))) (@pa_nil _) (star1 rfl)) (star1 rfl)) (star1 rfl)) (star1 rfl)) (star1 rfl)) (star1 rfl)) (star1 rfl)) (star1 rfl)) (star1 rfl)) (star1 rfl))) (swap1 rfl) (.inl rfl)) (@pss_one _ _ _ (@ps_ret _ _ _ _ (@pe_tup _ _ _ _ _ (@pa_cons _ _ _ _ _ (@pe_var _ 2 _ _ rfl v_law_bad_word_2 dn__law_land dc__law_land) (@pa_cons _ _ _ _ _ (@pe_ix _ _ _ _ _ _ _ (@ix_list _) (@pe_var _ 8 _ _ rfl v_law_bad_word_8 dn__law_some dc__law_some) (@pe_op _ _ _ _ _ _ _ _ (@op_mod _) (@pe_var _ 7 _ _ rfl v_law_bad_word_7 dn__law_pick dc__law_pick) (@pe_int _ _ _ _)) (fun _ _ => rfl)) (@pa_cons _ _ _ _ _ (@pe_var _ 4 _ _ rfl v_law_bad_word_4 dn__law_price dc__law_price) (@pa_cons _ _ _ _ _ (@pe_var _ 5 _ _ rfl v_law_bad_word_5 dn__law_inputs_here dc__law_inputs_here) (@pa_nil _) (star1 rfl)) (star1 rfl)) (star1 rfl)) (star1 rfl)))))) (@pss_nil _)) (@pss_cons _ _ _ _ _ (@ps_set _ _ 8 _ _ _ _ sc_law_bad_word.nd rfl l_law_bad_word_8 (@pe_lst _ _ _ _ (@pa_cons _ _ _ _ _ (@pe_int _ _ _ _) (@pa_cons _ _ _ _ _ (@pe_op _ _ _ _ _ _ _ _ (@op_sub _) (@pe_un _ _ _ _ _ _ (@un_neg _) (@pe_int _ _ _ _)) (@pe_op _ _ _ _ _ _ _ _ (@op_mod _) (@pe_op _ _ _ _ _ _ _ _ (@op_fdivB _) (@pe_var _ 7 _ _ rfl v_law_bad_word_7 dn__law_pick dc__law_pick) (@pe_int _ _ _ _)) (@pe_int _ _ _ _))) (@pa_cons _ _ _ _ _ (@pe_op _ _ _ _ _ _ _ _ (@op_add _) (@pe_op _ _ _ _ _ _ _ _ (@op_pow _) (@pe_int _ _ _ _) (@pe_int _ _ _ _)) (@pe_int _ _ _ _)) (@pa_cons _ _ _ _ _ (@pe_bl _ _ _ _) (@pa_cons _ _ _ _ _ (@pe_non _ _ _) (@pa_cons _ _ _ _ _ (@pe_str _ _ _ _) (@pa_nil _) (star1 rfl)) (star1 rfl)) (star1 rfl)) (star1 rfl)) (star1 rfl)) (star1 rfl))) (swap1 rfl) (.inl rfl)) (@pss_one _ _ _ (@ps_ret _ _ _ _ (@pe_tup _ _ _ _ _ (@pa_cons _ _ _ _ _ (@pe_var _ 2 _ _ rfl v_law_bad_word_2 dn__law_land dc__law_land) (@pa_cons _ _ _ _ _ (@pe_var _ 3 _ _ rfl v_law_bad_word_3 dn__law_number_here dc__law_number_here) (@pa_cons _ _ _ _ _ (@pe_ix _ _ _ _ _ _ _ (@ix_list _) (@pe_var _ 8 _ _ rfl v_law_bad_word_8 dn__law_some dc__law_some) (@pe_op _ _ _ _ _ _ _ _ (@op_mod _) (@pe_var _ 7 _ _ rfl v_law_bad_word_7 dn__law_pick dc__law_pick) (@pe_int _ _ _ _)) (fun _ _ => rfl)) (@pa_cons _ _ _ _ _ (@pe_var _ 5 _ _ rfl v_law_bad_word_5 dn__law_inputs_here dc__law_inputs_here) (@pa_nil _) (star1 rfl)) (star1 rfl)) (star1 rfl)) (star1 rfl)))))))))))))), ?_⟩
  simp only [tTurn, rTurnT, tTryS, rCountT, rPop, rRep, tCont, iZipT, tChain3, tFld, sFld, tMake, tMake0, tMethD, tBM0, rUpper, tDict1T, tTryN, rSlS, rMulS, rCatS, iZipL, rInsert, rReverse, tDNewX, tTry, tRaise, iEnumL, iEnumT, iZip, iSeq, iOr, rIx, iStr, rLeS, rJoin, rSlTA, tComp_eq, tComp1, slots, Option.getD_some, Option.getD_none, tYes, tSeq, tAsg, gName, tOp, tUn, tC, tVar, tCB, tCons, tNil, tCall, rI, rI0, rU, tRet, tRetN, tIfS, tTest, tB, tAnd, tOr, tNot, tAndV, tOrV, tNotV, tIf, tChain, tMenu, tPar, tDrop, tTup, tLst, tNext, tSl, tPart, tNoPart, tNever, gTup, gCons, gNil, gSub, rSetL, tBM, rAppend, rEq, rNe, rIsi, rIxL, rIxT, rIxS, rSlL, isi_non_bl, isi_non_int, isi_non_str, isi_non_lst, isi_non_tup, isi_bl_bl, isi_bl_int, isi_bl_str, isi_bl_lst, isi_bl_tup, isi_int_bl, isi_int_int, isi_int_str, isi_int_lst, isi_int_tup, isi_str_bl, isi_str_int, isi_str_str, isi_str_lst, isi_str_tup, isi_lst_bl, isi_lst_int, isi_lst_str, isi_lst_lst, isi_lst_tup, isi_tup_bl, isi_tup_int, isi_tup_str, isi_tup_lst, isi_tup_tup, isi_dct_bl, isi_dct_int, isi_dct_str, isi_dct_lst, isi_dct_tup, Kd_non, Kd_bl, Kd_int, Kd_str, sc_non_non, sc_non_int, sc_int_non, sc_non_bl, sc_bl_non, sc_non_str, sc_str_non, sc_int_int, sc_bl_bl, sc_str_str, sc_int_str, sc_str_int, sc_bl_str, sc_str_bl, decide_true, decide_false, tFor_eq, iList, iTup, iRng1, iRng2, iRng3, rIndexT, tBM0, tBMT, tyK_int, tyK_bool, tyK_str, tyK_list, tyK_tuple, L2.start, cxK, Int.reduceToNat, List.map_cons, List.map_nil, List.length_cons, List.length_nil, Nat.reduceAdd, Nat.reduceSub, Nat.zero_add, List.replicate_succ, List.replicate_zero, List.cons_append, List.nil_append, List.append_nil, List.getElem?_cons_zero, List.getElem?_cons_succ, List.set_cons_zero, List.set_cons_succ, Option.some.injEq, V.int.injEq, V.bl.injEq, V.ref.injEq, V.str.injEq, V.ty.injEq, List.cons.injEq, exists_eq_left', exists_eq_left, exists_eq_right, exists_and_left, exists_and_right, and_true, true_and, and_assoc, exists_const, decide_eq_true_eq, Bool.not_eq_true', Bool.not_true, Bool.not_false, Bool.not_not, decide_eq_false_iff_not, ite_not, Bool.false_eq_true, if_true, if_false, reduceCtorEq, and_false, false_and, exists_false, or_false, false_or, ↓reduceIte, eq_self, reduceIte]
  refine ⟨_, T, rfl, ?_⟩
  simp only [tTurn, rTurnT, tTryS, rCountT, rPop, rRep, tCont, iZipT, tChain3, tFld, sFld, tMake, tMake0, tMethD, tBM0, rUpper, tDict1T, tTryN, rSlS, rMulS, rCatS, iZipL, rInsert, rReverse, tDNewX, tTry, tRaise, iEnumL, iEnumT, iZip, iSeq, iOr, rIx, iStr, rLeS, rJoin, rSlTA, tComp_eq, tComp1, slots, Option.getD_some, Option.getD_none, tYes, tSeq, tAsg, gName, tOp, tUn, tC, tVar, tCB, tCons, tNil, tCall, rI, rI0, rU, tRet, tRetN, tIfS, tTest, tB, tAnd, tOr, tNot, tAndV, tOrV, tNotV, tIf, tChain, tMenu, tPar, tDrop, tTup, tLst, tNext, tSl, tPart, tNoPart, tNever, gTup, gCons, gNil, gSub, rSetL, tBM, rAppend, rEq, rNe, rIsi, rIxL, rIxT, rIxS, rSlL, isi_non_bl, isi_non_int, isi_non_str, isi_non_lst, isi_non_tup, isi_bl_bl, isi_bl_int, isi_bl_str, isi_bl_lst, isi_bl_tup, isi_int_bl, isi_int_int, isi_int_str, isi_int_lst, isi_int_tup, isi_str_bl, isi_str_int, isi_str_str, isi_str_lst, isi_str_tup, isi_lst_bl, isi_lst_int, isi_lst_str, isi_lst_lst, isi_lst_tup, isi_tup_bl, isi_tup_int, isi_tup_str, isi_tup_lst, isi_tup_tup, isi_dct_bl, isi_dct_int, isi_dct_str, isi_dct_lst, isi_dct_tup, Kd_non, Kd_bl, Kd_int, Kd_str, sc_non_non, sc_non_int, sc_int_non, sc_non_bl, sc_bl_non, sc_non_str, sc_str_non, sc_int_int, sc_bl_bl, sc_str_str, sc_int_str, sc_str_int, sc_bl_str, sc_str_bl, decide_true, decide_false, tFor_eq, iList, iTup, iRng1, iRng2, iRng3, rIndexT, tBM0, tBMT, tyK_int, tyK_bool, tyK_str, tyK_list, tyK_tuple, L2.start, cxK, Int.reduceToNat, List.map_cons, List.map_nil, List.length_cons, List.length_nil, Nat.reduceAdd, Nat.reduceSub, Nat.zero_add, List.replicate_succ, List.replicate_zero, List.cons_append, List.nil_append, List.append_nil, List.getElem?_cons_zero, List.getElem?_cons_succ, List.set_cons_zero, List.set_cons_succ, Option.some.injEq, V.int.injEq, V.bl.injEq, V.ref.injEq, V.str.injEq, V.ty.injEq, List.cons.injEq, exists_eq_left', exists_eq_left, exists_eq_right, exists_and_left, exists_and_right, and_true, true_and, and_assoc, exists_const, decide_eq_true_eq, Bool.not_eq_true', Bool.not_true, Bool.not_false, Bool.not_not, decide_eq_false_iff_not, ite_not, Bool.false_eq_true, if_true, if_false, reduceCtorEq, and_false, false_and, exists_false, or_false, false_or, ↓reduceIte, eq_self, reduceIte]
  refine ⟨by decide, cdiv (by decide) (by decide), ?_⟩
  obtain ⟨pk, hpk⟩ : ∃ pk : Int, c / 6 = pk := ⟨_, rfl⟩
  rw [hpk]
  by_cases w0 : c % 6 = 0
  · rw [if_pos w0]
    refine ⟨_, .inr T, fun l hl => q _ _ (same_new hl _) fun _ => .no (Kd.lst (SqL.of upd_same)) (by decide)⟩
  rw [if_neg w0]
  by_cases w1 : c % 6 = 1
  · rw [if_pos w1]
    refine ⟨_, _, rfl, T, fun p H1 S1 T1 => q _ _ S1 fun _ => .len T1 (show (3 : Nat) ≠ 4 by decide)⟩
  rw [if_neg w1]
  by_cases w2 : c % 6 = 2
  · rw [if_pos w2]
    refine ⟨by decide, fun p1 h1 => ⟨by decide, fun p2 h2 => ?_⟩⟩
    have S2 := (same_new h1 (.tup [])).trans (same_new h2 (.tup [.ref p1]))
    refine ⟨_, _, _, _, rfl, rfl, Same.tup S2 T, SqT.of upd_same, Nat.le_trans (show (5 : Nat) ≤ 64 by decide) (by decide), fun p3 H3 S3 T3 => q _ _ (S2.trans S3) fun _ => .len T3 (by simp)⟩
  rw [if_neg w2]
  by_cases w3 : c % 6 = 3
  · rw [if_pos w3]
    have i0 := Int.emod_nonneg pk (show (7 : Int) ≠ 0 by decide)
    have i1 := Int.emod_lt_of_pos pk (show (0 : Int) < 7 by decide)
    obtain ⟨v, hv⟩ : ∃ v, ([.str "", .str "Nor", .str "ninelettr", .str "a b", .str "a1", .int 5, .non] : List V)[(pk % 7).toNat]? = some v := ⟨_, List.getElem?_eq_getElem (by show (pk % 7).toNat < 7; omega)⟩
    have all : ∀ v ∈ ([.str "", .str "Nor", .str "ninelettr", .str "a b", .str "a1", .int 5, .non] : List V), ∀ H' : Hp, NameV K H' v false := by
      simp only [List.forall_mem_cons]
      exact ⟨fun _ => name_bad [], fun _ => name_bad [78, 111, 114], fun _ => name_bad [110, 105, 110, 101, 108, 101, 116, 116, 114], fun _ => name_bad [97, 32, 98], fun _ => name_bad [97, 49], fun _ => .no (show Kd K _ (.int 5) .int from rfl) (by decide), fun _ => .no (show Kd K _ .non .non from rfl) (by decide), fun _ h => by cases h⟩
    refine ⟨by decide, by decide, by omega, v, hv, by decide, fun t ht => q _ _ (same_new ht _) fun _ => .word (SqT.of upd_same) (all v (List.mem_of_getElem? hv) _) (hU.same (same_new ht _)) hR rfl⟩
  rw [if_neg w3]
  by_cases w4 : c % 6 = 4
  · rw [if_pos w4]
    refine ⟨by decide, fun p1 h1 => ?_⟩
    obtain ⟨G1, g1, S1, T1⟩ := fresh_tup (K := K) h1 []
    rw [← g1]
    clear g1
    refine ⟨by decide, fun p2 h2 => ?_⟩
    obtain ⟨G2, g2, S2, T2⟩ := fresh_tup (K := K) h2 [.int 0]
    rw [← g2]
    clear g2
    refine ⟨by decide, fun p3 h3 => ?_⟩
    obtain ⟨G3, g3, S3, T3⟩ := fresh_tup (K := K) h3 [.int 100]
    rw [← g3]
    clear g3
    refine ⟨by decide, fun p4 h4 => ?_⟩
    obtain ⟨G4, g4, S4, T4⟩ := fresh_tup (K := K) h4 [.int 1, .int 2, .int 3, .int 4, .int 5]
    rw [← g4]
    clear g4
    refine ⟨by decide, fun p5 h5 => ?_⟩
    obtain ⟨G5, g5, S5, T5⟩ := fresh_lst (K := K) h5 [.int 1]
    rw [← g5]
    clear g5
    refine ⟨by decide, fun p6 h6 => ?_⟩
    obtain ⟨G6, g6, S6, T6⟩ := fresh_tup (K := K) h6 [.bl true]
    rw [← g6]
    clear g6
    refine ⟨by decide, fun p7 h7 => ?_⟩
    obtain ⟨G7, g7, S7, T7⟩ := fresh_tup (K := K) h7 [.str "a"]
    rw [← g7]
    clear g7
    refine ⟨by decide, fun p8 h8 => ?_⟩
    obtain ⟨G8, g8, S8, T8⟩ := fresh_tup (K := K) h8 [.int 1, .int (-1)]
    rw [← g8]
    clear g8
    refine ⟨by decide, fun p9 h9 => ?_⟩
    obtain ⟨G9, g9, S9, T9⟩ : ∃ G9, G9 = upd G8 p9 (.lst [.ref p1, .ref p2, .ref p3, .ref p4, .ref p5, .ref p6, .int 7, .non, .ref p7, .ref p8]) ∧ Same G8 G9 ∧ G9 p9 = some (.lst [.ref p1, .ref p2, .ref p3, .ref p4, .ref p5, .ref p6, .int 7, .non, .ref p7, .ref p8]) := ⟨_, rfl, same_new h9 _, upd_same⟩
    rw [← g9]
    clear g9
    have all : ∀ v ∈ ([.ref p1, .ref p2, .ref p3, .ref p4, .ref p5, .ref p6, .int 7, .non, .ref p7, .ref p8] : List V), NumV K G9 v false := by
      simp only [List.forall_mem_cons]
      exact ⟨num_bad (Same.tup (S2.trans (S3.trans (S4.trans (S5.trans (S6.trans (S7.trans (S8.trans (S9)))))))) T1) (fun x hx => by cases hx) rfl, num_bad (Same.tup (S3.trans (S4.trans (S5.trans (S6.trans (S7.trans (S8.trans (S9))))))) T2) (fun x hx => by simp only [List.mem_cons, List.not_mem_nil, or_false] at hx; rcases hx with rfl; all_goals exact ⟨_, rfl⟩) rfl, num_bad (Same.tup (S4.trans (S5.trans (S6.trans (S7.trans (S8.trans (S9)))))) T3) (fun x hx => by simp only [List.mem_cons, List.not_mem_nil, or_false] at hx; rcases hx with rfl; all_goals exact ⟨_, rfl⟩) rfl, num_bad (Same.tup (S5.trans (S6.trans (S7.trans (S8.trans (S9))))) T4) (fun x hx => by simp only [List.mem_cons, List.not_mem_nil, or_false] at hx; rcases hx with rfl | rfl | rfl | rfl | rfl; all_goals exact ⟨_, rfl⟩) rfl, .no (Kd.lst ((S6.trans (S7.trans (S8.trans (S9)))).seq T5)) (by decide), num_bad (Same.tup (S7.trans (S8.trans (S9))) T6) (fun x hx => by simp only [List.mem_cons, List.not_mem_nil, or_false] at hx; rcases hx with rfl; all_goals exact ⟨_, rfl⟩) rfl, .no (show Kd K _ (.int 7) .int from rfl) (by decide), .no (show Kd K _ .non .non from rfl) (by decide), num_bad (Same.tup (S8.trans (S9)) T7) (fun x hx => by simp only [List.mem_cons, List.not_mem_nil, or_false] at hx; rcases hx with rfl; all_goals exact ⟨_, rfl⟩) rfl, num_bad (Same.tup (S9) T8) (fun x hx => by simp only [List.mem_cons, List.not_mem_nil, or_false] at hx; rcases hx with rfl | rfl; all_goals exact ⟨_, rfl⟩) rfl, fun _ h => by cases h⟩
    have i0 := Int.emod_nonneg pk (show (10 : Int) ≠ 0 by decide)
    have i1 := Int.emod_lt_of_pos pk (show (0 : Int) < 10 by decide)
    obtain ⟨i, hi⟩ : ∃ i : Nat, pk % 10 = (i : Int) := ⟨(pk % 10).toNat, by omega⟩
    obtain ⟨v, hv⟩ : ∃ v, ([.ref p1, .ref p2, .ref p3, .ref p4, .ref p5, .ref p6, .int 7, .non, .ref p7, .ref p8] : List V)[i]? = some v := ⟨_, List.getElem?_eq_getElem (by show i < 10; omega)⟩
    exact ⟨by decide, _, SqL.of T9, v, (by rw [hi]; exact atI_nat hv), by decide, fun t ht => q _ _ ((S1.trans (S2.trans (S3.trans (S4.trans (S5.trans (S6.trans (S7.trans (S8.trans (S9))))))))).trans (same_new ht _)) fun _ => .word (SqT.of upd_same) hN ((all v (List.mem_of_getElem? hv)).same (same_new ht _)) hR rfl⟩
  rw [if_neg w4]
  have k0 := Int.emod_nonneg (pk / 6) (show (1000 : Int) ≠ 0 by decide)
  refine ⟨cdiv (by decide) (by decide), by decide, cpow, by decide, fun l hl => ?_⟩
  obtain ⟨nv, hnv, nv0⟩ : ∃ nv : Int, -1 - pk / 6 % 1000 = nv ∧ nv < 0 := ⟨_, rfl, by omega⟩
  rw [hnv]
  obtain ⟨H1, g1, S1, T1⟩ : ∃ H1, H1 = upd H l (.lst [.int 0, .int nv, .int (10 ^ 12 + 1), .bl true, .non, .str "7"]) ∧ Same H H1 ∧ H1 l = some (.lst [.int 0, .int nv, .int (10 ^ 12 + 1), .bl true, .non, .str "7"]) := ⟨_, rfl, same_new hl _, upd_same⟩
  rw [← g1]
  clear g1
  have all : ∀ v ∈ ([.int 0, .int nv, .int (10 ^ 12 + 1), .bl true, .non, .str "7"] : List V), ∀ H' : Hp, PriceV K H' v false := by
    simp only [List.forall_mem_cons]
    exact ⟨fun _ => price_bad (by decide), fun _ => price_bad (by omega), fun _ => price_bad (by decide), fun _ => .no (show Kd K _ (.bl true) .bl from rfl) (by decide), fun _ => .no (show Kd K _ .non .non from rfl) (by decide), fun _ => .no (show Kd K _ (.str "7") .str from rfl) (by decide), fun _ h => by cases h⟩
  have i0 := Int.emod_nonneg pk (show (6 : Int) ≠ 0 by decide)
  have i1 := Int.emod_lt_of_pos pk (show (0 : Int) < 6 by decide)
  obtain ⟨i, hi⟩ : ∃ i : Nat, pk % 6 = (i : Int) := ⟨(pk % 6).toNat, by omega⟩
  obtain ⟨v, hv⟩ : ∃ v, ([.int 0, .int nv, .int (10 ^ 12 + 1), .bl true, .non, .str "7"] : List V)[i]? = some v := ⟨_, List.getElem?_eq_getElem (by show i < 6; omega)⟩
  exact ⟨by decide, _, SqL.of T1, v, (by rw [hi]; exact atI_nat hv), by decide, fun t ht => q _ _ (S1.trans (same_new ht _)) fun _ => .word (SqT.of upd_same) hN (hU.same (S1.trans (same_new ht _))) (all v (List.mem_of_getElem? hv) _) rfl⟩
end

def spBadI (K : PySem.W.Frag) : Sp := fun vs H Q _ => ∃ (g : Lt) (c : Int) (gs : List Lt), vs = [.ref g.q, .int gs.length, .int (sumP gs g.is), .int c] ∧ LtAt K H g ∧ GoodL gs g ∧ gs.length ≤ 24 ∧ ∀ v H', Same H H' → LotV K H' gs v false → Q v H'
theorem inpV_of {K : PySem.W.Frag} {H : Hp} {m : Nat} {v : V} {b c : Bool} (h : InpV K H m v b) (e : b = c) : InpV K H m v c := e ▸ h
theorem inp_end {K : PySem.W.Frag} {H : Hp} {m : Nat} {p : Addr} {is : List Int} {x : V} (T : H p = some (.tup (is.map V.int ++ [x]))) (kx : Knd K H x) (no : inI m x = false) : InpV K H m (.ref p) false := by
  refine .odd (SqT.of T) (fun y hy => ?_) ?_
  · rcases List.mem_append.mp hy with hy | hy
    · exact knd_ints is y hy
    · rw [List.mem_singleton.mp hy]
      exact kx
  · rw [List.all_append, List.all_cons, no, Bool.false_and, Bool.and_false, Bool.and_false]
theorem inp_twice {K : PySem.W.Frag} {H : Hp} {m : Nat} {p : Addr} {is : List Int} {o : Int} (T : H p = some (.tup (is.map V.int ++ [.int o]))) (l : is.length ≤ 3) (iin : ∀ i ∈ is, 0 ≤ i ∧ i < (m : Int)) (ho : o ∈ is) : InpV K H m (.ref p) false := by
  have T' : H p = some (.tup ((is ++ [o]).map V.int)) := by rw [T, List.map_append]; rfl
  refine inpV_of (.nums T' (by rw [List.length_append]; show is.length + 1 ≤ 4; omega) fun i hi => ?_) ?_
  · rcases List.mem_append.mp hi with hi | hi
    · exact iin i hi
    · rw [List.mem_singleton.mp hi]
      exact iin o ho
  · rw [List.all_eq_false]
    refine ⟨o, List.mem_append_left _ ho, ?_⟩
    have c1 : 1 ≤ is.count o := List.count_pos_iff.mpr ho
    have c2 : (is ++ [o]).count o = is.count o + 1 := by rw [List.count_append]; simp
    rw [c2, decide_eq_false (by omega)]
    decide
section
variable {P : Program} {w : World} {K : PySem.W.Frag} {mg : Str → Option Value} {base : Heap} {f : Addr} {fd : FuncData}
theorem ok_law_bad_inputs (F : Fun K "_law_bad_inputs" "_law_bad_inputs" s_law_bad_inputs f fd) (M : Mg mg) : FnOk P w K mg base CX0 1 f fd ["_law_lot_here", "_law_at", "_law_total", "_law_cell"] (spBadI K) := by
  refine F.ok sc_law_bad_inputs (fun vs H Q E h => ?_) (fun cdv A outer s H vs Q E hr h => ?_)
  · obtain ⟨g, c, gs, rfl, _⟩ := h
    rfl
  obtain ⟨g, c, gs, rfl, ga, G, l24, q⟩ := h
  have T := ga.tq
  have ti := ga.ti
  have hN : ∀ {H' : Hp}, NameV K H' (.str (txt g.cs)) true := name_good G.name
  have hU := lt_num ga G
  have il := G.il
  have c0 := Int.emod_nonneg c (show (7 : Int) ≠ 0 by decide)
  have c1 := Int.emod_lt_of_pos c (show (0 : Int) < 7 by decide)
  have sz : ∀ n : Nat, n ≤ 64 → n ≤ sizeLine := fun n hn => Nat.le_trans hn (by decide)
  refine ⟨_, (@pss_cons _ _ _ _ _ (@ps_asg _ _ _ _ _ _ (@pe_var _ 0 _ _ rfl v_law_bad_inputs_0 dn__law_lot_here dc__law_lot_here) (@pg_tup _ _ _ _ _ _ rfl (@pgs_cons _ _ _ _ _ (@pg_name _ _ 4 _ sc_law_bad_inputs.nd rfl l_law_bad_inputs_4 (.inl rfl)) (@pgs_cons _ _ _ _ _ (@pg_name _ _ 5 _ sc_law_bad_inputs.nd rfl l_law_bad_inputs_5 (.inl rfl)) (@pgs_cons _ _ _ _ _ (@pg_name _ _ 6 _ sc_law_bad_inputs.nd rfl l_law_bad_inputs_6 (.inl rfl)) (@pgs_cons _ _ _ _ _ (@pg_name _ _ 7 _ sc_law_bad_inputs.nd rfl l_law_bad_inputs_7 (.inl rfl)) (@pgs_nil _) (by rfl)) (by rfl)) (by rfl)) (by rfl)) (by rfl) (by rfl)) (by rfl) (by rfl) (by rfl)) (@pss_cons _ _ _ _ _ (@ps_set _ _ 8 _ _ _ _ sc_law_bad_inputs.nd rfl l_law_bad_inputs_8 (@pe_op _ _ _ _ _ _ _ _ (@op_mod _) (@pe_var _ 3 _ _ rfl v_law_bad_inputs_3 dn__law_cell dc__law_cell) (@pe_int _ _ _ _)) (swap1 rfl) (.inl rfl)) (@pss_cons _ _ _ _ _ (@ps_set _ _ 9 _ _ _ _ sc_law_bad_inputs.nd rfl l_law_bad_inputs_9 (@pe_op _ _ _ _ _ _ _ _ (@op_fdivB _) (@pe_var _ 3 _ _ rfl v_law_bad_inputs_3 dn__law_cell dc__law_cell) (@pe_int _ _ _ _)) (swap1 rfl) (.inl rfl)) (@pss_cons _ _ _ _ _ (@ps_if _ _ _ _ _ _ _ _ (@pt_cmpR _ _ _ _ _ _ _ _ (@op_eq _) (@pe_var _ 8 _ _ rfl v_law_bad_inputs_8 dn__law_way dc__law_way) (@pe_int _ _ _ _) (nomark _)) (@pss_one _ _ _ (@ps_ret _ _ _ _ (@pe_tup _ _ _ _ _ (@pa_cons _ _ _ _ _ (@pe_var _ 4 _ _ rfl v_law_bad_inputs_4 dn__law_land dc__law_land) (@pa_cons _ _ _ _ _ (@pe_var _ 5 _ _ rfl v_law_bad_inputs_5 dn__law_number_here dc__law_number_here) (@pa_cons _ _ _ _ _ (@pe_var _ 6 _ _ rfl v_law_bad_inputs_6 dn__law_price dc__law_price) (@pa_cons _ _ _ _ _ (@pe_menu _ _ _ _ _ _ _ (@pa_cons _ _ _ _ _ (@pe_callTy _ _ _ _ _ _ _ _ _ call_list_of g_law_bad_inputs_list M.m_list b_list (@pa_cons _ _ _ _ _ (@pe_var _ 7 _ _ rfl v_law_bad_inputs_7 dn__law_inputs_here dc__law_inputs_here) (@pa_nil _) (star1 rfl)) nn_list dn_list (star1 rfl) nost0) (@pa_cons _ _ _ _ _ (@pe_non _ _ _) (@pa_cons _ _ _ _ _ (@pe_int _ _ _ _) (@pa_cons _ _ _ _ _ (@pe_str _ _ _ _) (@pa_nil _) (star1 rfl)) (star1 rfl)) (star1 rfl)) (star1 rfl)) (@pe_op _ _ _ _ _ _ _ _ (@op_mod _) (@pe_var _ 9 _ _ rfl v_law_bad_inputs_9 dn__law_pick dc__law_pick) (@pe_int _ _ _ _)) (fun _ _ => rfl)) (@pa_nil _) (star1 rfl)) (star1 rfl)) (star1 rfl)) (star1 rfl))))) (@pss_nil _)) (@pss_cons _ _ _ _ _ (@ps_if _ _ _ _ _ _ _ _ (@pt_cmpR _ _ _ _ _ _ _ _ (@op_eq _) (@pe_var _ 8 _ _ rfl v_law_bad_inputs_8 dn__law_way dc__law_way) (@pe_int _ _ _ _) (nomark _)) (@pss_one _ _ _ (@ps_ret _ _ _ _ (@pe_tup _ _ _ _ _ (@pa_cons _ _ _ _ _ (@pe_var _ 4 _ _ rfl v_law_bad_inputs_4 dn__law_land dc__law_land) (@pa_cons _ _ _ _ _ (@pe_var _ 5 _ _ rfl v_law_bad_inputs_5 dn__law_number_here dc__law_number_here) (@pa_cons _ _ _ _ _ (@pe_op _ _ _ _ _ _ _ _ (@op_sub _) (@pe_var _ 2 _ _ rfl v_law_bad_inputs_2 dn__law_total dc__law_total) (@pe_int _ _ _ _)) (@pa_cons _ _ _ _ _ (@pe_var _ 7 _ _ rfl v_law_bad_inputs_7 dn__law_inputs_here dc__law_inputs_here) (@pa_nil _) (star1 rfl)) (star1 rfl)) (star1 rfl)) (star1 rfl))))) (@pss_nil _)) (@pss_cons _ _ _ _ _ (@ps_set _ _ 10 _ _ _ _ sc_law_bad_inputs.nd rfl l_law_bad_inputs_10 (@pe_slice _ _ _ _ _ _ _ _ _ _ sl_tupH (@pe_var _ 7 _ _ rfl v_law_bad_inputs_7 dn__law_inputs_here dc__law_inputs_here) (@po_none _) (@po_some _ _ _ (@pe_int _ _ _ _))) (swap1 rfl) (.inl rfl)) (@pss_cons _ _ _ _ _ (@ps_if _ _ _ _ _ _ _ _ (@pt_cmpR _ _ _ _ _ _ _ _ (@op_eq _) (@pe_var _ 8 _ _ rfl v_law_bad_inputs_8 dn__law_way dc__law_way) (@pe_int _ _ _ _) (nomark _)) (@pss_one _ _ _ (@ps_set _ _ 10 _ _ _ _ sc_law_bad_inputs.nd rfl l_law_bad_inputs_10 (@pe_tup _ _ _ _ _ (@pa_cons _ _ _ _ _ (@pe_int _ _ _ _) (@pa_cons _ _ _ _ _ (@pe_int _ _ _ _) (@pa_cons _ _ _ _ _ (@pe_int _ _ _ _) (@pa_cons _ _ _ _ _ (@pe_int _ _ _ _) (@pa_cons _ _ _ _ _ (@pe_int _ _ _ _) (@pa_nil _) (star1 rfl)) (star1 rfl)) (star1 rfl)) (star1 rfl)) (star1 rfl))) (swap1 rfl) (.inl rfl))) (@pss_one _ _ _ (@ps_if _ _ _ _ _ _ _ _ (@pt_cmpR _ _ _ _ _ _ _ _ (@op_eq _) (@pe_var _ 8 _ _ rfl v_law_bad_inputs_8 dn__law_way dc__law_way) (@pe_int _ _ _ _) (nomark _)) (@pss_one _ _ _ (@ps_set _ _ 10 _ _ _ _ sc_law_bad_inputs.nd rfl l_law_bad_inputs_10 (@pe_op _ _ _ _ _ _ _ _ op_catTH (@pe_var _ 10 _ _ rfl v_law_bad_inputs_10 dn__law_some dc__law_some) (@pe_tup _ _ _ _ _ (@pa_cons _ _ _ _ _ (@pe_var _ 1 _ _ rfl v_law_bad_inputs_1 dn__law_at dc__law_at) (@pa_nil _) (star1 rfl)))) (swap1 rfl) (.inl rfl))) (@pss_one _ _ _ (@ps_if _ _ _ _ _ _ _ _ (@pt_cmpR _ _ _ _ _ _ _ _ (@op_eq _) (@pe_var _ 8 _ _ rfl v_law_bad_inputs_8 dn__law_way dc__law_way) (@pe_int _ _ _ _) (nomark _)) (@pss_one _ _ _ (@ps_set _ _ 10 _ _ _ _ sc_law_bad_inputs.nd rfl l_law_bad_inputs_10 (@pe_op _ _ _ _ _ _ _ _ op_catTH (@pe_var _ 10 _ _ rfl v_law_bad_inputs_10 dn__law_some dc__law_some) (@pe_tup _ _ _ _ _ (@pa_cons _ _ _ _ _ (@pe_op _ _ _ _ _ _ _ _ (@op_add _) (@pe_op _ _ _ _ _ _ _ _ (@op_add _) (@pe_var _ 1 _ _ rfl v_law_bad_inputs_1 dn__law_at dc__law_at) (@pe_int _ _ _ _)) (@pe_op _ _ _ _ _ _ _ _ (@op_mod _) (@pe_var _ 9 _ _ rfl v_law_bad_inputs_9 dn__law_pick dc__law_pick) (@pe_int _ _ _ _))) (@pa_nil _) (star1 rfl)))) (swap1 rfl) (.inl rfl))) (@pss_one _ _ _ (@ps_if _ _ _ _ _ _ _ _ (@pt_cmpR _ _ _ _ _ _ _ _ (@op_eq _) (@pe_var _ 8 _ _ rfl v_law_bad_inputs_8 dn__law_way dc__law_way) (@pe_int _ _ _ _) (nomark _)) (@pss_one _ _ _ (@ps_set _ _ 10 _ _ _ _ sc_law_bad_inputs.nd rfl l_law_bad_inputs_10 (@pe_op _ _ _ _ _ _ _ _ op_catTH (@pe_var _ 10 _ _ rfl v_law_bad_inputs_10 dn__law_some dc__law_some) (@pe_tup _ _ _ _ _ (@pa_cons _ _ _ _ _ (@pe_menu _ _ _ _ _ _ _ (@pa_cons _ _ _ _ _ (@pe_un _ _ _ _ _ _ (@un_neg _) (@pe_int _ _ _ _)) (@pa_cons _ _ _ _ _ (@pe_bl _ _ _ _) (@pa_cons _ _ _ _ _ (@pe_non _ _ _) (@pa_nil _) (star1 rfl)) (star1 rfl)) (star1 rfl)) (@pe_op _ _ _ _ _ _ _ _ (@op_mod _) (@pe_var _ 9 _ _ rfl v_law_bad_inputs_9 dn__law_pick dc__law_pick) (@pe_int _ _ _ _)) (fun _ _ => rfl)) (@pa_nil _) (star1 rfl)))) (swap1 rfl) (.inl rfl))) (@pss_one _ _ _ (@ps_if _ _ _ _ _ _ _ _ (@pt_cmpR _ _ _ _ _ _ _ _ (@op_eq _) (@pe_callB _ _ _ _ _ _ _ _ _ call_len_seq g_law_bad_inputs_len M.m_len b_len (@pa_cons _ _ _ _ _ (@pe_var _ 7 _ _ rfl v_law_bad_inputs_7 dn__law_inputs_here dc__law_inputs_here) (@pa_nil _) (star1 rfl)) nn_len dn_len (star1 rfl) nost0) (@pe_int _ _ _ _) (nomark _)) (@pss_one _ _ _ (@ps_set _ _ 10 _ _ _ _ sc_law_bad_inputs.nd rfl l_law_bad_inputs_10 (@pe_tup _ _ _ _ _ (@pa_cons _ _ _ _ _ (@pe_var _ 1 _ _ rfl v_law_bad_inputs_1 dn__law_at dc__law_at) (@pa_cons _ _ _ _ _ (@pe_var _ 1 _ _ rfl v_law_bad_inputs_1 dn__law_at dc__law_at) (@pa_nil _) (star1 rfl)) (star1 rfl))) (swap1 rfl) (.inl rfl))) (@pss_one _ _ _ (@ps_set _ _ 10 _ _ _ _ sc_law_bad_inputs.nd rfl l_law_bad_inputs_10 (@pe_op _ _ _ _ _ _ _ _ op_catTH (@pe_var _ 10 _ _ rfl v_law_bad_inputs_10 dn__law_some dc__law_some) (@pe_tup _ _ _ _ _ (@pa_cons _ _ _ _ _ (@pe_ix _ _ _ _ _ _ _ (@ix_tup _) (@pe_var _ 7 _ _ rfl v_law_bad_inputs_7 dn__law_inputs_here dc__law_inputs_here) (@pe_op _ _ _ _ _ _ _ _ (@op_mod _) (@pe_var _ 9 _ _ rfl v_law_bad_inputs_9 dn__law_pick dc__law_pick) (@pe_callB _ _ _ _ _ _ _ _ _ call_len_seq g_law_bad_inputs_len M.m_len b_len (@pa_cons _ _ _ _ _ (@pe_var _ 10 _ _ rfl v_law_bad_inputs_10 dn__law_some dc__law_some) (@pa_nil _) (star1 rfl)) nn_len dn_len (star1 rfl) nost0)) (fun _ _ => rfl)) (@pa_nil _) (star1 rfl)))) (swap1 rfl) (.inl rfl)))))))))))) (@pss_one _ _ _ (@ps_ret _ _ _ _ (@pe_tup _ _ _ _ _ (@pa_cons _ _ _ _ _ (@pe_var _ 4 _ _ rfl v_law_bad_inputs_4 dn__law_land dc__law_land) (@pa_cons _ _ _ _ _ (@pe_var _ 5 _ _ rfl v_law_bad_inputs_5 dn__law_number_here dc__law_number_here) (@pa_cons _ _ _ _ _ (@pe_op _ _ _ _ _ _ _ _ (@op_pow _) (@pe_int _ _ _ _) (@pe_int _ _ _ _)) (@pa_cons _ _ _ _ _ (@pe_var _ 10 _ _ rfl v_law_bad_inputs_10 dn__law_some dc__law_some) (@pa_nil _) (star1 rfl)) (star1 rfl)) (star1 rfl)) (star1 rfl)))))))))))), ?_⟩
  simp only [tTurn, rTurnT, tTryS, rCountT, rPop, rRep, tCont, iZipT, tChain3, tFld, sFld, tMake, tMake0, tMethD, tBM0, rUpper, tDict1T, tTryN, rSlS, rMulS, rCatS, iZipL, rInsert, rReverse, tDNewX, tTry, tRaise, iEnumL, iEnumT, iZip, iSeq, iOr, rIx, iStr, rLeS, rJoin, rSlTA, tComp_eq, tComp1, slots, Option.getD_some, Option.getD_none, tYes, tSeq, tAsg, gName, tOp, tUn, tC, tVar, tCB, tCons, tNil, tCall, rI, rI0, rU, tRet, tRetN, tIfS, tTest, tB, tAnd, tOr, tNot, tAndV, tOrV, tNotV, tIf, tChain, tMenu, tPar, tDrop, tTup, tLst, tNext, tSl, tPart, tNoPart, tNever, gTup, gCons, gNil, gSub, rSetL, tBM, rAppend, rEq, rNe, rIsi, rIxL, rIxT, rIxS, rSlL, isi_non_bl, isi_non_int, isi_non_str, isi_non_lst, isi_non_tup, isi_bl_bl, isi_bl_int, isi_bl_str, isi_bl_lst, isi_bl_tup, isi_int_bl, isi_int_int, isi_int_str, isi_int_lst, isi_int_tup, isi_str_bl, isi_str_int, isi_str_str, isi_str_lst, isi_str_tup, isi_lst_bl, isi_lst_int, isi_lst_str, isi_lst_lst, isi_lst_tup, isi_tup_bl, isi_tup_int, isi_tup_str, isi_tup_lst, isi_tup_tup, isi_dct_bl, isi_dct_int, isi_dct_str, isi_dct_lst, isi_dct_tup, Kd_non, Kd_bl, Kd_int, Kd_str, sc_non_non, sc_non_int, sc_int_non, sc_non_bl, sc_bl_non, sc_non_str, sc_str_non, sc_int_int, sc_bl_bl, sc_str_str, sc_int_str, sc_str_int, sc_bl_str, sc_str_bl, decide_true, decide_false, tFor_eq, iList, iTup, iRng1, iRng2, iRng3, rIndexT, tBM0, tBMT, tyK_int, tyK_bool, tyK_str, tyK_list, tyK_tuple, L2.start, cxK, Int.reduceToNat, List.map_cons, List.map_nil, List.length_cons, List.length_nil, Nat.reduceAdd, Nat.reduceSub, Nat.zero_add, List.replicate_succ, List.replicate_zero, List.cons_append, List.nil_append, List.append_nil, List.getElem?_cons_zero, List.getElem?_cons_succ, List.set_cons_zero, List.set_cons_succ, Option.some.injEq, V.int.injEq, V.bl.injEq, V.ref.injEq, V.str.injEq, V.ty.injEq, List.cons.injEq, exists_eq_left', exists_eq_left, exists_eq_right, exists_and_left, exists_and_right, and_true, true_and, and_assoc, exists_const, decide_eq_true_eq, Bool.not_eq_true', Bool.not_true, Bool.not_false, Bool.not_not, decide_eq_false_iff_not, ite_not, Bool.false_eq_true, if_true, if_false, reduceCtorEq, and_false, false_and, exists_false, or_false, false_or, ↓reduceIte, eq_self, reduceIte]
  refine ⟨_, T, rfl, ?_⟩
  simp only [tTurn, rTurnT, tTryS, rCountT, rPop, rRep, tCont, iZipT, tChain3, tFld, sFld, tMake, tMake0, tMethD, tBM0, rUpper, tDict1T, tTryN, rSlS, rMulS, rCatS, iZipL, rInsert, rReverse, tDNewX, tTry, tRaise, iEnumL, iEnumT, iZip, iSeq, iOr, rIx, iStr, rLeS, rJoin, rSlTA, tComp_eq, tComp1, slots, Option.getD_some, Option.getD_none, tYes, tSeq, tAsg, gName, tOp, tUn, tC, tVar, tCB, tCons, tNil, tCall, rI, rI0, rU, tRet, tRetN, tIfS, tTest, tB, tAnd, tOr, tNot, tAndV, tOrV, tNotV, tIf, tChain, tMenu, tPar, tDrop, tTup, tLst, tNext, tSl, tPart, tNoPart, tNever, gTup, gCons, gNil, gSub, rSetL, tBM, rAppend, rEq, rNe, rIsi, rIxL, rIxT, rIxS, rSlL, isi_non_bl, isi_non_int, isi_non_str, isi_non_lst, isi_non_tup, isi_bl_bl, isi_bl_int, isi_bl_str, isi_bl_lst, isi_bl_tup, isi_int_bl, isi_int_int, isi_int_str, isi_int_lst, isi_int_tup, isi_str_bl, isi_str_int, isi_str_str, isi_str_lst, isi_str_tup, isi_lst_bl, isi_lst_int, isi_lst_str, isi_lst_lst, isi_lst_tup, isi_tup_bl, isi_tup_int, isi_tup_str, isi_tup_lst, isi_tup_tup, isi_dct_bl, isi_dct_int, isi_dct_str, isi_dct_lst, isi_dct_tup, Kd_non, Kd_bl, Kd_int, Kd_str, sc_non_non, sc_non_int, sc_int_non, sc_non_bl, sc_bl_non, sc_non_str, sc_str_non, sc_int_int, sc_bl_bl, sc_str_str, sc_int_str, sc_str_int, sc_bl_str, sc_str_bl, decide_true, decide_false, tFor_eq, iList, iTup, iRng1, iRng2, iRng3, rIndexT, tBM0, tBMT, tyK_int, tyK_bool, tyK_str, tyK_list, tyK_tuple, L2.start, cxK, Int.reduceToNat, List.map_cons, List.map_nil, List.length_cons, List.length_nil, Nat.reduceAdd, Nat.reduceSub, Nat.zero_add, List.replicate_succ, List.replicate_zero, List.cons_append, List.nil_append, List.append_nil, List.getElem?_cons_zero, List.getElem?_cons_succ, List.set_cons_zero, List.set_cons_succ, Option.some.injEq, V.int.injEq, V.bl.injEq, V.ref.injEq, V.str.injEq, V.ty.injEq, List.cons.injEq, exists_eq_left', exists_eq_left, exists_eq_right, exists_and_left, exists_and_right, and_true, true_and, and_assoc, exists_const, decide_eq_true_eq, Bool.not_eq_true', Bool.not_true, Bool.not_false, Bool.not_not, decide_eq_false_iff_not, ite_not, Bool.false_eq_true, if_true, if_false, reduceCtorEq, and_false, false_and, exists_false, or_false, false_or, ↓reduceIte, eq_self, reduceIte]
  refine ⟨by decide, cdiv (by decide) (by decide), ?_⟩
  obtain ⟨pk, hpk⟩ : ∃ pk : Int, c / 7 = pk := ⟨_, rfl⟩
  rw [hpk]
  by_cases w0 : c % 7 = 0
  · rw [if_pos w0]
    refine ⟨_, .inr (SqT.of ti), fun l hl => ?_⟩
    obtain ⟨H1, g1, S1, L1⟩ := fresh_lst (K := K) hl (g.is.map V.int)
    rw [← g1]
    clear g1
    have i0 := Int.emod_nonneg pk (show (4 : Int) ≠ 0 by decide)
    have i1 := Int.emod_lt_of_pos pk (show (0 : Int) < 4 by decide)
    obtain ⟨v, hv⟩ : ∃ v, ([.ref l, .non, .int 0, .str "0"] : List V)[(pk % 4).toNat]? = some v := ⟨_, List.getElem?_eq_getElem (by show (pk % 4).toNat < 4; omega)⟩
    have all : ∀ v ∈ ([.ref l, .non, .int 0, .str "0"] : List V), InpV K H1 gs.length v false := by
      simp only [List.forall_mem_cons]
      exact ⟨.no (Kd.lst L1) (by decide), .no (show Kd K _ .non .non from rfl) (by decide), .no (show Kd K _ (.int 0) .int from rfl) (by decide), .no (show Kd K _ (.str "0") .str from rfl) (by decide), fun _ h => by cases h⟩
    exact ⟨by decide, by decide, by omega, v, hv, by decide, fun t ht => q _ _ (S1.trans (same_new ht _)) (.inp (SqT.of upd_same) hN (hU.same (S1.trans (same_new ht _))) G.p1 G.p2 ((all v (List.mem_of_getElem? hv)).same (same_new ht _)))⟩
  rw [if_neg w0]
  by_cases w1 : c % 7 = 1
  · rw [if_pos w1]
    refine ⟨by decide, fun t ht => q _ _ (same_new ht _) ?_⟩
    have sm := G.sm
    have p2 := G.p2
    by_cases p1 : 1 ≤ sumP gs g.is - 1
    · exact lotV_of (.sum (SqT.of upd_same) hN (hU.same (same_new ht _)) p1 (by omega) ((same_new ht _) _ _ ti) il G.iin G.nd) (decide_eq_false (by omega))
    · exact .word (SqT.of upd_same) hN (hU.same (same_new ht _)) (price_bad (by omega)) rfl
  rw [if_neg w1]
  have fin : ∀ (so : Addr) (H1 : Hp), Same H H1 → InpV K H1 gs.length (.ref so) false → CPow 10 12 ∧ 4 ≤ sizeLine ∧ ∀ p, H1 p = none → Q (.ref p) (upd H1 p (.tup [.str (txt g.cs), .ref g.np, .int (10 ^ 12), .ref so])) := fun so H1 e1 iv =>
    ⟨cpow, by decide, fun t ht => q _ _ (e1.trans (same_new ht _)) (.inp (SqT.of upd_same) hN (hU.same (e1.trans (same_new ht _))) (by decide) (by decide) (iv.same (same_new ht _)))⟩
  have e3 : cutV (g.is.map V.int) none (some 3) = (g.is.take 3).map V.int := by
    have := cut_to (xs := g.is.map V.int) (n := 3)
    rw [List.map_take]
    exact this
  refine ⟨_, _, rfl, ti, fun so H1 S1 T1 => ?_⟩
  rw [e3] at T1
  simp only [tTurn, rTurnT, tTryS, rCountT, rPop, rRep, tCont, iZipT, tChain3, tFld, sFld, tMake, tMake0, tMethD, tBM0, rUpper, tDict1T, tTryN, rSlS, rMulS, rCatS, iZipL, rInsert, rReverse, tDNewX, tTry, tRaise, iEnumL, iEnumT, iZip, iSeq, iOr, rIx, iStr, rLeS, rJoin, rSlTA, tComp_eq, tComp1, slots, Option.getD_some, Option.getD_none, tYes, tSeq, tAsg, gName, tOp, tUn, tC, tVar, tCB, tCons, tNil, tCall, rI, rI0, rU, tRet, tRetN, tIfS, tTest, tB, tAnd, tOr, tNot, tAndV, tOrV, tNotV, tIf, tChain, tMenu, tPar, tDrop, tTup, tLst, tNext, tSl, tPart, tNoPart, tNever, gTup, gCons, gNil, gSub, rSetL, tBM, rAppend, rEq, rNe, rIsi, rIxL, rIxT, rIxS, rSlL, isi_non_bl, isi_non_int, isi_non_str, isi_non_lst, isi_non_tup, isi_bl_bl, isi_bl_int, isi_bl_str, isi_bl_lst, isi_bl_tup, isi_int_bl, isi_int_int, isi_int_str, isi_int_lst, isi_int_tup, isi_str_bl, isi_str_int, isi_str_str, isi_str_lst, isi_str_tup, isi_lst_bl, isi_lst_int, isi_lst_str, isi_lst_lst, isi_lst_tup, isi_tup_bl, isi_tup_int, isi_tup_str, isi_tup_lst, isi_tup_tup, isi_dct_bl, isi_dct_int, isi_dct_str, isi_dct_lst, isi_dct_tup, Kd_non, Kd_bl, Kd_int, Kd_str, sc_non_non, sc_non_int, sc_int_non, sc_non_bl, sc_bl_non, sc_non_str, sc_str_non, sc_int_int, sc_bl_bl, sc_str_str, sc_int_str, sc_str_int, sc_bl_str, sc_str_bl, decide_true, decide_false, tFor_eq, iList, iTup, iRng1, iRng2, iRng3, rIndexT, tBM0, tBMT, tyK_int, tyK_bool, tyK_str, tyK_list, tyK_tuple, L2.start, cxK, Int.reduceToNat, List.map_cons, List.map_nil, List.length_cons, List.length_nil, Nat.reduceAdd, Nat.reduceSub, Nat.zero_add, List.replicate_succ, List.replicate_zero, List.cons_append, List.nil_append, List.append_nil, List.getElem?_cons_zero, List.getElem?_cons_succ, List.set_cons_zero, List.set_cons_succ, Option.some.injEq, V.int.injEq, V.bl.injEq, V.ref.injEq, V.str.injEq, V.ty.injEq, List.cons.injEq, exists_eq_left', exists_eq_left, exists_eq_right, exists_and_left, exists_and_right, and_true, true_and, and_assoc, exists_const, decide_eq_true_eq, Bool.not_eq_true', Bool.not_true, Bool.not_false, Bool.not_not, decide_eq_false_iff_not, ite_not, Bool.false_eq_true, if_true, if_false, reduceCtorEq, and_false, false_and, exists_false, or_false, false_or, ↓reduceIte, eq_self, reduceIte]
  have l3 : (g.is.take 3).length ≤ 3 := by rw [List.length_take]; omega
  have lm : ((g.is.take 3).map V.int).length ≤ 3 := by rw [List.length_map]; exact l3
  have out : ∀ j : Int, (gs.length : Int) ≤ j → inI gs.length (.int j) = false := fun j hj => decide_eq_false (by omega)
  have cat : ∀ (x : V), Knd K H1 x → inI gs.length x = false → ∀ p, H1 p = none → rCatTH (.ref so) (.ref p) (upd H1 p (.tup [x])) fun y H2 => CPow 10 12 ∧ 4 ≤ sizeLine ∧ ∀ p, H2 p = none → Q (.ref p) (upd H2 p (.tup [.str (txt g.cs), .ref g.np, .int (10 ^ 12), y])) := fun x kx no p hp =>
    ⟨_, _, _, _, rfl, rfl, (same_new hp _) _ _ T1, upd_same, sz _ (by show _ + 1 ≤ 64; omega), fun p2 H2 S2 T2 => fin p2 H2 (S1.trans ((same_new hp _).trans S2)) (inp_end T2 (kx.same ((same_new hp _).trans S2)) no)⟩
  by_cases w2 : c % 7 = 2
  · rw [if_pos w2]
    refine ⟨by decide, fun p hp => fin p _ (S1.trans (same_new hp _)) (.odd (SqT.of upd_same) (fun x hx => by simp only [List.mem_cons, List.not_mem_nil, or_false] at hx; rcases hx with rfl | rfl | rfl | rfl | rfl; all_goals exact ⟨_, rfl⟩) rfl)⟩
  rw [if_neg w2]
  by_cases w3 : c % 7 = 3
  · rw [if_pos w3]
    exact ⟨by decide, cat _ ⟨_, rfl⟩ (out _ (by omega))⟩
  rw [if_neg w3]
  by_cases w4 : c % 7 = 4
  · rw [if_pos w4]
    have k0 := Int.emod_nonneg pk (show (9 : Int) ≠ 0 by decide)
    exact ⟨by decide, by decide, cat _ ⟨_, rfl⟩ (out _ (by omega))⟩
  rw [if_neg w4]
  by_cases w5 : c % 7 = 5
  · rw [if_pos w5]
    have i0 := Int.emod_nonneg pk (show (3 : Int) ≠ 0 by decide)
    have i1 := Int.emod_lt_of_pos pk (show (0 : Int) < 3 by decide)
    obtain ⟨v, hv⟩ : ∃ v, ([.int (-1), .bl true, .non] : List V)[(pk % 3).toNat]? = some v := ⟨_, List.getElem?_eq_getElem (by show (pk % 3).toNat < 3; omega)⟩
    have all : ∀ v ∈ ([.int (-1), .bl true, .non] : List V), Knd K H1 v ∧ inI gs.length v = false := by
      simp only [List.forall_mem_cons]
      exact ⟨⟨⟨_, rfl⟩, (show decide (0 ≤ (-1 : Int) ∧ (-1 : Int) < (gs.length : Int)) = false from decide_eq_false (by omega))⟩, ⟨⟨_, rfl⟩, rfl⟩, ⟨⟨_, rfl⟩, rfl⟩, fun _ h => by cases h⟩
    have av := all v (List.mem_of_getElem? hv)
    exact ⟨by decide, by decide, by omega, v, hv, by decide, cat v av.1 av.2⟩
  rw [if_neg w5]
  refine ⟨_, .inr (SqT.of (S1 _ _ ti)), ?_⟩
  rw [List.length_map]
  by_cases z : (g.is.length : Int) = 0
  · rw [if_pos z]
    refine ⟨by decide, fun p hp => fin p _ (S1.trans (same_new hp _)) (.odd (SqT.of upd_same) (fun x hx => by simp only [List.mem_cons, List.not_mem_nil, or_false] at hx; rcases hx with rfl | rfl; all_goals exact ⟨_, rfl⟩) ?_)⟩
    rw [List.all_cons, out _ (Int.le_refl _), Bool.false_and, Bool.and_false]
  · rw [if_neg z]
    have lp : 0 < (((g.is.take 3).map V.int).length : Int) := by rw [List.length_map, List.length_take]; omega
    have k0 := Int.emod_nonneg pk (Int.ne_of_gt lp)
    have k1 := Int.emod_lt_of_pos pk lp
    obtain ⟨j, hj⟩ : ∃ j : Nat, pk % (((g.is.take 3).map V.int).length : Int) = (j : Int) := ⟨(pk % (((g.is.take 3).map V.int).length : Int)).toNat, by omega⟩
    rw [hj, List.length_map] at k1
    have hjt : j < (g.is.take 3).length := by omega
    have hji : j < g.is.length := by rw [List.length_take] at hjt; omega
    obtain ⟨o, ho⟩ : ∃ o, g.is[j]? = some o := ⟨_, List.getElem?_eq_getElem hji⟩
    have ot : o ∈ g.is.take 3 := by
      refine List.mem_of_getElem? (i := j) ?_
      rw [List.getElem?_take, if_pos (by rw [List.length_take] at hjt; omega)]
      exact ho
    have hx : (g.is.map V.int)[j]? = some (.int o) := by rw [List.getElem?_map, ho]; rfl
    refine ⟨_, .inr (SqT.of T1), lp, _, SqT.of (S1 _ _ ti), _, by rw [hj]; exact atI_nat hx, by decide, fun p hp => ?_⟩
    exact ⟨_, _, _, _, rfl, rfl, (same_new hp _) _ _ T1, upd_same, sz _ (by show _ + 1 ≤ 64; omega), fun p2 H2 S2 T2 => fin p2 H2 (S1.trans ((same_new hp _).trans S2)) (inp_twice T2 l3 (fun i hi => G.iin i (List.mem_of_mem_take hi)) ot)⟩
end

inductive KeptV (K : PySem.W.Frag) (H : Hp) : V → Prop
  | lst {l : Addr} {xs : List V} : H l = some (.lst xs) → xs.all okV = true → xs.length ≤ 25 → KeptV K H (.ref l)
  | tup {t : Addr} {xs : List V} : H t = some (.tup xs) → xs.all okV = true → KeptV K H (.ref t)
  | non : KeptV K H .non
  | str {z : Str} : KeptV K H (.str z)
def spSpoilt (K : PySem.W.Frag) : Sp := fun vs H Q _ => ∃ (a : Addr) (c : Int) (gs : List Lt), vs = [.ref a, .int c] ∧ SqL K H a (refs gs) ∧ (∀ g ∈ gs, LtAt K H g) ∧ Lots gs ∧ 1 ≤ gs.length ∧ gs.length ≤ 21 ∧ ∀ v H', Same H H' → BadR K H' v → KeptV K H' v → (∀ l, v = .ref l → H l = none) → Q v H'
theorem sumP_take {gs : List Lt} {n : Nat} {is : List Int} (h : ∀ i ∈ is, 0 ≤ i ∧ i < (n : Int)) : sumP (gs.take n) is = sumP gs is := by
  unfold sumP
  congr 1
  refine List.map_congr_left fun i hi => ?_
  have := h i hi
  unfold prAt
  rw [List.getElem?_take, if_pos (by omega)]
theorem LotV.okV {K : PySem.W.Frag} {H : Hp} {gs : List Lt} {v : V} {b : Bool} (h : LotV K H gs v b) : okV v = true := by
  cases h with
  | @no v k kd _ =>
    cases v with
    | byt b => exact kd.elim
    | flt b => exact kd.elim
    | ty n => exact kd.elim
    | _ => rfl
  | _ => rfl
theorem kd_upd {K : PySem.W.Frag} {H : Hp} {l : Addr} {xs ys : List V} {v : V} {k : Kn} (h : Kd K H v k) (d : H l = some (.lst xs)) : Kd K (upd H l (.lst ys)) v k := by
  cases v with
  | ref a =>
    rcases h with ⟨e, zs, h⟩ | ⟨e, zs, h⟩ | ⟨e, h⟩
    · by_cases hal : a = l
      · subst hal
        exact .inl ⟨e, ys, SqL.of upd_same⟩
      · exact .inl ⟨e, zs, sql_upd h hal⟩
    · exact .inr (.inl ⟨e, zs, SqT.lst h d⟩)
    · exact .inr (.inr ⟨e, by rw [upd_ne (ne_of h d (by intro z; cases z))]; exact h⟩)
  | _ => exact h
theorem knd_upd {K : PySem.W.Frag} {H : Hp} {l : Addr} {xs ys : List V} {x : V} (h : Knd K H x) (d : H l = some (.lst xs)) : Knd K (upd H l (.lst ys)) x := by
  obtain ⟨k, hk⟩ := h
  exact ⟨k, kd_upd hk d⟩
theorem lotV_upd {K : PySem.W.Frag} {H : Hp} {gs : List Lt} {l : Addr} {xs ys : List V} {v : V} {b : Bool} (h : LotV K H gs v b) (d : H l = some (.lst xs)) : LotV K (upd H l (.lst ys)) gs v b := by
  have nm : ∀ {v : V} {b : Bool}, NameV K H v b → NameV K (upd H l (.lst ys)) v b := fun {v b} h => by
    cases h with
    | no a c => exact .no (kd_upd a d) c
    | txt a c => exact .txt a c
  have nu : ∀ {v : V} {b : Bool}, NumV K H v b → NumV K (upd H l (.lst ys)) v b := fun {v b} h => by
    cases h with
    | no a c => exact .no (kd_upd a d) c
    | tup a c => exact .tup (SqT.lst a d) fun x hx => knd_upd (c x hx) d
  have pv : ∀ {v : V} {b : Bool}, PriceV K H v b → PriceV K (upd H l (.lst ys)) v b := fun {v b} h => by
    cases h with
    | no a c => exact .no (kd_upd a d) c
    | int => exact .int
  have tu : ∀ {p : Addr} {zs : List V}, H p = some (.tup zs) → upd H l (.lst ys) p = some (.tup zs) := fun {p zs} h => by rw [upd_ne (ne_of h d (by intro z; cases z))]; exact h
  have iv : ∀ {m : Nat} {v : V} {b : Bool}, InpV K H m v b → InpV K (upd H l (.lst ys)) m v b := fun {m v b} h => by
    cases h with
    | no a c => exact .no (kd_upd a d) c
    | odd a c e => exact .odd (SqT.lst a d) (fun x hx => knd_upd (c x hx) d) e
    | nums a c e => exact .nums (tu a) c e
  cases h with
  | no a c => exact .no (kd_upd a d) c
  | len a c => exact .len (SqT.lst a d) c
  | word a c e f g => exact .word (SqT.lst a d) (nm c) (nu e) (pv f) g
  | inp a c e f g i => exact .inp (SqT.lst a d) (nm c) (nu e) f g (iv i)
  | sum a c e f g i j k m => exact .sum (SqT.lst a d) (nm c) (nu e) f g (tu i) j k m
theorem ok_set {gs : List Lt} {i : Nat} {v : V} (h : L2.okV v = true) : ((refs gs).set i v).all okV = true := by
  rw [List.all_eq_true]
  intro x hx
  rcases List.mem_or_eq_of_mem_set hx with hx | rfl
  · exact List.all_eq_true.mp (refs_ok gs) x hx
  · exact h
section
variable {P : Program} {w : World} {K : PySem.W.Frag} {mg : Str → Option Value} {base : Heap} {f : Addr} {fd : FuncData}
theorem ok_law_spoilt (F : Fun K "_law_spoilt" "_law_spoilt" s_law_spoilt f fd) (M : Mg mg) (C_law_mix : Cal P w K mg base CX0 "_law_mix" 1 ["_law_cell", "_law_by"] spMix) (C_law_bad_word : Cal P w K mg base CX0 "_law_bad_word" 1 ["_law_lot_here", "_law_cell"] (spBadW K))
    (C_law_bad_inputs : Cal P w K mg base CX0 "_law_bad_inputs" 1 ["_law_lot_here", "_law_at", "_law_total", "_law_cell"] (spBadI K)) : FnOk P w K mg base CX0 2 f fd ["_law_lots_here", "_law_cell"] (spSpoilt K) := by
  refine F.ok sc_law_spoilt (fun vs H Q E h => ?_) (fun cdv A outer s H vs Q E hr h => ?_)
  · obtain ⟨a, c, gs, rfl, _⟩ := h
    rfl
  obtain ⟨a, c, gs, rfl, L, at_, lo, l1, l21, q⟩ := h
  refine ⟨_, (@pss_cons _ _ _ _ _ (@ps_if _ _ _ _ _ _ _ _ (@pt_cmpR _ _ _ _ _ _ _ _ (@op_eq _) (@pe_op _ _ _ _ _ _ _ _ (@op_mod _) (@pe_var _ 1 _ _ rfl v_law_spoilt_1 dn__law_cell dc__law_cell) (@pe_int _ _ _ _)) (@pe_int _ _ _ _) (nomark _)) (@pss_one _ _ _ (@ps_ret _ _ _ _ (@pe_menu _ _ _ _ _ _ _ (@pa_cons _ _ _ _ _ (@pe_callTy _ _ _ _ _ _ _ _ _ call_tupleL g_law_spoilt_tuple M.m_tuple b_tuple (@pa_cons _ _ _ _ _ (@pe_var _ 0 _ _ rfl v_law_spoilt_0 dn__law_lots_here dc__law_lots_here) (@pa_nil _) (star1 rfl)) nn_tuple dn_tuple (star1 rfl) nost0) (@pa_cons _ _ _ _ _ (@pe_op _ _ _ _ _ _ _ _ op_rep (@pe_lst _ _ _ _ (@pa_cons _ _ _ _ _ (@pe_tup _ _ _ _ _ (@pa_cons _ _ _ _ _ (@pe_str _ _ _ _) (@pa_cons _ _ _ _ _ (@pe_tup _ _ _ _ _ (@pa_cons _ _ _ _ _ (@pe_int _ _ _ _) (@pa_nil _) (star1 rfl))) (@pa_cons _ _ _ _ _ (@pe_int _ _ _ _) (@pa_cons _ _ _ _ _ (@pe_tup _ _ _ _ _ (@pa_nil _)) (@pa_nil _) (star1 rfl)) (star1 rfl)) (star1 rfl)) (star1 rfl))) (@pa_nil _) (star1 rfl))) (@pe_int _ _ _ _)) (@pa_cons _ _ _ _ _ (@pe_non _ _ _) (@pa_cons _ _ _ _ _ (@pe_str _ _ _ _) (@pa_nil _) (star1 rfl)) (star1 rfl)) (star1 rfl)) (star1 rfl)) (@pe_op _ _ _ _ _ _ _ _ (@op_mod _) (@pe_op _ _ _ _ _ _ _ _ (@op_fdivB _) (@pe_var _ 1 _ _ rfl v_law_spoilt_1 dn__law_cell dc__law_cell) (@pe_int _ _ _ _)) (@pe_int _ _ _ _)) (fun _ _ => rfl)))) (@pss_nil _)) (@pss_cons _ _ _ _ _ (@ps_set _ _ 2 _ _ _ _ sc_law_spoilt.nd rfl l_law_spoilt_2 (@pe_op _ _ _ _ _ _ _ _ (@op_mod _) (@pe_op _ _ _ _ _ _ _ _ (@op_fdivB _) (@pe_var _ 1 _ _ rfl v_law_spoilt_1 dn__law_cell dc__law_cell) (@pe_int _ _ _ _)) (@pe_callB _ _ _ _ _ _ _ _ _ call_len_seq g_law_spoilt_len M.m_len b_len (@pa_cons _ _ _ _ _ (@pe_var _ 0 _ _ rfl v_law_spoilt_0 dn__law_lots_here dc__law_lots_here) (@pa_nil _) (star1 rfl)) nn_len dn_len (star1 rfl) nost0)) (swap1 rfl) (.inl rfl)) (@pss_cons _ _ _ _ _ (@ps_set _ _ 3 _ _ _ _ sc_law_spoilt.nd rfl l_law_spoilt_3 (@pe_callC _ _ _ _ _ _ _ _ _ _ _ C_law_mix hr g_law_spoilt__law_mix (@pa_cons _ _ _ _ _ (@pe_op _ _ _ _ _ _ _ _ (@op_fdivB _) (@pe_var _ 1 _ _ rfl v_law_spoilt_1 dn__law_cell dc__law_cell) (@pe_int _ _ _ _)) (@pa_cons _ _ _ _ _ (@pe_int _ _ _ _) (@pa_nil _) (star1 rfl)) (star1 rfl)) (by decide) dn__law_mix (star1 rfl) (nost1 rfl nost0)) (swap1 rfl) (.inl rfl)) (@pss_cons _ _ _ _ _ (@ps_set _ _ 4 _ _ _ _ sc_law_spoilt.nd rfl l_law_spoilt_4 (@pe_callTy _ _ _ _ _ _ _ _ _ call_listL g_law_spoilt_list M.m_list b_list (@pa_cons _ _ _ _ _ (@pe_var _ 0 _ _ rfl v_law_spoilt_0 dn__law_lots_here dc__law_lots_here) (@pa_nil _) (star1 rfl)) nn_list dn_list (star1 rfl) nost0) (swap1 rfl) (.inl rfl)) (@pss_cons _ _ _ _ _ (@ps_if _ _ _ _ _ _ _ _ (@pt_cmpR _ _ _ _ _ _ _ _ (@op_lt _) (@pe_op _ _ _ _ _ _ _ _ (@op_mod _) (@pe_var _ 1 _ _ rfl v_law_spoilt_1 dn__law_cell dc__law_cell) (@pe_int _ _ _ _)) (@pe_int _ _ _ _) (nomark _)) (@pss_one _ _ _ (@ps_asg _ _ _ _ _ _ (@pe_callC _ _ _ _ _ _ _ _ _ _ _ C_law_bad_word hr g_law_spoilt__law_bad_word (@pa_cons _ _ _ _ _ (@pe_ix _ _ _ _ _ _ _ (@ix_list _) (@pe_var _ 0 _ _ rfl v_law_spoilt_0 dn__law_lots_here dc__law_lots_here) (@pe_var _ 2 _ _ rfl v_law_spoilt_2 dn__law_at dc__law_at) (fun _ _ => rfl)) (@pa_cons _ _ _ _ _ (@pe_var _ 3 _ _ rfl v_law_spoilt_3 dn__law_rest dc__law_rest) (@pa_nil _) (star1 rfl)) (star1 rfl)) (by decide) dn__law_bad_word (star1 rfl) (nost1 rfl nost0)) (@pg_sub _ _ _ _ _ _ _ (@pe_var _ 4 _ _ rfl v_law_spoilt_4 dn__law_rows dc__law_rows) (@pe_var _ 2 _ _ rfl v_law_spoilt_2 dn__law_at dc__law_at) set_list (by intro _; rfl)) (by rfl) (by rfl) (by rfl))) (@pss_one _ _ _ (@ps_asg _ _ _ _ _ _ (@pe_callC _ _ _ _ _ _ _ _ _ _ _ C_law_bad_inputs hr g_law_spoilt__law_bad_inputs (@pa_cons _ _ _ _ _ (@pe_ix _ _ _ _ _ _ _ (@ix_list _) (@pe_var _ 0 _ _ rfl v_law_spoilt_0 dn__law_lots_here dc__law_lots_here) (@pe_var _ 2 _ _ rfl v_law_spoilt_2 dn__law_at dc__law_at) (fun _ _ => rfl)) (@pa_cons _ _ _ _ _ (@pe_var _ 2 _ _ rfl v_law_spoilt_2 dn__law_at dc__law_at) (@pa_cons _ _ _ _ _ (@pe_callB _ _ _ _ _ _ _ _ _ (call_sum1 rfl) g_law_spoilt_sum M.m_sum b_sum (@pa_cons _ _ _ _ _ (@pe_comp _ _ _ _ _ _ _ _ _ _ _ _ _ _ _ rfl (CompOk.make (N' := ["_law_lots_here", "_law_k"]) (ix := [0]) (nl := 1) (by rfl) (fm1 rfl fm0) (by rfl) (by decide +kernel) rfl (by decide +kernel) rfl (And.intro ⟨rfl, .inl rfl, .inl rfl⟩ True.intro)) (@pi_tup _ _ _ _ (@pe_ix _ _ _ _ _ _ _ (@ix_tup _) (@pe_ix _ _ _ _ _ _ _ (@ix_list _) (@pe_var _ 0 _ _ rfl v_law_spoilt_0 dn__law_lots_here dc__law_lots_here) (@pe_var _ 2 _ _ rfl v_law_spoilt_2 dn__law_at dc__law_at) (fun _ _ => rfl)) (@pe_int _ _ _ _) (fun _ _ => rfl))) (fun _ _ _ _ _ => (@pg_name _ _ 1 _ (show List.Nodup (["_law_lots_here", "_law_k"] : List Str) from by decide) rfl (Or.inl rfl) (by first | exact .inl rfl | exact .inr rfl | assumption))) (fun _ _ _ _ _ => (@pif_nil _)) (fun _ _ _ _ _ => (@pe_ix _ _ _ _ _ _ _ (ix_tupK (K := K) rfl) (@pe_ix _ _ _ _ _ _ _ (@ix_listK _ K rfl) (@pv _ 0 _ _ (by rfl) (by first | exact Or.inl rfl | exact Or.inr (Or.inl rfl) | exact Or.inr (Or.inr rfl)) (by decide) (by decide)) (@pv _ 1 _ _ (by rfl) (by first | exact Or.inl rfl | exact Or.inr (Or.inl rfl) | exact Or.inr (Or.inr rfl)) (by decide) (by decide)) (fun _ _ => rfl)) (@pe_int _ _ _ _) (fun _ _ => rfl))) (by intro _; rfl)) (@pa_nil _) (star1 rfl)) nn_sum dn_sum (star1 rfl) nost0) (@pa_cons _ _ _ _ _ (@pe_var _ 3 _ _ rfl v_law_spoilt_3 dn__law_rest dc__law_rest) (@pa_nil _) (star1 rfl)) (star1 rfl)) (star1 rfl)) (star1 rfl)) (by decide) dn__law_bad_inputs (star1 rfl) (nost1 rfl (nost1 rfl (nost1 rfl nost0)))) (@pg_sub _ _ _ _ _ _ _ (@pe_var _ 4 _ _ rfl v_law_spoilt_4 dn__law_rows dc__law_rows) (@pe_var _ 2 _ _ rfl v_law_spoilt_2 dn__law_at dc__law_at) set_list (by intro _; rfl)) (by rfl) (by rfl) (by rfl)))) (@pss_one _ _ _ (@ps_ret _ _ _ _ (@pe_var _ 4 _ _ rfl v_law_spoilt_4 dn__law_rows dc__law_rows)))))))), ?_⟩
  simp only [tTurn, rTurnT, tTryS, rCountT, rPop, rRep, tCont, iZipT, tChain3, tFld, sFld, tMake, tMake0, tMethD, tBM0, rUpper, tDict1T, tTryN, rSlS, rMulS, rCatS, iZipL, rInsert, rReverse, tDNewX, tTry, tRaise, iEnumL, iEnumT, iZip, iSeq, iOr, rIx, iStr, rLeS, rJoin, rSlTA, tComp_eq, tComp1, slots, Option.getD_some, Option.getD_none, tYes, tSeq, tAsg, gName, tOp, tUn, tC, tVar, tCB, tCons, tNil, tCall, rI, rI0, rU, tRet, tRetN, tIfS, tTest, tB, tAnd, tOr, tNot, tAndV, tOrV, tNotV, tIf, tChain, tMenu, tPar, tDrop, tTup, tLst, tNext, tSl, tPart, tNoPart, tNever, gTup, gCons, gNil, gSub, rSetL, tBM, rAppend, rEq, rNe, rIsi, rIxL, rIxT, rIxS, rSlL, isi_non_bl, isi_non_int, isi_non_str, isi_non_lst, isi_non_tup, isi_bl_bl, isi_bl_int, isi_bl_str, isi_bl_lst, isi_bl_tup, isi_int_bl, isi_int_int, isi_int_str, isi_int_lst, isi_int_tup, isi_str_bl, isi_str_int, isi_str_str, isi_str_lst, isi_str_tup, isi_lst_bl, isi_lst_int, isi_lst_str, isi_lst_lst, isi_lst_tup, isi_tup_bl, isi_tup_int, isi_tup_str, isi_tup_lst, isi_tup_tup, isi_dct_bl, isi_dct_int, isi_dct_str, isi_dct_lst, isi_dct_tup, Kd_non, Kd_bl, Kd_int, Kd_str, sc_non_non, sc_non_int, sc_int_non, sc_non_bl, sc_bl_non, sc_non_str, sc_str_non, sc_int_int, sc_bl_bl, sc_str_str, sc_int_str, sc_str_int, sc_bl_str, sc_str_bl, decide_true, decide_false, tFor_eq, iList, iTup, iRng1, iRng2, iRng3, rIndexT, tBM0, tBMT, tyK_int, tyK_bool, tyK_str, tyK_list, tyK_tuple, L2.start, cxK, Int.reduceToNat, List.map_cons, List.map_nil, List.length_cons, List.length_nil, Nat.reduceAdd, Nat.reduceSub, Nat.zero_add, List.replicate_succ, List.replicate_zero, List.cons_append, List.nil_append, List.append_nil, List.getElem?_cons_zero, List.getElem?_cons_succ, List.set_cons_zero, List.set_cons_succ, Option.some.injEq, V.int.injEq, V.bl.injEq, V.ref.injEq, V.str.injEq, V.ty.injEq, List.cons.injEq, exists_eq_left', exists_eq_left, exists_eq_right, exists_and_left, exists_and_right, and_true, true_and, and_assoc, exists_const, decide_eq_true_eq, Bool.not_eq_true', Bool.not_true, Bool.not_false, Bool.not_not, decide_eq_false_iff_not, ite_not, Bool.false_eq_true, if_true, if_false, reduceCtorEq, and_false, false_and, exists_false, or_false, false_or, ↓reduceIte, eq_self, reduceIte]
  refine ⟨by decide, ?_⟩
  by_cases w9 : c % 9 = 0
  · rw [if_pos w9]
    refine ⟨_, L, fun t ht => ?_⟩
    obtain ⟨H1, g1, S1, T1⟩ : ∃ H1, H1 = upd H t (.tup (refs gs)) ∧ Same H H1 ∧ H1 t = some (.tup (refs gs)) := ⟨_, rfl, same_new ht _, upd_same⟩
    rw [← g1]
    clear g1
    refine ⟨by decide, fun p1 h1 => ⟨by decide, fun p2 h2 => ⟨by decide, fun p3 h3 => ⟨by decide, fun p4 h4 => ⟨_, upd_same, by decide, by decide, Nat.le_trans (show 1 * 25 ≤ 64 by decide) (by decide), fun p5 h5 => ?_⟩⟩⟩⟩⟩
    have S5 := (same_new h1 (.tup [.int 1])).trans ((same_new h2 (.tup [])).trans ((same_new h3 (.tup [.str "a", .ref p1, .int 1, .ref p2])).trans ((same_new h4 (.lst [.ref p3])).trans (same_new h5 (.lst (List.replicate 25 (V.ref p3)))))))
    have i0 := Int.emod_nonneg (c / 9) (show (4 : Int) ≠ 0 by decide)
    have i1 := Int.emod_lt_of_pos (c / 9) (show (0 : Int) < 4 by decide)
    obtain ⟨v, hv⟩ : ∃ v, ([.ref t, .ref p5, .non, .str "lots"] : List V)[(c / 9 % 4).toNat]? = some v := ⟨_, List.getElem?_eq_getElem (by show (c / 9 % 4).toNat < 4; omega)⟩
    refine ⟨by decide, cdiv (by decide) (by decide), by decide, by omega, v, hv, ?_⟩
    have hm := List.mem_of_getElem? hv
    simp only [List.mem_cons, List.not_mem_nil, or_false] at hm
    have d5 : (upd (upd (upd (upd (upd H1 p1 (.tup [.int 1])) p2 (.tup [])) p3 (.tup [.str "a", .ref p1, .int 1, .ref p2])) p4 (.lst [.ref p3])) p5 (.lst (List.replicate 25 (V.ref p3)))) p5 = some (.lst (List.replicate 25 (V.ref p3))) := upd_same
    have key : ∀ v, (v = .ref t ∨ v = .ref p5 ∨ v = .non ∨ v = .str "lots") → Q v (upd (upd (upd (upd (upd H1 p1 (.tup [.int 1])) p2 (.tup [])) p3 (.tup [.str "a", .ref p1, .int 1, .ref p2])) p4 (.lst [.ref p3])) p5 (.lst (List.replicate 25 (V.ref p3)))) := by
      rintro v (rfl | rfl | rfl | rfl)
      · exact q _ _ (S1.trans S5) (.no (Kd.tup (SqT.of (S5 _ _ T1))) (by decide)) (.tup (S5 _ _ T1) (refs_ok gs)) (fun l e => by cases e; exact ht)
      · exact q _ _ (S1.trans S5) (.long (SqL.of d5) (by rw [List.length_replicate]; decide)) (.lst d5 rfl (by rw [List.length_replicate]; decide)) (fun l e => by cases e; exact S1.free ((same_new h1 _).free ((same_new h2 _).free ((same_new h3 _).free ((same_new h4 _).free h5)))))
      · exact q _ _ (S1.trans S5) (.no (show Kd K _ .non .non from rfl) (by decide)) .non (fun l e => by cases e)
      · exact q _ _ (S1.trans S5) (.no (show Kd K _ (.str "lots") .str from rfl) (by decide)) .str (fun l e => by cases e)
    exact key v hm
  rw [if_neg w9]
  refine ⟨cdiv (by decide) (by decide), _, .inl L, ?_⟩
  rw [refs_len]
  have lp : 0 < (gs.length : Int) := by omega
  have j0 := Int.emod_nonneg (c / 9) (Int.ne_of_gt lp)
  have j1 := Int.emod_lt_of_pos (c / 9) lp
  obtain ⟨j, hj⟩ : ∃ j : Nat, c / 9 % (gs.length : Int) = (j : Int) := ⟨(c / 9 % (gs.length : Int)).toNat, by omega⟩
  rw [hj] at j1
  rw [hj]
  have hjl : j < gs.length := by omega
  obtain ⟨g, hg⟩ : ∃ g, gs[j]? = some g := ⟨_, List.getElem?_eq_getElem hjl⟩
  have G := lo j g hg
  have ga := at_ g (List.mem_of_getElem? hg)
  refine ⟨lp, cdiv (by decide) (by decide), _, _, rfl, by decide, by decide, fun rs r0 r1 => ?_⟩
  refine ⟨_, L, fun l hl => ?_⟩
  obtain ⟨H1, g1, S1, d1⟩ : ∃ H1, H1 = upd H l (.lst (refs gs)) ∧ Same H H1 ∧ H1 l = some (.lst (refs gs)) := ⟨_, rfl, same_new hl _, upd_same⟩
  rw [← g1]
  clear g1
  have lt : (gs.take j).length = j := by rw [List.length_take]; omega
  have fin : ∀ v H2, Same H1 H2 → LotV K H2 (gs.take j) v false → Q (.ref l) (upd H2 l (.lst ((refs gs).set j v))) := fun v H2 e2 lv => by
    have d2 := e2 _ _ d1
    have e02 := S1.trans e2
    have ov := LotV.okV lv
    have es : (refs gs).set j v = refs (gs.take j) ++ v :: refs (gs.drop (j + 1)) := by
      rw [List.set_eq_take_append_cons_drop, if_pos (by rw [refs_len]; exact hjl)]
      unfold refs
      rw [List.map_take, List.map_drop]
    have dl : upd H2 l (.lst ((refs gs).set j v)) l = some (.lst ((refs gs).set j v)) := upd_same
    refine q _ _ (same_upd e02 hl _) ?_ (.lst dl (ok_set ov) (by rw [List.length_set, refs_len]; omega)) (fun l' e => by cases e; exact hl)
    have dl' := dl
    rw [es] at dl' ⊢
    refine .at (SqL.of dl') (fun g hg => ((at_ g (List.mem_of_mem_take hg)).same e02).upd d2) (lo.take j) (by rw [← es, List.length_set, refs_len]; omega) (lotV_upd lv d2)
  refine ⟨by decide, ?_⟩
  by_cases w4 : c % 9 < 4
  · rw [if_pos w4]
    refine ⟨_, S1.seq L, _, refs_ix hg, g, _, _, rfl, ga.same S1, G, fun v H2 e2 bv => ?_⟩
    exact ⟨_, e2 _ _ d1, j, ixN_nat (by rw [refs_len]; exact hjl), fin v H2 e2 (bv _)⟩
  rw [if_neg w4]
  refine ⟨_, S1.seq L, _, refs_ix hg, _, S1.seq L, _, refs_ix hg, _, rfl, _, Same.tup S1 ga.tq, _, rfl, ?_⟩
  refine ⟨_, rfl, ⟨_, SqT.of (S1 _ _ ga.ti)⟩, fun D hD => ?_⟩
  have iin : ∀ i ∈ g.is, 0 ≤ i ∧ i < (j : Int) := fun i hi => by
    have := G.iin i hi
    rw [lt] at this
    exact this
  obtain ⟨Pc, hC⟩ : ∃ Pc : Nat → St → Hp → Prop, Pc = fun i τ H' => ∃ z, H' D = some (.lst (((g.is.map (prAt gs)).take i).map V.int)) ∧ Same H1 H' ∧ τ = [some (.ref a), z] := ⟨_, rfl⟩
  refine compS_tup (g.is.map V.int) Pc ?_ (fun i τ H' _ h => by rw [hC] at h; obtain ⟨z, _, e, _⟩ := h; exact SqT.of (e _ _ (S1 _ _ ga.ti))) ?_ ?_
  · rw [hC]
    exact ⟨_, upd_same, same_new hD _, rfl⟩
  · intro i x τ H' R hx h next
    rw [hC] at h
    obtain ⟨z, c1, c2, rfl⟩ := h
    rw [List.getElem?_map] at hx
    obtain ⟨o, ho, rfl⟩ := Option.map_eq_some_iff.mp hx
    have li := (List.getElem?_eq_some_iff.mp ho).1
    have il := G.il
    have oi := iin o (List.mem_of_getElem? ho)
    obtain ⟨k, hk⟩ : ∃ k : Nat, o = (k : Int) := ⟨o.toNat, by omega⟩
    subst hk
    obtain ⟨g', hg'⟩ : ∃ g', gs[k]? = some g' := ⟨_, List.getElem?_eq_getElem (show k < gs.length by omega)⟩
    have ga' := (at_ g' (List.mem_of_getElem? hg')).same (S1.trans c2)
    have ep : prAt gs (k : Int) = g'.pr := by
      unfold prAt
      rw [Int.toNat_natCast, hg']
      rfl
    simp only [tTurn, rTurnT, tTryS, rCountT, rPop, rRep, tCont, iZipT, tChain3, tFld, sFld, tMake, tMake0, tMethD, tBM0, rUpper, tDict1T, tTryN, rSlS, rMulS, rCatS, iZipL, rInsert, rReverse, tDNewX, tTry, tRaise, iEnumL, iEnumT, iZip, iSeq, iOr, rIx, iStr, rLeS, rJoin, rSlTA, tComp_eq, tComp1, slots, Option.getD_some, Option.getD_none, tYes, tSeq, tAsg, gName, tOp, tUn, tC, tVar, tCB, tCons, tNil, tCall, rI, rI0, rU, tRet, tRetN, tIfS, tTest, tB, tAnd, tOr, tNot, tAndV, tOrV, tNotV, tIf, tChain, tMenu, tPar, tDrop, tTup, tLst, tNext, tSl, tPart, tNoPart, tNever, gTup, gCons, gNil, gSub, rSetL, tBM, rAppend, rEq, rNe, rIsi, rIxL, rIxT, rIxS, rSlL, isi_non_bl, isi_non_int, isi_non_str, isi_non_lst, isi_non_tup, isi_bl_bl, isi_bl_int, isi_bl_str, isi_bl_lst, isi_bl_tup, isi_int_bl, isi_int_int, isi_int_str, isi_int_lst, isi_int_tup, isi_str_bl, isi_str_int, isi_str_str, isi_str_lst, isi_str_tup, isi_lst_bl, isi_lst_int, isi_lst_str, isi_lst_lst, isi_lst_tup, isi_tup_bl, isi_tup_int, isi_tup_str, isi_tup_lst, isi_tup_tup, isi_dct_bl, isi_dct_int, isi_dct_str, isi_dct_lst, isi_dct_tup, Kd_non, Kd_bl, Kd_int, Kd_str, sc_non_non, sc_non_int, sc_int_non, sc_non_bl, sc_bl_non, sc_non_str, sc_str_non, sc_int_int, sc_bl_bl, sc_str_str, sc_int_str, sc_str_int, sc_bl_str, sc_str_bl, decide_true, decide_false, tFor_eq, iList, iTup, iRng1, iRng2, iRng3, rIndexT, tBM0, tBMT, tyK_int, tyK_bool, tyK_str, tyK_list, tyK_tuple, L2.start, cxK, Int.reduceToNat, List.map_cons, List.map_nil, List.length_cons, List.length_nil, Nat.reduceAdd, Nat.reduceSub, Nat.zero_add, List.replicate_succ, List.replicate_zero, List.cons_append, List.nil_append, List.append_nil, List.getElem?_cons_zero, List.getElem?_cons_succ, List.set_cons_zero, List.set_cons_succ, Option.some.injEq, V.int.injEq, V.bl.injEq, V.ref.injEq, V.str.injEq, V.ty.injEq, List.cons.injEq, exists_eq_left', exists_eq_left, exists_eq_right, exists_and_left, exists_and_right, and_true, true_and, and_assoc, exists_const, decide_eq_true_eq, Bool.not_eq_true', Bool.not_true, Bool.not_false, Bool.not_not, decide_eq_false_iff_not, ite_not, Bool.false_eq_true, if_true, if_false, reduceCtorEq, and_false, false_and, exists_false, or_false, false_or, ↓reduceIte, eq_self, reduceIte]
    refine ⟨_, (S1.trans c2).seq L, _, refs_ix hg', _, rfl, _, ga'.tq, _, rfl, _, c1, by rw [List.length_map, List.length_take, List.length_map]; exact Nat.lt_of_lt_of_le (m := 64) (by omega) (by decide), next _ _ ?_⟩
    rw [hC]
    refine ⟨_, ?_, same_upd c2 hD _, rfl⟩
    rw [upd_same, List.take_add_one, List.getElem?_map, ho, List.map_append]
    show _ = some (HO.lst (_ ++ [V.int (prAt gs (k : Int))]))
    rw [ep]
  · intro τ H' h
    rw [hC] at h
    obtain ⟨z, c1, c2, rfl⟩ := h
    rw [List.length_map, List.take_of_length_le (by rw [List.length_map]; exact Nat.le_refl _)] at c1
    have ev : [V.ref g.q, V.int (j : Int), V.int (g.is.map (prAt gs)).sum, V.int rs] = [V.ref g.q, V.int ((gs.take j).length : Int), V.int (sumP (gs.take j) g.is), V.int rs] := by
      rw [lt, sumP_take iin]
      rfl
    refine ⟨_, rfl, _, SqL.of c1, g, rs, gs.take j, ev, (ga.same S1).same c2, G, by omega, fun v H2 e2 lv => ?_⟩
    exact ⟨_, e2 _ _ (c2 _ _ d1), j, ixN_nat (by rw [refs_len]; exact hjl), fin v H2 (c2.trans e2) lv⟩
end

def spRefused (K : PySem.W.Frag) : Sp := fun vs H Q _ => ∃ v, vs = [v] ∧ BadR K H v ∧ ∀ H', Same H H' → Q (.bl true) H'
def spSame (K : PySem.W.Frag) : Sp := fun vs H Q _ => ∃ (a b : Addr) (gs : List Lt), vs = [.ref a, .ref b] ∧ SqL K H a (refs gs) ∧ SqL K H b (refs gs) ∧ (∀ g ∈ gs, LtAt K H g) ∧ Q (.bl true) H
section
variable {P : Program} {w : World} {K : PySem.W.Frag} {mg : Str → Option Value} {base : Heap} {f : Addr} {fd : FuncData}
theorem ok_law_refused {c_NoLot c_TariffError c_NoRule c_NoNumber c_NoEntry c_NoDeed : Addr} (F : Fun K "_law_refused" "_law_refused" s_law_refused f fd) (M : Mg mg) (C_lots_of : Cal P w K mg base (CXE P w) "lots_of" 5 ["rows"] (spLotsOf K c_NoLot))
    (A_NoLot : mg "NoLot" = some (.ref c_NoLot)) (A_NoRule : mg "NoRule" = some (.ref c_NoRule)) (A_NoNumber : mg "NoNumber" = some (.ref c_NoNumber)) (A_NoEntry : mg "NoEntry" = some (.ref c_NoEntry)) (A_NoDeed : mg "NoDeed" = some (.ref c_NoDeed))
    (X_TariffError : XCatch K mg "TariffError" c_TariffError) (K_N : XCls K c_NoLot) (sub : PySem.W.subIn K (.ref c_NoLot) (.ref c_TariffError) = some true) (f1 : PySem.W.kitOne K (.ref c_NoLot) (.ref c_NoRule) = some false) (f2 : PySem.W.kitOne K (.ref c_NoLot) (.ref c_NoNumber) = some false)
    (f3 : PySem.W.kitOne K (.ref c_NoLot) (.ref c_NoEntry) = some false) (f4 : PySem.W.kitOne K (.ref c_NoLot) (.ref c_NoDeed) = some false) (t1 : PySem.W.kitOne K (.ref c_NoLot) (.ref c_NoLot) = some true) (t2 : PySem.W.kitOne K (.ref c_NoLot) (.type "ValueError") = some true) :
    FnOk P w K mg base CX0 6 f fd ["_law_rows"] (spRefused K) := by
  refine F.ok sc_law_refused (fun vs H Q E h => ?_) (fun cdv A outer s H vs Q E hr h => ?_)
  · obtain ⟨v, rfl, _⟩ := h
    rfl
  obtain ⟨v, rfl, B, q⟩ := h
  refine ⟨_, (@pss_cons _ _ _ _ _ (@ps_try _ _ _ _ _ _ 1 _ _ _ _ _ _ _ _ _ _ _ _ _ _ _ rfl rfl rfl rfl C_lots_of hr g_law_refused_lots_of (@pa_cons _ _ _ _ _ (@pe_var _ 0 _ _ rfl v_law_refused_0 dn__law_rows dc__law_rows) (@pa_nil _) (star1 rfl)) g_law_refused_TariffError X_TariffError sc_law_refused.nd rfl rfl rfl (fun _ => (@pss_cons _ _ _ _ _ (@ps_if _ _ _ _ _ _ _ _ (@PW.pt _ _ _ (@pw_or _ _ _ _ _ _ _ (@pt_val _ _ _ (@pe_callB _ _ _ _ _ _ _ _ _ (call_isiX (K := K) rfl) g_law_refused_isinstance M.m_isinstance b_isinstance (@pa_cons _ _ _ _ _ (@pe_var _ 1 _ _ rfl v_law_refused_1 dn_e dc_e) (@pa_cons _ _ _ _ _ (@pe_glob _ _ _ _ _ g_law_refused_NoRule A_NoRule (show RelV (.ref c_NoRule) _ from rfl) dn_NoRule) (@pa_nil _) (star1 rfl)) (star1 rfl)) nn_isinstance dn_isinstance (star1 rfl) (nost1 rfl nost0)) (test1 rfl)) (@pw_or _ _ _ _ _ _ _ (@pt_val _ _ _ (@pe_callB _ _ _ _ _ _ _ _ _ (call_isiX (K := K) rfl) g_law_refused_isinstance M.m_isinstance b_isinstance (@pa_cons _ _ _ _ _ (@pe_var _ 1 _ _ rfl v_law_refused_1 dn_e dc_e) (@pa_cons _ _ _ _ _ (@pe_glob _ _ _ _ _ g_law_refused_NoNumber A_NoNumber (show RelV (.ref c_NoNumber) _ from rfl) dn_NoNumber) (@pa_nil _) (star1 rfl)) (star1 rfl)) nn_isinstance dn_isinstance (star1 rfl) (nost1 rfl nost0)) (test1 rfl)) (@pw_or _ _ _ _ _ _ _ (@pt_val _ _ _ (@pe_callB _ _ _ _ _ _ _ _ _ (call_isiX (K := K) rfl) g_law_refused_isinstance M.m_isinstance b_isinstance (@pa_cons _ _ _ _ _ (@pe_var _ 1 _ _ rfl v_law_refused_1 dn_e dc_e) (@pa_cons _ _ _ _ _ (@pe_glob _ _ _ _ _ g_law_refused_NoEntry A_NoEntry (show RelV (.ref c_NoEntry) _ from rfl) dn_NoEntry) (@pa_nil _) (star1 rfl)) (star1 rfl)) nn_isinstance dn_isinstance (star1 rfl) (nost1 rfl nost0)) (test1 rfl)) (@pw_or1 _ _ _ _ (@pt_val _ _ _ (@pe_callB _ _ _ _ _ _ _ _ _ (call_isiX (K := K) rfl) g_law_refused_isinstance M.m_isinstance b_isinstance (@pa_cons _ _ _ _ _ (@pe_var _ 1 _ _ rfl v_law_refused_1 dn_e dc_e) (@pa_cons _ _ _ _ _ (@pe_glob _ _ _ _ _ g_law_refused_NoDeed A_NoDeed (show RelV (.ref c_NoDeed) _ from rfl) dn_NoDeed) (@pa_nil _) (star1 rfl)) (star1 rfl)) nn_isinstance dn_isinstance (star1 rfl) (nost1 rfl nost0)) (test1 rfl))))))) (@pss_one _ _ _ (@ps_ret _ _ _ _ (@pe_bl _ _ _ _))) (@pss_nil _)) (@pss_one _ _ _ (@ps_ret _ _ _ _ (@pe_and _ _ _ _ _ _ _ (@pe_callB _ _ _ _ _ _ _ _ _ (call_isiX (K := K) rfl) g_law_refused_isinstance M.m_isinstance b_isinstance (@pa_cons _ _ _ _ _ (@pe_var _ 1 _ _ rfl v_law_refused_1 dn_e dc_e) (@pa_cons _ _ _ _ _ (@pe_glob _ _ _ _ _ g_law_refused_NoLot A_NoLot (show RelV (.ref c_NoLot) _ from rfl) dn_NoLot) (@pa_nil _) (star1 rfl)) (star1 rfl)) nn_isinstance dn_isinstance (star1 rfl) (nost1 rfl nost0)) (@pe_one _ _ _ _ _ (@pe_callB _ _ _ _ _ _ _ _ _ (call_isiX (K := K) rfl) g_law_refused_isinstance M.m_isinstance b_isinstance (@pa_cons _ _ _ _ _ (@pe_var _ 1 _ _ rfl v_law_refused_1 dn_e dc_e) (@pa_cons _ _ _ _ _ (@pe_bltn _ _ (.ty "ValueError") _ _ g_law_refused_ValueError M.m_ValueError b_ValueError rfl nn_ValueError dn_ValueError) (@pa_nil _) (star1 rfl)) (star1 rfl)) nn_isinstance dn_isinstance (star1 rfl) (nost1 rfl nost0)))))))) (by decide) dn_lots_of dn_TariffError (star1 rfl) nost0 (swap1 rfl)) (@pss_one _ _ _ (@ps_ret _ _ _ _ (@pe_bl _ _ _ _)))), ?_⟩
  simp only [tTurn, rTurnT, tTryS, rCountT, rPop, rRep, tCont, iZipT, tChain3, tFld, sFld, tMake, tMake0, tMethD, tBM0, rUpper, tDict1T, tTryN, rSlS, rMulS, rCatS, iZipL, rInsert, rReverse, tDNewX, tTry, tRaise, iEnumL, iEnumT, iZip, iSeq, iOr, rIx, iStr, rLeS, rJoin, rSlTA, tComp_eq, tComp1, slots, Option.getD_some, Option.getD_none, tYes, tSeq, tAsg, gName, tOp, tUn, tC, tVar, tCB, tCons, tNil, tCall, rI, rI0, rU, tRet, tRetN, tIfS, tTest, tB, tAnd, tOr, tNot, tAndV, tOrV, tNotV, tIf, tChain, tMenu, tPar, tDrop, tTup, tLst, tNext, tSl, tPart, tNoPart, tNever, gTup, gCons, gNil, gSub, rSetL, tBM, rAppend, rEq, rNe, rIsi, rIxL, rIxT, rIxS, rSlL, isi_non_bl, isi_non_int, isi_non_str, isi_non_lst, isi_non_tup, isi_bl_bl, isi_bl_int, isi_bl_str, isi_bl_lst, isi_bl_tup, isi_int_bl, isi_int_int, isi_int_str, isi_int_lst, isi_int_tup, isi_str_bl, isi_str_int, isi_str_str, isi_str_lst, isi_str_tup, isi_lst_bl, isi_lst_int, isi_lst_str, isi_lst_lst, isi_lst_tup, isi_tup_bl, isi_tup_int, isi_tup_str, isi_tup_lst, isi_tup_tup, isi_dct_bl, isi_dct_int, isi_dct_str, isi_dct_lst, isi_dct_tup, Kd_non, Kd_bl, Kd_int, Kd_str, sc_non_non, sc_non_int, sc_int_non, sc_non_bl, sc_bl_non, sc_non_str, sc_str_non, sc_int_int, sc_bl_bl, sc_str_str, sc_int_str, sc_str_int, sc_bl_str, sc_str_bl, decide_true, decide_false, tFor_eq, iList, iTup, iRng1, iRng2, iRng3, rIndexT, tBM0, tBMT, tyK_int, tyK_bool, tyK_str, tyK_list, tyK_tuple, L2.start, cxK, Int.reduceToNat, List.map_cons, List.map_nil, List.length_cons, List.length_nil, Nat.reduceAdd, Nat.reduceSub, Nat.zero_add, List.replicate_succ, List.replicate_zero, List.cons_append, List.nil_append, List.append_nil, List.getElem?_cons_zero, List.getElem?_cons_succ, List.set_cons_zero, List.set_cons_succ, Option.some.injEq, V.int.injEq, V.bl.injEq, V.ref.injEq, V.str.injEq, V.ty.injEq, List.cons.injEq, exists_eq_left', exists_eq_left, exists_eq_right, exists_and_left, exists_and_right, and_true, true_and, and_assoc, exists_const, decide_eq_true_eq, Bool.not_eq_true', Bool.not_true, Bool.not_false, Bool.not_not, decide_eq_false_iff_not, ite_not, Bool.false_eq_true, if_true, if_false, reduceCtorEq, and_false, false_and, exists_false, or_false, false_or, ↓reduceIte, eq_self, reduceIte]
  refine .inl ⟨_, rfl, B, fun H' e => ⟨_, rfl, sub, fun a ha => ?_⟩⟩
  have hx : upd H' a (excO a c_NoLot) a = some (excO a c_NoLot) := upd_same
  refine isiX_one hx K_N f1 ⟨_, rfl, ?_⟩
  rw [if_neg (by decide)]
  refine isiX_one hx K_N f2 ⟨_, rfl, ?_⟩
  rw [if_neg (by decide)]
  refine isiX_one hx K_N f3 ⟨_, rfl, ?_⟩
  rw [if_neg (by decide)]
  refine isiX_one hx K_N f4 ⟨_, rfl, ?_⟩
  rw [if_neg (by decide)]
  refine isiX_one hx K_N t1 ?_
  simp only [tTurn, rTurnT, tTryS, rCountT, rPop, rRep, tCont, iZipT, tChain3, tFld, sFld, tMake, tMake0, tMethD, tBM0, rUpper, tDict1T, tTryN, rSlS, rMulS, rCatS, iZipL, rInsert, rReverse, tDNewX, tTry, tRaise, iEnumL, iEnumT, iZip, iSeq, iOr, rIx, iStr, rLeS, rJoin, rSlTA, tComp_eq, tComp1, slots, Option.getD_some, Option.getD_none, tYes, tSeq, tAsg, gName, tOp, tUn, tC, tVar, tCB, tCons, tNil, tCall, rI, rI0, rU, tRet, tRetN, tIfS, tTest, tB, tAnd, tOr, tNot, tAndV, tOrV, tNotV, tIf, tChain, tMenu, tPar, tDrop, tTup, tLst, tNext, tSl, tPart, tNoPart, tNever, gTup, gCons, gNil, gSub, rSetL, tBM, rAppend, rEq, rNe, rIsi, rIxL, rIxT, rIxS, rSlL, isi_non_bl, isi_non_int, isi_non_str, isi_non_lst, isi_non_tup, isi_bl_bl, isi_bl_int, isi_bl_str, isi_bl_lst, isi_bl_tup, isi_int_bl, isi_int_int, isi_int_str, isi_int_lst, isi_int_tup, isi_str_bl, isi_str_int, isi_str_str, isi_str_lst, isi_str_tup, isi_lst_bl, isi_lst_int, isi_lst_str, isi_lst_lst, isi_lst_tup, isi_tup_bl, isi_tup_int, isi_tup_str, isi_tup_lst, isi_tup_tup, isi_dct_bl, isi_dct_int, isi_dct_str, isi_dct_lst, isi_dct_tup, Kd_non, Kd_bl, Kd_int, Kd_str, sc_non_non, sc_non_int, sc_int_non, sc_non_bl, sc_bl_non, sc_non_str, sc_str_non, sc_int_int, sc_bl_bl, sc_str_str, sc_int_str, sc_str_int, sc_bl_str, sc_str_bl, decide_true, decide_false, tFor_eq, iList, iTup, iRng1, iRng2, iRng3, rIndexT, tBM0, tBMT, tyK_int, tyK_bool, tyK_str, tyK_list, tyK_tuple, L2.start, cxK, Int.reduceToNat, List.map_cons, List.map_nil, List.length_cons, List.length_nil, Nat.reduceAdd, Nat.reduceSub, Nat.zero_add, List.replicate_succ, List.replicate_zero, List.cons_append, List.nil_append, List.append_nil, List.getElem?_cons_zero, List.getElem?_cons_succ, List.set_cons_zero, List.set_cons_succ, Option.some.injEq, V.int.injEq, V.bl.injEq, V.ref.injEq, V.str.injEq, V.ty.injEq, List.cons.injEq, exists_eq_left', exists_eq_left, exists_eq_right, exists_and_left, exists_and_right, and_true, true_and, and_assoc, exists_const, decide_eq_true_eq, Bool.not_eq_true', Bool.not_true, Bool.not_false, Bool.not_not, decide_eq_false_iff_not, ite_not, Bool.false_eq_true, if_true, if_false, reduceCtorEq, and_false, false_and, exists_false, or_false, false_or, ↓reduceIte, eq_self, reduceIte]
  exact isiX_ty hx K_N t2 (q _ (e.trans (same_new ha _)))
theorem ok_law_same (F : Fun K "_law_same" "_law_same" s_law_same f fd) (M : Mg mg) (C_law_whole : Cal P w K mg base CX0 "_law_whole" 1 ["_law_thing"] spWholeV) : FnOk P w K mg base CX0 2 f fd ["_law_found", "_law_lots_here"] (spSame K) := by
  refine F.ok sc_law_same (fun vs H Q E h => ?_) (fun cdv A outer s H vs Q E hr h => ?_)
  · obtain ⟨a, b, gs, rfl, _⟩ := h
    rfl
  obtain ⟨a, b, gs, rfl, ha, hb, ga, q⟩ := h
  refine ⟨_, (@pss_cons _ _ _ _ _ (@ps_if _ _ _ _ _ _ _ _ (@PW.pt _ _ _ (@pw_or _ _ _ _ _ _ _ (@pt_not _ _ _ _ (@pt_val _ _ _ (@pe_callB _ _ _ _ _ _ _ _ _ call_isi g_law_same_isinstance M.m_isinstance b_isinstance (@pa_cons _ _ _ _ _ (@pe_var _ 0 _ _ rfl v_law_same_0 dn__law_found dc__law_found) (@pa_cons _ _ _ _ _ (@pe_bltn _ _ (.ty "list") _ _ g_law_same_list M.m_list b_list rfl nn_list dn_list) (@pa_nil _) (star1 rfl)) (star1 rfl)) nn_isinstance dn_isinstance (star1 rfl) (nost1 rfl nost0)) (test1 rfl))) (@pw_or1 _ _ _ _ (@pt_cmpR _ _ _ _ _ _ _ _ (@op_neS _ (Nat.lt_of_succ_lt (hu_of hr))) (@pe_var _ 0 _ _ rfl v_law_same_0 dn__law_found dc__law_found) (@pe_var _ 1 _ _ rfl v_law_same_1 dn__law_lots_here dc__law_lots_here) (nomark _))))) (@pss_one _ _ _ (@ps_ret _ _ _ _ (@pe_bl _ _ _ _))) (@pss_nil _)) (@pss_cons _ _ _ _ _ (@ps_for _ _ _ _ _ _ _ _ PassesOwn.never rfl (@pi_list _ _ _ _ (@pe_var _ 0 _ _ rfl v_law_same_0 dn__law_found dc__law_found)) (@pg_name _ _ 2 _ sc_law_same.nd rfl l_law_same_2 (.inl rfl)) (@pss_one _ _ _ (@ps_if _ _ _ _ _ _ _ _ (@pt_not _ _ _ _ (@pt_val _ _ _ (@pe_callC _ _ _ _ _ _ _ _ _ _ _ C_law_whole hr g_law_same__law_whole (@pa_cons _ _ _ _ _ (@pe_ix _ _ _ _ _ _ _ (@ix_tup _) (@pe_var _ 2 _ _ rfl v_law_same_2 dn__law_row dc__law_row) (@pe_int _ _ _ _) (fun _ _ => rfl)) (@pa_nil _) (star1 rfl)) (by decide) dn__law_whole (star1 rfl) nost0) (test1 rfl))) (@pss_one _ _ _ (@ps_ret _ _ _ _ (@pe_bl _ _ _ _))) (@pss_nil _))) (by intro _; rfl)) (@pss_one _ _ _ (@ps_ret _ _ _ _ (@pe_bl _ _ _ _))))), ?_⟩
  simp only [tTurn, rTurnT, tTryS, rCountT, rPop, rRep, tCont, iZipT, tChain3, tFld, sFld, tMake, tMake0, tMethD, tBM0, rUpper, tDict1T, tTryN, rSlS, rMulS, rCatS, iZipL, rInsert, rReverse, tDNewX, tTry, tRaise, iEnumL, iEnumT, iZip, iSeq, iOr, rIx, iStr, rLeS, rJoin, rSlTA, tComp_eq, tComp1, slots, Option.getD_some, Option.getD_none, tYes, tSeq, tAsg, gName, tOp, tUn, tC, tVar, tCB, tCons, tNil, tCall, rI, rI0, rU, tRet, tRetN, tIfS, tTest, tB, tAnd, tOr, tNot, tAndV, tOrV, tNotV, tIf, tChain, tMenu, tPar, tDrop, tTup, tLst, tNext, tSl, tPart, tNoPart, tNever, gTup, gCons, gNil, gSub, rSetL, tBM, rAppend, rEq, rNe, rIsi, rIxL, rIxT, rIxS, rSlL, isi_non_bl, isi_non_int, isi_non_str, isi_non_lst, isi_non_tup, isi_bl_bl, isi_bl_int, isi_bl_str, isi_bl_lst, isi_bl_tup, isi_int_bl, isi_int_int, isi_int_str, isi_int_lst, isi_int_tup, isi_str_bl, isi_str_int, isi_str_str, isi_str_lst, isi_str_tup, isi_lst_bl, isi_lst_int, isi_lst_str, isi_lst_lst, isi_lst_tup, isi_tup_bl, isi_tup_int, isi_tup_str, isi_tup_lst, isi_tup_tup, isi_dct_bl, isi_dct_int, isi_dct_str, isi_dct_lst, isi_dct_tup, Kd_non, Kd_bl, Kd_int, Kd_str, sc_non_non, sc_non_int, sc_int_non, sc_non_bl, sc_bl_non, sc_non_str, sc_str_non, sc_int_int, sc_bl_bl, sc_str_str, sc_int_str, sc_str_int, sc_bl_str, sc_str_bl, decide_true, decide_false, tFor_eq, iList, iTup, iRng1, iRng2, iRng3, rIndexT, tBM0, tBMT, tyK_int, tyK_bool, tyK_str, tyK_list, tyK_tuple, L2.start, cxK, Int.reduceToNat, List.map_cons, List.map_nil, List.length_cons, List.length_nil, Nat.reduceAdd, Nat.reduceSub, Nat.zero_add, List.replicate_succ, List.replicate_zero, List.cons_append, List.nil_append, List.append_nil, List.getElem?_cons_zero, List.getElem?_cons_succ, List.set_cons_zero, List.set_cons_succ, Option.some.injEq, V.int.injEq, V.bl.injEq, V.ref.injEq, V.str.injEq, V.ty.injEq, List.cons.injEq, exists_eq_left', exists_eq_left, exists_eq_right, exists_and_left, exists_and_right, and_true, true_and, and_assoc, exists_const, decide_eq_true_eq, Bool.not_eq_true', Bool.not_true, Bool.not_false, Bool.not_not, decide_eq_false_iff_not, ite_not, Bool.false_eq_true, if_true, if_false, reduceCtorEq, and_false, false_and, exists_false, or_false, false_or, ↓reduceIte, eq_self, reduceIte]
  refine ⟨_, Kd.lst ha, ?_⟩
  rw [if_neg (by decide)]
  refine rEqS_same (.inl ⟨ha, hb⟩) (refs_ok gs) ⟨_, rfl, ?_⟩
  rw [if_neg (by decide)]
  refine ⟨⟨_, ha⟩, ?_⟩
  obtain ⟨Pv, hP⟩ : ∃ Pv : Nat → St → Hp → Prop, Pv = fun i σ H' => ∃ z, H' = H ∧ σ = [some (.ref a), some (.ref b), z] := ⟨_, rfl⟩
  refine forW_list (refs gs) Pv ?_ (fun i σ H' _ h => by rw [hP] at h; obtain ⟨_, rfl, _⟩ := h; exact ha) ?_ ?_
  · rw [hP]
    exact ⟨_, rfl, rfl⟩
  · intro i x σ H' hx h
    rw [hP] at h
    obtain ⟨z, rfl, rfl⟩ := h
    obtain ⟨g, hg, rfl⟩ := refs_at hx
    have gg := ga g (List.mem_of_getElem? hg)
    simp only [tTurn, rTurnT, tTryS, rCountT, rPop, rRep, tCont, iZipT, tChain3, tFld, sFld, tMake, tMake0, tMethD, tBM0, rUpper, tDict1T, tTryN, rSlS, rMulS, rCatS, iZipL, rInsert, rReverse, tDNewX, tTry, tRaise, iEnumL, iEnumT, iZip, iSeq, iOr, rIx, iStr, rLeS, rJoin, rSlTA, tComp_eq, tComp1, slots, Option.getD_some, Option.getD_none, tYes, tSeq, tAsg, gName, tOp, tUn, tC, tVar, tCB, tCons, tNil, tCall, rI, rI0, rU, tRet, tRetN, tIfS, tTest, tB, tAnd, tOr, tNot, tAndV, tOrV, tNotV, tIf, tChain, tMenu, tPar, tDrop, tTup, tLst, tNext, tSl, tPart, tNoPart, tNever, gTup, gCons, gNil, gSub, rSetL, tBM, rAppend, rEq, rNe, rIsi, rIxL, rIxT, rIxS, rSlL, isi_non_bl, isi_non_int, isi_non_str, isi_non_lst, isi_non_tup, isi_bl_bl, isi_bl_int, isi_bl_str, isi_bl_lst, isi_bl_tup, isi_int_bl, isi_int_int, isi_int_str, isi_int_lst, isi_int_tup, isi_str_bl, isi_str_int, isi_str_str, isi_str_lst, isi_str_tup, isi_lst_bl, isi_lst_int, isi_lst_str, isi_lst_lst, isi_lst_tup, isi_tup_bl, isi_tup_int, isi_tup_str, isi_tup_lst, isi_tup_tup, isi_dct_bl, isi_dct_int, isi_dct_str, isi_dct_lst, isi_dct_tup, Kd_non, Kd_bl, Kd_int, Kd_str, sc_non_non, sc_non_int, sc_int_non, sc_non_bl, sc_bl_non, sc_non_str, sc_str_non, sc_int_int, sc_bl_bl, sc_str_str, sc_int_str, sc_str_int, sc_bl_str, sc_str_bl, decide_true, decide_false, tFor_eq, iList, iTup, iRng1, iRng2, iRng3, rIndexT, tBM0, tBMT, tyK_int, tyK_bool, tyK_str, tyK_list, tyK_tuple, L2.start, cxK, Int.reduceToNat, List.map_cons, List.map_nil, List.length_cons, List.length_nil, Nat.reduceAdd, Nat.reduceSub, Nat.zero_add, List.replicate_succ, List.replicate_zero, List.cons_append, List.nil_append, List.append_nil, List.getElem?_cons_zero, List.getElem?_cons_succ, List.set_cons_zero, List.set_cons_succ, Option.some.injEq, V.int.injEq, V.bl.injEq, V.ref.injEq, V.str.injEq, V.ty.injEq, List.cons.injEq, exists_eq_left', exists_eq_left, exists_eq_right, exists_and_left, exists_and_right, and_true, true_and, and_assoc, exists_const, decide_eq_true_eq, Bool.not_eq_true', Bool.not_true, Bool.not_false, Bool.not_not, decide_eq_false_iff_not, ite_not, Bool.false_eq_true, if_true, if_false, reduceCtorEq, and_false, false_and, exists_false, or_false, false_or, ↓reduceIte, eq_self, reduceIte]
    refine ⟨_, gg.tq, _, rfl, _, rfl, _, rfl, ?_⟩
    rw [if_neg (by decide), hP]
    exact ⟨_, rfl, rfl⟩
  · intro σ H' h
    rw [hP] at h
    obtain ⟨z, rfl, rfl⟩ := h
    simp only [tTurn, rTurnT, tTryS, rCountT, rPop, rRep, tCont, iZipT, tChain3, tFld, sFld, tMake, tMake0, tMethD, tBM0, rUpper, tDict1T, tTryN, rSlS, rMulS, rCatS, iZipL, rInsert, rReverse, tDNewX, tTry, tRaise, iEnumL, iEnumT, iZip, iSeq, iOr, rIx, iStr, rLeS, rJoin, rSlTA, tComp_eq, tComp1, slots, Option.getD_some, Option.getD_none, tYes, tSeq, tAsg, gName, tOp, tUn, tC, tVar, tCB, tCons, tNil, tCall, rI, rI0, rU, tRet, tRetN, tIfS, tTest, tB, tAnd, tOr, tNot, tAndV, tOrV, tNotV, tIf, tChain, tMenu, tPar, tDrop, tTup, tLst, tNext, tSl, tPart, tNoPart, tNever, gTup, gCons, gNil, gSub, rSetL, tBM, rAppend, rEq, rNe, rIsi, rIxL, rIxT, rIxS, rSlL, isi_non_bl, isi_non_int, isi_non_str, isi_non_lst, isi_non_tup, isi_bl_bl, isi_bl_int, isi_bl_str, isi_bl_lst, isi_bl_tup, isi_int_bl, isi_int_int, isi_int_str, isi_int_lst, isi_int_tup, isi_str_bl, isi_str_int, isi_str_str, isi_str_lst, isi_str_tup, isi_lst_bl, isi_lst_int, isi_lst_str, isi_lst_lst, isi_lst_tup, isi_tup_bl, isi_tup_int, isi_tup_str, isi_tup_lst, isi_tup_tup, isi_dct_bl, isi_dct_int, isi_dct_str, isi_dct_lst, isi_dct_tup, Kd_non, Kd_bl, Kd_int, Kd_str, sc_non_non, sc_non_int, sc_int_non, sc_non_bl, sc_bl_non, sc_non_str, sc_str_non, sc_int_int, sc_bl_bl, sc_str_str, sc_int_str, sc_str_int, sc_bl_str, sc_str_bl, decide_true, decide_false, tFor_eq, iList, iTup, iRng1, iRng2, iRng3, rIndexT, tBM0, tBMT, tyK_int, tyK_bool, tyK_str, tyK_list, tyK_tuple, L2.start, cxK, Int.reduceToNat, List.map_cons, List.map_nil, List.length_cons, List.length_nil, Nat.reduceAdd, Nat.reduceSub, Nat.zero_add, List.replicate_succ, List.replicate_zero, List.cons_append, List.nil_append, List.append_nil, List.getElem?_cons_zero, List.getElem?_cons_succ, List.set_cons_zero, List.set_cons_succ, Option.some.injEq, V.int.injEq, V.bl.injEq, V.ref.injEq, V.str.injEq, V.ty.injEq, List.cons.injEq, exists_eq_left', exists_eq_left, exists_eq_right, exists_and_left, exists_and_right, and_true, true_and, and_assoc, exists_const, decide_eq_true_eq, Bool.not_eq_true', Bool.not_true, Bool.not_false, Bool.not_not, decide_eq_false_iff_not, ite_not, Bool.false_eq_true, if_true, if_false, reduceCtorEq, and_false, false_and, exists_false, or_false, false_or, ↓reduceIte, eq_self, reduceIte]
    exact q
end

def rNeM (K : PySem.W.Frag) : R2 := fun x y H Q => rEqS K true x y H Q ∨ rNe x y H Q
theorem op_neM {X : Cx} (hu : X.A.units + 1 < cLine) : OpR X (compareOp .NotEq) (rNeM X.K) := (op_neS (Nat.lt_of_succ_lt hu)).or op_ne
theorem badR_upd {K : PySem.W.Frag} {H : Hp} {n : Addr} {xs ys : List V} {v : V} (h : BadR K H v) (d : H n = some (.lst xs)) (ne : ∀ l, v = .ref l → l ≠ n) : BadR K (upd H n (.lst ys)) v := by
  cases h with
  | no a c => exact .no (kd_upd a d) c
  | long a c => exact .long (sql_upd a (ne _ rfl)) c
  | «at» a c e f g => exact .at (sql_upd a (ne _ rfl)) (fun x hx => (c x hx).upd d) e f (lotV_upd g d)
theorem lots_same {g : Lt} (h : GoodL [] g) (gs : List Lt) : GoodL gs g := by
  have e : g.is = [] := by
    cases hi : g.is with
    | nil => rfl
    | cons i is =>
      have := h.iin i (by rw [hi]; exact List.mem_cons_self ..)
      have l0 : (([] : List Lt).length : Int) = 0 := rfl
      omega
  refine ⟨h.name, h.nl1, h.nl4, h.nin, h.p1, h.p2, h.il, fun i hi => ?_, h.nd, ?_⟩
  · rw [e] at hi
    cases hi
  · rw [e]
    have := h.p1
    show (0 : Int) ≤ _
    omega
theorem lots_rep {g : Lt} (h : GoodL [] g) (n : Nat) : Lots (List.replicate n g) := fun i x hx => by
  rw [List.getElem?_replicate] at hx
  split at hx
  · cases hx
    exact lots_same h _
  · cases hx
theorem refs_rep (g : Lt) (n : Nat) : refs (List.replicate n g) = List.replicate n (.ref g.q) := List.map_replicate
theorem neS_of {x : V} {H : Hp} {Q : VK} (h : scal x x = true) (q : Q (.bl false) H) : rNe x x H Q := by
  refine ⟨h, ?_⟩
  rw [decide_eq_true rfl]
  exact q
section
variable {P : Program} {w : World} {K : PySem.W.Frag} {mg : Str → Option Value} {base : Heap} {f : Addr} {fd : FuncData}
theorem ok_law {c_NoLot : Addr} (F : Fun K "law" "law" s_law f fd) (M : Mg mg) (C_lots_of : Cal P w K mg base (CXE P w) "lots_of" 5 ["rows"] (spLotsOf K c_NoLot)) (C_law_cell_at : Cal P w K mg base CX0 "_law_cell_at" 1 ["_law_script", "_law_k"] (spCellX K)) (C_law_lots : Cal P w K mg base CX0 "_law_lots" 4 ["_law_script"] (spLots K))
    (C_law_spoilt : Cal P w K mg base CX0 "_law_spoilt" 2 ["_law_lots_here", "_law_cell"] (spSpoilt K)) (C_law_refused : Cal P w K mg base CX0 "_law_refused" 6 ["_law_rows"] (spRefused K)) (C_law_same : Cal P w K mg base CX0 "_law_same" 2 ["_law_found", "_law_lots_here"] (spSame K)) : FnOk P w K mg base CX0 7 f fd ["_law_script"] (spLaw K) := by
  refine F.ok sc_law (fun vs H Q E h => ?_) (fun cdv A outer s H vs Q E hr h => ?_)
  · obtain ⟨a, ns, rfl, _⟩ := h
    rfl
  obtain ⟨a, ns, rfl, hS, hl, q⟩ := h
  refine ⟨_, (@pss_cons _ _ _ _ _ (@ps_set _ _ 1 _ _ _ _ sc_law.nd rfl l_law_1 (@pe_callC _ _ _ _ _ _ _ _ _ _ _ C_law_lots hr g_law__law_lots (@pa_cons _ _ _ _ _ (@pe_var _ 0 _ _ rfl v_law_0 dn__law_script dc__law_script) (@pa_nil _) (star1 rfl)) (by decide) dn__law_lots (star1 rfl) nost0) (swap1 rfl) (.inl rfl)) (@pss_cons _ _ _ _ _ (@ps_set _ _ 2 _ _ _ _ sc_law.nd rfl l_law_2 (@pe_callTy _ _ _ _ _ _ _ _ _ call_listL g_law_list M.m_list b_list (@pa_cons _ _ _ _ _ (@pe_var _ 1 _ _ rfl v_law_1 dn__law_lots_here dc__law_lots_here) (@pa_nil _) (star1 rfl)) nn_list dn_list (star1 rfl) nost0) (swap1 rfl) (.inl rfl)) (@pss_cons _ _ _ _ _ (@ps_set _ _ 3 _ _ _ _ sc_law.nd rfl l_law_3 (@pe_callN _ _ _ _ _ _ _ _ _ _ _ C_lots_of hr g_law_lots_of (@pa_cons _ _ _ _ _ (@pe_var _ 2 _ _ rfl v_law_2 dn__law_good dc__law_good) (@pa_nil _) (star1 rfl)) (by decide) dn_lots_of (star1 rfl) nost0) (swap1 rfl) (.inl rfl)) (@pss_cons _ _ _ _ _ (@ps_if _ _ _ _ _ _ _ _ (@PW.pt _ _ _ (@pw_or _ _ _ _ _ _ _ (@pt_not _ _ _ _ (@pt_val _ _ _ (@pe_callC _ _ _ _ _ _ _ _ _ _ _ C_law_same hr g_law__law_same (@pa_cons _ _ _ _ _ (@pe_var _ 3 _ _ rfl v_law_3 dn__law_found dc__law_found) (@pa_cons _ _ _ _ _ (@pe_var _ 1 _ _ rfl v_law_1 dn__law_lots_here dc__law_lots_here) (@pa_nil _) (star1 rfl)) (star1 rfl)) (by decide) dn__law_same (star1 rfl) (nost1 rfl nost0)) (test1 rfl))) (@pw_or1 _ _ _ _ (@pt_cmpR _ _ _ _ _ _ _ _ (@op_neS _ (Nat.lt_of_succ_lt (hu_of hr))) (@pe_var _ 2 _ _ rfl v_law_2 dn__law_good dc__law_good) (@pe_var _ 1 _ _ rfl v_law_1 dn__law_lots_here dc__law_lots_here) (nomark _))))) (@pss_one _ _ _ (@ps_ret _ _ _ _ (@pe_bl _ _ _ _))) (@pss_nil _)) (@pss_cons _ _ _ _ _ (@ps_set _ _ 4 _ _ _ _ sc_law.nd rfl l_law_4 (@pe_callC _ _ _ _ _ _ _ _ _ _ _ C_law_spoilt hr g_law__law_spoilt (@pa_cons _ _ _ _ _ (@pe_var _ 1 _ _ rfl v_law_1 dn__law_lots_here dc__law_lots_here) (@pa_cons _ _ _ _ _ (@pe_callC _ _ _ _ _ _ _ _ _ _ _ C_law_cell_at hr g_law__law_cell_at (@pa_cons _ _ _ _ _ (@pe_var _ 0 _ _ rfl v_law_0 dn__law_script dc__law_script) (@pa_cons _ _ _ _ _ (@pe_int _ _ _ _) (@pa_nil _) (star1 rfl)) (star1 rfl)) (by decide) dn__law_cell_at (star1 rfl) (nost1 rfl nost0)) (@pa_nil _) (star1 rfl)) (star1 rfl)) (by decide) dn__law_spoilt (star1 rfl) (nost1 rfl nost0)) (swap1 rfl) (.inl rfl)) (@pss_cons _ _ _ _ _ (@ps_set _ _ 5 _ _ _ _ sc_law.nd rfl l_law_5 (@pe_var _ 4 _ _ rfl v_law_4 dn__law_bad dc__law_bad) (swap1 rfl) (.inl rfl)) (@pss_cons _ _ _ _ _ (@ps_if _ _ _ _ _ _ _ _ (@pt_val _ _ _ (@pe_callB _ _ _ _ _ _ _ _ _ call_isi g_law_isinstance M.m_isinstance b_isinstance (@pa_cons _ _ _ _ _ (@pe_var _ 4 _ _ rfl v_law_4 dn__law_bad dc__law_bad) (@pa_cons _ _ _ _ _ (@pe_bltn _ _ (.ty "list") _ _ g_law_list M.m_list b_list rfl nn_list dn_list) (@pa_nil _) (star1 rfl)) (star1 rfl)) nn_isinstance dn_isinstance (star1 rfl) (nost1 rfl nost0)) (test1 rfl)) (@pss_one _ _ _ (@ps_set _ _ 5 _ _ _ _ sc_law.nd rfl l_law_5 (@pe_callTy _ _ _ _ _ _ _ _ _ call_listL g_law_list M.m_list b_list (@pa_cons _ _ _ _ _ (@pe_var _ 4 _ _ rfl v_law_4 dn__law_bad dc__law_bad) (@pa_nil _) (star1 rfl)) nn_list dn_list (star1 rfl) nost0) (swap1 rfl) (.inl rfl))) (@pss_nil _)) (@pss_cons _ _ _ _ _ (@ps_expr _ _ _ _ (@pe_bm _ _ _ _ _ _ _ _ _ _ _ _ PySem.F.plainAttrs_list PySem.F.slot_list_append PySem.F.type_list_append mt_append (@pe_var _ 3 _ _ rfl v_law_3 dn__law_found dc__law_found) (@pa_cons _ _ _ _ _ (@pe_var _ 4 _ _ rfl v_law_4 dn__law_bad dc__law_bad) (@pa_nil _) (star1 rfl)) (by rfl) (by rfl) (by rfl) (by rfl) (by rfl)) (swap1 rfl)) (@pss_cons _ _ _ _ _ (@ps_set _ _ 6 _ _ _ _ sc_law.nd rfl l_law_6 (@pe_op _ _ _ _ _ _ _ _ op_rep (@pe_lst _ _ _ _ (@pa_cons _ _ _ _ _ (@pe_ix _ _ _ _ _ _ _ (@ix_list _) (@pe_var _ 1 _ _ rfl v_law_1 dn__law_lots_here dc__law_lots_here) (@pe_int _ _ _ _) (fun _ _ => rfl)) (@pa_nil _) (star1 rfl))) (@pe_int _ _ _ _)) (swap1 rfl) (.inl rfl)) (@pss_cons _ _ _ _ _ (@ps_if _ _ _ _ _ _ _ _ (@PW.pt _ _ _ (@pw_or _ _ _ _ _ _ _ (@pt_not _ _ _ _ (@pt_val _ _ _ (@pe_callC _ _ _ _ _ _ _ _ _ _ _ C_law_refused hr g_law__law_refused (@pa_cons _ _ _ _ _ (@pe_var _ 4 _ _ rfl v_law_4 dn__law_bad dc__law_bad) (@pa_nil _) (star1 rfl)) (by decide) dn__law_refused (star1 rfl) nost0) (test1 rfl))) (@pw_or _ _ _ _ _ _ _ (@pt_cmpR _ _ _ _ _ _ _ _ (op_neM (hu_of hr)) (@pe_var _ 4 _ _ rfl v_law_4 dn__law_bad dc__law_bad) (@pe_var _ 5 _ _ rfl v_law_5 dn__law_kept dc__law_kept) (nomark _)) (@pw_or1 _ _ _ _ (@pt_not _ _ _ _ (@pt_val _ _ _ (@pe_callC _ _ _ _ _ _ _ _ _ _ _ C_law_same hr g_law__law_same (@pa_cons _ _ _ _ _ (@pe_callN _ _ _ _ _ _ _ _ _ _ _ C_lots_of hr g_law_lots_of (@pa_cons _ _ _ _ _ (@pe_callTy _ _ _ _ _ _ _ _ _ call_listL g_law_list M.m_list b_list (@pa_cons _ _ _ _ _ (@pe_var _ 6 _ _ rfl v_law_6 dn__law_most dc__law_most) (@pa_nil _) (star1 rfl)) nn_list dn_list (star1 rfl) nost0) (@pa_nil _) (star1 rfl)) (by decide) dn_lots_of (star1 rfl) nost0) (@pa_cons _ _ _ _ _ (@pe_var _ 6 _ _ rfl v_law_6 dn__law_most dc__law_most) (@pa_nil _) (star1 rfl)) (star1 rfl)) (by decide) dn__law_same (star1 rfl) (nost1 rfl nost0)) (test1 rfl))))))) (@pss_one _ _ _ (@ps_ret _ _ _ _ (@pe_bl _ _ _ _))) (@pss_nil _)) (@pss_one _ _ _ (@ps_ret _ _ _ _ (@pe_and _ _ _ _ _ _ _ (@pe_callC _ _ _ _ _ _ _ _ _ _ _ C_law_same hr g_law__law_same (@pa_cons _ _ _ _ _ (@pe_callN _ _ _ _ _ _ _ _ _ _ _ C_lots_of hr g_law_lots_of (@pa_cons _ _ _ _ _ (@pe_var _ 2 _ _ rfl v_law_2 dn__law_good dc__law_good) (@pa_nil _) (star1 rfl)) (by decide) dn_lots_of (star1 rfl) nost0) (@pa_cons _ _ _ _ _ (@pe_var _ 1 _ _ rfl v_law_1 dn__law_lots_here dc__law_lots_here) (@pa_nil _) (star1 rfl)) (star1 rfl)) (by decide) dn__law_same (star1 rfl) (nost1 rfl nost0)) (@pe_and _ _ _ _ _ _ _ (@pe_cmpR _ _ _ _ _ _ _ _ (@op_eqS _ (Nat.lt_of_succ_lt (hu_of hr))) (@pe_var _ 2 _ _ rfl v_law_2 dn__law_good dc__law_good) (@pe_var _ 1 _ _ rfl v_law_1 dn__law_lots_here dc__law_lots_here) (nomark _)) (@pe_one _ _ _ _ _ (@pe_cmpR _ _ _ _ _ _ _ _ (@op_eqS _ (Nat.lt_of_succ_lt (hu_of hr))) (@pe_callN _ _ _ _ _ _ _ _ _ _ _ C_lots_of hr g_law_lots_of (@pa_cons _ _ _ _ _ (@pe_lst _ _ _ _ (@pa_nil _)) (@pa_nil _) (star1 rfl)) (by decide) dn_lots_of (star1 rfl) nost0) (@pe_lst _ _ _ _ (@pa_nil _)) (nomark _))))))))))))))))), ?_⟩
  simp only [tTurn, rTurnT, tTryS, rCountT, rPop, rRep, tCont, iZipT, tChain3, tFld, sFld, tMake, tMake0, tMethD, tBM0, rUpper, tDict1T, tTryN, rSlS, rMulS, rCatS, iZipL, rInsert, rReverse, tDNewX, tTry, tRaise, iEnumL, iEnumT, iZip, iSeq, iOr, rIx, iStr, rLeS, rJoin, rSlTA, tComp_eq, tComp1, slots, Option.getD_some, Option.getD_none, tYes, tSeq, tAsg, gName, tOp, tUn, tC, tVar, tCB, tCons, tNil, tCall, rI, rI0, rU, tRet, tRetN, tIfS, tTest, tB, tAnd, tOr, tNot, tAndV, tOrV, tNotV, tIf, tChain, tMenu, tPar, tDrop, tTup, tLst, tNext, tSl, tPart, tNoPart, tNever, gTup, gCons, gNil, gSub, rSetL, tBM, rAppend, rEq, rNe, rIsi, rIxL, rIxT, rIxS, rSlL, isi_non_bl, isi_non_int, isi_non_str, isi_non_lst, isi_non_tup, isi_bl_bl, isi_bl_int, isi_bl_str, isi_bl_lst, isi_bl_tup, isi_int_bl, isi_int_int, isi_int_str, isi_int_lst, isi_int_tup, isi_str_bl, isi_str_int, isi_str_str, isi_str_lst, isi_str_tup, isi_lst_bl, isi_lst_int, isi_lst_str, isi_lst_lst, isi_lst_tup, isi_tup_bl, isi_tup_int, isi_tup_str, isi_tup_lst, isi_tup_tup, isi_dct_bl, isi_dct_int, isi_dct_str, isi_dct_lst, isi_dct_tup, Kd_non, Kd_bl, Kd_int, Kd_str, sc_non_non, sc_non_int, sc_int_non, sc_non_bl, sc_bl_non, sc_non_str, sc_str_non, sc_int_int, sc_bl_bl, sc_str_str, sc_int_str, sc_str_int, sc_bl_str, sc_str_bl, decide_true, decide_false, tFor_eq, iList, iTup, iRng1, iRng2, iRng3, rIndexT, tBM0, tBMT, tyK_int, tyK_bool, tyK_str, tyK_list, tyK_tuple, L2.start, cxK, Int.reduceToNat, List.map_cons, List.map_nil, List.length_cons, List.length_nil, Nat.reduceAdd, Nat.reduceSub, Nat.zero_add, List.replicate_succ, List.replicate_zero, List.cons_append, List.nil_append, List.append_nil, List.getElem?_cons_zero, List.getElem?_cons_succ, List.set_cons_zero, List.set_cons_succ, Option.some.injEq, V.int.injEq, V.bl.injEq, V.ref.injEq, V.str.injEq, V.ty.injEq, List.cons.injEq, exists_eq_left', exists_eq_left, exists_eq_right, exists_and_left, exists_and_right, and_true, true_and, and_assoc, exists_const, decide_eq_true_eq, Bool.not_eq_true', Bool.not_true, Bool.not_false, Bool.not_not, decide_eq_false_iff_not, ite_not, Bool.false_eq_true, if_true, if_false, reduceCtorEq, and_false, false_and, exists_false, or_false, false_or, ↓reduceIte, eq_self, reduceIte]
  refine ⟨_, _, rfl, hS, fun R gs H1 e1 hR0 dR ga lo l1 l21 => ?_⟩
  simp only [tTurn, rTurnT, tTryS, rCountT, rPop, rRep, tCont, iZipT, tChain3, tFld, sFld, tMake, tMake0, tMethD, tBM0, rUpper, tDict1T, tTryN, rSlS, rMulS, rCatS, iZipL, rInsert, rReverse, tDNewX, tTry, tRaise, iEnumL, iEnumT, iZip, iSeq, iOr, rIx, iStr, rLeS, rJoin, rSlTA, tComp_eq, tComp1, slots, Option.getD_some, Option.getD_none, tYes, tSeq, tAsg, gName, tOp, tUn, tC, tVar, tCB, tCons, tNil, tCall, rI, rI0, rU, tRet, tRetN, tIfS, tTest, tB, tAnd, tOr, tNot, tAndV, tOrV, tNotV, tIf, tChain, tMenu, tPar, tDrop, tTup, tLst, tNext, tSl, tPart, tNoPart, tNever, gTup, gCons, gNil, gSub, rSetL, tBM, rAppend, rEq, rNe, rIsi, rIxL, rIxT, rIxS, rSlL, isi_non_bl, isi_non_int, isi_non_str, isi_non_lst, isi_non_tup, isi_bl_bl, isi_bl_int, isi_bl_str, isi_bl_lst, isi_bl_tup, isi_int_bl, isi_int_int, isi_int_str, isi_int_lst, isi_int_tup, isi_str_bl, isi_str_int, isi_str_str, isi_str_lst, isi_str_tup, isi_lst_bl, isi_lst_int, isi_lst_str, isi_lst_lst, isi_lst_tup, isi_tup_bl, isi_tup_int, isi_tup_str, isi_tup_lst, isi_tup_tup, isi_dct_bl, isi_dct_int, isi_dct_str, isi_dct_lst, isi_dct_tup, Kd_non, Kd_bl, Kd_int, Kd_str, sc_non_non, sc_non_int, sc_int_non, sc_non_bl, sc_bl_non, sc_non_str, sc_str_non, sc_int_int, sc_bl_bl, sc_str_str, sc_int_str, sc_str_int, sc_bl_str, sc_str_bl, decide_true, decide_false, tFor_eq, iList, iTup, iRng1, iRng2, iRng3, rIndexT, tBM0, tBMT, tyK_int, tyK_bool, tyK_str, tyK_list, tyK_tuple, L2.start, cxK, Int.reduceToNat, List.map_cons, List.map_nil, List.length_cons, List.length_nil, Nat.reduceAdd, Nat.reduceSub, Nat.zero_add, List.replicate_succ, List.replicate_zero, List.cons_append, List.nil_append, List.append_nil, List.getElem?_cons_zero, List.getElem?_cons_succ, List.set_cons_zero, List.set_cons_succ, Option.some.injEq, V.int.injEq, V.bl.injEq, V.ref.injEq, V.str.injEq, V.ty.injEq, List.cons.injEq, exists_eq_left', exists_eq_left, exists_eq_right, exists_and_left, exists_and_right, and_true, true_and, and_assoc, exists_const, decide_eq_true_eq, Bool.not_eq_true', Bool.not_true, Bool.not_false, Bool.not_not, decide_eq_false_iff_not, ite_not, Bool.false_eq_true, if_true, if_false, reduceCtorEq, and_false, false_and, exists_false, or_false, false_or, ↓reduceIte, eq_self, reduceIte]
  refine ⟨_, SqL.of dR, fun gd hgd => ?_⟩
  obtain ⟨H2, g2, S2, d2⟩ : ∃ H2, H2 = upd H1 gd (.lst (refs gs)) ∧ Same H1 H2 ∧ H2 gd = some (.lst (refs gs)) := ⟨_, rfl, same_new hgd _, upd_same⟩
  rw [← g2]
  clear g2
  have dR2 := S2 _ _ dR
  have ga2 : ∀ g ∈ gs, LtAt K H2 g := fun g hg => (ga g hg).same S2
  refine .inr ⟨_, gs, rfl, SqL.of d2, ga2, lo, by omega, fun n H3 e3 hn0 dn => ?_⟩
  have ga3 : ∀ g ∈ gs, LtAt K H3 g := fun g hg => (ga2 g hg).same e3
  have hne : gs[0]? = some (gs[0]'(by omega)) := List.getElem?_eq_getElem _
  obtain ⟨g0, h0⟩ : ∃ g0, gs[0]? = some g0 := ⟨_, hne⟩
  have G0 : GoodL [] g0 := lo 0 g0 h0
  refine ⟨_, _, gs, rfl, SqL.of dn, SqL.of (e3 _ _ dR2), ga3, _, rfl, ?_⟩
  rw [if_neg (by decide)]
  refine rEqS_same (.inl ⟨SqL.of (e3 _ _ d2), SqL.of (e3 _ _ dR2)⟩) (refs_ok gs) ⟨_, rfl, ?_⟩
  rw [if_neg (by decide)]
  refine spCellX_of ((e1.trans (S2.trans e3)).seq hS) (by decide) fun c => ⟨_, _, gs, rfl, SqL.of (e3 _ _ dR2), ga3, lo, l1, l21, fun v H4 e4 bv kv fr => ?_⟩
  have nv : ∀ l, v = .ref l → l ≠ n := fun l e z => by
    have := fr l e
    rw [z, dn] at this
    cases this
  cases kv with
  | @lst l xs dl ok l25 =>
    refine ⟨_, Kd.lst (SqL.of dl), ?_⟩
    rw [if_pos (by decide)]
    refine ⟨_, rfl, _, SqL.of dl, fun k hk => ?_⟩
    obtain ⟨H5, g5, S5, dk⟩ : ∃ H5, H5 = upd H4 k (.lst xs) ∧ Same H4 H5 ∧ H5 k = some (.lst xs) := ⟨_, rfl, same_new hk _, upd_same⟩
    rw [← g5]
    clear g5
    have E5 := e4.trans S5
    have bv5 := bv.same S5
    have kn : k ≠ n := fun z => by
      have := e4 _ _ dn
      rw [← z, hk] at this
      cases this
    have cmp : ∀ (ys : List V) (H9 : Hp) (Qc : VK), Same (upd H5 n (.lst ys)) H9 → Qc (.bl false) H9 → rNeM K (.ref l) (.ref k) H9 Qc := fun ys H9 Qc e qc =>
      .inl (rEqS_same (.inl ⟨SqL.of (e _ _ (by rw [upd_ne (nv l rfl)]; exact S5 _ _ dl)), SqL.of (e _ _ (by rw [upd_ne kn]; exact dk))⟩) ok qc)
    have dn5 := E5 _ _ dn
    refine ⟨.inl ⟨rfl, _, SqL.of dn5⟩, _, rfl, _, dn5, by rw [refs_len]; exact Nat.lt_of_lt_of_le (m := 64) (by omega) (by decide), ?_⟩
    replace bv5 := badR_upd (ys := refs gs ++ [(V.ref l)]) bv5 dn5 nv
    replace cmp := cmp (refs gs ++ [(V.ref l)])
    have S26 := same_upd (e3.trans E5) hn0 (.lst (refs gs ++ [(V.ref l)]))
    generalize upd H5 n _ = H6 at bv5 cmp S26 ⊢
    refine ⟨_, SqL.of (S26 _ _ dR2), _, refs_ix h0, by decide, fun p1 h1 => ⟨_, upd_same, by decide, by decide, Nat.le_trans (show 1 * 24 ≤ 64 by decide) (by decide), fun m hm => ?_⟩⟩
    have S68 := (same_new h1 (.lst [.ref g0.q])).trans (same_new hm (.lst (refs (List.replicate 24 g0))))
    have dm : upd (upd H6 p1 (.lst [.ref g0.q])) m (.lst (refs (List.replicate 24 g0))) m = some (.lst (refs (List.replicate 24 g0))) := upd_same
    show spRefused K [_] (upd (upd H6 p1 (.lst [.ref g0.q])) m (.lst (refs (List.replicate 24 g0)))) _ _
    generalize upd (upd H6 p1 (.lst [.ref g0.q])) m (.lst (refs (List.replicate 24 g0))) = H8 at S68 dm ⊢
    refine ⟨_, rfl, bv5.same S68, fun H9 e9 => ⟨_, rfl, ?_⟩⟩
    rw [if_neg (by decide)]
    refine cmp _ _ (S68.trans e9) ⟨_, rfl, ?_⟩
    rw [if_neg (by decide)]
    have S29 := S26.trans (S68.trans e9)
    refine ⟨_, SqL.of (e9 _ _ dm), fun l2 hl2 => ?_⟩
    obtain ⟨HA, gA, SA, dA⟩ : ∃ HA, HA = upd H9 l2 (.lst (refs (List.replicate 24 g0))) ∧ Same H9 HA ∧ HA l2 = some (.lst (refs (List.replicate 24 g0))) := ⟨_, rfl, same_new hl2 _, upd_same⟩
    rw [← gA]
    clear gA
    have S2A := S29.trans SA
    have r0 : ∀ {HX : Hp}, Same H2 HX → ∀ g ∈ List.replicate 24 g0, LtAt K HX g := fun eX g hg => by
      rw [List.eq_of_mem_replicate hg]
      exact (ga2 g0 (List.mem_of_getElem? h0)).same eX
    refine .inr ⟨_, List.replicate 24 g0, rfl, SqL.of dA, r0 S2A, lots_rep G0 24, by rw [List.length_replicate]; exact Nat.le_refl _, fun n2 HB eB hn2 dn2 => ?_⟩
    have S2B := S2A.trans eB
    refine ⟨_, _, List.replicate 24 g0, rfl, SqL.of dn2, SqL.of ((e9.trans (SA.trans eB)) _ _ dm), r0 S2B, _, rfl, ?_⟩
    rw [if_neg (by decide)]
    refine .inr ⟨_, gs, rfl, SqL.of (S2B _ _ d2), fun g hg => (ga2 g hg).same S2B, lo, by omega, fun n3 HC eC hn3 dn3 => ?_⟩
    have S2C := S2B.trans eC
    refine ⟨_, _, gs, rfl, SqL.of dn3, SqL.of (S2C _ _ dR2), fun g hg => (ga2 g hg).same S2C, _, rfl, ?_⟩
    rw [if_pos rfl]
    refine rEqS_same (.inl ⟨SqL.of (S2C _ _ d2), SqL.of (S2C _ _ dR2)⟩) (refs_ok gs) ⟨_, rfl, ?_⟩
    rw [if_pos (by decide)]
    refine ⟨by decide, fun en hen => .inr ⟨_, [], rfl, SqL.of upd_same, (fun g hg => by cases hg), (fun i g h => by simp at h), by decide, fun n4 HD eD hn4 dn4 => ⟨by decide, fun en2 hen2 => ?_⟩⟩⟩
    exact rEqS_same (.inl ⟨SqL.of ((same_new hen2 _) _ _ dn4), SqL.of upd_same⟩) rfl (q _)
  | @tup t xs dt ok =>
    refine ⟨_, Kd.tup (SqT.of dt), ?_⟩
    rw [if_neg (by decide)]
    obtain ⟨H5, h5⟩ : ∃ H5, H5 = H4 := ⟨_, rfl⟩
    subst h5
    have E5 := e4
    have bv5 := bv
    have cmp : ∀ (ys : List V) (H9 : Hp) (Qc : VK), Same (upd H5 n (.lst ys)) H9 → Qc (.bl false) H9 → rNeM K (.ref t) (.ref t) H9 Qc := fun ys H9 Qc e qc =>
      .inl (rEqS_same (.inr ⟨Same.tup e (SqT.lst (SqT.of dt) (E5 _ _ dn)), Same.tup e (SqT.lst (SqT.of dt) (E5 _ _ dn))⟩) ok qc)
    have dn5 := E5 _ _ dn
    refine ⟨.inl ⟨rfl, _, SqL.of dn5⟩, _, rfl, _, dn5, by rw [refs_len]; exact Nat.lt_of_lt_of_le (m := 64) (by omega) (by decide), ?_⟩
    replace bv5 := badR_upd (ys := refs gs ++ [(V.ref t)]) bv5 dn5 nv
    replace cmp := cmp (refs gs ++ [(V.ref t)])
    have S26 := same_upd (e3.trans E5) hn0 (.lst (refs gs ++ [(V.ref t)]))
    generalize upd H5 n _ = H6 at bv5 cmp S26 ⊢
    refine ⟨_, SqL.of (S26 _ _ dR2), _, refs_ix h0, by decide, fun p1 h1 => ⟨_, upd_same, by decide, by decide, Nat.le_trans (show 1 * 24 ≤ 64 by decide) (by decide), fun m hm => ?_⟩⟩
    have S68 := (same_new h1 (.lst [.ref g0.q])).trans (same_new hm (.lst (refs (List.replicate 24 g0))))
    have dm : upd (upd H6 p1 (.lst [.ref g0.q])) m (.lst (refs (List.replicate 24 g0))) m = some (.lst (refs (List.replicate 24 g0))) := upd_same
    show spRefused K [_] (upd (upd H6 p1 (.lst [.ref g0.q])) m (.lst (refs (List.replicate 24 g0)))) _ _
    generalize upd (upd H6 p1 (.lst [.ref g0.q])) m (.lst (refs (List.replicate 24 g0))) = H8 at S68 dm ⊢
    refine ⟨_, rfl, bv5.same S68, fun H9 e9 => ⟨_, rfl, ?_⟩⟩
    rw [if_neg (by decide)]
    refine cmp _ _ (S68.trans e9) ⟨_, rfl, ?_⟩
    rw [if_neg (by decide)]
    have S29 := S26.trans (S68.trans e9)
    refine ⟨_, SqL.of (e9 _ _ dm), fun l2 hl2 => ?_⟩
    obtain ⟨HA, gA, SA, dA⟩ : ∃ HA, HA = upd H9 l2 (.lst (refs (List.replicate 24 g0))) ∧ Same H9 HA ∧ HA l2 = some (.lst (refs (List.replicate 24 g0))) := ⟨_, rfl, same_new hl2 _, upd_same⟩
    rw [← gA]
    clear gA
    have S2A := S29.trans SA
    have r0 : ∀ {HX : Hp}, Same H2 HX → ∀ g ∈ List.replicate 24 g0, LtAt K HX g := fun eX g hg => by
      rw [List.eq_of_mem_replicate hg]
      exact (ga2 g0 (List.mem_of_getElem? h0)).same eX
    refine .inr ⟨_, List.replicate 24 g0, rfl, SqL.of dA, r0 S2A, lots_rep G0 24, by rw [List.length_replicate]; exact Nat.le_refl _, fun n2 HB eB hn2 dn2 => ?_⟩
    have S2B := S2A.trans eB
    refine ⟨_, _, List.replicate 24 g0, rfl, SqL.of dn2, SqL.of ((e9.trans (SA.trans eB)) _ _ dm), r0 S2B, _, rfl, ?_⟩
    rw [if_neg (by decide)]
    refine .inr ⟨_, gs, rfl, SqL.of (S2B _ _ d2), fun g hg => (ga2 g hg).same S2B, lo, by omega, fun n3 HC eC hn3 dn3 => ?_⟩
    have S2C := S2B.trans eC
    refine ⟨_, _, gs, rfl, SqL.of dn3, SqL.of (S2C _ _ dR2), fun g hg => (ga2 g hg).same S2C, _, rfl, ?_⟩
    rw [if_pos rfl]
    refine rEqS_same (.inl ⟨SqL.of (S2C _ _ d2), SqL.of (S2C _ _ dR2)⟩) (refs_ok gs) ⟨_, rfl, ?_⟩
    rw [if_pos (by decide)]
    refine ⟨by decide, fun en hen => .inr ⟨_, [], rfl, SqL.of upd_same, (fun g hg => by cases hg), (fun i g h => by simp at h), by decide, fun n4 HD eD hn4 dn4 => ⟨by decide, fun en2 hen2 => ?_⟩⟩⟩
    exact rEqS_same (.inl ⟨SqL.of ((same_new hen2 _) _ _ dn4), SqL.of upd_same⟩) rfl (q _)
  | non =>
    refine ⟨_, (show Kd K _ .non .non from rfl), ?_⟩
    rw [if_neg (by decide)]
    obtain ⟨H5, h5⟩ : ∃ H5, H5 = H4 := ⟨_, rfl⟩
    subst h5
    have E5 := e4
    have bv5 := bv
    have cmp : ∀ (ys : List V) (H9 : Hp) (Qc : VK), Same (upd H5 n (.lst ys)) H9 → Qc (.bl false) H9 → rNeM K .non .non H9 Qc := fun ys H9 Qc e qc => .inr (neS_of rfl qc)
    have dn5 := E5 _ _ dn
    refine ⟨.inl ⟨rfl, _, SqL.of dn5⟩, _, rfl, _, dn5, by rw [refs_len]; exact Nat.lt_of_lt_of_le (m := 64) (by omega) (by decide), ?_⟩
    replace bv5 := badR_upd (ys := refs gs ++ [V.non]) bv5 dn5 nv
    replace cmp := cmp (refs gs ++ [V.non])
    have S26 := same_upd (e3.trans E5) hn0 (.lst (refs gs ++ [V.non]))
    generalize upd H5 n _ = H6 at bv5 cmp S26 ⊢
    refine ⟨_, SqL.of (S26 _ _ dR2), _, refs_ix h0, by decide, fun p1 h1 => ⟨_, upd_same, by decide, by decide, Nat.le_trans (show 1 * 24 ≤ 64 by decide) (by decide), fun m hm => ?_⟩⟩
    have S68 := (same_new h1 (.lst [.ref g0.q])).trans (same_new hm (.lst (refs (List.replicate 24 g0))))
    have dm : upd (upd H6 p1 (.lst [.ref g0.q])) m (.lst (refs (List.replicate 24 g0))) m = some (.lst (refs (List.replicate 24 g0))) := upd_same
    show spRefused K [_] (upd (upd H6 p1 (.lst [.ref g0.q])) m (.lst (refs (List.replicate 24 g0)))) _ _
    generalize upd (upd H6 p1 (.lst [.ref g0.q])) m (.lst (refs (List.replicate 24 g0))) = H8 at S68 dm ⊢
    refine ⟨_, rfl, bv5.same S68, fun H9 e9 => ⟨_, rfl, ?_⟩⟩
    rw [if_neg (by decide)]
    refine cmp _ _ (S68.trans e9) ⟨_, rfl, ?_⟩
    rw [if_neg (by decide)]
    have S29 := S26.trans (S68.trans e9)
    refine ⟨_, SqL.of (e9 _ _ dm), fun l2 hl2 => ?_⟩
    obtain ⟨HA, gA, SA, dA⟩ : ∃ HA, HA = upd H9 l2 (.lst (refs (List.replicate 24 g0))) ∧ Same H9 HA ∧ HA l2 = some (.lst (refs (List.replicate 24 g0))) := ⟨_, rfl, same_new hl2 _, upd_same⟩
    rw [← gA]
    clear gA
    have S2A := S29.trans SA
    have r0 : ∀ {HX : Hp}, Same H2 HX → ∀ g ∈ List.replicate 24 g0, LtAt K HX g := fun eX g hg => by
      rw [List.eq_of_mem_replicate hg]
      exact (ga2 g0 (List.mem_of_getElem? h0)).same eX
    refine .inr ⟨_, List.replicate 24 g0, rfl, SqL.of dA, r0 S2A, lots_rep G0 24, by rw [List.length_replicate]; exact Nat.le_refl _, fun n2 HB eB hn2 dn2 => ?_⟩
    have S2B := S2A.trans eB
    refine ⟨_, _, List.replicate 24 g0, rfl, SqL.of dn2, SqL.of ((e9.trans (SA.trans eB)) _ _ dm), r0 S2B, _, rfl, ?_⟩
    rw [if_neg (by decide)]
    refine .inr ⟨_, gs, rfl, SqL.of (S2B _ _ d2), fun g hg => (ga2 g hg).same S2B, lo, by omega, fun n3 HC eC hn3 dn3 => ?_⟩
    have S2C := S2B.trans eC
    refine ⟨_, _, gs, rfl, SqL.of dn3, SqL.of (S2C _ _ dR2), fun g hg => (ga2 g hg).same S2C, _, rfl, ?_⟩
    rw [if_pos rfl]
    refine rEqS_same (.inl ⟨SqL.of (S2C _ _ d2), SqL.of (S2C _ _ dR2)⟩) (refs_ok gs) ⟨_, rfl, ?_⟩
    rw [if_pos (by decide)]
    refine ⟨by decide, fun en hen => .inr ⟨_, [], rfl, SqL.of upd_same, (fun g hg => by cases hg), (fun i g h => by simp at h), by decide, fun n4 HD eD hn4 dn4 => ⟨by decide, fun en2 hen2 => ?_⟩⟩⟩
    exact rEqS_same (.inl ⟨SqL.of ((same_new hen2 _) _ _ dn4), SqL.of upd_same⟩) rfl (q _)
  | @str z =>
    refine ⟨_, (show Kd K _ (.str z) .str from rfl), ?_⟩
    rw [if_neg (by decide)]
    obtain ⟨H5, h5⟩ : ∃ H5, H5 = H4 := ⟨_, rfl⟩
    subst h5
    have E5 := e4
    have bv5 := bv
    have cmp : ∀ (ys : List V) (H9 : Hp) (Qc : VK), Same (upd H5 n (.lst ys)) H9 → Qc (.bl false) H9 → rNeM K (.str z) (.str z) H9 Qc := fun ys H9 Qc e qc => .inr (neS_of rfl qc)
    have dn5 := E5 _ _ dn
    refine ⟨.inl ⟨rfl, _, SqL.of dn5⟩, _, rfl, _, dn5, by rw [refs_len]; exact Nat.lt_of_lt_of_le (m := 64) (by omega) (by decide), ?_⟩
    replace bv5 := badR_upd (ys := refs gs ++ [(V.str z)]) bv5 dn5 nv
    replace cmp := cmp (refs gs ++ [(V.str z)])
    have S26 := same_upd (e3.trans E5) hn0 (.lst (refs gs ++ [(V.str z)]))
    generalize upd H5 n _ = H6 at bv5 cmp S26 ⊢
    refine ⟨_, SqL.of (S26 _ _ dR2), _, refs_ix h0, by decide, fun p1 h1 => ⟨_, upd_same, by decide, by decide, Nat.le_trans (show 1 * 24 ≤ 64 by decide) (by decide), fun m hm => ?_⟩⟩
    have S68 := (same_new h1 (.lst [.ref g0.q])).trans (same_new hm (.lst (refs (List.replicate 24 g0))))
    have dm : upd (upd H6 p1 (.lst [.ref g0.q])) m (.lst (refs (List.replicate 24 g0))) m = some (.lst (refs (List.replicate 24 g0))) := upd_same
    show spRefused K [_] (upd (upd H6 p1 (.lst [.ref g0.q])) m (.lst (refs (List.replicate 24 g0)))) _ _
    generalize upd (upd H6 p1 (.lst [.ref g0.q])) m (.lst (refs (List.replicate 24 g0))) = H8 at S68 dm ⊢
    refine ⟨_, rfl, bv5.same S68, fun H9 e9 => ⟨_, rfl, ?_⟩⟩
    rw [if_neg (by decide)]
    refine cmp _ _ (S68.trans e9) ⟨_, rfl, ?_⟩
    rw [if_neg (by decide)]
    have S29 := S26.trans (S68.trans e9)
    refine ⟨_, SqL.of (e9 _ _ dm), fun l2 hl2 => ?_⟩
    obtain ⟨HA, gA, SA, dA⟩ : ∃ HA, HA = upd H9 l2 (.lst (refs (List.replicate 24 g0))) ∧ Same H9 HA ∧ HA l2 = some (.lst (refs (List.replicate 24 g0))) := ⟨_, rfl, same_new hl2 _, upd_same⟩
    rw [← gA]
    clear gA
    have S2A := S29.trans SA
    have r0 : ∀ {HX : Hp}, Same H2 HX → ∀ g ∈ List.replicate 24 g0, LtAt K HX g := fun eX g hg => by
      rw [List.eq_of_mem_replicate hg]
      exact (ga2 g0 (List.mem_of_getElem? h0)).same eX
    refine .inr ⟨_, List.replicate 24 g0, rfl, SqL.of dA, r0 S2A, lots_rep G0 24, by rw [List.length_replicate]; exact Nat.le_refl _, fun n2 HB eB hn2 dn2 => ?_⟩
    have S2B := S2A.trans eB
    refine ⟨_, _, List.replicate 24 g0, rfl, SqL.of dn2, SqL.of ((e9.trans (SA.trans eB)) _ _ dm), r0 S2B, _, rfl, ?_⟩
    rw [if_neg (by decide)]
    refine .inr ⟨_, gs, rfl, SqL.of (S2B _ _ d2), fun g hg => (ga2 g hg).same S2B, lo, by omega, fun n3 HC eC hn3 dn3 => ?_⟩
    have S2C := S2B.trans eC
    refine ⟨_, _, gs, rfl, SqL.of dn3, SqL.of (S2C _ _ dR2), fun g hg => (ga2 g hg).same S2C, _, rfl, ?_⟩
    rw [if_pos rfl]
    refine rEqS_same (.inl ⟨SqL.of (S2C _ _ d2), SqL.of (S2C _ _ dR2)⟩) (refs_ok gs) ⟨_, rfl, ?_⟩
    rw [if_pos (by decide)]
    refine ⟨by decide, fun en hen => .inr ⟨_, [], rfl, SqL.of upd_same, (fun g hg => by cases hg), (fun i g h => by simp at h), by decide, fun n4 HD eD hn4 dn4 => ⟨by decide, fun en2 hen2 => ?_⟩⟩⟩
    exact rEqS_same (.inl ⟨SqL.of ((same_new hen2 _) _ _ dn4), SqL.of upd_same⟩) rfl (q _)
end

theorem all_mk {l : PySem.W.OpenLaw} {w : World} {K : PySem.W.Frag} {h : Heap} {mg : Str → Option Value} {fa f1 f2 f3 f4 f5 f6 f7 f8 f9 f10 f11 f12 f13 f14 f15 f16 f17 f18 f19 f20 f21 f22 f23 : Addr} (X : K.In h) (G : h.Ns mainGlobals mg) (hfa : mg "law" = some (.ref fa))
    {c_TariffError c_NoNumber c_NoRule c_NoLot c_NoEntry c_NoDeed : Addr}
    {od1 an1 od2 an2 od3 an3 od4 an4 od5 an5 od6 an6 od7 an7 od8 an8 od9 an9 od10 an10 od11 an11 od12 an12 od13 an13 od14 an14 od15 an15 od16 an16 od17 an17 od18 an18 od19 an19 od20 an20 od21 an21 od22 an22 od23 an23 : Option Addr} {sl1 sl2 sl3 sl4 sl5 sl6 sl7 sl8 sl9 sl10 sl11 sl12 sl13 sl14 sl15 sl16 sl17 sl18 sl19 sl20 sl21 sl22 sl23 : Array (Option Value)} {oc1 kV1 dc1 pm1 cd1 ct1 oc2 kV2 dc2 pm2 cd2 ct2 oc3 kV3 dc3 pm3 cd3 ct3 oc4 kV4 dc4 pm4 cd4 ct4 oc5 kV5 dc5 pm5 cd5 ct5 oc6 kV6 dc6 pm6 cd6 ct6 oc7 kV7 dc7 pm7 cd7 ct7 oc8 kV8 dc8 pm8 cd8 ct8 oc9 kV9 dc9 pm9 cd9 ct9 oc10 kV10 dc10 pm10 cd10 ct10 oc11 kV11 dc11 pm11 cd11 ct11 oc12 kV12 dc12 pm12 cd12 ct12 oc13 kV13 dc13 pm13 cd13 ct13 oc14 kV14 dc14 pm14 cd14 ct14 oc15 kV15 dc15 pm15 cd15 ct15 oc16 kV16 dc16 pm16 cd16 ct16 oc17 kV17 dc17 pm17 cd17 ct17 oc18 kV18 dc18 pm18 cd18 ct18 oc19 kV19 dc19 pm19 cd19 ct19 oc20 kV20 dc20 pm20 cd20 ct20 oc21 kV21 dc21 pm21 cd21 ct21 oc22 kV22 dc22 pm22 cd22 ct22 oc23 kV23 dc23 pm23 cd23 ct23 : Value}
    (n_TariffError : PySem.W.nsIn K mainGlobals "TariffError" = some (some (.ref c_TariffError)))
    (n_NoNumber : PySem.W.nsIn K mainGlobals "NoNumber" = some (some (.ref c_NoNumber)))
    (n_NoRule : PySem.W.nsIn K mainGlobals "NoRule" = some (some (.ref c_NoRule)))
    (n_NoLot : PySem.W.nsIn K mainGlobals "NoLot" = some (some (.ref c_NoLot)))
    (n_NoEntry : PySem.W.nsIn K mainGlobals "NoEntry" = some (some (.ref c_NoEntry)))
    (n_NoDeed : PySem.W.nsIn K mainGlobals "NoDeed" = some (some (.ref c_NoDeed)))
    (a1 : PySem.W.nsIn K mainGlobals "is_whole" = some (some (.ref f1))) (l1 : K.lookup f1 = some ⟨oc1, od1, .func (PySem.W.fnOf "is_whole" "is_whole" (defArgs s_is_whole) (defBody s_is_whole) (defScope s_is_whole) .none kV1 dc1 pm1 an1 cd1 ct1), sl1⟩) (c1 : PySem.W.codeIn K cd1 "is_whole" = true) (k1 : PySem.W.keepIn K (.ref f1) = true)
    (a2 : PySem.W.nsIn K mainGlobals "is_name" = some (some (.ref f2))) (l2 : K.lookup f2 = some ⟨oc2, od2, .func (PySem.W.fnOf "is_name" "is_name" (defArgs s_is_name) (defBody s_is_name) (defScope s_is_name) .none kV2 dc2 pm2 an2 cd2 ct2), sl2⟩) (c2 : PySem.W.codeIn K cd2 "is_name" = true) (k2 : PySem.W.keepIn K (.ref f2) = true)
    (a3 : PySem.W.nsIn K mainGlobals "is_prefix" = some (some (.ref f3))) (l3 : K.lookup f3 = some ⟨oc3, od3, .func (PySem.W.fnOf "is_prefix" "is_prefix" (defArgs s_is_prefix) (defBody s_is_prefix) (defScope s_is_prefix) .none kV3 dc3 pm3 an3 cd3 ct3), sl3⟩) (c3 : PySem.W.codeIn K cd3 "is_prefix" = true) (k3 : PySem.W.keepIn K (.ref f3) = true)
    (a4 : PySem.W.nsIn K mainGlobals "is_number" = some (some (.ref f4))) (l4 : K.lookup f4 = some ⟨oc4, od4, .func (PySem.W.fnOf "is_number" "is_number" (defArgs s_is_number) (defBody s_is_number) (defScope s_is_number) .none kV4 dc4 pm4 an4 cd4 ct4), sl4⟩) (c4 : PySem.W.codeIn K cd4 "is_number" = true) (k4 : PySem.W.keepIn K (.ref f4) = true)
    (a5 : PySem.W.nsIn K mainGlobals "is_price" = some (some (.ref f5))) (l5 : K.lookup f5 = some ⟨oc5, od5, .func (PySem.W.fnOf "is_price" "is_price" (defArgs s_is_price) (defBody s_is_price) (defScope s_is_price) .none kV5 dc5 pm5 an5 cd5 ct5), sl5⟩) (c5 : PySem.W.codeIn K cd5 "is_price" = true) (k5 : PySem.W.keepIn K (.ref f5) = true)
    (a6 : PySem.W.nsIn K mainGlobals "are_inputs" = some (some (.ref f6))) (l6 : K.lookup f6 = some ⟨oc6, od6, .func (PySem.W.fnOf "are_inputs" "are_inputs" (defArgs s_are_inputs) (defBody s_are_inputs) (defScope s_are_inputs) .none kV6 dc6 pm6 an6 cd6 ct6), sl6⟩) (c6 : PySem.W.codeIn K cd6 "are_inputs" = true) (k6 : PySem.W.keepIn K (.ref f6) = true)
    (a7 : PySem.W.nsIn K mainGlobals "price_of_inputs" = some (some (.ref f7))) (l7 : K.lookup f7 = some ⟨oc7, od7, .func (PySem.W.fnOf "price_of_inputs" "price_of_inputs" (defArgs s_price_of_inputs) (defBody s_price_of_inputs) (defScope s_price_of_inputs) .none kV7 dc7 pm7 an7 cd7 ct7), sl7⟩) (c7 : PySem.W.codeIn K cd7 "price_of_inputs" = true) (k7 : PySem.W.keepIn K (.ref f7) = true)
    (a8 : PySem.W.nsIn K mainGlobals "is_lot" = some (some (.ref f8))) (l8 : K.lookup f8 = some ⟨oc8, od8, .func (PySem.W.fnOf "is_lot" "is_lot" (defArgs s_is_lot) (defBody s_is_lot) (defScope s_is_lot) .none kV8 dc8 pm8 an8 cd8 ct8), sl8⟩) (c8 : PySem.W.codeIn K cd8 "is_lot" = true) (k8 : PySem.W.keepIn K (.ref f8) = true)
    (a9 : PySem.W.nsIn K mainGlobals "lots_of" = some (some (.ref f9))) (l9 : K.lookup f9 = some ⟨oc9, od9, .func (PySem.W.fnOf "lots_of" "lots_of" (defArgs s_lots_of) (defBody s_lots_of) (defScope s_lots_of) .none kV9 dc9 pm9 an9 cd9 ct9), sl9⟩) (c9 : PySem.W.codeIn K cd9 "lots_of" = true) (k9 : PySem.W.keepIn K (.ref f9) = true)
    (a10 : PySem.W.nsIn K mainGlobals "_law_cell_at" = some (some (.ref f10))) (l10 : K.lookup f10 = some ⟨oc10, od10, .func (PySem.W.fnOf "_law_cell_at" "_law_cell_at" (defArgs s_law_cell_at) (defBody s_law_cell_at) (defScope s_law_cell_at) .none kV10 dc10 pm10 an10 cd10 ct10), sl10⟩) (c10 : PySem.W.codeIn K cd10 "_law_cell_at" = true) (k10 : PySem.W.keepIn K (.ref f10) = true)
    (a11 : PySem.W.nsIn K mainGlobals "_law_mix" = some (some (.ref f11))) (l11 : K.lookup f11 = some ⟨oc11, od11, .func (PySem.W.fnOf "_law_mix" "_law_mix" (defArgs s_law_mix) (defBody s_law_mix) (defScope s_law_mix) .none kV11 dc11 pm11 an11 cd11 ct11), sl11⟩) (c11 : PySem.W.codeIn K cd11 "_law_mix" = true) (k11 : PySem.W.keepIn K (.ref f11) = true)
    (a12 : PySem.W.nsIn K mainGlobals "_law_whole" = some (some (.ref f12))) (l12 : K.lookup f12 = some ⟨oc12, od12, .func (PySem.W.fnOf "_law_whole" "_law_whole" (defArgs s_law_whole) (defBody s_law_whole) (defScope s_law_whole) .none kV12 dc12 pm12 an12 cd12 ct12), sl12⟩) (c12 : PySem.W.codeIn K cd12 "_law_whole" = true) (k12 : PySem.W.keepIn K (.ref f12) = true)
    (a13 : PySem.W.nsIn K mainGlobals "_law_number" = some (some (.ref f13))) (l13 : K.lookup f13 = some ⟨oc13, od13, .func (PySem.W.fnOf "_law_number" "_law_number" (defArgs s_law_number) (defBody s_law_number) (defScope s_law_number) .none kV13 dc13 pm13 an13 cd13 ct13), sl13⟩) (c13 : PySem.W.codeIn K cd13 "_law_number" = true) (k13 : PySem.W.keepIn K (.ref f13) = true)
    (a14 : PySem.W.nsIn K mainGlobals "_law_lands" = some (some (.ref f14))) (l14 : K.lookup f14 = some ⟨oc14, od14, .func (PySem.W.fnOf "_law_lands" "_law_lands" (defArgs s_law_lands) (defBody s_law_lands) (defScope s_law_lands) .none kV14 dc14 pm14 an14 cd14 ct14), sl14⟩) (c14 : PySem.W.codeIn K cd14 "_law_lands" = true) (k14 : PySem.W.keepIn K (.ref f14) = true)
    (a15 : PySem.W.nsIn K mainGlobals "_law_inputs" = some (some (.ref f15))) (l15 : K.lookup f15 = some ⟨oc15, od15, .func (PySem.W.fnOf "_law_inputs" "_law_inputs" (defArgs s_law_inputs) (defBody s_law_inputs) (defScope s_law_inputs) .none kV15 dc15 pm15 an15 cd15 ct15), sl15⟩) (c15 : PySem.W.codeIn K cd15 "_law_inputs" = true) (k15 : PySem.W.keepIn K (.ref f15) = true)
    (a16 : PySem.W.nsIn K mainGlobals "_law_lot" = some (some (.ref f16))) (l16 : K.lookup f16 = some ⟨oc16, od16, .func (PySem.W.fnOf "_law_lot" "_law_lot" (defArgs s_law_lot) (defBody s_law_lot) (defScope s_law_lot) .none kV16 dc16 pm16 an16 cd16 ct16), sl16⟩) (c16 : PySem.W.codeIn K cd16 "_law_lot" = true) (k16 : PySem.W.keepIn K (.ref f16) = true)
    (a17 : PySem.W.nsIn K mainGlobals "_law_lots" = some (some (.ref f17))) (l17 : K.lookup f17 = some ⟨oc17, od17, .func (PySem.W.fnOf "_law_lots" "_law_lots" (defArgs s_law_lots) (defBody s_law_lots) (defScope s_law_lots) .none kV17 dc17 pm17 an17 cd17 ct17), sl17⟩) (c17 : PySem.W.codeIn K cd17 "_law_lots" = true) (k17 : PySem.W.keepIn K (.ref f17) = true)
    (a18 : PySem.W.nsIn K mainGlobals "_law_bad_word" = some (some (.ref f18))) (l18 : K.lookup f18 = some ⟨oc18, od18, .func (PySem.W.fnOf "_law_bad_word" "_law_bad_word" (defArgs s_law_bad_word) (defBody s_law_bad_word) (defScope s_law_bad_word) .none kV18 dc18 pm18 an18 cd18 ct18), sl18⟩) (c18 : PySem.W.codeIn K cd18 "_law_bad_word" = true) (k18 : PySem.W.keepIn K (.ref f18) = true)
    (a19 : PySem.W.nsIn K mainGlobals "_law_bad_inputs" = some (some (.ref f19))) (l19 : K.lookup f19 = some ⟨oc19, od19, .func (PySem.W.fnOf "_law_bad_inputs" "_law_bad_inputs" (defArgs s_law_bad_inputs) (defBody s_law_bad_inputs) (defScope s_law_bad_inputs) .none kV19 dc19 pm19 an19 cd19 ct19), sl19⟩) (c19 : PySem.W.codeIn K cd19 "_law_bad_inputs" = true) (k19 : PySem.W.keepIn K (.ref f19) = true)
    (a20 : PySem.W.nsIn K mainGlobals "_law_spoilt" = some (some (.ref f20))) (l20 : K.lookup f20 = some ⟨oc20, od20, .func (PySem.W.fnOf "_law_spoilt" "_law_spoilt" (defArgs s_law_spoilt) (defBody s_law_spoilt) (defScope s_law_spoilt) .none kV20 dc20 pm20 an20 cd20 ct20), sl20⟩) (c20 : PySem.W.codeIn K cd20 "_law_spoilt" = true) (k20 : PySem.W.keepIn K (.ref f20) = true)
    (a21 : PySem.W.nsIn K mainGlobals "_law_refused" = some (some (.ref f21))) (l21 : K.lookup f21 = some ⟨oc21, od21, .func (PySem.W.fnOf "_law_refused" "_law_refused" (defArgs s_law_refused) (defBody s_law_refused) (defScope s_law_refused) .none kV21 dc21 pm21 an21 cd21 ct21), sl21⟩) (c21 : PySem.W.codeIn K cd21 "_law_refused" = true) (k21 : PySem.W.keepIn K (.ref f21) = true)
    (a22 : PySem.W.nsIn K mainGlobals "_law_same" = some (some (.ref f22))) (l22 : K.lookup f22 = some ⟨oc22, od22, .func (PySem.W.fnOf "_law_same" "_law_same" (defArgs s_law_same) (defBody s_law_same) (defScope s_law_same) .none kV22 dc22 pm22 an22 cd22 ct22), sl22⟩) (c22 : PySem.W.codeIn K cd22 "_law_same" = true) (k22 : PySem.W.keepIn K (.ref f22) = true)
    (a23 : PySem.W.nsIn K mainGlobals "law" = some (some (.ref f23))) (l23 : K.lookup f23 = some ⟨oc23, od23, .func (PySem.W.fnOf "law" "law" (defArgs s_law) (defBody s_law) (defScope s_law) .none kV23 dc23 pm23 an23 cd23 ct23), sl23⟩) (c23 : PySem.W.codeIn K cd23 "law" = true) (k23 : PySem.W.keepIn K (.ref f23) = true)
    (e_NoLot : PySem.W.excIn K c_NoLot bmVE "ValueError.__new__" = true)
    (ci_TariffError : PySem.W.isClsIn K c_TariffError = true)
    (ct_TariffError : PySem.W.typeIn K (.ref c_TariffError) = some (.type "type"))
    (cb_TariffError : PySem.W.mroIn K c_TariffError (.type "BaseException") = some true)
    (xga_NoLot : PySem.W.findIn K (.ref c_NoLot) "__getattribute__" = some (some (.builtin "BaseException.__getattribute__")))
    (xgt_NoLot : PySem.W.findIn K (.ref c_NoLot) "__getattr__" = some none)
    (xca_NoLot : PySem.W.findIn K (.ref c_NoLot) "__class__" = some (some (.builtin "object.__class__")))
    (xcn_NoLot : PySem.W.specialIn K (.builtin "object.__class__") "__get__" = some (some (.builtin "getset_descriptor.__get__")))
    (xtk_NoLot : PySem.W.takesIn K (.builtin "object.__class__") = some true)
    (xmo_NoLot : PySem.W.mroIn K c_NoLot (.type "object") = some true)
    (xmb_NoLot : PySem.W.mroIn K c_NoLot (.type "BaseException") = some true)
    (xis_NoLot : PySem.W.isClsIn K c_NoLot = true)
    (sub2 : PySem.W.subIn K (.ref c_NoLot) (.ref c_TariffError) = some true)
    (kf1 : PySem.W.kitOne K (.ref c_NoLot) (.ref c_NoRule) = some false)
    (kf2 : PySem.W.kitOne K (.ref c_NoLot) (.ref c_NoNumber) = some false)
    (kf3 : PySem.W.kitOne K (.ref c_NoLot) (.ref c_NoEntry) = some false)
    (kf4 : PySem.W.kitOne K (.ref c_NoLot) (.ref c_NoDeed) = some false)
    (kn1 : PySem.W.kitOne K (.ref c_NoLot) (.ref c_NoLot) = some true)
    (kn2 : PySem.W.kitOne K (.ref c_NoLot) (.type "ValueError") = some true)
    (z_len : PySem.W.nsIn K mainGlobals "len" = some none)
    (z_range : PySem.W.nsIn K mainGlobals "range" = some none)
    (z_abs : PySem.W.nsIn K mainGlobals "abs" = some none)
    (z_max : PySem.W.nsIn K mainGlobals "max" = some none)
    (z_min : PySem.W.nsIn K mainGlobals "min" = some none)
    (z_isinstance : PySem.W.nsIn K mainGlobals "isinstance" = some none)
    (z_int : PySem.W.nsIn K mainGlobals "int" = some none)
    (z_bool : PySem.W.nsIn K mainGlobals "bool" = some none)
    (z_str : PySem.W.nsIn K mainGlobals "str" = some none)
    (z_list : PySem.W.nsIn K mainGlobals "list" = some none)
    (z_tuple : PySem.W.nsIn K mainGlobals "tuple" = some none)
    (z_sum : PySem.W.nsIn K mainGlobals "sum" = some none)
    (z_all : PySem.W.nsIn K mainGlobals "all" = some none)
    (z_enumerate : PySem.W.nsIn K mainGlobals "enumerate" = some none)
    (z_zip : PySem.W.nsIn K mainGlobals "zip" = some none)
    (z_ValueError : PySem.W.nsIn K mainGlobals "ValueError" = some none)
    (z_any : PySem.W.nsIn K mainGlobals "any" = some none)
    (z_set : PySem.W.nsIn K mainGlobals "set" = some none)
    (z_sorted : PySem.W.nsIn K mainGlobals "sorted" = some none)
    : ∃ fd : FuncData, (∀ (s : Shared) (v : Value), BindsTo s fd ⟨[v], []⟩ [("_law_script", v)]) ∧ ∀ base : Heap, K.In base → base.Ns mainGlobals mg → FnOk l.prog w K mg base CX0 7 fa fd ["_law_script"] (spLaw K) := by
  have e := hfa.symm.trans (PySem.W.mg_of X G a23)
  cases e
  have F1 := fun_mk (st := s_is_whole) l1 c1 k1
  have F2 := fun_mk (st := s_is_name) l2 c2 k2
  have F3 := fun_mk (st := s_is_prefix) l3 c3 k3
  have F4 := fun_mk (st := s_is_number) l4 c4 k4
  have F5 := fun_mk (st := s_is_price) l5 c5 k5
  have F6 := fun_mk (st := s_are_inputs) l6 c6 k6
  have F7 := fun_mk (st := s_price_of_inputs) l7 c7 k7
  have F8 := fun_mk (st := s_is_lot) l8 c8 k8
  have F9 := fun_mk (st := s_lots_of) l9 c9 k9
  have F10 := fun_mk (st := s_law_cell_at) l10 c10 k10
  have F11 := fun_mk (st := s_law_mix) l11 c11 k11
  have F12 := fun_mk (st := s_law_whole) l12 c12 k12
  have F13 := fun_mk (st := s_law_number) l13 c13 k13
  have F14 := fun_mk (st := s_law_lands) l14 c14 k14
  have F15 := fun_mk (st := s_law_inputs) l15 c15 k15
  have F16 := fun_mk (st := s_law_lot) l16 c16 k16
  have F17 := fun_mk (st := s_law_lots) l17 c17 k17
  have F18 := fun_mk (st := s_law_bad_word) l18 c18 k18
  have F19 := fun_mk (st := s_law_bad_inputs) l19 c19 k19
  have F20 := fun_mk (st := s_law_spoilt) l20 c20 k20
  have F21 := fun_mk (st := s_law_refused) l21 c21 k21
  have F22 := fun_mk (st := s_law_same) l22 c22 k22
  have F23 := fun_mk (st := s_law) l23 c23 k23
  have b1 := F1.binds (ps := ["thing"]) fun _ _ _ _ _ _ us hl => match us, hl with | [_], _ => rfl
  have b2 := F2.binds (ps := ["thing"]) fun _ _ _ _ _ _ us hl => match us, hl with | [_], _ => rfl
  have b3 := F3.binds (ps := ["thing"]) fun _ _ _ _ _ _ us hl => match us, hl with | [_], _ => rfl
  have b4 := F4.binds (ps := ["thing"]) fun _ _ _ _ _ _ us hl => match us, hl with | [_], _ => rfl
  have b5 := F5.binds (ps := ["thing"]) fun _ _ _ _ _ _ us hl => match us, hl with | [_], _ => rfl
  have b6 := F6.binds (ps := ["thing", "many"]) fun _ _ _ _ _ _ us hl => match us, hl with | [_, _], _ => rfl
  have b7 := F7.binds (ps := ["lots", "inputs"]) fun _ _ _ _ _ _ us hl => match us, hl with | [_, _], _ => rfl
  have b8 := F8.binds (ps := ["thing", "ahead"]) fun _ _ _ _ _ _ us hl => match us, hl with | [_, _], _ => rfl
  have b9 := F9.binds (ps := ["rows"]) fun _ _ _ _ _ _ us hl => match us, hl with | [_], _ => rfl
  have b10 := F10.binds (ps := ["_law_script", "_law_k"]) fun _ _ _ _ _ _ us hl => match us, hl with | [_, _], _ => rfl
  have b11 := F11.binds (ps := ["_law_cell", "_law_by"]) fun _ _ _ _ _ _ us hl => match us, hl with | [_, _], _ => rfl
  have b12 := F12.binds (ps := ["_law_thing"]) fun _ _ _ _ _ _ us hl => match us, hl with | [_], _ => rfl
  have b13 := F13.binds (ps := ["_law_cell"]) fun _ _ _ _ _ _ us hl => match us, hl with | [_], _ => rfl
  have b14 := F14.binds (ps := ["_law_cell"]) fun _ _ _ _ _ _ us hl => match us, hl with | [_], _ => rfl
  have b15 := F15.binds (ps := ["_law_cell", "_law_many"]) fun _ _ _ _ _ _ us hl => match us, hl with | [_, _], _ => rfl
  have b16 := F16.binds (ps := ["_law_lots_here", "_law_lands_here", "_law_cells"]) fun _ _ _ _ _ _ us hl => match us, hl with | [_, _, _], _ => rfl
  have b17 := F17.binds (ps := ["_law_script"]) fun _ _ _ _ _ _ us hl => match us, hl with | [_], _ => rfl
  have b18 := F18.binds (ps := ["_law_lot_here", "_law_cell"]) fun _ _ _ _ _ _ us hl => match us, hl with | [_, _], _ => rfl
  have b19 := F19.binds (ps := ["_law_lot_here", "_law_at", "_law_total", "_law_cell"]) fun _ _ _ _ _ _ us hl => match us, hl with | [_, _, _, _], _ => rfl
  have b20 := F20.binds (ps := ["_law_lots_here", "_law_cell"]) fun _ _ _ _ _ _ us hl => match us, hl with | [_, _], _ => rfl
  have b21 := F21.binds (ps := ["_law_rows"]) fun _ _ _ _ _ _ us hl => match us, hl with | [_], _ => rfl
  have b22 := F22.binds (ps := ["_law_found", "_law_lots_here"]) fun _ _ _ _ _ _ us hl => match us, hl with | [_, _], _ => rfl
  have M : Mg mg := ⟨PySem.W.mg_none_of X G z_len, PySem.W.mg_none_of X G z_range, PySem.W.mg_none_of X G z_abs, PySem.W.mg_none_of X G z_max, PySem.W.mg_none_of X G z_min, PySem.W.mg_none_of X G z_isinstance, PySem.W.mg_none_of X G z_int, PySem.W.mg_none_of X G z_bool, PySem.W.mg_none_of X G z_str, PySem.W.mg_none_of X G z_list, PySem.W.mg_none_of X G z_tuple, PySem.W.mg_none_of X G z_sum, PySem.W.mg_none_of X G z_all, PySem.W.mg_none_of X G z_enumerate, PySem.W.mg_none_of X G z_zip, PySem.W.mg_none_of X G z_ValueError, PySem.W.mg_none_of X G z_any, PySem.W.mg_none_of X G z_set, PySem.W.mg_none_of X G z_sorted⟩
  refine ⟨PySem.W.fnOf "law" "law" (defArgs s_law) (defBody s_law) (defScope s_law) .none kV23 dc23 pm23 an23 cd23 ct23, fun s v => .of_eq rfl, fun base _ _ => ?_⟩
  have A_TariffError := PySem.W.mg_of X G n_TariffError
  have A_NoNumber := PySem.W.mg_of X G n_NoNumber
  have A_NoRule := PySem.W.mg_of X G n_NoRule
  have A_NoLot := PySem.W.mg_of X G n_NoLot
  have A_NoEntry := PySem.W.mg_of X G n_NoEntry
  have A_NoDeed := PySem.W.mg_of X G n_NoDeed
  have R_NoLot : XRaise K mg "NoLot" c_NoLot := ⟨A_NoLot, e_NoLot⟩
  have X_TariffError : XCatch K mg "TariffError" c_TariffError := ⟨A_TariffError, (fun z => by unfold PySem.W.isClsIn at ci_TariffError; rw [z] at ci_TariffError; cases ci_TariffError), ct_TariffError, cb_TariffError⟩
  have K_NoLot : XCls K c_NoLot := ⟨xga_NoLot, xgt_NoLot, xca_NoLot, xcn_NoLot, xtk_NoLot, xmo_NoLot, xmb_NoLot, xis_NoLot⟩
  have C_is_whole : Cal l.prog w K mg base CX0 "is_whole" 1 ["thing"] (spIsWhole K) := ⟨⟨_, _, ok_is_whole F1 M, b1, k1, PySem.W.mg_of X G a1⟩⟩
  have C_is_name : Cal l.prog w K mg base CX0 "is_name" 1 ["thing"] (spIsName K) := ⟨⟨_, _, ok_is_name F2 M, b2, k2, PySem.W.mg_of X G a2⟩⟩
  have C_is_prefix : Cal l.prog w K mg base CX0 "is_prefix" 2 ["thing"] (spIsPrefix K) := ⟨⟨_, _, ok_is_prefix F3 M C_is_whole, b3, k3, PySem.W.mg_of X G a3⟩⟩
  have C_is_number : Cal l.prog w K mg base CX0 "is_number" 3 ["thing"] (spIsNumber K) := ⟨⟨_, _, ok_is_number F4 M C_is_prefix, b4, k4, PySem.W.mg_of X G a4⟩⟩
  have C_is_price : Cal l.prog w K mg base CX0 "is_price" 2 ["thing"] (spIsPrice K) := ⟨⟨_, _, ok_is_price F5 M C_is_whole, b5, k5, PySem.W.mg_of X G a5⟩⟩
  have C_are_inputs : Cal l.prog w K mg base CX0 "are_inputs" 2 ["thing", "many"] (spAreInputs K) := ⟨⟨_, _, ok_are_inputs F6 M C_is_whole, b6, k6, PySem.W.mg_of X G a6⟩⟩
  have C_price_of_inputs : Cal l.prog w K mg base CX0 "price_of_inputs" 1 ["lots", "inputs"] (spPriceOf K) := ⟨⟨_, _, ok_price_of_inputs F7 M, b7, k7, PySem.W.mg_of X G a7⟩⟩
  have C_is_lot : Cal l.prog w K mg base CX0 "is_lot" 4 ["thing", "ahead"] (spIsLot K) := ⟨⟨_, _, ok_is_lot F8 M C_is_name C_is_number C_is_price C_are_inputs C_price_of_inputs, b8, k8, PySem.W.mg_of X G a8⟩⟩
  have C_lots_of : Cal l.prog w K mg base (CXE l.prog w) "lots_of" 5 ["rows"] (spLotsOf K c_NoLot) := ⟨⟨_, _, ok_lots_of F9 M C_is_lot R_NoLot, b9, k9, PySem.W.mg_of X G a9⟩⟩
  have C_law_cell_at : Cal l.prog w K mg base CX0 "_law_cell_at" 1 ["_law_script", "_law_k"] (spCellX K) := ⟨⟨_, _, ok_law_cell_at F10 M, b10, k10, PySem.W.mg_of X G a10⟩⟩
  have C_law_mix : Cal l.prog w K mg base CX0 "_law_mix" 1 ["_law_cell", "_law_by"] (spMix) := ⟨⟨_, _, ok_law_mix F11 M, b11, k11, PySem.W.mg_of X G a11⟩⟩
  have C_law_whole : Cal l.prog w K mg base CX0 "_law_whole" 1 ["_law_thing"] (spWholeV) := ⟨⟨_, _, ok_law_whole F12 M, b12, k12, PySem.W.mg_of X G a12⟩⟩
  have C_law_number : Cal l.prog w K mg base CX0 "_law_number" 2 ["_law_cell"] (spNumber K) := ⟨⟨_, _, ok_law_number F13 M C_law_mix, b13, k13, PySem.W.mg_of X G a13⟩⟩
  have C_law_lands : Cal l.prog w K mg base CX0 "_law_lands" 2 ["_law_cell"] (spLands K) := ⟨⟨_, _, ok_law_lands F14 M C_law_mix, b14, k14, PySem.W.mg_of X G a14⟩⟩
  have C_law_inputs : Cal l.prog w K mg base CX0 "_law_inputs" 2 ["_law_cell", "_law_many"] (spInputs K) := ⟨⟨_, _, ok_law_inputs F15 M C_law_mix, b15, k15, PySem.W.mg_of X G a15⟩⟩
  have C_law_lot : Cal l.prog w K mg base CX0 "_law_lot" 3 ["_law_lots_here", "_law_lands_here", "_law_cells"] (spLot K) := ⟨⟨_, _, ok_law_lot F16 M C_law_inputs C_law_number, b16, k16, PySem.W.mg_of X G a16⟩⟩
  have C_law_lots : Cal l.prog w K mg base CX0 "_law_lots" 4 ["_law_script"] (spLots K) := ⟨⟨_, _, ok_law_lots F17 M C_law_cell_at C_law_lands C_law_lot, b17, k17, PySem.W.mg_of X G a17⟩⟩
  have C_law_bad_word : Cal l.prog w K mg base CX0 "_law_bad_word" 1 ["_law_lot_here", "_law_cell"] (spBadW K) := ⟨⟨_, _, ok_law_bad_word F18 M, b18, k18, PySem.W.mg_of X G a18⟩⟩
  have C_law_bad_inputs : Cal l.prog w K mg base CX0 "_law_bad_inputs" 1 ["_law_lot_here", "_law_at", "_law_total", "_law_cell"] (spBadI K) := ⟨⟨_, _, ok_law_bad_inputs F19 M, b19, k19, PySem.W.mg_of X G a19⟩⟩
  have C_law_spoilt : Cal l.prog w K mg base CX0 "_law_spoilt" 2 ["_law_lots_here", "_law_cell"] (spSpoilt K) := ⟨⟨_, _, ok_law_spoilt F20 M C_law_mix C_law_bad_word C_law_bad_inputs, b20, k20, PySem.W.mg_of X G a20⟩⟩
  have C_law_refused : Cal l.prog w K mg base CX0 "_law_refused" 6 ["_law_rows"] (spRefused K) := ⟨⟨_, _, ok_law_refused F21 M C_lots_of A_NoLot A_NoRule A_NoNumber A_NoEntry A_NoDeed X_TariffError K_NoLot sub2 kf1 kf2 kf3 kf4 kn1 kn2, b21, k21, PySem.W.mg_of X G a21⟩⟩
  have C_law_same : Cal l.prog w K mg base CX0 "_law_same" 2 ["_law_found", "_law_lots_here"] (spSame K) := ⟨⟨_, _, ok_law_same F22 M C_law_whole, b22, k22, PySem.W.mg_of X G a22⟩⟩
  exact ok_law F23 M C_lots_of C_law_cell_at C_law_lots C_law_spoilt C_law_refused C_law_same
theorem walk {l : PySem.W.OpenLaw} {q : Program} {loose : List Str} {XP : (Str → Option Value) → Heap → Prop} {YP : World → Heap → Prop} {d : DefRec} {K : Params → PySem.W.Frag} (hn : l.most = some 63) (hdf : d.params.defaults = [])
    (hY : ∀ (w : World) (h : Heap), YP w h → (K w.params).In h)
    (F : ∀ (w : World) (mg : Str → Option Value) (fa : Addr) (h : Heap), (K w.params).In h → h.Ns mainGlobals mg → mg d.name = some (.ref fa) →
      ∃ fd : FuncData, (∀ (s : Shared) (u : Value), BindsTo s fd ⟨[u], []⟩ [("_law_script", u)]) ∧ ∀ base : Heap, (K w.params).In base → base.Ns mainGlobals mg → FnOk l.prog w (K w.params) mg base CX0 7 fa fd ["_law_script"] (spLaw (K w.params))) :
    PySem.W.WalkO q loose XP YP l.row.toRowW d [] (fun f vs => PySem.call f vs) :=
  L2.walk_of (n := 63) (k := 7) (x := "_law_script") (CX := fun _ => CX0) (sp := fun w => spLaw (K w.params)) hn (by decide) hdf ⟨rfl, by decide, by decide⟩ hY F (fun _ _ a ns hl _ hS => ⟨a, ns, rfl, hS, hl, fun _ => rfl⟩) fun _ _ _ _ _ z => z
end My
open PySem PySem.W PyProof.Rows
set_option maxRecDepth 100000 in
set_option maxHeartbeats 0 in
theorem PySem.Challenge.cw_tariffgate_k51_lots_refused_holds : PySem.Challenge.rw_tariffgate_k51_lots_refused.Holds := by
  w_on; o_law; k_head; (case hw => w_witness2)
  k_fill
  refine My.walk (l := PySem.Challenge.rw_tariffgate_k51_lots_refused) rfl rfl (fun w h Y => PySem.W.kIn_of Y) ?F
  case F =>
    intro w mg fa h KX G hmg
    refine' My.all_mk KX G hmg ?n_TariffError ?n_NoNumber ?n_NoRule ?n_NoLot ?n_NoEntry ?n_NoDeed ?a1 ?l1 ?c1 ?k1 ?a2 ?l2 ?c2 ?k2 ?a3 ?l3 ?c3 ?k3 ?a4 ?l4 ?c4 ?k4 ?a5 ?l5 ?c5 ?k5 ?a6 ?l6 ?c6 ?k6 ?a7 ?l7 ?c7 ?k7 ?a8 ?l8 ?c8 ?k8 ?a9 ?l9 ?c9 ?k9 ?a10 ?l10 ?c10 ?k10 ?a11 ?l11 ?c11 ?k11 ?a12 ?l12 ?c12 ?k12 ?a13 ?l13 ?c13 ?k13 ?a14 ?l14 ?c14 ?k14 ?a15 ?l15 ?c15 ?k15 ?a16 ?l16 ?c16 ?k16 ?a17 ?l17 ?c17 ?k17 ?a18 ?l18 ?c18 ?k18 ?a19 ?l19 ?c19 ?k19 ?a20 ?l20 ?c20 ?k20 ?a21 ?l21 ?c21 ?k21 ?a22 ?l22 ?c22 ?k22 ?a23 ?l23 ?c23 ?k23 ?e_NoLot ?ci_TariffError ?ct_TariffError ?cb_TariffError ?xga_NoLot ?xgt_NoLot ?xca_NoLot ?xcn_NoLot ?xtk_NoLot ?xmo_NoLot ?xmb_NoLot ?xis_NoLot ?sub2 ?kf1 ?kf2 ?kf3 ?kf4 ?kn1 ?kn2 ?z_len ?z_range ?z_abs ?z_max ?z_min ?z_isinstance ?z_int ?z_bool ?z_str ?z_list ?z_tuple ?z_sum ?z_all ?z_enumerate ?z_zip ?z_ValueError ?z_any ?z_set ?z_sorted
    (case n_TariffError => first | k_is | k_exc | kit_is)
    (case n_NoNumber => first | k_is | k_exc | kit_is)
    (case n_NoRule => first | k_is | k_exc | kit_is)
    (case n_NoLot => first | k_is | k_exc | kit_is)
    (case n_NoEntry => first | k_is | k_exc | kit_is)
    (case n_NoDeed => first | k_is | k_exc | kit_is)
    (case a1 => first | k_is | k_exc | kit_is)
    (case l1 => first | k_is | k_exc | kit_is)
    (case c1 => first | k_is | k_exc | kit_is)
    (case k1 => first | k_is | k_exc | kit_is)
    (case a2 => first | k_is | k_exc | kit_is)
    (case l2 => first | k_is | k_exc | kit_is)
    (case c2 => first | k_is | k_exc | kit_is)
    (case k2 => first | k_is | k_exc | kit_is)
    (case a3 => first | k_is | k_exc | kit_is)
    (case l3 => first | k_is | k_exc | kit_is)
    (case c3 => first | k_is | k_exc | kit_is)
    (case k3 => first | k_is | k_exc | kit_is)
    (case a4 => first | k_is | k_exc | kit_is)
    (case l4 => first | k_is | k_exc | kit_is)
    (case c4 => first | k_is | k_exc | kit_is)
    (case k4 => first | k_is | k_exc | kit_is)
    (case a5 => first | k_is | k_exc | kit_is)
    (case l5 => first | k_is | k_exc | kit_is)
    (case c5 => first | k_is | k_exc | kit_is)
    (case k5 => first | k_is | k_exc | kit_is)
    (case a6 => first | k_is | k_exc | kit_is)
    (case l6 => first | k_is | k_exc | kit_is)
    (case c6 => first | k_is | k_exc | kit_is)
    (case k6 => first | k_is | k_exc | kit_is)
    (case a7 => first | k_is | k_exc | kit_is)
    (case l7 => first | k_is | k_exc | kit_is)
    (case c7 => first | k_is | k_exc | kit_is)
    (case k7 => first | k_is | k_exc | kit_is)
    (case a8 => first | k_is | k_exc | kit_is)
    (case l8 => first | k_is | k_exc | kit_is)
    (case c8 => first | k_is | k_exc | kit_is)
    (case k8 => first | k_is | k_exc | kit_is)
    (case a9 => first | k_is | k_exc | kit_is)
    (case l9 => first | k_is | k_exc | kit_is)
    (case c9 => first | k_is | k_exc | kit_is)
    (case k9 => first | k_is | k_exc | kit_is)
    (case a10 => first | k_is | k_exc | kit_is)
    (case l10 => first | k_is | k_exc | kit_is)
    (case c10 => first | k_is | k_exc | kit_is)
    (case k10 => first | k_is | k_exc | kit_is)
    (case a11 => first | k_is | k_exc | kit_is)
    (case l11 => first | k_is | k_exc | kit_is)
    (case c11 => first | k_is | k_exc | kit_is)
    (case k11 => first | k_is | k_exc | kit_is)
    (case a12 => first | k_is | k_exc | kit_is)
    (case l12 => first | k_is | k_exc | kit_is)
    (case c12 => first | k_is | k_exc | kit_is)
    (case k12 => first | k_is | k_exc | kit_is)
    (case a13 => first | k_is | k_exc | kit_is)
    (case l13 => first | k_is | k_exc | kit_is)
    (case c13 => first | k_is | k_exc | kit_is)
    (case k13 => first | k_is | k_exc | kit_is)
    (case a14 => first | k_is | k_exc | kit_is)
    (case l14 => first | k_is | k_exc | kit_is)
    (case c14 => first | k_is | k_exc | kit_is)
    (case k14 => first | k_is | k_exc | kit_is)
    (case a15 => first | k_is | k_exc | kit_is)
    (case l15 => first | k_is | k_exc | kit_is)
    (case c15 => first | k_is | k_exc | kit_is)
    (case k15 => first | k_is | k_exc | kit_is)
    (case a16 => first | k_is | k_exc | kit_is)
    (case l16 => first | k_is | k_exc | kit_is)
    (case c16 => first | k_is | k_exc | kit_is)
    (case k16 => first | k_is | k_exc | kit_is)
    (case a17 => first | k_is | k_exc | kit_is)
    (case l17 => first | k_is | k_exc | kit_is)
    (case c17 => first | k_is | k_exc | kit_is)
    (case k17 => first | k_is | k_exc | kit_is)
    (case a18 => first | k_is | k_exc | kit_is)
    (case l18 => first | k_is | k_exc | kit_is)
    (case c18 => first | k_is | k_exc | kit_is)
    (case k18 => first | k_is | k_exc | kit_is)
    (case a19 => first | k_is | k_exc | kit_is)
    (case l19 => first | k_is | k_exc | kit_is)
    (case c19 => first | k_is | k_exc | kit_is)
    (case k19 => first | k_is | k_exc | kit_is)
    (case a20 => first | k_is | k_exc | kit_is)
    (case l20 => first | k_is | k_exc | kit_is)
    (case c20 => first | k_is | k_exc | kit_is)
    (case k20 => first | k_is | k_exc | kit_is)
    (case a21 => first | k_is | k_exc | kit_is)
    (case l21 => first | k_is | k_exc | kit_is)
    (case c21 => first | k_is | k_exc | kit_is)
    (case k21 => first | k_is | k_exc | kit_is)
    (case a22 => first | k_is | k_exc | kit_is)
    (case l22 => first | k_is | k_exc | kit_is)
    (case c22 => first | k_is | k_exc | kit_is)
    (case k22 => first | k_is | k_exc | kit_is)
    (case a23 => first | k_is | k_exc | kit_is)
    (case l23 => first | k_is | k_exc | kit_is)
    (case c23 => first | k_is | k_exc | kit_is)
    (case k23 => first | k_is | k_exc | kit_is)
    (case e_NoLot => first | k_is | k_exc | kit_is)
    (case ci_TariffError => first | k_is | k_exc | kit_is)
    (case ct_TariffError => first | k_is | k_exc | kit_is)
    (case cb_TariffError => first | k_is | k_exc | kit_is)
    (case xga_NoLot => first | k_is | k_exc | kit_is)
    (case xgt_NoLot => first | k_is | k_exc | kit_is)
    (case xca_NoLot => first | k_is | k_exc | kit_is)
    (case xcn_NoLot => first | k_is | k_exc | kit_is)
    (case xtk_NoLot => first | k_is | k_exc | kit_is)
    (case xmo_NoLot => first | k_is | k_exc | kit_is)
    (case xmb_NoLot => first | k_is | k_exc | kit_is)
    (case xis_NoLot => first | k_is | k_exc | kit_is)
    (case sub2 => first | k_is | k_exc | kit_is)
    (case kf1 => first | k_is | k_exc | kit_is)
    (case kf2 => first | k_is | k_exc | kit_is)
    (case kf3 => first | k_is | k_exc | kit_is)
    (case kf4 => first | k_is | k_exc | kit_is)
    (case kn1 => first | k_is | k_exc | kit_is)
    (case kn2 => first | k_is | k_exc | kit_is)
    (case z_len => first | k_is | k_exc | kit_is)
    (case z_range => first | k_is | k_exc | kit_is)
    (case z_abs => first | k_is | k_exc | kit_is)
    (case z_max => first | k_is | k_exc | kit_is)
    (case z_min => first | k_is | k_exc | kit_is)
    (case z_isinstance => first | k_is | k_exc | kit_is)
    (case z_int => first | k_is | k_exc | kit_is)
    (case z_bool => first | k_is | k_exc | kit_is)
    (case z_str => first | k_is | k_exc | kit_is)
    (case z_list => first | k_is | k_exc | kit_is)
    (case z_tuple => first | k_is | k_exc | kit_is)
    (case z_sum => first | k_is | k_exc | kit_is)
    (case z_all => first | k_is | k_exc | kit_is)
    (case z_enumerate => first | k_is | k_exc | kit_is)
    (case z_zip => first | k_is | k_exc | kit_is)
    (case z_ValueError => first | k_is | k_exc | kit_is)
    (case z_any => first | k_is | k_exc | kit_is)
    (case z_set => first | k_is | k_exc | kit_is)
    (case z_sorted => first | k_is | k_exc | kit_is)
#print axioms PySem.Challenge.cw_tariffgate_k51_lots_refused_holds

