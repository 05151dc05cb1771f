import PyProof.Rows.All
import Wide.All
import OpenK.AllK
import Wide.FinOn
import Lean
import PyProof.EqAt
import PyProof.EqKinds
import PyProof.TupleCall
import PyProof.NeKinds
import PyProof.Draws
import PyProof.EnumMake
import PyProof.WalksEnum
import PyProof.Rows.EnumRows
import PyProof.ExcArgsOwn
import PyProof.ExcAttrAll.ValueError
import PyProof.ExcBaseAll.ValueError
import KE.KIsAll
import KE.KTryOn
import KE.RegKIsAll
import OpenK.KOwn
import PyProof.ZipIter
import PyProof.StrWalks
import PyProof.DictTable
import PyProof.SetNew
import PyProof.SetRoads
import PyProof.P3In
import PyProof.NeData
import PySem.Challenge.RW_tariffgate_k29_goods_refused
set_option Elab.async false
set_option linter.all false
set_option maxRecDepth 100000
namespace L2
open PySem PySem.Spec PyProof.Rows

abbrev Key := Sum Int Str
def keyIs : Key → Value → Bool
  | .inl k, v => Value.isInt k v
  | .inr x, v => Value.isStrOf x v
def keyH (w : World) : Key → Int
  | .inl k => hashInt k
  | .inr x => hashStr w x
theorem keyIs_shape : ∀ {k : Key} {v : Value}, keyIs k v = true → (∃ i t, k = Sum.inl i ∧ v = Value.int i t) ∨ (∃ x t, k = Sum.inr x ∧ v = Value.str x t)
  | .inl i, v, h => by
    obtain ⟨t, e⟩ := Value.isInt_shape (k := i) (v := v) h
    exact .inl ⟨i, t, rfl, e⟩
  | .inr x, v, h => by
    obtain ⟨t, e⟩ := Value.isStrOf_shape (x := x) (v := v) h
    exact .inr ⟨x, t, rfl, e⟩
theorem key_ll (a b : Int) : decide ((Sum.inl a : Key) = Sum.inl b) = (a == b) := by
  by_cases e : a = b
  · subst e; simp
  · have h : ¬ (Sum.inl a : Key) = Sum.inl b := fun q => e (Sum.inl.inj q)
    rw [decide_eq_false h]
    exact (beq_eq_false_iff_ne.mpr e).symm
theorem key_rr (a b : Str) : decide ((Sum.inr a : Key) = Sum.inr b) = decide (a = b) := by
  by_cases e : a = b
  · subst e; simp
  · have h : ¬ (Sum.inr a : Key) = Sum.inr b := fun q => e (Sum.inr.inj q)
    rw [decide_eq_false h, decide_eq_false e]
theorem key_lr (a : Int) (b : Str) : decide ((Sum.inl a : Key) = Sum.inr b) = false := decide_eq_false (fun q => nomatch q)
theorem key_rl (a : Str) (b : Int) : decide ((Sum.inr a : Key) = Sum.inl b) = false := decide_eq_false (fun q => nomatch q)

def mixKind (prog : Program) (w : World) : PySem.KeyKind prog w Key where
  is := keyIs
  hash := keyH w
  inj := fun v a b ha hb => by
    rcases keyIs_shape ha with ⟨i, t, rfl, rfl⟩ | ⟨x, t, rfl, rfl⟩
    · rcases keyIs_shape hb with ⟨j, u, rfl, e⟩ | ⟨y, u, rfl, e⟩
      · injection e with e1 _; rw [e1]
      · exact nomatch e
    · rcases keyIs_shape hb with ⟨j, u, rfl, e⟩ | ⟨y, u, rfl, e⟩
      · exact nomatch e
      · injection e with e1 _; rw [e1]
  byValue := fun k v h => by
    rcases keyIs_shape h with ⟨i, t, rfl, rfl⟩ | ⟨x, t, rfl, rfl⟩ <;> rfl
  pyHash := fun hv h => by
    rcases keyIs_shape hv with ⟨i, t, rfl, rfl⟩ | ⟨x, t, rfl, rfl⟩
    · exact wpAny_pyHash_int h
    · exact wpAny_pyHash_str h
  eqBool := fun hu hv h => by
    rcases keyIs_shape hu with ⟨i, t, rfl, rfl⟩ | ⟨x, t, rfl, rfl⟩
    · rcases keyIs_shape hv with ⟨j, u, rfl, rfl⟩ | ⟨y, u, rfl, rfl⟩
      · rw [key_ll] at h; exact wpAny_eqBool_int h
      · rw [key_lr] at h; exact SeqAt.EqAt.int_str i t y u _ _ _ _ h
    · rcases keyIs_shape hv with ⟨j, u, rfl, rfl⟩ | ⟨y, u, rfl, rfl⟩
      · rw [key_rl] at h; exact SeqAt.EqAt.str_int x t j u _ _ _ _ h
      · rw [key_rr] at h; exact wpAny_eqBool_str h
  «strs» := fun k x t v h => by
    rcases keyIs_shape h with ⟨i, u, rfl, e⟩ | ⟨y, u, rfl, e⟩
    · exact nomatch e
    · injection e with e1 _
      subst e1
      cases v <;> rfl

end L2

namespace L2
open PySem PySem.Spec PyProof.Rows

inductive V where
  | non | bl (b : Bool) | int (i : Int) | str (x : Str) | byt (b : Array UInt8) | flt (b : UInt64) | ref (a : Addr) | ty (n : String)
  deriving DecidableEq

def RelV : V → Value → Prop
  | .non, u => u = Value.none
  | .bl b, u => u = Value.bool b
  | .int i, u => ∃ t, u = Value.int i t
  | .str x, u => ∃ t, u = Value.str x t
  | .byt b, u => ∃ t, u = Value.bytes b t
  | .flt b, u => ∃ t, u = Value.float b t
  | .ref a, u => u = Value.ref a
  | .ty n, u => u = Value.type n

abbrev Vals : List V → List Value → Prop := Paired RelV
theorem Vals.length {xs : List V} {us : List Value} (r : Vals xs us) : xs.length = us.length := Paired.length r
theorem Vals.get : ∀ {xs : List V} {us : List Value} {i : Nat} {x : V}, Vals xs us → xs[i]? = some x → ∃ u, us[i]? = some u ∧ RelV x u
  | _, _, _, _, .nil, e => by simp at e
  | _, _, 0, _, .cons r _, e => by simp at e; subst e; exact ⟨_, rfl, r⟩
  | _, _, i + 1, x, .cons _ t, e => by
    obtain ⟨u, h1, h2⟩ := Vals.get (i := i) (x := x) t (by simpa using e)
    exact ⟨u, by simpa using h1, h2⟩
theorem Vals.set {x : V} {u : Value} (r : RelV x u) : ∀ {xs : List V} {us : List Value} (i : Nat), Vals xs us → Vals (xs.set i x) (us.set i u)
  | _, _, _, .nil => .nil
  | _, _, 0, .cons _ t => .cons r t
  | _, _, i + 1, .cons q t => .cons q (Vals.set r i t)
theorem Vals.append : ∀ {xs ys : List V} {us ws : List Value}, Vals xs us → Vals ys ws → Vals (xs ++ ys) (us ++ ws)
  | _, _, _, _, .nil, s => s
  | _, _, _, _, .cons r t, s => .cons r (Vals.append t s)
theorem Vals.take : ∀ {xs : List V} {us : List Value} (n : Nat), Vals xs us → Vals (xs.take n) (us.take n)
  | _, _, 0, _ => .nil
  | _, _, _ + 1, .nil => .nil
  | _, _, n + 1, .cons r t => .cons r (Vals.take n t)
theorem Vals.drop : ∀ {xs : List V} {us : List Value} (n : Nat), Vals xs us → Vals (xs.drop n) (us.drop n)
  | _, _, 0, r => r
  | _, _, _ + 1, .nil => .nil
  | _, _, n + 1, .cons _ t => Vals.drop n t
def RelO : Option V → Option Value → Prop
  | some v, some u => RelV v u
  | none, none => True
  | _, _ => False
def KV {κ : Type} : List (κ × V) → List (κ × Value) → Prop := Paired fun (p : κ × V) (q : κ × Value) => p.1 = q.1 ∧ RelV p.2 q.2

def kV : Key → V
  | .inl i => .int i
  | .inr x => .str x

inductive HO where
  /-- a list -/
  | lst (xs : List V)
  /-- a tuple (never changes) -/
  | tup (xs : List V)
  /-- a dict whose keys are ints and texts; one whose keys are tuples of ints and texts (the empty one is both) -/
  | dK (kvs : List (Key × V)) | dT (kvs : List (List Key × V))
  /-- a set of ints: its members, its size -/
  | set (S : Int → Bool) (n : Nat)
  /-- an instance of the class at C, its dict at dx, its attributes -/
  | ins (C dx : Addr) (fs : List (Str × V))
  /-- the dict of the instance at x -/
  | own (x : Addr)
  /-- the dict of an exception -/
  | xd (fs : List (Str × V))
  /-- a bound method, f of x -/
  | met (f x : Addr)
  /-- a range object lo, lo + 1, .. below hi -/
  | rng (lo hi : Int)
  /-- a thing that is known to the object (the script; a dict while a loop walks it): read, never written while it is so -/
  | frz (o : Obj) (u : HO)
  /-- a code object's table -/
  | tbl (ps : Array Value)
  /-- any other thing, by what is true of its one object (a def of one's own: SetO a S n := HO.ext fun h => ..) -/
  | ext (φ : Heap → Prop)

abbrev Hp := Addr → Option HO
def upd (H : Hp) (a : Addr) (o : HO) : Hp := fun b => if b = a then some o else H b
theorem upd_same {H : Hp} {a : Addr} {o : HO} : upd H a o a = some o := by unfold upd; rw [if_pos rfl]
theorem upd_ne {H : Hp} {a b : Addr} {o : HO} (h : b ≠ a) : upd H a o b = H b := by unfold upd; rw [if_neg h]
theorem ne_of {H : Hp} {a b : Addr} {o u : HO} (h : H a = some o) (h' : H b = some u) (d : o ≠ u) : a ≠ b := by
  intro e; subst e; rw [h] at h'; exact d (Option.some.inj h')
theorem ne_of_none {H : Hp} {a b : Addr} {o : HO} (h : H a = some o) (h' : H b = none) : a ≠ b := by
  intro e; subst e; rw [h] at h'; cases h'

section
variable (P : Program) (w : World)
def NoD (h : Heap) (a : Addr) : Prop := ∃ o, h.get? a = some o ∧ o.dict = none
def ObjOk (H : Hp) (h : Heap) (a : Addr) : HO → Prop
  | .lst xs => xs.length ≤ sizeLine ∧ ∃ (its : List Value) (n : Nat), Vals xs its ∧ h.get? a = some { cls := .type "list", data := .seq its.toArray n }
  | .tup xs => xs.length ≤ sizeLine ∧ ∃ its : List Value, Vals xs its ∧ IsTup h a its.toArray ∧ NoD h a
  | .dK kvs => kvs.length ≤ sizeLine ∧ (a == sysModules) = false ∧ ∃ vs, KV kvs vs ∧ h.DictOf (mixKind P w) a vs
  | .dT kvs => kvs.length ≤ sizeLine ∧ (a == sysModules) = false ∧ ∃ xs : List (List Key × Addr × Value),
      Paired (fun (p : List Key × V) (q : List Key × Addr × Value) => p.1 = q.1 ∧ H q.2.1 = some (.tup (p.1.map kV)) ∧ RelV p.2 q.2.2) kvs xs ∧
      ∃ o es ep, h.get? a = some o ∧ o.ExactDict ∧ o.data = .dict es ep ∧ es.toList = xs.map (entryOfKey (tupleKind (mixKind P w))) ∧ (xs.map (·.1)).Nodup
  | .set S n => h.SetOf (intKind P w) a S n
  | .ins C dx fs => H dx = some (.own a) ∧ fs.length ≤ 1000 ∧ dx ≠ a ∧ h.get? a = some (PySem.W.instObj C dx) ∧
      ∃ mA, h.Ns1 dx mA ∧ (∀ f, RelO (fs.lookup f) (mA f)) ∧ PySem.Within mA (fs.map (·.1))
  | .own _ => ∃ o, h.get? a = some o
  | .xd fs => ∃ mA, h.Ns1 a mA ∧ ∀ f, RelO (fs.lookup f) (mA f)
  | .rng lo hi => ∃ t u v, h.get? a = some { cls := .type "range", data := .fields #[.int lo t, .int hi u, .int 1 v] }
  | .frz o u => h.get? a = some o ∧ ObjOk H h a u
  | .tbl ps => h.get? a = some { cls := .none, data := .fields ps }
  | .met f x => h.get? a = some (PySem.W.methodObj (.ref f) (.ref x))
  | .ext φ => φ h ∧ (∃ o, h.get? a = some o) ∧ ∀ h1 h2 : Heap, φ h1 → (∀ o, h1.get? a = some o → h2.get? a = some o) → φ h2
def HOk (H : Hp) (h : Heap) : Prop := ∀ a o, H a = some o → ObjOk P w H h a o
end

section
variable {P : Program} {w : World} {H H' : Hp} {h h' : Heap} {a : Addr} {o : HO}
theorem ObjOk.lt (x : ObjOk P w H h a o) : a < h.objs.size := by
  cases o with
  | lst xs => obtain ⟨_, _, _, _, e⟩ := x; exact Heap.lt_size e
  | tup xs => obtain ⟨_, _, _, p, _⟩ := x; exact p.lt
  | dK kvs => obtain ⟨_, _, _, _, o, _, _, e, _⟩ := x; exact Heap.lt_size e
  | dT kvs => obtain ⟨_, _, _, _, o, _, _, e, _⟩ := x; exact Heap.lt_size e
  | set S n => obtain ⟨o, _, _, _, e, _⟩ := x; exact Heap.lt_size e
  | ins C dx fs => obtain ⟨_, _, _, e, _⟩ := x; exact Heap.lt_size e
  | own y => obtain ⟨_, e⟩ := x; exact Heap.lt_size e
  | xd fs => obtain ⟨_, ⟨_, _, _, e, _⟩, _⟩ := x; exact Heap.lt_size e
  | rng lo hi => obtain ⟨_, _, _, e⟩ := x; exact Heap.lt_size e
  | frz ob u => obtain ⟨e, _⟩ := x; exact Heap.lt_size e
  | tbl ps => exact Heap.lt_size (show h.get? a = some _ from x)
  | met f y => exact Heap.lt_size (show h.get? a = some _ from x)
  | ext φ => obtain ⟨_, ⟨_, e⟩, _⟩ := x; exact Heap.lt_size e
theorem Paired.mapP {α β : Type} {F G : α → β → Prop} : ∀ {l₁ : List α} {l₂ : List β}, Paired F l₁ l₂ → (∀ a b, F a b → G a b) → Paired G l₁ l₂
  | _, _, .nil, _ => .nil
  | _, _, .cons r t, f => .cons (f _ _ r) (Paired.mapP t f)
theorem ObjOk.stay (x : ObjOk P w H h a o) (k : ∀ b u, (b = a ∨ H b = some (.own a)) → h.get? b = some u → h'.get? b = some u)
    (ho : ∀ b, H b = some (.own a) → H' b = some (.own a)) (ht : ∀ b xs, H b = some (.tup xs) → H' b = some (.tup xs)) : ObjOk P w H' h' a o := by
  induction o with
  | lst xs => obtain ⟨z, its, n, r, e⟩ := x; exact ⟨z, its, n, r, k _ _ (.inl rfl) e⟩
  | tup xs => obtain ⟨z, its, r, ⟨ob, e, c⟩, o2, e2, d2⟩ := x; exact ⟨z, its, r, ⟨ob, k _ _ (.inl rfl) e, c⟩, o2, k _ _ (.inl rfl) e2, d2⟩
  | dK kvs => obtain ⟨z, y, vs, r, ob, es, ep, e, c⟩ := x; exact ⟨z, y, vs, r, ob, es, ep, k _ _ (.inl rfl) e, c⟩
  | dT kvs =>
    obtain ⟨z, y, xs, r, ob, es, ep, e, c⟩ := x
    exact ⟨z, y, xs, Paired.mapP r fun p q z => ⟨z.1, ht _ _ z.2.1, z.2.2⟩, ob, es, ep, k _ _ (.inl rfl) e, c⟩
  | set S n => obtain ⟨ob, es, ep, t, e, c⟩ := x; exact ⟨ob, es, ep, t, k _ _ (.inl rfl) e, c⟩
  | ins C dx fs =>
    obtain ⟨d, z, ne, e, mA, ⟨od, es, ep, e2, c⟩, r⟩ := x
    exact ⟨ho _ d, z, ne, k _ _ (.inl rfl) e, mA, ⟨od, es, ep, k _ _ (.inr d) e2, c⟩, r⟩
  | own y => obtain ⟨ob, e⟩ := x; exact ⟨ob, k _ _ (.inl rfl) e⟩
  | xd fs => obtain ⟨mA, ⟨od, es, ep, e, c⟩, r⟩ := x; exact ⟨mA, ⟨od, es, ep, k _ _ (.inl rfl) e, c⟩, r⟩
  | rng lo hi => obtain ⟨t, u, v, e⟩ := x; exact ⟨t, u, v, k _ _ (.inl rfl) e⟩
  | frz ob u ih => obtain ⟨e, q⟩ := x; exact ⟨k _ _ (.inl rfl) e, ih q⟩
  | tbl ps =>
    have e : h.get? a = some { cls := .none, data := .fields ps } := x
    show h'.get? a = some { cls := .none, data := .fields ps }
    exact k a _ (.inl rfl) e
  | met f y =>
    have e : h.get? a = some (PySem.W.methodObj (.ref f) (.ref y)) := x
    show h'.get? a = some (PySem.W.methodObj (.ref f) (.ref y))
    exact k a _ (.inl rfl) e
  | ext φ => obtain ⟨p, ⟨o, e⟩, st⟩ := x; exact ⟨st _ _ p fun o q => k _ _ (.inl rfl) q, ⟨o, k _ _ (.inl rfl) e⟩, st⟩
theorem HOk.lt (x : HOk P w H h) (e : H a = some o) : a < h.objs.size := (x a o e).lt
theorem HOk.fresh (x : HOk P w H h) (e : h.objs.size ≤ a) : H a = none := by
  cases q : H a with
  | none => rfl
  | some u => exact absurd (Nat.lt_of_lt_of_le (x.lt q) e) (Nat.lt_irrefl _)
theorem HOk.kept (x : HOk P w H h) (k : ∀ b u, h.get? b = some u → h'.get? b = some u) : HOk P w H h' := fun a o e =>
  (x a o e).stay (fun b u _ q => k b u q) (fun _ q => q) fun _ _ q => q
theorem HOk.laid (x : HOk P w H h) (k : ∀ b u, h.get? b = some u → h'.get? b = some u) (hp : h.objs.size ≤ a) (new : ObjOk P w (upd H a o) h' a o) : HOk P w (upd H a o) h' := fun b u e => by
  have hn := x.fresh hp
  by_cases hb : b = a
  · subst hb; rw [upd_same] at e; cases e; exact new
  · rw [upd_ne hb] at e
    exact (x b u e).stay (fun c v _ q => k c v q) (fun c q => by rw [upd_ne (ne_of_none q hn)]; exact q) fun c xs q => by rw [upd_ne (ne_of_none q hn)]; exact q
end

def Rd (H : Hp) (a : Addr) (u : HO) : Prop := H a = some u ∨ ∃ o, H a = some (.frz o u)
theorem Rd.of {H : Hp} {a : Addr} {u : HO} (h : H a = some u) : Rd H a u := .inl h
theorem Rd.ok {P : Program} {w : World} {H : Hp} {h : Heap} {a : Addr} {u : HO} (r : Rd H a u) (x : HOk P w H h) : ObjOk P w H h a u := by
  rcases r with r | ⟨o, r⟩
  · exact x a u r
  · obtain ⟨_, q⟩ := x a _ r
    exact q
def Mut : Option HO → Prop
  | some (.lst _) => True
  | some (.dK _) => True
  | some (.dT _) => True
  | some (.set _ _) => True
  | some (.ins _ _ _) => True
  | some (.ext _) => True
  | _ => False
section
variable {P : Program} {w : World} {H : Hp} {h h' : Heap} {x e : Addr} {o' : HO}
theorem HOk.write (ok : HOk P w H h) (mu : Mut (H x)) (he : e = x ∨ H e = some (.own x)) (k : ∀ b u, b ≠ e → h.get? b = some u → h'.get? b = some u) (heo : ∃ u, h'.get? e = some u)
    (new : ObjOk P w (upd H x o') h' x o') : HOk P w (upd H x o') h' := fun b u q => by
  have nown : ∀ c y, H c = some (.own y) → c ≠ x := fun c y r z => by subst z; rw [r] at mu; exact mu
  have ntup : ∀ c xs, H c = some (.tup xs) → c ≠ x := fun c xs r z => by subst z; rw [r] at mu; exact mu
  by_cases hb : b = x
  · subst hb; rw [upd_same] at q; cases q; exact new
  · rw [upd_ne hb] at q
    by_cases hbe : b = e
    · have q' : H b = some (.own x) := by
        rcases he with z | z
        · exact absurd (hbe.trans z) hb
        · rw [hbe]; exact z
      rw [q] at q'; cases q'
      obtain ⟨v, hv⟩ := heo
      exact ⟨v, by rw [hbe]; exact hv⟩
    · refine (ok b u q).stay (fun c v hc r => k c v ?_ r) (fun c r => by rw [upd_ne (nown c b r)]; exact r) fun c xs r => by rw [upd_ne (ntup c xs r)]; exact r
      rcases hc with rfl | hc
      · exact hbe
      · rintro rfl
        rcases he with z | z
        · exact nown c b hc z
        · rw [hc] at z; cases z; exact hb rfl
end

structure Un (fs ex : List Addr) (H H' : Hp) (h h' : Heap) : Prop where
  keep : ∀ b o, h.get? b = some o → H b = none → b ∉ fs → b ∉ ex → h'.get? b = some o
  slot : ∀ b o, h.get? b = some o → H b = none → b ∈ fs → b ∉ ex → ∃ sl, h'.get? b = some { o with slots := sl }
  free : ∀ b o, h.get? b = some o → H b = none → b ∉ ex → H' b = none
  there : ∀ b o, h.get? b = some o → b ∉ ex → ∃ o', h'.get? b = some o'
  tups : ∀ b xs, H b = some (.tup xs) → H' b = some (.tup xs)
  frzs : ∀ b o u, H b = some (.frz o u) → H' b = some (.frz o u)
  tbls : ∀ b ps, H b = some (.tbl ps) → ∃ more, H' b = some (.tbl (ps ++ more))
section
variable {fs fs' ex ex' : List Addr} {H H1 H2 : Hp} {h h1 h2 h' : Heap} {a x e : Addr} {o : HO}
theorem Un.any (u : Un fs ex H H1 h h1) {b : Addr} {ob : Obj} (q : h.get? b = some ob) (n : H b = none) (hx : b ∉ ex) : ∃ sl, h1.get? b = some { ob with slots := sl } := by
  by_cases hb : b ∈ fs
  · exact u.slot b ob q n hb hx
  · exact ⟨ob.slots, u.keep b ob q n hb hx⟩
theorem Un.trans (a : Un fs ex H H1 h h1) (b : Un fs ex H1 H2 h1 h2) : Un fs ex H H2 h h2 where
  keep := fun c ob q n hc hx => b.keep c ob (a.keep c ob q n hc hx) (a.free c ob q n hx) hc hx
  slot := fun c ob q n hc hx => by
    obtain ⟨sl, e1⟩ := a.slot c ob q n hc hx
    obtain ⟨sl', e2⟩ := b.slot c _ e1 (a.free c ob q n hx) hc hx
    exact ⟨sl', e2⟩
  free := fun c ob q n hx => by
    obtain ⟨o', e1⟩ := a.there c ob q hx
    exact b.free c o' e1 (a.free c ob q n hx) hx
  there := fun c ob q hx => by
    obtain ⟨o', e1⟩ := a.there c ob q hx
    exact b.there c o' e1 hx
  tups := fun c xs q => b.tups c xs (a.tups c xs q)
  frzs := fun c ob xs q => b.frzs c ob xs (a.frzs c ob xs q)
  tbls := fun c ps q => by
    obtain ⟨m1, e1⟩ := a.tbls c ps q
    obtain ⟨m2, e2⟩ := b.tbls c _ e1
    exact ⟨m1 ++ m2, by rw [e2, Array.append_assoc]⟩
theorem Un.kept (k : ∀ b u, h.get? b = some u → h'.get? b = some u) : Un fs ex H H h h' :=
  ⟨fun b ob q _ _ _ => k b ob q, fun b ob q _ _ _ => ⟨ob.slots, k b ob q⟩, fun _ _ _ n _ => n, fun b ob q _ => ⟨ob, k b ob q⟩, fun _ _ q => q, fun _ _ _ q => q, fun _ ps q => ⟨#[], by rw [q]; simp⟩⟩
theorem Un.refl : Un fs ex H H h h := Un.kept fun _ _ q => q
theorem Un.laid (k : ∀ b u, h.get? b = some u → h'.get? b = some u) (hp : h.objs.size ≤ a) (hn : H a = none) : Un fs ex H (upd H a o) h h' where
  keep := fun b u q _ _ _ => k b u q
  slot := fun b u q _ _ _ => ⟨u.slots, k b u q⟩
  free := fun b u q n _ => by rw [upd_ne (Nat.ne_of_lt (Nat.lt_of_lt_of_le (Heap.lt_size q) hp))]; exact n
  there := fun b u q _ => ⟨u, k b u q⟩
  tups := fun b xs q => by rw [upd_ne (ne_of_none q hn)]; exact q
  frzs := fun b u xs q => by rw [upd_ne (ne_of_none q hn)]; exact q
  tbls := fun b ps q => ⟨#[], by rw [upd_ne (ne_of_none q hn), q]; simp⟩
theorem Un.write (mu : Mut (H x)) (he : e = x ∨ H e = some (.own x)) (k : ∀ b u, b ≠ e → h.get? b = some u → h'.get? b = some u) (heo : ∃ u, h'.get? e = some u) : Un fs ex H (upd H x o) h h' := by
  have hx : ∀ b, H b = none → b ≠ x := fun b n z => by subst z; rw [n] at mu; exact mu
  have hb : ∀ b, H b = none → b ≠ e := fun b n z => by
    subst z
    rcases he with r | r
    · exact hx b n r
    · rw [n] at r; cases r
  have hm : ∀ b u, H b = some u → ¬ Mut (some u) → b ≠ x := fun b u q nm z => by subst z; rw [q] at mu; exact nm mu
  refine ⟨fun b u q n _ _ => k b u (hb b n) q, fun b u q n _ _ => ⟨u.slots, k b u (hb b n) q⟩, fun b u q n _ => by rw [upd_ne (hx b n)]; exact n, fun b u q _ => ?_,
    fun b xs q => by rw [upd_ne (hm b _ q fun z => z)]; exact q, fun b u xs q => by rw [upd_ne (hm b _ q fun z => z)]; exact q, fun b ps q => ⟨#[], by rw [upd_ne (hm b _ q fun z => z), q]; simp⟩⟩
  by_cases hbe : b = e
  · subst hbe; exact heo
  · exact ⟨u, k b u hbe q⟩
theorem Un.mono (u : Un fs ex H H1 h h1) (hs : ∀ b ∈ fs, b ∈ fs') (hx : ∀ b ∈ ex, b ∈ ex') : Un fs' ex' H H1 h h1 :=
  ⟨fun b ob q n hb he => u.keep b ob q n (fun z => hb (hs b z)) fun z => he (hx b z), fun _ _ q n _ he => u.any q n fun z => he (hx _ z), fun b ob q n he => u.free b ob q n fun z => he (hx b z), fun b ob q he => u.there b ob q fun z => he (hx b z), u.tups, u.frzs, u.tbls⟩
end

def trk (h : Heap) (H : Hp) : List Addr := (List.range h.objs.size).filter fun a => (H a).isSome
def hidT (h : Heap) (H : Hp) : Heap := PySem.W.hideAll h (trk h H)
theorem hidT_size (h : Heap) (H : Hp) : (hidT h H).objs.size = h.objs.size := PySem.W.hideAll_size _ _
theorem hidT_get {h : Heap} {H : Hp} {b : Addr} {o : Obj} (e : h.get? b = some o) (n : H b = none) : (hidT h H).get? b = some o :=
  PySem.W.hideAll_get _ e fun hm => by
    have q : (H b).isSome = true := (List.mem_filter.mp hm).2
    rw [n] at q; simp at q
theorem of_hidT {h : Heap} {H : Hp} {b : Addr} {o : Obj} (e : (hidT h H).get? b = some o) : h.get? b = some o ∧ H b = none := by
  have e' : h.get? b = some o := PySem.W.of_hideAll (trk h H) e
  refine ⟨e', ?_⟩
  cases q : H b with
  | none => rfl
  | some x =>
    have hm : b ∈ trk h H := List.mem_filter.mpr ⟨List.mem_range.mpr (Heap.lt_size e'), by simp [q]⟩
    have z : (hidT h H).get? b = none := PySem.W.hideAll_none (trk h H) hm
    rw [z] at e; cases e

def allNews (g h : Heap) (L : Addr) : List (Addr × Obj) := (List.range h.objs.size).filterMap fun a => if a = L ∨ (g.get? a).isSome = true then none else (h.get? a).map fun o => (a, o)
def rest (g h : Heap) (L d : Addr) : List (Addr × Obj) := (allNews g h L).filter fun p => decide (p.1 ≠ d)
end L2

namespace L2
open PySem PySem.Spec PyProof.Rows

structure Mod (K : PySem.W.Frag) (mg : Str → Option Value) (base : Heap) : Prop where
  kin : K.In base
  glob : base.Ns mainGlobals mg
  blt : ∃ mb, base.Ns builtinsNs mb ∧ ∀ x : Str, x ≠ "__name__" → mb x = bootBuiltins x
  nolimit : base.NoLimit

structure Cx where
  prog : Program
  w : World
  K : PySem.W.Frag
  mg : Str → Option Value
  base : Heap
  A : Around
  N : List Str
  s₀ : Shared
  H₀ : Hp
  env : Env
  outer : List Env
  stack : List Env
  ex : List Addr
  fn : Str → Bool
  calm : Bool
  pn : List (Addr × Obj)
  xe : Value → Shared → Prop
def frs (l : List Env) : List Addr := l.filterMap (·.frame)
abbrev Cx.fs (X : Cx) : List Addr := frs X.outer

def Vis (sc : Scope) (x : Str) : Prop := sc.names.lookup x = some .local ∨ sc.names.lookup x = some .cell ∨ sc.names.lookup x = some .free
def Loc (sc : Scope) (x : Str) : Prop := sc.names.lookup x = some .local ∨ sc.names.lookup x = some .cell
def Look (env : Env) (h : Heap) (m : Str → Option Value) (x : Str) (u : Value) : Prop :=
  (env.kindOf x = some .local ∧ m x = some u) ∨ ((env.kindOf x = some .cell ∨ env.kindOf x = some .free) ∧ ∃ c, env.cells.lookup x = some c ∧ h.IsCell c (some u))

structure Cx.Ok (X : Cx) : Prop where
  mod : Mod X.K X.mg X.base
  kind : X.env.scope.kind = .function
  glob : X.env.globals = mainGlobals
  blt : X.env.builtins = builtinsNs
  above : X.s₀.heap.objs.size ≤ X.env.locals
  inj : ∀ x y c, X.env.cells.lookup x = some c → X.env.cells.lookup y = some c → x = y
  has : ∀ x, (X.env.kindOf x = some .cell ∨ X.env.kindOf x = some .free) → ∃ c, X.env.cells.lookup x = some c
  cab : ∀ x c, X.fn x = true → X.env.cells.lookup x = some c → X.s₀.heap.objs.size ≤ c
  hd : X.calm = true → X.A.handled = none
  frames : X.A.frames = some X.stack
  stk : X.stack = X.outer ∨ (X.stack = X.env :: X.outer ∧ X.env.frame = some X.env.locals)
  exf : ∀ b ∈ X.ex, b ≠ X.env.locals ∧ ∀ x c, X.env.cells.lookup x = some c → c ≠ b
  bs : ∀ b o, X.base.get? b = some o → X.s₀.heap.get? b = some o ∧ X.H₀ b = none
  bsz : X.base.objs.size ≤ X.s₀.heap.objs.size
  noex : ∀ b o, X.base.get? b = some o → b ∉ X.ex
  exfs : ∀ b ∈ X.ex, b ∉ X.fs
  funs : X.s₀.heap.FunFrames X.base X.outer
  frf : ∀ b ∈ X.fs, X.H₀ b = none

structure Inv (X : Cx) (pins : List (Addr × Obj)) (σ : List (Option V)) (H : Hp) (s : Shared) : Prop where
  ok : X.Ok
  os : s.os = X.s₀.os
  bare : AllBare s.gens
  base : Un X.fs X.ex X.H₀ H X.s₀.heap s.heap
  loc : ∃ m, s.heap.Ns X.env.locals m ∧ ∀ (i : Nat) (x : Str) (v : V), X.N[i]? = some x → σ[i]? = some (some v) → Vis X.env.scope x → ∃ u, RelV v u ∧ Look X.env s.heap m x u
  cell : ∀ x c, X.env.cells.lookup x = some c → ∃ v, s.heap.IsCell c v
  free : H X.env.locals = none
  freeC : ∀ x c, X.env.cells.lookup x = some c → H c = none
  pin : ∀ p ∈ X.pn ++ pins, s.heap.get? p.1 = some p.2 ∧ H p.1 = none ∧ p.1 ≠ X.env.locals ∧ p.1 ∉ X.fs ∧ ∀ v, p.2.data ≠ .cell v
  hok : HOk X.prog X.w H s.heap
  len : σ.length = X.N.length

section
variable {X : Cx} {pins : List (Addr × Obj)} {σ : List (Option V)} {H H' : Hp} {s : Shared} {h' : Heap}

theorem Cx.Ok.nofr (ok : X.Ok) {b : Addr} {o : Obj} (e : X.base.get? b = some o) : b ∉ X.fs := fun hb => by
  have := (ok.funs.mem hb).1
  rw [e] at this; cases this
theorem Inv.bs (I : Inv X pins σ H s) : ∀ b o, X.base.get? b = some o → s.heap.get? b = some o ∧ H b = none := fun b o e =>
  ⟨I.base.keep b o (I.ok.bs b o e).1 (I.ok.bs b o e).2 (I.ok.nofr e) (I.ok.noex b o e), I.base.free b o (I.ok.bs b o e).1 (I.ok.bs b o e).2 (I.ok.noex b o e)⟩
theorem Inv.bk (I : Inv X pins σ H s) : ∀ b o, X.base.get? b = some o → s.heap.get? b = some o := fun b o e => (I.bs b o e).1
theorem Inv.mod (I : Inv X pins σ H s) : Mod X.K X.mg X.base := I.ok.mod
theorem Inv.kIn (I : Inv X pins σ H s) : X.K.In s.heap := I.ok.mod.kin.keeps I.bk
theorem Inv.nolimit (I : Inv X pins σ H s) : s.heap.NoLimit := I.ok.mod.nolimit.keeps I.bk
theorem Inv.fr (I : Inv X pins σ H s) : ∃ m, Fr X.base X.env.locals s.heap m :=
  let ⟨m, hn, _⟩ := I.loc
  ⟨m, hn, I.bk, Nat.le_trans I.ok.bsz I.ok.above⟩
theorem Inv.lt (I : Inv X pins σ H s) : X.env.locals < s.heap.objs.size := let ⟨_, hn, _⟩ := I.loc; hn.lt
theorem Inv.sz (I : Inv X pins σ H s) : X.s₀.heap.objs.size ≤ s.heap.objs.size := Nat.le_trans I.ok.above (Nat.le_of_lt I.lt)
theorem Inv.nofs (I : Inv X pins σ H s) {a : Addr} (h : s.heap.objs.size ≤ a) : a ∉ X.fs := fun hb => by
  obtain ⟨_, o, ho, _⟩ := I.ok.funs.mem hb
  exact absurd (Nat.lt_of_lt_of_le (Heap.lt_size ho) (Nat.le_trans I.sz h)) (Nat.lt_irrefl _)
theorem Inv.cne (I : Inv X pins σ H s) : ∀ x c, X.env.cells.lookup x = some c → c ≠ X.env.locals := fun x c e z => by
  obtain ⟨v, o, ho, hd⟩ := I.cell x c e
  obtain ⟨m, ⟨o', es, ep, ho', hd', _⟩, _⟩ := I.loc
  rw [z, ho'] at ho; cases ho; rw [hd'] at hd; cases hd
theorem Inv.funs (I : Inv X pins σ H s) : s.heap.FunFrames X.base X.outer := by
  have all : ∀ (l : List Env), (∀ b ∈ frs l, b ∈ X.fs) → X.s₀.heap.FunFrames X.base l → s.heap.FunFrames X.base l := by
    intro l
    induction l with
    | nil => intro _ _; trivial
    | cons env r ih =>
      intro hs hl
      obtain ⟨hk, ⟨L, o, hf, hn, ho, hd⟩, hr⟩ := hl
      have hL : L ∈ X.fs := hs L (by unfold frs; rw [List.filterMap_cons, hf]; exact List.mem_cons_self)
      obtain ⟨sl, e⟩ := I.base.slot L o ho (I.ok.frf L hL) hL fun z => I.ok.exfs L z hL
      exact ⟨hk, ⟨L, _, hf, hn, e, hd⟩, ih (fun b hb => hs b (by unfold frs; rw [List.filterMap_cons, hf]; exact List.mem_cons_of_mem _ hb)) hr⟩
  exact all X.outer (fun _ hb => hb) I.ok.funs

theorem Inv.stack (I : Inv X pins σ H s) : s.heap.FunFrames X.base X.stack := by
  rcases I.ok.stk with e | ⟨e, hf⟩
  · rw [e]; exact I.funs
  · rw [e]
    obtain ⟨m, hn, _⟩ := I.loc
    refine .cons (by rw [I.ok.kind]; decide) hf hn ?_ I.funs
    exact Heap.get?_none_of_le (Nat.le_trans I.ok.bsz I.ok.above)
theorem Inv.stkSub (I : Inv X pins σ H s) : ∀ b ∈ frs X.stack, b ∈ X.env.locals :: X.fs := fun b hb => by
  rcases I.ok.stk with e | ⟨e, hf⟩
  · rw [e] at hb; exact List.mem_cons_of_mem _ hb
  · rw [e] at hb
    unfold frs at hb
    rw [List.filterMap_cons, hf] at hb
    exact hb
theorem Inv.stkFree (I : Inv X pins σ H s) : ∀ b ∈ frs X.stack, H b = none := fun b hb => by
  rcases List.mem_cons.mp (I.stkSub b hb) with e | hb
  · rw [e]; exact I.free
  · obtain ⟨_, o, ho, _⟩ := I.ok.funs.mem hb
    exact I.base.free b o ho (I.ok.frf b hb) fun z => I.ok.exfs b z hb

theorem Inv.step {g' : Array GenState} {t' : Nat} {d' : Drawn} {ch : List Addr} (I : Inv X pins σ H s)
    (hch : ∀ b ∈ ch, (b ∈ X.ex ∨ X.s₀.heap.objs.size ≤ b) ∧ b ≠ X.env.locals ∧ (∀ x c, X.env.cells.lookup x = some c → c ≠ b) ∧ ∀ p ∈ X.pn ++ pins, p.1 ≠ b)
    (keep : ∀ b o, b ≠ X.env.locals → b ∉ X.fs → b ∉ ch → s.heap.get? b = some o → H b = none → h'.get? b = some o)
    (slot : ∀ b o, b ≠ X.env.locals → b ∈ X.fs → b ∉ ch → s.heap.get? b = some o → H b = none → ∃ sl, h'.get? b = some { o with slots := sl }) (free : ∀ b o, b ∉ ch → s.heap.get? b = some o → H b = none → H' b = none)
    (there : ∀ b o, b ∉ ch → s.heap.get? b = some o → ∃ o', h'.get? b = some o')
    (tups : ∀ b xs, H b = some (.tup xs) → H' b = some (.tup xs)) (frzs : ∀ b o u, H b = some (.frz o u) → H' b = some (.frz o u)) (tbls : ∀ b ps, H b = some (.tbl ps) → ∃ more, H' b = some (.tbl (ps ++ more)))
    (ns : ∀ m, s.heap.Ns X.env.locals m → h'.Ns X.env.locals m) (hok : HOk X.prog X.w H' h') (hg : AllBare g') :
    Inv X pins σ H' { s with heap := h', gens := g', drawn := d', toks := t' } := by
  have neL : ∀ b o, X.s₀.heap.get? b = some o → b ≠ X.env.locals := fun b o e => Nat.ne_of_lt (Nat.lt_of_lt_of_le (Heap.lt_size e) I.ok.above)
  have neC : ∀ b o, X.s₀.heap.get? b = some o → b ∉ X.ex → b ∉ ch := fun b o e hx hb => by
    rcases (hch b hb).1 with z | z
    · exact hx z
    · exact absurd (Nat.lt_of_lt_of_le (Heap.lt_size e) z) (Nat.lt_irrefl _)
  have cellK : ∀ x c, X.env.cells.lookup x = some c → ∀ v, s.heap.IsCell c v → h'.IsCell c v := fun x c e v ⟨o, ho, hd⟩ => by
    have nch : c ∉ ch := fun z => (hch c z).2.2.1 x c e rfl
    by_cases hc : c ∈ X.fs
    · obtain ⟨sl, q⟩ := slot c o (I.cne x c e) hc nch ho (I.freeC x c e)
      exact ⟨_, q, hd⟩
    · exact ⟨o, keep c o (I.cne x c e) hc nch ho (I.freeC x c e), hd⟩
  refine ⟨I.ok, I.os, hg, ⟨fun b o e n hb hx => ?_, fun b o e n hb hx => ?_, fun b o e n hx => ?_, fun b o e hx => ?_, fun b xs e => tups b xs (I.base.tups b xs e), fun b o xs e => frzs b o xs (I.base.frzs b o xs e), fun b ps e => ?_⟩, ?_, fun x c e => ?_, ?_, fun x c e => ?_, fun p hp => ?_, hok, I.len⟩
  · exact keep b o (neL b o e) hb (neC b o e hx) (I.base.keep b o e n hb hx) (I.base.free b o e n hx)
  · obtain ⟨sl, e1⟩ := I.base.slot b o e n hb hx
    obtain ⟨sl', e2⟩ := slot b _ (neL b o e) hb (neC b o e hx) e1 (I.base.free b o e n hx)
    exact ⟨sl', e2⟩
  · obtain ⟨o', e1⟩ := I.base.there b o e hx
    exact free b o' (neC b o e hx) e1 (I.base.free b o e n hx)
  · obtain ⟨o', e1⟩ := I.base.there b o e hx
    exact there b o' (neC b o e hx) e1
  · obtain ⟨m1, e1⟩ := I.base.tbls b ps e
    obtain ⟨m2, e2⟩ := tbls b _ e1
    exact ⟨m1 ++ m2, by rw [e2, Array.append_assoc]⟩
  · obtain ⟨m, hn, hl⟩ := I.loc
    refine ⟨m, ns m hn, fun i x v e1 e2 e3 => ?_⟩
    obtain ⟨u, r, l⟩ := hl i x v e1 e2 e3
    refine ⟨u, r, ?_⟩
    rcases l with l | ⟨k, c, e, z⟩
    · exact .inl l
    · exact .inr ⟨k, c, e, cellK x c e _ z⟩
  · obtain ⟨v, z⟩ := I.cell x c e
    exact ⟨v, cellK x c e v z⟩
  · obtain ⟨m, ⟨o, _, _, ho, _⟩, _⟩ := I.loc
    exact free _ o (fun z => (hch _ z).2.1 rfl) ho I.free
  · obtain ⟨v, o, ho, hd⟩ := I.cell x c e
    exact free c o (fun z => (hch c z).2.2.1 x c e rfl) ho (I.freeC x c e)
  · obtain ⟨e, n, ne, nf, d⟩ := I.pin p hp
    have nch : p.1 ∉ ch := fun z => (hch p.1 z).2.2.2 p hp rfl
    exact ⟨keep p.1 p.2 ne nf nch e n, free p.1 p.2 nch e n, ne, nf, d⟩
theorem Inv.un {t' : Nat} (I : Inv X pins σ H s) (u : Un X.fs [] H H' s.heap h') (hok : HOk X.prog X.w H' h') : Inv X pins σ H' { s with heap := h', toks := t' } := by
  obtain ⟨m, ⟨o, es, ep, ho, r⟩, _⟩ := id I.loc
  obtain ⟨sl, hL⟩ := u.any ho I.free (by simp)
  exact I.step (g' := s.gens) (d' := s.drawn) (ch := []) (fun _ z => nomatch z) (fun b o _ hb _ e n => u.keep b o e n hb (by simp)) (fun b o _ hb _ e n => u.slot b o e n hb (by simp)) (fun b o _ e n => u.free b o e n (by simp)) (fun b o _ e => u.there b o e (by simp)) u.tups u.frzs u.tbls (fun m' hm => by
    obtain ⟨o', es', ep', ho', r'⟩ := hm
    rw [ho] at ho'; cases ho'
    exact ⟨_, es', ep', hL, r'⟩) hok I.bare
theorem Inv.call {g' : Array GenState} {t' : Nat} {d' : Drawn} {ch : List Addr} (I : Inv X pins σ H s) (u : Un (frs X.stack) ch H H' s.heap h') (hok : HOk X.prog X.w H' h') (hg : AllBare g')
    (hch : ∀ b ∈ ch, (b ∈ X.ex ∨ X.s₀.heap.objs.size ≤ b) ∧ b ≠ X.env.locals ∧ (∀ x c, X.env.cells.lookup x = some c → c ≠ b) ∧ ∀ p ∈ X.pn ++ pins, p.1 ≠ b) :
    Inv X pins σ H' { s with heap := h', gens := g', drawn := d', toks := t' } := by
  obtain ⟨m, ⟨o, es, ep, ho, r⟩, _⟩ := id I.loc
  obtain ⟨sl, hL⟩ := u.any ho I.free fun z => (hch _ z).2.1 rfl
  exact I.step (ch := ch) hch (fun b o hL hb hc e n => u.keep b o e n (fun z => (List.mem_cons.mp (I.stkSub b z)).elim hL hb) hc) (fun b o _ _ hc e n => u.any e n hc) (fun b o hc e n => u.free b o e n hc) (fun b o hc e => u.there b o e hc) u.tups u.frzs u.tbls (fun m' hm => by
    obtain ⟨o', es', ep', ho', r'⟩ := hm
    rw [ho] at ho'; cases ho'
    exact ⟨_, es', ep', hL, r'⟩) hok hg
theorem Inv.turned {t' : Nat} {it : Addr} (I : Inv X pins σ H s) (k : ∀ b o, b ≠ it → s.heap.get? b = some o → h'.get? b = some o) (hn : H it = none) (hL : it ≠ X.env.locals)
    (h1 : it ∈ X.ex ∨ X.s₀.heap.objs.size ≤ it) (h2 : ∀ x c, X.env.cells.lookup x = some c → c ≠ it) (h3 : ∀ p ∈ X.pn ++ pins, p.1 ≠ it) : Inv X pins σ H { s with heap := h', toks := t' } := by
  have nit : ∀ b u, H b = some u → b ≠ it := fun b u e z => by rw [z, hn] at e; cases e
  refine I.step (g' := s.gens) (d' := s.drawn) (ch := [it]) (fun b hb => ?_) (fun b o _ _ hc e _ => k b o (fun z => hc (by simp [z])) e) (fun b o _ _ hc e _ => ⟨o.slots, k b o (fun z => hc (by simp [z])) e⟩) (fun _ _ _ _ n => n)
    (fun b o hc e => ⟨o, k b o (fun z => hc (by simp [z])) e⟩) (fun _ _ e => e) (fun _ _ _ e => e) (fun b ps e => ⟨#[], by rw [e]; simp⟩) (fun m hm => ?_) (fun b u e => ?_) I.bare
  · have e : b = it := by simpa using hb
    subst e
    exact ⟨h1, hL, h2, h3⟩
  · obtain ⟨o, es, ep, ho, r⟩ := hm
    exact ⟨o, es, ep, k _ o (Ne.symm hL) ho, r⟩
  · refine (I.hok b u e).stay (fun c v hc q => k c v ?_ q) (fun _ q => q) fun _ _ q => q
    rcases hc with z | z
    · rw [z]; exact nit b u e
    · exact nit c _ z
theorem Inv.tok (I : Inv X pins σ H s) (t : Nat) : Inv X pins σ H { s with toks := t } := I.un (h' := s.heap) (t' := t) Un.refl I.hok
theorem Inv.kept {t' : Nat} (I : Inv X pins σ H s) (k : ∀ b u, s.heap.get? b = some u → h'.get? b = some u) : Inv X pins σ H { s with heap := h', toks := t' } := I.un (Un.kept k) (I.hok.kept k)
theorem Inv.laid {a : Addr} {o : HO} {t' : Nat} (I : Inv X pins σ H s) (k : ∀ b u, s.heap.get? b = some u → h'.get? b = some u) (hp : s.heap.objs.size ≤ a) (new : ObjOk X.prog X.w (upd H a o) h' a o) :
    Inv X pins σ (upd H a o) { s with heap := h', toks := t' } := I.un (Un.laid k hp (I.hok.fresh hp)) (I.hok.laid k hp new)
theorem Inv.write {x e : Addr} {o : HO} {t' : Nat} (I : Inv X pins σ H s) (mu : Mut (H x)) (he : e = x ∨ H e = some (.own x)) (k : ∀ b u, b ≠ e → s.heap.get? b = some u → h'.get? b = some u) (heo : ∃ u, h'.get? e = some u)
    (new : ObjOk X.prog X.w (upd H x o) h' x o) : Inv X pins σ (upd H x o) { s with heap := h', toks := t' } := I.un (Un.write mu he k heo) (I.hok.write mu he k heo new)
theorem Inv.pins_of {pins' : List (Addr × Obj)} (I : Inv X pins σ H s) (h : ∀ p ∈ pins', s.heap.get? p.1 = some p.2 ∧ H p.1 = none ∧ p.1 ≠ X.env.locals ∧ p.1 ∉ X.fs ∧ ∀ v, p.2.data ≠ .cell v) : Inv X pins' σ H s :=
  ⟨I.ok, I.os, I.bare, I.base, I.loc, I.cell, I.free, I.freeC, fun p hp => (List.mem_append.mp hp).elim (fun z => I.pin p (List.mem_append_left _ z)) (h p), I.hok, I.len⟩

theorem nodup_ix {N : List Str} (hN : N.Nodup) {i j : Nat} {x : Str} (a : N[i]? = some x) (b : N[j]? = some x) : i = j := by
  obtain ⟨h1, e1⟩ := List.getElem?_eq_some_iff.mp a
  obtain ⟨h2, e2⟩ := List.getElem?_eq_some_iff.mp b
  exact (List.getElem_inj hN).mp (e1.trans e2.symm)

theorem store_ok2 {M : Model} {A : Around} {E : Value → Shared → Prop} {i : Nat} {x : Str} {v : V} {u : Value} {Q : Unit → Shared → Prop} (I : Inv X pins σ H s) (hN : X.N.Nodup) (hi : X.N[i]? = some x) (hx : Loc X.env.scope x) (r : RelV v u)
    (h : ∀ s', Inv X pins (σ.set i (some v)) H s' → (∃ a, Heap.SameBut a s.heap s'.heap ∧ (a = X.env.locals ∨ X.env.cells.lookup x = some a)) → Q () s') (hf : X.fn x = true ∨ X.env.scope.names.lookup x = some .local := by first | exact .inl rfl | exact .inr rfl | assumption) : wpAny M A (storeName X.env x u) Q E s := by
  obtain ⟨m, hn, hl⟩ := id I.loc
  have hcls : (X.env.scope.kind == .class || (X.env.scope.kind == .module && X.env.locals != X.env.globals)) = false := by rw [I.ok.kind]; rfl
  have hiσ : i < σ.length := by rw [I.len]; exact (List.getElem?_eq_some_iff.mp hi).1
  have cne := I.cne
  have tracked : ∀ {a : Addr} {h' : Heap}, (∃ o, s.heap.get? a = some o ∧ H a = none) → Heap.SameBut a s.heap h' → HOk X.prog X.w H h' := fun {a h'} ha hs b ob e => by
    obtain ⟨_, _, hfree⟩ := ha
    refine (I.hok b ob e).stay (fun c w' hc q => (hs.2 c ?_).trans q) (fun _ q => q) fun _ _ q => q
    rintro rfl
    rcases hc with rfl | hc
    · rw [hfree] at e; cases e
    · rw [hfree] at hc; cases hc
  rcases hx with hk | hk
  · refine wpAny_storeName_local hk hn (fun h' hn' hs => ?_) hcls
    obtain ⟨oL, _, _, hoL, _⟩ := id hn
    refine h _ ⟨I.ok, I.os, I.bare, ⟨fun b o e n hb hx => ?_, fun b o e n hb hx => ?_, I.base.free, fun b o e hx => ?_, I.base.tups, I.base.frzs, I.base.tbls⟩, ⟨_, hn', fun j y v' e1 e2 e3 => ?_⟩, fun y c e => ?_, I.free, I.freeC, fun p hp => ?_, tracked ⟨oL, hoL, I.free⟩ hs, by simpa using I.len⟩ ⟨_, hs, .inl rfl⟩
    · exact (hs.2 b (Nat.ne_of_lt (Nat.lt_of_lt_of_le (Heap.lt_size e) I.ok.above))).trans (I.base.keep b o e n hb hx)
    · obtain ⟨sl, e1⟩ := I.base.slot b o e n hb hx
      exact ⟨sl, (hs.2 b (Nat.ne_of_lt (Nat.lt_of_lt_of_le (Heap.lt_size e) I.ok.above))).trans e1⟩
    · obtain ⟨o', e1⟩ := I.base.there b o e hx
      exact ⟨o', (hs.2 b (Nat.ne_of_lt (Nat.lt_of_lt_of_le (Heap.lt_size e) I.ok.above))).trans e1⟩
    · by_cases hj : j = i
      · subst hj
        rw [hi] at e1; cases e1
        rw [List.getElem?_set_self hiσ] at e2
        cases e2
        exact ⟨u, r, .inl ⟨hk, by simp⟩⟩
      · rw [List.getElem?_set_ne (Ne.symm hj)] at e2
        obtain ⟨u', r', q⟩ := hl j y v' e1 e2 e3
        refine ⟨u', r', ?_⟩
        rcases q with ⟨k, e⟩ | ⟨k, c, e, z⟩
        · refine .inl ⟨k, ?_⟩
          have : y ≠ x := fun e => hj (nodup_ix hN e1 (e ▸ hi))
          simp [this, e]
        · exact .inr ⟨k, c, e, z.sameBut hs (cne y c e)⟩
    · obtain ⟨w', z⟩ := I.cell y c e
      exact ⟨w', z.sameBut hs (cne y c e)⟩
    · obtain ⟨e, n, ne, nf, d⟩ := I.pin p hp
      exact ⟨(hs.2 p.1 ne).trans e, n, ne, nf, d⟩
  · have hfn : X.fn x = true := by
      rcases hf with z | z
      · exact z
      · rw [z] at hk; cases hk
    obtain ⟨c, hc⟩ := I.ok.has x (.inl hk)
    obtain ⟨w', z⟩ := I.cell x c hc
    refine wpAny_storeName_cell I.ok.kind hk hc z (fun h' hc' hs => ?_)
    obtain ⟨oc, hoc, hocd⟩ := id z
    refine h { s with heap := h' } ⟨I.ok, I.os, I.bare, ⟨fun b o e n hb hx => ?_, fun b o e n hb hx => ?_, I.base.free, fun b o e hx => ?_, I.base.tups, I.base.frzs, I.base.tbls⟩, ⟨m, hn.sameBut hs (Ne.symm (cne x c hc)), fun j y v' e1 e2 e3 => ?_⟩, fun y c' e => ?_, I.free, I.freeC, fun p hp => ?_, tracked ⟨oc, hoc, I.freeC x c hc⟩ hs, by simpa using I.len⟩ ⟨c, hs, .inr hc⟩
    · exact (hs.2 b (Nat.ne_of_lt (Nat.lt_of_lt_of_le (Heap.lt_size e) (I.ok.cab x c hfn hc)))).trans (I.base.keep b o e n hb hx)
    · obtain ⟨sl, e1⟩ := I.base.slot b o e n hb hx
      exact ⟨sl, (hs.2 b (Nat.ne_of_lt (Nat.lt_of_lt_of_le (Heap.lt_size e) (I.ok.cab x c hfn hc)))).trans e1⟩
    · obtain ⟨o', e1⟩ := I.base.there b o e hx
      exact ⟨o', (hs.2 b (Nat.ne_of_lt (Nat.lt_of_lt_of_le (Heap.lt_size e) (I.ok.cab x c hfn hc)))).trans e1⟩
    · by_cases hj : j = i
      · subst hj
        rw [hi] at e1; cases e1
        rw [List.getElem?_set_self hiσ] at e2
        cases e2
        exact ⟨u, r, .inr ⟨.inl hk, c, hc, hc'⟩⟩
      · rw [List.getElem?_set_ne (Ne.symm hj)] at e2
        obtain ⟨u', r', q⟩ := hl j y v' e1 e2 e3
        refine ⟨u', r', ?_⟩
        rcases q with q | ⟨k, c', e, z'⟩
        · exact .inl q
        · refine .inr ⟨k, c', e, z'.sameBut hs ?_⟩
          rintro rfl
          exact hj (nodup_ix hN e1 (I.ok.inj _ _ _ e hc ▸ hi))
    · by_cases hcc : c' = c
      · subst hcc; exact ⟨_, hc'⟩
      · obtain ⟨w2, z2⟩ := I.cell y c' e
        exact ⟨w2, z2.sameBut hs hcc⟩
    · obtain ⟨e, n, ne, nf, d⟩ := I.pin p hp
      refine ⟨(hs.2 p.1 ?_).trans e, n, ne, nf, d⟩
      intro q
      rw [q, hoc] at e
      have q' : oc = p.2 := Option.some.inj e
      exact d w' (by rw [← q']; exact hocd)
theorem store_ok {M : Model} {A : Around} {E : Value → Shared → Prop} {i : Nat} {x : Str} {v : V} {u : Value} {Q : Unit → Shared → Prop} (I : Inv X pins σ H s) (hN : X.N.Nodup) (hi : X.N[i]? = some x) (hx : Loc X.env.scope x) (r : RelV v u)
    (h : ∀ s', Inv X pins (σ.set i (some v)) H s' → Q () s') (hf : X.fn x = true ∨ X.env.scope.names.lookup x = some .local := by first | exact .inl rfl | exact .inr rfl | assumption) : wpAny M A (storeName X.env x u) Q E s :=
  store_ok2 I hN hi hx r (fun s' I' _ => h s' I') hf
theorem Inv.call' {s' : Shared} {ch : List Addr} (I : Inv X pins σ H s) (ho : s'.os = s.os) (u : Un (frs X.stack) ch H H' s.heap s'.heap) (hok : HOk X.prog X.w H' s'.heap) (hg : AllBare s'.gens)
    (hch : ∀ b ∈ ch, (b ∈ X.ex ∨ X.s₀.heap.objs.size ≤ b) ∧ b ≠ X.env.locals ∧ (∀ x c, X.env.cells.lookup x = some c → c ≠ b) ∧ ∀ p ∈ X.pn ++ pins, p.1 ≠ b) : Inv X pins σ H' s' := by
  obtain ⟨h', g', d', t', o'⟩ := s'
  have e : o' = s.os := ho
  subst e
  exact I.call (g' := g') (t' := t') (d' := d') u hok hg hch
end

abbrev XK := Value → Option Addr → Hp → Prop
abbrev St := List (Option V)
abbrev VK := V → Hp → Prop
abbrev TE := St → Hp → VK → Prop
abbrev TT := St → Hp → (Bool → Hp → Prop) → Prop
abbrev TA := St → Hp → (List V → Hp → Prop) → Prop
structure Ends where
  nx : St → Hp → Prop
  rt : VK
  bk : St → Hp → Prop := fun _ _ => False
  ct : St → Hp → Prop := fun _ _ => False
abbrev TS := Ends → St → Hp → Prop

def EP (X : Cx) (pins : List (Addr × Obj)) (σ : St) (Q : VK) (u : Value) (s' : Shared) : Prop := ∃ v H', Inv X pins σ H' s' ∧ RelV v u ∧ Q v H'
def TP (X : Cx) (pins : List (Addr × Obj)) (σ : St) (Q : Bool → Hp → Prop) (b : Bool) (s' : Shared) : Prop := ∃ H', Inv X pins σ H' s' ∧ Q b H'
def AP (X : Cx) (pins : List (Addr × Obj)) (σ : St) (Q : List V → Hp → Prop) (us : List Value) (s' : Shared) : Prop := ∃ vs H', Inv X pins σ H' s' ∧ Vals vs us ∧ Q vs H'
def SP (X : Cx) (pins : List (Addr × Obj)) (D : Ends) (f : Flow) (s' : Shared) : Prop :=
  match f with
  | .next => ∃ σ' H', Inv X pins σ' H' s' ∧ D.nx σ' H'
  | .brk => ∃ σ' H', Inv X pins σ' H' s' ∧ D.bk σ' H'
  | .cont => ∃ σ' H', Inv X pins σ' H' s' ∧ D.ct σ' H'
  | .ret u => ∃ v σ' H', Inv X pins σ' H' s' ∧ RelV v u ∧ D.rt v H'

def PE (X : Cx) (e : Expr) (t : TE) : Prop :=
  ∀ (pins : List (Addr × Obj)) (s : Shared) (σ : St) (H : Hp) (Q : VK), Inv X pins σ H s → t σ H Q → wpAny (model X.prog X.w) X.A (eval e X.env) (EP X pins σ Q) X.xe s
def PT (X : Cx) (e : Expr) (t : TT) : Prop :=
  ∀ (pins : List (Addr × Obj)) (s : Shared) (σ : St) (H : Hp) (Q : Bool → Hp → Prop), Inv X pins σ H s → t σ H Q → wpAny (model X.prog X.w) X.A (isTrue e X.env (eval e X.env)) (TP X pins σ Q) X.xe s
def PW (X : Cx) (e : Expr) (t : TT) : Prop :=
  ∀ (whole : Sem Value) (pins : List (Addr × Obj)) (s : Shared) (σ : St) (H : Hp) (Q : Bool → Hp → Prop), Inv X pins σ H s → t σ H Q → wpAny (model X.prog X.w) X.A (isTrue e X.env whole) (TP X pins σ Q) X.xe s
theorem PW.pt {X : Cx} {e : Expr} {t : TT} (h : PW X e t) : PT X e t := h _
def PA (X : Cx) (es : List Expr) (t : TA) : Prop :=
  ∀ (pos : Pos) (pins : List (Addr × Obj)) (s : Shared) (σ : St) (H : Hp) (Q : List V → Hp → Prop), Inv X pins σ H s → t σ H Q → wpAny (model X.prog X.w) X.A (spliced (backTo pos (starEach es X.env))) (AP X pins σ Q) X.xe s
def PS (X : Cx) (st : Stmt) (t : TS) : Prop :=
  ∀ (pins : List (Addr × Obj)) (s : Shared) (σ : St) (H : Hp) (D : Ends), Inv X pins σ H s → t D σ H → wpAny (model X.prog X.w) X.A (exec st X.env) (SP X pins D) X.xe s
def PSs (X : Cx) (st : List Stmt) (t : TS) : Prop :=
  ∀ (pins : List (Addr × Obj)) (s : Shared) (σ : St) (H : Hp) (D : Ends), Inv X pins σ H s → t D σ H → wpAny (model X.prog X.w) X.A (execs st X.env) (SP X pins D) X.xe s
theorem thn {α : Type} {t : Sem α} {Q Q' : α → Shared → Prop} {M : Model} {A : Around} {E : Value → Shared → Prop} {s : Shared} (h : wpAny M A t Q E s) (hQ : ∀ a s, Q a s → Q' a s) : wpAny M A t Q' E s := wpAny_mono h hQ fun _ _ x => x
end L2

namespace L2
open PySem PySem.Spec PyProof.Rows
section
variable {X : Cx}

def tVar (i : Nat) : TE := fun σ H Q => ∃ v, σ[i]? = some (some v) ∧ Q v H
def tC (v : V) : TE := fun _ H Q => Q v H
theorem pe_var {i : Nat} {x : Str} {pos : Pos} (hN : X.N[i]? = some x) (hv : Vis X.env.scope x) (hd : (x == ("__debug__" : Str)) = false := by decide) (hcd : (x == ("__classdict__" : Str)) = false := by decide) : PE X (.Name x pos) (tVar i) := by
  intro pins s σ H Q I h
  obtain ⟨v, e, h⟩ := h
  obtain ⟨m, hn, hl⟩ := I.loc
  obtain ⟨u, r, l⟩ := hl i x v hN e hv
  have fin : EP X pins σ Q u s := ⟨v, H, I, r, h⟩
  rcases l with ⟨hk, hm⟩ | ⟨hk, c, hc, hcell⟩
  · exact wpAny_Name (wpAny_loadName_local I.ok.kind hk hn hm fin) hd
  · rcases hk with hk | hk
    · exact wpAny_Name (wpAny_loadName_cell I.ok.kind hk hc hcell fin) hd
    · exact wpAny_Name (wpAny_loadName_free I.ok.kind hk hc hcell fin hcd) hd
theorem pe_int {i j pos} : PE X (.Constant (.int i) j pos) (tC (.int i)) := fun _ _ _ H _ I h => wpAny_Constant_int ⟨.int i, H, I.tok _, ⟨_, rfl⟩, h⟩
theorem pe_bl {b j pos} : PE X (.Constant (.bool b) j pos) (tC (.bl b)) := fun _ _ _ H _ I h => Constant_bool ⟨.bl b, H, I, rfl, h⟩
theorem pe_non {j pos} : PE X (.Constant .none j pos) (tC .non) := fun _ _ _ H _ I h => Constant_none ⟨.non, H, I, rfl, h⟩
theorem pe_str {x j pos} : PE X (.Constant (.str x) j pos) (tC (.str x)) := fun _ _ _ H _ I h => Calls.Constant_str ⟨.str x, H, I.tok _, ⟨_, rfl⟩, h⟩

def Gl (X : Cx) (x : Str) : Prop := X.env.kindOf x = some .globalImplicit
theorem ld_glob {E : Value → Shared → Prop} {pins : List (Addr × Obj)} {s : Shared} {σ : St} {H : Hp} {x : Str} {u : Value} {pos : Pos} {Q : Value → Shared → Prop} (I : Inv X pins σ H s) (hg : Gl X x) (hm : X.mg x = some u) (h : Q u s)
    (hd : (x == ("__debug__" : Str)) = false := by decide) : wpAny (model X.prog X.w) X.A (eval (.Name x pos) X.env) Q E s :=
  Calls.Name_function_global I.ok.kind hg (Calls.loadGlobal_global (by rw [I.ok.glob]; exact I.mod.glob.keeps I.bk) hm h) hd
theorem ld_blt {E : Value → Shared → Prop} {pins : List (Addr × Obj)} {s : Shared} {σ : St} {H : Hp} {x : Str} {u : Value} {pos : Pos} {Q : Value → Shared → Prop} (I : Inv X pins σ H s) (hg : Gl X x) (hm : X.mg x = none) (hv : bootBuiltins x = some u) (h : Q u s)
    (hn : x ≠ "__name__" := by decide) (hd : (x == ("__debug__" : Str)) = false := by decide) : wpAny (model X.prog X.w) X.A (eval (.Name x pos) X.env) Q E s := by
  obtain ⟨mb, h1, h2⟩ := I.mod.blt
  exact Calls.Name_function_global I.ok.kind hg (Calls.loadGlobal_builtin (by rw [I.ok.glob]; exact I.mod.glob.keeps I.bk) hm (by rw [I.ok.blt]; exact h1.keeps I.bk) ((h2 x hn).trans hv) h) hd
theorem pe_glob {x : Str} {v : V} {u : Value} {pos : Pos} (hg : Gl X x) (hm : X.mg x = some u) (r : RelV v u) (hd : (x == ("__debug__" : Str)) = false := by decide) : PE X (.Name x pos) (tC v) :=
  fun _ _ _ H _ I h => ld_glob I hg hm ⟨v, H, I, r, h⟩ hd
theorem pe_bltn {x : Str} {v : V} {u : Value} {pos : Pos} (hg : Gl X x) (hm : X.mg x = none) (hv : bootBuiltins x = some u) (r : RelV v u) (hn : x ≠ "__name__" := by decide) (hd : (x == ("__debug__" : Str)) = false := by decide) : PE X (.Name x pos) (tC v) :=
  fun _ _ _ H _ I h => ld_blt I hg hm hv ⟨v, H, I, r, h⟩ hn hd

def t2I (ta tb : TE) (k : Int → Int → Hp → Prop) : St → Hp → Prop := fun σ H => ta σ H fun x H1 => tb σ H1 fun y H2 => ∃ i j, x = .int i ∧ y = .int j ∧ k i j H2
def tAdd (ta tb : TE) : TE := fun σ H Q => t2I ta tb (fun i j H2 => Q (.int (i + j)) H2) σ H
def tSub (ta tb : TE) : TE := fun σ H Q => t2I ta tb (fun i j H2 => Q (.int (i - j)) H2) σ H
def tMul (ta tb : TE) : TE := fun σ H Q => t2I ta tb (fun i j H2 => (-(2 ^ 64) < i ∧ i < 2 ^ 64) ∧ Q (.int (i * j)) H2) σ H
variable {a b : Expr} {ta tb : TE} {pos : Pos}
def PC (X : Cx) (op : CmpOp) (a b : Expr) (t : TE) : Prop :=
  ∀ (pins : List (Addr × Obj)) (s : Shared) (σ : St) (H : Hp) (Q : VK), Inv X pins σ H s → t σ H Q →
    wpAny (model X.prog X.w) X.A (eval a X.env) (fun v s₁ => wpAny (model X.prog X.w) X.A (eval b X.env) (fun u s₂ => wpAny (model X.prog X.w) X.A (compareOp op v u) (EP X pins σ Q) X.xe s₂) X.xe s₁) X.xe s
def tCmp (p : Int → Int → Bool) (ta tb : TE) : TE := fun σ H Q => t2I ta tb (fun i j H2 => Q (.bl (p i j)) H2) σ H
abbrev tLt : TE → TE → TE := tCmp fun i j => decide (i < j)
abbrev tLe : TE → TE → TE := tCmp fun i j => decide (i ≤ j)
abbrev tGt : TE → TE → TE := tCmp fun i j => decide (j < i)
abbrev tGe : TE → TE → TE := tCmp fun i j => decide (j ≤ i)
abbrev tEqI : TE → TE → TE := tCmp fun i j => decide (i = j)
abbrev tNeI : TE → TE → TE := tCmp fun i j => !decide (i = j)
def tIsN (ta : TE) : TE := fun σ H Q => ta σ H fun x H1 => Q (.bl (decide (x = .non))) H1
def tNotN (ta : TE) : TE := fun σ H Q => ta σ H fun x H1 => Q (.bl (!decide (x = .non))) H1
def tB (t : TE) : TT := fun σ H Q => t σ H fun x H1 => ∃ c, x = .bl c ∧ Q c H1
theorem pt_val {e : Expr} {t : TE} (h : PE X e t) (he : ∀ whole, isTrue e X.env whole = (do let v ← whole; standAt e.pos; holding [v] (truthy v)) := by intro _; rfl) : PT X e (tB t) := by
  intro pins s σ H Q I hw
  refine isTrue_plain (thn (h pins s σ H _ I hw) fun v s1 ⟨x, H1, I1, r1, q1⟩ => ?_) (he _)
  obtain ⟨d, rfl, q⟩ := q1
  cases r1
  exact wpAny_truthy_bool ⟨H1, I1, q⟩

variable {tA tB' : TT} {rest : List Expr}
def tAnd (t u : TT) : TT := fun σ H Q => t σ H fun c H1 => if c = true then u σ H1 Q else Q false H1
def tOr (t u : TT) : TT := fun σ H Q => t σ H fun c H1 => if c = true then Q true H1 else u σ H1 Q
def tNot (t : TT) : TT := fun σ H Q => t σ H fun c H1 => Q (!c) H1
theorem pw_or1 (ha : PT X a tA) : PW X (.BoolOp .Or [a] pos) tA := by
  intro wh pins s σ H Q I h
  refine isTrue_or (thn (ha pins s σ H Q I h) fun c s1 e => ?_)
  cases c with
  | false => exact isTrue_or_nil e
  | true => exact e
theorem pw_or (ha : PT X a tA) (hb : PW X (.BoolOp .Or (b :: rest) pos) tB') : PW X (.BoolOp .Or (a :: b :: rest) pos) (tOr tA tB') := by
  intro wh pins s σ H Q I h
  refine isTrue_or (thn (ha pins s σ H _ I h) fun c s1 ⟨H1, I1, q1⟩ => ?_)
  cases c with
  | true => exact ⟨H1, I1, q1⟩
  | false => exact hb wh pins s1 σ H1 Q I1 q1
theorem pt_not (ha : PT X a tA) : PT X (.UnaryOp .Not a pos) (tNot tA) := by
  intro pins s σ H Q I h
  exact isTrue_not (ha pins s σ H (fun c H1 => Q (!c) H1) I h)
def tAndV (ta tb : TE) : TE := fun σ H Q => ta σ H fun x H1 => ∃ c, x = .bl c ∧ if c = true then tb σ H1 Q else Q (.bl false) H1
def tOrV (ta tb : TE) : TE := fun σ H Q => ta σ H fun x H1 => ∃ c, x = .bl c ∧ if c = true then Q (.bl true) H1 else tb σ H1 Q
def tNotV (ta : TE) : TE := fun σ H Q => ta σ H fun x H1 => ∃ c, x = .bl c ∧ Q (.bl (!c)) H1
theorem pe_one {op} {t : TE} (h : PE X a t) : PE X (.BoolOp op [a] pos) t := fun pins s σ H Q I hw => BoolOp_one (h pins s σ H Q I hw)
theorem pe_and (ha : PE X a ta) (hb : PE X (.BoolOp .And (b :: rest) pos) tb) : PE X (.BoolOp .And (a :: b :: rest) pos) (tAndV ta tb) := by
  intro pins s σ H Q I h
  refine BoolOp_and (thn (ha pins s σ H _ I h) fun v s1 ⟨x, H1, I1, r1, q1⟩ => ?_)
  obtain ⟨c, rfl, q1⟩ := q1
  cases r1
  refine wpAny_truthy_bool ?_
  cases c with
  | true => exact hb pins s1 σ H1 Q I1 q1
  | false => exact ⟨.bl false, H1, I1, rfl, q1⟩
theorem pe_not (ha : PE X a ta) : PE X (.UnaryOp .Not a pos) (tNotV ta) := by
  intro pins s σ H Q I h
  refine UnaryOp_ (thn (ha pins s σ H _ I h) fun v s1 ⟨x, H1, I1, r1, q1⟩ => ?_)
  obtain ⟨c, rfl, q1⟩ := q1
  cases r1
  exact not_of (wpAny_truthy_bool ⟨.bl (!c), H1, I1, rfl, q1⟩)
def tIf (t : TT) (ta tb : TE) : TE := fun σ H Q => t σ H fun c H1 => if c = true then ta σ H1 Q else tb σ H1 Q
end
end L2

namespace L2
open PySem PySem.Spec PyProof.Rows

def SqL (K : PySem.W.Frag) (H : Hp) (a : Addr) (xs : List V) : Prop :=
  Rd H a (.lst xs) ∨
    ∃ (o : Obj) (its : Array Value) (n : Nat), K.lookup a = some o ∧ o.cls = .type "list" ∧ o.dict = none ∧ o.data = .seq its n ∧ its.size ≤ sizeLine ∧ Vals xs its.toList
def SqT (K : PySem.W.Frag) (H : Hp) (a : Addr) (xs : List V) : Prop :=
  Rd H a (.tup xs) ∨
    ∃ (o : Obj) (its : Array Value) (n : Nat), K.lookup a = some o ∧ o.cls = .type "tuple" ∧ o.data = .seq its n ∧ its.size ≤ sizeLine ∧ Vals xs its.toList
def absV : Value → Option V
  | .none => some .non
  | .bool b => some (.bl b)
  | .int i _ => some (.int i)
  | .str x _ => some (.str x)
  | .bytes b _ => some (.byt b)
  | .float b _ => some (.flt b)
  | .ref a => some (.ref a)
  | .type n => some (.ty n)
  | _ => none
theorem RelV.abs {x : V} {u : Value} (r : RelV x u) : absV u = some x := by
  cases x with
  | non => cases r; rfl
  | bl _ => cases r; rfl
  | int _ => obtain ⟨t, rfl⟩ := r; rfl
  | str _ => obtain ⟨t, rfl⟩ := r; rfl
  | byt _ => obtain ⟨t, rfl⟩ := r; rfl
  | flt _ => obtain ⟨t, rfl⟩ := r; rfl
  | ref _ => cases r; rfl
  | ty _ => cases r; rfl
theorem RelV.inj {x y : V} {u : Value} (r : RelV x u) (q : RelV y u) : x = y := Option.some.inj (r.abs.symm.trans q.abs)
theorem Vals.inj : ∀ {xs ys : List V} {us : List Value}, Vals xs us → Vals ys us → xs = ys
  | _, _, _, .nil, .nil => rfl
  | _, _, _, .cons r t, .cons r' t' => by rw [r.inj r', Vals.inj t t']
section
variable {X : Cx} {pins : List (Addr × Obj)} {σ : St} {H : Hp} {s : Shared} {a : Addr} {xs ys : List V}
theorem SqL.of {K : PySem.W.Frag} (h : H a = some (.lst xs)) : SqL K H a xs := .inl (.inl h)
theorem SqT.of {K : PySem.W.Frag} (h : H a = some (.tup xs)) : SqT K H a xs := .inl (.inl h)
theorem Inv.list (I : Inv X pins σ H s) (h : SqL X.K H a xs) : ∃ its : List Value, Vals xs its ∧ PlainL s.heap a its.toArray ∧ xs.length ≤ sizeLine := by
  rcases h with h | ⟨o, its, n, hk, hc, hd, hs, hz, r⟩
  · obtain ⟨z, its, n, r, e⟩ := h.ok I.hok
    exact ⟨its, r, ⟨_, n, e, rfl, rfl, rfl⟩, z⟩
  · refine ⟨its.toList, r, ⟨o, n, I.kIn a o hk, hc, hd, by simpa using hs⟩, ?_⟩
    have e := r.length
    simp only [Array.length_toList] at e
    omega
theorem Inv.tuple (I : Inv X pins σ H s) (h : SqT X.K H a xs) : ∃ its : List Value, Vals xs its ∧ IsTup s.heap a its.toArray ∧ xs.length ≤ sizeLine := by
  rcases h with h | ⟨o, its, n, hk, hc, hs, hz, r⟩
  · obtain ⟨z, its, r, p, _⟩ := h.ok I.hok
    exact ⟨its, r, p, z⟩
  · refine ⟨its.toList, r, ⟨o, I.kIn a o hk, hc, n, by simpa using hs⟩, ?_⟩
    have e := r.length
    simp only [Array.length_toList] at e
    omega
theorem Inv.list_inj (I : Inv X pins σ H s) (h : SqL X.K H a xs) (h' : SqL X.K H a ys) : xs = ys := by
  obtain ⟨its, r, ⟨o, n, e, _, _, d⟩, _⟩ := I.list h
  obtain ⟨its', r', ⟨o', n', e', _, _, d'⟩, _⟩ := I.list h'
  rw [e] at e'; cases e'
  rw [d] at d'
  injection d' with d1 _
  have : its = its' := by simpa using congrArg Array.toList d1
  subst this
  exact r.inj r'
end

abbrev Cx.wish (X : Cx) (E : Value → Shared → Prop) : Cx := { X with xe := E }
abbrev Cx.nox (X : Cx) : Cx := X.wish fun _ _ => False
theorem Cx.Ok.wish {X : Cx} (ok : X.Ok) (E : Value → Shared → Prop) : (X.wish E).Ok :=
  ⟨ok.mod, ok.kind, ok.glob, ok.blt, ok.above, ok.inj, ok.has, ok.cab, ok.hd, ok.frames, ok.stk, ok.exf, ok.bs, ok.bsz, ok.noex, ok.exfs, ok.funs, ok.frf⟩
theorem Cx.Ok.unwish {X : Cx} {E : Value → Shared → Prop} (ok : (X.wish E).Ok) : X.Ok :=
  ⟨ok.mod, ok.kind, ok.glob, ok.blt, ok.above, ok.inj, ok.has, ok.cab, ok.hd, ok.frames, ok.stk, ok.exf, ok.bs, ok.bsz, ok.noex, ok.exfs, ok.funs, ok.frf⟩
section
variable {X : Cx} {pins : List (Addr × Obj)} {σ : St} {H : Hp} {s : Shared} {E : Value → Shared → Prop}
theorem Inv.wish (I : Inv X pins σ H s) (E : Value → Shared → Prop) : Inv (X.wish E) pins σ H s := ⟨I.ok.wish E, I.os, I.bare, I.base, I.loc, I.cell, I.free, I.freeC, I.pin, I.hok, I.len⟩
theorem Inv.unwish (I : Inv (X.wish E) pins σ H s) : Inv X pins σ H s := ⟨I.ok.unwish, I.os, I.bare, I.base, I.loc, I.cell, I.free, I.freeC, I.pin, I.hok, I.len⟩
theorem SP.unwish {D : Ends} {f : Flow} {s' : Shared} (h : SP (X.wish E) pins D f s') : SP X pins D f s' := by
  cases f with
  | next => obtain ⟨σ', H', I, q⟩ := h; exact ⟨σ', H', I.unwish, q⟩
  | brk => obtain ⟨σ', H', I, q⟩ := h; exact ⟨σ', H', I.unwish, q⟩
  | cont => obtain ⟨σ', H', I, q⟩ := h; exact ⟨σ', H', I.unwish, q⟩
  | ret u => obtain ⟨v, σ', H', I, r, q⟩ := h; exact ⟨v, σ', H', I.unwish, r, q⟩
theorem PE.nox {e : Expr} {t : TE} (h : PE X.nox e t) : PE X e t := fun pins s σ H Q I hw =>
  wpAny_mono (h pins s σ H Q (I.wish _) hw) (fun _ _ ⟨v, H', I', r, q⟩ => ⟨v, H', I'.unwish, r, q⟩) fun _ _ z => False.elim z
theorem PT.nox {e : Expr} {t : TT} (h : PT X.nox e t) : PT X e t := fun pins s σ H Q I hw =>
  wpAny_mono (h pins s σ H Q (I.wish _) hw) (fun _ _ ⟨H', I', q⟩ => ⟨H', I'.unwish, q⟩) fun _ _ z => False.elim z
theorem PSs.nox {st : List Stmt} {t : TS} (h : PSs X.nox st t) : PSs X st t := fun pins s σ H D I hw =>
  wpAny_mono (h pins s σ H D (I.wish _) hw) (fun _ _ q => q.unwish) fun _ _ z => False.elim z
end

section
variable {X : Cx} {st : Stmt} {rest : List Stmt} {t u : TS} {e : Expr} {te : TE} {pos : Pos}
def tNext : TS := fun D σ H => D.nx σ H
def tSeq (t u : TS) : TS := fun D σ H => t { D with nx := u D } σ H
theorem pss_nil : PSs X [] tNext := fun _ _ σ H _ I h => wpAny_execs_nil ⟨σ, H, I, h⟩
theorem pss_cons (h1 : PS X st t) (h2 : PSs X rest u) : PSs X (st :: rest) (tSeq t u) := by
  intro pins s σ H D I h
  refine wpAny_execs_cons (thn (h1 pins s σ H { D with nx := u D } I h) fun f s1 q => ?_)
  cases f with
  | next =>
    obtain ⟨σ', H', I', q⟩ := q
    exact h2 pins s1 σ' H' D I' q
  | ret v => exact q
  | brk => exact q
  | cont => exact q
theorem pss_one (h1 : PS X st t) : PSs X [st] t := by
  intro pins s σ H D I h
  refine wpAny_execs_cons (thn (h1 pins s σ H D I h) fun f s1 q => ?_)
  cases f with
  | next => exact wpAny_execs_nil q
  | ret v => exact q
  | brk => exact q
  | cont => exact q
def tBreak : TS := fun D σ H => D.bk σ H
def tCont : TS := fun D σ H => D.ct σ H
theorem Inv.quiet {pins : List (Addr × Obj)} {σ : St} {H : Hp} {s : Shared} (I : Inv X pins σ H s) : interactive X.env = false := by simp [interactive, I.ok.kind]
def tDrop (te : TE) : TS := fun D σ H => te σ H fun _ H1 => D.nx σ H1
theorem ps_expr (he : PE X e te) (hs : swapsWith e none pos.line X.env = pure false := by rfl) : PS X (.Expr e pos) (tDrop te) := by
  intro pins s σ H D I h
  exact wpAny_Expr_any (thn (he pins s σ H _ I h) fun v s1 ⟨x, H1, I1, r1, q1⟩ => ⟨σ, H1, I1, q1⟩) I.quiet hs
def tRet (te : TE) : TS := fun D σ H => te σ H D.rt
theorem ps_ret (he : PE X e te) : PS X (.Return (some e) pos) (tRet te) := by
  intro pins s σ H D I h
  exact wpAny_Return_some (thn (he pins s σ H _ I h) fun v s1 ⟨x, H1, I1, r1, q1⟩ => ⟨x, σ, H1, I1, r1, q1⟩)
def tRetN : TS := fun D _ H => D.rt .non H
def tIfS (c : TT) (t u : TS) : TS := fun D σ H => c σ H fun b H1 => if b = true then t D σ H1 else u D σ H1
theorem ps_if {c : Expr} {a b : List Stmt} {tc : TT} (hc : PT X c tc) (ha : PSs X a t) (hb : PSs X b u) : PS X (.If c a b pos) (tIfS tc t u) := by
  intro pins s σ H D I h
  refine wpAny_If (thn (hc pins s σ H _ I h) fun d s1 ⟨H1, I1, q1⟩ => ?_)
  cases d with
  | true => exact ha pins s1 σ H1 D I1 q1
  | false => exact hb pins s1 σ H1 D I1 q1
def tNever : TS := fun _ _ _ => False
end

abbrev TG := V → St → Hp → (St → Hp → Prop) → Prop
abbrev TGs := List V → St → Hp → (St → Hp → Prop) → Prop
def PG (X : Cx) (target : Expr) (t : TG) : Prop :=
  ∀ (pins : List (Addr × Obj)) (s : Shared) (σ : St) (H : Hp) (v : V) (u : Value) (Q : St → Hp → Prop), Inv X pins σ H s → RelV v u → t v σ H Q →
    wpAny (model X.prog X.w) X.A (assign target X.env u) (fun _ s' => ∃ σ' H', Inv X pins σ' H' s' ∧ Q σ' H') X.xe s
def PGs (X : Cx) (ts : List Expr) (t : TGs) : Prop :=
  ∀ (pins : List (Addr × Obj)) (s : Shared) (σ : St) (H : Hp) (vs : List V) (us : List Value) (Q : St → Hp → Prop), Inv X pins σ H s → Vals vs us → t vs σ H Q →
    wpAny (model X.prog X.w) X.A (assignInOrder ((assignEach ts X.env).map (·.2)) us) (fun _ s' => ∃ σ' H', Inv X pins σ' H' s' ∧ Q σ' H') X.xe s
abbrev TSet := V → V → V → Hp → (Hp → Prop) → Prop
def PSet (X : Cx) (t : TSet) : Prop :=
  ∀ (pins : List (Addr × Obj)) (s : Shared) (σ : St) (H : Hp) (o i v : V) (ov iv u : Value) (Q : Hp → Prop), Inv X pins σ H s → RelV o ov → RelV i iv → RelV v u → t o i v H Q →
    wpAny (model X.prog X.w) X.A (setItem ov iv u) (fun _ s' => ∃ H', Inv X pins σ H' s' ∧ Q H') X.xe s
abbrev TIp := V → V → Hp → VK → Prop
def PIp (X : Cx) (op : Operator) (t : TIp) : Prop :=
  ∀ (pins : List (Addr × Obj)) (s : Shared) (σ : St) (H : Hp) (x y : V) (v u : Value) (Q : VK), Inv X pins σ H s → RelV x v → RelV y u → t x y H Q →
    wpAny (model X.prog X.w) X.A (inplaceOp op v u) (EP X pins σ Q) X.xe s
section
variable {X : Cx} {pos : Pos}
def gName (i : Nat) : TG := fun v σ H Q => Q (σ.set i (some v)) H
theorem pg_name {i : Nat} {x : Str} (hN : X.N.Nodup) (hi : X.N[i]? = some x) (hx : Loc X.env.scope x) (hf : X.fn x = true ∨ X.env.scope.names.lookup x = some .local := by first | exact .inl rfl | exact .inr rfl | assumption) : PG X (.Name x pos) (gName i) := by
  intro pins s σ H v u Q I r h
  exact wpAny_assign_Name (store_ok I hN hi hx r (fun s' I' => ⟨_, H, I', h⟩) hf)
def gNil : TGs := fun vs σ H Q => vs = [] ∧ Q σ H
def gCons (t : TG) (u : TGs) : TGs := fun vs σ H Q => ∃ v r, vs = v :: r ∧ t v σ H fun σ' H' => u r σ' H' Q
theorem pgs_nil : PGs X [] gNil := by
  intro pins s σ H vs us Q I r h
  obtain ⟨e, h⟩ := h
  subst e
  cases r
  exact assignInOrder_nil ⟨σ, H, I, h⟩
theorem pgs_cons {e : Expr} {es : List Expr} {t : TG} {u : TGs} (h1 : PG X e t) (h2 : PGs X es u)
    (hs : (assignEach (e :: es) X.env).map (·.2) = assign e X.env :: (assignEach es X.env).map (·.2) := by rfl) : PGs X (e :: es) (gCons t u) := by
  intro pins s σ H vs us Q I r h
  obtain ⟨v, vr, e1, h⟩ := h
  subst e1
  cases r with
  | cons r rr =>
    rw [hs]
    refine assignInOrder_cons (thn (h1 pins s σ H _ _ _ I r h) fun _ s1 ⟨σ1, H1, I1, q1⟩ => ?_)
    exact h2 pins s1 σ1 H1 _ _ Q I1 rr q1
def gTup (K : PySem.W.Frag) (n : Nat) (t : TGs) : TG := fun v σ H Q => ∃ a xs, v = .ref a ∧ SqT K H a xs ∧ xs.length = n ∧ t xs σ H Q
theorem pg_tup {es : List Expr} {k : Nat} {t : TGs} {n : Nat} (hc : X.calm = true) (h : PGs X es t)
    (hn : (assignEach es X.env).length = n := by rfl) (hst : (assignEach es X.env).findIdx? (·.1) = none := by rfl) : PG X (.Tuple es k pos) (gTup X.K n t) := by
  intro pins s σ H v u Q I r hw
  obtain ⟨a, xs, e1, hq, hl, hw⟩ := hw
  subst e1
  cases r
  obtain ⟨its, rv, ht, hz⟩ := I.tuple hq
  refine assign_Tuple_tuple (I.ok.hd hc) ht (by simp [hn, ← hl, rv.length]) hst fun h' hx => ?_
  have I1 : Inv X pins σ H { s with heap := h' } := I.kept (t' := s.toks) fun b o e => hx b o (Nat.ne_of_lt (Heap.lt_size e)) e
  exact h pins _ σ H xs _ Q I1 (by simpa using rv) hw
def gSub (to ti : TE) (t : TSet) : TG := fun v σ H Q => to σ H fun o H1 => ti σ H1 fun i H2 => t o i v H2 fun H3 => Q σ H3
theorem pg_sub {o i : Expr} {to ti : TE} {t : TSet} (ho : PE X o to) (hi : PE X i ti) (hs : PSet X t)
    (ha : ∀ v, assign (.Subscript o i pos) X.env v = (do
      let ov ← holding [v] (eval o X.env)
      let iv ← holding [v, ov] (eval i X.env)
      standAt pos
      holding [v, ov, iv] (setItem ov iv v)
      release [v, ov, iv] []) := by intro _; rfl) : PG X (.Subscript o i pos) (gSub to ti t) := by
  intro pins s σ H v u Q I r h
  rw [ha]
  refine wpAny_bind (wpAny_holding (thn (ho pins s σ H _ I h) fun ov s1 ⟨x, H1, I1, r1, q1⟩ => ?_))
  refine wpAny_bind (wpAny_holding (thn (hi pins s1 σ H1 _ I1 q1) fun iv s2 ⟨y, H2, I2, r2, q2⟩ => ?_))
  refine wpAny_bind (wpAny_standAt (wpAny_bind (wpAny_holding (thn (hs pins s2 σ H2 x y v ov iv u _ I2 r1 r2 r q2) fun _ s3 ⟨H3, I3, q3⟩ => ?_))))
  exact wpAny_release ⟨σ, H3, I3, q3⟩
def tAsg (te : TE) (g : TG) : TS := fun D σ H => te σ H fun x H1 => g x σ H1 D.nx
theorem ps_asg {tg e : Expr} {te : TE} {g : TG} (he : PE X e te) (hg : PG X tg g) (hs : swapsWithSole [tg] e pos.line X.env = pure false := by rfl) (hw : swappedStores [tg] e X.env = pure none := by rfl)
    (h1 : (assignEach [tg] X.env).map (·.2) = [assign tg X.env] := by rfl) : PS X (.Assign [tg] e pos) (tAsg te g) := by
  intro pins s σ H D I h
  refine wpAny_Assign_stores (thn (he pins s σ H _ I h) fun v s1 ⟨x, H1, I1, r1, q1⟩ => ?_) hs hw
  rw [h1]
  exact thn (hg pins s1 σ H1 x v _ I1 r1 q1) fun _ s2 q => q
theorem ps_set {i : Nat} {x : Str} {e : Expr} {te : TE} {pos' : Pos} (hN : X.N.Nodup) (hi : X.N[i]? = some x) (hx : Loc X.env.scope x) (he : PE X e te) (hs : swapsWith e (some (.Name x pos')) pos.line X.env = pure false := by rfl) (hf : X.fn x = true ∨ X.env.scope.names.lookup x = some .local := by first | exact .inl rfl | exact .inr rfl | assumption) :
    PS X (.Assign [.Name x pos'] e pos) (tAsg te (gName i)) := by
  intro pins s σ H D I h
  refine wpAny_Assign_Name (thn (he pins s σ H _ I h) fun v s1 ⟨y, H1, I1, r1, q1⟩ => ?_) hs
  exact store_ok I1 hN hi hx r1 (fun s2 I2 => ⟨_, H1, I2, q1⟩) hf
def tPar (i j : Nat) (ta : TA) : TS := fun D σ H => ta σ H fun vs H1 => ∃ v w, vs = [v, w] ∧ D.nx ((σ.set i (some v)).set j (some w)) H1
def tAug (i : Nat) (te : TE) (ti : TIp) : TS := fun D σ H => ∃ x, σ[i]? = some (some x) ∧ te σ H fun y H1 => ti x y H1 fun z H2 => D.nx (σ.set i (some z)) H2
def tAugS (to ti te : TE) (tget : V → V → Hp → VK → Prop) (tip : TIp) (tset : TSet) : TS := fun D σ H => to σ H fun o H1 => ti σ H1 fun i H2 => tget o i H2 fun x H3 => te σ H3 fun y H4 => tip x y H4 fun z H5 => tset o i z H5 fun H6 => D.nx σ H6
def PGet (X : Cx) (t : V → V → Hp → VK → Prop) : Prop :=
  ∀ (pins : List (Addr × Obj)) (s : Shared) (σ : St) (H : Hp) (o i : V) (ov iv : Value) (Q : VK), Inv X pins σ H s → RelV o ov → RelV i iv → t o i H Q →
    wpAny (model X.prog X.w) X.A (getItem ov iv) (EP X pins σ Q) X.xe s
def ipI (f : Int → Int → Int) : TIp := fun x y H Q => ∃ i j, x = .int i ∧ y = .int j ∧ Q (.int (f i j)) H
end

section
variable {X : Cx} {pos : Pos}
def tWhile (c : TT) (tb : TS) : TS := fun D σ H => ∃ W : Nat → St → Hp → Prop, (∃ m, W m σ H) ∧ ∀ m σ H, W m σ H →
  c σ H fun b H1 => if b = true then ∃ N : St → Hp → Prop, (∀ σ' H', N σ' H' → ∃ m', m' < m ∧ W m' σ' H') ∧ tb { D with nx := N, ct := N, bk := D.nx } σ H1 else D.nx σ H1
end

structure It where
  go : Nat → Hp → Prop
  yld : Nat → Hp → V → Hp → Prop
  stop : Nat → Hp → Prop
def FpOk (X : Cx) (pins : List (Addr × Obj)) (H : Hp) (b : Addr) : Prop :=
  H b = none ∧ b ≠ X.env.locals ∧ b ∉ X.fs ∧ (b ∈ X.ex ∨ X.s₀.heap.objs.size ≤ b) ∧ (∀ x c, X.env.cells.lookup x = some c → c ≠ b) ∧ ∀ p ∈ X.pn ++ pins, p.1 ≠ b
theorem Inv.fpOk {X : Cx} {pins : List (Addr × Obj)} {σ : St} {H H' : Hp} {s : Shared} {b : Addr} (I : Inv X pins σ H s) (hb : s.heap.objs.size ≤ b) (hn : H' b = none) : FpOk X pins H' b := by
  refine ⟨hn, Nat.ne_of_gt (Nat.lt_of_lt_of_le I.lt hb), I.nofs hb, .inr (Nat.le_trans I.sz hb), fun x c e z => ?_, fun p hp z => ?_⟩
  · obtain ⟨v, q⟩ := I.cell x c e
    exact absurd (Nat.lt_of_lt_of_le q.lt (by rw [z]; exact hb)) (Nat.lt_irrefl _)
  · exact absurd (Nat.lt_of_lt_of_le (Heap.lt_size (I.pin p hp).1) (by rw [z]; exact hb)) (Nat.lt_irrefl _)
structure Turn (P : Program) (w : World) (K : PySem.W.Frag) (tg : Expr) (J : It) (fp : List Addr) (it : Addr) (tn : Nat → Heap → Prop) : Prop where
  mem : it ∈ fp
  obj : ∀ i h, tn i h → ∀ b ∈ fp, ∃ o, h.get? b = some o ∧ ∀ v, o.data ≠ .cell v
  keep : ∀ i h h', tn i h → (∀ b ∈ fp, ∀ o, h.get? b = some o → h'.get? b = some o) → tn i h'
  item : ∀ (X : Cx), X.prog = P → X.w = w → X.K = K → X.calm = true → ∀ (i : Nat) (pins : List (Addr × Obj)) (s : Shared) (σ : St) (H : Hp) (E : Value → Shared → Prop), Inv X pins σ H s → (∀ b ∈ fp, FpOk X pins H b) → tn i s.heap → J.go i H →
    wpAny (model P w) X.A (pyNext (.ref it)) (fun r s1 => ∃ u, r = some u ∧
      wpAny (model P w) X.A (letOwnedTupleGo tg (.ref it) u) (fun _ s2 => ∃ x H', Inv X pins σ H' s2 ∧ RelV x u ∧ J.yld i H x H' ∧ tn (i + 1) s2.heap ∧ ∀ b ∈ fp, H' b = none) E s1) E s
  done : ∀ (X : Cx), X.prog = P → X.w = w → X.K = K → X.calm = true → ∀ (i : Nat) (pins : List (Addr × Obj)) (s : Shared) (σ : St) (H : Hp) (E : Value → Shared → Prop), Inv X pins σ H s → (∀ b ∈ fp, FpOk X pins H b) → tn i s.heap → J.stop i H →
    wpAny (model P w) X.A (pyNext (.ref it)) (fun r s1 => r = none ∧ Inv X pins σ H s1) E s
  self : ∀ (A : Around) (i : Nat) (s : Shared) (Q : Value → Shared → Prop) (E : Value → Shared → Prop), tn i s.heap → Q (.ref it) s → wpAny (model P w) A (pyIter (.ref it)) Q E s
abbrev TI := St → Hp → (It → Hp → Prop) → Prop
def PIE (X : Cx) (pins : List (Addr × Obj)) (σ : St) (tg : Expr) (R : It → Hp → Prop) (itv : Value) (s2 : Shared) : Prop :=
  ∃ (it : Addr) (fp : List Addr) (tn : Nat → Heap → Prop) (J : It) (H' : Hp), itv = .ref it ∧ Inv X pins σ H' s2 ∧ Turn X.prog X.w X.K tg J fp it tn ∧ tn 0 s2.heap ∧ (∀ b ∈ fp, FpOk X pins H' b) ∧ R J H'
def PI (X : Cx) (tg iter : Expr) (wi : TI) : Prop :=
  ∀ (pins : List (Addr × Obj)) (s : Shared) (σ : St) (H : Hp) (R : It → Hp → Prop), Inv X pins σ H s → wi σ H R →
    wpAny (model X.prog X.w) X.A (eval iter X.env) (fun v s1 => wpAny (model X.prog X.w) X.A (pyIter v) (PIE X pins σ tg R) X.xe s1) X.xe s

theorem go_of {M : Model} {A : Around} {E : Value → Shared → Prop} {s : Shared} {tg : Expr} {it : Addr} {u : Value} {o : Obj} {n : String} {vs : Array Value} {Q : Unit → Shared → Prop} (ho : s.heap.get? it = some o) (hc : o.cls = .type n) (hd : o.data = .fields vs)
    (hn : ["enumerate", "zip", "dict_itemiterator", "dict_reverseitemiterator", "odict_iterator", "itertools.zip_longest", "itertools.pairwise"].contains n = false) (hQ : Q () s) : wpAny M A (letOwnedTupleGo tg (.ref it) u) Q E s := by
  unfold letOwnedTupleGo
  cases tg <;> first
    | exact wpAny_pure hQ
    | (cases u <;> first
        | exact wpAny_pure hQ
        | (refine wpAny_bind (wpAny_load ho ?_)
           rw [hc, hd]
           show wpAny M A (if (["enumerate", "zip", "dict_itemiterator", "dict_reverseitemiterator", "odict_iterator", "itertools.zip_longest", "itertools.pairwise"].contains n && vs[0]? == some (rawInt _)) = true then _ else _) Q E s
           rw [if_neg (by intro h; rw [hn, Bool.false_and] at h; cases h)]
           exact wpAny_pure hQ))

def Itl (K : PySem.W.Frag) (a : Addr) : It :=
  ⟨fun i H => ∃ xs x, SqL K H a xs ∧ xs[i]? = some x, fun i H x H' => H' = H ∧ ∀ xs, SqL K H a xs → xs[i]? = some x, fun i H => ∃ xs, SqL K H a xs ∧ xs.length ≤ i⟩
def Itt (K : PySem.W.Frag) (a : Addr) : It :=
  ⟨fun i H => ∃ xs x, SqT K H a xs ∧ xs[i]? = some x, fun i H x H' => H' = H ∧ ∀ xs, SqT K H a xs → xs[i]? = some x, fun i H => ∃ xs, SqT K H a xs ∧ xs.length ≤ i⟩
def Itr (lo : Int) (n : Nat) : It := ⟨fun i _ => i < n, fun i H x H' => H' = H ∧ x = .int (lo + i), fun i _ => n ≤ i⟩
theorem turn_list {P : Program} {w : World} {K : PySem.W.Frag} {tg : Expr} (a it : Addr) : Turn P w K tg (Itl K a) [it] it (fun i h => h.IsListIter it a i) where
  mem := by simp
  obj := fun i h st b hb => by
    have e : b = it := by simpa using hb
    subst e
    obtain ⟨o, e, c, d⟩ := st
    exact ⟨o, e, fun v z => by rw [d] at z; cases z⟩
  keep := fun i h h' st k => st.at fun o e => k it (by simp) o e
  item := by
    intro X hP hw hK hc i pins s σ H E I hf st hg
    subst hP hw hK
    obtain ⟨xs, x, hq, hx⟩ := hg
    obtain ⟨its, rv, p, hz⟩ := I.list hq
    obtain ⟨u, hu, ru⟩ := rv.get hx
    obtain ⟨f0, f1, f2, f3, f4, f5⟩ := hf it (by simp)
    refine wpAny_pyNext_list_item st p.isList (x := u) (by simpa using hu) fun h' st' sb => ?_
    have I1 : Inv X pins σ H { s with heap := h' } := I.turned (t' := s.toks) (fun b o hb e => (sb.2 b hb).trans e) f0 f1 f3 f4 f5
    obtain ⟨o, e, c, d⟩ := id st'
    exact ⟨u, rfl, go_of (s := { s with heap := h' }) e c d (by decide) ⟨x, H, I1, ru, ⟨rfl, fun ys hy => by rw [I.list_inj hy hq]; exact hx⟩, st', fun b hb => (hf b hb).1⟩⟩
  done := by
    intro X hP hw hK hc i pins s σ H E I hf st hg
    subst hP hw hK
    obtain ⟨xs, hq, hx⟩ := hg
    obtain ⟨its, rv, p, hz⟩ := I.list hq
    obtain ⟨f0, f1, f2, f3, f4, f5⟩ := hf it (by simp)
    have hl := rv.length
    exact wpAny_pyNext_list_end (I.ok.hd hc) st p.isList (by simp; omega) fun h' eb => ⟨rfl, I.turned (t' := s.toks) (fun b o hb e => eb b o hb e) f0 f1 f3 f4 f5⟩
  self := fun _ _ _ _ _ st h => wpAny_pyIter_listiter st h
theorem turn_range {P : Program} {w : World} {K : PySem.W.Frag} {tg : Expr} (it : Addr) (lo : Int) (n : Nat) : Turn P w K tg (Itr lo n) [it] it (fun i h => IsRangeIter h it (lo + (i : Nat) * 1) ((n : Int) - (i : Nat)) 1) where
  mem := by simp
  obj := fun i h st b hb => by
    have e : b = it := by simpa using hb
    subst e
    exact ⟨_, st, fun v z => by
      have z' : Data.fields _ = Data.cell v := z
      cases z'⟩
  keep := fun i h h' st k => k it (by simp) _ st
  item := by
    intro X hP hw hK hc i pins s σ H E I hf st hg
    subst hP hw hK
    obtain ⟨f0, f1, f2, f3, f4, f5⟩ := hf it (by simp)
    have W := Walks.range (prog := X.prog) (w := X.w) (I.ok.hd hc) it lo 1 n
    refine W.item i s _ _ hg st fun v h' tk hv st' kk => ?_
    obtain ⟨t, rfl⟩ := hv
    have I1 : Inv X pins σ H { s with heap := h', toks := tk } := I.turned (fun b o hb e => kk b o (by simpa using hb) e) f0 f1 f3 f4 f5
    refine ⟨_, rfl, go_of (s := { s with heap := h', toks := tk }) (n := "range_iterator") st' rfl rfl (by decide) ⟨.int (lo + i), H, I1, ⟨t, ?_⟩, ⟨rfl, rfl⟩, st', fun b hb => (hf b hb).1⟩⟩
    rw [Int.mul_one]
  done := by
    intro X hP hw hK hc i pins s σ H E I hf st hg
    subst hP hw hK
    obtain ⟨f0, f1, f2, f3, f4, f5⟩ := hf it (by simp)
    exact wpAny_pyNext_range_end (I.ok.hd hc) st (by have : n ≤ i := hg; omega) fun h' eb => ⟨rfl, I.turned (t' := s.toks) (fun b o hb e => eb b o hb e) f0 f1 f3 f4 f5⟩
  self := fun _ _ _ _ _ st h => wpAny_pyIter_rangeiter st h
end L2

namespace L2
open PySem PySem.Spec PyProof.Rows
section
variable {X : Cx} {tg : Expr}
def iList (K : PySem.W.Frag) (tl : TE) : TI := fun σ H R => tl σ H fun x H1 => ∃ a, x = .ref a ∧ (∃ xs, SqL K H1 a xs) ∧ R (Itl K a) H1
def iTup (K : PySem.W.Frag) (tl : TE) : TI := fun σ H R => tl σ H fun x H1 => ∃ a, x = .ref a ∧ (∃ xs, SqT K H1 a xs) ∧ R (Itt K a) H1
theorem pi_list {l : Expr} {tl : TE} (hl : PE X l tl) : PI X tg l (iList X.K tl) := by
  intro pins s σ H R I h
  refine thn (hl pins s σ H _ I h) fun v s1 ⟨x, H1, I1, r1, q1⟩ => ?_
  obtain ⟨a, e, ⟨xs, hq⟩, q⟩ := q1
  subst e
  cases r1
  obtain ⟨its, rv, p, hz⟩ := I1.list hq
  refine wpAny_pyIter_list p.isList ?_
  refine ⟨s1.heap.objs.size, [s1.heap.objs.size], _, _, H1, rfl, I1.kept (t' := s1.toks) fun b o e => Heap.get?_push_of_some _ e, turn_list a _, ⟨_, Heap.get?_push_size _ rfl, rfl, rfl⟩, fun b hb => ?_, q⟩
  have e : b = s1.heap.objs.size := by simpa using hb
  subst e
  exact I1.fpOk (Nat.le_refl _) (I1.hok.fresh (Nat.le_refl _))
theorem range_it {pins : List (Addr × Obj)} {σ : St} {H : Hp} {s : Shared} {R : It → Hp → Prop} {E : Value → Shared → Prop} {lo hi : Int} {t u v : Tok} {tk : Nat} (I : Inv X pins σ H s) (h1 : -(2 ^ 62) ≤ lo) (h2 : lo < 2 ^ 62) (h3 : -(2 ^ 62) ≤ hi) (h4 : hi < 2 ^ 62)
    (q : R (Itr lo (hi - lo).toNat) H) : wpAny (model X.prog X.w) X.A (pyIter (.ref s.heap.objs.size)) (PIE X pins σ tg R) E { s with heap := s.heap.push { cls := .type "range", data := .fields #[.int lo t, .int hi u, .int 1 v] }, toks := tk } := by
  refine wpAny_pyIter_range (IsRange.new ..) (small_one h1 h2 h3 h4) ?_
  have I1 : Inv X pins σ H { s with heap := s.heap.push { cls := .type "range", data := .fields #[.int lo t, .int hi u, .int 1 v] }, toks := tk } := I.kept fun b o e => Heap.get?_push_of_some _ e
  refine ⟨(s.heap.push { cls := .type "range", data := .fields #[.int lo t, .int hi u, .int 1 v] }).objs.size, [(s.heap.push { cls := .type "range", data := .fields #[.int lo t, .int hi u, .int 1 v] }).objs.size], _, _, H, rfl,
    I1.kept (t' := tk) fun b o e => Heap.get?_push_of_some _ e, turn_range _ lo (hi - lo).toNat, ?_, fun b hb => ?_, q⟩
  · have e1 : lo + ((0 : Nat) : Int) * 1 = lo := by simp
    have e2 : (((hi - lo).toNat : Nat) : Int) - ((0 : Nat) : Int) = Builtin.Range.rangeSize lo hi 1 := by rw [rangeSize_one]; split <;> omega
    show IsRangeIter _ _ (lo + ((0 : Nat) : Int) * 1) ((((hi - lo).toNat : Nat) : Int) - ((0 : Nat) : Int)) 1
    rw [e1, e2]
    exact Heap.get?_push_size _ rfl
  · have e : b = (s.heap.push { cls := .type "range", data := .fields #[.int lo t, .int hi u, .int 1 v] }).objs.size := by simpa using hb
    subst e
    exact I1.fpOk (Nat.le_refl _) (I1.hok.fresh (Nat.le_refl _))
def iRng1 (ta : TA) : TI := fun σ H R => ta σ H fun vs H1 => ∃ j : Int, vs = [.int j] ∧ -(2 ^ 62) ≤ j ∧ j < 2 ^ 62 ∧ R (Itr 0 j.toNat) H1
def iRng2 (ta : TA) : TI := fun σ H R => ta σ H fun vs H1 => ∃ i j : Int, vs = [.int i, .int j] ∧ (-(2 ^ 62) ≤ i ∧ i < 2 ^ 62 ∧ -(2 ^ 62) ≤ j ∧ j < 2 ^ 62) ∧ R (Itr i (j - i).toNat) H1
theorem pi_range1 {a : Expr} {ta : TA} {p pos : Pos} (hg : Gl X "range") (hm : X.mg "range" = none) (ha : PA X [a] ta) (hs : starEach [a] X.env = [(false, eval a X.env)] := by rfl) : PI X tg (.Call (.Name "range" p) [a] [] pos) (iRng1 ta) := by
  intro pins s σ H R I h
  refine Call_ (ld_blt I hg hm boot_range (PyProof.Rows.callWith_type1 (thn (ha pos pins s σ H _ I h) fun us s1 ⟨vs, H1, I1, r1, q1⟩ => ?_) hs rfl))
  obtain ⟨j, e, q1, q2, q⟩ := q1
  subst e
  cases r1 with
  | cons r rr =>
    cases rr
    obtain ⟨t, rfl⟩ := r
    exact call_range_1 (range_it I1 (by omega) (by omega) q1 q2 (by simpa using q))
def tFor (wi : TI) (g : TG) (tb : TS) : TS := fun D σ H => wi σ H fun J H1 => ∃ W : Nat → Nat → St → Hp → Prop, (∃ m, W 0 m σ H1) ∧ ∀ i m σ H, W i m σ H →
  (J.stop i H ∧ D.nx σ H) ∨ (J.go i H ∧ ∃ N : St → Hp → Prop, (∀ σ' H', N σ' H' → ∃ m', m' < m ∧ W (i + 1) m' σ' H') ∧ ∀ x H', J.yld i H x H' → g x σ H' fun σ2 H2 => tb { D with nx := N, ct := N, bk := D.nx } σ2 H2)
def pinsAt (fp : List Addr) (h : Heap) : List (Addr × Obj) := fp.filterMap fun b => (h.get? b).map fun o => (b, o)
theorem mem_pinsAt {fp : List Addr} {h : Heap} {b : Addr} {o : Obj} (hb : b ∈ fp) (e : h.get? b = some o) : (b, o) ∈ pinsAt fp h := List.mem_filterMap.mpr ⟨b, hb, by rw [e]; rfl⟩
theorem of_pinsAt {fp : List Addr} {h : Heap} {p : Addr × Obj} (hp : p ∈ pinsAt fp h) : p.1 ∈ fp ∧ h.get? p.1 = some p.2 := by
  obtain ⟨b, hb, e⟩ := List.mem_filterMap.mp hp
  cases q : h.get? b with
  | none => rw [q] at e; cases e
  | some o =>
    rw [q] at e
    have e' : (b, o) = p := Option.some.inj e
    subst e'
    exact ⟨hb, q⟩
theorem Inv.pinned {pins : List (Addr × Obj)} {σ : St} {H : Hp} {s : Shared} {fp : List Addr} (I : Inv X pins σ H s) (hf : ∀ b ∈ fp, FpOk X pins H b) (ho : ∀ b ∈ fp, ∃ o, s.heap.get? b = some o ∧ ∀ v, o.data ≠ .cell v) : Inv X (pins ++ pinsAt fp s.heap) σ H s :=
  I.pins_of fun p hp => (List.mem_append.mp hp).elim (fun z => I.pin p (List.mem_append_right _ z)) fun z => by
    obtain ⟨hb, e⟩ := of_pinsAt z
    obtain ⟨f0, f1, f2, _⟩ := hf p.1 hb
    obtain ⟨o, e', d⟩ := ho p.1 hb
    rw [e] at e'; cases e'
    exact ⟨e, f0, f1, f2, d⟩
theorem Inv.unpinned {pins pl : List (Addr × Obj)} {σ : St} {H : Hp} {s : Shared} (I : Inv X (pins ++ pl) σ H s) : Inv X pins σ H s := I.pins_of fun p hp => I.pin p (List.mem_append_right _ (List.mem_append_left _ hp))
theorem ps_for {iter : Expr} {body : List Stmt} {wi : TI} {g : TG} {tb : TS} {pos : Pos} (hp : PassesOwn (model X.prog X.w) X.A X.env X.xe) (hc : X.calm = true) (hi : PI X tg iter wi) (hg : PG X tg g) (hb : PSs X body tb)
    (hs : ∀ x, foldedSetIterable iter X.env x = pure x := by intro _; rfl) : PS X (.For tg iter body [] pos) (tFor wi g tb) := by
  intro pins s σ H D I h
  refine wpAny_For (thn (hi pins s σ H _ I h) fun v s1 h1 => thn h1 fun itv s2 h2 => ?_) hs
  obtain ⟨it, fp, tn, J, H2, e, I2, T, st2, f2, W, ⟨m0, w0⟩, turn⟩ := h2
  subst e
  -- what stays true of the iterator's objects through the loop
  have stat : ∀ {H' : Hp}, (∀ b ∈ fp, H' b = none) → ∀ b ∈ fp, FpOk X pins H' b := fun hn b hb => ⟨hn b hb, (f2 b hb).2⟩
  refine codeAny_forLoop_any (fun n s' => ∃ i σ' H', Inv X pins σ' H' s' ∧ tn i s'.heap ∧ (∀ b ∈ fp, H' b = none) ∧ W i n σ' H') ?_ m0 ⟨0, σ, H2, I2, st2, fun b hb => (f2 b hb).1, w0⟩
  rintro n s3 ⟨i, σ3, H3, I3, st3, fr3, w3⟩
  rcases turn i n σ3 H3 w3 with ⟨stop, qn⟩ | ⟨go, N, hN, step⟩
  · refine wpAny_passesOwn hp (thn (T.done X rfl rfl rfl hc i pins s3 σ3 H3 X.xe I3 (stat fr3) st3 stop) fun r s4 ⟨hr, I4⟩ => ?_)
    subst hr
    exact wpAny_execs_nil ⟨σ3, H3, I4, qn⟩
  · refine wpAny_passesOwn hp (thn (T.item X rfl rfl rfl hc i pins s3 σ3 H3 X.xe I3 (stat fr3) st3 go) fun r s4 ⟨u, hr, h4⟩ => ?_)
    subst hr
    refine wpAny_passesOwn hp (thn h4 fun _ s5 ⟨x, H5, I5, r5, y5, st5, fr5⟩ => ?_)
    have I5' := I5.pinned (stat fr5) (T.obj _ _ st5)
    refine wpAny_passesOwn hp (thn (hg _ s5 σ3 H5 x u _ I5' r5 (step x H5 y5)) fun _ s6 ⟨σ6, H6, I6, q6⟩ => ?_)
    refine wpAny_passesOwn hp (thn (hb _ s6 σ6 H6 _ I6 q6) fun f s7 q7 => ?_)
    have again : ∀ {σ7 : St} {H7 : Hp}, Inv X (pins ++ pinsAt fp s5.heap) σ7 H7 s7 → N σ7 H7 → ∃ m, m < n ∧ ∃ i σ' H', Inv X pins σ' H' s7 ∧ tn i s7.heap ∧ (∀ b ∈ fp, H' b = none) ∧ W i m σ' H' := fun {σ7 H7} I7 n7 => by
      obtain ⟨m', hm, w7⟩ := hN σ7 H7 n7
      refine ⟨m', hm, i + 1, σ7, H7, I7.unpinned, T.keep _ _ _ st5 fun b hb o e => (I7.pin (b, o) (List.mem_append_right _ (List.mem_append_right _ (mem_pinsAt hb e)))).1, fun b hb => ?_, w7⟩
      obtain ⟨o, e, d⟩ := T.obj _ _ st5 b hb
      exact (I7.pin (b, o) (List.mem_append_right _ (List.mem_append_right _ (mem_pinsAt hb e)))).2.1
    cases f with
    | next => obtain ⟨σ7, H7, I7, n7⟩ := q7; exact again I7 n7
    | cont => obtain ⟨σ7, H7, I7, n7⟩ := q7; exact again I7 n7
    | brk => obtain ⟨σ7, H7, I7, q7⟩ := q7; exact ⟨σ7, H7, I7.unpinned, q7⟩
    | ret v => obtain ⟨x7, σ7, H7, I7, r7, q7⟩ := q7; exact ⟨x7, σ7, H7, I7.unpinned, r7, q7⟩
end

theorem for_list {K : PySem.W.Frag} {a : Addr} {xs : List V} {g : TG} {tb : TS} {D : Ends} {σ : St} {H : Hp} (Pv : Nat → St → Hp → Prop) (h0 : Pv 0 σ H) (hl : ∀ i σ H, i ≤ xs.length → Pv i σ H → SqL K H a xs)
    (hs : ∀ i x σ H, xs[i]? = some x → Pv i σ H → g x σ H fun σ2 H2 => tb { D with nx := Pv (i + 1), ct := Pv (i + 1), bk := D.nx } σ2 H2) (hd : ∀ σ H, Pv xs.length σ H → D.nx σ H) :
    ∃ W : Nat → Nat → St → Hp → Prop, (∃ m, W 0 m σ H) ∧ ∀ i m σ H, W i m σ H →
      ((Itl K a).stop i H ∧ D.nx σ H) ∨ ((Itl K a).go i H ∧ ∃ N : St → Hp → Prop, (∀ σ' H', N σ' H' → ∃ m', m' < m ∧ W (i + 1) m' σ' H') ∧ ∀ x H', (Itl K a).yld i H x H' → g x σ H' fun σ2 H2 => tb { D with nx := N, ct := N, bk := D.nx } σ2 H2) := by
  refine ⟨fun i m σ H => m = xs.length - i ∧ i ≤ xs.length ∧ Pv i σ H, ⟨xs.length, by simp, Nat.zero_le _, h0⟩, ?_⟩
  rintro i m σ H ⟨rfl, hi, p⟩
  have q := hl i σ H hi p
  by_cases hlt : i < xs.length
  · refine .inr ⟨⟨xs, xs[i], q, by simp [hlt]⟩, Pv (i + 1), fun σ' H' p' => ⟨xs.length - (i + 1), by omega, rfl, hlt, p'⟩, fun x H' y => ?_⟩
    obtain ⟨e, y⟩ := y
    subst e
    exact hs i x σ _ (y xs q) p
  · have e : i = xs.length := by omega
    subst e
    exact .inl ⟨⟨xs, q, Nat.le_refl _⟩, hd σ H p⟩
theorem for_range {lo : Int} {n : Nat} {g : TG} {tb : TS} {D : Ends} {σ : St} {H : Hp} (Pv : Nat → St → Hp → Prop) (h0 : Pv 0 σ H)
    (hs : ∀ i σ H, i < n → Pv i σ H → g (.int (lo + i)) σ H fun σ2 H2 => tb { D with nx := Pv (i + 1), ct := Pv (i + 1), bk := D.nx } σ2 H2) (hd : ∀ σ H, Pv n σ H → D.nx σ H) :
    ∃ W : Nat → Nat → St → Hp → Prop, (∃ m, W 0 m σ H) ∧ ∀ i m σ H, W i m σ H →
      ((Itr lo n).stop i H ∧ D.nx σ H) ∨ ((Itr lo n).go i H ∧ ∃ N : St → Hp → Prop, (∀ σ' H', N σ' H' → ∃ m', m' < m ∧ W (i + 1) m' σ' H') ∧ ∀ x H', (Itr lo n).yld i H x H' → g x σ H' fun σ2 H2 => tb { D with nx := N, ct := N, bk := D.nx } σ2 H2) := by
  refine ⟨fun i m σ H => m = n - i ∧ i ≤ n ∧ Pv i σ H, ⟨n, by simp, Nat.zero_le _, h0⟩, ?_⟩
  rintro i m σ H ⟨rfl, hi, p⟩
  by_cases hlt : i < n
  · refine .inr ⟨hlt, Pv (i + 1), fun σ' H' p' => ⟨n - (i + 1), by omega, rfl, hlt, p'⟩, fun x H' y => ?_⟩
    obtain ⟨e, y⟩ := y
    subst e y
    exact hs i σ _ hlt p
  · have e : i = n := by omega
    subst e
    exact .inl ⟨Nat.le_refl _, hd σ H p⟩
end L2

namespace L2
open PySem PySem.Spec PyProof.Rows

abbrev R2 := V → V → Hp → VK → Prop
def OpR (X : Cx) (f : Value → Value → Sem Value) (r : R2) : Prop :=
  ∀ (pins : List (Addr × Obj)) (s : Shared) (σ : St) (H : Hp) (x y : V) (v u : Value) (Q : VK), Inv X pins σ H s → RelV x v → RelV y u → r x y H Q →
    wpAny (model X.prog X.w) X.A (f v u) (EP X pins σ Q) X.xe s
def UnR (X : Cx) (f : Value → Sem Value) (r : V → Hp → VK → Prop) : Prop :=
  ∀ (pins : List (Addr × Obj)) (s : Shared) (σ : St) (H : Hp) (x : V) (v : Value) (Q : VK), Inv X pins σ H s → RelV x v → r x H Q →
    wpAny (model X.prog X.w) X.A (f v) (EP X pins σ Q) X.xe s
def CallR (X : Cx) (f : Value) (r : List V → Hp → VK → Prop) : Prop :=
  ∀ (pins : List (Addr × Obj)) (s : Shared) (σ : St) (H : Hp) (xs : List V) (us : List Value) (Q : VK), Inv X pins σ H s → Vals xs us → r xs H Q →
    wpAny (model X.prog X.w) X.A (call f us) (EP X pins σ Q) X.xe s
def TruR (X : Cx) (r : V → Hp → (Bool → Hp → Prop) → Prop) : Prop :=
  ∀ (pins : List (Addr × Obj)) (s : Shared) (σ : St) (H : Hp) (x : V) (v : Value) (Q : Bool → Hp → Prop), Inv X pins σ H s → RelV x v → r x H Q →
    wpAny (model X.prog X.w) X.A (truthy v) (TP X pins σ Q) X.xe s

def tOp (r : R2) (ta tb : TE) : TE := fun σ H Q => ta σ H fun x H1 => tb σ H1 fun y H2 => r x y H2 Q
def tUn (r : V → Hp → VK → Prop) (ta : TE) : TE := fun σ H Q => ta σ H fun x H1 => r x H1 Q
def rI (C : Int → Int → Prop) (g : Int → Int → V) : R2 := fun x y H Q => ∃ i j, x = .int i ∧ y = .int j ∧ C i j ∧ Q (g i j) H
def rI0 (g : Int → Int → V) : R2 := fun x y H Q => ∃ i j, x = .int i ∧ y = .int j ∧ Q (g i j) H
def rU (g : Int → V) : V → Hp → VK → Prop := fun x H Q => ∃ i, x = .int i ∧ Q (g i) H

section
variable {X : Cx} {a b c : Expr} {ta tb tc : TE} {pos : Pos}

theorem binT (ha : PE X a ta) (hb : PE X b tb) {pins : List (Addr × Obj)} {s : Shared} {σ : St} {H : Hp} {R : V → V → Hp → Prop} (I : Inv X pins σ H s)
    (h : ta σ H fun x H1 => tb σ H1 fun y H2 => R x y H2) {Q : Value → Shared → Prop} {f : Value → Value → Sem Value}
    (hf : ∀ v u s2 x y H2, Inv X pins σ H2 s2 → RelV x v → RelV y u → R x y H2 → wpAny (model X.prog X.w) X.A (f v u) Q X.xe s2) :
    wpAny (model X.prog X.w) X.A (eval a X.env) (fun v s₁ => wpAny (model X.prog X.w) X.A (eval b X.env) (fun u s₂ => wpAny (model X.prog X.w) X.A (f v u) Q X.xe s₂) X.xe s₁) X.xe s := by
  refine thn (ha pins s σ H _ I h) fun v s1 ⟨x, H1, I1, r1, q1⟩ => ?_
  refine thn (hb pins s1 σ H1 _ I1 q1) fun u s2 ⟨y, H2, I2, r2, q2⟩ => ?_
  exact hf v u s2 x y H2 I2 r1 r2 q2

theorem pe_op {op : Operator} {r : R2} (ho : OpR X (binaryOp op) r) (ha : PE X a ta) (hb : PE X b tb) : PE X (.BinOp a op b pos) (tOp r ta tb) := by
  intro pins s σ H Q I h
  exact wpAny_BinOp (binT ha hb I h fun v u s2 x y H2 I2 rx ry q => ho pins s2 σ H2 x y v u Q I2 rx ry q)
theorem pe_un {op : UnaryOp} {r : V → Hp → VK → Prop} (ho : UnR X (unaryOp op) r) (ha : PE X a ta) : PE X (.UnaryOp op a pos) (tUn r ta) := by
  intro pins s σ H Q I h
  exact UnaryOp_ (thn (ha pins s σ H _ I h) fun v s1 ⟨x, H1, I1, r1, q1⟩ => ho pins s1 σ H1 x v Q I1 r1 q1)
theorem opI {f : Value → Value → Sem Value} {C : Int → Int → Prop} {g : Int → Int → Int}
    (rule : ∀ (i j : Int) (t u : Tok) (s : Shared) (Q : Value → Shared → Prop) (E : Value → Shared → Prop), C i j → Q (.int (g i j) s.toks) { s with toks := s.toks + 1 } → wpAny (model X.prog X.w) X.A (f (.int i t) (.int j u)) Q E s) :
    OpR X f (rI C fun i j => .int (g i j)) := by
  intro pins s σ H x y v u Q I rx ry h
  obtain ⟨i, j, rfl, rfl, hc, q⟩ := h
  obtain ⟨t, rfl⟩ := rx
  obtain ⟨t', rfl⟩ := ry
  exact rule i j t t' s _ _ hc ⟨.int (g i j), H, I.tok _, ⟨_, rfl⟩, q⟩
theorem opI0 {f : Value → Value → Sem Value} {g : Int → Int → Int}
    (rule : ∀ (i j : Int) (t u : Tok) (s : Shared) (Q : Value → Shared → Prop) (E : Value → Shared → Prop), Q (.int (g i j) s.toks) { s with toks := s.toks + 1 } → wpAny (model X.prog X.w) X.A (f (.int i t) (.int j u)) Q E s) :
    OpR X f (rI0 fun i j => .int (g i j)) := by
  intro pins s σ H x y v u Q I rx ry h
  obtain ⟨i, j, rfl, rfl, q⟩ := h
  obtain ⟨t, rfl⟩ := rx
  obtain ⟨t', rfl⟩ := ry
  exact rule i j t t' s _ _ ⟨.int (g i j), H, I.tok _, ⟨_, rfl⟩, q⟩
theorem opB0 {f : Value → Value → Sem Value} {g : Int → Int → Bool}
    (rule : ∀ (i j : Int) (t u : Tok) (s : Shared) (Q : Value → Shared → Prop) (E : Value → Shared → Prop), Q (.bool (g i j)) s → wpAny (model X.prog X.w) X.A (f (.int i t) (.int j u)) Q E s) :
    OpR X f (rI0 fun i j => .bl (g i j)) := by
  intro pins s σ H x y v u Q I rx ry h
  obtain ⟨i, j, rfl, rfl, q⟩ := h
  obtain ⟨t, rfl⟩ := rx
  obtain ⟨t', rfl⟩ := ry
  exact rule i j t t' s _ _ ⟨.bl (g i j), H, I, rfl, q⟩

def CDiv (i j : Int) : Prop := 0 < j ∧ j < 1073741824
def CDivN (i j : Int) : Prop := j ≠ 0 ∧ j.natAbs < 1073741824
def CPow (i j : Int) : Prop := 0 ≤ j ∧ j ≤ 1000000 ∧ i.natAbs < 2 ^ 64
def CMul (i j : Int) : Prop := (-(2 ^ 64) < i ∧ i < 2 ^ 64) ∨ (-(2 ^ 64) < j ∧ j < 2 ^ 64)
theorem CMul.ok {i j : Int} (h : CMul i j) : IntMulOk i j := by
  rcases h with ⟨h1, h2⟩ | ⟨h1, h2⟩
  · exact .of_left (intBits_le_64 h1 h2)
  · exact .of_right (intBits_le_64 h1 h2)
theorem op_add : OpR X (binaryOp .Add) (rI0 fun i j => .int (i + j)) := opI0 fun _ _ _ _ _ _ _ q => add_int q
theorem op_sub : OpR X (binaryOp .Sub) (rI0 fun i j => .int (i - j)) := opI0 fun _ _ _ _ _ _ _ q => sub_int q
theorem op_mul : OpR X (binaryOp .Mult) (rI CMul fun i j => .int (i * j)) := opI fun _ _ _ _ _ _ _ hc q => mul_int q hc.ok
theorem op_mod : OpR X (binaryOp .Mod) (rI (fun _ j => 0 < j) fun i j => .int (i % j)) := opI fun i j _ _ _ _ _ hc q => by
  have h1 : (0 : Int) < j := hc
  exact mod_int' (by omega) (by rw [Int.fmod_eq_emod_of_nonneg i (by omega)]; exact q)
theorem op_pow : OpR X (binaryOp .Pow) (rI CPow fun i j => .int (i ^ j.toNat)) := opI fun _ _ _ _ _ _ _ hc q => pow_int_small hc.1 hc.2.1 hc.2.2 q
theorem unI {f : Value → Sem Value} {g : Int → Int}
    (rule : ∀ (i : Int) (t : Tok) (s : Shared) (Q : Value → Shared → Prop) (E : Value → Shared → Prop), Q (.int (g i) s.toks) { s with toks := s.toks + 1 } → wpAny (model X.prog X.w) X.A (f (.int i t)) Q E s) :
    UnR X f (rU fun i => .int (g i)) := by
  intro pins s σ H x v Q I rx h
  obtain ⟨i, rfl, q⟩ := h
  obtain ⟨t, rfl⟩ := rx
  exact rule i t s _ _ ⟨.int (g i), H, I.tok _, ⟨_, rfl⟩, q⟩
theorem un_neg : UnR X (unaryOp .USub) (rU fun i => .int (-i)) := unI fun _ _ _ _ _ q => neg_int q
end

def scal : V → V → Bool
  | .non, .non => true | .non, .int _ => true | .int _, .non => true | .non, .bl _ => true | .bl _, .non => true | .non, .str _ => true | .str _, .non => true
  | .int _, .int _ => true | .bl _, .bl _ => true | .str _, .str _ => true | .byt _, .byt _ => true
  | .int _, .str _ => true | .str _, .int _ => true | .bl _, .str _ => true | .str _, .bl _ => true
  | _, _ => false
def rEq : R2 := fun x y H Q => scal x y = true ∧ Q (.bl (decide (x = y))) H
def rNe : R2 := fun x y H Q => scal x y = true ∧ Q (.bl (!decide (x = y))) H

theorem dec_int {i j : Int} : decide (V.int i = V.int j) = (i == j) := by
  rw [Bool.eq_iff_iff]
  simp
theorem dec_bl {i j : Bool} : decide (V.bl i = V.bl j) = (i == j) := by
  rw [Bool.eq_iff_iff]
  simp
theorem dec_str {i j : Str} : decide (V.str i = V.str j) = (i == j) := by
  rw [Bool.eq_iff_iff]
  simp
theorem dec_byt {i j : Array UInt8} : decide (V.byt i = V.byt j) = (i.toList == j.toList) := by
  rw [Bool.eq_iff_iff]
  cases i
  cases j
  simp

section
variable {X : Cx} {a b c : Expr} {ta tb tc : TE} {pos : Pos}
theorem fin_bl {pins : List (Addr × Obj)} {σ : St} {H : Hp} {s : Shared} {Q : VK} {k k' : Bool} (I : Inv X pins σ H s) (q : Q (.bl k) H) (e : k = k') : EP X pins σ Q (.bool k') s := by
  subst e
  exact ⟨.bl k, H, I, rfl, q⟩
theorem op_eq : OpR X (compareOp .Eq) rEq := by
  intro pins s σ H x y v u Q I rx ry h
  obtain ⟨hs, q⟩ := h
  cases x with
  | non =>
    cases rx
    cases y with
    | non => cases ry; exact PySem.EqNone.eq_none_none (fin_bl I q (by simp))
    | bl j => cases ry; exact PySem.EqNone.eq_none_bool (fin_bl I q (by simp))
    | int j => obtain ⟨t', rfl⟩ := ry; exact PySem.EqNone.eq_none_int (fin_bl I q (by simp))
    | str j => obtain ⟨t', rfl⟩ := ry; exact PySem.EqNone.eq_none_str (fin_bl I q (by simp))
    | _ => exact absurd (show false = true from hs) Bool.false_ne_true
  | bl i =>
    cases rx
    cases y with
    | non => cases ry; exact PySem.EqNone.eq_bool_none (fin_bl I q (by simp))
    | bl j => cases ry; exact eq_bool (fin_bl I q dec_bl)
    | str j => obtain ⟨t', rfl⟩ := ry; exact PySem.EqMixed.eq_bool_str (fin_bl I q (by simp))
    | _ => exact absurd (show false = true from hs) Bool.false_ne_true
  | int i =>
    obtain ⟨t, rfl⟩ := rx
    cases y with
    | non => cases ry; exact PySem.EqNone.eq_int_none (fin_bl I q (by simp))
    | int j => obtain ⟨t', rfl⟩ := ry; exact eq_int (fin_bl I q dec_int)
    | str j => obtain ⟨t', rfl⟩ := ry; exact PySem.EqMixed.eq_int_str (fin_bl I q (by simp))
    | _ => exact absurd (show false = true from hs) Bool.false_ne_true
  | str i =>
    obtain ⟨t, rfl⟩ := rx
    cases y with
    | non => cases ry; exact PySem.EqNone.eq_str_none (fin_bl I q (by simp))
    | bl j => cases ry; exact PySem.EqMixed.eq_str_bool (fin_bl I q (by simp))
    | int j => obtain ⟨t', rfl⟩ := ry; exact PySem.EqMixed.eq_str_int (fin_bl I q (by simp))
    | str j => obtain ⟨t', rfl⟩ := ry; exact eq_str (fin_bl I q dec_str)
    | _ => exact absurd (show false = true from hs) Bool.false_ne_true
  | byt i =>
    obtain ⟨t, rfl⟩ := rx
    cases y with
    | byt j => obtain ⟨t', rfl⟩ := ry; exact PySem.W.eq_bytes (fin_bl I q dec_byt)
    | _ => exact absurd (show false = true from hs) Bool.false_ne_true
  | _ => cases y <;> exact absurd (show false = true from hs) Bool.false_ne_true
theorem op_ne : OpR X (compareOp .NotEq) rNe := by
  intro pins s σ H x y v u Q I rx ry h
  obtain ⟨hs, q⟩ := h
  cases x with
  | non =>
    cases rx
    cases y with
    | non => cases ry; exact PySem.EqNone.ne_none_none (fin_bl I q (by simp))
    | bl j => cases ry; exact PySem.EqNone.ne_none_bool (fin_bl I q (by simp))
    | int j => obtain ⟨t', rfl⟩ := ry; exact PySem.EqNone.ne_none_int (fin_bl I q (by simp))
    | str j => obtain ⟨t', rfl⟩ := ry; exact PySem.EqNone.ne_none_str (fin_bl I q (by simp))
    | _ => exact absurd (show false = true from hs) Bool.false_ne_true
  | bl i =>
    cases rx
    cases y with
    | non => cases ry; exact PySem.EqNone.ne_bool_none (fin_bl I q (by simp))
    | bl j => cases ry; exact ne_bool (fin_bl I q (congrArg not dec_bl))
    | str j => obtain ⟨t', rfl⟩ := ry; exact PySem.EqMixed.ne_bool_str (fin_bl I q (by simp))
    | _ => exact absurd (show false = true from hs) Bool.false_ne_true
  | int i =>
    obtain ⟨t, rfl⟩ := rx
    cases y with
    | non => cases ry; exact PySem.EqNone.ne_int_none (fin_bl I q (by simp))
    | int j => obtain ⟨t', rfl⟩ := ry; exact ne_int (fin_bl I q (congrArg not dec_int))
    | str j => obtain ⟨t', rfl⟩ := ry; exact PySem.EqMixed.ne_int_str (fin_bl I q (by simp))
    | _ => exact absurd (show false = true from hs) Bool.false_ne_true
  | str i =>
    obtain ⟨t, rfl⟩ := rx
    cases y with
    | non => cases ry; exact PySem.EqNone.ne_str_none (fin_bl I q (by simp))
    | bl j => cases ry; exact PySem.EqMixed.ne_str_bool (fin_bl I q (by simp))
    | int j => obtain ⟨t', rfl⟩ := ry; exact PySem.EqMixed.ne_str_int (fin_bl I q (by simp))
    | str j => obtain ⟨t', rfl⟩ := ry; exact ne_str (fin_bl I q (congrArg not dec_str))
    | _ => exact absurd (show false = true from hs) Bool.false_ne_true
  | byt i =>
    obtain ⟨t, rfl⟩ := rx
    cases y with
    | byt j => obtain ⟨t', rfl⟩ := ry; exact PySem.W.ne_bytes (fin_bl I q (congrArg not dec_byt))
    | _ => exact absurd (show false = true from hs) Bool.false_ne_true
  | _ => cases y <;> exact absurd (show false = true from hs) Bool.false_ne_true

theorem op_lt : OpR X (compareOp .Lt) (rI0 fun i j => .bl (decide (i < j))) := opB0 fun _ _ _ _ _ _ _ q => lt_int q
theorem op_le : OpR X (compareOp .LtE) (rI0 fun i j => .bl (decide (i ≤ j))) := opB0 fun _ _ _ _ _ _ _ q => le_int q
theorem op_ge : OpR X (compareOp .GtE) (rI0 fun i j => .bl (decide (j ≤ i))) := opB0 fun _ _ _ _ _ _ _ q => ge_int q
def isObj : HO → Bool
  | .lst _ => true
  | .ins _ _ _ => true
  | _ => false
theorem nomark (b : Expr) {op : CmpOp} (h : op ≠ .In := by decide) (h2 : op ≠ .NotIn := by decide) : behindInMarks op b = false := by
  have e1 : (op == CmpOp.In) = false := by cases op <;> first | rfl | exact absurd rfl h
  have e2 : (op == CmpOp.NotIn) = false := by cases op <;> first | rfl | exact absurd rfl h2
  cases b <;> simp [behindInMarks, e1, e2]
theorem pe_cmpR {op : CmpOp} {r : R2} (ho : OpR X (compareOp op) r) (ha : PE X a ta) (hb : PE X b tb) (hm : behindInMarks op b = false) : PE X (.Compare a [op] [b] pos) (tOp r ta tb) := by
  intro pins s σ H Q I h
  exact wpAny_Compare1 (binT ha hb I h fun v u s2 x y H2 I2 rx ry q => ho pins s2 σ H2 x y v u Q I2 rx ry q) hm
def tTest (t : TE) : TT := fun σ H Q => t σ H fun x H' => ∃ k, x = .bl k ∧ Q k H'
theorem pt_cmpR {op : CmpOp} {r : R2} (ho : OpR X (compareOp op) r) (ha : PE X a ta) (hb : PE X b tb) (hm : behindInMarks op b = false) : PT X (.Compare a [op] [b] pos) (tTest (tOp r ta tb)) := by
  intro pins s σ H Q I h
  refine wpAny_isTrue_Compare1 (thn (ha pins s σ H _ I h) fun v s1 ⟨x, H1, I1, r1, q1⟩ => thn (hb pins s1 σ H1 _ I1 q1) fun u s2 ⟨y, H2, I2, r2, q2⟩ =>
    thn (ho pins s2 σ H2 x y v u _ I2 r1 r2 q2) fun c s3 ⟨z, H3, I3, r3, k, e, q3⟩ => ?_) hm
  subst e
  cases r3
  exact wpAny_truthy_bool ⟨H3, I3, q3⟩
def tChain (r r' : R2) (ta tb tc : TE) : TE := fun σ H Q => ta σ H fun x H1 => tb σ H1 fun y H2 => r x y H2 fun z H3 => ∃ k, z = .bl k ∧
  (if k = true then tc σ H3 fun w' H4 => r' y w' H4 Q else Q (.bl false) H3)
theorem pe_chain {op op' : CmpOp} {r r' : R2} (ho : OpR X (compareOp op) r) (ho' : OpR X (compareOp op') r') (ha : PE X a ta) (hb : PE X b tb) (hc : PE X c tc)
    (hm : lastMarks [op, op'] [b, c] = false := by with_unfolding_all rfl) : PE X (.Compare a [op, op'] [b, c] pos) (tChain r r' ta tb tc) := by
  intro pins s σ H Q I h
  refine Compare_chain (thn (ha pins s σ H _ I h) fun v s1 ⟨x, H1, I1, r1, q1⟩ => chain_link (thn (hb pins s1 σ H1 _ I1 q1) fun u s2 ⟨y, H2, I2, r2, q2⟩ =>
    thn (ho pins s2 σ H2 x y v u _ I2 r1 r2 q2) fun d s3 ⟨z, H3, I3, r3, k, e, q3⟩ => ?_)) hm
  subst e
  cases r3
  refine wpAny_truthy_bool ?_
  cases k with
  | false => exact ite_ff ⟨.bl false, H3, I3, rfl, q3⟩
  | true => exact ite_tt (chain_last (thn (hc pins s3 σ H3 _ I3 q3) fun w' s4 ⟨z', H4, I4, r4, q4⟩ => ho' pins s4 σ H4 y z' u w' Q I4 r2 r4 q4))
theorem pt_chain {op op' : CmpOp} {r r' : R2} (ho : OpR X (compareOp op) r) (ho' : OpR X (compareOp op') r') (ha : PE X a ta) (hb : PE X b tb) (hc : PE X c tc)
    (hm : lastMarks [op, op'] [b, c] = false := by with_unfolding_all rfl) : PT X (.Compare a [op, op'] [b, c] pos) (tTest (tChain r r' ta tb tc)) := by
  intro pins s σ H Q I h
  refine isTrue_chain (thn (ha pins s σ H _ I h) fun v s1 ⟨x, H1, I1, r1, q1⟩ => test_link (thn (hb pins s1 σ H1 _ I1 q1) fun u s2 ⟨y, H2, I2, r2, q2⟩ =>
    thn (ho pins s2 σ H2 x y v u _ I2 r1 r2 q2) fun d s3 ⟨z, H3, I3, r3, k, e, q3⟩ => ?_)) hm
  subst e
  cases r3
  refine wpAny_truthy_bool ?_
  cases k with
  | false =>
    obtain ⟨k', e', q'⟩ := q3
    cases e'
    exact ite_ff ⟨H3, I3, q'⟩
  | true =>
    refine ite_tt (test_last (thn (hc pins s3 σ H3 _ I3 q3) fun w' s4 ⟨z', H4, I4, r4, q4⟩ => thn (ho' pins s4 σ H4 y z' u w' _ I4 r2 r4 q4) fun d' s5 ⟨z2, H5, I5, r5, k2, e2, q5⟩ => ?_))
    subst e2
    cases r5
    exact wpAny_truthy_bool ⟨H5, I5, q5⟩

def TruV (K : PySem.W.Frag) (x : V) (H : Hp) (k : Bool) : Prop :=
  match x with
  | .non => k = false
  | .bl b => k = b
  | .int i => k = (i != 0)
  | .str y => y.length ≤ sizeLine ∧ k = ((y.length : Int) != 0)
  | .byt y => y.size ≤ sizeLine ∧ k = ((y.size : Int) != 0)
  | .ref p => (∃ xs, SqL K H p xs ∧ k = !xs.isEmpty) ∨ (∃ xs, SqT K H p xs ∧ k = !xs.isEmpty) ∨ ∃ kvs, H p = some (.dK kvs) ∧ k = !kvs.isEmpty
  | _ => False
theorem line63 : (sizeLine : Nat) < 2 ^ 63 := by rw [sizeLine_eq]; decide
theorem op_add_str : OpR X (binaryOp .Add) (fun x y H Q => ∃ i j, x = .str i ∧ y = .str j ∧ i.length + j.length ≤ sizeLine ∧ Q (.str (i ++ j)) H) := by
  intro pins s σ H x y v u Q I rx ry h
  obtain ⟨i, j, rfl, rfl, hz, q⟩ := h
  obtain ⟨t, rfl⟩ := rx
  obtain ⟨t', rfl⟩ := ry
  exact add_str (fun t' tk => ⟨.str (i ++ j), H, I.tok _, ⟨_, rfl⟩, q⟩) hz
def PlainIxT (b : Expr) : Prop := ∀ o i, subscripted b false o i = operate [o, i] (getItem o i)
theorem vals1 {x : V} {us : List Value} (r : Vals [x] us) : ∃ u, us = [u] ∧ RelV x u := by
  cases r with
  | cons r1 r2 => cases r2; exact ⟨_, rfl, r1⟩
theorem vals2 {x y : V} {us : List Value} (r : Vals [x, y] us) : ∃ u w', us = [u, w'] ∧ RelV x u ∧ RelV y w' := by
  cases r with
  | cons r1 r2 =>
    cases r2 with
    | cons r3 r4 => cases r4; exact ⟨_, _, rfl, r1, r3⟩
def LenV (K : PySem.W.Frag) (x : V) (H : Hp) (n : Nat) : Prop :=
  match x with
  | .str y => y.length ≤ sizeLine ∧ n = y.length
  | .byt y => y.size ≤ sizeLine ∧ n = y.size
  | .ref p => (∃ xs, SqL K H p xs ∧ n = xs.length) ∨ ∃ xs, SqT K H p xs ∧ n = xs.length
  | _ => False
end
end L2

namespace L2
open PySem PySem.Spec PyProof.Rows

structure ObjM (h : Heap) (x dx C : Addr) (mA : Str → Option Value) : Prop where
  obj : h.get? x = some (PySem.W.instObj C dx)
  ns : h.Ns1 dx mA
  ne : dx ≠ x

theorem lookIn_ns {h : Heap} {dx : Addr} {mA : Str → Option Value} (n : h.Ns1 dx mA) : ∃ od, h.get? dx = some od ∧ ∀ name, PySem.W.lookIn name od = some (mA name) := by
  obtain ⟨o, es, ep, ho, hd, hk, _, hm⟩ := n
  refine ⟨o, ho, fun name => ?_⟩
  have e := hm name
  unfold nsFind findBy at e
  rw [← Array.find?_toList] at e
  unfold PySem.W.lookIn
  rw [hd]
  dsimp only
  split
  · rename_i y q
    rw [q] at e
    exact congrArg some e
  · rename_i q
    rw [q] at e
    have a : es.toList.any (·.refKey) = false := by
      rw [List.any_eq_false]
      intro y hy
      obtain ⟨z, t, hkey⟩ := hk y (Array.mem_toList_iff.mp hy)
      simp [DictEntry.refKey, hkey]
    have a' : ¬ es.toList.any (·.refKey) = true := by rw [a]; exact Bool.false_ne_true
    rw [if_neg a']
    exact congrArg some e

theorem ObjM.look {h : Heap} {x dx C : Addr} {mA : Str → Option Value} (I : ObjM h x dx C mA) : ∃ od, PySem.W.InstAt h x (PySem.W.instObj C dx) C (some od) ∧ ∀ name, PySem.W.lookIn name od = some (mA name) :=
  let ⟨od, ho, hl⟩ := lookIn_ns I.ns
  ⟨od, ⟨I.obj, rfl, rfl, ho⟩, hl⟩

section
variable {prog : Program} {w : World} {A : Around} {E : Value → Shared → Prop} {s : Shared} {K : PySem.W.Frag} {x dx C f : Addr} {mA : Str → Option Value} {name : Str} {v : Value}

end

def putF (f : Str) (v : V) : List (Str × V) → List (Str × V)
  | [] => [(f, v)]
  | (g, x) :: r => if g = f then (g, v) :: r else (g, x) :: putF f v r
section
variable {P : Program} {w : World} {H H' : Hp} {h h' : Heap} {a C dx : Addr} {fs fs' : List (Str × V)}
end

structure Cls (K : PySem.W.Frag) (C : Addr) : Prop where
  pg : PySem.W.plainGet K C Str.empty = true
  hd : PySem.W.hasDictIn K C = true
  po : PySem.W.plainOver K C = true
  sa : PySem.W.findIn K (.ref C) "__setattr__" = some (some (.builtin "object.__setattr__"))
theorem Cls.get {K : PySem.W.Frag} {C : Addr} (c : Cls K C) (f : Str) : PySem.W.plainGet K C f = true := c.pg
def NoAttr (K : PySem.W.Frag) (C : Addr) (f : Str) : Prop := PySem.W.findIn K (.ref C) f = some none
structure Con (K : PySem.W.Frag) (C : Addr) (f : Str) (v : V) (u : Value) : Prop where
  at_ : PySem.W.findIn K (.ref C) f = some (some u)
  rel : RelV v u
  get : PySem.W.specialIn K u "__get__" = some none
  cp : PySem.W.copiedNames.contains f = false
structure Meth (K : PySem.W.Frag) (C : Addr) (m : Str) (f : Addr) : Prop where
  at_ : PySem.W.findIn K (.ref C) m = some (some (.ref f))
  fn : PySem.W.isFn K (.ref f) = true
  kp : PySem.W.keepIn K (.ref f) = true

section
variable {X : Cx} {pins : List (Addr × Obj)} {σ : St} {H : Hp} {s : Shared} {a C dx : Addr} {fs : List (Str × V)} {f : Str} {v : V} {A : Around} {E : Value → Shared → Prop}

end

def tFld (K : PySem.W.Frag) (ta : TE) (f : Str) : TE := fun σ H Q => ta σ H fun x H1 => ∃ a C dx fs v, x = .ref a ∧ H1 a = some (.ins C dx fs) ∧ Cls K C ∧ NoAttr K C f ∧ fs.lookup f = some v ∧ Q v H1
def tCon (K : PySem.W.Frag) (ta : TE) (f : Str) : TE := fun σ H Q => ta σ H fun x H1 => ∃ a C dx fs v u, x = .ref a ∧ H1 a = some (.ins C dx fs) ∧ Cls K C ∧ Con K C f v u ∧ fs.lookup f = none ∧ Q v H1
def sFld (K : PySem.W.Frag) (ta tv : TE) (f : Str) : TS := fun D σ H => tv σ H fun y H1 => ta σ H1 fun x H2 => ∃ a C dx fs, x = .ref a ∧ H2 a = some (.ins C dx fs) ∧ Cls K C ∧ NoAttr K C f ∧ fs.length < 1000 ∧
  D.nx σ (upd H2 a (.ins C dx (putF f y fs)))
def InOp (X : Cx) (op : Operator) (rd : V → V → Hp → VK → Prop) : Prop :=
  ∀ (pins : List (Addr × Obj)) (s : Shared) (σ : St) (H : Hp) (x y : V) (u v : Value) (Q : VK), Inv X pins σ H s → RelV x u → RelV y v → rd x y H Q → wpAny (model X.prog X.w) X.A (inplaceOp op u v) (EP X pins σ Q) X.xe s
def sFldAug (K : PySem.W.Frag) (ta tv : TE) (rd : V → V → Hp → VK → Prop) (f : Str) : TS := fun D σ H => ta σ H fun x H1 => ∃ a C dx fs v, x = .ref a ∧ H1 a = some (.ins C dx fs) ∧ Cls K C ∧ NoAttr K C f ∧ fs.lookup f = some v ∧
  tv σ H1 fun y H2 => rd v y H2 fun z H3 => ∃ dx' fs', H3 a = some (.ins C dx' fs') ∧ fs'.length < 1000 ∧ D.nx σ (upd H3 a (.ins C dx' (putF f z fs')))

section
variable {X : Cx} {o e value : Expr} {f : Str} {pos pos' tpos : Pos} {ta tv : TE}
def rAdd : V → V → Hp → VK → Prop := fun x y H Q => ∃ i j, x = .int i ∧ y = .int j ∧ Q (.int (i + j)) H
def rSub : V → V → Hp → VK → Prop := fun x y H Q => ∃ i j, x = .int i ∧ y = .int j ∧ Q (.int (i - j)) H
end

section
variable {X : Cx} {pins : List (Addr × Obj)} {σ : St} {H : Hp} {s : Shared} {A : Around} {E : Value → Shared → Prop} {Q : Value → Shared → Prop} {c : Value} {b : Bool}
inductive TyOf (K : PySem.W.Frag) (H : Hp) : V → Value → Prop where
  | non : TyOf K H .non (.type "NoneType")
  | bl (x : Bool) : TyOf K H (.bl x) (.type "bool")
  | int (i : Int) : TyOf K H (.int i) (.type "int")
  | str (x : Str) : TyOf K H (.str x) (.type "str")
  | flt (x : UInt64) : TyOf K H (.flt x) (.type "float")
  | lst {a : Addr} {xs : List V} (e : H a = some (.lst xs)) : TyOf K H (.ref a) (.type "list")
  | frz {a : Addr} {o : Obj} {xs : List V} (e : H a = some (.frz o (.lst xs))) : TyOf K H (.ref a) (.type "list")
  | tup {a : Addr} {xs : List V} (e : H a = some (.tup xs)) : TyOf K H (.ref a) (.type "tuple")
  | dK {a : Addr} {kvs : List (Key × V)} (e : H a = some (.dK kvs)) : TyOf K H (.ref a) (.type "dict")
  | dT {a : Addr} {kvs : List (List Key × V)} (e : H a = some (.dT kvs)) : TyOf K H (.ref a) (.type "dict")
  | ins {a C dx : Addr} {fs : List (Str × V)} (e : H a = some (.ins C dx fs)) (cl : Cls K C) (ha : PySem.W.findIn K (.ref C) "__class__" = some (some (.builtin "object.__class__")))
      (hn : PySem.W.specialIn K (.builtin "object.__class__") "__get__" = some (some (.builtin "getset_descriptor.__get__"))) (htk : PySem.W.takesIn K (.builtin "object.__class__") = some true)
      (hm : PySem.W.mroIn K C (.type "object") = some true) : TyOf K H (.ref a) (.ref C)
end
end L2

namespace L2
open PySem PySem.Spec PyProof.Rows

structure Room (k : Nat) (A : Around) : Prop where
  hd : A.handled = none
  dp : A.depth + 3 * k + 5 < recursionLimit
  un : A.units + 16 * k + 200 < cLine
theorem Room.mono {j k : Nat} {A : Around} (r : Room k A) (h : j ≤ k) : Room j A := ⟨r.hd, by have := r.dp; omega, by have := r.un; omega⟩
theorem Room.deeper {k : Nat} {A : Around} (r : Room (k + 1) A) (env : Env) : Room k (A.deeper env) :=
  ⟨r.hd, by have := r.dp; show A.depth + 1 + 3 * k + 5 < _; omega, by have := r.un; show A.units + 3 + 16 * k + 200 < _; omega⟩
theorem Room.in1 {k : Nat} {A : Around} (r : Room (k + 1) A) : Room k A.in1 :=
  ⟨r.hd, by have := r.dp; show A.depth + 3 * k + 5 < _; omega, by have := r.un; show A.units + 1 + 16 * k + 200 < _; omega⟩
theorem make_depth {A : Around} {C : Addr} {us : List Value} {kw : List (Str × Value)} : (A.under (.builtin "type.__call__" ⟨.ref C :: us, kw⟩)).depth = A.depth + 1 := by
  first | rfl | simp [Around.under, Code.weight, Code.isCreation, Code.isGuard, Code.isCaller, Code.frames, Code.isFrame, guardIds]
theorem make_units {A : Around} {C : Addr} {us : List Value} {kw : List (Str × Value)} : (A.under (.builtin "type.__call__" ⟨.ref C :: us, kw⟩)).units = A.units + 1 := by
  first | rfl | simp [Around.under, Code.cUnits, Code.frames, Code.isFrame]
theorem Room.make {k : Nat} {A : Around} (r : Room (k + 1) A) (C : Addr) (us : List Value) (kw : List (Str × Value)) : Room k (A.under (.builtin "type.__call__" ⟨.ref C :: us, kw⟩)) :=
  ⟨r.hd, by have := r.dp; rw [make_depth]; omega, by have := r.un; rw [make_units]; omega⟩
theorem Room.depth {k : Nat} {A : Around} (r : Room k A) : A.depth < recursionLimit := by have := r.dp; omega
theorem Room.units {k : Nat} {A : Around} (r : Room k A) : A.units + 64 < cLine := by have := r.un; omega
def tNil : TA := fun _ H Q => Q [] H
def tCons (ta : TE) (tr : TA) : TA := fun σ H Q => ta σ H fun x H1 => tr σ H1 fun xs H2 => Q (x :: xs) H2
section
variable {X : Cx} {e : Expr} {es : List Expr} {te : TE} {t : TA} {pos : Pos}
theorem pa_nil : PA X [] tNil := fun _ _ _ _ H Q I h => Calls.spliced_nil ⟨[], H, I, .nil, h⟩
theorem pa_cons (ha : PE X e te) (hr : PA X es t) (hs : starEach (e :: es) X.env = (false, eval e X.env) :: starEach es X.env := by rfl) : PA X (e :: es) (tCons te t) := by
  intro pos pins s σ H Q I h
  rw [hs]
  show wpAny _ _ (spliced ((false, eval e X.env) :: backTo pos (starEach es X.env))) _ _ s
  refine Calls.spliced_cons (thn (ha pins s σ H _ I h) fun u s1 ⟨x, H1, I1, r1, q1⟩ => ?_)
  exact thn (hr pos pins s1 σ H1 _ I1 q1) fun us s2 ⟨xs, H2, I2, r2, q2⟩ => ⟨x :: xs, H2, I2, .cons r1 r2, q2⟩

def tTup (t : TA) : TE := fun σ H Q => t σ H fun xs H1 => xs.length ≤ sizeLine ∧ ∀ p, H1 p = none → Q (.ref p) (upd H1 p (.tup xs))
def tLst (t : TA) : TE := fun σ H Q => t σ H fun xs H1 => xs.length ≤ sizeLine ∧ ∀ p, H1 p = none → Q (.ref p) (upd H1 p (.lst xs))
theorem pe_tup {x1} (h : PA X es t) : PE X (.Tuple es x1 pos) (tTup t) := by
  intro pins s σ H Q I hq
  refine wpAny_Tuple_spliced (thn (h pos pins s σ H _ I hq) fun us s1 ⟨xs, H1, I1, r, z, q⟩ => ⟨by rw [← r.length]; exact z, ?_⟩)
  have hf : H1 s1.heap.objs.size = none := I1.hok.fresh (Nat.le_refl _)
  refine ⟨.ref s1.heap.objs.size, upd H1 s1.heap.objs.size (.tup xs), I1.laid (t' := s1.toks) (fun b u e => Heap.get?_push_of_some _ e) (Nat.le_refl _) ?_, rfl, q _ hf⟩
  exact ⟨z, us, r, ⟨_, Heap.get?_push_size _ rfl, rfl, _, rfl⟩, _, Heap.get?_push_size _ rfl, rfl⟩
theorem pe_lst (h : PA X es t) : PE X (.List es pos) (tLst t) := by
  intro pins s σ H Q I hq
  refine wpAny_List_spliced (thn (h pos pins s σ H _ I hq) fun us s1 ⟨xs, H1, I1, r, z, q⟩ => ⟨by rw [← r.length]; exact z, ?_⟩)
  have hf : H1 s1.heap.objs.size = none := I1.hok.fresh (Nat.le_refl _)
  refine ⟨.ref s1.heap.objs.size, upd H1 s1.heap.objs.size (.lst xs), I1.laid (t' := s1.toks) (fun b u e => Heap.get?_push_of_some _ e) (Nat.le_refl _) ?_, rfl, q _ hf⟩
  exact ⟨z, us, 0, r, Heap.get?_push_size _ rfl⟩
end

abbrev Sp := List V → Hp → VK → XK → Prop
abbrev CXT := List Env → Hp → Shared → XK → Value → Shared → Prop

structure Env0 (P : Program) (w : World) (K : PySem.W.Frag) (mg : Str → Option Value) (base : Heap) (A : Around) (outer : List Env) (s : Shared) (H : Hp) : Prop where
  frames : A.frames = some outer
  mod : Mod K mg base
  bs : ∀ b o, base.get? b = some o → s.heap.get? b = some o ∧ H b = none
  bsz : base.objs.size ≤ s.heap.objs.size
  funs : s.heap.FunFrames base outer
  frf : ∀ b ∈ frs outer, H b = none
  hok : HOk P w H s.heap
  bare : AllBare s.gens
def CE (outer : List Env) (P : Program) (w : World) (H : Hp) (s : Shared) (Q : VK) (u : Value) (s' : Shared) : Prop :=
  ∃ v H', s'.os = s.os ∧ AllBare s'.gens ∧ Un (frs outer) [] H H' s.heap s'.heap ∧ HOk P w H' s'.heap ∧ RelV v u ∧ Q v H'
def CR (CX : CXT) (outer : List Env) (P : Program) (w : World) (H : Hp) (s : Shared) (Q : VK) (E : XK) (r : Result) (s' : Shared) : Prop :=
  match r with
  | .ok (.ret u) => CE outer P w H s Q u s'
  | .ok _ => False
  | .error e => CX outer H s E e s'
structure FnOk (P : Program) (w : World) (K : PySem.W.Frag) (mg : Str → Option Value) (base : Heap) (CX : CXT) (k : Nat) (f : Addr) (fd : FuncData) (ps : List Str) (sp : Sp) : Prop where
  len : ∀ vs H Q E, sp vs H Q E → vs.length = ps.length
  run : ∀ (A : Around) (outer : List Env) (s : Shared) (H : Hp) (args : Args) (us : List Value) (vs : List V) (Q : VK) (E : XK), Room k A → Env0 P w K mg base A outer s H → BindsTo s fd args (ps.zip us) → Vals vs us → sp vs H Q E →
    codeAny (model P w) A (.call (.ref f) args) (CR CX outer P w H s Q E) s
theorem FnOk.mono {P : Program} {w : World} {K : PySem.W.Frag} {mg : Str → Option Value} {base : Heap} {CX : CXT} {j k : Nat} {f : Addr} {fd : FuncData} {ps : List Str} {sp : Sp} (F : FnOk P w K mg base CX j f fd ps sp) (h : j ≤ k) :
    FnOk P w K mg base CX k f fd ps sp := ⟨F.len, fun A outer s H args us vs Q E hr => F.run A outer s H args us vs Q E (hr.mono h)⟩
theorem Env0.make {P : Program} {w : World} {K : PySem.W.Frag} {mg : Str → Option Value} {base : Heap} {A : Around} {outer : List Env} {s : Shared} {H : Hp} (e : Env0 P w K mg base A outer s H) (C : Addr) (us : List Value) (kw : List (Str × Value)) :
    Env0 P w K mg base (A.under (.builtin "type.__call__" ⟨.ref C :: us, kw⟩)) outer s H := ⟨by first | exact e.frames | (simpa [Around.under, Code.envs, Code.isFrame, pushEnvs] using e.frames), e.mod, e.bs, e.bsz, e.funs, e.frf, e.hok, e.bare⟩
theorem Env0.in1 {P : Program} {w : World} {K : PySem.W.Frag} {mg : Str → Option Value} {base : Heap} {A : Around} {outer : List Env} {s : Shared} {H : Hp} (e : Env0 P w K mg base A outer s H) :
    Env0 P w K mg base A.in1 outer s H := ⟨e.frames, e.mod, e.bs, e.bsz, e.funs, e.frf, e.hok, e.bare⟩

section
variable {X : Cx} {pins : List (Addr × Obj)} {σ : St} {H : Hp} {s s' : Shared}
theorem Inv.env0 (I : Inv X pins σ H s) : Env0 X.prog X.w X.K X.mg X.base X.A X.stack s H :=
  ⟨I.ok.frames, I.ok.mod, I.bs, Nat.le_trans I.ok.bsz I.sz, I.stack, I.stkFree, I.hok, I.bare⟩
theorem Inv.after {Q : VK} {u : Value} (I : Inv X pins σ H s) (h : CE X.stack X.prog X.w H s Q u s') : EP X pins σ Q u s' := by
  obtain ⟨v, H', os, bare, un, hok, r, q⟩ := h
  obtain ⟨hh, g, d, t, os'⟩ := s'
  obtain rfl : os' = s.os := os
  exact ⟨v, H', I.call (h' := hh) (g' := g) (d' := d) (t' := t) (ch := []) un hok bare (fun b z => absurd z (by simp)), r, q⟩
end

def tCall (sp : Sp) (dvs : List V) (E : XK) (t : TA) : TE := fun σ H Q => t σ H fun vs H1 => sp (vs ++ dvs) H1 Q E
def tMeth (C : Addr) (m : Str) (sp : Sp) (dvs : List V) (E : XK) (ta : TE) (t : TA) : TE := fun σ H Q => ta σ H fun x H1 => ∃ a dx fs, x = .ref a ∧ H1 a = some (.ins C dx fs) ∧ fs.lookup m = none ∧
  t σ H1 fun vs H2 => sp (x :: (vs ++ dvs)) H2 Q E
def tMake (C : Addr) (sp : Sp) (dvs : List V) (E : XK) (t : TA) : TE := fun σ H Q => t σ H fun vs H1 => ∀ x dx, H1 x = none → H1 dx = none → dx ≠ x →
  sp (.ref x :: (vs ++ dvs)) (upd (upd H1 dx (.own x)) x (.ins C dx [])) (fun v H2 => v = .non ∧ Q (.ref x) H2) E

def Binds (K : PySem.W.Frag) (fd : FuncData) (ps : List Str) (ds : List Value) : Prop :=
  ∀ (s : Shared) (us : List Value), K.In s.heap → (us ++ ds).length = ps.length → BindsTo s fd ⟨us, []⟩ (ps.zip (us ++ ds))
theorem Binds.all {K : PySem.W.Frag} {fd : FuncData} {ps : List Str} (h : ∀ us : List Value, us.length = ps.length → bindArgs fd ⟨us, []⟩ = pure (ps.zip us)) : Binds K fd ps [] := fun s us _ hl => by
  rw [List.append_nil] at hl ⊢
  exact .of_eq (h us hl)

def Passes (CX : CXT) (X : Cx) (E : XK) : Prop := ∀ (pins : List (Addr × Obj)) (σ : St) (H : Hp) (s : Shared) (e : Value) (s' : Shared), Inv X pins σ H s → CX X.stack H s E e s' → X.xe e s'

section
variable {X : Cx} {CX : CXT} {k : Nat} {f C : Addr} {fd : FuncData} {ps : List Str} {sp : Sp} {dvs : List V} {ds : List Value} {E : XK} {x m : Str} {p pos apos : Pos} {e o : Expr} {es : List Expr} {ta : TE} {t : TA}

theorem run_fn {pins : List (Addr × Obj)} {σ : St} {H : Hp} {s : Shared} {Q : VK} {us : List Value} {vs : List V} (F : FnOk X.prog X.w X.K X.mg X.base CX k f fd ps sp) (hr : Room k X.A) (hb : Binds X.K fd ps ds) (hd : Vals dvs ds) (hx : Passes CX X E)
    (I : Inv X pins σ H s) (r : Vals vs us) (h : sp (vs ++ dvs) H Q E) : wpAny (model X.prog X.w) X.A (call (.ref f) us) (EP X pins σ Q) X.xe s := by
  have r2 : Vals (vs ++ dvs) (us ++ ds) := r.append hd
  have hl : (us ++ ds).length = ps.length := by rw [← r2.length]; exact F.len _ _ _ _ h
  refine wpAny_call (codeAny_mono (F.run X.A X.stack s H ⟨us, []⟩ (us ++ ds) (vs ++ dvs) Q E hr I.env0 (hb s us I.kIn hl) r2 h) fun r s' hq => ?_)
  cases r with
  | error e => exact hx pins σ H s e s' I hq
  | ok fl =>
    cases fl with
    | ret u => exact I.after hq
    | next => exact False.elim hq
    | brk => exact False.elim hq
    | cont => exact False.elim hq

theorem pe_call (F : FnOk X.prog X.w X.K X.mg X.base CX k f fd ps sp) (hr : Room k X.A) (hg : Gl X x) (hm : X.mg x = some (.ref f)) (hk : PySem.W.keepIn X.K (.ref f) = true) (hb : Binds X.K fd ps ds) (hd : Vals dvs ds) (hx : Passes CX X E)
    (ha : PA X (e :: es) t) (hdb : (x == ("__debug__" : Str)) = false := by decide) (he : starEach (e :: es) X.env = (false, eval e X.env) :: starEach es X.env := by rfl) (hpl : (backTo pos (starEach es X.env)).any (·.1) = false := by rfl) :
    PE X (.Call (.Name x p) (e :: es) [] pos) (tCall sp dvs E t) := by
  intro pins s σ H Q I h
  refine wpAny_Call_Name_kw (ld_glob I hg hm ?_ hdb)
  refine PySem.W.callWith_K (h₀ := X.base) I.ok.mod.kin hk (thn (ha pos pins s σ H _ I h) fun us s1 ⟨vs, H1, I1, r, q⟩ => ⟨I1.kIn, ?_⟩) he hpl
  exact run_fn F hr hb hd hx I1 r q
structure Mk (K : PySem.W.Frag) (C f : Addr) : Prop where
  makes : PySem.W.makesIn K C = true
  init : PySem.W.findIn K (.ref C) "__init__" = some (some (.ref f))
  fn : PySem.W.isFn K (.ref f) = true
  kp : PySem.W.keepIn K (.ref C) = true

end

def PK (X : Cx) (kws : List Keyword) (t : TA) : Prop :=
  ∀ (pos : Pos) (pins : List (Addr × Obj)) (s : Shared) (σ : St) (H : Hp) (Q : List V → Hp → Prop), Inv X pins σ H s → t σ H Q → wpAny (model X.prog X.w) X.A (evalAll ((backToKw pos (keywordEach kws X.env)).map (·.2))) (AP X pins σ Q) X.xe s
section
variable {X : Cx} {CX : CXT} {k : Nat} {f C : Addr} {fd : FuncData} {ps ks : List Str} {sp : Sp} {E : XK} {x m : Str} {p pos apos kpos : Pos} {e o : Expr} {es : List Expr} {kws : List Keyword} {te ta : TE} {t tk : TA} {nm : Option Str}
structure KBinds (K : PySem.W.Frag) (fd : FuncData) (ps ks : List Str) (g : List Value → List Value → List Value) (gV : List V → List V → List V) : Prop where
  to : ∀ (s : Shared) (us ws : List Value), K.In s.heap → (g us ws).length = ps.length → BindsTo s fd ⟨us, ks.zip ws⟩ (ps.zip (g us ws))
  rel : ∀ {vs : List V} {us : List Value} {zs : List V} {ws : List Value}, Vals vs us → Vals zs ws → Vals (gV vs zs) (g us ws)
def tCallK (sp : Sp) (gV : List V → List V → List V) (E : XK) (t tk : TA) : TE := fun σ H Q => t σ H fun vs H1 => tk σ H1 fun zs H2 => sp (gV vs zs) H2 Q E
variable {g : List Value → List Value → List Value} {gV : List V → List V → List V}
end

structure FnScope (N P : List Str) (sc : Scope) : Prop where
  kind : sc.kind = .function
  co : sc.isCoroutine = false
  gen : sc.isGenerator = false
  nd : N.Nodup
  pre : N.take P.length = P
  par : ∀ x ∈ P, sc.names.lookup x = some .local ∨ sc.names.lookup x = some .cell
  nofree : ∀ y ∈ sc.names, y.2 ≠ .free

theorem bindL_out {kindOf : Str → Option NameKind} {x : Str} : ∀ {binds : List (Str × Value)} {m : Str → Option Value}, (∀ v, (x, v) ∉ binds) → bindL kindOf binds m x = m x
  | [], _, _ => rfl
  | (n, v) :: r, m, h => by
    unfold bindL
    rw [bindL_out fun w hw => h w (List.mem_cons_of_mem _ hw)]
    split
    · have : x ≠ n := by rintro rfl; exact h v List.mem_cons_self
      simp [this]
    · rfl
theorem bindC_out {kindOf : Str → Option NameKind} {x : Str} : ∀ {binds : List (Str × Value)} {m : Str → Option Value}, (∀ v, (x, v) ∉ binds) → bindC kindOf binds m x = m x
  | [], _, _ => rfl
  | (n, v) :: r, m, h => by
    unfold bindC
    rw [bindC_out fun w hw => h w (List.mem_cons_of_mem _ hw)]
    split
    · rfl
    · have : x ≠ n := by rintro rfl; exact h v List.mem_cons_self
      simp [this]
theorem bindL_get {kindOf : Str → Option NameKind} {x : Str} {v : Value} : ∀ {P : List Str} {vs : List Value} {i : Nat} {m : Str → Option Value}, P.Nodup → P[i]? = some x → vs[i]? = some v → kindOf x = some .local →
    bindL kindOf (P.zip vs) m x = some v
  | [], _, _, _, _, h, _, _ => by simp at h
  | _ :: _, [], _, _, _, _, h, _ => by simp at h
  | p :: P, w :: vs, 0, m, nd, h1, h2, hk => by
    simp at h1 h2; subst h1; subst h2
    show bindL kindOf ((p, w) :: P.zip vs) m p = _
    unfold bindL
    rw [bindL_out fun v hv => (List.nodup_cons.mp nd).1 (List.of_mem_zip hv).1, if_pos hk]
    simp
  | p :: P, w :: vs, i + 1, m, nd, h1, h2, hk => by
    show bindL kindOf ((p, w) :: P.zip vs) m x = _
    unfold bindL
    exact bindL_get (i := i) (List.nodup_cons.mp nd).2 (by simpa using h1) (by simpa using h2) hk
theorem bindC_get {kindOf : Str → Option NameKind} {x : Str} {v : Value} : ∀ {P : List Str} {vs : List Value} {i : Nat} {m : Str → Option Value}, P.Nodup → P[i]? = some x → vs[i]? = some v → kindOf x ≠ some .local →
    bindC kindOf (P.zip vs) m x = some v
  | [], _, _, _, _, h, _, _ => by simp at h
  | _ :: _, [], _, _, _, _, h, _ => by simp at h
  | p :: P, w :: vs, 0, m, nd, h1, h2, hk => by
    simp at h1 h2; subst h1; subst h2
    show bindC kindOf ((p, w) :: P.zip vs) m p = _
    unfold bindC
    rw [bindC_out fun v hv => (List.nodup_cons.mp nd).1 (List.of_mem_zip hv).1, if_neg hk]
    simp
  | p :: P, w :: vs, i + 1, m, nd, h1, h2, hk => by
    show bindC kindOf ((p, w) :: P.zip vs) m x = _
    unfold bindC
    exact bindC_get (i := i) (List.nodup_cons.mp nd).2 (by simpa using h1) (by simpa using h2) hk

def start (N : List Str) (vs : List V) : St := vs.map some ++ List.replicate (N.length - vs.length) none

def cxOf (CX : CXT) (P : Program) (w : World) (K : PySem.W.Frag) (mg : Str → Option Value) (base : Heap) (N : List Str) (qual : Str) (scope : Scope) (f : Addr) (cd : Value) (A : Around) (outer : List Env) (s : Shared) (H : Hp) (E : XK) : Cx where
  prog := P
  w := w
  K := K
  mg := mg
  base := base
  A := A.deeper (envOfC qual scope s.heap.objs.size f cd)
  N := N
  s₀ := s
  H₀ := H
  env := envOfC qual scope s.heap.objs.size f cd
  outer := outer
  stack := envOfC qual scope s.heap.objs.size f cd :: outer
  ex := []
  calm := true
  fn := fun _ => true
  pn := []
  xe := fun e s' => wpAny (model P w) (A.deeper (envOfC qual scope s.heap.objs.size f cd)) (leaving (envOfC qual scope s.heap.objs.size f cd) e) (fun _ s'' => CX outer H s E e s'') (fun e' s'' => CX outer H s E e' s'') s'

theorem cell_has {sc : Scope} {n : Nat} {x : Str} (h : sc.names.lookup x = some .cell) : ∃ c, (cellsFrom n sc.names []).lookup x = some c := by
  have q := PySem.W.cellsFrom_some sc.names n [] (.inl h)
  exact Option.isSome_iff_exists.mp q

theorem inv_start {CX : CXT} {P : Program} {w : World} {K : PySem.W.Frag} {mg : Str → Option Value} {base : Heap} {N ps : List Str} {qual : Str} {scope : Scope} {f : Addr} {cd : Value} {A : Around} {outer : List Env} {s s1 : Shared} {H : Hp} {E : XK} {us : List Value} {vs : List V}
    (S : FnScope N ps scope) (hd : A.handled = none) (e0 : Env0 P w K mg base A outer s H) (hl : vs.length = ps.length) (r : Vals vs us)
    (x : InCallC s s.heap.objs.size (bindL (envOfC qual scope s.heap.objs.size f cd).kindOf (ps.zip us) fun _ => none) (cellsFrom (s.heap.objs.size + 1) scope.names []) (bindC (envOfC qual scope s.heap.objs.size f cd).kindOf (ps.zip us) fun _ => none) s1) :
    Inv (cxOf CX P w K mg base N qual scope f cd A outer s H E) [] (start N vs) H s1 := by
  have hpl : ps.length ≤ N.length := by have := congrArg List.length S.pre; rw [List.length_take] at this; omega
  obtain ⟨h1, tk, rfl, hk⟩ := x.done
  have noA : ∀ b : Addr, b ∉ (cxOf CX P w K mg base N qual scope f cd A outer s H E).ex := fun b z => absurd (show b ∈ ([] : List Addr) from z) (by simp)
  refine ⟨⟨e0.mod, S.kind, rfl, rfl, Nat.le_refl _, fun y z c h1 h2 => ?_, fun y hy => ?_, fun y c _ h => ?_, fun _ => hd, Around.frames_deeper e0.frames, .inr ⟨rfl, rfl⟩, fun b z => absurd z (noA b), e0.bs, e0.bsz, fun b _ _ => noA b, fun b z => absurd z (noA b), e0.funs, e0.frf⟩,
    rfl, e0.bare, Un.kept hk, ⟨_, x.toInCall.ns, fun i y v h1 h2 h3 => ?_⟩, fun y c h => ⟨_, x.cell y c h⟩, e0.hok.fresh (Nat.le_refl _), fun y c h => ?_, fun p hp => absurd (show p ∈ ([] : List (Addr × Obj)) from hp) (by simp), e0.hok.kept hk, ?_⟩
  · exact name_of_addr x.apart (PySem.mem_of_lookup h1) (PySem.mem_of_lookup h2)
  · have hy : scope.names.lookup y = some .cell ∨ scope.names.lookup y = some .free := hy
    rcases hy with hy | hy
    · exact cell_has hy
    · exact absurd rfl (S.nofree _ (PySem.mem_of_lookup hy))
  · exact Nat.le_of_lt (x.above y c (PySem.mem_of_lookup h))
  · have hi : i < vs.length := by
      unfold start at h2
      by_cases hi : i < vs.length
      · exact hi
      · rw [List.getElem?_append_right (by simpa using hi)] at h2
        rw [List.getElem?_replicate] at h2
        split at h2 <;> cases h2
    have ha : vs[i]? = some v := by
      unfold start at h2
      rw [List.getElem?_append_left (by simpa using hi), List.getElem?_map] at h2
      cases e : vs[i]? with
      | none => rw [e] at h2; cases h2
      | some a => rw [e] at h2; cases h2; rfl
    obtain ⟨u, hu, rv⟩ := r.get ha
    have hp : ps[i]? = some y := by
      rw [← S.pre, List.getElem?_take_of_lt (by omega)]; exact h1
    have ndP : ps.Nodup := by rw [← S.pre]; exact S.nd.sublist (List.take_sublist _ _)
    refine ⟨u, rv, ?_⟩
    rcases S.par y (List.mem_of_getElem? hp) with k | k
    · exact .inl ⟨k, bindL_get ndP hp hu k⟩
    · obtain ⟨c, e⟩ := cell_has (n := s.heap.objs.size + 1) k
      refine .inr ⟨.inl k, c, e, ?_⟩
      have q := x.cell y c e
      rw [bindC_get ndP hp hu (by show scope.names.lookup y ≠ _; rw [k]; decide)] at q
      exact q
  · exact e0.hok.fresh (Nat.le_of_lt (x.above y c (PySem.mem_of_lookup h)))
  · unfold start
    show _ = N.length
    rw [List.length_append, List.length_map, List.length_replicate]
    omega

theorem fn_of {CX : CXT} {P : Program} {w : World} {K : PySem.W.Frag} {mg : Str → Option Value} {base : Heap} {k : Nat} {f : Addr} {name qual : Str} {params : Arguments} {body : List Stmt} {scope : Scope} {dV kV doc pm cdv ct oc : Value} {an od : Option Addr}
    {osl : Array (Option Value)} {N ps : List Str} {sp : Sp} (lk : K.lookup f = some ⟨oc, od, .func (PySem.W.fnOf name qual params body scope dV kV doc pm an cdv ct), osl⟩) (hcd : PySem.W.codeIn K cdv qual = true) (S : FnScope N ps scope)
    (len : ∀ vs H Q E, sp vs H Q E → vs.length = ps.length)
    (hbody : ∀ (A : Around) (outer : List Env) (s : Shared) (H : Hp) (vs : List V) (Q : VK) (E : XK), Room k (A.deeper (envOfC qual scope s.heap.objs.size f cdv)) → sp vs H Q E →
      ∃ t, PSs (cxOf CX P w K mg base N qual scope f cdv A outer s H E) body t ∧ t { nx := fun _ H' => Q .non H', rt := Q } (start N vs) H) :
    FnOk P w K mg base CX (k + 1) f (PySem.W.fnOf name qual params body scope dV kV doc pm an cdv ct) ps sp := by
  refine ⟨len, fun A outer s H args us vs Q E hr e0 hb r hsp => ?_⟩
  have hl := len _ _ _ _ hsp
  have KX : K.In s.heap := e0.mod.kin.keeps fun b o e => (e0.bs b o e).1
  have lim : s.heap.NoLimit := e0.mod.nolimit.keeps fun b o e => (e0.bs b o e).1
  have hkind : ∀ y ∈ ps.zip us, scope.names.lookup y.1 = some .local ∨ (scope.names.lookup y.1 = some .cell ∧ ((cellsFrom (s.heap.objs.size + 1) scope.names []).lookup y.1).isSome = true) := fun ⟨n, v⟩ hy => by
    rcases S.par n (List.of_mem_zip hy).1 with q | q
    · exact .inl q
    · exact .inr ⟨q, PySem.W.cellsFrom_some _ _ _ (.inl q)⟩
  refine codeAny_call_function hr.depth (KX _ _ lk) rfl S.co S.gen rfl (PySem.W.codeRec_of KX hcd) (hb _ _ _ _ ?_)
  refine wpAny_newFunctionEnv_cells S.kind hkind fun env he s1 x => ?_
  subst he
  refine ⟨lim.keeps x.toInCall.keep, codeAny_func ?_⟩
  obtain ⟨t, ht, hq⟩ := hbody A outer s H vs Q E (hr.deeper _) hsp
  have I : Inv (cxOf CX P w K mg base N qual scope f cdv A outer s H E) [] (start N vs) H s1 := inv_start S hr.hd e0 hl r x
  refine wpAny_mono (ht [] s1 (start N vs) H _ I hq) (fun fl s' hs => ?_) fun e s' hs => hs
  have fin : ∀ {σ' : St} {H' : Hp} {v : V} {u : Value}, Inv (cxOf CX P w K mg base N qual scope f cdv A outer s H E) [] σ' H' s' → RelV v u → Q v H' → CE outer P w H s Q u s' :=
    fun {σ' H' v u} J rv q => ⟨v, H', J.os, J.bare, J.base, J.hok, rv, q⟩
  cases fl with
  | ret u =>
    obtain ⟨v, σ', H', J, rv, q⟩ := hs
    exact fin J rv q
  | next =>
    obtain ⟨σ', H', J, q⟩ := hs
    exact fin (v := V.non) (u := Value.none) J rfl q
  | brk =>
    obtain ⟨_, _, _, q⟩ := hs
    exact False.elim q
  | cont =>
    obtain ⟨_, _, _, q⟩ := hs
    exact False.elim q
end L2

namespace L2
open PySem PySem.Spec PyProof.Rows
section
variable {X : Cx} {x : Str} {p pos : Pos} {e : Expr} {es : List Expr} {t : TA} {id T : String} {r : List V → Hp → VK → Prop}

def tCB (r : List V → Hp → VK → Prop) (t : TA) : TE := fun σ H Q => t σ H fun vs H1 => r vs H1 Q
theorem pe_callB (hc : CallR X (.builtin id) r) (hg : Gl X x) (hm : X.mg x = none) (hv : bootBuiltins x = some (.builtin id)) (ha : PA X (e :: es) t) (hn : x ≠ "__name__" := by decide) (hdb : (x == ("__debug__" : Str)) = false := by decide)
    (he : starEach (e :: es) X.env = (false, eval e X.env) :: starEach es X.env := by rfl) (hpl : (backTo pos (starEach es X.env)).any (·.1) = false := by rfl) : PE X (.Call (.Name x p) (e :: es) [] pos) (tCB r t) := by
  intro pins s σ H Q I h
  refine wpAny_Call_Name_kw (ld_blt I hg hm hv ?_ hn hdb)
  exact PyProof.Rows.callWith_builtin1 (thn (ha pos pins s σ H _ I h) fun us s1 ⟨vs, H1, I1, r1, q1⟩ => hc pins s1 σ H1 vs us Q I1 r1 q1) he hpl
theorem pe_callTy (hc : CallR X (.type T) r) (hg : Gl X x) (hm : X.mg x = none) (hv : bootBuiltins x = some (.type T)) (ha : PA X (e :: es) t) (hn : x ≠ "__name__" := by decide) (hdb : (x == ("__debug__" : Str)) = false := by decide)
    (he : starEach (e :: es) X.env = (false, eval e X.env) :: starEach es X.env := by rfl) (hpl : (backTo pos (starEach es X.env)).any (·.1) = false := by rfl) : PE X (.Call (.Name x p) (e :: es) [] pos) (tCB r t) := by
  intro pins s σ H Q I h
  refine wpAny_Call_Name_kw (ld_blt I hg hm hv ?_ hn hdb)
  exact PyProof.Rows.callWith_type1 (thn (ha pos pins s σ H _ I h) fun us s1 ⟨vs, H1, I1, r1, q1⟩ => hc pins s1 σ H1 vs us Q I1 r1 q1) he hpl
end
end L2

namespace HT
open PySem PyProof.Rows

def lexLt : List Int → List Int → Bool
  | [], [] => false
  | [], _ :: _ => true
  | _ :: _, [] => false
  | x :: xs, y :: ys => if x = y then lexLt xs ys else decide (x < y)
section
open PySem.SeqAt
open PySem.AutoSeq1 (wpAny_loadPart')
open PySem.MeetsSeq PySem.MeetsSeq2 PySem.MeetsSeq3

end

section
variable {prog : Program} {w : World} {A : Around} {E : Value → Shared → Prop} {s : Shared}

def sIx (n d : Nat) : Option Int → Nat
  | none => d
  | some v => if v < 0 then (v + (n : Int)).toNat else min v.toNat n
theorem sIx_none (n d : Nat) : sIx n d none = d := rfl
theorem sIx_nat (n d k : Nat) : sIx n d (some (k : Int)) = min k n := by
  show (if (k : Int) < 0 then ((k : Int) + (n : Int)).toNat else min (k : Int).toNat n) = min k n
  rw [if_neg (by omega), Int.toNat_natCast]
theorem sIx_le (n d : Nat) (hd : d ≤ n) (o : Option Int) : sIx n d o ≤ n := by
  cases o with
  | none => exact hd
  | some v =>
    show (if v < 0 then (v + (n : Int)).toNat else min v.toNat n) ≤ n
    by_cases hv : v < 0
    · rw [if_pos hv]; omega
    · rw [if_neg hv]; exact Nat.min_le_right _ _
theorem clip_eq (v : Int) (n d : Nat) : (if v < 0 then max (v + (n : Int)) 0 else min v (n : Int)) = ((sIx n d (some v) : Nat) : Int) := by
  show (if v < 0 then max (v + (n : Int)) 0 else min v (n : Int)) = (((if v < 0 then (v + (n : Int)).toNat else min v.toNat n) : Nat) : Int)
  by_cases hv : v < 0
  · simp only [if_pos hv]; omega
  · simp only [if_neg hv]; omega
theorem adjust_gen (lo hi : Option Int) (n : Nat) : Builtin.Slice.sliceAdjust lo hi 1 (n : Int) = (((sIx n 0 lo : Nat) : Int), ((sIx n n hi : Nat) : Int)) := by
  have h1 : ¬ ((1 : Int) < 0) := by omega
  unfold Builtin.Slice.sliceAdjust
  simp only [h1, if_false]
  refine Prod.ext ?_ ?_
  · cases lo with
    | none => rfl
    | some v => exact clip_eq v n 0
  · cases hi with
    | none => rfl
    | some v => exact clip_eq v n n
theorem places_gen (i j : Nat) : Builtin.Slice.slicePlaces (i : Int) (j : Int) 1 = j - i := by
  unfold Builtin.Slice.slicePlaces
  have h1 : (1 : Int) > 0 := by omega
  simp only [h1, if_true, Int.ediv_one]
  split <;> omega
theorem slicePart_ {v : Value} {o : Option Int} {Q : Option Int → Shared → Prop} (p : IsPart v o) (h : Q o s) : wpAny (model prog w) A (Builtin.Slice.slicePartIndex v) Q E s := by
  cases p with
  | none => exact slicePart_none h
  | int i t => exact slicePart_int h
theorem sliceApplied_gen {sl : Addr} {vl vu : Value} {lo hi : Option Int} {n : Nat} {Q : Int × Int × Nat → Shared → Prop} (hs : s.heap.IsSliceOf sl vl vu .none) (pl : IsPart vl lo) (pu : IsPart vu hi)
    (h : Q (((sIx n 0 lo : Nat) : Int), 1, sIx n n hi - sIx n 0 lo) s) : wpAny (model prog w) A (Builtin.Slice.sliceApplied (.ref sl) (pure (n : Int))) Q E s := by
  obtain ⟨os, hos, hcs, hds⟩ := id hs
  unfold Builtin.Slice.sliceApplied Builtin.Slice.sliceFields
  refine wpAny_bind (wpAny_bind (wpAny_field hos hds (x := vl) rfl (wpAny_bind (wpAny_field hos hds (x := vu) rfl (wpAny_bind (wpAny_field hos hds (x := .none) rfl (wpAny_pure ?_)))))))
  refine wpAny_bind (slicePart_none ?_)
  show wpAny _ _ (if ((1 : Int) == 0) = true then _ else _) _ _ s
  rw [if_neg (by decide)]
  refine wpAny_bind (slicePart_ pl (wpAny_bind (slicePart_ pu (wpAny_bind (wpAny_pure ?_)))))
  show wpAny _ _ (match Builtin.Slice.sliceAdjust lo hi 1 (n : Int) with | (lo, hi) => pure (lo, (1 : Int), Builtin.Slice.slicePlaces lo hi 1)) _ _ s
  rw [adjust_gen lo hi n]
  show wpAny _ _ (pure (((sIx n 0 lo : Nat) : Int), (1 : Int), Builtin.Slice.slicePlaces ((sIx n 0 lo : Nat) : Int) ((sIx n n hi : Nat) : Int) 1)) _ _ s
  rw [places_gen]
  exact wpAny_pure h
theorem pick_gen (xs : Array Value) (i k : Nat) : ((List.range k).filterMap fun (m : Nat) => xs[((i : Int) + (m : Int) * 1).toNat]?).toArray = ((xs.toList.drop i).take k).toArray := by
  have e : (fun (m : Nat) => xs[((i : Int) + (m : Int) * 1).toNat]?) = fun m => xs[i + m]? := by
    funext m
    have : ((i : Int) + (m : Int) * 1).toNat = i + m := by omega
    rw [this]
  rw [e]
  have := pick_run xs i k
  rw [List.filterMap_map] at this
  have e2 : ((fun x => xs[x]?) ∘ fun x => i + x) = fun m => xs[i + m]? := rfl
  rw [e2] at this
  rw [this]

theorem getItem_tuple_cut {t sl : Addr} {items : Array Value} {vl vu : Value} {lo hi : Option Int} {Q : Value → Shared → Prop} (ht : IsTup s.heap t items) (hs : s.heap.IsSliceOf sl vl vu .none) (pl : IsPart vl lo) (pu : IsPart vu hi)
    (hw : ¬ (sIx items.size 0 lo = 0 ∧ sIx items.size items.size hi = items.size))
    (h : Q (.ref s.heap.objs.size) { s with heap := s.heap.push { cls := .type "tuple", data := .seq ((items.toList.drop (sIx items.size 0 lo)).take (sIx items.size items.size hi - sIx items.size 0 lo)).toArray } })
    (hsz : items.size ≤ sizeLine) : wpAny (model prog w) A (getItem (.ref t) (.ref sl)) Q E s := by
  have htake : sizeOk (.seq ((items.toList.drop (sIx items.size 0 lo)).take (sIx items.size items.size hi - sIx items.size 0 lo)).toArray) := by
    show ((items.toList.drop (sIx items.size 0 lo)).take (sIx items.size items.size hi - sIx items.size 0 lo)).toArray.size ≤ sizeLine
    rw [List.size_toArray, List.length_take, List.length_drop, Array.length_toList]
    omega
  have hj : sIx items.size items.size hi ≤ items.size := sIx_le _ _ (Nat.le_refl _) hi
  obtain ⟨os, hos, hcs, hds⟩ := id hs
  have hTs : s.TypeIs (.ref sl) "slice" := ⟨os, hos, hcs⟩
  unfold getItem
  try with_reducible refine wpAny_holding ?_
  first | refine wpAny_bind (wpAny_pure ?_) | skip
  refine wpAny_bind (wpAny_sequenceKey ht.typeIs (by decide) ?_)
  refine wpAny_bind (wpAny_callSpecial?_slot (name := Str.ofString "__getitem__") ht.typeIs PyProof.Rows.slot_tuple_getitem
    (wpAny_call_entry PyProof.Rows.slot_tuple_getitem ht.typeIs entry_tuple_getitem ?_ (args_tuple_getitem _ _)))
  show wpAny _ _ (Builtin.Tuple.tupleItemsOf (.ref t) >>= _) _ _ s
  refine wpAny_bind (tupleItemsOf_ ht ?_)
  refine wpAny_bind (wpAny_typeOf hTs ?_)
  rw [if_pos (by decide)]
  refine wpAny_bind (sliceApplied_gen hs pl pu ?_)
  have hno : ¬ ((((sIx items.size 0 lo : Nat) : Int) == 0 && (1 : Int) == 1 && (sIx items.size items.size hi - sIx items.size 0 lo) == items.size) = true) := by
    intro q
    rw [Bool.and_eq_true, Bool.and_eq_true] at q
    have q1 : ((sIx items.size 0 lo : Nat) : Int) = 0 := eq_of_beq q.1.1
    have q2 : sIx items.size items.size hi - sIx items.size 0 lo = items.size := eq_of_beq q.2
    exact hw ⟨by omega, by omega⟩
  show wpAny _ _ (if (((sIx items.size 0 lo : Nat) : Int) == 0 && (1 : Int) == 1 && (sIx items.size items.size hi - sIx items.size 0 lo) == items.size) = true then _ else _) _ _ s
  rw [if_neg hno, pick_gen]
  first
    | exact wpAny_bind (m := Builtin.Tuple.tupleExact _) (wpAny_newObj_type (wpAny_pure ⟨_, rfl, wpAny_pure h⟩) htake)
    | exact wpAny_bind (m := Builtin.Tuple.tupleExact _) (wpAny_newObj_type (wpAny_bind (wpAny_pure (wpAny_pure ⟨_, rfl, wpAny_pure h⟩))) htake)
    | exact wpAny_bind (wpAny_bind (m := Builtin.Tuple.tupleExact _) (wpAny_newObj_type (wpAny_pure (wpAny_pure ⟨_, rfl, wpAny_pure h⟩)) htake))
    | exact wpAny_bind (wpAny_bind (m := Builtin.Tuple.tupleExact _) (wpAny_newObj_type (wpAny_pure ⟨_, rfl, wpAny_pure h⟩) htake))
end
end HT

namespace L2
open PySem PySem.Spec PyProof.Rows

abbrev TO := St → Hp → (Option Int → Hp → Prop) → Prop
def PO (X : Cx) (e : Option Expr) (t : TO) : Prop :=
  ∀ (pins : List (Addr × Obj)) (s : Shared) (σ : St) (H : Hp) (Q : Option Int → Hp → Prop), Inv X pins σ H s → t σ H Q →
    wpAny (model X.prog X.w) X.A (evalPart e X.env) (fun u s' => ∃ o H', Inv X pins σ H' s' ∧ IsPart u o ∧ Q o H') X.xe s
def tNoPart : TO := fun _ H Q => Q none H
def tPart (t : TE) : TO := fun σ H Q => t σ H fun x H1 => ∃ i, x = .int i ∧ Q (some i) H1

section
variable {X : Cx} {e : Expr} {te : TE} {lo hi : Option Expr} {tl th : TO} {pos p2 : Pos}

theorem po_none : PO X none tNoPart := by
  intro pins s σ H Q I h
  rw [evalPart_none]
  exact wpAny_pure ⟨none, H, I, .none, h⟩
theorem po_some (h : PE X e te) : PO X (some e) (tPart te) := by
  intro pins s σ H Q I hw
  rw [evalPart_some]
  refine thn (h pins s σ H _ I hw) fun u s1 ⟨x, H1, I1, r1, q1⟩ => ?_
  obtain ⟨i, rfl, q⟩ := q1
  obtain ⟨t, rfl⟩ := r1
  exact ⟨some i, H1, I1, .int i t, q⟩

def SlR (X : Cx) (r : V → Option Int → Option Int → Hp → VK → Prop) : Prop :=
  ∀ (pins : List (Addr × Obj)) (s : Shared) (σ : St) (H : Hp) (x : V) (v vl vu : Value) (lo hi : Option Int) (sl : Addr) (Q : VK), Inv X pins σ H s → RelV x v → s.heap.IsSliceOf sl vl vu .none → IsPart vl lo → IsPart vu hi → r x lo hi H Q →
    ∃ T id, typeLookup (.type T) "__getitem__" = pure (some (.builtin id)) ∧ s.TypeIs v T ∧ wpAny (model X.prog X.w) X.A (getItem v (.ref sl)) (EP X pins σ Q) X.xe s
def tSl (r : V → Option Int → Option Int → Hp → VK → Prop) (te : TE) (tl th : TO) : TE := fun σ H Q => te σ H fun x H1 => tl σ H1 fun l H2 => th σ H2 fun u H3 => r x l u H3 Q
theorem pe_slice {r : V → Option Int → Option Int → Hp → VK → Prop} (hr : SlR X r) (he : PE X e te) (hl : PO X lo tl) (hu : PO X hi th) : PE X (.Subscript e (.Slice lo hi none p2) pos) (tSl r te tl th) := by
  intro pins s σ H Q I h
  refine Subscript_ (thn (he pins s σ H _ I h) fun v s1 ⟨x, H1, I1, r1, q1⟩ => ?_)
  refine wpAny_Slice (thn (hl pins s1 σ H1 _ I1 q1) fun vl s2 ⟨l, H2, I2, pl, q2⟩ => thn (hu pins s2 σ H2 _ I2 q2) fun vu s3 ⟨u, H3, I3, pu, q3⟩ => ?_)
  rw [evalPart_none]
  refine wpAny_pure ?_
  have I4 : Inv X pins σ H3 { s3 with heap := s3.heap.push { cls := .type "slice", data := .fields #[vl, vu, .none] } } := I3.kept (t' := s3.toks) fun b ob q => Heap.get?_push_of_some _ q
  obtain ⟨T, id, hT, ht, hg⟩ := hr pins { s3 with heap := s3.heap.push { cls := .type "slice", data := .fields #[vl, vu, .none] } } σ H3 x v vl vu l u s3.heap.objs.size Q I4 r1 (Heap.IsSliceOf.new ..) pl pu q3
  show wpAny (model X.prog X.w) X.A (subscriptTail e (.Slice lo hi none p2) v (.ref s3.heap.objs.size)) (EP X pins σ Q) X.xe { s3 with heap := s3.heap.push { cls := .type "slice", data := .fields #[vl, vu, .none] } }
  exact tail_any (ops := [.ref s3.heap.objs.size, v]) ht hT hg (by with_unfolding_all rfl)

def cutV (xs : List V) (lo hi : Option Int) : List V := (xs.drop (HT.sIx xs.length 0 lo)).take (HT.sIx xs.length xs.length hi - HT.sIx xs.length 0 lo)
theorem cutV_length (xs : List V) (lo hi : Option Int) : (cutV xs lo hi).length ≤ xs.length := by
  unfold cutV
  rw [List.length_take, List.length_drop]
  omega
def rSlT (K : PySem.W.Frag) : V → Option Int → Option Int → Hp → VK → Prop := fun x lo hi H Q => ∃ a xs, x = .ref a ∧ SqT K H a xs ∧
  ¬ (HT.sIx xs.length 0 lo = 0 ∧ HT.sIx xs.length xs.length hi = xs.length) ∧ ∀ p, H p = none → Q (.ref p) (upd H p (.tup (cutV xs lo hi)))
theorem sl_tup : SlR X (rSlT X.K) := by
  intro pins s σ H x v vl vu lo hi sl Q I rx hs pl pu h
  obtain ⟨a, xs, rfl, hx, hw, q⟩ := h
  cases rx
  obtain ⟨its, r, ht, hz⟩ := I.tuple hx
  have hlen : its.toArray.size = xs.length := by rw [List.size_toArray]; exact r.length.symm
  refine ⟨"tuple", _, PyProof.Rows.slot_tuple_getitem.lookup, ht.typeIs, ?_⟩
  refine HT.getItem_tuple_cut ht hs pl pu (by rw [hlen]; exact hw) ?_ (by rw [hlen]; exact hz)
  rw [hlen]
  refine ⟨.ref s.heap.objs.size, _, I.laid (t' := s.toks) (o := .tup (cutV xs lo hi)) (fun b ob q => Heap.get?_push_of_some _ q) (Nat.le_refl _) ?_, rfl, q _ (I.hok.fresh (Nat.le_refl _))⟩
  exact ⟨Nat.le_trans (cutV_length xs lo hi) hz, _, (r.drop (HT.sIx xs.length 0 lo)).take (HT.sIx xs.length xs.length hi - HT.sIx xs.length 0 lo), IsTup.new _ _, _, Heap.get?_push_size _ rfl, rfl⟩

def rLtT (K : PySem.W.Frag) : R2 := fun x y H Q => ∃ a b ns ms, x = .ref a ∧ y = .ref b ∧ SqT K H a (ns.map V.int) ∧ SqT K H b (ms.map V.int) ∧ Q (.bl (HT.lexLt ns ms)) H
def rCatT (K : PySem.W.Frag) : R2 := fun x y H Q => ∃ a b xs ys, x = .ref a ∧ y = .ref b ∧ SqT K H a xs ∧ SqT K H b ys ∧ xs ≠ [] ∧ xs.length + ys.length ≤ sizeLine ∧
  (ys = [] → Q (.ref a) H) ∧ (ys ≠ [] → ∀ p, H p = none → Q (.ref p) (upd H p (.tup (xs ++ ys))))
end
end L2

namespace L2
open PySem PySem.Spec PyProof.Rows

def ixN (n : Nat) (i : Int) : Option Nat := if 0 ≤ i then (if i < n then some i.toNat else none) else if -(n : Int) ≤ i then some (i + n).toNat else none
def atI {α : Type} (xs : List α) (i : Int) : Option α := (ixN xs.length i).bind fun j => xs[j]?
theorem ixN_seq {n : Nat} {i : Int} {j : Nat} (h : ixN n i = some j) : seqIndex? i n = some j ∧ j < n ∧ -(n : Int) ≤ i ∧ i < n := by
  unfold ixN at h
  by_cases h0 : 0 ≤ i
  · rw [if_pos h0] at h
    by_cases h1 : i < n
    · rw [if_pos h1] at h
      have e : i.toNat = j := Option.some.inj h
      exact ⟨by rw [seqIndex_of h0 h1, e], by omega, by omega, h1⟩
    · rw [if_neg h1] at h; cases h
  · rw [if_neg h0] at h
    by_cases h1 : -(n : Int) ≤ i
    · rw [if_pos h1] at h
      have e : (i + n).toNat = j := Option.some.inj h
      exact ⟨by rw [seqIndex_neg (by omega) h1, e], by omega, h1, by omega⟩
    · rw [if_neg h1] at h; cases h
theorem atI_get {α : Type} {xs : List α} {i : Int} {v : α} (h : atI xs i = some v) : ∃ j, seqIndex? i xs.length = some j ∧ xs[j]? = some v ∧ j < xs.length ∧ -(xs.length : Int) ≤ i ∧ i < xs.length := by
  unfold atI at h
  cases e : ixN xs.length i with
  | none => rw [e] at h; cases h
  | some j =>
    rw [e] at h
    obtain ⟨h1, h2, h3, h4⟩ := ixN_seq e
    exact ⟨j, h1, h, h2, h3, h4⟩
theorem atI_nat {α : Type} {xs : List α} {j : Nat} {v : α} (h : xs[j]? = some v) : atI xs (j : Int) = some v := by
  have hj : j < xs.length := (List.getElem?_eq_some_iff.mp h).1
  have e : ixN xs.length (j : Int) = some j := by
    unfold ixN
    rw [if_pos (by omega), if_pos (by omega)]; simp
  unfold atI; rw [e]; exact h
def PlainIx (b : Expr) : Prop := ∀ o i, subscripted b false o i = operate [o, i] (getItem o i)
def IxR (X : Cx) (r : R2) : Prop :=
  ∀ (value slice : Expr) (pins : List (Addr × Obj)) (s : Shared) (σ : St) (H : Hp) (x y : V) (v u : Value) (Q : VK), Inv X pins σ H s → RelV x v → RelV y u → r x y H Q →
    subscripted slice false v u = operate [v, u] (getItem v u) → wpAny (model X.prog X.w) X.A (subscriptTail value slice v u) (EP X pins σ Q) X.xe s
def MtR (X : Cx) (id : String) (r : V → List V → Hp → VK → Prop) : Prop :=
  ∀ (pins : List (Addr × Obj)) (s : Shared) (σ : St) (H : Hp) (x : V) (xs : List V) (v : Value) (us : List Value) (Q : VK), Inv X pins σ H s → RelV x v → Vals xs us → r x xs H Q →
    wpAny (model X.prog X.w) X.A (call (.builtin id) (v :: us)) (EP X pins σ Q) X.xe s
section
variable {X : Cx} {a b : Expr} {ta tb : TE} {pos : Pos}
theorem pe_ix {r : R2} (hr : IxR X r) (ha : PE X a ta) (hb : PE X b tb) (hs : PlainIx b) : PE X (.Subscript a b pos) (tOp r ta tb) := by
  intro pins s σ H Q I h
  exact Subscript_ (binT ha hb I h fun v u s2 x y H2 I2 rx ry q => hr a b pins s2 σ H2 x y v u Q I2 rx ry q (hs _ _))

def rIxL (K : PySem.W.Frag) : R2 := fun x y H Q => ∃ p xs i v, x = .ref p ∧ y = .int i ∧ SqL K H p xs ∧ atI xs i = some v ∧ Q v H
def rIxT (K : PySem.W.Frag) : R2 := fun x y H Q => ∃ p xs i v, x = .ref p ∧ y = .int i ∧ SqT K H p xs ∧ atI xs i = some v ∧ Q v H
def rIxS : R2 := fun x y H Q => ∃ z i c, x = .str z ∧ y = .int i ∧ z.length ≤ sizeLine ∧ atI z.cps.toList i = some c ∧ Q (.str ⟨#[c]⟩) H
theorem ix_list : IxR X (rIxL X.K) := by
  intro value slice pins s σ H x y v u Q I rx ry h hs
  obtain ⟨p, xs, i, z, rfl, rfl, hq, he, q⟩ := h
  cases rx
  obtain ⟨t, rfl⟩ := ry
  obtain ⟨its, r, pl, hz⟩ := I.list hq
  obtain ⟨j, h1, h2, h3, h4, h5⟩ := atI_get he
  obtain ⟨w, ew, rw'⟩ := r.get h2
  have hl := r.length
  have hn := line63
  have fin : EP X pins σ Q w s := ⟨z, H, I, rw', q⟩
  by_cases h0 : 0 ≤ i
  · have hj : i.toNat = j := by
      rw [seqIndex_of h0 h5] at h1
      exact Option.some.inj h1
    exact item_listR pl.isList h0 (by omega) (by rw [hj]; simpa using ew) fin hs
  · have hj : (i + (its.toArray.size : Int)).toNat = j := by
      rw [seqIndex_neg (by omega) h4] at h1
      rw [List.size_toArray, ← hl]
      exact Option.some.inj h1
    exact subscriptTail_builtinR (x := w) pl.isList.typeIs slot_list_getitem.lookup
      (wpAny_getItem_list_neg (Q := fun r s' => r = w ∧ EP X pins σ Q r s') pl.isList (by omega) (by rw [List.size_toArray] <;> omega) (by omega) (by rw [hj]; simpa using ew) ⟨rfl, fin⟩) hs
theorem ix_tup : IxR X (rIxT X.K) := by
  intro value slice pins s σ H x y v u Q I rx ry h hs
  obtain ⟨p, xs, i, z, rfl, rfl, hq, he, q⟩ := h
  cases rx
  obtain ⟨t, rfl⟩ := ry
  obtain ⟨its, r, pl, hz⟩ := I.tuple hq
  obtain ⟨j, h1, h2, h3, h4, h5⟩ := atI_get he
  obtain ⟨w, ew, rw'⟩ := r.get h2
  have hl := r.length
  have hn := line63
  have fin : EP X pins σ Q w s := ⟨z, H, I, rw', q⟩
  exact subscriptTail_builtinR (x := w) pl.typeIs slot_tuple_getitem.lookup
    (getItem_tuple (j := j) (Q := fun r s' => r = w ∧ EP X pins σ Q r s') pl (by omega) (by omega) (by rw [List.size_toArray, ← hl]; exact h1) (by simpa using ew) ⟨rfl, fin⟩) hs
theorem ix_str : IxR X rIxS := by
  intro value slice pins s σ H x y v u Q I rx ry h hs
  obtain ⟨z, i, c, rfl, rfl, hz, he, q⟩ := h
  obtain ⟨t, rfl⟩ := rx
  obtain ⟨t', rfl⟩ := ry
  obtain ⟨j, h1, h2, h3, h4, h5⟩ := atI_get he
  have hl : z.cps.toList.length = z.length := by simp [Str.length]
  rw [hl] at h1 h4 h5
  have hn := line63
  exact tail_any (typeIs_str s z t) slot_str_getitem.lookup (getItem_str (c := c) (by
    have e1 : decide (i < -(2 ^ 63 : Int)) = false := decide_eq_false (by omega)
    have e2 : decide (i ≥ 2 ^ 63) = false := decide_eq_false (by omega)
    rw [e1, e2, Bool.or_false]) (by rw [h1]; simpa using h2) ⟨.str ⟨#[c]⟩, H, I.tok _, ⟨_, rfl⟩, q⟩) hs
def rIx (K : PySem.W.Frag) : R2 := fun x y H Q => rIxL K x y H Q ∨ rIxT K x y H Q ∨ rIxS x y H Q
theorem mapSeq_set (its : List Value) (n j : Nat) (u : Value) : Obj.mapSeq (·.setIfInBounds j u) { cls := .type "list", data := .seq its.toArray n } = { cls := .type "list", data := .seq (its.set j u).toArray n } := by
  simp [Obj.mapSeq]
theorem Inv.lst {pins : List (Addr × Obj)} {σ : St} {H : Hp} {s : Shared} {p : Addr} {xs : List V} (I : Inv X pins σ H s) (h : H p = some (.lst xs)) :
    ∃ (its : List Value) (n : Nat), Vals xs its ∧ s.heap.get? p = some { cls := .type "list", data := .seq its.toArray n } ∧ xs.length ≤ sizeLine := by
  obtain ⟨z, its, n, r, e⟩ := I.hok p _ h
  exact ⟨its, n, r, e, z⟩
theorem Inv.lstUpd {pins : List (Addr × Obj)} {σ : St} {H : Hp} {s : Shared} {p : Addr} {xs ys : List V} {its its' : List Value} {n n' : Nat} {f : Obj → Obj} (I : Inv X pins σ H s) (h : H p = some (.lst xs))
    (ho : s.heap.get? p = some { cls := .type "list", data := .seq its.toArray n }) (hf : f { cls := .type "list", data := .seq its.toArray n } = { cls := .type "list", data := .seq its'.toArray n' }) (r : Vals ys its') (hz : ys.length ≤ sizeLine) (t : Nat) :
    Inv X pins σ (upd H p (.lst ys)) { s with heap := s.heap.update p f, toks := t } := by
  have e : (s.heap.update p f).get? p = some { cls := .type "list", data := .seq its'.toArray n' } := by
    rw [Heap.get?_update_self f ho (by rw [hf] <;> rfl), hf]
  refine I.write (x := p) (e := p) (by rw [h]; trivial) (.inl rfl) (fun b u hb q => (Heap.get?_update_other _ _ (Ne.symm hb)).trans q) ⟨_, e⟩ ?_
  exact ⟨hz, its', n', r, e⟩
def rSetL : V → V → V → Hp → (Hp → Prop) → Prop := fun o i v H Q => ∃ p xs k j, o = .ref p ∧ i = .int k ∧ H p = some (.lst xs) ∧ ixN xs.length k = some j ∧ Q (upd H p (.lst (xs.set j v)))
theorem set_list : PSet X rSetL := by
  intro pins s σ H o i v ov iv u Q I ro ri rv h
  obtain ⟨p, xs, k, j, rfl, rfl, hp, hj, q⟩ := h
  cases ro
  obtain ⟨t, rfl⟩ := ri
  obtain ⟨its, n, r, ho, hz⟩ := I.lst hp
  obtain ⟨h1, h2, h3, h4⟩ := ixN_seq hj
  have hl := r.length
  have hn := line63
  have I' : Inv X pins σ (upd H p (.lst (xs.set j v))) { s with heap := s.heap.update p (Obj.mapSeq (·.setIfInBounds j u)) } :=
    I.lstUpd hp ho (mapSeq_set its n j u) (r.set rv j) (by rw [List.length_set]; exact hz) s.toks
  by_cases h0 : 0 ≤ k
  · have hk : k.toNat = j := by
      rw [seqIndex_of h0 h4] at h1
      exact Option.some.inj h1
    exact PySem.W.ki_setAt ho h0 (by omega) (by rw [List.size_toArray, ← hl]; exact h4) (by rw [hk]; exact ⟨_, I', q⟩)
  · have hk : (k + (its.toArray.size : Int)).toNat = j := by
      rw [seqIndex_neg (by omega) h3] at h1
      rw [List.size_toArray, ← hl]
      exact Option.some.inj h1
    exact PySem.W.ki_setBack ho (by omega) (by rw [List.size_toArray, ← hl]; exact h3) (by omega) (by rw [hk]; exact ⟨_, I', q⟩)

theorem slice_bounds (lo hi : Option Int) (n : Nat) : (sliceBounds lo hi none n).1 = ((HT.sIx n 0 lo : Nat) : Int) ∧ (sliceBounds lo hi none n).2.1 = ((HT.sIx n n hi : Nat) : Int) ∧ (sliceBounds lo hi none n).2.2 = 1 := by
  refine ⟨?_, ?_, rfl⟩
  · cases lo with
    | none => simp [sliceBounds, HT.sIx]
    | some i =>
      simp only [sliceBounds, HT.sIx, Option.getD_none, show (1 : Int) > 0 by decide, if_true]
      by_cases h : i < 0
      · simp only [h, if_true] <;> omega
      · simp only [h, if_false] <;> omega
  · cases hi with
    | none => simp [sliceBounds, HT.sIx]
    | some i =>
      simp only [sliceBounds, HT.sIx, Option.getD_none, show (1 : Int) > 0 by decide, if_true]
      by_cases h : i < 0
      · simp only [h, if_true] <;> omega
      · simp only [h, if_false] <;> omega
theorem slicePick_cut (its : List Value) (lo hi : Option Int) : slicePick its.toArray lo hi none = ((its.drop (HT.sIx its.length 0 lo)).take (HT.sIx its.length its.length hi - HT.sIx its.length 0 lo)).toArray := by
  obtain ⟨h1, h2, h3⟩ := slice_bounds lo hi its.toArray.size
  unfold slicePick
  rw [h1, h2, h3]
  simp only [sliceRange_one, pick_run, List.size_toArray] <;> rfl
def rSlL (K : PySem.W.Frag) : V → Option Int → Option Int → Hp → VK → Prop := fun x lo hi H Q => ∃ a xs, x = .ref a ∧ SqL K H a xs ∧ ∀ p, H p = none → Q (.ref p) (upd H p (.lst (cutV xs lo hi)))
theorem sl_list : SlR X (rSlL X.K) := by
  intro pins s σ H x v vl vu lo hi sl Q I rx hs pl pu h
  obtain ⟨a, xs, rfl, hx, q⟩ := h
  cases rx
  obtain ⟨its, r, ht, hz⟩ := I.list hx
  have hlen := r.length
  refine ⟨"list", _, slot_list_getitem.lookup, ht.isList.typeIs, ?_⟩
  refine wpAny_getItem_list_slice ht.isList hs pl pu .none (by simp) ?_ (by rw [List.size_toArray] <;> omega)
  rw [slicePick_cut, ← hlen]
  refine ⟨.ref s.heap.objs.size, _, I.laid (t' := s.toks) (o := .lst (cutV xs lo hi)) (fun b ob q => Heap.get?_push_of_some _ q) (Nat.le_refl _) ?_, rfl, q _ (I.hok.fresh (Nat.le_refl _))⟩
  exact ⟨Nat.le_trans (cutV_length xs lo hi) hz, _, 0, (r.drop (HT.sIx xs.length 0 lo)).take (HT.sIx xs.length xs.length hi - HT.sIx xs.length 0 lo), Heap.get?_push_size _ rfl⟩

def flatV : V → Bool
  | .non => true
  | .bl _ => true
  | .int _ => true
  | .str _ => true
  | _ => false
def eqV : V → V → Bool
  | .non, .non => true
  | .bl a, .bl b => a == b
  | .bl a, .int b => (if a then 1 else 0) == b
  | .int a, .bl b => a == (if b then 1 else 0)
  | .int a, .int b => a == b
  | .str a, .str b => a == b
  | _, _ => false
theorem eqAt_V {A : Around} {s : Shared} {y x : V} {u v : Value} (ry : RelV y u) (rx : RelV x v) (fy : flatV y = true) (fx : flatV x = true) : SeqAt.EqAt A s u v (eqV y x) := by
  cases y with
  | non =>
    cases ry
    cases x with
    | non => cases rx; exact SeqAt.EqAt.same _
    | bl b => cases rx; exact SeqAt.EqAt.none_bool b
    | int b => obtain ⟨t, rfl⟩ := rx; exact SeqAt.EqAt.none_int b t
    | str b => obtain ⟨t, rfl⟩ := rx; exact SeqAt.EqAt.none_str b t
    | _ => exact absurd (show false = true from fx) Bool.false_ne_true
  | bl a =>
    cases ry
    cases x with
    | non => cases rx; exact SeqAt.EqAt.bool_none a
    | bl b => cases rx; exact SeqAt.EqAt.bool_bool a b
    | int b => obtain ⟨t, rfl⟩ := rx; exact SeqAt.EqAt.bool_int a b t
    | str b => obtain ⟨t, rfl⟩ := rx; exact SeqAt.EqAt.bool_str a b t
    | _ => exact absurd (show false = true from fx) Bool.false_ne_true
  | int a =>
    obtain ⟨t', rfl⟩ := ry
    cases x with
    | non => cases rx; exact SeqAt.EqAt.int_none a t'
    | bl b => cases rx; exact SeqAt.EqAt.int_bool a t' b
    | int b => obtain ⟨t, rfl⟩ := rx; exact SeqAt.EqAt.int_int a t' b t
    | str b => obtain ⟨t, rfl⟩ := rx; exact SeqAt.EqAt.int_str a t' b t
    | _ => exact absurd (show false = true from fx) Bool.false_ne_true
  | str a =>
    obtain ⟨t', rfl⟩ := ry
    cases x with
    | non => cases rx; exact SeqAt.EqAt.str_none a t'
    | bl b => cases rx; exact SeqAt.EqAt.str_bool a t' b
    | int b => obtain ⟨t, rfl⟩ := rx; exact SeqAt.EqAt.str_int a t' b t
    | str b => obtain ⟨t, rfl⟩ := rx; exact SeqAt.EqAt.str_str a t' b t
    | _ => exact absurd (show false = true from fx) Bool.false_ne_true
  | _ => exact absurd (show false = true from fy) Bool.false_ne_true
def eqU (x : V) (u : Value) : Bool := match u with
  | .none => eqV .non x
  | .bool b => eqV (.bl b) x
  | .int i _ => eqV (.int i) x
  | .str z _ => eqV (.str z) x
  | _ => false
def inV (x : V) (xs : List V) : Bool := xs.any fun y => eqV y x
def rIn (K : PySem.W.Frag) (neg : Bool) : R2 := fun x y H Q => ∃ p xs, y = .ref p ∧ (SqL K H p xs ∨ SqT K H p xs) ∧ flatV x = true ∧ xs.all flatV = true ∧ Q (.bl (if neg then !inV x xs else inV x xs)) H
theorem call_len_seq : CallR X (.builtin "len") (fun xs H Q => ∃ p ys, xs = [.ref p] ∧ (SqL X.K H p ys ∨ SqT X.K H p ys) ∧ Q (.int ys.length) H) := by
  intro pins s σ H xs us Q I r h
  obtain ⟨p, ys, rfl, hq, q⟩ := h
  obtain ⟨u, rfl, rx⟩ := vals1 r
  cases rx
  have hn := line63
  rcases hq with hq | hq
  · obtain ⟨its, r', pl, hz⟩ := I.list hq
    have hlen := r'.length
    exact Calls.call_len_list pl.isList (by simp only [List.size_toArray] <;> omega) ⟨.int ys.length, H, I.tok _, ⟨s.toks + 1, by rw [List.size_toArray, hlen]⟩, q⟩
  · obtain ⟨its, r', pl, hz⟩ := I.tuple hq
    have hlen := r'.length
    exact len_tuple pl (by simp only [List.size_toArray] <;> omega) ⟨.int ys.length, H, I.tok _, ⟨s.toks + 1, by rw [List.size_toArray, hlen]⟩, q⟩
theorem call_len_str : CallR X (.builtin "len") (fun xs H Q => ∃ z, xs = [.str z] ∧ z.length ≤ sizeLine ∧ Q (.int z.length) H) := by
  intro pins s σ H xs us Q I r h
  obtain ⟨z, rfl, hz, q⟩ := h
  obtain ⟨u, rfl, t, rfl⟩ := vals1 r
  have hn := line63
  exact len_str (by omega) ⟨.int z.length, H, I.tok _, ⟨_, rfl⟩, q⟩
theorem call_list_of : CallR X (.type "list") (fun xs H Q => ∃ p ys, xs = [.ref p] ∧ (SqL X.K H p ys ∨ SqT X.K H p ys) ∧ ∀ l, H l = none → Q (.ref l) (upd H l (.lst ys))) := by
  intro pins s σ H xs us Q I r h
  obtain ⟨p, ys, rfl, hq, q⟩ := h
  obtain ⟨u, rfl, rx⟩ := vals1 r
  cases rx
  have fin : ∀ (its : List Value), Vals ys its → ys.length ≤ sizeLine → ∀ (h' : Heap) (c' : Nat), (∀ b o', s.heap.get? b = some o' → h'.get? b = some o') →
      h'.get? s.heap.objs.size = some { cls := .type "list", dict := none, data := .seq its.toArray c', slots := #[] } → EP X pins σ Q (.ref s.heap.objs.size) { s with heap := h' } := fun its r' hz h' c' kp e =>
    ⟨.ref s.heap.objs.size, _, I.laid (t' := s.toks) kp (Nat.le_refl _) (show ObjOk X.prog X.w _ h' _ (.lst ys) from ⟨hz, its, c', r', e⟩), rfl, q _ (I.hok.fresh (Nat.le_refl _))⟩
  rcases hq with hq | hq
  · obtain ⟨its, r', pl, hz⟩ := I.list hq
    have hlen := r'.length
    obtain ⟨o, ho, hc, n, hd⟩ := pl.isList
    exact call_list_seq p (.inl rfl) ho hc hd (fun h' c' kp e => fin its r' hz h' c' kp e) (by simp only [List.size_toArray] <;> omega)
  · obtain ⟨its, r', pl, hz⟩ := I.tuple hq
    have hlen := r'.length
    obtain ⟨o, ho, hc, n, hd⟩ := pl
    exact call_list_seq p (.inr rfl) ho hc hd (fun h' c' kp e => fin its r' hz h' c' kp e) (by simp only [List.size_toArray] <;> omega)
theorem call_tuple_of : CallR X (.type "tuple") (fun xs H Q => ∃ p ys, xs = [.ref p] ∧ ((SqL X.K H p ys ∧ ∀ l, H l = none → Q (.ref l) (upd H l (.tup ys))) ∨ (SqT X.K H p ys ∧ Q (.ref p) H))) := by
  intro pins s σ H xs us Q I r h
  obtain ⟨p, ys, rfl, h⟩ := h
  obtain ⟨u, rfl, rx⟩ := vals1 r
  cases rx
  rcases h with ⟨hq, q⟩ | ⟨hq, q⟩
  · obtain ⟨its, r', pl, hz⟩ := I.list hq
    have hlen := r'.length
    refine call_tuple_list pl.isList (fun h' kp => ?_) (by simp only [List.size_toArray] <;> omega)
    have I1 : Inv X pins σ H { s with heap := h' } := I.kept (t' := s.toks) kp
    have I2 : Inv X pins σ (upd H h'.objs.size (.tup ys)) { s with heap := h'.push { cls := .type "tuple", data := .seq its.toArray } } :=
      I1.laid (t' := s.toks) (fun b o e => Heap.get?_push_of_some _ e) (Nat.le_refl _) (show ObjOk X.prog X.w _ _ _ (.tup ys) from ⟨hz, its, r', IsTup.new _ _, _, Heap.get?_push_size _ rfl, rfl⟩)
    exact ⟨.ref h'.objs.size, _, I2, rfl, q _ (I1.hok.fresh (Nat.le_refl _))⟩
  · obtain ⟨its, r', pl, hz⟩ := I.tuple hq
    exact call_tuple_same pl ⟨.ref p, H, I, rfl, q⟩

def tyV (K : PySem.W.Frag) (T : String) (x : V) (H : Hp) : Prop := match x with
  | .str _ => T = "str"
  | .int _ => T = "int"
  | .ref p => (T = "list" ∧ ∃ xs, SqL K H p xs) ∨ (T = "tuple" ∧ ∃ o, K.lookup p = some o ∧ o.cls = .type "tuple" ∧ o.dict = none) ∨
      (T = "dict" ∧ ((∃ kvs, H p = some (.dK kvs)) ∨ ∃ kvs, H p = some (.dT kvs))) ∨ (T = "set" ∧ ∃ S n, H p = some (.set S n))
  | _ => False
theorem tyV_is {pins : List (Addr × Obj)} {σ : St} {H : Hp} {s : Shared} {T : String} {x : V} {v : Value} (I : Inv X pins σ H s) (r : RelV x v) (ty : tyV X.K T x H) :
    s.TypeIs v T ∧ ∀ a, v = .ref a → ∃ ob, s.heap.get? a = some ob ∧ ob.dict = none := by
  cases x with
  | str z =>
    obtain ⟨t, rfl⟩ := r
    cases (show T = "str" from ty)
    exact ⟨typeIs_str s z t, fun _ e => nomatch e⟩
  | int i =>
    obtain ⟨t, rfl⟩ := r
    cases (show T = "int" from ty)
    exact ⟨typeIs_int s i t, fun _ e => nomatch e⟩
  | ref p =>
    cases r
    rcases ty with ⟨rfl, xs, hq⟩ | ⟨rfl, o, hk, hc, hd⟩ | ⟨rfl, hk⟩ | ⟨rfl, S, n, hk⟩
    · obtain ⟨its, _, pl, _⟩ := I.list hq
      refine ⟨pl.isList.typeIs, fun a e => ?_⟩
      cases e
      obtain ⟨o, n, e, c, hd, _⟩ := pl
      exact ⟨o, e, hd⟩
    · refine ⟨⟨o, I.kIn p o hk, hc⟩, fun a e => ?_⟩
      cases e
      exact ⟨o, I.kIn _ o hk, hd⟩
    · have z : ∃ o, s.heap.get? p = some o ∧ o.ExactDict := by
        rcases hk with ⟨kvs, hk⟩ | ⟨kvs, hk⟩
        · obtain ⟨_, _, _, _, o, _, _, e, ex, _⟩ := I.hok p _ hk
          exact ⟨o, e, ex⟩
        · obtain ⟨_, _, _, _, o, _, _, e, ex, _⟩ := I.hok p _ hk
          exact ⟨o, e, ex⟩
      obtain ⟨o, e, ex⟩ := z
      refine ⟨⟨o, e, ex.1⟩, fun a e2 => ?_⟩
      cases e2
      exact ⟨o, e, ex.2.1⟩
    · obtain ⟨o, _, _, _, e, ex, _⟩ := I.hok p _ hk
      refine ⟨⟨o, e, ex.1⟩, fun a e2 => ?_⟩
      cases e2
      exact ⟨o, e, ex.2.1⟩
  | _ => exact False.elim ty
def tBM0 (K : PySem.W.Frag) (T : String) (r : V → List V → Hp → VK → Prop) (to : TE) : TE := fun σ H Q => to σ H fun x H1 => tyV K T x H1 ∧ r x [] H1 Q
def tBM (K : PySem.W.Frag) (T : String) (r : V → List V → Hp → VK → Prop) (to : TE) (t : TA) : TE := fun σ H Q => to σ H fun x H1 => tyV K T x H1 ∧ t σ H1 fun xs H2 => r x xs H2 Q
variable {o e : Expr} {es : List Expr} {to : TE} {t : TA} {name : Str} {apos cpos : Pos} {T id : String} {r : V → List V → Hp → VK → Prop}
theorem pe_bm (pa : PlainAttrs T) (slot : Slot T name id) (hty : typeOf (.builtin id) = pure (.type "method_descriptor")) (hm : MtR X id r) (ho : PE X o to) (ha : PA X (e :: es) t)
    (hbase : attributeBase o name X.env (eval o X.env) = eval o X.env := by rfl)
    (hfew : ((backTo cpos (starEach (e :: es) X.env)).all (fun x => !x.1) && (backToKw cpos (keywordEach [] X.env)).all (fun x => x.1.isSome)
      && decide ((e :: es).length + ([] : List Keyword).length + (if ([] : List Keyword).isEmpty then 0 else 1) < 30)) = true := by rfl)
    (hline : (apos.endLine == cpos.line) = true := by rfl) (hs : starEach (e :: es) X.env = (false, eval e X.env) :: starEach es X.env := by rfl) (hplain : (backTo cpos (starEach es X.env)).any (·.1) = false := by rfl) :
    PE X (.Call (.Attribute o name apos) (e :: es) [] cpos) (tBM X.K T r to t) := by
  intro pins s σ H Q I h
  refine wpAny_Call_method_late hbase hfew hline rfl (thn (ho pins s σ H _ I h) fun v s1 ⟨x, H1, I1, r1, ty, q1⟩ => ?_)
  obtain ⟨h1, h2⟩ := tyV_is I1 r1 ty
  refine ⟨T, id, pa, slot, hty, h1, h2, ?_⟩
  have hA := ha cpos pins s1 σ H1 _ I1 q1
  rw [hs] at hA ⊢
  refine Calls.callWith_builtin (by show (false || (backTo cpos (starEach es X.env)).any (·.1)) = false; rw [hplain] <;> rfl) (Calls.evalArgs_plain ?_)
  exact thn hA fun us s2 ⟨vs, H2, I2, r2, q2⟩ => hm pins s2 σ H2 x vs v us Q I2 r1 r2 q2
end
end L2

namespace L2
open PySem PySem.Spec PyProof.Rows

def MtM (X : Cx) (id : String) (r : V → List V → Hp → VK → Prop) : Prop :=
  ∀ (pins : List (Addr × Obj)) (s : Shared) (σ : St) (H : Hp) (x : V) (xs : List V) (v : Value) (us : List Value) (Q : VK), Inv X pins σ H s → RelV x v → Vals xs us → r x xs H Q →
    wpAny (model X.prog X.w) X.A (call (.builtin id) (v :: us)) (EP X pins σ Q) X.xe s

theorem Vals.one : ∀ {x : V} {us : List Value}, Vals [x] us → ∃ u, us = [u] ∧ RelV x u
  | _, _, .cons r .nil => ⟨_, rfl, r⟩
theorem Vals.two : ∀ {x y : V} {us : List Value}, Vals [x, y] us → ∃ u v, us = [u, v] ∧ RelV x u ∧ RelV y v
  | _, _, _, .cons r (.cons q .nil) => ⟨_, _, rfl, r, q⟩
theorem Vals.zero : ∀ {us : List Value}, Vals [] us → us = []
  | _, .nil => rfl
theorem Vals.dropLast {xs : List V} {us : List Value} (h : Vals xs us) : Vals xs.dropLast us.dropLast := by
  induction h with
  | nil => exact .nil
  | cons r t ih =>
    cases t with
    | nil => exact .nil
    | cons q t' => exact .cons r ih
theorem Vals.eraseIdx : ∀ {xs : List V} {us : List Value} (i : Nat), Vals xs us → Vals (xs.eraseIdx i) (us.eraseIdx i)
  | _, _, _, .nil => .nil
  | _, _, 0, .cons _ t => t
  | _, _, i + 1, .cons r t => .cons r (Vals.eraseIdx i t)
theorem Vals.reverse {xs : List V} {us : List Value} (h : Vals xs us) : Vals xs.reverse us.reverse := by
  induction h with
  | nil => exact .nil
  | cons r t ih => rw [List.reverse_cons, List.reverse_cons]; exact Vals.append ih (.cons r .nil)
theorem Vals.rep {xs : List V} {us : List Value} (h : Vals xs us) : ∀ k : Nat, Vals (List.replicate k xs).flatten (List.replicate k us).flatten
  | 0 => .nil
  | k + 1 => by
    rw [List.replicate_succ, List.replicate_succ, List.flatten_cons, List.flatten_cons]
    exact Vals.append h (Vals.rep h k)
section
variable {X : Cx} {pins : List (Addr × Obj)} {σ : St} {H : Hp} {s : Shared} {l b : Addr} {xs ys zs : List V}

theorem Inv.lset {its its' : List Value} {n : Nat} {f : Array Value → Array Value} {t' : Nat} (I : Inv X pins σ H s) (hH : H l = some (.lst xs))
    (e : s.heap.get? l = some { cls := .type "list", data := .seq its.toArray n }) (hf : f its.toArray = its'.toArray) (hv : Vals ys its') (hz : ys.length ≤ sizeLine) :
    Inv X pins σ (upd H l (.lst ys)) { s with heap := s.heap.update l (Obj.mapSeq f), toks := t' } := by
  have q := PySem.IsL.update e f
  rw [hf] at q
  refine I.write (x := l) (e := l) (by rw [hH]; exact trivial) (.inl rfl) (fun b' u hb hu => (Heap.get?_update_other s.heap (Obj.mapSeq f) (Ne.symm hb)).trans hu) ⟨_, q⟩ ?_
  exact ⟨hz, its', _, hv, q⟩
theorem Inv.lnew {its : List Value} {t' : Nat} (I : Inv X pins σ H s) (hv : Vals ys its) (hz : ys.length ≤ sizeLine) :
    Inv X pins σ (upd H s.heap.objs.size (.lst ys)) { s with heap := s.heap.push { cls := .type "list", data := .seq its.toArray }, toks := t' } :=
  I.laid (fun _ _ q => Heap.get?_push_of_some _ q) (Nat.le_refl _) ⟨hz, its, 0, hv, Heap.get?_push_size _ rfl⟩
theorem Inv.fresh (I : Inv X pins σ H s) : H s.heap.objs.size = none := I.hok.fresh (Nat.le_refl _)
theorem Inv.lstM (I : Inv X pins σ H s) (hH : H l = some (.lst xs)) : xs.length ≤ sizeLine ∧ ∃ (its : List Value) (n : Nat), Vals xs its ∧ xs.length = its.length ∧ s.heap.get? l = some { cls := .type "list", data := .seq its.toArray n } := by
  obtain ⟨z, its, n, r, e⟩ := I.hok l _ hH
  exact ⟨z, its, n, r, r.length, e⟩

end

section
variable {X : Cx}

def rAppend : V → List V → Hp → VK → Prop := fun x vs H Q => ∃ l xs y, x = .ref l ∧ vs = [y] ∧ H l = some (.lst xs) ∧ xs.length < sizeLine ∧ Q .non (upd H l (.lst (xs ++ [y])))
theorem mt_append : MtM X "list.append" rAppend := by
  intro pins s σ H x vs v us Q I rx rv h
  obtain ⟨l, xs, y, rfl, rfl, hH, hz, q⟩ := h
  cases rx
  obtain ⟨u, rfl, ru⟩ := rv.one
  obtain ⟨z, its, n, r, hl, e⟩ := I.lstM hH
  refine call_meets F.slot_list_append ⟨_, e, rfl⟩ F.entry_list_append (F.args_list_append_2 _ _) (PySem.list_append l its.toArray n u (by rw [List.size_toArray]; omega)) ⟨e, ?_⟩
  refine ⟨.non, _, I.lset (its' := its ++ [u]) hH e (by simp) (r.append (.cons ru .nil)) ?_, rfl, q⟩
  rw [List.length_append, List.length_singleton]
  omega

def rExtend : V → List V → Hp → VK → Prop := fun x vs H Q => ∃ l b xs zs, x = .ref l ∧ vs = [.ref b] ∧ H l = some (.lst xs) ∧ H b = some (.lst zs) ∧ xs.length + zs.length ≤ sizeLine ∧ Q .non (upd H l (.lst (xs ++ zs)))
def rPop : V → List V → Hp → VK → Prop := fun x vs H Q => ∃ l xs y, x = .ref l ∧ vs = [] ∧ H l = some (.lst xs) ∧ xs[xs.length - 1]? = some y ∧ Q y (upd H l (.lst xs.dropLast))
def rPopAt : V → List V → Hp → VK → Prop := fun x vs H Q => ∃ l xs i k y, x = .ref l ∧ vs = [.int i] ∧ H l = some (.lst xs) ∧ -(2 ^ 63) ≤ i ∧ i < 2 ^ 63 ∧ seqIndex? i xs.length = some k ∧ xs[k]? = some y ∧ Q y (upd H l (.lst (xs.eraseIdx k)))
def rReverse : V → List V → Hp → VK → Prop := fun x vs H Q => ∃ l xs, x = .ref l ∧ vs = [] ∧ H l = some (.lst xs) ∧ Q .non (upd H l (.lst xs.reverse))
def rClear : V → List V → Hp → VK → Prop := fun x vs H Q => ∃ l xs, x = .ref l ∧ vs = [] ∧ H l = some (.lst xs) ∧ Q .non (upd H l (.lst []))
def rCat : R2 := fun x y H Q => ∃ l b xs zs, x = .ref l ∧ y = .ref b ∧ H l = some (.lst xs) ∧ H b = some (.lst zs) ∧ xs.length + zs.length ≤ sizeLine ∧ ∀ p, H p = none → Q (.ref p) (upd H p (.lst (xs ++ zs)))
theorem op_cat : OpR X (binaryOp .Add) rCat := by
  intro pins s σ H x y v u Q I rx ry h
  obtain ⟨l, b, xs, zs, rfl, rfl, hH, hB, hz, q⟩ := h
  cases rx
  cases ry
  obtain ⟨z, its, n, r, hl, e⟩ := I.lstM hH
  obtain ⟨z2, its2, n2, r2, hl2, e2⟩ := I.lstM hB
  refine PySem.P.add_list e e2 ?_ (by rw [List.size_toArray, List.size_toArray]; omega)
  have ea : its.toArray ++ its2.toArray = (its ++ its2).toArray := by simp
  rw [ea]
  exact ⟨.ref _, _, I.lnew (t' := s.toks) (r.append r2) (by rw [List.length_append]; omega), rfl, q _ I.fresh⟩
def rRep : R2 := fun x y H Q => ∃ l k xs, x = .ref l ∧ y = .int k ∧ H l = some (.lst xs) ∧ -(2 ^ 63) ≤ k ∧ k < 2 ^ 63 ∧ xs.length * k.toNat ≤ sizeLine ∧
  ∀ p, H p = none → Q (.ref p) (upd H p (.lst (List.replicate k.toNat xs).flatten))
end

section
variable {prog : Program} {w : World} {A : Around} {E : Value → Shared → Prop} {s : Shared}
end

section
variable {X : Cx}
end
end L2

namespace Att
open PySem PySem.W PySem.Calls PyProof.Rows

theorem ints_of_wellAll {P : Params} {h : Heap} : ∀ (ns : List Int) (vs : List Value), WellAll P h vs (ns.map WData.int) → IntsAre vs ns := by
  intro ns
  induction ns with
  | nil =>
    intro vs w
    rw [List.map_nil] at w
    cases w
    exact .nil
  | cons n ns ih =>
    intro vs w
    rw [List.map_cons] at w
    cases w with
    | cons a b =>
      cases a
      exact .cons _ _ (ih _ b)

theorem script_of {l : OpenLaw} {n : Nat} (hn : l.most = some n) {P : Params} {h : Heap} {args : List WData} {vals : List Value}
    (hpre : l.row.toRowW.claim.pre args = true) (hwl : WellAll P h vals args) :
    ∃ a vs ns, vals = [Value.ref a] ∧ args = [WData.list (ns.map WData.int)] ∧ h.get? a = some { cls := .type "list", data := .seq vs.toArray } ∧ IntsAre vs ns ∧ ns.length ≤ n := by
  have hsh : WShape.hasAll [] args [.list .int] = true := (pre_splitW hpre).1
  have hc : l.pre.holds [] { args := args } = true := (pre_splitW hpre).2
  obtain ⟨d, r, rfl, h1, h2⟩ := hasAllW_cons hsh
  obtain rfl := hasAllW_nil h2
  obtain ⟨xs, rfl, h3⟩ := hasW_list h1
  obtain ⟨ns, rfl⟩ := items_int h3
  have hlen : ns.length ≤ n := by
    unfold OpenLaw.pre at hc
    have h4 : (WTm.not (.lt (.lit (.int (n : Int))) (.len (.arg 0)))).holds [] { args := [.list (ns.map .int)] } = true := by
      have h4 := (holds_andW hc).1
      rw [hn] at h4
      exact h4
    have h5 := condW_of h4 (w_not (w_lt w_lit (w_len_list (w_arg rfl))))
    rw [List.length_map] at h5
    refine Nat.le_of_not_lt fun q => ?_
    have q' : (n : Int) < ((ns.length : Nat) : Int) := by omega
    first
      | (rw [decide_eq_true q'] at h5; exact absurd h5 (by decide))
      | (simp at h5; omega)
  cases hwl with
  | cons w1 w2 =>
    cases w2
    cases w1 with
    | list ho hall => exact ⟨_, _, ns, rfl, rfl, ho, ints_of_wellAll ns _ hall, hlen⟩

theorem post_true (l : OpenLaw) (args : List WData) : l.row.toRowW.claim.post args (.bool true) args = true :=
  postW_of (r := l.row.toRowW) (X := (true == true))
    (show WShape.has [] (.bool true) .bool = true by first | rfl | decide | simp [WShape.has, WShape.arms, WShape.armsAll])
    (show (WTm.eq .res (.lit (.bool true))).value [] { args := args, res := some (.bool true), after := args } = some (.bool (true == true)) from w_eq_bool (w_res rfl) w_lit) rfl

theorem attach_call {l : OpenLaw} {n : Nat} {q : Program} {loose : List Str} {XP : (Str → Option Value) → Heap → Prop} {YP : World → Heap → Prop} {d : DefRec}
    (hn : l.most = some n) (hdf : d.params.defaults = [])
    (call : ∀ (w : World) (s₀ s₁ : Shared) (mg mb : Str → Option Value) (fa : Addr) (o : Obj) (pm cd doc : Value) (a : Addr) (vs : List Value) (ns : List Int),
      Ground q loose [] XP w s₀ mg mb s₁.heap → YP w s₁.heap →
      s₁.heap.get? fa = some o → o.data = .func (docDef d.name d.params d.body d.scope pm cd doc) → s₁.heap.CodeRec cd d.name → mg d.name = some (.ref fa) →
      s₁.heap.get? a = some { cls := .type "list", data := .seq vs.toArray } → IntsAre vs ns → ns.length ≤ n → s₁.gens = #[] →
      codeAny (model l.prog w) callerA (.call (.ref fa) ⟨[.ref a], []⟩) (fun r s' => r = .ok (.ret (.bool true)) ∧ OldK s₁.heap s'.heap ∧ s'.os = s₁.os ∧ AllBare s'.gens) s₁) :
    WalkO q loose XP YP l.row.toRowW d [] (fun f vs => PySem.call f vs) := by
  intro w s₀ s₁ mg mb G Y fa o pm cd doc dV kV ho hd hcd hD hmg hg args vals as hpre hlay hrd hwl hlo
  obtain rfl : dV = .none := Dflts.none hD hdf
  obtain rfl : kV = .none := Dflts.noKw hD
  obtain ⟨a, vs, ns, rfl, rfl, hobj, hints, hlen⟩ := script_of hn hpre hwl
  refine enter_call (codeAny_mono (call w s₀ s₁ mg mb fa o pm cd doc a vs ns G Y ho (fd_plain hd) hcd hmg hobj hints hlen hg) fun r s' hq => ?_)
  obtain ⟨rfl, h2, h3, h4⟩ := hq
  exact ⟨.inl ⟨.bool true, .bool true, [], rfl, fun _ => rfl, .bool true, post_true l _, fun _ => ⟨List.Pairwise.nil, fun _ hm => (nomatch hm)⟩⟩, h2, h3, h4⟩

section
variable {prog : Program} {w : World} {A : Around} {E : Value → Shared → Prop} {s : Shared} {K : Frag}

def noObjs (h : Heap) : Heap := { h with objs := #[] }
def ledger (h : Heap) (L d : Addr) : List (Addr × Obj) := (List.range h.objs.size).filterMap fun a => if a = L ∨ a = d then none else (h.get? a).map fun o => (a, o)
end
end Att

namespace L2
open PySem PySem.Spec PyProof.Rows

theorem vals_ints : ∀ {vs : List Value} {ns : List Int}, IntsAre vs ns → Vals (ns.map V.int) vs
  | _, _, .nil => .nil
  | _, _, .cons n t h => .cons ⟨t, rfl⟩ (vals_ints h)

def Only (H : Hp) : Prop := ∀ b, H b = none ∨ ∃ o xs, H b = some (.frz o (.lst xs))

theorem law_call {P : Program} {w : World} {K : PySem.W.Frag} {mg mb : Str → Option Value} {CX : CXT} {k : Nat} {fa a : Addr} {fd : FuncData} {x : Str} {sp : Sp} {s₁ : Shared} {vs : List Value} {ns : List Int}
    (KX : K.In s₁.heap) (hns : s₁.heap.Ns mainGlobals mg) (hb : s₁.heap.Ns builtinsNs mb) (hbb : ∀ x : Str, x ≠ "__name__" → mb x = bootBuiltins x) (hlim : s₁.heap.NoLimit) (hg : s₁.gens = #[])
    (ha : s₁.heap.get? a = some { cls := .type "list", data := .seq vs.toArray }) (hi : IntsAre vs ns) (hl : ns.length ≤ sizeLine) (hr : Room k callerA)
    (F : ∀ base : Heap, K.In base → base.Ns mainGlobals mg → FnOk P w K mg base CX k fa fd [x] sp) (hbind : ∀ (s : Shared) (u : Value), BindsTo s fd ⟨[u], []⟩ [(x, u)])
    (hsp : ∀ H : Hp, Only H → SqL K H a (ns.map V.int) → sp [.ref a] H (fun v _ => v = .bl true) fun _ _ _ => False)
    (hCX : ∀ H e s', CX [] H s₁ (fun _ _ _ => False) e s' → False) :
    codeAny (model P w) callerA (.call (.ref fa) ⟨[.ref a], []⟩) (fun r s' => r = .ok (.ret (.bool true)) ∧ OldK s₁.heap s'.heap ∧ s'.os = s₁.os ∧ AllBare s'.gens) s₁ := by
  have rv := vals_ints hi
  have lenV := hi.length
  -- from an abstract heap in which nothing but the script may be tracked
  have core : ∀ H : Hp, Only H → SqL K H a (ns.map V.int) → HOk P w H s₁.heap → (∀ b, H b ≠ none → b = a) → (H a ≠ none → K.lookup a = none) →
      codeAny (model P w) callerA (.call (.ref fa) ⟨[.ref a], []⟩) (fun r s' => r = .ok (.ret (.bool true)) ∧ OldK s₁.heap s'.heap ∧ s'.os = s₁.os ∧ AllBare s'.gens) s₁ := by
    intro H hO hS hok hA hK
    have base_of : ∀ {b : Addr} {o : Obj}, s₁.heap.get? b = some o → H b = none → (hidT s₁.heap H).get? b = some o := fun e n => hidT_get e n
    have noA : ∀ {b : Addr} {o : Obj} {es : Array DictEntry} {ep : Nat}, s₁.heap.get? b = some o → o.data = .dict es ep → H b = none := fun {b o es ep} e d => by
      cases q : H b with
      | none => rfl
      | some u =>
        have e' : b = a := hA b (by rw [q]; simp)
        subst e'
        rw [ha] at e; cases e
        have d' : Data.seq vs.toArray _ = Data.dict es ep := d
        cases d'
    have nsK : ∀ {b : Addr} {m : Str → Option Value}, s₁.heap.Ns b m → (hidT s₁.heap H).Ns b m := fun {b m} ⟨o, es, ep, e, d, r⟩ => ⟨o, es, ep, base_of e (noA e d), d, r⟩
    have hKb : K.In (hidT s₁.heap H) := fun b o e => base_of (KX b o e) (by
      cases q : H b with
      | none => rfl
      | some u =>
        have e' : b = a := hA b (by rw [q]; simp)
        subst e'
        rw [hK (by rw [q]; simp)] at e; cases e)
    have hM : Mod K mg (hidT s₁.heap H) := ⟨hKb, nsK hns, ⟨mb, nsK hb, hbb⟩, let ⟨mc, h1, h2⟩ := hlim; ⟨mc, nsK h1, h2⟩⟩
    have e0 : Env0 P w K mg (hidT s₁.heap H) callerA [] s₁ H := ⟨rfl, hM, fun b o e => of_hidT e, Nat.le_of_eq (hidT_size _ _), trivial, fun b hb => absurd (show b ∈ ([] : List Addr) from hb) (by simp), hok, .of_eq hg⟩
    refine codeAny_mono ((F _ hKb (nsK hns)).run callerA [] s₁ H ⟨[.ref a], []⟩ [.ref a] [.ref a] _ _ hr e0 (hbind s₁ (.ref a)) (.cons rfl .nil) (hsp H hO hS)) fun r s' h => ?_
    cases r with
    | error e => exact (hCX H e s' h).elim
    | ok fl =>
      cases fl with
      | next => exact False.elim h
      | brk => exact False.elim h
      | cont => exact False.elim h
      | ret u =>
        obtain ⟨v, H', os, bare, un, hok', r', q⟩ := h
        have q' : v = .bl true := q
        subst q'
        obtain rfl : u = Value.bool true := r'
        refine ⟨rfl, OldK.of_keep fun b o e => ?_, os, bare⟩
        cases q : H b with
        | none => exact un.keep b o e q (by intro z; exact absurd (show b ∈ ([] : List Addr) from z) (by simp)) (by simp)
        | some u =>
          rcases hO b with z | ⟨ob, xs, z⟩
          · rw [q] at z; cases z
          · have z2 := un.frzs b ob _ z
            obtain ⟨e1, _⟩ := hok b _ z
            obtain ⟨e2, _⟩ := hok' b _ z2
            rw [e] at e1; cases e1
            exact e2
  cases hk : K.lookup a with
  | some o =>
    -- the script is one of the module's own objects
    have e := KX a o hk
    rw [ha] at e
    cases e
    refine core (fun _ => none) (fun _ => .inl rfl) (.inr ⟨_, vs.toArray, _, hk, rfl, rfl, rfl, by rw [List.size_toArray, lenV]; exact hl, by simpa using rv⟩) (fun b u z => by have z' : (none : Option HO) = some u := z; cases z') (fun b z => absurd rfl z) fun z => absurd rfl z
  | none =>
    refine core (fun b => if b = a then some (.frz { cls := .type "list", data := .seq vs.toArray } (.lst (ns.map V.int))) else none) (fun b => ?_) (.inl (.inr ⟨{ cls := .type "list", data := .seq vs.toArray }, if_pos rfl⟩)) (fun b u z => ?_) (fun b z => ?_) fun _ => hk
    · by_cases hb : b = a
      · exact .inr ⟨_, _, if_pos hb⟩
      · exact .inl (if_neg hb)
    · by_cases hb : b = a
      · have z' := (if_pos hb).symm.trans z
        cases z'
        subst hb
        exact ⟨ha, by rw [List.length_map]; exact hl, vs, _, rv, ha⟩
      · have z' := (if_neg hb).symm.trans z
        cases z'
    · by_cases hb : b = a
      · exact hb
      · exact absurd (if_neg hb) z
end L2

namespace L2
open PySem PySem.Spec PyProof.Rows

abbrev KOf {K : PySem.W.Frag} {h : Heap} (_ : K.In h) : PySem.W.Frag := K

theorem walk_of {l : PySem.W.OpenLaw} {n k : Nat} {q : Program} {loose : List Str} {XP : (Str → Option Value) → Heap → Prop} {YP : World → Heap → Prop} {d : DefRec} {K : Params → PySem.W.Frag} {CX : World → CXT} {sp : World → Sp} {x : Str}
    (hn : l.most = some n) (hn2 : n ≤ sizeLine) (hdf : d.params.defaults = []) (hr : Room k callerA)
    (hY : ∀ (w : World) (h : Heap), YP w h → (K w.params).In h)
    (F : ∀ (w : World) (mg : Str → Option Value) (fa : Addr) (h : Heap), (K w.params).In h → h.Ns mainGlobals mg → mg d.name = some (.ref fa) →
      ∃ fd : FuncData, (∀ (s : Shared) (u : Value), BindsTo s fd ⟨[u], []⟩ [(x, u)]) ∧
        ∀ base : Heap, (K w.params).In base → base.Ns mainGlobals mg → FnOk l.prog w (K w.params) mg base (CX w) k fa fd [x] (sp w))
    (hsp : ∀ (w : World) (H : Hp) (a : Addr) (ns : List Int), ns.length ≤ n → Only H → SqL (K w.params) H a (ns.map V.int) → sp w [.ref a] H (fun v _ => v = .bl true) fun _ _ _ => False)
    (hCX : ∀ (w : World) (H : Hp) (s : Shared) (e : Value) (s' : Shared), CX w [] H s (fun _ _ _ => False) e s' → False) :
    PySem.W.WalkO q loose XP YP l.row.toRowW d [] (fun f vs => PySem.call f vs) := by
  refine Att.attach_call hn hdf fun w s₀ s₁ mg mb fa o pm cd doc a vs ns G Y ho hd hcd hmg hobj hints hlen hg => ?_
  have KX := hY w _ Y
  obtain ⟨fd, hb, hF⟩ := F w mg fa _ KX G.T.g hmg
  exact law_call KX G.T.g G.T.b G.T.builtins G.T.nolimit hg hobj hints (Nat.le_trans hlen hn2) hr hF hb (fun H hO hS => hsp w H a ns hlen hO hS) fun H e s' => hCX w H s₁ e s'
end L2


namespace L2
open PySem PySem.Spec PyProof.Rows

def inClass (s : Stmt) (j : Nat) : Stmt := match s with
  | .ClassDef _ _ _ body _ _ _ _ _ _ _ => body.getD j (.Pass ⟨0, 0, 0, 0⟩)
  | _ => .Pass ⟨0, 0, 0, 0⟩
def defArgs (s : Stmt) : Arguments := match s with
  | .FunctionDef _ a _ _ _ _ _ _ _ _ => a
  | _ => { posonlyargs := [], args := [], vararg := none, kwonlyargs := [], kw_defaults := [], kwarg := none, defaults := [] }
def defBody (s : Stmt) : List Stmt := match s with
  | .FunctionDef _ _ b _ _ _ _ _ _ _ => b
  | _ => []
def defScope (s : Stmt) : Scope := match s with
  | .FunctionDef _ _ _ _ _ _ sc _ _ _ => sc
  | _ => { kind := .function, names := [], isGenerator := false, isCoroutine := false }

abbrev CX0 : CXT := fun _ _ _ _ _ _ => False
abbrev E0 : XK := fun _ _ _ => False
theorem pass0 {X : Cx} : Passes CX0 X E0 := fun _ _ _ _ _ _ _ h => h.elim

structure Fun (K : PySem.W.Frag) (x qual : Str) (st : Stmt) (f : Addr) (fd : FuncData) : Prop where
  ex : ∃ (oc : Value) (od : Option Addr) (kV doc pm : Value) (an : Option Addr) (cdv ct : Value) (osl : Array (Option Value)),
    fd = PySem.W.fnOf x qual (defArgs st) (defBody st) (defScope st) .none kV doc pm an cdv ct ∧ K.lookup f = some ⟨oc, od, .func fd, osl⟩ ∧ PySem.W.codeIn K cdv qual = true
  kp : PySem.W.keepIn K (.ref f) = true
section
variable {P : Program} {w : World} {K : PySem.W.Frag} {mg : Str → Option Value} {base : Heap}
theorem Fun.ok {x qual : Str} {st : Stmt} {f : Addr} {fd : FuncData} {N ps : List Str} {k : Nat} {sp : Sp} (F : Fun K x qual st f fd) (S : FnScope N ps (defScope st)) (len : ∀ vs H Q E, sp vs H Q E → vs.length = ps.length)
    (hbody : ∀ (cdv : Value) (A : Around) (outer : List Env) (s : Shared) (H : Hp) (vs : List V) (Q : VK) (E : XK), Room k (A.deeper (envOfC qual (defScope st) s.heap.objs.size f cdv)) → sp vs H Q E →
      ∃ t, PSs (cxOf CX0 P w K mg base N qual (defScope st) f cdv A outer s H E).nox (defBody st) t ∧ t { nx := fun _ H' => Q .non H', rt := Q } (start N vs) H) : FnOk P w K mg base CX0 (k + 1) f fd ps sp := by
  obtain ⟨oc, od, kV, doc, pm, an, cdv, ct, osl, rfl, lk, hcd⟩ := F.ex
  refine fn_of lk hcd S len fun A outer s H vs Q E hr hsp => ?_
  obtain ⟨t, h, q⟩ := hbody cdv A outer s H vs Q E hr hsp
  exact ⟨t, h.nox, q⟩
theorem Fun.binds {x qual : Str} {st : Stmt} {f : Addr} {fd : FuncData} {ps : List Str} (F : Fun K x qual st f fd)
    (h : ∀ (kV doc pm : Value) (an : Option Addr) (cdv ct : Value) (us : List Value), us.length = ps.length → bindArgs (PySem.W.fnOf x qual (defArgs st) (defBody st) (defScope st) .none kV doc pm an cdv ct) ⟨us, []⟩ = pure (ps.zip us)) : Binds K fd ps [] := by
  obtain ⟨oc, od, kV, doc, pm, an, cdv, ct, osl, rfl, lk, hcd⟩ := F.ex
  exact .all (h kV doc pm an cdv ct)
theorem fun_mk {x qual : Str} {st : Stmt} {f : Addr} {oc : Value} {od an : Option Addr} {osl : Array (Option Value)} {kV doc pm cdv ct : Value} (l : K.lookup f = some ⟨oc, od, .func (PySem.W.fnOf x qual (defArgs st) (defBody st) (defScope st) .none kV doc pm an cdv ct), osl⟩)
    (c : PySem.W.codeIn K cdv qual = true) (k : PySem.W.keepIn K (.ref f) = true) : Fun K x qual st f (PySem.W.fnOf x qual (defArgs st) (defBody st) (defScope st) .none kV doc pm an cdv ct) := ⟨⟨oc, od, kV, doc, pm, an, cdv, ct, osl, rfl, l, c⟩, k⟩
end
theorem hu_of {A : Around} {k : Nat} (hr : Room k A) : A.units + 1 < cLine := Nat.lt_of_le_of_lt (Nat.add_le_add_left (by decide : 1 ≤ 64) _) hr.units
section
variable {X : Cx}
theorem pv (i : Nat) {x : Str} {pos : Pos} (hN : X.N[i]? = some x := by rfl) (hv : Vis X.env.scope x := by first | exact Or.inl rfl | exact Or.inr (Or.inl rfl) | exact Or.inr (Or.inr rfl)) (hd : (x == ("__debug__" : Str)) = false := by decide)
    (hcd : (x == ("__classdict__" : Str)) = false := by decide) : PE X (.Name x pos) (tVar i) := pe_var hN hv hd hcd
end

def Same (H H' : Hp) : Prop := ∀ b o, H b = some o → H' b = some o
theorem Same.refl (H : Hp) : Same H H := fun _ _ h => h
theorem Same.trans {H H1 H2 : Hp} (a : Same H H1) (b : Same H1 H2) : Same H H2 := fun c o h => b c o (a c o h)
theorem Same.free {H H' : Hp} (e : Same H H') {l : Addr} (h : H' l = Option.none) : H l = Option.none := by
  cases q : H l with
  | none => rfl
  | some o =>
    rw [e l o q] at h
    cases h
theorem Same.seq {K : PySem.W.Frag} {H H' : Hp} {a : Addr} {xs : List V} (e : Same H H') (h : SqL K H a xs) : SqL K H' a xs := by
  rcases h with (h | ⟨o, h⟩) | h
  · exact .inl (.inl (e _ _ h))
  · exact .inl (.inr ⟨o, e _ _ h⟩)
  · exact .inr h

end L2

set_option Elab.async false
set_option linter.all false
set_option maxRecDepth 100000
namespace L2
open PySem PySem.Spec PyProof.Rows

structure Cal (P : Program) (w : World) (K : PySem.W.Frag) (mg : Str → Option Value) (base : Heap) (CX : CXT) (x : Str) (k : Nat) (ps : List Str) (sp : Sp) : Prop where
  ex : ∃ f fd, FnOk P w K mg base CX k f fd ps sp ∧ Binds K fd ps [] ∧ PySem.W.keepIn K (.ref f) = true ∧ mg x = some (.ref f)

section
variable {X : Cx} {CX : CXT} {x : Str} {j k : Nat} {ps : List Str} {sp : Sp} {E : XK} {p pos : Pos} {e : Expr} {es : List Expr} {t : TA}
theorem pe_callX (C : Cal X.prog X.w X.K X.mg X.base CX x j ps sp) (hr : Room k X.A) (hg : Gl X x) (hx : Passes CX X E) (ha : PA X (e :: es) t) (hj : j ≤ k := by decide) (hdb : (x == ("__debug__" : Str)) = false := by decide)
    (he : starEach (e :: es) X.env = (false, eval e X.env) :: starEach es X.env := by rfl) (hpl : (backTo pos (starEach es X.env)).any (·.1) = false := by rfl) :
    PE X (.Call (.Name x p) (e :: es) [] pos) (tCall sp [] E t) := by
  obtain ⟨f, fd, F, b, kp, m⟩ := C.ex
  exact pe_call F (hr.mono hj) hg m kp b .nil hx ha hdb he hpl
theorem pe_callC (C : Cal X.prog X.w X.K X.mg X.base CX0 x j ps sp) (hr : Room k X.A) (hg : Gl X x) (ha : PA X (e :: es) t) (hj : j ≤ k := by decide) (hdb : (x == ("__debug__" : Str)) = false := by decide)
    (he : starEach (e :: es) X.env = (false, eval e X.env) :: starEach es X.env := by rfl) (hpl : (backTo pos (starEach es X.env)).any (·.1) = false := by rfl) :
    PE X (.Call (.Name x p) (e :: es) [] pos) (tCall sp [] E0 t) := pe_callX C hr hg pass0 ha hj hdb he hpl
end

inductive Kn where
  | non | bl | int | str | lst | tup | dct
def tyK (T : String) : Option Kn :=
  if T = "int" then some .int else if T = "bool" then some .bl else if T = "str" then some .str else if T = "list" then some .lst else if T = "tuple" then some .tup else none
theorem tyK_int : tyK "int" = some .int := rfl
theorem tyK_bool : tyK "bool" = some .bl := rfl
theorem tyK_str : tyK "str" = some .str := rfl
theorem tyK_list : tyK "list" = some .lst := rfl
theorem tyK_tuple : tyK "tuple" = some .tup := rfl
def isiB : Kn → Kn → Bool
  | .int, .int => true
  | .bl, .int => true
  | .bl, .bl => true
  | .str, .str => true
  | .lst, .lst => true
  | .tup, .tup => true
  | _, _ => false
def dctO (a : Addr) : HO := .ext fun h => ∃ o, h.get? a = some o ∧ o.cls = .type "dict"
theorem dctO_ok {P : Program} {w : World} {H : Hp} {h : Heap} {a : Addr} {o : Obj} (e : h.get? a = some o) (c : o.cls = .type "dict") : ObjOk P w H h a (dctO a) :=
  ⟨⟨o, e, c⟩, ⟨o, e⟩, fun h1 h2 ⟨o1, e1, c1⟩ k => ⟨o1, k _ e1, c1⟩⟩
def tDNewX : TE := fun _ H Q => ∀ p, H p = none → Q (.ref p) (upd H p (dctO p))
theorem pe_dnewX {X : Cx} {pos : Pos} : PE X (.Dict [] [] pos) tDNewX := fun pins s σ H Q I h =>
  wpAny_Dict_empty ⟨.ref s.heap.objs.size, _, I.laid (a := s.heap.objs.size) (o := dctO s.heap.objs.size) (t' := s.toks) (fun _ _ q => Heap.get?_push_of_some _ q) (Nat.le_refl _) (dctO_ok (Heap.get?_push_size _ rfl) rfl), rfl, h _ (I.hok.fresh (Nat.le_refl _))⟩
def Kd (K : PySem.W.Frag) (H : Hp) : V → Kn → Prop
  | .non, k => k = .non
  | .bl _, k => k = .bl
  | .int _, k => k = .int
  | .str _, k => k = .str
  | .ref a, k => (k = .lst ∧ ∃ xs, SqL K H a xs) ∨ (k = .tup ∧ ∃ xs, SqT K H a xs) ∨ (k = .dct ∧ H a = some (dctO a))
  | _, _ => False
def rIsi (K : PySem.W.Frag) : List V → Hp → VK → Prop := fun xs H Q => ∃ x T kt k, xs = [x, .ty T] ∧ tyK T = some kt ∧ Kd K H x k ∧ Q (.bl (isiB k kt)) H
theorem tyK_some {T : String} {kt : Kn} (h : tyK T = some kt) : (T = "int" ∧ kt = .int) ∨ (T = "bool" ∧ kt = .bl) ∨ (T = "str" ∧ kt = .str) ∨ (T = "list" ∧ kt = .lst) ∨ (T = "tuple" ∧ kt = .tup) := by
  unfold tyK at h
  split at h
  · next e => exact .inl ⟨e, (Option.some.inj h).symm⟩
  split at h
  · next e => exact .inr (.inl ⟨e, (Option.some.inj h).symm⟩)
  split at h
  · next e => exact .inr (.inr (.inl ⟨e, (Option.some.inj h).symm⟩))
  split at h
  · next e => exact .inr (.inr (.inr (.inl ⟨e, (Option.some.inj h).symm⟩)))
  split at h
  · next e => exact .inr (.inr (.inr (.inr ⟨e, (Option.some.inj h).symm⟩)))
  · cases h
section
variable {X : Cx}
theorem call_isi : CallR X (.builtin "isinstance") (rIsi X.K) := by
  intro pins s σ H xs us Q I r h
  obtain ⟨x, T, kt, k, rfl, ht, hk, q⟩ := h
  obtain ⟨u, w', rfl, rx, rt⟩ := vals2 r
  obtain rfl : w' = Value.type T := rt
  have f1 : EP X pins σ Q (.bool (isiB k kt)) s := ⟨.bl _, H, I, rfl, q⟩
  have f2 : EP X pins σ Q (.bool (isiB k kt)) { s with toks := s.toks + 1 } := ⟨.bl _, H, I.tok _, rfl, q⟩
  have hT := tyK_some ht
  clear ht q
  cases x with
  | non =>
    obtain rfl : u = Value.none := rx
    obtain rfl : k = .non := hk
    rcases hT with ⟨rfl, rfl⟩ | ⟨rfl, rfl⟩ | ⟨rfl, rfl⟩ | ⟨rfl, rfl⟩ | ⟨rfl, rfl⟩
    · exact IsiPair.NoneType_int f2
    · exact IsiPair.NoneType_bool f2
    · exact IsiPair.NoneType_str f2
    · exact IsiPair.NoneType_list f2
    · exact IsiPair.NoneType_tuple f2
  | bl b =>
    obtain rfl : u = Value.bool b := rx
    obtain rfl : k = .bl := hk
    rcases hT with ⟨rfl, rfl⟩ | ⟨rfl, rfl⟩ | ⟨rfl, rfl⟩ | ⟨rfl, rfl⟩ | ⟨rfl, rfl⟩
    · first | exact IsiPair.bool_int f1 | exact IsiPair.bool_int f2
    · exact IsiPair.bool_bool f1
    · exact IsiPair.bool_str f2
    · exact IsiPair.bool_list f2
    · exact IsiPair.bool_tuple f2
  | int i =>
    obtain ⟨t, rfl⟩ := rx
    obtain rfl : k = .int := hk
    rcases hT with ⟨rfl, rfl⟩ | ⟨rfl, rfl⟩ | ⟨rfl, rfl⟩ | ⟨rfl, rfl⟩ | ⟨rfl, rfl⟩
    · exact IsiPair.int_int f1
    · exact IsiPair.int_bool f2
    · exact IsiPair.int_str f2
    · exact IsiPair.int_list f2
    · exact IsiPair.int_tuple f2
  | str z =>
    obtain ⟨t, rfl⟩ := rx
    obtain rfl : k = .str := hk
    rcases hT with ⟨rfl, rfl⟩ | ⟨rfl, rfl⟩ | ⟨rfl, rfl⟩ | ⟨rfl, rfl⟩ | ⟨rfl, rfl⟩
    · exact IsiPair.str_int f2
    · exact IsiPair.str_bool f2
    · exact IsiPair.str_str f1
    · exact IsiPair.str_list f2
    · exact IsiPair.str_tuple f2
  | ref a =>
    obtain rfl : u = Value.ref a := rx
    rcases hk with ⟨rfl, xs, hq⟩ | ⟨rfl, xs, hq⟩ | ⟨rfl, hq⟩
    · obtain ⟨its, _, ⟨o, n, e, c, _, _⟩, _⟩ := I.list hq
      rcases hT with ⟨rfl, rfl⟩ | ⟨rfl, rfl⟩ | ⟨rfl, rfl⟩ | ⟨rfl, rfl⟩ | ⟨rfl, rfl⟩
      · exact IsiPair.list_int e c f2
      · exact IsiPair.list_bool e c f2
      · exact IsiPair.list_str e c f2
      · exact IsiPair.list_list e c f1
      · exact IsiPair.list_tuple e c f2
    · obtain ⟨its, _, ⟨o, e, c, _⟩, _⟩ := I.tuple hq
      rcases hT with ⟨rfl, rfl⟩ | ⟨rfl, rfl⟩ | ⟨rfl, rfl⟩ | ⟨rfl, rfl⟩ | ⟨rfl, rfl⟩
      · exact IsiPair.tuple_int e c f2
      · exact IsiPair.tuple_bool e c f2
      · exact IsiPair.tuple_str e c f2
      · exact IsiPair.tuple_list e c f2
      · exact IsiPair.tuple_tuple e c f1
    · obtain ⟨⟨o, e, c⟩, _⟩ := I.hok a _ hq
      rcases hT with ⟨rfl, rfl⟩ | ⟨rfl, rfl⟩ | ⟨rfl, rfl⟩ | ⟨rfl, rfl⟩ | ⟨rfl, rfl⟩
      · exact IsiPair.dict_int e c f2
      · exact IsiPair.dict_bool e c f2
      · exact IsiPair.dict_str e c f2
      · exact IsiPair.dict_list e c f2
      · exact IsiPair.dict_tuple e c f2
  | _ => exact False.elim hk
end

def Itr2 (lo : Int) (n : Nat) : It := ⟨fun i _ => i < n, fun i H x H' => H' = H ∧ x = .int (lo + i * 2), fun i _ => n ≤ i⟩
section
variable {X : Cx} {tg : Expr}
def iRng3 (ta : TA) : TI := fun σ H R => ta σ H fun vs H1 => ∃ i j : Int, vs = [.int i, .int j, .int 2] ∧ (-(2 ^ 60) ≤ i ∧ i < 2 ^ 60 ∧ -(2 ^ 60) ≤ j ∧ j < 2 ^ 60) ∧ R (Itr2 i ((j - i + 1) / 2).toNat) H1
end
def ForW (J : It) (g : TG) (tb : TS) (D : Ends) (σ : St) (H : Hp) : Prop := ∃ W : Nat → Nat → St → Hp → Prop, (∃ m, W 0 m σ H) ∧ ∀ i m σ H, W i m σ H →
  (J.stop i H ∧ D.nx σ H) ∨ (J.go i H ∧ ∃ N : St → Hp → Prop, (∀ σ' H', N σ' H' → ∃ m', m' < m ∧ W (i + 1) m' σ' H') ∧ ∀ x H', J.yld i H x H' → g x σ H' fun σ2 H2 => tb { D with nx := N, ct := N, bk := D.nx } σ2 H2)
theorem tFor_eq {wi : TI} {g : TG} {tb : TS} {D : Ends} {σ : St} {H : Hp} : tFor wi g tb D σ H = wi σ H fun J H1 => ForW J g tb D σ H1 := rfl
section
variable {K : PySem.W.Frag} {a : Addr} {xs : List V} {g : TG} {tb : TS} {D : Ends} {σ : St} {H : Hp} {lo : Int} {n : Nat}
theorem forW_list (xs : List V) (Pv : Nat → St → Hp → Prop) (h0 : Pv 0 σ H) (hl : ∀ i σ H, i ≤ xs.length → Pv i σ H → SqL K H a xs)
    (hs : ∀ i x σ H, xs[i]? = some x → Pv i σ H → g x σ H fun σ2 H2 => tb { D with nx := Pv (i + 1), ct := Pv (i + 1), bk := D.nx } σ2 H2) (hd : ∀ σ H, Pv xs.length σ H → D.nx σ H) : ForW (Itl K a) g tb D σ H := for_list Pv h0 hl hs hd
theorem forW_range (Pv : Nat → St → Hp → Prop) (h0 : Pv 0 σ H)
    (hs : ∀ i σ H, i < n → Pv i σ H → g (.int (lo + i)) σ H fun σ2 H2 => tb { D with nx := Pv (i + 1), ct := Pv (i + 1), bk := D.nx } σ2 H2) (hd : ∀ σ H, Pv n σ H → D.nx σ H) : ForW (Itr lo n) g tb D σ H := for_range Pv h0 hs hd
end

theorem menu_at {xs : List Int} {m : Int} (h0 : 0 ≤ m) (h1 : m < xs.length) : ∃ z, z ∈ xs ∧ (xs.map V.int)[m.toNat]? = some (.int z) := by
  have h : m.toNat < xs.length := by omega
  exact ⟨xs[m.toNat], List.getElem_mem h, by rw [List.getElem?_map, List.getElem?_eq_getElem h]; rfl⟩

structure Bits (n : Nat) (i : Int) : Prop where
  lt : i.natAbs < 2 ^ n
theorem Bits.mono {m n : Nat} {i : Int} (h : Bits m i) (le : m ≤ n) : Bits n i := ⟨Nat.lt_of_lt_of_le h.lt (Nat.pow_le_pow_right (by decide) le)⟩
theorem Bits.add {n : Nat} {i j : Int} (h : Bits n i) (h' : Bits n j) : Bits (n + 1) (i + j) := ⟨by
  have := Int.natAbs_add_le i j
  have := h.lt
  have := h'.lt
  rw [Nat.pow_succ]
  omega⟩
theorem Bits.neg {n : Nat} {i : Int} (h : Bits n i) : Bits n (-i) := ⟨by rw [Int.natAbs_neg]; exact h.lt⟩
theorem Bits.sub {n : Nat} {i j : Int} (h : Bits n i) (h' : Bits n j) : Bits (n + 1) (i - j) := by
  rw [Int.sub_eq_add_neg]
  exact h.add h'.neg
theorem Bits.of {n : Nat} {i b : Int} (lo : -b ≤ i) (hi : i ≤ b) (hb : b < ((2 ^ n : Nat) : Int)) : Bits n i := ⟨by omega⟩
theorem Bits.le {n : Nat} {i j : Int} (h : Bits n j) (le : i.natAbs ≤ j.natAbs) : Bits n i := ⟨Nat.lt_of_le_of_lt le h.lt⟩
theorem Bits.bits {n : Nat} {i : Int} (h : Bits n i) : Builtin.Int.intBits i ≤ n := by
  unfold Builtin.Int.intBits
  split
  · exact Nat.zero_le _
  · have q := h.lt
    rcases Nat.eq_zero_or_pos i.natAbs with h0 | hp
    · rw [h0] at q ⊢
      have : (0 : Nat).log2 = 0 := by decide
      rename_i hz
      exact absurd (by simp; omega) hz
    · have := (Nat.log2_lt (Nat.ne_of_gt hp)).mpr q
      omega
def CMulB (i j : Int) : Prop := Bits 100000 i ∧ Bits 100000 j
theorem CMulB.ok {i j : Int} (h : CMulB i j) : IntMulOk i j := IntMulOk.of_bits (Nat.le_trans h.1.bits (by decide)) (Nat.le_trans h.2.bits (by decide))
def CDivB (_ j : Int) : Prop := 0 < j ∧ Bits 8999 j
theorem CDivB.ok {i j : Int} (h : CDivB i j) : Builtin.divisionGoesByPylong i j = false := by
  refine PyProof.noPylong_of_log2 ?_
  have q := h.2.lt
  have := (Nat.log2_lt (n := j.natAbs) (k := 8999) (by have := h.1; omega)).mpr q
  omega
section
variable {X : Cx}
theorem op_mulB : OpR X (binaryOp .Mult) (rI CMulB fun i j => .int (i * j)) := opI fun _ _ _ _ _ _ _ hc q => mul_int q hc.ok
theorem op_fdivB : OpR X (binaryOp .FloorDiv) (rI CDivB fun i j => .int (i / j)) := opI fun i j _ _ _ _ _ hc q => by
  have h1 : (0 : Int) < j := hc.1
  exact floordiv_int (by omega) (by rw [Int.fdiv_eq_ediv_of_nonneg i (by omega)]; exact q) (.inl hc.ok)
def tMenu (t : TA) (ti : TE) : TE := fun σ H Q => t σ H fun xs H1 => xs.length ≤ sizeLine ∧ ti σ H1 fun y H2 => ∃ i v, y = .int i ∧ 0 ≤ i ∧ xs[i.toNat]? = some v ∧ Q v H2
end
section
variable {X : Cx} {es : List Expr} {b : Expr} {t : TA} {ti : TE} {pos p2 : Pos}
theorem pe_menu (h : PA X es t) (hb : PE X b ti) (hs : PlainIx b) : PE X (.Subscript (.List es p2) b pos) (tMenu t ti) := by
  intro pins s σ H Q I hq
  refine Subscript_ (wpAny_List_spliced (thn (h p2 pins s σ H _ I hq) fun us s1 ⟨xs, H1, I1, r, z, q⟩ => ⟨by rw [← r.length]; exact z, ?_⟩))
  have hf : H1 s1.heap.objs.size = none := I1.hok.fresh (Nat.le_refl _)
  have I2 : Inv X (pins ++ [(s1.heap.objs.size, { cls := .type "list", data := .seq us.toArray })]) σ H1 { s1 with heap := s1.heap.push { cls := .type "list", data := .seq us.toArray } } := by
    have J : Inv X pins σ H1 { s1 with heap := s1.heap.push { cls := .type "list", data := .seq us.toArray } } := I1.kept (t' := s1.toks) fun b u e => Heap.get?_push_of_some _ e
    refine J.pins_of fun p hp => ?_
    rcases List.mem_append.mp hp with hp | hp
    · exact J.pin p (List.mem_append_right _ hp)
    · have e := List.mem_singleton.mp hp
      subst e
      exact ⟨Heap.get?_push_size _ rfl, hf, Nat.ne_of_gt I1.lt, I1.nofs (Nat.le_refl _), fun v z => by cases z⟩
  refine thn (hb _ _ σ H1 _ I2 q) fun u s2 ⟨y, H2, I3, ry, i, v, e, h0, ha, q2⟩ => ?_
  subst e
  obtain ⟨t', rfl⟩ := ry
  obtain ⟨hp, _⟩ := I3.pin (s1.heap.objs.size, { cls := .type "list", data := .seq us.toArray }) (List.mem_append_right _ (List.mem_append_right _ (List.mem_singleton.mpr rfl)))
  obtain ⟨w, ew, rw'⟩ := r.get ha
  have I4 : Inv X pins σ H2 s2 := I3.pins_of fun p hp => I3.pin p (List.mem_append_right _ (List.mem_append_left _ hp))
  have hl := r.length
  have hn := line63
  have hi : i.toNat < us.length := (List.getElem?_eq_some_iff.mp ew).1
  have fin : EP X pins σ Q w s2 := ⟨v, H2, I4, rw', q2⟩
  exact item_listR (l := s1.heap.objs.size) ⟨_, hp, rfl, _, rfl⟩ h0 (by omega) (by simpa using ew) fin (hs _ _)
end
theorem isi_non_bl : isiB .non .bl = false := rfl
theorem isi_non_int : isiB .non .int = false := rfl
theorem isi_non_str : isiB .non .str = false := rfl
theorem isi_non_lst : isiB .non .lst = false := rfl
theorem isi_non_tup : isiB .non .tup = false := rfl
theorem isi_bl_bl : isiB .bl .bl = true := rfl
theorem isi_bl_int : isiB .bl .int = true := rfl
theorem isi_bl_str : isiB .bl .str = false := rfl
theorem isi_bl_lst : isiB .bl .lst = false := rfl
theorem isi_bl_tup : isiB .bl .tup = false := rfl
theorem isi_int_bl : isiB .int .bl = false := rfl
theorem isi_int_int : isiB .int .int = true := rfl
theorem isi_int_str : isiB .int .str = false := rfl
theorem isi_int_lst : isiB .int .lst = false := rfl
theorem isi_int_tup : isiB .int .tup = false := rfl
theorem isi_str_bl : isiB .str .bl = false := rfl
theorem isi_str_int : isiB .str .int = false := rfl
theorem isi_str_str : isiB .str .str = true := rfl
theorem isi_str_lst : isiB .str .lst = false := rfl
theorem isi_str_tup : isiB .str .tup = false := rfl
theorem isi_lst_bl : isiB .lst .bl = false := rfl
theorem isi_lst_int : isiB .lst .int = false := rfl
theorem isi_lst_str : isiB .lst .str = false := rfl
theorem isi_lst_lst : isiB .lst .lst = true := rfl
theorem isi_lst_tup : isiB .lst .tup = false := rfl
theorem isi_tup_bl : isiB .tup .bl = false := rfl
theorem isi_tup_int : isiB .tup .int = false := rfl
theorem isi_tup_str : isiB .tup .str = false := rfl
theorem isi_tup_lst : isiB .tup .lst = false := rfl
theorem isi_tup_tup : isiB .tup .tup = true := rfl
theorem isi_dct_bl : isiB .dct .bl = false := rfl
theorem isi_dct_int : isiB .dct .int = false := rfl
theorem isi_dct_str : isiB .dct .str = false := rfl
theorem isi_dct_lst : isiB .dct .lst = false := rfl
theorem isi_dct_tup : isiB .dct .tup = false := rfl
theorem Kd_non {K : PySem.W.Frag} {H : Hp} {k : Kn} : Kd K H .non k = (k = .non) := rfl
theorem Kd_bl {K : PySem.W.Frag} {H : Hp} {k : Kn} {b : Bool} : Kd K H (.bl b) k = (k = .bl) := rfl
theorem Kd_int {K : PySem.W.Frag} {H : Hp} {k : Kn} {i : Int} : Kd K H (.int i) k = (k = .int) := rfl
theorem Kd_str {K : PySem.W.Frag} {H : Hp} {k : Kn} {z : Str} : Kd K H (.str z) k = (k = .str) := rfl
theorem Kd.tup {K : PySem.W.Frag} {H : Hp} {a : Addr} {xs : List V} (h : SqT K H a xs) : Kd K H (.ref a) .tup := .inr (.inl ⟨rfl, xs, h⟩)
theorem Kd.lst {K : PySem.W.Frag} {H : Hp} {a : Addr} {xs : List V} (h : SqL K H a xs) : Kd K H (.ref a) .lst := .inl ⟨rfl, xs, h⟩
theorem Kd.dct {K : PySem.W.Frag} {H : Hp} {a : Addr} (h : H a = some (dctO a)) : Kd K H (.ref a) .dct := .inr (.inr ⟨rfl, h⟩)
theorem Kd.ref {K : PySem.W.Frag} {H : Hp} {a : Addr} {k : Kn} (h : Kd K H (.ref a) k) : k ≠ .int ∧ k ≠ .bl ∧ k ≠ .str ∧ k ≠ .non := by
  rcases h with ⟨rfl, _⟩ | ⟨rfl, _⟩ | ⟨rfl, _⟩ <;> exact ⟨(by intro z; cases z), (by intro z; cases z), (by intro z; cases z), (by intro z; cases z)⟩
theorem sc_non_non : scal .non .non = true := rfl
theorem sc_non_int {x2 : Int} : scal .non (.int x2) = true := rfl
theorem sc_int_non {x1 : Int} : scal (.int x1) .non = true := rfl
theorem sc_non_bl {x2 : Bool} : scal .non (.bl x2) = true := rfl
theorem sc_bl_non {x1 : Bool} : scal (.bl x1) .non = true := rfl
theorem sc_non_str {x2 : Str} : scal .non (.str x2) = true := rfl
theorem sc_str_non {x1 : Str} : scal (.str x1) .non = true := rfl
theorem sc_int_int {x1 : Int} {x2 : Int} : scal (.int x1) (.int x2) = true := rfl
theorem sc_bl_bl {x1 : Bool} {x2 : Bool} : scal (.bl x1) (.bl x2) = true := rfl
theorem sc_str_str {x1 : Str} {x2 : Str} : scal (.str x1) (.str x2) = true := rfl
theorem sc_int_str {x1 : Int} {x2 : Str} : scal (.int x1) (.str x2) = true := rfl
theorem sc_str_int {x1 : Str} {x2 : Int} : scal (.str x1) (.int x2) = true := rfl
theorem sc_bl_str {x1 : Bool} {x2 : Str} : scal (.bl x1) (.str x2) = true := rfl
theorem sc_str_bl {x1 : Str} {x2 : Bool} : scal (.str x1) (.bl x2) = true := rfl
theorem cxK {CX : CXT} {P : Program} {w : World} {K : PySem.W.Frag} {mg : Str → Option Value} {base : Heap} {N : List Str} {qual : Str} {scope : Scope} {f : Addr} {cd : Value} {A : Around} {outer : List Env} {s : Shared} {H : Hp} {E : XK} :
    (cxOf CX P w K mg base N qual scope f cd A outer s H E).K = K := rfl
theorem b_len : bootBuiltins "len" = some (.builtin "len") := by decide +kernel
theorem b_isinstance : bootBuiltins "isinstance" = some (.builtin "isinstance") := by decide +kernel
theorem b_int : bootBuiltins "int" = some (.type "int") := by decide +kernel
theorem b_bool : bootBuiltins "bool" = some (.type "bool") := by decide +kernel
theorem b_str : bootBuiltins "str" = some (.type "str") := by decide +kernel
theorem b_list : bootBuiltins "list" = some (.type "list") := by decide +kernel
theorem b_tuple : bootBuiltins "tuple" = some (.type "tuple") := by decide +kernel
theorem b_sum : bootBuiltins "sum" = some (.builtin "sum") := by decide +kernel
theorem b_all : bootBuiltins "all" = some (.builtin "all") := by decide +kernel
theorem b_ValueError : bootBuiltins "ValueError" = some (.type "ValueError") := by decide +kernel
structure Mg (mg : Str → Option Value) : Prop where
  m_len : mg "len" = none
  m_range : mg "range" = none
  m_abs : mg "abs" = none
  m_max : mg "max" = none
  m_min : mg "min" = none
  m_isinstance : mg "isinstance" = none
  m_int : mg "int" = none
  m_bool : mg "bool" = none
  m_str : mg "str" = none
  m_list : mg "list" = none
  m_tuple : mg "tuple" = none
  m_sum : mg "sum" = none
  m_all : mg "all" = none
  m_enumerate : mg "enumerate" = none
  m_zip : mg "zip" = none
  m_ValueError : mg "ValueError" = none
  m_any : mg "any" = none
  m_set : mg "set" = none
  m_sorted : mg "sorted" = none
end L2

set_option Elab.async false
set_option linter.all false
set_option maxRecDepth 100000
set_option maxHeartbeats 1000000
namespace L2
open PySem PySem.Spec PyProof.Rows
section
variable {prog : Program} {w : World} {A : Around} {R : Result → Shared → Prop} {s : Shared}
theorem compLoop_go {elt target iter : Expr} {ifs : List Expr} {scope : Scope} {pos : Pos} {it acc : Value} {env : Env} (I : Nat → Shared → Prop)
    (turn : ∀ n s, I n s → wpAny (model prog w) A (pyNext it) (fun r s₁ => match r with
      | none => R (.ok .next) s₁
      | some v => wpAny (model prog w) A (letOwnedTupleGo target it v) (fun _ s₁' => wpAny (model prog w) A (assign target env v) (fun _ s₂ =>
          wpAny (model prog w) A (forIn ifs true fun c r => if r = true then do let ok ← isTrue c env (eval c env); pure (ForInStep.yield ok) else pure (ForInStep.yield r)) (fun ok s₃ =>
            if ok = true then wpAny (model prog w) A (eval elt env) (fun x s₄ =>
              wpAny (model prog w) A (call (.builtin "list.append") [acc, x]) (fun _ s₅ => ∃ m, m < n ∧ I m s₅) (fun _ _ => False) s₄) (fun _ _ => False) s₃
            else ∃ m, m < n ∧ I m s₃) (fun _ _ => False) s₂) (fun _ _ => False) s₁') (fun _ _ => False) s₁) (fun _ _ => False) s)
    (n : Nat) (h : I n s) :
    codeAny (model prog w) A (.compLoop (.ListComp elt [⟨target, iter, ifs, 0⟩] scope pos) 0 it acc env) R s := by
  refine codeAny_loop rfl I (fun n s hI => ?_) n h
  show wpAny _ A ((compTurn (.ListComp elt [⟨target, iter, ifs, 0⟩] scope pos) 0 it acc env).onRaise (fun x => do noteFrame x env; theTreesLotGoes x)) _ _ s
  refine wpAny_noted ?_
  rw [compTurn_list]
  refine wpAny_bind (wpAny_standAt (wpAny_bind (wpAny_mono (turn n s hI) (fun r s₁ h₁ => ?_) fun _ _ h' => h'.elim)))
  cases r with
  | none => exact wpAny_pure h₁
  | some v =>
    refine wpAny_bind (wpAny_mono h₁ (fun _ s₁' h₁' => wpAny_bind (wpAny_mono h₁' (fun _ s₂ h₂ => wpAny_bind (wpAny_mono h₂ (fun ok s₃ h₃ => ?_) fun _ _ h' => h'.elim)) fun _ _ h' => h'.elim)) fun _ _ h' => h'.elim)
    cases ok with
    | false => exact wpAny_pure ⟨rfl, h₃⟩
    | true =>
      exact wpAny_bind (wpAny_bind (wpAny_mono h₃ (fun x s₄ h₄ => wpAny_bind (wpAny_mono h₄ (fun _ s₅ h₅ => wpAny_pure (wpAny_pure ⟨rfl, h₅⟩)) fun _ _ h' => h'.elim)) fun _ _ h' => h'.elim))
end

def blk (X : Cx) (scope : Scope) (cl : List (Str × Addr)) (N' : List Str) (s₀ : Shared) (H₀ : Hp) (C : Addr) (pn : List (Addr × Obj)) (ex : List Addr) : Cx where
  prog := X.prog
  w := X.w
  K := X.K
  mg := X.mg
  base := X.base
  A := X.A
  N := N'
  s₀ := s₀
  H₀ := H₀
  env := compEnvC scope cl C X.env
  outer := X.stack
  stack := X.stack
  ex := ex
  fn := fun _ => false
  calm := X.calm
  pn := pn
  xe := fun _ _ => False
def PIfs (X : Cx) (ifs : List Expr) (t : TT) : Prop :=
  ∀ (pins : List (Addr × Obj)) (s : Shared) (σ : St) (H : Hp) (Q : Bool → Hp → Prop), Inv X pins σ H s → t σ H Q →
    wpAny (model X.prog X.w) X.A (forIn ifs true fun c r => if r = true then do let ok ← isTrue c X.env (eval c X.env); pure (ForInStep.yield ok) else pure (ForInStep.yield r)) (TP X pins σ Q) X.xe s
def tYes : TT := fun _ H Q => Q true H
theorem pif_nil {X : Cx} : PIfs X [] tYes := fun _ _ _ H _ I h => wpAny_tests_nil ⟨H, I, h⟩
theorem pif_one {X : Cx} {c : Expr} {t : TT} (h : PT X c t) : PIfs X [c] t := fun pins s σ H Q I q => wpAny_tests_one (h pins s σ H Q I q)
def slots (ix : List Nat) (σ : St) : St := ix.map fun j => (σ[j]?).getD none
def compW (D : Addr) (J : It) (g : TG) (tt : TT) (te : TE) (Q : VK) (W : Nat → Nat → St → Hp → Prop) : Prop :=
  ∀ i m τ H2, W i m τ H2 → (J.stop i H2 ∧ Q (.ref D) H2) ∨ (J.go i H2 ∧ ∀ x H3, J.yld i H2 x H3 → g x τ H3 fun τ' H3' => tt τ' H3' fun b H4 =>
    if b = true then te τ' H4 fun v H5 => ∃ ys, H5 D = some (.lst ys) ∧ ys.length < sizeLine ∧ ∃ m', m' < m ∧ W (i + 1) m' τ' (upd H5 D (.lst (ys ++ [v]))) else ∃ m', m' < m ∧ W (i + 1) m' τ' H4)
def tComp (ix : List Nat) (nl : Nat) (wi : TI) (g : TG) (tt : TT) (te : TE) : TE := fun σ H Q => wi σ H fun J H1 => ∀ D, H1 D = none →
  ∃ W : Nat → Nat → St → Hp → Prop, (∃ m, W 0 m (slots ix σ ++ List.replicate nl none) (upd H1 D (.lst []))) ∧ compW D J g tt te Q W

structure CompOk (X : Cx) (scope : Scope) (cl : List (Str × Addr)) (N' : List Str) (ix : List Nat) (nl : Nat) : Prop where
  clos : closureFor scope X.env = pure cl
  sub : ∀ y c, cl.lookup y = some c → X.env.cells.lookup y = some c
  has : ∀ p ∈ (relabel scope X.env).names, (p.2 = .cell ∨ p.2 = .free) → (cl.lookup p.1).isSome = true
  cell : ∀ y ∈ scope.names, y.2 ≠ .cell
  kind : scope.kind = .function
  names : ∀ y ∈ scope.names, y.2 = .local → scope.names.lookup y.1 = some .local
  len : N'.length = ix.length + nl
  out : ∀ (i j : Nat) (y : Str), ix[i]? = some j → N'[i]? = some y → X.N[j]? = some y ∧ (X.env.kindOf y = some .cell ∨ X.env.kindOf y = some .free) ∧ ((relabel scope X.env).names.lookup y = some .cell ∨ (relabel scope X.env).names.lookup y = some .free)

theorem fm0 {α : Type} {P : α → Prop} : ∀ p ∈ ([] : List α), P p := fun _ h => nomatch h
theorem fm1 {α : Type} {P : α → Prop} {a : α} {l : List α} (h : P a) (r : ∀ p ∈ l, P p) : ∀ p ∈ a :: l, P p := List.forall_mem_cons.mpr ⟨h, r⟩
def OutsOk (X : Cx) (scope : Scope) : List Nat → List Str → Prop
  | [], _ => True
  | j :: r, y :: t => (X.N[j]? = some y ∧ (X.env.kindOf y = some .cell ∨ X.env.kindOf y = some .free) ∧ ((relabel scope X.env).names.lookup y = some .cell ∨ (relabel scope X.env).names.lookup y = some .free)) ∧ OutsOk X scope r t
  | _ :: _, [] => False
theorem OutsOk.at {X : Cx} {scope : Scope} : ∀ {ix : List Nat} {N : List Str}, OutsOk X scope ix N → ∀ (i j : Nat) (y : Str), ix[i]? = some j → N[i]? = some y → X.N[j]? = some y ∧ (X.env.kindOf y = some .cell ∨ X.env.kindOf y = some .free) ∧ ((relabel scope X.env).names.lookup y = some .cell ∨ (relabel scope X.env).names.lookup y = some .free)
  | [], _, _, i, j, y, h1, _ => by simp at h1
  | _ :: _, [], h, _, _, _, _, _ => h.elim
  | _ :: _, _ :: _, h, 0, j, y, h1, h2 => by
    simp at h1 h2
    subst h1 h2
    exact h.1
  | _ :: _, _ :: _, h, i + 1, j, y, h1, h2 => OutsOk.at h.2 i j y (by simpa using h1) (by simpa using h2)
theorem CompOk.make {X : Cx} {scope : Scope} {cl : List (Str × Addr)} {N' : List Str} {ix : List Nat} {nl : Nat} (clos : closureFor scope X.env = pure cl) (sub : ∀ p ∈ cl, X.env.cells.lookup p.1 = some p.2)
    (has : ((relabel scope X.env).names.all fun p => !(p.2 == .cell || p.2 == .free) || (cl.lookup p.1).isSome) = true) (cell : ∀ y ∈ scope.names, y.2 ≠ .cell) (kind : scope.kind = .function)
    (names : ∀ y ∈ scope.names, y.2 = .local → scope.names.lookup y.1 = some .local) (len : N'.length = ix.length + nl) (out : OutsOk X scope ix N') : CompOk X scope cl N' ix nl :=
  ⟨clos, fun y c h => sub (y, c) (PySem.mem_of_lookup h), fun p hp hc => by
    have q := List.all_eq_true.mp has p hp
    rcases hc with e | e <;> (rw [e] at q; simpa using q), cell, kind, names, len, out.at⟩

section
variable {X : Cx} {pins : List (Addr × Obj)} {σ : St} {H : Hp} {s : Shared}
theorem blk_ok {scope : Scope} {cl : List (Str × Addr)} {N' : List Str} {ix : List Nat} {nl : Nat} {C : Addr} {fp : List Addr} (O : CompOk X scope cl N' ix nl) (I : Inv X pins σ H s) (hC : s.heap.objs.size ≤ C) (f : ∀ b ∈ fp, FpOk X pins H b) (lt : ∀ b ∈ fp, b < s.heap.objs.size) :
    (blk X scope cl N' s H C (X.pn ++ pins) fp).Ok where
  mod := I.ok.mod
  kind := O.kind
  glob := I.ok.glob
  blt := I.ok.blt
  above := hC
  inj := fun x y c h1 h2 => I.ok.inj x y c (O.sub x c h1) (O.sub y c h2)
  has := fun x hx => by
    have hx' : (relabel scope X.env).names.lookup x = some .cell ∨ (relabel scope X.env).names.lookup x = some .free := hx
    rcases hx' with h | h
    · exact Option.isSome_iff_exists.mp (O.has _ (PySem.mem_of_lookup h) (.inl rfl))
    · exact Option.isSome_iff_exists.mp (O.has _ (PySem.mem_of_lookup h) (.inr rfl))
  cab := fun x c h => nomatch (show false = true from h)
  hd := I.ok.hd
  frames := I.ok.frames
  stk := .inl rfl
  exf := fun b hb => ⟨Nat.ne_of_lt (Nat.lt_of_lt_of_le (lt b hb) hC), fun x c h => (f b hb).2.2.2.2.1 x c (O.sub x c h)⟩
  bs := I.bs
  bsz := Nat.le_trans I.ok.bsz I.sz
  noex := fun b o e hb => by
    rcases (f b hb).2.2.2.1 with z | z
    · exact I.ok.noex b o e z
    · exact absurd (Nat.lt_of_lt_of_le (Heap.lt_size e) (Nat.le_trans I.ok.bsz z)) (Nat.lt_irrefl _)
  exfs := fun b hb z => by
    rcases List.mem_cons.mp (I.stkSub b z) with e | e
    · exact (f b hb).2.1 e
    · exact (f b hb).2.2.1 e
  funs := I.stack
  frf := I.stkFree

theorem blk_inv {scope : Scope} {cl : List (Str × Addr)} {N' : List Str} {ix : List Nat} {nl : Nat} {C : Addr} {fp : List Addr} {h' : Heap} {t' : Nat} (O : CompOk X scope cl N' ix nl) (I : Inv X pins σ H s) (hC : s.heap.objs.size ≤ C) (f : ∀ b ∈ fp, FpOk X pins H b) (lt : ∀ b ∈ fp, b < s.heap.objs.size)
    (hn : h'.Ns C fun _ => none) (k : ∀ b o, s.heap.get? b = some o → h'.get? b = some o) :
    Inv (blk X scope cl N' s H C (X.pn ++ pins) fp) [] (slots ix σ ++ List.replicate nl none) H { s with heap := h', toks := t' } := by
  refine ⟨blk_ok O I hC f lt, rfl, I.bare, Un.kept k, ⟨_, hn, fun i x v e1 e2 e3 => ?_⟩, fun x c e => ?_, I.hok.fresh hC, fun x c e => I.freeC x c (O.sub x c e), fun p hp => ?_, I.hok.kept k, ?_⟩
  · have e1 : N'[i]? = some x := e1
    have hi : i < ix.length := by
      by_cases hi : i < ix.length
      · exact hi
      · rw [List.getElem?_append_right (by simpa [slots] using hi)] at e2
        rw [List.getElem?_replicate] at e2
        split at e2 <;> cases e2
    have e2' : (σ[ix[i]]?).getD none = some v := by
      rw [List.getElem?_append_left (by simpa [slots] using hi)] at e2
      simpa [slots, hi] using e2
    have e4 : σ[ix[i]]? = some (some v) := by
      cases q : σ[ix[i]]? with
      | none => rw [q] at e2'; cases e2'
      | some z => rw [q] at e2'; exact congrArg some e2'
    obtain ⟨o1, o2, o3⟩ := O.out i ix[i] x (by simp [hi]) e1
    obtain ⟨m, hm, hl⟩ := I.loc
    have vis : Vis X.env.scope x := by
      rcases o2 with z | z
      · exact .inr (.inl z)
      · exact .inr (.inr z)
    obtain ⟨u, r, l⟩ := hl _ x v o1 e4 vis
    rcases l with ⟨z, _⟩ | ⟨_, c, hc, o, ho, hd⟩
    · rcases o2 with y | y <;> (rw [y] at z; cases z)
    · obtain ⟨c', hc'⟩ := (blk_ok O I hC f lt).has x o3
      have z := O.sub x c' hc'
      rw [hc] at z
      cases z
      exact ⟨u, r, .inr ⟨o3, c, hc', o, k _ _ ho, hd⟩⟩
  · obtain ⟨v, q⟩ := I.cell x c (O.sub x c e)
    exact ⟨v, by obtain ⟨o, ho, hd⟩ := q; exact ⟨o, k _ _ ho, hd⟩⟩
  · have hp' : p ∈ X.pn ++ pins := by
      have z : p ∈ (X.pn ++ pins) ++ [] := hp
      rwa [List.append_nil] at z
    obtain ⟨a1, a2, a3, a4, a5⟩ := I.pin p hp'
    refine ⟨k _ _ a1, a2, Nat.ne_of_lt (Nat.lt_of_lt_of_le (Heap.lt_size a1) hC), fun z => ?_, a5⟩
    rcases List.mem_cons.mp (I.stkSub p.1 z) with e | e
    · exact a3 e
    · exact a4 e
  · show (slots ix σ ++ List.replicate nl none).length = N'.length
    rw [List.length_append, List.length_replicate, O.len]
    simp [slots]

theorem blk_back {scope : Scope} {cl : List (Str × Addr)} {N' : List Str} {C : Addr} {fp : List Addr} {s' : Shared} {τ : St} {H' : Hp} (I : Inv X pins σ H s) (f : ∀ b ∈ fp, FpOk X pins H b)
    (J : Inv (blk X scope cl N' s H C (X.pn ++ pins) fp) [] τ H' s') : Inv X pins σ H' s' :=
  I.call' J.os J.base J.hok J.bare fun b hb => ⟨(f b hb).2.2.2.1, (f b hb).2.1, (f b hb).2.2.2.2.1, (f b hb).2.2.2.2.2⟩
theorem Inv.letgo {C : Addr} {s' : Shared} {h' : Heap} (J : Inv X pins σ H s') (hsz : X.s₀.heap.objs.size ≤ C) (hL : C ≠ X.env.locals) (hc : ∀ x c, X.env.cells.lookup x = some c → c ≠ C) (hp : ∀ p ∈ X.pn ++ pins, p.1 ≠ C) (hH : H C = none)
    (sb : Heap.SameBut C s'.heap h') : Inv X pins σ H { s' with heap := h' } :=
  J.turned (t' := s'.toks) (it := C) (fun b o hb e => sb.extBut b o hb e) hH hL (.inr hsz) hc hp
theorem blk_loop {elt iter tg : Expr} {ifs : List Expr} {scope : Scope} {pos : Pos} {cl : List (Str × Addr)} {N' : List Str} {C D it : Addr} {fp : List Addr} {tn : Nat → Heap → Prop} {J : It} {g : TG} {tt : TT} {te : TE} {s₄ : Shared} {W : Nat → Nat → St → Hp → Prop} {Q : VK}
    {τ : St} {H₀ : Hp} {s₃ : Shared} {pn : List (Addr × Obj)} {m0 : Nat} {R : Result → Shared → Prop} (hc : X.calm = true) (T : Turn X.prog X.w X.K tg J fp it tn)
    (f : ∀ H', (∀ b ∈ fp, H' b = none) → ∀ b ∈ fp, FpOk (blk X scope cl N' s₃ H₀ C pn fp) [] H' b)
    (hg : PG (blk X scope cl N' s₃ H₀ C pn fp) tg g) (ht : PIfs (blk X scope cl N' s₃ H₀ C pn fp) ifs tt) (he : PE (blk X scope cl N' s₃ H₀ C pn fp) elt te)
    (I4 : Inv (blk X scope cl N' s₃ H₀ C pn fp) [] τ H s₄) (st : tn 0 s₄.heap) (fr : ∀ b ∈ fp, H b = none) (w0 : W 0 m0 τ H) (hW : compW D J g tt te Q W)
    (fin : ∀ τ' H' s', Inv (blk X scope cl N' s₃ H₀ C pn fp) [] τ' H' s' → Q (.ref D) H' → R (.ok .next) s') :
    codeAny (model X.prog X.w) X.A (.compLoop (.ListComp elt [⟨tg, iter, ifs, 0⟩] scope pos) 0 (.ref it) (.ref D) (compEnvC scope cl C X.env)) R s₄ := by
  refine compLoop_go (fun n s' => ∃ i τ' H', Inv (blk X scope cl N' s₃ H₀ C pn fp) [] τ' H' s' ∧ tn i s'.heap ∧ (∀ b ∈ fp, H' b = none) ∧ W i n τ' H') ?_ m0 ⟨0, τ, H, I4, st, fr, w0⟩
  rintro n s5 ⟨i, τ5, H5, I5, st5, fr5, w5⟩
  rcases hW i n τ5 H5 w5 with ⟨stop, q⟩ | ⟨go, step⟩
  · refine thn (T.done (blk X scope cl N' s₃ H₀ C pn fp) rfl rfl rfl hc i [] s5 τ5 H5 (fun _ _ => False) I5 (f H5 fr5) st5 stop) fun r s6 ⟨hr, I6⟩ => ?_
    subst hr
    exact fin τ5 H5 s6 I6 q
  · refine thn (T.item (blk X scope cl N' s₃ H₀ C pn fp) rfl rfl rfl hc i [] s5 τ5 H5 (fun _ _ => False) I5 (f H5 fr5) st5 go) fun r s6 ⟨u, hr, h6⟩ => ?_
    subst hr
    refine thn h6 fun _ s7 ⟨x, H7, I7, r7, y7, st7, fr7⟩ => ?_
    have I7' := I7.pinned (f H7 fr7) (T.obj _ _ st7)
    have keep : ∀ {τ8 : St} {H8 : Hp} {s8 : Shared}, Inv (blk X scope cl N' s₃ H₀ C pn fp) ([] ++ pinsAt fp s7.heap) τ8 H8 s8 → Inv (blk X scope cl N' s₃ H₀ C pn fp) [] τ8 H8 s8 ∧ tn (i + 1) s8.heap ∧ ∀ b ∈ fp, H8 b = none := fun {τ8 H8 s8} I8 => by
      refine ⟨I8.unpinned, T.keep _ _ _ st7 fun b hb o e => (I8.pin (b, o) (List.mem_append_right _ (List.mem_append_right _ (mem_pinsAt hb e)))).1, fun b hb => ?_⟩
      obtain ⟨o, e, d⟩ := T.obj _ _ st7 b hb
      exact (I8.pin (b, o) (List.mem_append_right _ (List.mem_append_right _ (mem_pinsAt hb e)))).2.1
    refine thn (hg _ s7 τ5 H7 x u _ I7' r7 (step x H7 y7)) fun _ s8 ⟨τ8, H8, I8, q8⟩ => ?_
    refine thn (ht _ s8 τ8 H8 _ I8 q8) fun b s9 ⟨H9, I9, q9⟩ => ?_
    cases b with
    | false =>
      obtain ⟨m', hm, w'⟩ := q9
      obtain ⟨k1, k2, k3⟩ := keep I9
      exact ⟨m', hm, i + 1, τ8, H9, k1, k2, k3, w'⟩
    | true =>
      refine thn (he _ s9 τ8 H9 _ I9 q9) fun y s10 ⟨v, H10, I10, r10, ys, hD, hl, m', hm, w'⟩ => ?_
      refine thn (mt_append _ s10 τ8 H10 (.ref D) [v] (.ref D) [y] (fun _ H11 => W (i + 1) m' τ8 H11) I10 rfl (.cons r10 .nil) ⟨D, ys, v, rfl, rfl, hD, hl, w'⟩) fun z s11 ⟨_, H11, I11, _, w11⟩ => ?_
      obtain ⟨k1, k2, k3⟩ := keep I11
      exact ⟨m', hm, i + 1, τ8, H11, k1, k2, k3, w11⟩
end

section
variable {X : Cx} {elt iter tg : Expr} {ifs : List Expr} {scope : Scope} {pos : Pos} {cl : List (Str × Addr)} {N' : List Str} {ix : List Nat} {nl : Nat} {wi : TI} {g : TG} {tt : TT} {te : TE}
structure Left (X : Cx) (pins : List (Addr × Obj)) (σ : St) (C : Addr) (H : Hp) (s : Shared) : Prop where
  inv : Inv X pins σ H s
  ns : ∃ m, s.heap.Ns C m
  sz : X.s₀.heap.objs.size ≤ C
  loc : C ≠ X.env.locals
  cel : ∀ x c, X.env.cells.lookup x = some c → c ≠ C
  pin : ∀ p ∈ X.pn ++ pins, p.1 ≠ C
  non : H C = none
theorem comp_run {pins : List (Addr × Obj)} {σ : St} {H1 : Hp} {s2 : Shared} {Q : VK} {it : Addr} {fp : List Addr} {tn : Nat → Heap → Prop} {J : It} {RR : Value → Addr → Result → Shared → Prop} {E : Value → Shared → Prop}
    (hc : X.calm = true) (O : CompOk X scope cl N' ix nl) (hg : ∀ s₀ H₀ C pn ex, PG (blk X scope cl N' s₀ H₀ C pn ex) tg g) (ht : ∀ s₀ H₀ C pn ex, PIfs (blk X scope cl N' s₀ H₀ C pn ex) ifs tt)
    (he : ∀ s₀ H₀ C pn ex, PE (blk X scope cl N' s₀ H₀ C pn ex) elt te) (I1 : Inv X pins σ H1 s2) (T : Turn X.prog X.w X.K tg J fp it tn) (st : tn 0 s2.heap) (f1 : ∀ b ∈ fp, FpOk X pins H1 b)
    (q : ∀ D, H1 D = none → ∃ W : Nat → Nat → St → Hp → Prop, (∃ m, W 0 m (slots ix σ ++ List.replicate nl none) (upd H1 D (.lst []))) ∧ compW D J g tt te Q W)
    (fin : ∀ D C H' s', Left X pins σ C H' s' → Q (.ref D) H' → RR (.ref D) C (.ok .next) s') :
    wpAny (model X.prog X.w) X.A (newList []) (fun acc s₃ => wpAny (model X.prog X.w) X.A (newFunctionEnv scope X.env.globals cl [] X.env.qual none .none (some X.env)) (fun cenv s₄ =>
      codeAny (model X.prog X.w) X.A (.compStart (.ListComp elt [⟨tg, iter, ifs, 0⟩] scope pos) 0 (.ref it) acc { cenv with scope := relabel scope X.env }) (RR acc cenv.locals) s₄) E s₃) E s2 := by
  refine wpAny_newObj_type (wpAny_newFunctionEnv O.cell (by intro y hy; simp at hy) (fun h₁ hns₁ hsb₁ => ?_) O.kind)
  have hf : H1 s2.heap.objs.size = none := I1.hok.fresh (Nat.le_refl _)
  obtain ⟨W, ⟨m0, w0⟩, hW⟩ := q s2.heap.objs.size hf
  have lt : ∀ b ∈ fp, b < s2.heap.objs.size := fun b hb => by
    obtain ⟨o, e, _⟩ := T.obj _ _ st b hb
    exact Heap.lt_size e
  have I3 : Inv X pins σ (upd H1 s2.heap.objs.size (.lst [])) { s2 with heap := s2.heap.push { cls := .type "list", data := .seq ([] : List Value).toArray } } :=
    I1.laid (t' := s2.toks) (fun b u e => Heap.get?_push_of_some _ e) (Nat.le_refl _) ⟨Nat.zero_le _, [], 0, .nil, Heap.get?_push_size _ rfl⟩
  have f3 : ∀ b ∈ fp, FpOk X pins (upd H1 s2.heap.objs.size (.lst [])) b := fun b hb => ⟨by rw [upd_ne (Nat.ne_of_lt (lt b hb))]; exact (f1 b hb).1, (f1 b hb).2⟩
  have sz : (s2.heap.push { cls := .type "list", data := .seq ([] : List Value).toArray }).objs.size = s2.heap.objs.size + 1 := Heap.size_push ..
  have lt3 : ∀ b ∈ fp, b < (s2.heap.push { cls := .type "list", data := .seq ([] : List Value).toArray }).objs.size := fun b hb => by rw [sz]; exact Nat.lt_succ_of_lt (lt b hb)
  have k3 : ∀ b o, (s2.heap.push { cls := .type "list", data := .seq ([] : List Value).toArray }).get? b = some o → h₁.get? b = some o := fun b o e => hsb₁.extBut b o (Nat.ne_of_lt (Heap.lt_size e)) (Heap.get?_push_of_some _ e)
  have I4 := blk_inv (t' := s2.toks + ([] : List (Str × Value)).length) O I3 (Nat.le_refl _) f3 lt3 hns₁ k3
  have st4 : tn 0 h₁ := T.keep _ _ _ st fun b hb o e => k3 b o (Heap.get?_push_of_some _ e)
  have fB : ∀ H', (∀ b ∈ fp, H' b = none) → ∀ b ∈ fp, FpOk (blk X scope cl N' { s2 with heap := s2.heap.push { cls := .type "list", data := .seq ([] : List Value).toArray } } (upd H1 s2.heap.objs.size (.lst [])) (s2.heap.push { cls := .type "list", data := .seq ([] : List Value).toArray }).objs.size (X.pn ++ pins) fp) [] H' b := fun H' hn b hb => by
    refine ⟨hn b hb, Nat.ne_of_lt (lt3 b hb), ?_, .inl hb, fun x c h => (f1 b hb).2.2.2.2.1 x c (O.sub x c h), fun p hp => ?_⟩
    · intro z
      rcases List.mem_cons.mp (I3.stkSub b z) with e | e
      · exact (f1 b hb).2.1 e
      · exact (f1 b hb).2.2.1 e
    · have hp' : p ∈ X.pn ++ pins := by
        have z : p ∈ (X.pn ++ pins) ++ [] := hp
        rwa [List.append_nil] at z
      exact (f1 b hb).2.2.2.2.2 p hp'
  have loop := blk_loop (pos := pos) (iter := iter) (R := RR (.ref s2.heap.objs.size) (s2.heap.push { cls := .type "list", data := .seq ([] : List Value).toArray }).objs.size) hc T fB (hg _ _ _ _ _) (ht _ _ _ _ _) (he _ _ _ _ _) I4 st4 (fun b hb => (f3 b hb).1) w0 hW (fun τ' H' s' J' qf => by
    obtain ⟨m, hm, _⟩ := J'.loc
    refine fin _ _ H' s' ⟨blk_back I3 f3 J', ⟨m, hm⟩, I3.sz, Nat.ne_of_gt I3.lt, fun x c e z => ?_, fun p hp z => ?_, J'.free⟩ qf
    · obtain ⟨v, o, ho, _⟩ := I3.cell x c e
      exact absurd (Heap.lt_size ho) (by rw [z]; exact Nat.lt_irrefl _)
    · exact absurd (Heap.lt_size (I3.pin p hp).1) (by rw [z]; exact Nat.lt_irrefl _))
  exact codeAny_compStart_list loop (T.self _ 0 _ _ _ st4 loop)
theorem pe_comp (hc : X.calm = true) (O : CompOk X scope cl N' ix nl) (hi : PI X tg iter wi) (hg : ∀ s₀ H₀ C pn ex, PG (blk X scope cl N' s₀ H₀ C pn ex) tg g) (ht : ∀ s₀ H₀ C pn ex, PIfs (blk X scope cl N' s₀ H₀ C pn ex) ifs tt)
    (he : ∀ s₀ H₀ C pn ex, PE (blk X scope cl N' s₀ H₀ C pn ex) elt te) (hs : ∀ x, foldedSetIterable iter X.env x = pure x := by intro _; rfl) :
    PE X (.ListComp elt [⟨tg, iter, ifs, 0⟩] scope pos) (tComp ix nl wi g tt te) := by
  intro pins s σ H Q I h
  rw [eval_ListComp]
  refine wpAny_comprehension_free (use := none) rfl hs O.clos O.kind O.names (thn (hi pins s σ H _ I h) fun xv s1 h1 => thn h1 fun itv s2 h2 => ?_)
  obtain ⟨it, fp, tn, J, H1, rfl, I1, T, st, f1, q⟩ := h2
  refine comp_run (RR := fun acc C => compPost (model X.prog X.w) X.A X.xe none (EP X pins σ Q) acc C) hc O hg ht he I1 T st f1 q (fun D C H' s' L qf => ?_)
  obtain ⟨m, hm⟩ := L.ns
  exact ⟨m, hm, fun h' sb => ⟨.ref D, H', L.inv.letgo L.sz L.loc L.cel L.pin L.non sb, rfl, qf⟩⟩
theorem ps_setComp {i : Nat} {y : Str} {py spos : Pos} (hN : X.N.Nodup) (hiy : X.N[i]? = some y) (hy : Loc X.env.scope y) (hc : X.calm = true) (O : CompOk X scope cl N' ix nl) (hi : PI X tg iter wi) (hg : ∀ s₀ H₀ C pn ex, PG (blk X scope cl N' s₀ H₀ C pn ex) tg g)
    (ht : ∀ s₀ H₀ C pn ex, PIfs (blk X scope cl N' s₀ H₀ C pn ex) ifs tt) (he : ∀ s₀ H₀ C pn ex, PE (blk X scope cl N' s₀ H₀ C pn ex) elt te)
    (hsw : swapsWith (.ListComp elt [⟨tg, iter, ifs, 0⟩] scope pos) (some (.Name y py)) spos.line X.env = pure true) (hs : ∀ x, foldedSetIterable iter X.env x = pure x := by intro _; rfl)
    (hf : X.fn y = true ∨ X.env.scope.names.lookup y = some .local := by first | exact .inl rfl | exact .inr rfl | assumption) :
    PS X (.Assign [.Name y py] (.ListComp elt [⟨tg, iter, ifs, 0⟩] scope pos) spos) (tAsg (tComp ix nl wi g tt te) (gName i)) := by
  intro pins s σ H D0 I h
  rw [exec_Assign_Name_used _ _ _ _ hsw]
  refine wpAny_bind (wpAny_standAt (wpAny_bind ?_))
  show wpAny _ X.A (do let _ ← comprehension (.ListComp elt [⟨tg, iter, ifs, 0⟩] scope pos) scope X.env _ (newList []) false (eval iter X.env) (some (assign (.Name y py) X.env))) _ _ s
  refine wpAny_bind (wpAny_mono (wpAny_comprehension_free (use := some (assign (.Name y py) X.env)) (Q := fun _ s' => SP X pins D0 .next s') rfl hs O.clos O.kind O.names (thn (hi pins s σ H _ I h) fun xv s1 h1 => thn h1 fun itv s2 h2 => ?_)) (fun _ s' hq => wpAny_pure (wpAny_pure hq)) fun _ _ e => e)
  obtain ⟨it, fp, tn, J, H1, rfl, I1, T, st, f1, q⟩ := h2
  refine comp_run (RR := fun acc C => compPost (model X.prog X.w) X.A X.xe (some (assign (.Name y py) X.env)) (fun _ s' => SP X pins D0 .next s') acc C) hc O hg ht he I1 T st f1 q (fun D C H' s' L qf => ?_)
  obtain ⟨m, hm⟩ := L.ns
  show wpAny _ X.A (assign (.Name y py) X.env (.ref D)) _ _ _
  refine wpAny_assign_Name (store_ok2 L.inv hN hiy hy (v := .ref D) rfl (fun s'' I'' z => ?_) hf)
  obtain ⟨a, sb2, ha⟩ := z
  have ne : C ≠ a := by
    rcases ha with e | e
    · rw [e]; exact L.loc
    · exact fun z => L.cel _ a e z.symm
  refine ⟨m, hm.at' fun o e => sb2.extBut C o ne e, fun h' sb => ⟨_, H', I''.letgo L.sz L.loc L.cel L.pin L.non sb, qf⟩⟩
end
end L2

set_option Elab.async false
set_option linter.all false
set_option maxRecDepth 100000
set_option maxHeartbeats 1000000
namespace L2
open PySem PySem.Spec PyProof.Rows
theorem all_range_eq (ns ms : List Int) : (((List.range (min ns.length ms.length)).all fun j => ns.getD j 0 == ms.getD j 0) && ns.length == ms.length) = decide (ns = ms) := by
  by_cases h : ns = ms
  · subst h
    simp
  · rw [decide_eq_false h]
    by_cases hl : ns.length = ms.length
    · have : ∃ j, j < ns.length ∧ ns.getD j 0 ≠ ms.getD j 0 := by
        apply Classical.byContradiction
        intro no
        apply h
        apply List.ext_getElem hl
        intro i h1 h2
        apply Classical.byContradiction
        intro ne
        apply no
        refine ⟨i, h1, ?_⟩
        simpa [List.getD, h1, h2] using ne
      obtain ⟨j, hj, ne⟩ := this
      have : ((List.range (min ns.length ms.length)).all fun j => ns.getD j 0 == ms.getD j 0) = false := by
        rw [List.all_eq_false]
        refine ⟨j, by simp; omega, by simpa using ne⟩
      rw [this]
      rfl
    · have : (ns.length == ms.length) = false := by simpa using hl
      rw [this, Bool.and_false]
def okV : V → Bool
  | .ref _ => true
  | x => flatV x
theorem eqV_self {x : V} (h : flatV x = true) : eqV x x = true := by
  cases x with
  | non => rfl
  | bl b => simp [eqV]
  | int i => simp [eqV]
  | str z => simp [eqV]
  | byt b => exact absurd (show false = true from h) Bool.false_ne_true
  | flt b => exact absurd (show false = true from h) Bool.false_ne_true
  | ref a => exact absurd (show false = true from h) Bool.false_ne_true
  | ty n => exact absurd (show false = true from h) Bool.false_ne_true
theorem eqAt_same {A : Around} {s : Shared} {x : V} {u v : Value} (ru : RelV x u) (rv : RelV x v) (h : okV x = true) : SeqAt.EqAt A s u v true := by
  cases x with
  | ref a =>
    obtain rfl : u = Value.ref a := ru
    obtain rfl : v = Value.ref a := rv
    exact SeqAt.EqAt.same _
  | non => have := eqAt_V (A := A) (s := s) ru rv rfl rfl; rwa [eqV_self rfl] at this
  | bl b => have := eqAt_V (A := A) (s := s) ru rv rfl rfl; rwa [eqV_self rfl] at this
  | int i => have := eqAt_V (A := A) (s := s) ru rv rfl rfl; rwa [eqV_self rfl] at this
  | str z => have := eqAt_V (A := A) (s := s) ru rv rfl rfl; rwa [eqV_self rfl] at this
  | byt b => exact absurd (show false = true from h) Bool.false_ne_true
  | flt b => exact absurd (show false = true from h) Bool.false_ne_true
  | ty n => exact absurd (show false = true from h) Bool.false_ne_true
def TwoSq (K : PySem.W.Frag) (H : Hp) (a b : Addr) (xs ys : List V) : Prop := (SqL K H a xs ∧ SqL K H b ys) ∨ (SqT K H a xs ∧ SqT K H b ys)
def rEqS (K : PySem.W.Frag) (neg : Bool) : R2 := fun x y H Q => ∃ a b, x = .ref a ∧ y = .ref b ∧
  ((∃ xs, TwoSq K H a b xs xs ∧ xs.all okV = true ∧ Q (.bl (!neg)) H) ∨ (∃ ns ms : List Int, TwoSq K H a b (ns.map V.int) (ms.map V.int) ∧ Q (.bl (if neg then !decide (ns = ms) else decide (ns = ms))) H))
theorem vals_at {xs : List V} {its : List Value} (r : Vals xs its) {j : Nat} (h : j < its.length) : ∃ x, xs[j]? = some x ∧ RelV x its[j] := by
  have hl := r.length
  have hj : j < xs.length := by omega
  obtain ⟨u, e, rv⟩ := r.get (i := j) (x := xs[j]) (by simp [hj])
  have e2 : its[j]? = some its[j] := by simp [h]
  rw [e2] at e
  cases e
  exact ⟨xs[j], by simp [hj], rv⟩
theorem eqAt_all {A : Around} {s : Shared} {xs : List V} {i1 i2 : List Value} (r1 : Vals xs i1) (r2 : Vals xs i2) (h : xs.all okV = true) : ∀ j (h1 : j < i1.toArray.size) (h2 : j < i2.toArray.size), SeqAt.EqAt A s i1.toArray[j] i2.toArray[j] true := by
  intro j h1 h2
  rw [List.size_toArray] at h1 h2
  obtain ⟨x, e1, v1⟩ := vals_at r1 h1
  obtain ⟨y, e2, v2⟩ := vals_at r2 h2
  rw [e1] at e2
  cases e2
  have ok := List.all_eq_true.mp h x (List.mem_of_getElem? e1)
  simpa using eqAt_same (A := A) (s := s) v1 v2 ok
theorem eqAt_ints {A : Around} {s : Shared} {ns ms : List Int} {i1 i2 : List Value} (r1 : Vals (ns.map V.int) i1) (r2 : Vals (ms.map V.int) i2) : ∀ j (h1 : j < i1.toArray.size) (h2 : j < i2.toArray.size), SeqAt.EqAt A s i1.toArray[j] i2.toArray[j] (ns.getD j 0 == ms.getD j 0) := by
  intro j h1 h2
  rw [List.size_toArray] at h1 h2
  obtain ⟨x, e1, v1⟩ := vals_at r1 h1
  obtain ⟨y, e2, v2⟩ := vals_at r2 h2
  have l1 : j < ns.length := by have := r1.length; rw [List.length_map] at this; omega
  have l2 : j < ms.length := by have := r2.length; rw [List.length_map] at this; omega
  rw [List.getElem?_map, List.getElem?_eq_getElem l1] at e1
  rw [List.getElem?_map, List.getElem?_eq_getElem l2] at e2
  cases e1
  cases e2
  have := eqAt_V (A := A) (s := s) v1 v2 rfl rfl
  simpa [List.getD, l1, l2, eqV] using this
section
variable {X : Cx}
theorem op_eqS (hu : X.A.units < cLine) : OpR X (compareOp .Eq) (rEqS X.K false) := by
  intro pins s σ H x y v u Q I rx ry h
  obtain ⟨a, b, rfl, rfl, h⟩ := h
  obtain rfl : v = Value.ref a := rx
  obtain rfl : u = Value.ref b := ry
  rcases h with ⟨xs, tw, ok, q⟩ | ⟨ns, ms, tw, q⟩
  · have fin : EP X pins σ Q (.bool true) s := ⟨.bl true, H, I, rfl, q⟩
    rcases tw with ⟨h1, h2⟩ | ⟨h1, h2⟩
    · obtain ⟨i1, r1, p1, _⟩ := I.list h1
      obtain ⟨i2, r2, p2, _⟩ := I.list h2
      have e : ((List.range i1.toArray.size).all fun _ => true) = true := by simp
      exact SeqAt.eq_listAt (e := fun _ => true) p1.isList p2.isList (by rw [List.size_toArray, List.size_toArray, ← r1.length, ← r2.length]) hu (eqAt_all r1 r2 ok) (by rw [e]; exact fin)
    · obtain ⟨i1, r1, p1, _⟩ := I.tuple h1
      obtain ⟨i2, r2, p2, _⟩ := I.tuple h2
      have e : (((List.range (min i1.toArray.size i2.toArray.size)).all fun _ => true) && i1.toArray.size == i2.toArray.size) = true := by
        rw [List.size_toArray, List.size_toArray, ← r1.length, ← r2.length]
        simp
      exact SeqAt.eq_tupleAt (e := fun _ => true) p1 p2 hu (eqAt_all r1 r2 ok) (by rw [e]; exact fin)
  · have fin : EP X pins σ Q (.bool (decide (ns = ms))) s := ⟨.bl _, H, I, rfl, q⟩
    rcases tw with ⟨h1, h2⟩ | ⟨h1, h2⟩
    · obtain ⟨i1, r1, p1, _⟩ := I.list h1
      obtain ⟨i2, r2, p2, _⟩ := I.list h2
      have n1 : i1.toArray.size = ns.length := by rw [List.size_toArray, ← r1.length, List.length_map]
      have n2 : i2.toArray.size = ms.length := by rw [List.size_toArray, ← r2.length, List.length_map]
      have key := all_range_eq ns ms
      by_cases hl : ns.length = ms.length
      · refine SeqAt.eq_listAt (e := fun j => ns.getD j 0 == ms.getD j 0) p1.isList p2.isList (by rw [n1, n2, hl]) hu (eqAt_ints r1 r2) ?_
        rw [n1]
        rw [hl, Nat.min_self, beq_self_eq_true, Bool.and_true] at key
        rw [hl, key]
        exact fin
      · refine SeqAt.eq_list_lengthsAt p1.isList p2.isList (by rw [n1, n2]; simpa using hl) hu ?_
        rw [decide_eq_false (fun e => hl (by rw [e]))] at fin
        exact fin
    · obtain ⟨i1, r1, p1, _⟩ := I.tuple h1
      obtain ⟨i2, r2, p2, _⟩ := I.tuple h2
      have n1 : i1.toArray.size = ns.length := by rw [List.size_toArray, ← r1.length, List.length_map]
      have n2 : i2.toArray.size = ms.length := by rw [List.size_toArray, ← r2.length, List.length_map]
      refine SeqAt.eq_tupleAt (e := fun j => ns.getD j 0 == ms.getD j 0) p1 p2 hu (eqAt_ints r1 r2) ?_
      rw [n1, n2, all_range_eq]
      exact fin
end
end L2

set_option Elab.async false
set_option linter.all false
set_option maxRecDepth 100000
set_option maxHeartbeats 1000000
namespace L2
open PySem PySem.Spec PyProof.Rows
def tComp1 (D : Addr) (g : TG) (tt : TT) (te : TE) (x : V) (τ : St) (H : Hp) (R : St → Hp → Prop) : Prop := g x τ H fun τ' H' => tt τ' H' fun b H4 =>
  if b = true then te τ' H4 fun v H5 => ∃ ys, H5 D = some (.lst ys) ∧ ys.length < sizeLine ∧ R τ' (upd H5 D (.lst (ys ++ [v]))) else R τ' H4
def CompS (D : Addr) (J : It) (g : TG) (tt : TT) (te : TE) (Q : VK) (τ : St) (H : Hp) : Prop := ∃ W : Nat → Nat → St → Hp → Prop, (∃ m, W 0 m τ H) ∧ compW D J g tt te Q W
theorem tComp_eq {ix : List Nat} {nl : Nat} {wi : TI} {g : TG} {tt : TT} {te : TE} {σ : St} {H : Hp} {Q : VK} :
    tComp ix nl wi g tt te σ H Q = wi σ H fun J H1 => ∀ D, H1 D = none → CompS D J g tt te Q (slots ix σ ++ List.replicate nl none) (upd H1 D (.lst [])) := rfl
section
variable {K : PySem.W.Frag} {D a : Addr} {g : TG} {tt : TT} {te : TE} {Q : VK} {τ : St} {H : Hp}
theorem compS_range {lo : Int} {n : Nat} (Pv : Nat → St → Hp → Prop) (h0 : Pv 0 τ H)
    (hs : ∀ i τ H (R : St → Hp → Prop), i < n → Pv i τ H → (∀ τ' H', Pv (i + 1) τ' H' → R τ' H') → tComp1 D g tt te (.int (lo + i)) τ H R) (hd : ∀ τ H, Pv n τ H → Q (.ref D) H) : CompS D (Itr lo n) g tt te Q τ H := by
  refine ⟨fun i m τ H => m = n - i ∧ i ≤ n ∧ Pv i τ H, ⟨n, by simp, Nat.zero_le _, h0⟩, ?_⟩
  rintro i m τ H2 ⟨rfl, hi, p⟩
  by_cases hlt : i < n
  · refine .inr ⟨hlt, fun x H' y => ?_⟩
    obtain ⟨e, y⟩ := y
    subst e y
    exact hs i τ _ (fun τ' H' => ∃ m', m' < n - i ∧ m' = n - (i + 1) ∧ i + 1 ≤ n ∧ Pv (i + 1) τ' H') hlt p fun τ' H' p' => ⟨_, by omega, rfl, hlt, p'⟩
  · have e : i = n := by omega
    subst e
    exact .inl ⟨Nat.le_refl _, hd τ H2 p⟩
theorem compS_list (xs : List V) (Pv : Nat → St → Hp → Prop) (h0 : Pv 0 τ H) (hl : ∀ i τ H, i ≤ xs.length → Pv i τ H → SqL K H a xs)
    (hs : ∀ i x τ H (R : St → Hp → Prop), xs[i]? = some x → Pv i τ H → (∀ τ' H', Pv (i + 1) τ' H' → R τ' H') → tComp1 D g tt te x τ H R) (hd : ∀ τ H, Pv xs.length τ H → Q (.ref D) H) : CompS D (Itl K a) g tt te Q τ H := by
  refine ⟨fun i m τ H => m = xs.length - i ∧ i ≤ xs.length ∧ Pv i τ H, ⟨xs.length, by simp, Nat.zero_le _, h0⟩, ?_⟩
  rintro i m τ H2 ⟨rfl, hi, p⟩
  have q := hl i τ H2 hi p
  by_cases hlt : i < xs.length
  · have hx : xs[i]? = some xs[i] := by simp [hlt]
    refine .inr ⟨⟨xs, _, q, hx⟩, fun x H' y => ?_⟩
    obtain ⟨e, y⟩ := y
    subst e
    have e2 := y xs q
    rw [hx] at e2
    cases e2
    exact hs i _ τ _ (fun τ' H' => ∃ m', m' < xs.length - i ∧ m' = xs.length - (i + 1) ∧ i + 1 ≤ xs.length ∧ Pv (i + 1) τ' H') hx p fun τ' H' p' => ⟨_, by omega, rfl, hlt, p'⟩
  · have e : i = xs.length := by omega
    subst e
    exact .inl ⟨⟨xs, q, Nat.le_refl _⟩, hd τ H2 p⟩
theorem SqT.lst {H : Hp} {p b : Addr} {xs ys zs : List V} (h : SqT K H b xs) (hp : H p = some (.lst ys)) : SqT K (upd H p (.lst zs)) b xs := by
  rcases h with (h | ⟨o, h⟩) | h
  · exact .inl (.inl (by rw [upd_ne (ne_of h hp (by intro z; cases z))]; exact h))
  · exact .inl (.inr ⟨o, by rw [upd_ne (ne_of h hp (by intro z; cases z))]; exact h⟩)
  · exact .inr h
end
theorem rEqS_ints {K : PySem.W.Frag} {neg : Bool} {a b : Addr} {ns ms : List Int} {H : Hp} {Q : VK} (t : TwoSq K H a b (ns.map V.int) (ms.map V.int)) (q : Q (.bl (if neg then !decide (ns = ms) else decide (ns = ms))) H) : rEqS K neg (.ref a) (.ref b) H Q :=
  ⟨a, b, rfl, rfl, .inr ⟨ns, ms, t, q⟩⟩
section
variable {X : Cx} {K : PySem.W.Frag}
theorem ix_listK (h : X.K = K) : IxR X (rIxL K) := by subst h; exact ix_list
theorem ix_tupK (h : X.K = K) : IxR X (rIxT K) := by subst h; exact ix_tup
theorem call_len_seqK (h : X.K = K) : CallR X (.builtin "len") (fun xs H Q => ∃ p ys, xs = [.ref p] ∧ (SqL K H p ys ∨ SqT K H p ys) ∧ Q (.int ys.length) H) := by subst h; exact call_len_seq
end
end L2

set_option Elab.async false
set_option linter.all false
set_option maxRecDepth 100000
set_option maxHeartbeats 1000000
namespace L2
open PySem PySem.Spec PyProof.Rows
section
variable {prog : Program} {w : World} {A : Around} {E : Value → Shared → Prop} {s : Shared}
theorem nextOf_tup_item {it l : Addr} {i : Nat} {items : Array Value} {x : Value} {Q : Value → Shared → Prop} (hit : s.heap.IsTupleIter it l i)
    (hl : s.heap.IsTuple l items) (hx : items[i]? = some x) (hQ : ∀ h', h'.IsTupleIter it l (i + 1) → Heap.SameBut it s.heap h' → Q x { s with heap := h' }) :
    wpAny (model prog w) A (Builtin.SmallTypes.nextOf (.ref it)) Q E s := by
  obtain ⟨o, ho, hc, hd⟩ := id hit
  obtain ⟨ol, hol, _, nl, hdl⟩ := hl
  unfold Builtin.SmallTypes.nextOf
  refine wpAny_bind (wpAny_callSpecial?_slot (name := Str.ofString "__next__") hit.typeIs F.slot_tuple_iterator_next
    (wpAny_call_entry F.slot_tuple_iterator_next hit.typeIs F.entry_tuple_iterator_next ?_ (F.args_tuple_iterator_next_1 _)))
  show wpAny _ _ (field (.ref it) 0 >>= _) _ _ s
  refine wpAny_bind (wpAny_field ho hd (x := .ref l) rfl ?_)
  show wpAny _ _ (if (Value.ref l == Value.none) = true then _ else _) _ _ s
  rw [if_neg (show ¬ ((Value.ref l == Value.none) = true) from Bool.false_ne_true)]
  show wpAny _ _ (field (.ref it) 1 >>= _) _ _ s
  refine wpAny_bind (wpAny_field ho hd (x := .int i 0) rfl ?_)
  show wpAny _ _ (seqItems? (.ref l) >>= _) _ _ s
  refine wpAny_bind (wpAny_seqItems hol hdl ?_)
  simp only [Int.toNat_natCast, hx]
  refine wpAny_bind (wpAny_setField ho hd (by simp) (wpAny_pure ⟨x, rfl, wpAny_pure (hQ _ ?_ (Heap.SameBut.update ..))⟩))
  exact ⟨_, Heap.get?_update_self _ ho (Obj.isFreed_of_fields (Obj.data_mapFields hd _)), (Obj.cls_mapFields ..).trans hc, by
    rw [Obj.data_mapFields hd]; simp [rawInt]⟩
theorem nextOf_tup_end {it l : Addr} {i : Nat} {items : Array Value} {Q : Value → Shared → Prop} (hh : A.handled = none) (hit : s.heap.IsTupleIter it l i) (hl : s.heap.IsTuple l items) (hx : items[i]? = none)
    (hE : ∀ h' e, Heap.ExtBut it s.heap h' → (∃ o, h'.get? e = some o ∧ o.cls = .type "StopIteration") → E (.ref e) { s with heap := h' }) :
    wpAny (model prog w) A (Builtin.SmallTypes.nextOf (.ref it)) Q E s := by
  obtain ⟨o, ho, hc, hd⟩ := id hit
  obtain ⟨ol, hol, _, nl, hdl⟩ := hl
  unfold Builtin.SmallTypes.nextOf
  refine wpAny_bind (wpAny_callSpecial?_slot (name := Str.ofString "__next__") hit.typeIs F.slot_tuple_iterator_next
    (wpAny_call_entry F.slot_tuple_iterator_next hit.typeIs F.entry_tuple_iterator_next ?_ (F.args_tuple_iterator_next_1 _)))
  show wpAny _ _ (field (.ref it) 0 >>= _) _ _ s
  refine wpAny_bind (wpAny_field ho hd (x := .ref l) rfl ?_)
  show wpAny _ _ (if (Value.ref l == Value.none) = true then _ else _) _ _ s
  rw [if_neg (show ¬ ((Value.ref l == Value.none) = true) from Bool.false_ne_true)]
  show wpAny _ _ (field (.ref it) 1 >>= _) _ _ s
  refine wpAny_bind (wpAny_field ho hd (x := .int i 0) rfl ?_)
  show wpAny _ _ (seqItems? (.ref l) >>= _) _ _ s
  refine wpAny_bind (wpAny_seqItems hol hdl ?_)
  simp only [Int.toNat_natCast, hx]
  refine wpAny_bind (wpAny_rule (wpAny_bind (wpAny_setField ho hd (by simp) ?_)))
  show wpAny _ _ (newExc (.type "StopIteration") [] >>= _) _ _ _
  refine wpAny_bind ?_
  simp only [newExc, newTuple]
  refine wpAny_bind (wpAny_newObj_type ?_ (by size_fits))
  refine wpAny_bind (m := firstArgMember _ _) (wpAny_of_eq (a := Value.none) (by first | rfl | (simp only [firstArgMember]; rfl)) ?_)
  refine wpAny_newObj_type ?_ (by size_fits)
  simp only [raiseNew]
  refine wpAny_bind (wpAny_handled ?_)
  first | rw [show A.in1.handled = none from hh] | rw [hh]
  refine wpAny_bind (wpAny_pure (wpAny_throw ?_))
  exact hE _ _ (((Heap.SameBut.update ..).extBut.push _).push _) ⟨_, Heap.get?_push_size _ rfl, rfl⟩
end
theorem Draws.tuple {prog : Program} {w : World} {A : Around} (hh : A.handled = none) (it l : Addr) (hne : l ≠ it) (items : Array Value) :
    Draws prog w A it [it, l] items.size (fun i v => items[i]? = some v) (fun i h => h.IsTupleIter it l i ∧ h.IsTuple l items) where
  live := fun _ _ st => let ⟨o, ho, _⟩ := st.1; ⟨o, ho⟩
  frame := fun _ _ _ st hk => ⟨st.1.at fun o e => hk it (by simp) o e, st.2.at fun o e => hk l (by simp) o e⟩
  item := fun i s Q E hi st hQ => by
    refine nextOf_tup_item st.1 st.2 (x := items[i]) (by simp [hi]) fun h' hit' hs' => ?_
    exact hQ _ h' s.toks (by simp [hi]) ⟨hit', st.2.extBut hs'.extBut hne⟩ hs'
  done := fun s Q E st hE => nextOf_tup_end hh st.1 st.2 (by simp) hE
section
variable {prog : Program} {w : World} {A : Around} {E : Value → Shared → Prop} {s : Shared}
end
def Ite (sq : Hp → List V → Prop) : It := ⟨fun i H => ∃ xs x, sq H xs ∧ xs[i]? = some x, fun i H x H' => ∃ T v, H T = none ∧ x = .ref T ∧ H' = upd H T (.tup [.int i, v]) ∧ ∀ xs, sq H xs → xs[i]? = some v, fun i H => ∃ xs, sq H xs ∧ xs.length ≤ i⟩
section
variable {X : Cx} {elts : List Expr} {kk : Nat} {tpos : Pos}
def iEnumL (K : PySem.W.Frag) (ta : TA) : TI := fun σ H R => ta σ H fun vs H1 => ∃ a, vs = [.ref a] ∧ (∃ xs, SqL K H1 a xs) ∧ R (Ite fun H xs => SqL K H a xs) H1
def iEnumT (K : PySem.W.Frag) (ta : TA) : TI := fun σ H R => ta σ H fun vs H1 => ∃ a, vs = [.ref a] ∧ (∃ xs, SqT K H1 a xs) ∧ R (Ite fun H xs => SqT K H a xs) H1
end
end L2

set_option Elab.async false
set_option linter.all false
set_option maxRecDepth 100000
set_option maxHeartbeats 1000000
namespace HT
open PySem PySem.Spec PyProof.Rows
section
variable {prog : Program} {w : World} {A : Around} {E : Value → Shared → Prop} {s : Shared}
theorem getItem_tuple_all {t sl : Addr} {items : Array Value} {vl vu : Value} {lo hi : Option Int} {Q : Value → Shared → Prop} (ht : IsTup s.heap t items) (hs : s.heap.IsSliceOf sl vl vu .none) (pl : IsPart vl lo) (pu : IsPart vu hi)
    (hw : sIx items.size 0 lo = 0 ∧ sIx items.size items.size hi = items.size) (h : Q (.ref t) s) : wpAny (model prog w) A (getItem (.ref t) (.ref sl)) Q E s := by
  obtain ⟨os, hos, hcs, hds⟩ := id hs
  have hTs : s.TypeIs (.ref sl) "slice" := ⟨os, hos, hcs⟩
  unfold getItem
  try with_reducible refine wpAny_holding ?_
  first | refine wpAny_bind (wpAny_pure ?_) | skip
  refine wpAny_bind (wpAny_sequenceKey ht.typeIs (by decide) ?_)
  refine wpAny_bind (wpAny_callSpecial?_slot (name := Str.ofString "__getitem__") ht.typeIs PyProof.Rows.slot_tuple_getitem
    (wpAny_call_entry PyProof.Rows.slot_tuple_getitem ht.typeIs entry_tuple_getitem ?_ (args_tuple_getitem _ _)))
  show wpAny _ _ (Builtin.Tuple.tupleItemsOf (.ref t) >>= _) _ _ s
  refine wpAny_bind (tupleItemsOf_ ht ?_)
  refine wpAny_bind (wpAny_typeOf hTs ?_)
  rw [if_pos (by decide)]
  refine wpAny_bind (sliceApplied_gen hs pl pu ?_)
  have hno : ((((sIx items.size 0 lo : Nat) : Int) == 0 && (1 : Int) == 1 && (sIx items.size items.size hi - sIx items.size 0 lo) == items.size) = true) := by
    rw [hw.1, hw.2]
    simp
  show wpAny _ _ (if (((sIx items.size 0 lo : Nat) : Int) == 0 && (1 : Int) == 1 && (sIx items.size items.size hi - sIx items.size 0 lo) == items.size) = true then _ else _) _ _ s
  rw [if_pos hno]
  show wpAny _ _ (Builtin.Tuple.tupleIsExact (.ref t) >>= _) _ _ s
  refine wpAny_bind (m := Builtin.Tuple.tupleIsExact _) (show wpAny _ _ (typeOf (.ref t) >>= _) _ _ s from wpAny_bind (wpAny_typeOf ht.typeIs (wpAny_pure ?_)))
  rw [if_pos (by decide)]
  exact wpAny_bind (wpAny_rule (wpAny_pure ⟨_, rfl, wpAny_pure h⟩))
end
end HT
namespace L2
open PySem PySem.Spec PyProof.Rows
section
variable {X : Cx}
def rSlTA (K : PySem.W.Frag) : V → Option Int → Option Int → Hp → VK → Prop := fun x lo hi H Q => ∃ a xs, x = .ref a ∧ SqT K H a xs ∧ (cutV xs lo hi = xs → Q (.ref a) H) ∧ ∀ p, H p = none → Q (.ref p) (upd H p (.tup (cutV xs lo hi)))
theorem sl_tupA : SlR X (rSlTA X.K) := by
  intro pins s σ H x v vl vu lo hi sl Q I rx hs pl pu h
  obtain ⟨a, xs, rfl, hx, q1, q2⟩ := h
  by_cases hw : HT.sIx xs.length 0 lo = 0 ∧ HT.sIx xs.length xs.length hi = xs.length
  · cases rx
    obtain ⟨its, r, ht, hz⟩ := I.tuple hx
    have hlen : its.toArray.size = xs.length := by rw [List.size_toArray]; exact r.length.symm
    refine ⟨"tuple", _, PyProof.Rows.slot_tuple_getitem.lookup, ht.typeIs, ?_⟩
    refine HT.getItem_tuple_all ht hs pl pu (by rw [hlen]; exact hw) ⟨.ref a, H, I, rfl, q1 ?_⟩
    unfold cutV
    rw [hw.1, hw.2, List.drop_zero, Nat.sub_zero, List.take_of_length_le (Nat.le_refl _)]
  · exact sl_tup pins s σ H _ v vl vu lo hi sl Q I rx hs pl pu ⟨a, xs, rfl, hx, hw, q2⟩
end
theorem cut_to {xs : List V} {n : Nat} : cutV xs none (some (n : Int)) = xs.take n := by
  unfold cutV
  rw [HT.sIx_nat, HT.sIx_none, List.drop_zero, Nat.sub_zero]
  by_cases h : n ≤ xs.length
  · rw [Nat.min_eq_left h]
  · rw [Nat.min_eq_right (by omega), List.take_of_length_le (Nat.le_refl _), List.take_of_length_le (by omega)]
end L2

set_option Elab.async false
set_option linter.all false
set_option maxRecDepth 100000
set_option maxHeartbeats 1000000
namespace L2
open PySem PySem.Spec PyProof.Rows
open PySem.Builtin PySem.Builtin.ObjectAttr PySem.Builtin.Getset_descriptor
open PySem.W (Frag Looks looks_findIn looks_specialIn looks_takesIn looks_mroIn looks_subIn looks_typeIn)

def ExcAt (x D : Addr) (h : Heap) : Prop := ∃ o vs, h.get? x = some o ∧ o.cls = .ref D ∧ o.data = .fields vs
structure XCls (K : Frag) (D : Addr) : Prop where
  ga : PySem.W.findIn K (.ref D) "__getattribute__" = some (some (.builtin "BaseException.__getattribute__"))
  gt : PySem.W.findIn K (.ref D) "__getattr__" = some none
  ca : PySem.W.findIn K (.ref D) "__class__" = some (some (.builtin "object.__class__"))
  cn : PySem.W.specialIn K (.builtin "object.__class__") "__get__" = some (some (.builtin "getset_descriptor.__get__"))
  tk : PySem.W.takesIn K (.builtin "object.__class__") = some true
  mo : PySem.W.mroIn K D (.type "object") = some true
  mb : PySem.W.mroIn K D (.type "BaseException") = some true
  is : (PySem.W.clsIn K D).isSome = true
section
variable {prog : Program} {w : World} {A : Around} {E : Value → Shared → Prop} {s : Shared} {K : Frag} {x D : Addr}
theorem ExcAt.type {M : Model} {h : Heap} (I : ExcAt x D h) : Looks M h (typeOf (.ref x)) (.ref D) := by
  obtain ⟨o, vs, e, c, _⟩ := I
  exact c ▸ (Looks.ld e).andThen .now
theorem xcls_get {R : Result → Shared → Prop} {tp : Value} (X : K.In s.heap) (I : ExcAt x D s.heap) (hm : PySem.W.mroIn K D (.type "object") = some true)
    (h : R (.ok (.ret (.ref D))) s) : codeAny (model prog w) A (.call (.builtin "getset_descriptor.__get__") ⟨[.builtin "object.__class__", .ref x, tp], []⟩) R s := by
  obtain ⟨hh, g, dr, t, os⟩ := s
  have L0 := I.type (M := model prog w)
  have L1 := looks_mroIn (M := model prog w) X hm
  refine codeAny_call_builtin PySem.W.KF.slot_gs.plain PySem.W.KF.entry_gs (PySem.W.KF.slot_gs.check _ _ _ _ _ _ _ _ PySem.W.KF.type_class (PySem.W.KF.args_gs _ _ _) ?_)
  unfold Builtin.«getset_descriptor.__get__» descrGet
  rw [PySem.W.dga_obj]
  refine wpAny_bind (wpAny_pure ?_)
  unfold descrGetter descrCheckInstance descrNameAndClass isInstance
  simp only [PySem.W.KF.owner_class]
  repeat lk
  refine ⟨Code.quiet_builtin _ (by decide +kernel), codeAny_builtin PySem.W.KF.entry_class ?_⟩
  unfold Builtin.«object.__class__» shownTypeOf
  repeat lk
  exact h
theorem xcls_find {M : Model} {h : Heap} (X : K.In h) (c : XCls K D) : Looks M h (find (.ref x) (.ref D) "__class__") (.bind (.builtin "getset_descriptor.__get__") (.builtin "object.__class__")) := by
  have L1 := looks_findIn (M := M) X c.ca
  have L2 : Looks M h (getOf (some (.builtin "object.__class__"))) (some (.builtin "getset_descriptor.__get__")) := looks_specialIn X c.cn
  have L3 := looks_takesIn (M := M) X c.tk
  have L4 : Looks M h (dataDescriptor? (some (.builtin "object.__class__")) (some (.builtin "getset_descriptor.__get__"))) (some (.builtin "getset_descriptor.__get__", .builtin "object.__class__")) := L3.andThen .now
  unfold find
  exact L1.andThen (L2.andThen (L4.andThen (Looks.tag .now)))
theorem xcls_entry {tk : Tok} {Q : Fin → Shared → Prop} (X : K.In s.heap) (c : XCls K D) (I : ExcAt x D s.heap) (hq : Q (.done (.ret (.ref D))) s) :
    wpAny (model prog w) A (Builtin.«object.__getattribute__» ⟨[.ref x, .str "__class__" tk], []⟩) Q E s := by
  obtain ⟨hh, g, dr, t, os⟩ := s
  have L0 := I.type (M := model prog w)
  have L1 := xcls_find (M := model prog w) (x := x) X c
  unfold Builtin.«object.__getattribute__»
  refine wpAny_bind (wpAny_pure (wpAny_bind (wpAny_pure (wpAny_bind (L0.at (wpAny_bind (L1.at ?_)))))))
  show wpAny _ _ (holding [.builtin "object.__class__"] (call (.builtin "getset_descriptor.__get__") [.builtin "object.__class__", .ref x, .ref D]) >>= ret) _ _ _
  exact wpAny_bind (wpAny_holding (wpAny_call (xcls_get X I c.mo (wpAny_pure hq))))
theorem xcls_check {M : Model} {nameV : Value} {Q : Unit → Shared → Prop} (X : K.In s.heap) (c : XCls K D) (I : ExcAt x D s.heap) (hq : Q () s) : wpAny M A (checkBuiltinCall "BaseException.__getattribute__" ⟨[.ref x, nameV], []⟩) Q E s := by
  obtain ⟨hh, g, dr, t, os⟩ := s
  have hk : builtinKind "BaseException.__getattribute__" = some .slot := by decide +kernel
  have hsplit : splitId "BaseException.__getattribute__" = some ("BaseException", "__getattribute__") := by decide +kernel
  have ha := F.args_bexc_ga (.ref x) nameV
  have L0 := I.type (M := M)
  have L1 := looks_mroIn (M := M) X c.mb
  have L2 : Looks M hh (isInstance (.ref x) (.type "BaseException")) true := L0.andThen L1
  simp only [checkBuiltinCall, hk, hsplit]
  refine wpAny_bind (L2.at ?_)
  repeat (first | wp_step)
  exact hq
theorem xcls_attr {Q : Option Value → Shared → Prop} (X : K.In s.heap) (c : XCls K D) (I : ExcAt x D s.heap) (hq : Q (some (.ref D)) { s with toks := s.toks + 1 }) : wpAny (model prog w) A (getAttr? (.ref x) "__class__") Q E s := by
  obtain ⟨hh, g, dr, t, os⟩ := s
  have L0 := I.type (M := model prog w)
  have L1 := looks_findIn (M := model prog w) X c.ga
  have L2 := looks_findIn (M := model prog w) X c.gt
  have hb := F.excAttr_ValueError.ga.bind (.ref x)
  unfold getAttr? getAttrBy? getAttrBy
  refine wpAny_bind (wpAny_mkText (wpAny_bind (wpAny_attempt (wpAny_holding (wpAny_bind (L0.at (wpAny_bind (L1.at ?_))))))))
  show wpAny _ _ (getAttrByItsOwn _ _ _ _ _ _) _ _ _
  unfold getAttrByItsOwn
  refine wpAny_bind (show wpAny _ _ (typeLookup (.ref D) "__getattr__") _ _ _ from L2.at ?_)
  refine wpAny_bind (wpAny_attempt (wpAny_holding ?_))
  show wpAny _ _ (boundAndCalled _ _ _) _ _ _
  unfold boundAndCalled
  rw [hb]
  refine wpAny_bind (wpAny_pure (wpAny_call ?_))
  refine codeAny_call_builtin F.excAttr_ValueError.ga.plain F.entry_bexc_ga (xcls_check X c I (xcls_entry X c I ?_))
  show wpAny _ _ (handedOut (.ref D)) _ _ _
  exact PySem.W.handed_on rfl (wpAny_pure hq)
theorem kitx_exc (c : XCls K D) : PySem.W.KitX K (.ref x) (.ref D) (ExcAt x D) where
  ty := fun _ _ _ I => I.type
  it := fun _ _ X _ => by
    obtain ⟨cdD, hcD⟩ := Option.isSome_iff_exists.mp c.is
    unfold PySem.W.clsIn at hcD
    split at hcD
    · rename_i c' d' cd' sl' ho
      intro A' Q' E' s' k q
      unfold isType loadHead
      exact wpAny_bind (wpAny_loadPart (k _ _ (X _ _ ho)) (wpAny_pure q))
    · cases hcD
  ne := fun h tp dd its n sl X htp => by
    obtain ⟨cdD, hcD⟩ := Option.isSome_iff_exists.mp c.is
    refine Bool.eq_false_iff.mpr fun q => ?_
    have e : D = tp := Value.ref.inj (beq_iff_eq.mp q)
    subst e
    unfold PySem.W.clsIn at hcD
    split at hcD
    · rename_i c' d' cd' sl' ho
      have z := (X _ _ ho).symm.trans htp
      cases z
    · cases hcD
  ca := fun X I k => xcls_attr X c I k
theorem xcls_matches {M : Model} {C : Addr} {b : Bool} {Q : Bool → Shared → Prop} (X : K.In s.heap) (I : ExcAt x D s.heap) (hc : PySem.W.clsIn K C ≠ none) (ht : PySem.W.typeIn K (.ref C) = some (.type "type")) (hb : PySem.W.mroIn K C (.type "BaseException") = some true)
    (hs : PySem.W.subIn K (.ref D) (.ref C) = some b) (hq : Q b s) : wpAny M A (excMatches (.ref x) (.ref C)) Q E s := by
  obtain ⟨hh, g, dr, t, os⟩ := s
  have L0 := I.type (M := M)
  have L1 := looks_typeIn (M := M) X ht
  have L2 : Looks M hh (isSubtype (.type "type") (.type "tuple")) false := Looks.of_pure (by rw [isSubtype_type]; kernel_rfl)
  have L3 : Looks M hh (isInstance (.ref C) (.type "tuple")) false := L1.andThen L2
  have L4 := looks_mroIn (M := M) X hb
  have L5 := looks_subIn (M := M) X hs
  have L6 : Looks M hh (isType (.ref C)) true := by
    obtain ⟨cdD, hcD⟩ := Option.ne_none_iff_exists'.mp hc
    unfold PySem.W.clsIn at hcD
    split at hcD
    · rename_i c' d' cd' sl' ho
      intro A' Q' E' s' k q
      unfold isType loadHead
      exact wpAny_bind (wpAny_loadPart (k _ _ (X _ _ ho)) (wpAny_pure q))
    · cases hcD
  have L7 : Looks M hh (isExcClass (.ref C)) true := L6.andThen L4
  unfold excMatches
  refine wpAny_bind (L3.at ?_)
  rw [if_neg Bool.false_ne_true]
  refine wpAny_bind (wpAny_pure ?_)
  simp only [List.forIn_cons, List.forIn_nil]
  refine wpAny_bind (wpAny_bind (wpAny_bind (L7.at ?_)))
  rw [if_neg (by decide)]
  refine wpAny_pure (wpAny_pure (wpAny_bind (L0.at (wpAny_bind (wpAny_bind (wpAny_bind (L5.at ?_)))))))
  cases b with
  | true => exact wpAny_pure (wpAny_pure (wpAny_pure hq))
  | false => exact wpAny_pure (wpAny_pure (wpAny_pure hq))
end
end L2

set_option Elab.async false
set_option linter.all false
set_option maxRecDepth 100000
set_option maxHeartbeats 1000000
namespace L2
open PySem PySem.Spec PyProof.Rows
theorem ObjOk.here {P : Program} {w : World} {H : Hp} {h : Heap} {a : Addr} {o : HO} (x : ObjOk P w H h a o) : ∃ ob, h.get? a = some ob := by
  cases o with
  | lst xs => obtain ⟨_, _, _, _, e⟩ := x; exact ⟨_, e⟩
  | tup xs => obtain ⟨_, _, _, _, ob, e, _⟩ := x; exact ⟨_, e⟩
  | dK kvs => obtain ⟨_, _, _, _, o, _, _, e, _⟩ := x; exact ⟨_, e⟩
  | dT kvs => obtain ⟨_, _, _, _, o, _, _, e, _⟩ := x; exact ⟨_, e⟩
  | set S n => obtain ⟨o, _, _, _, e, _⟩ := x; exact ⟨_, e⟩
  | ins C dx fs => obtain ⟨_, _, _, e, _⟩ := x; exact ⟨_, e⟩
  | own y => exact x
  | xd fs => obtain ⟨_, ⟨_, _, _, e, _⟩, _⟩ := x; exact ⟨_, e⟩
  | rng lo hi => obtain ⟨_, _, _, e⟩ := x; exact ⟨_, e⟩
  | frz ob u => obtain ⟨e, _⟩ := x; exact ⟨_, e⟩
  | tbl ps => exact ⟨_, (show h.get? a = some _ from x)⟩
  | met f y => exact ⟨_, (show h.get? a = some _ from x)⟩
  | ext φ => obtain ⟨_, e, _⟩ := x; exact e
structure Fly (P : Program) (w : World) (outer : List Env) (H : Hp) (s : Shared) (B : Heap) (H' : Hp) (a C : Addr) (a0 : Value) (s' : Shared) : Prop where
  os : s'.os = s.os
  bare : AllBare s'.gens
  un : Un (frs outer) [] H H' s.heap s'.heap
  hok : HOk P w H' s'.heap
  fly : Heap.FlyingW B outer a (.ref C) a0 s'.heap
  old : ∀ b o, s'.heap.get? b = some o → (∃ o', s.heap.get? b = some o') → b ∉ frs outer → B.get? b = some o
  trk : ∀ b u o, H' b = some u → s'.heap.get? b = some o → B.get? b = some o
  new : H' a = none
  fresh : s.heap.get? a = none
def CXE (P : Program) (w : World) : CXT := fun outer H s E e s' => ∃ a C H' B a0, e = .ref a ∧ Fly P w outer H s B H' a C a0 s' ∧ E (.ref C) none H'
section
variable {P : Program} {w : World} {outer : List Env} {H H' : Hp} {s s' : Shared} {B : Heap} {a C : Addr} {a0 : Value} {h6 : Heap}
theorem Fly.excAt (F : Fly P w outer H s B H' a C a0 s') : ExcAt a C s'.heap := by
  obtain ⟨_, _, _, oe, vs, _, _, _, he, hc, hd, _⟩ := F.fly
  exact ⟨oe, vs, he, hc.1, hd⟩
theorem Fly.on (F : Fly P w outer H s B H' a C a0 s') (fl : Heap.FlyingW B outer a (.ref C) a0 h6) (up : s'.heap.UpToSlots h6) : Fly P w outer H s B H' a C a0 { s' with heap := h6 } := by
  have st := fl.1
  have fr : ∀ b ∈ frs outer, ∀ o, s'.heap.get? b = some o → ∃ sl, h6.get? b = some { o with slots := sl } := fun b hb o e => by
    obtain ⟨_, o', e', hd⟩ := F.fly.2.2.1.mem hb
    rw [e] at e'
    cases e'
    exact up b o e hd
  have inB : ∀ b o, s'.heap.get? b = some o → (∃ o', s.heap.get? b = some o') → b ∉ frs outer → h6.get? b = some o := fun b o e x hb => st b o (F.old b o e x hb)
  refine ⟨F.os, F.bare, ⟨fun b o e n hb hx => ?_, fun b o e n hb hx => ?_, F.un.free, fun b o e hx => ?_, F.un.tups, F.un.frzs, F.un.tbls⟩, fun b u e => ?_, fl, fun b o e x hb => ?_, fun b u o e q => ?_, F.new, F.fresh⟩
  · exact inB b o (F.un.keep b o e n hb hx) ⟨o, e⟩ hb
  · obtain ⟨sl, e1⟩ := F.un.slot b o e n hb hx
    obtain ⟨sl', e2⟩ := fr b hb _ e1
    exact ⟨sl', e2⟩
  · obtain ⟨o', e1⟩ := F.un.there b o e hx
    by_cases hb : b ∈ frs outer
    · obtain ⟨sl, e2⟩ := fr b hb _ e1
      exact ⟨_, e2⟩
    · exact ⟨o', inB b o' e1 ⟨o, e⟩ hb⟩
  · refine (F.hok b u e).stay (fun c v hc q => ?_) (fun _ q => q) fun _ _ q => q
    have tc : ∃ u', H' c = some u' := by
      rcases hc with rfl | hc
      · exact ⟨u, e⟩
      · exact ⟨_, hc⟩
    obtain ⟨u', eu⟩ := tc
    exact st c v (F.trk c u' v eu q)
  · obtain ⟨o', ho'⟩ := x
    obtain ⟨o1, e1⟩ := F.un.there b o' ho' (by simp)
    have z := F.old b o1 e1 ⟨o', ho'⟩ hb
    have z2 : h6.get? b = some o1 := st b o1 z
    rw [show h6.get? b = some o from e] at z2
    cases z2
    exact z
  · obtain ⟨o1, e1⟩ := (F.hok b u e).here
    have z := F.trk b u o1 e e1
    have z2 : h6.get? b = some o1 := st b o1 z
    rw [show h6.get? b = some o from q] at z2
    cases z2
    exact z
end
theorem frs_cons {env : Env} {outer : List Env} {L : Addr} (h : env.frame = some L) : frs (env :: outer) = L :: frs outer := by
  unfold frs
  rw [List.filterMap_cons, h]
section
variable {X : Cx} {pins : List (Addr × Obj)} {σ : St} {H H' : Hp} {s s' : Shared} {B : Heap} {a C : Addr} {a0 : Value}
theorem Inv.caught (I : Inv X pins σ H s) (F : Fly X.prog X.w X.stack H s B H' a C a0 s') : Inv X pins σ H' s' := by
  obtain ⟨hh, g, d, t, os'⟩ := s'
  obtain rfl : os' = s.os := F.os
  exact I.call (h' := hh) (g' := g) (d' := d) (t' := t) (ch := []) F.un F.hok F.bare (fun b z => absurd z (by simp))
theorem Inv.flies (I : Inv X pins σ H s) (hx : X.ex = []) (hs : X.stack = X.env :: X.outer) (hf : X.env.frame = some X.env.locals) (F : Fly X.prog X.w X.stack H s B H' a C a0 s') (fl : Heap.FlyingW B X.outer a (.ref C) a0 s'.heap) :
    Fly X.prog X.w X.outer X.H₀ X.s₀ B H' a C a0 s' := by
  have u := F.un
  have ol := F.old
  rw [hs, frs_cons hf] at u ol
  have nex : ∀ b : Addr, b ∉ X.ex := fun b => by rw [hx]; simp
  have neL : ∀ b o, X.s₀.heap.get? b = some o → b ≠ X.env.locals := fun b o e => Nat.ne_of_lt (Nat.lt_of_lt_of_le (Heap.lt_size e) I.ok.above)
  refine ⟨F.os.trans I.os, F.bare, ⟨fun b o e n hb _ => ?_, fun b o e n hb _ => ?_, fun b o e n _ => ?_, fun b o e _ => ?_, fun b xs e => u.tups b xs (I.base.tups b xs e), fun b o v e => u.frzs b o v (I.base.frzs b o v e), fun b ps e => ?_⟩, F.hok, fl, fun b o e x hb => ?_, F.trk, F.new, ?_⟩
  · exact u.keep b o (I.base.keep b o e n hb (nex b)) (I.base.free b o e n (nex b)) (by simp [neL b o e]; exact hb) (by simp)
  · obtain ⟨sl, e1⟩ := I.base.slot b o e n hb (nex b)
    obtain ⟨sl', e2⟩ := u.slot b _ e1 (I.base.free b o e n (nex b)) (List.mem_cons_of_mem _ hb) (by simp)
    exact ⟨sl', e2⟩
  · obtain ⟨o', e1⟩ := I.base.there b o e (nex b)
    exact u.free b o' e1 (I.base.free b o e n (nex b)) (by simp)
  · obtain ⟨o', e1⟩ := I.base.there b o e (nex b)
    exact u.there b o' e1 (by simp)
  · obtain ⟨m1, e1⟩ := I.base.tbls b ps e
    obtain ⟨m2, e2⟩ := u.tbls b _ e1
    exact ⟨m1 ++ m2, by rw [e2, Array.append_assoc]⟩
  · obtain ⟨o', ho'⟩ := x
    obtain ⟨o1, e1⟩ := I.base.there b o' ho' (nex b)
    exact ol b o e ⟨o1, e1⟩ (by simp [neL b o' ho']; exact hb)
  · cases q : X.s₀.heap.get? a with
    | none => rfl
    | some o =>
      obtain ⟨o', e⟩ := I.base.there a o q (nex a)
      rw [F.fresh] at e
      cases e
theorem Inv.made' {h' : Heap} {args : List Value} (I : Inv X pins σ H s) (hs : X.stack = X.env :: X.outer) (hf : X.env.frame = some X.env.locals) (hm : Heap.MadeExcOf s.heap h' a (.ref C) args) {Q : Unit → Shared → Prop} {E : Value → Shared → Prop}
    (k : ∀ B a0 s', Fly X.prog X.w X.stack H s B H a C a0 s' → Heap.FlyingW B X.outer a (.ref C) a0 s'.heap → Q () s') {M : Model} : wpAny M X.A (leaving X.env (.ref a)) Q E { s with heap := h' } := by
  have fr := I.stack
  rw [hs] at fr
  have hfr := I.ok.frames
  rw [hs] at hfr
  have hin : ∀ env ∈ (X.env :: X.outer), ∀ b, env.frame = some b → b ∈ frs (X.env :: X.outer) := fun env he b hb => List.mem_filterMap.mpr ⟨env, he, hb⟩
  refine wpAny_leaves_madeW (base := PySem.W.hideAll s.heap (frs (X.env :: X.outer))) hfr hf (fun b o q => PySem.W.of_hideAll _ q) (PySem.W.funFrames_hide fr hin) hm fun h'' t x1 x2 x3 x4 => ?_
  have ha : H a = none := by
    cases q : H a with
    | none => rfl
    | some u =>
      obtain ⟨o, e⟩ := (I.hok a u q).here
      rw [hm.new] at e
      cases e
  have st := x1.1
  have hd : ∀ b o, s.heap.get? b = some o → b ∉ frs (X.env :: X.outer) → (PySem.W.hideAll s.heap (frs (X.env :: X.outer))).get? b = some o := fun b o e n => PySem.W.hideAll_get _ e n
  have frm : ∀ b ∈ frs (X.env :: X.outer), ∀ o, s.heap.get? b = some o → ∃ sl, h''.get? b = some { o with slots := sl } := fun b hb o e => by
    obtain ⟨_, o', e', hdt⟩ := fr.mem hb
    rw [e] at e'
    cases e'
    exact x4 b o (hm.keeps b o e) hdt
  have nt : ∀ b u, H b = some u → b ∉ frs (X.env :: X.outer) := fun b u e hb => by
    have z := I.stkFree b (by rw [hs]; exact hb)
    rw [e] at z
    cases z
  refine k (PySem.W.hideAll s.heap (frs (X.env :: X.outer))) (.ref t) { s with heap := h'' } ?_ x1
  rw [hs]
  refine ⟨rfl, I.bare, ⟨fun b o e n hb _ => st b o (hd b o e hb), fun b o e n hb _ => frm b hb o e, fun _ _ _ n _ => n, fun b o e _ => ?_, fun _ _ e => e, fun _ _ _ e => e, fun b ps e => ⟨#[], by rw [e]; simp⟩⟩, fun b u e => ?_, ?_, fun b o e x hb => ?_, fun b u o e q => ?_, ha, hm.new⟩
  · by_cases hb : b ∈ frs (X.env :: X.outer)
    · obtain ⟨sl, q⟩ := frm b hb o e
      exact ⟨_, q⟩
    · exact ⟨o, st b o (hd b o e hb)⟩
  · refine (I.hok b u e).stay (fun c v hc q => ?_) (fun _ q => q) fun _ _ q => q
    refine st c v (hd c v q ?_)
    rcases hc with rfl | hc
    · exact nt _ _ e
    · exact nt _ _ hc
  · obtain ⟨k1, k2, k3, k4⟩ := x1
    refine ⟨k1, k2, ?_, k4⟩
    have ff : h''.FunFrames (PySem.W.hideAll s.heap (frs (X.env :: X.outer))) (X.env :: X.outer) := by
      have f0 := PySem.W.funFrames_hide fr hin
      refine f0.of_keeps fun b o e hdt => ?_
      by_cases hb : b ∈ frs (X.env :: X.outer)
      · obtain ⟨sl, q⟩ := frm b hb o e
        exact ⟨_, q, rfl⟩
      · exact ⟨o, st b o (hd b o e hb), rfl⟩
    exact ff
  · obtain ⟨o', e'⟩ := x
    have z := hd b o' e' hb
    have z2 : h''.get? b = some o' := st b o' z
    rw [show h''.get? b = some o from e] at z2
    cases z2
    exact z
  · obtain ⟨o1, e1⟩ := (I.hok b u e).here
    have z := hd b o1 e1 (nt b u e)
    have z2 : h''.get? b = some o1 := st b o1 z
    rw [show h''.get? b = some o from q] at z2
    cases z2
    exact z
end
def Throws (X : Cx) (E : XK) : Prop := ∀ (pins : List (Addr × Obj)) (σ : St) (H : Hp) (s : Shared) (h' : Heap) (a C : Addr) (args : List Value), Inv X pins σ H s → Heap.MadeExcOf s.heap h' a (.ref C) args → E (.ref C) none H → X.xe (.ref a) { s with heap := h' }
section
variable {P : Program} {w : World} {K : PySem.W.Frag} {mg : Str → Option Value} {base : Heap} {N : List Str} {qual : Str} {scope : Scope} {f : Addr} {cd : Value} {A : Around} {outer : List Env} {s : Shared} {H : Hp} {E : XK}
theorem throws_cx : Throws (cxOf (CXE P w) P w K mg base N qual scope f cd A outer s H E) E := by
  intro pins σ H1 s1 h' a C args I hm e
  exact I.made' rfl rfl hm fun B a0 s' F fl => ⟨a, C, H1, B, a0, rfl, I.flies rfl rfl rfl F fl, e⟩
theorem passE0 {X : Cx} : Passes (CXE X.prog X.w) X E0 := by
  rintro pins σ H1 s1 ev s' I ⟨a, C, H', B, a0, rfl, F, e⟩
  exact e.elim
end
theorem Fun.okX {P : Program} {w : World} {K : PySem.W.Frag} {mg : Str → Option Value} {base : Heap} {x qual : Str} {st : Stmt} {f : Addr} {fd : FuncData} {N ps : List Str} {k : Nat} {sp : Sp} (F : Fun K x qual st f fd) (S : FnScope N ps (defScope st)) (len : ∀ vs H Q E, sp vs H Q E → vs.length = ps.length)
    (hbody : ∀ (cdv : Value) (A : Around) (outer : List Env) (s : Shared) (H : Hp) (vs : List V) (Q : VK) (E : XK), Room k (A.deeper (envOfC qual (defScope st) s.heap.objs.size f cdv)) → sp vs H Q E →
      ∃ t, PSs (cxOf (CXE P w) P w K mg base N qual (defScope st) f cdv A outer s H E) (defBody st) t ∧ t { nx := fun _ H' => Q .non H', rt := Q } (start N vs) H) : FnOk P w K mg base (CXE P w) (k + 1) f fd ps sp := by
  obtain ⟨oc, od, kV, doc, pm, an, cdv, ct, osl, rfl, lk, hcd⟩ := F.ex
  exact fn_of lk hcd S len fun A outer s H vs Q E hr hsp => hbody cdv A outer s H vs Q E hr hsp
abbrev bmVE : List Value := [.type "ValueError", .type "Exception", .type "BaseException", .type "object"]
structure XRaise (K : PySem.W.Frag) (mg : Str → Option Value) (x : Str) (C : Addr) : Prop where
  at_ : mg x = some (.ref C)
  ex : PySem.W.excIn K C bmVE "ValueError.__new__" = true
theorem XRaise.own {K : PySem.W.Frag} {mg : Str → Option Value} {x : Str} {C : Addr} {h : Heap} (R : XRaise K mg x C) (X : K.In h) : OwnCls x C bmVE "ValueError.__new__" mg h := by
  refine ⟨R.at_, ?_⟩
  have q := R.ex
  unfold PySem.W.excIn at q
  split at q
  · rename_i dd cd sl ho
    split at q
    · rename_i C' bm k0 k1 k2 k3 n k5 hm hs
      simp only [Bool.and_eq_true, beq_iff_eq, Bool.not_eq_true'] at q
      obtain ⟨⟨⟨⟨⟨rfl, rfl⟩, hdel⟩, ht⟩, hok⟩, hni⟩ := q
      obtain ⟨nm, bs, mro, ns, qn, hd, sn, sub, ab, col, del⟩ := cd
      dsimp only at hm hdel hok hni
      subst hm hdel
      have hsl : sl = #[k0, k1, k2, k3, some (.builtin "ValueError.__new__"), k5] := by
        obtain ⟨l⟩ := sl
        simp only at hs
        rw [hs]
      subst hsl
      exact ⟨bm, ns, nm, qn, bs, hd, sn, sub, ab, col, dd, k0, k1, k2, k3, k5, _, X _ _ ho, .of_isNs (PySem.W.isNs_of_in X hok), PySem.W.nsMap_none_of_in X hok hni, PySem.W.tail_of_in X ht⟩
    · cases q
  · cases q
def tRaise (E : XK) (C : Addr) (t : TA) : TS := fun _ σ H => t σ H fun vs H1 => vs.length ≤ sizeLine ∧ E (.ref C) none H1
theorem ps_raise {X : Cx} {E : XK} {k : Nat} {x : Str} {C : Addr} {e₀ : Expr} {rest : List Expr} {np cpos pos : Pos} {t : TA} (T : Throws X E) (hr : Room k X.A) (hg : Gl X x) (R : XRaise X.K X.mg x C) (ha : PA X (e₀ :: rest) t)
    (he : starEach (e₀ :: rest) X.env = (false, eval e₀ X.env) :: starEach rest X.env := by rfl) (hpl : (backTo cpos (starEach rest X.env)).any (·.1) = false := by rfl) (hd : (x == ("__debug__" : Str)) = false := by decide) :
    PS X (.Raise (some (.Call (.Name x np) (e₀ :: rest) [] cpos)) none pos) (tRaise E C t) := by
  intro pins s σ H D I h
  obtain ⟨tl, N, nm, q, bs, hdct, sn, sub, ab, col, dd, k0, k1, k2, k3, k5, mN, hC, hN, hni, TL⟩ := (R.own I.mod.kin).obj
  refine wpAny_Raise_call_subT (C := C) (nm := nm) (q := q) (N := N) (bs := bs) (bm := tl) (hdct := hdct) (sn := sn) (sub := sub) (ab := ab) (col := col) (dd := dd) (k0 := k0) (k1 := k1) (k2 := k2) (k3 := k3) (k5 := k5)
    PySem.F.excBase_ValueError (mN := mN) (TL.hasType PySem.F.excBase_ValueError.hasBase) hr.hd (by rw [he]; show (false || (backTo cpos (starEach rest X.env)).any (·.1)) = false; rw [hpl]; rfl) hni (ld_glob I hg R.at_ ⟨rfl, ?_⟩ hd)
  have h0 := ha cpos pins s σ H _ I h
  rw [he] at h0 ⊢
  exact Calls.evalArgs_plain (wpAny_mono h0 (fun us s₂ ⟨vs, H1, I1, r, z, q⟩ => ⟨rfl, by rw [← r.length]; exact z, I1.bk _ _ hC, hN.keeps I1.bk, TL.keeps I1.bk, fun h' e hm => T pins σ H1 s₂ h' e C us I1 hm q⟩) fun _ _ y => y)

abbrev Cx.suite (X : Cx) (a : Addr) : Cx := { X with A := X.A.mark (some (.ref a)), calm := false }
theorem Cx.Ok.suite {X : Cx} (ok : X.Ok) (a : Addr) : (X.suite a).Ok :=
  ⟨ok.mod, ok.kind, ok.glob, ok.blt, ok.above, ok.inj, ok.has, ok.cab, (fun z => nomatch z), ok.frames, ok.stk, ok.exf, ok.bs, ok.bsz, ok.noex, ok.exfs, ok.funs, ok.frf⟩
section
variable {X : Cx} {pins : List (Addr × Obj)} {σ : St} {H : Hp} {s : Shared} {a : Addr}
theorem Inv.suite (I : Inv X pins σ H s) (a : Addr) : Inv (X.suite a) pins σ H s := ⟨I.ok.suite a, I.os, I.bare, I.base, I.loc, I.cell, I.free, I.freeC, I.pin, I.hok, I.len⟩
theorem Inv.unsuite (ok : X.Ok) (I : Inv (X.suite a) pins σ H s) : Inv X pins σ H s := ⟨ok, I.os, I.bare, I.base, I.loc, I.cell, I.free, I.freeC, I.pin, I.hok, I.len⟩
theorem Inv.blank {h' : Heap} {m' : Str → Option Value} {t' : Nat} (I : Inv X pins σ H s) (hn' : h'.Ns X.env.locals m') (hs : Heap.SameBut X.env.locals s.heap h') : Inv X pins (List.replicate X.N.length none) H { s with heap := h', toks := t' } := by
  obtain ⟨m, hn, _⟩ := I.loc
  obtain ⟨oL, _, _, hoL, _⟩ := id hn
  refine ⟨I.ok, I.os, I.bare, ⟨fun b o e n hb hx => ?_, fun b o e n hb hx => ?_, I.base.free, fun b o e hx => ?_, I.base.tups, I.base.frzs, I.base.tbls⟩, ⟨_, hn', fun j y v' e1 e2 e3 => ?_⟩, fun y c e => ?_, I.free, I.freeC, fun p hp => ?_, fun b ob e => ?_, by simp⟩
  · exact (hs.2 b (Nat.ne_of_lt (Nat.lt_of_lt_of_le (Heap.lt_size e) I.ok.above))).trans (I.base.keep b o e n hb hx)
  · obtain ⟨sl, e1⟩ := I.base.slot b o e n hb hx
    exact ⟨sl, (hs.2 b (Nat.ne_of_lt (Nat.lt_of_lt_of_le (Heap.lt_size e) I.ok.above))).trans e1⟩
  · obtain ⟨o', e1⟩ := I.base.there b o e hx
    exact ⟨o', (hs.2 b (Nat.ne_of_lt (Nat.lt_of_lt_of_le (Heap.lt_size e) I.ok.above))).trans e1⟩
  · rw [List.getElem?_replicate] at e2
    split at e2 <;> cases e2
  · obtain ⟨w', z⟩ := I.cell y c e
    exact ⟨w', z.sameBut hs (I.cne y c e)⟩
  · obtain ⟨e, n, ne, nf, d⟩ := I.pin p hp
    exact ⟨(hs.2 p.1 ne).trans e, n, ne, nf, d⟩
  · refine (I.hok b ob e).stay (fun c w' hc q => (hs.2 c ?_).trans q) (fun _ q => q) fun _ _ q => q
    rintro rfl
    rcases hc with rfl | hc
    · rw [I.free] at e; cases e
    · rw [I.free] at hc; cases hc
end
def excO (a D : Addr) : HO := .ext (ExcAt a D)
theorem excO_ok {P : Program} {w : World} {H : Hp} {h : Heap} {a D : Addr} (x : ExcAt a D h) : ObjOk P w H h a (excO a D) := by
  obtain ⟨o, vs, e, c, d⟩ := x
  exact ⟨⟨o, vs, e, c, d⟩, ⟨o, e⟩, fun h1 h2 ⟨o1, vs1, e1, c1, d1⟩ k => ⟨o1, vs1, k _ e1, c1, d1⟩⟩
theorem Inv.hold {X : Cx} {pins : List (Addr × Obj)} {σ : St} {H : Hp} {s : Shared} {a D : Addr} (I : Inv X pins σ H s) (x : ExcAt a D s.heap) (hn : H a = none) (hs : X.s₀.heap.get? a = none) (hL : a ≠ X.env.locals) (hc : ∀ x c, X.env.cells.lookup x = some c → c ≠ a) (hp : ∀ p ∈ X.pn ++ pins, p.1 ≠ a) :
    Inv X pins σ (upd H a (excO a D)) s := by
  have ne0 : ∀ b o, X.s₀.heap.get? b = some o → b ≠ a := fun b o e z => by rw [z, hs] at e; cases e
  refine ⟨I.ok, I.os, I.bare, ⟨I.base.keep, I.base.slot, fun b o e n hx => ?_, I.base.there, fun b xs e => ?_, fun b o u e => ?_, fun b ps e => ?_⟩, I.loc, I.cell, ?_, fun x c e => ?_, fun p hp' => ?_, fun b u e => ?_, I.len⟩
  · rw [upd_ne (ne0 b o e)]; exact I.base.free b o e n hx
  · rw [upd_ne (ne_of_none (I.base.tups b xs e) hn)]; exact I.base.tups b xs e
  · rw [upd_ne (ne_of_none (I.base.frzs b o u e) hn)]; exact I.base.frzs b o u e
  · obtain ⟨more, z⟩ := I.base.tbls b ps e
    exact ⟨more, by rw [upd_ne (ne_of_none z hn)]; exact z⟩
  · rw [upd_ne (Ne.symm hL)]; exact I.free
  · rw [upd_ne (hc x c e)]; exact I.freeC x c e
  · obtain ⟨e1, e2, e3⟩ := I.pin p hp'
    exact ⟨e1, by rw [upd_ne (hp p hp')]; exact e2, e3⟩
  · by_cases hb : b = a
    · subst hb
      rw [upd_same] at e
      cases e
      exact excO_ok x
    · rw [upd_ne hb] at e
      exact (I.hok b u e).stay (fun _ _ _ q => q) (fun c q => by rw [upd_ne (ne_of_none q hn)]; exact q) fun c xs q => by rw [upd_ne (ne_of_none q hn)]; exact q
structure XCatch (K : PySem.W.Frag) (mg : Str → Option Value) (x : Str) (C : Addr) : Prop where
  at_ : mg x = some (.ref C)
  is : PySem.W.clsIn K C ≠ none
  ty : PySem.W.typeIn K (.ref C) = some (.type "type")
  mb : PySem.W.mroIn K C (.type "BaseException") = some true
def tTry (sp : Sp) (t : TA) (i : Nat) (K : PySem.W.Frag) (C : Addr) (ts : TS) : TS := fun D σ H => t σ H fun vs H1 => sp vs H1 (fun _ H2 => D.nx σ H2) fun c _ H2 =>
  ∃ D', c = .ref D' ∧ PySem.W.subIn K (.ref D') (.ref C) = some true ∧ ∀ a, H2 a = none → ts { nx := fun _ _ => False, rt := D.rt } (σ.set i (some (.ref a))) (upd H2 a (excO a D'))
section
variable {X : Cx} {CX : CXT} {x y n : Str} {j k i : Nat} {ps : List Str} {sp : Sp} {p pos tpos hpos np epos : Pos} {e : Expr} {es : List Expr} {t : TA} {C : Addr} {b₀ : Stmt} {suite : List Stmt} {ts : TS}
theorem ps_try (hcalm : X.calm = true) (hxe : X.xe = fun _ _ => False) (hstk : X.stack = X.env :: X.outer) (hfr : X.env.frame = some X.env.locals)
    (F : Cal X.prog X.w X.K X.mg X.base (CXE X.prog X.w) x j ps sp) (hr : Room k X.A) (hg : Gl X x) (ha : PA X (e :: es) t) (hgy : Gl X y) (c : XCatch X.K X.mg y C) (hN : X.N.Nodup) (hi : X.N[i]? = some n) (hlo : X.env.scope.names.lookup n = some .local) (hex : X.ex = [])
    (hsu : ∀ a, PSs (X.suite a) (b₀ :: suite) ts) (hj : j ≤ k := by decide) (hdb : (x == ("__debug__" : Str)) = false := by decide) (hdy : (y == ("__debug__" : Str)) = false := by decide)
    (he : starEach (e :: es) X.env = (false, eval e X.env) :: starEach es X.env := by rfl) (hpl : (backTo pos (starEach es X.env)).any (·.1) = false := by rfl) (hsw : swapsWith (.Call (.Name x p) (e :: es) [] pos) none epos.line X.env = pure false := by rfl) :
    PS X (.Try [.Expr (.Call (.Name x p) (e :: es) [] pos) epos] [.ExceptHandler (some (.Name y np)) (some n) (b₀ :: suite) hpos] [] [] tpos) (tTry sp t i X.K C ts) := by
  intro pins s σ H D I h
  obtain ⟨f, fd, Fk, hb, kp, m⟩ := F.ex
  have hr' := hr.mono hj
  refine wpAny_Try_except (wpAny_execs_cons (wpAny_Expr_any ?_ I.quiet hsw))
  refine wpAny_Call_Name_kw (ld_glob I hg m ?_ hdb)
  refine PySem.W.callWith_K (h₀ := X.base) I.ok.mod.kin kp (wpAny_mono (ha pos pins s σ H _ I h) (fun us s1 ⟨vs, H1, I1, r, q⟩ => ⟨I1.kIn, ?_⟩) (fun _ _ z => by rw [hxe] at z; exact z.elim)) he hpl
  have hl : us.length = ps.length := by rw [← r.length]; exact Fk.len _ _ _ _ q
  have hb' := hb s1 us I1.kIn (by rw [List.append_nil]; exact hl)
  rw [List.append_nil] at hb'
  refine wpAny_call (codeAny_mono (Fk.run X.A X.stack s1 H1 ⟨us, []⟩ us vs _ _ hr' I1.env0 hb' r q) fun res s' hq => ?_)
  cases res with
  | ok fl =>
    cases fl with
    | ret u =>
      obtain ⟨v, H2, I2, rv, q2⟩ := I1.after hq
      exact wpAny_execs_nil (wpAny_execs_nil ⟨σ, H2, I2, q2⟩)
    | next => exact False.elim hq
    | brk => exact False.elim hq
    | cont => exact False.elim hq
  | error ev =>
    obtain ⟨a, D', H2, B, a0, rfl, Fl, ⟨D2, hD, hsub, q2⟩⟩ := hq
    cases hD
    have hfr2 : X.A.frames = some (X.env :: X.outer) := by rw [← hstk]; exact I.ok.frames
    have Fl1 := Fl
    rw [hstk] at Fl1
    refine wpAny_looks_onW hfr2 hfr Fl1.fly fun h4 held4 up4 => ?_
    refine wpAny_landsW held4 fun h5 fl5 up5 => ?_
    have F5 : Fly X.prog X.w X.stack H1 s1 B H2 a D' a0 { s' with heap := h5 } := by
      rw [hstk]
      exact Fl1.on fl5 (up4.trans up5)
    have I5 := I1.caught F5
    have hsa : s1.heap.get? a = none := Fl.fresh
    have hsa0 : X.s₀.heap.get? a = none := by
      cases q0 : X.s₀.heap.get? a with
      | none => rfl
      | some o0 =>
        obtain ⟨o', e'⟩ := I1.base.there a o0 q0 (by rw [hex]; simp)
        rw [hsa] at e'
        cases e'
    refine wpAny_handleBy_cons (codeAny_handlers_test (ld_glob (X := X.suite a) (I5.suite a) hgy c.at_ ?_ hdy)) (by intro z; cases z)
    refine xcls_matches I5.kIn F5.excAt c.is c.ty c.mb hsub ?_
    refine codeAny_handlers_suite_as ?_
    have fl5' := F5.fly
    refine lands_againW fl5' fun h6 fl6 up6 => ?_
    have F6 : Fly X.prog X.w X.stack H1 s1 B H2 a D' a0 { s' with heap := h6 } := F5.on fl6 up6
    have I6 := I1.caught F6
    have hne : ∀ b o, s1.heap.get? b = some o → b ≠ a := fun b o e z => by rw [z, hsa] at e; cases e
    obtain ⟨m1, ⟨oL, _, _, hoL, _⟩, _⟩ := id I1.loc
    have J6 := I6.hold F6.excAt F6.new hsa0 (hne _ _ hoL).symm (fun x c e => by
      obtain ⟨v, o, ho, _⟩ := I1.cell x c e
      exact hne _ _ ho) (fun p hp => hne _ _ (I1.pin p hp).1)
    refine store_ok J6 hN hi (.inl hlo) (v := .ref a) rfl (fun s7 I7 => ?_) (.inr hlo)
    refine wpAny_mono (hsu a pins s7 _ _ { nx := fun _ _ => False, rt := D.rt } (I7.suite a) (q2 a F6.new)) (fun fl s8 hq8 => ?_) (fun _ _ z => by
      have z' : X.xe _ _ := z
      rw [hxe] at z'
      exact z'.elim)
    cases fl with
    | ret u =>
      obtain ⟨v, σ8, H8, I8, r8, q8⟩ := hq8
      have I9 := I8.unsuite I.ok
      obtain ⟨m8, hn8, _⟩ := id I9.loc
      exact wpAny_nameGoes hlo hn8 (by rw [I.ok.kind]; rfl) fun h9 m9 hn9 hs9 => ⟨v, _, H8, I9.blank hn9 hs9, r8, q8⟩
    | next => obtain ⟨_, _, _, z⟩ := hq8; exact z.elim
    | brk => obtain ⟨_, _, _, z⟩ := hq8; exact z.elim
    | cont => obtain ⟨_, _, _, z⟩ := hq8; exact z.elim
end
end L2

set_option Elab.async false
set_option linter.all false
set_option maxRecDepth 100000
set_option maxHeartbeats 1000000
namespace L2
open PySem PySem.Spec PyProof.Rows
def rIsiX (K : PySem.W.Frag) : List V → Hp → VK → Prop := fun xs H Q => ∃ a D b, H a = some (excO a D) ∧ XCls K D ∧ ((∃ C, xs = [.ref a, .ref C] ∧ PySem.W.kitOne K (.ref D) (.ref C) = some b) ∨ (∃ T, xs = [.ref a, .ty T] ∧ PySem.W.kitOne K (.ref D) (.type T) = some b) ∨
  ∃ (p : Addr) (cs : List Addr), xs = [.ref a, .ref p] ∧ H p = some (.tup (cs.map V.ref)) ∧ PySem.W.kitAny K (.ref D) (cs.map Value.ref) = some b) ∧ Q (.bl b) H
theorem vals_refs : ∀ {cs : List Addr} {us : List Value}, Vals (cs.map V.ref) us → us = cs.map Value.ref
  | [], _, .nil => rfl
  | c :: cs, _, .cons r t => by
    cases r
    rw [List.map_cons, vals_refs t]
section
variable {X : Cx} {K : PySem.W.Frag}
theorem call_isiX (hK : X.K = K) : CallR X (.builtin "isinstance") (rIsiX K) := by
  subst hK
  intro pins s σ H xs us Q I r h
  obtain ⟨a, D, b, ha, c, h, q⟩ := h
  have ok := I.hok a _ ha
  have fin : ∀ tk, EP X pins σ Q (.bool b) { s with toks := tk } := fun tk => ⟨.bl b, H, I.tok tk, rfl, q⟩
  rcases h with ⟨C, rfl, e⟩ | ⟨T, rfl, e⟩ | ⟨p, cs, rfl, hp, e⟩
  · obtain ⟨u, u', rfl, r1, r2⟩ := vals2 r
    cases r1
    cases r2
    exact PySem.W.kia_one (kitx_exc c) I.kIn ok.1 e (fun z => nomatch z) fin
  · obtain ⟨u, u', rfl, r1, r2⟩ := vals2 r
    cases r1
    obtain rfl : u' = Value.type T := r2
    exact PySem.W.kia_one (kitx_exc c) I.kIn ok.1 e (fun z => nomatch z) fin
  · obtain ⟨u, u', rfl, r1, r2⟩ := vals2 r
    cases r1
    cases r2
    obtain ⟨_, its, rv, ⟨⟨cl, dd, dt, sl⟩, ho, hc, n, hd⟩, _⟩ := (show ObjOk X.prog X.w H s.heap p (.tup (cs.map V.ref)) from I.hok p _ hp)
    have hc' : cl = .type "tuple" := hc
    have hd' : dt = .seq its.toArray n := hd
    subst hc' hd'
    rw [vals_refs rv] at ho
    exact PySem.W.kia_tup (kitx_exc c) I.kIn ok.1 ho e (fun z => nomatch z) fin
theorem isiX_ty {K : PySem.W.Frag} {H : Hp} {a D : Addr} {T : String} {b : Bool} {Q : VK} (ha : H a = some (excO a D)) (c : XCls K D) (e : PySem.W.kitOne K (.ref D) (.type T) = some b) (q : Q (.bl b) H) : rIsiX K [.ref a, .ty T] H Q := ⟨a, D, b, ha, c, .inr (.inl ⟨T, rfl, e⟩), q⟩
theorem isiX_tup {K : PySem.W.Frag} {H : Hp} {a D p : Addr} {cs : List Addr} {b : Bool} {Q : VK} (ha : H a = some (excO a D)) (c : XCls K D) (hp : H p = some (.tup (cs.map V.ref))) (e : PySem.W.kitAny K (.ref D) (cs.map Value.ref) = some b) (q : Q (.bl b) H) : rIsiX K [.ref a, .ref p] H Q := ⟨a, D, b, ha, c, .inr (.inr ⟨p, cs, rfl, hp, e⟩), q⟩
end
structure RoomS (k : Nat) (A : Around) : Prop where
  dp : A.depth + 3 * k + 5 < recursionLimit
  un : A.units + 16 * k + 200 < cLine
theorem Room.toS {k : Nat} {A : Around} (r : Room k A) : RoomS k A := ⟨r.dp, r.un⟩
theorem Room.suite {k : Nat} {A : Around} (r : Room k A) (v : Option Value) : RoomS k (A.mark v) := ⟨r.dp, r.un⟩
theorem RoomS.mono {j k : Nat} {A : Around} (r : RoomS k A) (h : j ≤ k) : RoomS j A := ⟨by have := r.dp; omega, by have := r.un; omega⟩
theorem RoomS.deeper {k : Nat} {A : Around} (r : RoomS (k + 1) A) (env : Env) : RoomS k (A.deeper env) :=
  ⟨by have := r.dp; show A.depth + 1 + 3 * k + 5 < _; omega, by have := r.un; show A.units + 3 + 16 * k + 200 < _; omega⟩
structure FnOkS (P : Program) (w : World) (K : PySem.W.Frag) (mg : Str → Option Value) (base : Heap) (CX : CXT) (k : Nat) (f : Addr) (fd : FuncData) (ps : List Str) (sp : Sp) : Prop where
  len : ∀ vs H Q E, sp vs H Q E → vs.length = ps.length
  run : ∀ (A : Around) (outer : List Env) (s : Shared) (H : Hp) (args : Args) (us : List Value) (vs : List V) (Q : VK) (E : XK), RoomS k A → Env0 P w K mg base A outer s H → BindsTo s fd args (ps.zip us) → Vals vs us → sp vs H Q E →
    codeAny (model P w) A (.call (.ref f) args) (CR CX outer P w H s Q E) s
theorem FnOkS.fn {P : Program} {w : World} {K : PySem.W.Frag} {mg : Str → Option Value} {base : Heap} {CX : CXT} {k : Nat} {f : Addr} {fd : FuncData} {ps : List Str} {sp : Sp} (F : FnOkS P w K mg base CX k f fd ps sp) : FnOk P w K mg base CX k f fd ps sp :=
  ⟨F.len, fun A outer s H args us vs Q E hr => F.run A outer s H args us vs Q E hr.toS⟩
structure CalS (P : Program) (w : World) (K : PySem.W.Frag) (mg : Str → Option Value) (base : Heap) (CX : CXT) (x : Str) (k : Nat) (ps : List Str) (sp : Sp) : Prop where
  ex : ∃ f fd, FnOkS P w K mg base CX k f fd ps sp ∧ Binds K fd ps [] ∧ PySem.W.keepIn K (.ref f) = true ∧ mg x = some (.ref f)
abbrev Cx.any (X : Cx) (A : Around) : Cx := { X with A := A, calm := false }
theorem Inv.any {X : Cx} {pins : List (Addr × Obj)} {σ : St} {H : Hp} {s : Shared} (I : Inv X pins σ H s) {A : Around} (hf : A.frames = some X.stack) : Inv (X.any A) pins σ H s :=
  ⟨⟨I.ok.mod, I.ok.kind, I.ok.glob, I.ok.blt, I.ok.above, I.ok.inj, I.ok.has, I.ok.cab, (fun z => nomatch z), hf, I.ok.stk, I.ok.exf, I.ok.bs, I.ok.bsz, I.ok.noex, I.ok.exfs, I.ok.funs, I.ok.frf⟩, I.os, I.bare, I.base, I.loc, I.cell, I.free, I.freeC, I.pin, I.hok, I.len⟩
theorem pe_callN {X : Cx} {x : Str} {j k : Nat} {ps : List Str} {sp : Sp} {p pos : Pos} {e : Expr} {es : List Expr} {t : TA} (C : Cal X.prog X.w X.K X.mg X.base (CXE X.prog X.w) x j ps sp) (hr : Room k X.A) (hg : Gl X x) (ha : PA X (e :: es) t) (hj : j ≤ k := by decide) (hdb : (x == ("__debug__" : Str)) = false := by decide)
    (he : starEach (e :: es) X.env = (false, eval e X.env) :: starEach es X.env := by rfl) (hpl : (backTo pos (starEach es X.env)).any (·.1) = false := by rfl) :
    PE X (.Call (.Name x p) (e :: es) [] pos) (tCall sp [] E0 t) := pe_callX C hr hg passE0 ha hj hdb he hpl
end L2

set_option Elab.async false
set_option linter.all false
set_option maxRecDepth 100000
namespace L2
open PySem PySem.Spec PyProof.Rows
def noStar : Expr → Bool
  | .Starred _ _ => false
  | _ => true
theorem star1 {e : Expr} {es : List Expr} {env : Env} (h : noStar e = true) : starEach (e :: es) env = (false, eval e env) :: starEach es env := by
  cases e <;> first | rfl | cases h
theorem star1' {e : Expr} {env : Env} (h : noStar e = true) : starEach [e] env = [(false, eval e env)] := by rw [star1 h]; rfl
theorem nost0 {env : Env} {pos : Pos} : (backTo pos (starEach [] env)).any (·.1) = false := rfl
theorem nost1 {e : Expr} {es : List Expr} {env : Env} {pos : Pos} (h : noStar e = true) (r : (backTo pos (starEach es env)).any (·.1) = false) : (backTo pos (starEach (e :: es) env)).any (·.1) = false := by
  rw [star1 h]
  show (false || (backTo pos (starEach es env)).any (·.1)) = false
  rw [r]
  rfl
def plainT : Expr → Bool
  | .UnaryOp _ _ _ => false
  | .BoolOp _ _ _ => false
  | .IfExp _ _ _ _ => false
  | .Compare _ _ _ _ => false
  | _ => true
theorem test1 {e : Expr} {env : Env} (h : plainT e = true) : ∀ whole, isTrue e env whole = (do let v ← whole; standAt e.pos; holding [v] (truthy v)) := by
  intro whole
  cases e <;> first | rfl | cases h
def noComp : Expr → Bool
  | .ListComp _ _ _ _ => false
  | .SetComp _ _ _ _ => false
  | .DictComp _ _ _ _ _ => false
  | _ => true
theorem swap1 {e : Expr} {tg : Option Expr} {n : Nat} {env : Env} (h : noComp e = true) : swapsWith e tg n env = pure false := by
  cases e <;> first | rfl | cases h
end L2

set_option Elab.async false
set_option linter.all false
set_option maxRecDepth 100000
set_option maxHeartbeats 1000000
namespace L2
open PySem PySem.Spec PyProof.Rows
def Odd (K : PySem.W.Frag) (H : Hp) (x : V) : Prop := x = .non ∨ (∃ c, x = .bl c) ∨ (∃ z, x = .str z) ∨ ∃ a xs, x = .ref a ∧ SqL K H a xs
def rEqM (K : PySem.W.Frag) : R2 := fun x y H Q => (∃ b ys, y = .ref b ∧ SqT K H b ys ∧ Odd K H x ∧ Q (.bl false) H) ∨ rEqS K false x y H Q
end L2

set_option Elab.async false
set_option linter.all false
set_option maxRecDepth 100000
set_option maxHeartbeats 1000000
namespace L2
open PySem PySem.Spec PyProof.Rows
theorem ints_are : ∀ {ns : List Int} {its : List Value}, Vals (ns.map V.int) its → IntsAre its ns
  | [], _, .nil => .nil
  | n :: ns, _, .cons ⟨t, e⟩ r => by subst e; exact .cons n t (ints_are r)
section
variable {X : Cx}
theorem call_sum1 (hc : X.calm = true) : CallR X (.builtin "sum") (fun xs H Q => ∃ (p : Addr) (ns : List Int), xs = [.ref p] ∧ SqL X.K H p (ns.map V.int) ∧ Q (.int ns.sum) H) := by
  intro pins s σ H xs us Q I r h
  obtain ⟨p, ns, rfl, hq, q⟩ := h
  obtain ⟨u, rfl, rx⟩ := vals1 r
  cases rx
  obtain ⟨its, r', pl, hz⟩ := I.list hq
  have hi := ints_are r'
  obtain ⟨xs, e⟩ := hi.allInts.items
  have hl := pl.isList
  have en := hi.numsOf
  rw [show its = its.toArray.toList from rfl, e, nums_intItems] at en
  rw [e] at hl
  refine sum_intListG (I.ok.hd hc) hl fun h' tk t' k => ⟨.int ns.sum, H, I.kept k, ⟨t', ?_⟩, q⟩
  rw [preSum_eq, List.take_of_length_le (by simp), en]
theorem call_all1 (hc : X.calm = true) : CallR X (.builtin "all") (fun xs H Q => ∃ (p : Addr) (bs : List Bool), xs = [.ref p] ∧ SqL X.K H p (bs.map V.bl) ∧ Q (.bl (bs.all id)) H) := by
  intro pins s σ H xs us Q I r h
  obtain ⟨p, bs, rfl, hq, q⟩ := h
  obtain ⟨u, rfl, rx⟩ := vals1 r
  cases rx
  obtain ⟨its, r', pl, hz⟩ := I.list hq
  have hl := pl.isList
  have hlt : p < s.heap.objs.size := by obtain ⟨_, e, _⟩ := hl; exact Heap.lt_size e
  have len := r'.length
  rw [List.length_map] at len
  refine call_all_walk (wpAny_pyIter_list hl ⟨_, _, _, _, _, _, fun i => bs.getD i true, rfl, Walks.list (A := X.A.in1) (I.ok.hd hc) s.heap.objs.size p (Nat.ne_of_lt hlt) its.toArray, ⟨⟨_, Heap.get?_push_size _ rfl, rfl, rfl⟩, hl.push _⟩, ?_, ?_⟩)
  · intro i v s' Q' E' hP hQ
    have hP' : its[i]? = some v := by simpa using hP
    have li : i < bs.length := by
      have := (List.getElem?_eq_some_iff.mp hP').1
      omega
    obtain ⟨u, e1, e2⟩ := r'.get (i := i) (x := .bl (bs.getD i true)) (by simp [List.getD, li])
    rw [hP'] at e1
    cases e1
    obtain rfl : v = Value.bool (bs.getD i true) := e2
    exact wpAny_truthy_bool hQ
  · intro h' tk hk
    have : (List.range its.toArray.size).all (fun i => bs.getD i true) = bs.all id := by
      rw [List.size_toArray, ← len]
      clear len hq q r' hz
      induction bs with
      | nil => rfl
      | cons b bs ih =>
        rw [List.length_cons, List.range_succ_eq_map, List.all_cons, List.all_map, List.all_cons]
        exact congrArg _ ih
    rw [this]
    exact ⟨.bl _, H, I.kept (old_kept hk), rfl, q⟩
end
end L2

set_option Elab.async false
set_option linter.all false
set_option maxRecDepth 100000
set_option maxHeartbeats 1000000
namespace L2
open PySem PySem.Spec PyProof.Rows
structure Apart (z TI TO i1 i2 : Addr) (f1 f2 : List Addr) : Prop where
  zTI : z ≠ TI
  zTO : z ≠ TO
  TITO : TI ≠ TO
  TI1 : TI ≠ i1
  TI2 : TI ≠ i2
  m1 : i1 ∈ f1
  m2 : i2 ∈ f2
  z1 : z ∉ f1
  z2 : z ∉ f2
  t1 : TO ∉ f1
  t2 : TO ∉ f2
  i12 : i1 ∉ f2
  i21 : i2 ∉ f1
section
variable {prog : Program} {w : World} {A : Around} {E : Value → Shared → Prop} {s : Shared} {z TI TO i1 i2 : Addr} {f1 f2 : List Addr} {n1 n2 k : Nat} {P1 P2 : Nat → Value → Prop} {S1 S2 : Nat → Heap → Prop}
abbrev zlA (h : Heap) (l1 : Addr) : Heap := h.push { cls := .type "list_iterator", data := .fields #[.ref l1, .int 0 0] }
abbrev zlB (h : Heap) (l1 l2 : Addr) : Heap := (zlA h l1).push { cls := .type "tuple_iterator", data := .fields #[.ref l2, .int 0 0] }
abbrev zlC (h : Heap) (l1 l2 : Addr) : Heap := (zlB h l1 l2).push { cls := .type "tuple", data := .seq #[.ref h.objs.size, .ref (zlA h l1).objs.size] }
abbrev zlD (h : Heap) (l1 l2 : Addr) : Heap := (zlC h l1 l2).push { cls := .type "tuple", data := .seq #[.none, .none] }
abbrev zlE (h : Heap) (l1 l2 : Addr) : Heap := (zlD h l1 l2).push { cls := .type "zip", data := .fields #[.none, .bool false, .bool false, .ref (zlB h l1 l2).objs.size, .ref (zlC h l1 l2).objs.size] }
def ZipNew (h : Heap) (l1 l2 : Addr) (h' : Heap) : Prop := IsZip h' (h.objs.size + 4) (h.objs.size + 2) (h.objs.size + 3) .none ∧ IsPair h' (h.objs.size + 2) (.ref h.objs.size) (.ref (h.objs.size + 1)) ∧ IsPair h' (h.objs.size + 3) .none .none ∧
  h'.IsListIter h.objs.size l1 0 ∧ h'.IsTupleIter (h.objs.size + 1) l2 0 ∧ ∀ c o, h.get? c = some o → h'.get? c = some o
end
def Itz (K : PySem.W.Frag) (a b : Addr) : It := ⟨fun i H => ∃ xs ys x y, SqL K H a xs ∧ SqT K H b ys ∧ xs[i]? = some x ∧ ys[i]? = some y,
  fun i H x H' => ∃ T u v, H T = none ∧ x = .ref T ∧ H' = upd H T (.tup [u, v]) ∧ (∀ xs, SqL K H a xs → xs[i]? = some u) ∧ ∀ ys, SqT K H b ys → ys[i]? = some v,
  fun i H => ∃ xs ys, SqL K H a xs ∧ SqT K H b ys ∧ xs.length = ys.length ∧ xs.length = i⟩
end L2

set_option Elab.async false
set_option linter.all false
set_option maxRecDepth 100000
set_option maxHeartbeats 1000000
namespace L2
open PySem PySem.Spec PyProof.Rows
def iZip (K : PySem.W.Frag) (ta : TA) : TI := fun σ H R => ta σ H fun vs H1 => ∃ a b, vs = [.ref a, .ref b] ∧ (∃ xs, SqL K H1 a xs) ∧ (∃ ys, SqT K H1 b ys) ∧ R (Itz K a b) H1
end L2

set_option Elab.async false
set_option linter.all false
set_option maxRecDepth 100000
set_option maxHeartbeats 1000000
namespace L2
open PySem PySem.Spec PyProof.Rows
section
variable {X : Cx}
def rIndexT (K : PySem.W.Frag) : V → List V → Hp → VK → Prop := fun x vs H Q => ∃ (p : Addr) (xs : List V) (y : V) (j : Nat), x = .ref p ∧ vs = [y] ∧ SqT K H p xs ∧ flatV y = true ∧ xs.all flatV = true ∧ (∃ z, xs[j]? = some z ∧ eqV z y = true) ∧ (∀ m z, m < j → xs[m]? = some z → eqV z y = false) ∧ Q (.int j) H
def tBMT (K : PySem.W.Frag) (r : V → List V → Hp → VK → Prop) (to : TE) (t : TA) : TE := fun σ H Q => to σ H fun x H1 => (∃ p xs, x = .ref p ∧ H1 p = some (.tup xs)) ∧ t σ H1 fun xs H2 => r x xs H2 Q
abbrev Sq (K : PySem.W.Frag) (H : Hp) (a : Addr) (xs : List V) : Prop := SqL K H a xs ∨ SqT K H a xs
def iSeq (K : PySem.W.Frag) (tl : TE) : TI := fun σ H R => tl σ H fun x H1 => ∃ a, x = .ref a ∧ (((∃ xs, SqL K H1 a xs) ∧ R (Itl K a) H1) ∨ ((∃ xs, SqT K H1 a xs) ∧ R (Itt K a) H1))
section
variable {K : PySem.W.Frag} {D : Ends} {g : TG} {tb : TS} {σ : St} {H : Hp} {a : Addr}
end
section
variable {K : PySem.W.Frag} {D a : Addr} {g : TG} {tt : TT} {te : TE} {Q : VK} {τ : St} {H : Hp}
end
end
end L2

set_option Elab.async false
set_option linter.all false
set_option maxRecDepth 100000
set_option maxHeartbeats 1000000
namespace L2
open PySem PySem.Spec PyProof.Rows
abbrev sgn (c : Nat) : V := .str ⟨#[c]⟩
abbrev txt (cs : List Nat) : Str := ⟨cs.toArray⟩
def Its (cs : List Nat) : It := ⟨fun i _ => i < cs.length, fun i H v H' => H' = H ∧ ∃ c, cs[i]? = some c ∧ v = sgn c, fun i _ => cs.length ≤ i⟩
theorem turn_str {P : Program} {w : World} {K : PySem.W.Frag} {tg : Expr} (it : Addr) (cs : List Nat) (t : Tok) : Turn P w K tg (Its cs) [it] it (fun i h => h.IsStrIter it "str_ascii_iterator" (txt cs) t i) where
  mem := by simp
  obj := fun i h st b hb => by
    have e : b = it := by simpa using hb
    subst e
    obtain ⟨o, e, c, d⟩ := st
    exact ⟨o, e, fun v z => by rw [d] at z; cases z⟩
  keep := fun i h h' st k => by
    obtain ⟨o, e, r⟩ := st
    exact ⟨o, k it (by simp) o e, r⟩
  item := by
    intro X hP hw hK hc i pins s σ H E I hf st hg
    subst hP hw hK
    obtain ⟨f0, f1, f2, f3, f4, f5⟩ := hf it (by simp)
    have W := Walks.strAscii (prog := X.prog) (w := X.w) (I.ok.hd hc) it (txt cs) t
    have hg' : i < (txt cs).cps.size := by simpa using (show i < cs.length from hg)
    refine W.item i s _ _ hg' st fun v h' tk hv st' kk => ?_
    obtain ⟨c, u, hcp, rfl⟩ := hv
    have I1 : Inv X pins σ H { s with heap := h', toks := tk } := I.turned (fun b o hb e => kk b o (by simpa using hb) e) f0 f1 f3 f4 f5
    obtain ⟨o, e, c', d⟩ := id st'
    exact ⟨_, rfl, go_of (s := { s with heap := h', toks := tk }) e c' d (by decide) ⟨sgn c, H, I1, ⟨u, rfl⟩, ⟨rfl, c, by simpa using hcp, rfl⟩, st', fun b hb => (hf b hb).1⟩⟩
  done := by
    intro X hP hw hK hc i pins s σ H E I hf st hg
    subst hP hw hK
    obtain ⟨f0, f1, f2, f3, f4, f5⟩ := hf it (by simp)
    have hg' : cs.length ≤ i := hg
    exact wpAny_pyNext_ascii_end (I.ok.hd hc) st (by simp; omega) fun h' eb => ⟨rfl, I.turned (t' := s.toks) (fun b o hb e => eb b o hb e) f0 f1 f3 f4 f5⟩
  self := fun _ _ _ _ _ st h => wpAny_pyIter_striter_ascii st h
section
variable {X : Cx} {tg : Expr}
def iStr (tl : TE) : TI := fun σ H R => tl σ H fun x H1 => ∃ cs, x = .str (txt cs) ∧ cs.all (fun c => decide (c < 128)) = true ∧ R (Its cs) H1
theorem pi_str {l : Expr} {tl : TE} (hl : PE X l tl) : PI X tg l (iStr tl) := by
  intro pins s σ H R I h
  refine thn (hl pins s σ H _ I h) fun v s1 ⟨x, H1, I1, r1, q1⟩ => ?_
  obtain ⟨cs, e, ha, q⟩ := q1
  subst e
  obtain ⟨t, rfl⟩ := r1
  refine wpAny_pyIter_ascii (by simpa using ha) ?_
  refine ⟨s1.heap.objs.size, [s1.heap.objs.size], _, _, H1, rfl, I1.kept (t' := s1.toks) fun b o e => Heap.get?_push_of_some _ e, turn_str _ cs t, ⟨_, Heap.get?_push_size _ rfl, rfl, rfl⟩, fun b hb => ?_, q⟩
  have e : b = s1.heap.objs.size := by simpa using hb
  subst e
  exact I1.fpOk (Nat.le_refl _) (I1.hok.fresh (Nat.le_refl _))
end
section
variable {g : TG} {tb : TS} {D : Ends} {σ : St} {H : Hp}
end
section
variable {D : Addr} {g : TG} {tt : TT} {te : TE} {Q : VK} {τ : St} {H : Hp}
theorem compS_str (cs : List Nat) (Pv : Nat → St → Hp → Prop) (h0 : Pv 0 τ H)
    (hs : ∀ i c τ H (R : St → Hp → Prop), cs[i]? = some c → Pv i τ H → (∀ τ' H', Pv (i + 1) τ' H' → R τ' H') → tComp1 D g tt te (sgn c) τ H R) (hd : ∀ τ H, Pv cs.length τ H → Q (.ref D) H) : CompS D (Its cs) g tt te Q τ H := by
  refine ⟨fun i m τ H => m = cs.length - i ∧ i ≤ cs.length ∧ Pv i τ H, ⟨cs.length, by simp, Nat.zero_le _, h0⟩, ?_⟩
  rintro i m τ H2 ⟨rfl, hi, p⟩
  by_cases hlt : i < cs.length
  · refine .inr ⟨hlt, fun x H' y => ?_⟩
    obtain ⟨e, c, hc, rfl⟩ := y
    subst e
    exact hs i c τ _ (fun τ' H' => ∃ m', m' < cs.length - i ∧ m' = cs.length - (i + 1) ∧ i + 1 ≤ cs.length ∧ Pv (i + 1) τ' H') hc p fun τ' H' p' => ⟨_, by omega, rfl, hlt, p'⟩
  · have e : i = cs.length := by omega
    subst e
    exact .inl ⟨Nat.le_refl _, hd τ H2 p⟩
end
section
variable {X : Cx}
def rLeS : R2 := fun x y H Q => ∃ c d : Nat, x = sgn c ∧ y = sgn d ∧ Q (.bl (decide (c ≤ d))) H
theorem op_leS : OpR X (compareOp .LtE) rLeS := by
  intro pins s σ H x y v u Q I rx ry h
  obtain ⟨c, d, rfl, rfl, q⟩ := h
  obtain ⟨t, rfl⟩ := rx
  obtain ⟨t', rfl⟩ := ry
  refine P.le_str (fin_bl I q ?_)
  have e : (([d] : List Nat) < [c]) ↔ d < c := by simp [List.cons_lt_cons_iff]
  show decide (c ≤ d) = !decide (([d] : List Nat) < [c])
  by_cases h : c ≤ d
  · rw [decide_eq_true h, decide_eq_false (fun z => absurd (e.mp z) (by omega))]
    rfl
  · rw [decide_eq_false h, decide_eq_true (e.mpr (by omega))]
    rfl
theorem join_sgn : ∀ cs : List Nat, Str.join "" (cs.map fun c => (⟨#[c]⟩ : Str)) = txt cs
  | [] => rfl
  | [c] => rfl
  | c :: d :: cs => by
    have ih := join_sgn (d :: cs)
    show (⟨#[c]⟩ : Str) ++ "" ++ Str.join "" ((d :: cs).map fun c => (⟨#[c]⟩ : Str)) = txt (c :: d :: cs)
    rw [ih]
    apply Str.ext'
    simp [Str.cps_append]
    rfl
theorem strs_of : ∀ {ts : List Str} {its : List Value}, Vals (ts.map V.str) its → ∃ l : List (Str × Tok), its = strValues l ∧ l.map (·.1) = ts
  | [], _, .nil => ⟨[], rfl, rfl⟩
  | z :: ts, _, .cons ⟨t, e⟩ r => by
    subst e
    obtain ⟨l, e1, e2⟩ := strs_of r
    exact ⟨(z, t) :: l, by rw [e1]; rfl, by rw [List.map_cons, e2]⟩
def rJoin (K : PySem.W.Frag) : V → List V → Hp → VK → Prop := fun x vs H Q => ∃ (p : Addr) (cs : List Nat), x = .str "" ∧ vs = [.ref p] ∧ SqL K H p (cs.map sgn) ∧ cs.length ≤ 1000 ∧ Q (.str (txt cs)) H
theorem join_sum : ∀ (ts : List Str) (n : Nat), (∀ z ∈ ts, z.length = 1) → ts.foldl (fun a p => a + p.length + ("" : Str).length) n = n + ts.length
  | [], n, _ => rfl
  | z :: ts, n, h => by
    rw [List.foldl_cons, join_sum ts _ fun y hy => h y (List.mem_cons_of_mem _ hy), h z (List.mem_cons_self ..), List.length_cons, show ("" : Str).length = 0 from rfl]
    omega
theorem mt_join : MtR X "str.join" (rJoin X.K) := by
  intro pins s σ H x vs v us Q I rx rv h
  obtain ⟨p, cs, rfl, rfl, hq, hz, q⟩ := h
  obtain ⟨t, rfl⟩ := rx
  obtain ⟨u, rfl, ru⟩ := vals1 rv
  cases ru
  obtain ⟨its, r, pl, _⟩ := I.list hq
  have r' : Vals ((cs.map fun c => (⟨#[c]⟩ : Str)).map V.str) its := by rw [List.map_map]; exact r
  obtain ⟨l, e1, e2⟩ := strs_of r'
  have hl := pl.isList
  rw [e1] at hl
  have one : ∀ z ∈ cs.map (fun c => (⟨#[c]⟩ : Str)), z.length = 1 := fun z hz => by
    obtain ⟨c, _, rfl⟩ := List.mem_map.mp hz
    rfl
  have tot : Builtin.Str.tooLong ((l.map (·.1)).toArray.foldl (· + ·.length + ("" : Str).length) 0) = false := by
    rw [e2, List.foldl_toArray, join_sum _ _ one, List.length_map]
    unfold Builtin.Str.tooLong
    rw [sizeLine_eq]
    simp
    omega
  refine call_meets PySem.F.slot_str_join (typeIs_str s _ t) PySem.F.entry_str_join (PySem.F.args_str_join_2 _ _) (meets_str_join_list "" t p l tot) ⟨hl, ?_⟩
  have fin : ∀ (tk' : Tok) (s' : Shared), Inv X pins σ H s' → EP X pins σ Q (.str (txt cs) tk') s' := fun tk' s' I' => ⟨.str (txt cs), H, I', ⟨tk', rfl⟩, q⟩
  have gl : Builtin.Str.glued "" (l.map (·.1)) = txt cs := by
    rw [StrLaws.glued_eq_join, e2, join_sgn]
  have sz : (txt cs).length ≤ sizeLine := by
    show cs.toArray.size ≤ sizeLine
    rw [List.size_toArray, sizeLine_eq]
    omega
  match l, e2, gl with
  | [p1], e2, gl =>
    obtain ⟨z, tz⟩ := p1
    have : z = txt cs := gl
    subst this
    exact fin tz s I
  | [], e2, gl =>
    refine ⟨by rw [gl]; exact sz, ?_⟩
    rw [gl]
    exact fin _ _ (I.tok _)
  | p1 :: p2 :: r2, e2, gl =>
    refine ⟨by rw [gl]; exact sz, ?_⟩
    rw [gl]
    exact fin _ _ (I.tok _)
def isLow (c : Nat) : Bool := decide (97 ≤ c) && decide (c ≤ 122)
end
end L2

set_option Elab.async false
set_option linter.all false
set_option maxRecDepth 100000
set_option maxHeartbeats 1000000
namespace L2
open PySem PySem.Spec PyProof.Rows
deriving instance DecidableEq for Kn
section
variable {X : Cx}
end
end L2

set_option Elab.async false
set_option linter.all false
set_option maxRecDepth 100000
set_option maxHeartbeats 1000000
namespace PySem
open Sem (wp)
namespace SetL
def addS (p : (Int → Bool) × Nat) (k : Int) : (Int → Bool) × Nat := (fun k' => p.1 k' || decide (k' = k), if p.1 k = true then p.2 else p.2 + 1)
section
variable {prog : Program} {w : World} {A : Around} {R : Result → Shared → Prop} {I : Addr} {fp wr : List Addr} {n : Nat} {P : Nat → Value → Prop} {St : Nat → Heap → Prop}
end
section
variable {prog : Program} {w : World} {A : Around} {E : Value → Shared → Prop} {s : Shared}
end
end SetL
end PySem
namespace L2
open PySem PySem.Spec PyProof.Rows
section
variable {X : Cx}
end
end L2

set_option Elab.async false
set_option linter.all false
set_option maxRecDepth 100000
set_option maxHeartbeats 1000000
namespace L2
open PySem PySem.Spec PyProof.Rows
mutual
inductive Rep (K : PySem.W.Frag) (H : Hp) : V → PyData → Prop
  | non : Rep K H .non .none
  | bl (b : Bool) : Rep K H (.bl b) (.bool b)
  | int (i : Int) : Rep K H (.int i) (.int i)
  | str (z : Str) : Rep K H (.str z) (.str z)
  | lst {a : Addr} {xs : List V} {ds : List PyData} : SqL K H a xs → RepAll K H xs ds → Rep K H (.ref a) (.list ds)
  | tup {a : Addr} {xs : List V} {ds : List PyData} : SqT K H a xs → RepAll K H xs ds → Rep K H (.ref a) (.tuple ds)
inductive RepAll (K : PySem.W.Frag) (H : Hp) : List V → List PyData → Prop
  | nil : RepAll K H [] []
  | cons {x : V} {d : PyData} {xs : List V} {ds : List PyData} : Rep K H x d → RepAll K H xs ds → RepAll K H (x :: xs) (d :: ds)
end
theorem sqT_same {K : PySem.W.Frag} {H H' : Hp} {a : Addr} {xs : List V} (e : Same H H') (h : SqT K H a xs) : SqT K H' a xs := by
  rcases h with (h | ⟨o, h⟩) | h
  · exact .inl (.inl (e _ _ h))
  · exact .inl (.inr ⟨o, e _ _ h⟩)
  · exact .inr h
mutual
theorem Rep.same {K : PySem.W.Frag} {H H' : Hp} (e : Same H H') : ∀ {v : V} {d : PyData}, Rep K H v d → Rep K H' v d
  | _, _, .non => .non
  | _, _, .bl b => .bl b
  | _, _, .int i => .int i
  | _, _, .str z => .str z
  | _, _, .lst h r => .lst (e.seq h) (RepAll.same e r)
  | _, _, .tup h r => .tup (sqT_same e h) (RepAll.same e r)
theorem RepAll.same {K : PySem.W.Frag} {H H' : Hp} (e : Same H H') : ∀ {xs : List V} {ds : List PyData}, RepAll K H xs ds → RepAll K H' xs ds
  | _, _, .nil => .nil
  | _, _, .cons h r => .cons (Rep.same e h) (RepAll.same e r)
end
section
variable {X : Cx} {pins : List (Addr × Obj)} {σ : St} {H : Hp} {s : Shared}
mutual
theorem Rep.reads (I : Inv X pins σ H s) : ∀ {v : V} {d : PyData} {u : Value}, Rep X.K H v d → RelV v u → ∃ as, Reads s.heap u d as
  | _, _, u, .non, r => by
    obtain rfl : u = Value.none := r
    exact ⟨[], .none⟩
  | _, _, u, .bl b, r => by
    obtain rfl : u = Value.bool b := r
    exact ⟨[], .bool b⟩
  | _, _, u, .int i, r => by
    obtain ⟨t, rfl⟩ := r
    exact ⟨[], .int i t⟩
  | _, _, u, .str z, r => by
    obtain ⟨t, rfl⟩ := r
    exact ⟨[], .str z t⟩
  | _, _, u, .lst (a := a) h ra, r => by
    obtain rfl : u = Value.ref a := r
    obtain ⟨its, rv, ⟨o, n, e, c, _, dt⟩, _⟩ := I.list h
    obtain ⟨as, ra'⟩ := RepAll.reads I ra rv
    exact ⟨a :: as, .list e c dt (by simpa using ra')⟩
  | _, _, u, .tup (a := a) h ra, r => by
    obtain rfl : u = Value.ref a := r
    obtain ⟨its, rv, ⟨o, e, c, n, dt⟩, _⟩ := I.tuple h
    obtain ⟨as, ra'⟩ := RepAll.reads I ra rv
    exact ⟨as, .tuple e c dt (by simpa using ra')⟩
theorem RepAll.reads (I : Inv X pins σ H s) : ∀ {xs : List V} {ds : List PyData} {us : List Value}, RepAll X.K H xs ds → Vals xs us → ∃ as, ReadsAll s.heap us ds as
  | _, _, _, .nil, .nil => ⟨[], .nil⟩
  | _, _, _, .cons h r, .cons rv rs => by
    obtain ⟨as, h1⟩ := Rep.reads I h rv
    obtain ⟨bs, h2⟩ := RepAll.reads I r rs
    exact ⟨as ++ bs, .cons h1 h2⟩
end
end
def flatD (d : PyData) : Prop := d.canLay0 = true ∧ d.depth ≤ 40
theorem hu60 {A : Around} {k : Nat} (hr : Room k A) : A.units + 60 < cLine := Nat.lt_of_le_of_lt (Nat.add_le_add_left (by decide : 60 ≤ 64) _) hr.units
section
variable {X : Cx}
def rEqD (K : PySem.W.Frag) (neg : Bool) : R2 := fun x y H Q => ∃ d e, Rep K H x d ∧ Rep K H y e ∧ flatD d ∧ flatD e ∧ Q (.bl (if neg then !PyData.eqv d e else PyData.eqv d e)) H
theorem op_eqD (hu : X.A.units + 60 < cLine) : OpR X (compareOp .Eq) (rEqD X.K false) := by
  intro pins s σ H x y v u Q I rx ry h
  obtain ⟨d, e, hd, he, fd, fe, q⟩ := h
  obtain ⟨as, r1⟩ := hd.reads I rx
  obtain ⟨bs, r2⟩ := he.reads I ry
  exact SeqAt.compareEq_reads r1 r2 fd.1 fe.1 (by have := fd.2; have := fe.2; omega) ⟨.bl _, H, I, rfl, q⟩
def rInD (K : PySem.W.Frag) (neg : Bool) : R2 := fun x y H Q => ∃ (p : Addr) (d : PyData) (ds : List PyData), y = .ref p ∧ Rep K H x d ∧ (Rep K H (.ref p) (.list ds) ∨ Rep K H (.ref p) (.tuple ds)) ∧ flatD d ∧ flatD (.list ds) ∧ Q (.bl (if neg then !(ds.any fun y => PyData.eqv y d) else ds.any fun y => PyData.eqv y d)) H
theorem op_inD (hu : X.A.units + 60 < cLine) : OpR X (compareOp .In) (rInD X.K false) := by
  intro pins s σ H x y v u Q I rx ry h
  obtain ⟨p, d, ds, rfl, hd, he, fd, fe, q⟩ := h
  obtain ⟨as, r1⟩ := hd.reads I rx
  have dp : PyData.depthAll ds + 1 ≤ 40 := fe.2
  have fe1 : PyData.canLayAll0 ds = true := fe.1
  rcases he with he | he
  · obtain ⟨bs, r2⟩ := he.reads I ry
    exact SeqAt.in_list_reads r2 r1 fe1 fd.1 (by have := fd.2; omega) ⟨.bl _, H, I, rfl, q⟩
  · obtain ⟨bs, r2⟩ := he.reads I ry
    exact SeqAt.in_tuple_reads r2 r1 fe1 fd.1 (by have := fd.2; omega) ⟨.bl _, H, I, rfl, q⟩
end
end L2

set_option Elab.async false
set_option linter.all false
set_option maxRecDepth 100000
set_option maxHeartbeats 1000000
namespace HT
open PySem PyProof.Rows
def resC (z : Bool) : List (Bool × Bool) → Bool
  | [] => z
  | (e, c) :: P => if e = true then resC z P else c
def RcOp (op : CmpOp) (A : Around) (s : Shared) (y x : Value) (b : Bool) : Prop :=
  ∀ (prog : Program) (w : World) (E : Value → Shared → Prop) (Q : Value → Shared → Prop), Q (.bool b) s → wpAny (model prog w) A (richCompare op y x) Q E s
section
open PySem.SeqAt
open PySem.AutoSeq1 (wpAny_loadPart')
open PySem.MeetsSeq PySem.MeetsSeq2 PySem.MeetsSeq3

end
end HT

set_option Elab.async false
set_option linter.all false
set_option maxRecDepth 100000
set_option maxHeartbeats 1000000
namespace HT
open PySem PyProof.Rows PySem.SeqAt
def prs_lt (ns ms : List Int) : List (Bool × Bool) := (ns.zip ms).map fun p => (p.1 == p.2, decide (p.1 < p.2))
def lexC_lt (ns ms : List Int) : Bool := resC (decide (ns.length < ms.length)) (prs_lt ns ms)
def key_lt (x y : Int × List Int × List Int) : Bool := resC (decide (3 < 3)) [(x.1 == y.1, decide (x.1 < y.1)), (decide (x.2.1 = y.2.1), lexC_lt x.2.1 y.2.1), (decide (x.2.2 = y.2.2), lexC_lt x.2.2 y.2.2)]

def prs_le (ns ms : List Int) : List (Bool × Bool) := (ns.zip ms).map fun p => (p.1 == p.2, decide (p.1 ≤ p.2))
def lexC_le (ns ms : List Int) : Bool := resC (decide (ns.length ≤ ms.length)) (prs_le ns ms)
def key_le (x y : Int × List Int × List Int) : Bool := resC (decide (3 ≤ 3)) [(x.1 == y.1, decide (x.1 ≤ y.1)), (decide (x.2.1 = y.2.1), lexC_le x.2.1 y.2.1), (decide (x.2.2 = y.2.2), lexC_le x.2.2 y.2.2)]

def prs_gt (ns ms : List Int) : List (Bool × Bool) := (ns.zip ms).map fun p => (p.1 == p.2, decide (p.1 > p.2))
def lexC_gt (ns ms : List Int) : Bool := resC (decide (ns.length > ms.length)) (prs_gt ns ms)
def key_gt (x y : Int × List Int × List Int) : Bool := resC (decide (3 > 3)) [(x.1 == y.1, decide (x.1 > y.1)), (decide (x.2.1 = y.2.1), lexC_gt x.2.1 y.2.1), (decide (x.2.2 = y.2.2), lexC_gt x.2.2 y.2.2)]

section
variable {l b : Addr}
theorem vals_ints {ns : List Int} {its : List Value} (r : L2.Vals (ns.map L2.V.int) its) : IntsAre its ns := L2.ints_are r
end
end HT
namespace L2
open PySem PySem.Spec PyProof.Rows
def rKey (K : PySem.W.Frag) (f : (Int × List Int × List Int) → (Int × List Int × List Int) → Bool) : R2 := fun x y H Q => ∃ (p q a b c d : Addr) (k k' : Int × List Int × List Int), x = .ref p ∧ y = .ref q ∧ SqT K H p [.int k.1, .ref a, .ref b] ∧ SqT K H q [.int k'.1, .ref c, .ref d] ∧
  SqT K H a (k.2.1.map V.int) ∧ SqT K H b (k.2.2.map V.int) ∧ SqT K H c (k'.2.1.map V.int) ∧ SqT K H d (k'.2.2.map V.int) ∧ Q (.bl (f k k')) H
end L2

set_option Elab.async false
set_option linter.all false
set_option maxRecDepth 100000
set_option maxHeartbeats 1000000
namespace L2
open PySem PySem.Spec PyProof.Rows
theorem sl_tupAK {X : Cx} {K : PySem.W.Frag} (h : X.K = K) : SlR X (rSlTA K) := by subst h; exact sl_tupA
theorem op_eqDK {X : Cx} {K : PySem.W.Frag} (h : X.K = K) (hu : X.A.units + 60 < cLine) : OpR X (compareOp .Eq) (rEqD K false) := by subst h; exact op_eqD hu
theorem op_inDK {X : Cx} {K : PySem.W.Frag} (h : X.K = K) (hu : X.A.units + 60 < cLine) : OpR X (compareOp .In) (rInD K false) := by subst h; exact op_inD hu
def iOr (w1 w2 : TI) : TI := fun σ H R => w1 σ H R ∨ w2 σ H R
section
variable {K : PySem.W.Frag} {a : Addr} {g : TG} {tt : TT} {te : TE} {Q : VK} {H : Hp}
end
end L2

set_option Elab.async false
set_option linter.all false
set_option maxRecDepth 100000
set_option maxHeartbeats 1000000
namespace L2
open PySem PySem.Spec PyProof.Rows
section
variable {prog : Program} {w : World} {A : Around} {E : Value → Shared → Prop} {s : Shared} {z TI TO i1 i2 : Addr}
abbrev zmA (h : Heap) (l1 : Addr) : Heap := h.push { cls := .type "list_iterator", data := .fields #[.ref l1, .int 0 0] }
abbrev zmB (h : Heap) (l1 l2 : Addr) : Heap := (zmA h l1).push { cls := .type "list_iterator", data := .fields #[.ref l2, .int 0 0] }
abbrev zmC (h : Heap) (l1 l2 : Addr) : Heap := (zmB h l1 l2).push { cls := .type "tuple", data := .seq #[.ref h.objs.size, .ref (zmA h l1).objs.size] }
abbrev zmD (h : Heap) (l1 l2 : Addr) : Heap := (zmC h l1 l2).push { cls := .type "tuple", data := .seq #[.none, .none] }
abbrev zmE (h : Heap) (l1 l2 : Addr) : Heap := (zmD h l1 l2).push { cls := .type "zip", data := .fields #[.none, .bool false, .bool false, .ref (zmB h l1 l2).objs.size, .ref (zmC h l1 l2).objs.size] }
def ZipNewM (h : Heap) (l1 l2 : Addr) (h' : Heap) : Prop := IsZip h' (h.objs.size + 4) (h.objs.size + 2) (h.objs.size + 3) .none ∧ IsPair h' (h.objs.size + 2) (.ref h.objs.size) (.ref (h.objs.size + 1)) ∧ IsPair h' (h.objs.size + 3) .none .none ∧
  h'.IsListIter h.objs.size l1 0 ∧ h'.IsListIter (h.objs.size + 1) l2 0 ∧ ∀ c o, h.get? c = some o → h'.get? c = some o
end
def ItzL (K : PySem.W.Frag) (a b : Addr) : It := ⟨fun i H => ∃ xs ys x y, SqL K H a xs ∧ SqL K H b ys ∧ xs[i]? = some x ∧ ys[i]? = some y,
  fun i H x H' => ∃ T u v, H T = none ∧ x = .ref T ∧ H' = upd H T (.tup [u, v]) ∧ (∀ xs, SqL K H a xs → xs[i]? = some u) ∧ ∀ ys, SqL K H b ys → ys[i]? = some v,
  fun i H => ∃ xs ys, SqL K H a xs ∧ SqL K H b ys ∧ xs.length = ys.length ∧ xs.length = i⟩
def iZipL (K : PySem.W.Frag) (ta : TA) : TI := fun σ H R => ta σ H fun vs H1 => ∃ a b, vs = [.ref a, .ref b] ∧ (∃ xs, SqL K H1 a xs) ∧ (∃ ys, SqL K H1 b ys) ∧ R (ItzL K a b) H1
end L2

set_option Elab.async false
set_option linter.all false
set_option maxRecDepth 100000
set_option maxHeartbeats 1000000
namespace L2
open PySem PySem.Spec PyProof.Rows
section
variable {X : Cx}
theorem Vals.takeN : ∀ {xs : List V} {us : List Value} (k : Nat), Vals xs us → Vals (xs.take k) (us.take k)
  | _, _, 0, _ => by rw [List.take_zero, List.take_zero]; exact .nil
  | _, _, _ + 1, .nil => .nil
  | _, _, k + 1, .cons r t => .cons r (Vals.takeN k t)
theorem Vals.dropN : ∀ {xs : List V} {us : List Value} (k : Nat), Vals xs us → Vals (xs.drop k) (us.drop k)
  | _, _, 0, h => h
  | _, _, _ + 1, .nil => .nil
  | _, _, k + 1, .cons _ t => Vals.dropN k t
def rInsert : V → List V → Hp → VK → Prop := fun x vs H Q => ∃ (l : Addr) (xs : List V) (k : Nat) (y : V), x = .ref l ∧ vs = [.int k, y] ∧ H l = some (.lst xs) ∧ k ≤ xs.length ∧ xs.length < sizeLine ∧ Q .non (upd H l (.lst (xs.take k ++ y :: xs.drop k)))
theorem mt_insert : MtM X "list.insert" rInsert := by
  intro pins s σ H x vs v us Q I rx rv h
  obtain ⟨l, xs, k, y, rfl, rfl, hH, hk, hz1, q⟩ := h
  cases rx
  have sl : (k : Int) < 2 ^ 63 := by
    have := line63
    omega
  have hf : ¬(!Builtin.List.listFitsIndex (k : Int)) = true := by rw [fitsIndex_both (by omega) sl]; exact Bool.false_ne_true
  have h0 : ¬ (k : Int) < 0 := by omega
  have hn : (k : Int).toNat = k := Int.toNat_natCast k
  generalize (k : Int) = ki at rv hf h0 hn
  cases rv with
  | @cons _ u1 _ _ r1 rv =>
    cases rv with
    | @cons _ u2 _ _ r2 rv =>
      cases rv
      obtain ⟨t, rfl⟩ := r1
      obtain ⟨z, its, n, r, hl, e⟩ := I.lstM hH
      have hs1 : its.toArray.size ≤ sizeLine := by rw [List.size_toArray]; omega
      have M := AutoSeq1.list_insert_list_int_val_1 l its.toArray n ki t u2 hf hs1
      refine call_meets F.slot_list_insert ⟨_, e, rfl⟩ F.entry_list_insert (F.args_list_insert_3 _ _ _) M ⟨e, ?_⟩
      refine ⟨.non, _, I.lset (its' := its.take k ++ u2 :: its.drop k) hH e ?_ (Vals.append (Vals.takeN k r) (.cons r2 (Vals.dropN k r))) ?_, rfl, q⟩
      · show (Array.extract its.toArray 0 (if ki < 0 then (ki + (its.toArray.size : Int)).toNat else min ki.toNat its.toArray.size)).push u2 ++ Array.extract its.toArray (if ki < 0 then (ki + (its.toArray.size : Int)).toNat else min ki.toNat its.toArray.size) = _
        rw [if_neg h0, hn, List.size_toArray, Nat.min_eq_left (by omega)]
        apply Array.toList_inj.mp
        simp
        exact List.take_of_length_le (by rw [List.length_drop]; exact Nat.le_refl _)
      · simp only [List.length_append, List.length_cons, List.length_take, List.length_drop]
        omega
end
section
variable {K : PySem.W.Frag} {a b : Addr} {g : TG} {tt : TT} {te : TE} {Q : VK} {H : Hp}
end
end L2

set_option Elab.async false
set_option linter.all false
set_option maxRecDepth 100000
set_option maxHeartbeats 1000000
namespace L2
open PySem PySem.Spec PyProof.Rows
section
variable {X : Cx}
def cutN (cs : List Nat) (lo hi : Option Int) : List Nat := (cs.drop (HT.sIx cs.length 0 lo)).take (HT.sIx cs.length cs.length hi - HT.sIx cs.length 0 lo)
theorem ssi_eq (lo hi : Option Int) (n : Nat) : Builtin.Str.strSliceIndices lo hi 1 n = sliceRange (sliceBounds lo hi none n).1 (sliceBounds lo hi none n).2.1 1 := rfl
theorem partOf {v : Value} {i : Option Int} (h : IsPart v i) : ∃ l : Option (Int × Tok), v = partValue l ∧ l.map (·.1) = i := by
  cases h with
  | none => exact ⟨none, rfl, rfl⟩
  | int i t => exact ⟨some (i, t), rfl, rfl⟩
def rSlS : V → Option Int → Option Int → Hp → VK → Prop := fun x lo hi H Q => ∃ cs : List Nat, x = .str (txt cs) ∧ cs.length ≤ 1000 ∧ Q (.str (txt (cutN cs lo hi))) H
theorem sl_str : SlR X rSlS := by
  intro pins s σ H x v vl vu lo hi sl Q I rx hs pl pu h
  obtain ⟨cs, rfl, hz, q⟩ := h
  obtain ⟨t, rfl⟩ := rx
  obtain ⟨l, rfl, el⟩ := partOf pl
  obtain ⟨u, rfl, eu⟩ := partOf pu
  refine ⟨"str", _, slot_str_getitem.lookup, typeIs_str s _ t, ?_⟩
  obtain ⟨o, h1, h2, h3⟩ := hs
  refine wpAny_getItem_str_slice (l := l) (u := u) (st := none) ⟨o, h1, h2, h3⟩ rfl ?_
  have e1 : slicePicked (txt cs) l u none = Builtin.Str.strSliceIndices lo hi 1 cs.length := by
    unfold slicePicked
    rw [el, eu]
    rfl
  obtain ⟨b1, b2, _⟩ := slice_bounds lo hi cs.length
  rw [ssi_eq, b1, b2] at e1
  have e2 : (List.filterMap (fun i => (txt cs).cps[i]?) (slicePicked (txt cs) l u none)) = cutN cs lo hi := by
    rw [e1]
    unfold cutN
    simp only [sliceRange_one, pick_run]
  have e3 : (slicePicked (txt cs) l u none).length = HT.sIx cs.length cs.length hi - HT.sIx cs.length 0 lo := by
    rw [e1, sliceRange_one, List.length_map, List.length_range]
  have e4 : HT.sIx cs.length cs.length hi ≤ cs.length := by
    unfold HT.sIx
    split
    · exact Nat.le_refl _
    · split <;> omega
  have e5 : (cutN cs lo hi).length ≤ cs.length := by
    unfold cutN
    rw [List.length_take, List.length_drop]
    omega
  unfold sliceMade
  by_cases hc : ((Option.map (fun x : Int × Tok => x.fst) none).getD 1 == 1 && (slicePicked (txt cs) l u none).length == (txt cs).length) = true
  · rw [if_pos hc]
    rw [Bool.and_eq_true] at hc
    have h5 := eq_of_beq hc.2
    rw [e3] at h5
    have h6 : HT.sIx cs.length cs.length hi - HT.sIx cs.length 0 lo = cs.length := h5
    have e6 : cutN cs lo hi = cs := by
      unfold cutN
      rw [h6]
      rcases Nat.eq_zero_or_pos cs.length with h0 | h0
      · rw [List.length_eq_zero_iff.mp h0, List.drop_nil, List.take_nil]
      · rw [show HT.sIx cs.length 0 lo = 0 by omega, List.drop_zero, List.take_of_length_le (Nat.le_refl _)]
    rw [e6] at q
    exact ⟨.str (txt cs), H, I, ⟨_, rfl⟩, q⟩
  · rw [if_neg hc, e2]
    exact ⟨Nat.le_trans (show (cutN cs lo hi).toArray.size ≤ 1000 by rw [List.size_toArray]; omega) (by decide), .str (txt (cutN cs lo hi)), H, I.tok _, ⟨_, rfl⟩, q⟩
def rMulS : R2 := fun x y H Q => ∃ (c : Nat) (n : Nat), x = .str (txt [c]) ∧ y = .int n ∧ 1 ≤ n ∧ n ≤ 1000 ∧ Q (.str (txt (List.replicate n c))) H
theorem fold_rep (c : Nat) : ∀ (n : Nat) (a : List Nat), List.foldl (fun x y : Array Nat => x ++ y) a.toArray (List.replicate n #[c]) = (a ++ List.replicate n c).toArray
  | 0, a => by simp
  | n + 1, a => by
    rw [List.replicate_succ, List.foldl_cons]
    have := fold_rep c n (a ++ [c])
    have e : a.toArray ++ #[c] = (a ++ [c]).toArray := by simp
    rw [e, this, List.append_assoc, List.replicate_succ]
    rfl
theorem op_mulS : OpR X (binaryOp .Mult) rMulS := by
  intro pins s σ H x y v u Q I rx ry h
  obtain ⟨c, n, rfl, rfl, h1, hn, q⟩ := h
  obtain ⟨t, rfl⟩ := rx
  obtain ⟨t', rfl⟩ := ry
  have l1 : (txt [c]).length = 1 := rfl
  refine PySem.P.mul_str (by rw [decide_eq_false (by omega), decide_eq_false (by omega)]; rfl) (fun _ _ => ?_) (fun _ _ => ?_) ?_
  · rw [l1]
    have : (1 : Int) ≤ (2 ^ 63 - 1) / (n : Int) := by
      apply (Int.le_ediv_iff_mul_le (by omega)).mpr
      omega
    omega
  · rw [l1, Int.toNat_natCast, Nat.one_mul]
    unfold Builtin.Str.tooLong
    rw [sizeLine_eq]
    simp
    omega
  · rw [if_neg (by omega)]
    by_cases e : ((n : Int) == 1 || (txt [c]).length == 0) = true
    · rw [if_pos e]
      have : n = 1 := by
        rw [l1, Bool.or_eq_true] at e
        rcases e with e | e
        · have := eq_of_beq e
          omega
        · exact absurd e (by decide)
      subst this
      exact ⟨.str (txt [c]), H, I, ⟨_, rfl⟩, q⟩
    · rw [if_neg e]
      have ef : List.foldl (fun x y : Array Nat => x ++ y) #[] (List.replicate (n : Int).toNat (txt [c]).cps) = (List.replicate n c).toArray := by
        rw [Int.toNat_natCast]
        have := fold_rep c n []
        rw [List.nil_append] at this
        exact this
      rw [ef]
      exact ⟨Nat.le_trans (show (List.replicate n c).toArray.size ≤ 1000 by rw [List.size_toArray, List.length_replicate]; omega) (by decide), .str (txt (List.replicate n c)), H, I.tok _, ⟨_, rfl⟩, q⟩
def rCatS : R2 := fun x y H Q => ∃ cs ds : List Nat, x = .str (txt cs) ∧ y = .str (txt ds) ∧ cs.length + ds.length ≤ 1000 ∧ Q (.str (txt (cs ++ ds))) H
theorem op_catS : OpR X (binaryOp .Add) rCatS := by
  intro pins s σ H x y v u Q I rx ry h
  obtain ⟨cs, ds, rfl, rfl, hz, q⟩ := h
  refine op_add_str pins s σ H _ _ v u Q I rx ry ⟨_, _, rfl, rfl, Nat.le_trans (show cs.toArray.size + ds.toArray.size ≤ 1000 by rw [List.size_toArray, List.size_toArray]; omega) (by decide), ?_⟩
  have : (txt cs ++ txt ds : Str) = txt (cs ++ ds) := by
    apply Str.ext'
    simp [Str.cps_append]
  rw [this]
  exact q
end
def tTryN (sp : Sp) (t : TA) (K : PySem.W.Frag) (C : Addr) (ts : TS) : TS := fun D σ H => t σ H fun vs H1 => sp vs H1 (fun _ H2 => D.nx σ H2) fun c _ H2 =>
  ∃ D', c = .ref D' ∧ PySem.W.subIn K (.ref D') (.ref C) = some true ∧ ∀ a, H2 a = none → ts { nx := fun _ _ => False, rt := D.rt } σ (upd H2 a (excO a D'))
section
variable {X : Cx} {CX : CXT} {x y : Str} {j k : Nat} {ps : List Str} {sp : Sp} {p pos tpos hpos np epos : Pos} {e : Expr} {es : List Expr} {t : TA} {C : Addr} {b₀ : Stmt} {suite : List Stmt} {ts : TS}
theorem ps_tryN (hcalm : X.calm = true) (hxe : X.xe = fun _ _ => False) (hstk : X.stack = X.env :: X.outer) (hfr : X.env.frame = some X.env.locals)
    (F : Cal X.prog X.w X.K X.mg X.base (CXE X.prog X.w) x j ps sp) (hr : Room k X.A) (hg : Gl X x) (ha : PA X (e :: es) t) (hgy : Gl X y) (c : XCatch X.K X.mg y C) (hex : X.ex = [])
    (hsu : ∀ a, PSs (X.suite a) (b₀ :: suite) ts) (hj : j ≤ k := by decide) (hdb : (x == ("__debug__" : Str)) = false := by decide) (hdy : (y == ("__debug__" : Str)) = false := by decide)
    (he : starEach (e :: es) X.env = (false, eval e X.env) :: starEach es X.env := by rfl) (hpl : (backTo pos (starEach es X.env)).any (·.1) = false := by rfl) (hsw : swapsWith (.Call (.Name x p) (e :: es) [] pos) none epos.line X.env = pure false := by rfl) :
    PS X (.Try [.Expr (.Call (.Name x p) (e :: es) [] pos) epos] [.ExceptHandler (some (.Name y np)) none (b₀ :: suite) hpos] [] [] tpos) (tTryN sp t X.K C ts) := by
  intro pins s σ H D I h
  obtain ⟨f, fd, Fk, hb, kp, m⟩ := F.ex
  have hr' := hr.mono hj
  refine wpAny_Try_except (wpAny_execs_cons (wpAny_Expr_any ?_ I.quiet hsw))
  refine wpAny_Call_Name_kw (ld_glob I hg m ?_ hdb)
  refine PySem.W.callWith_K (h₀ := X.base) I.ok.mod.kin kp (wpAny_mono (ha pos pins s σ H _ I h) (fun us s1 ⟨vs, H1, I1, r, q⟩ => ⟨I1.kIn, ?_⟩) (fun _ _ z => by rw [hxe] at z; exact z.elim)) he hpl
  have hl : us.length = ps.length := by rw [← r.length]; exact Fk.len _ _ _ _ q
  have hb' := hb s1 us I1.kIn (by rw [List.append_nil]; exact hl)
  rw [List.append_nil] at hb'
  refine wpAny_call (codeAny_mono (Fk.run X.A X.stack s1 H1 ⟨us, []⟩ us vs _ _ hr' I1.env0 hb' r q) fun res s' hq => ?_)
  cases res with
  | ok fl =>
    cases fl with
    | ret u =>
      obtain ⟨v, H2, I2, rv, q2⟩ := I1.after hq
      exact wpAny_execs_nil (wpAny_execs_nil ⟨σ, H2, I2, q2⟩)
    | next => exact False.elim hq
    | brk => exact False.elim hq
    | cont => exact False.elim hq
  | error ev =>
    obtain ⟨a, D', H2, B, a0, rfl, Fl, ⟨D2, hD, hsub, q2⟩⟩ := hq
    cases hD
    have hfr2 : X.A.frames = some (X.env :: X.outer) := by rw [← hstk]; exact I.ok.frames
    have Fl1 := Fl
    rw [hstk] at Fl1
    refine wpAny_looks_onW hfr2 hfr Fl1.fly fun h4 held4 up4 => ?_
    refine wpAny_landsW held4 fun h5 fl5 up5 => ?_
    have F5 : Fly X.prog X.w X.stack H1 s1 B H2 a D' a0 { s' with heap := h5 } := by
      rw [hstk]
      exact Fl1.on fl5 (up4.trans up5)
    have I5 := I1.caught F5
    have hsa : s1.heap.get? a = none := Fl.fresh
    have hsa0 : X.s₀.heap.get? a = none := by
      cases q0 : X.s₀.heap.get? a with
      | none => rfl
      | some o0 =>
        obtain ⟨o', e'⟩ := I1.base.there a o0 q0 (by rw [hex]; simp)
        rw [hsa] at e'
        cases e'
    refine wpAny_handleBy_cons (codeAny_handlers_test (ld_glob (X := X.suite a) (I5.suite a) hgy c.at_ ?_ hdy)) (by intro z; cases z)
    refine xcls_matches I5.kIn F5.excAt c.is c.ty c.mb hsub ?_
    refine codeAny_handlers_suite ?_
    have fl5' := F5.fly
    refine lands_againW fl5' fun h6 fl6 up6 => ?_
    have F6 : Fly X.prog X.w X.stack H1 s1 B H2 a D' a0 { s' with heap := h6 } := F5.on fl6 up6
    have I6 := I1.caught F6
    have hne : ∀ b o, s1.heap.get? b = some o → b ≠ a := fun b o e z => by rw [z, hsa] at e; cases e
    obtain ⟨m1, ⟨oL, _, _, hoL, _⟩, _⟩ := id I1.loc
    have J6 := I6.hold F6.excAt F6.new hsa0 (hne _ _ hoL).symm (fun x c e => by
      obtain ⟨v, o, ho, _⟩ := I1.cell x c e
      exact hne _ _ ho) (fun p hp => hne _ _ (I1.pin p hp).1)
    refine wpAny_mono (hsu a pins _ _ _ { nx := fun _ _ => False, rt := D.rt } (J6.suite a) (q2 a F6.new)) (fun fl s8 hq8 => ?_) (fun _ _ z => by
      have z' : X.xe _ _ := z
      rw [hxe] at z'
      exact z'.elim)
    cases fl with
    | ret u =>
      obtain ⟨v, σ8, H8, I8, r8, q8⟩ := hq8
      exact ⟨v, σ8, H8, I8.unsuite I.ok, r8, q8⟩
    | next => obtain ⟨_, _, _, z⟩ := hq8; exact z.elim
    | brk => obtain ⟨_, _, _, z⟩ := hq8; exact z.elim
    | cont => obtain ⟨_, _, _, z⟩ := hq8; exact z.elim
end
end L2

set_option linter.all false
namespace MthL
def pk (ws : List Int) (w : Int) (i : Nat) : Bool := decide (0 < ws.getD i 0 ∧ ws.getD i 0 ≤ w ∧ ∀ j, j < i → ws.getD j 0 ≠ ws.getD i 0)
def rk (ws : List Int) (w : Int) : Nat := ((List.range ws.length).filter (pk ws w)).length
theorem first {ws : List Int} {w : Int} (h : w ∈ ws) : ∃ i, i < ws.length ∧ ws.getD i 0 = w ∧ ∀ j, j < i → ws.getD j 0 ≠ w := by
  induction ws with
  | nil => cases h
  | cons a ws ih =>
    by_cases e : a = w
    · exact ⟨0, Nat.zero_lt_succ _, e, fun j hj => absurd hj (Nat.not_lt_zero _)⟩
    · obtain ⟨i, h1, h2, h3⟩ := ih ((List.mem_cons.mp h).resolve_left fun z => e z.symm)
      refine ⟨i + 1, Nat.succ_lt_succ h1, h2, fun j hj => ?_⟩
      cases j with
      | zero => exact e
      | succ j => exact h3 j (Nat.lt_of_succ_lt_succ hj)
theorem below {ws : List Int} (w : Int) : (∀ o ∈ ws, 0 < o → w ≤ o) ∨ ∃ v ∈ ws, 0 < v ∧ v < w ∧ ∀ o ∈ ws, o < w → o ≤ v := by
  induction ws with
  | nil => exact .inl fun o ho => by cases ho
  | cons a ws ih =>
    by_cases ha : 0 < a ∧ a < w
    · rcases ih with ih | ⟨v, h1, h2, h3, h4⟩
      · refine .inr ⟨a, List.mem_cons_self .., ha.1, ha.2, fun o ho hl => ?_⟩
        rcases List.mem_cons.mp ho with rfl | ho
        · exact Int.le_refl _
        · by_cases h0 : 0 < o
          · have := ih o ho h0
            omega
          · omega
      · by_cases hv : a ≤ v
        · refine .inr ⟨v, List.mem_cons_of_mem _ h1, h2, h3, fun o ho hl => ?_⟩
          rcases List.mem_cons.mp ho with rfl | ho
          · exact hv
          · exact h4 o ho hl
        · refine .inr ⟨a, List.mem_cons_self .., ha.1, ha.2, fun o ho hl => ?_⟩
          rcases List.mem_cons.mp ho with rfl | ho
          · exact Int.le_refl _
          · have := h4 o ho hl
            omega
    · rcases ih with ih | ⟨v, h1, h2, h3, h4⟩
      · refine .inl fun o ho h0 => ?_
        rcases List.mem_cons.mp ho with rfl | ho
        · omega
        · exact ih o ho h0
      · refine .inr ⟨v, List.mem_cons_of_mem _ h1, h2, h3, fun o ho hl => ?_⟩
        rcases List.mem_cons.mp ho with rfl | ho
        · omega
        · exact h4 o ho hl
def look (ws : List Int) : List Int := ws.map fun w => (rk ws w : Int)
end MthL

set_option linter.all false
namespace Mth
def cell (ns : List Int) (k : Int) : Int :=
  if k < (ns.length : Int) then ns.getD k.toNat 0 % 10 ^ 60
  else (if 0 < (ns.length : Int) then ns.getD (k * 7 % (ns.length : Int)).toNat 0 % 10 ^ 60 * 48271 + k * k * 69621 else 7919 * k + 5) % 2147483647 * 16807 % 2147483629
def gcd (a b : Int) : Int := (Int.gcd a b : Nat)
structure IsShare (t b x y : Int) : Prop where
  pos : 0 < y
  low : gcd x y = 1
  eq : x * b = t * y
  le1 : x.natAbs ≤ t.natAbs
  le2 : y.natAbs ≤ b.natAbs
def tot (s r : Int × Int) : Int × Int := (s.1 * r.2 + r.1 * s.2, s.2 * r.2)
def sumS (l : List (Int × Int)) : Int × Int := l.foldl tot (0, 1)
structure Low (T : Int × Int) (x y : Int) : Prop where
  pos : 0 < y
  low : gcd x y = 1
  eq : x * T.2 = T.1 * y
end Mth

set_option Elab.async false
set_option linter.all false
set_option maxRecDepth 100000
set_option maxHeartbeats 4000000
namespace My
open PySem L2
def spLaw (K : PySem.W.Frag) : Sp := fun vs H Q _ => ∃ (a : Addr) (ns : List Int), vs = [.ref a] ∧ SqL K H a (ns.map V.int) ∧ ns.length ≤ 63 ∧ ∀ H', Q (.bl true) H'
theorem atI_map {ns : List Int} {k : Int} (h0 : 0 ≤ k) (h1 : k < ns.length) : atI (ns.map V.int) k = some (.int (ns.getD k.toNat 0)) := by
  have e : k = ((k.toNat : Nat) : Int) := by omega
  have h2 : k.toNat < ns.length := by omega
  have q : (ns.map V.int)[k.toNat]? = some (.int (ns.getD k.toNat 0)) := by
    rw [List.getElem?_map, List.getElem?_eq_getElem h2]
    simp [List.getD, h2]
  have := atI_nat q
  rw [← e] at this
  exact this
theorem bitsN {n : Nat} {i : Int} (lo : -(10 ^ 61) ≤ i) (hi : i ≤ 10 ^ 61) (hn : 204 ≤ n := by decide) : Bits n i := (Bits.of (n := 204) (b := 10 ^ 61) lo hi (by decide)).mono hn
theorem same_new {H : Hp} {p : Addr} (h : H p = none) (o : HO) : Same H (upd H p o) := fun b u q => by rw [upd_ne (ne_of_none q h)]; exact q
theorem Same.tup {K : PySem.W.Frag} {H H' : Hp} {a : Addr} {xs : List V} (e : Same H H') (h : SqT K H a xs) : SqT K H' a xs := by
  rcases h with (h | ⟨o, h⟩) | h
  · exact .inl (.inl (e _ _ h))
  · exact .inl (.inr ⟨o, e _ _ h⟩)
  · exact .inr h
theorem cpow {n : Int} (h0 : 0 ≤ n := by decide) (h1 : n ≤ 1000000 := by decide) : CPow 10 n := ⟨h0, h1, by decide⟩
theorem ten_pos (n : Nat) : (0 : Int) < 10 ^ n := Int.pow_pos (by decide)
theorem cmul {i j : Int} (a : -(10 ^ 61) ≤ i) (b : i ≤ 10 ^ 61) (c : -(10 ^ 61) ≤ j) (d : j ≤ 10 ^ 61) : CMulB i j := ⟨bitsN a b, bitsN c d⟩
theorem cdiv {i j : Int} (a : 0 < j) (b : j ≤ 10 ^ 61) : CDivB i j := ⟨a, bitsN (by omega) b⟩
theorem getD_at {α : Type} {ws : List α} {j : Nat} {d : α} (h : j < ws.length) : ws.getD j d = ws[j] := by simp only [List.getD, List.getElem?_eq_getElem h, Option.getD_some]
theorem ixN_nat {n j : Nat} (h : j < n) : ixN n (j : Int) = some j := by
  unfold ixN
  rw [if_pos (by omega), if_pos (by omega)]
  rfl
theorem fresh_tup {K : PySem.W.Frag} {H : Hp} {p : Addr} (h : H p = none) (xs : List V) : ∃ H1, H1 = upd H p (.tup xs) ∧ Same H H1 ∧ SqT K H1 p xs := ⟨_, rfl, same_new h _, SqT.of upd_same⟩
theorem fresh_lst {K : PySem.W.Frag} {H : Hp} {p : Addr} (h : H p = none) (xs : List V) : ∃ H1, H1 = upd H p (.lst xs) ∧ Same H H1 ∧ SqL K H1 p xs := ⟨_, rfl, same_new h _, SqL.of upd_same⟩
theorem fresh_dct {K : PySem.W.Frag} {H : Hp} {p : Addr} (h : H p = none) : ∃ H1, H1 = upd H p (dctO p) ∧ Same H H1 ∧ Kd K H1 (.ref p) .dct := ⟨_, rfl, same_new h _, Kd.dct upd_same⟩
theorem same_upd {H H' : Hp} {l : Addr} (e : Same H H') (h : H l = none) (o : HO) : Same H (upd H' l o) := fun b u hb => by rw [upd_ne (ne_of_none hb h)]; exact e _ _ hb

def top (i : Nat) : Stmt := PySem.Challenge.pw_tariffgate_k29_goods_refused.main.body.getD i (.Pass ⟨0, 0, 0, 0⟩)
theorem dn_thing : (("thing" : Str) == ("__debug__" : Str)) = false := by decide
theorem dc_thing : (("thing" : Str) == ("__classdict__" : Str)) = false := by decide
theorem nn_thing : ("thing" : Str) ≠ "__name__" := by decide
theorem dn_isinstance : (("isinstance" : Str) == ("__debug__" : Str)) = false := by decide
theorem dc_isinstance : (("isinstance" : Str) == ("__classdict__" : Str)) = false := by decide
theorem nn_isinstance : ("isinstance" : Str) ≠ "__name__" := by decide
theorem dn_int : (("int" : Str) == ("__debug__" : Str)) = false := by decide
theorem dc_int : (("int" : Str) == ("__classdict__" : Str)) = false := by decide
theorem nn_int : ("int" : Str) ≠ "__name__" := by decide
theorem dn_bool : (("bool" : Str) == ("__debug__" : Str)) = false := by decide
theorem dc_bool : (("bool" : Str) == ("__classdict__" : Str)) = false := by decide
theorem nn_bool : ("bool" : Str) ≠ "__name__" := by decide
theorem dn_all : (("all" : Str) == ("__debug__" : Str)) = false := by decide
theorem dc_all : (("all" : Str) == ("__classdict__" : Str)) = false := by decide
theorem nn_all : ("all" : Str) ≠ "__name__" := by decide
theorem dn_str : (("str" : Str) == ("__debug__" : Str)) = false := by decide
theorem dc_str : (("str" : Str) == ("__classdict__" : Str)) = false := by decide
theorem nn_str : ("str" : Str) ≠ "__name__" := by decide
theorem dn_letter : (("letter" : Str) == ("__debug__" : Str)) = false := by decide
theorem dc_letter : (("letter" : Str) == ("__classdict__" : Str)) = false := by decide
theorem nn_letter : ("letter" : Str) ≠ "__name__" := by decide
theorem dn_len : (("len" : Str) == ("__debug__" : Str)) = false := by decide
theorem dc_len : (("len" : Str) == ("__classdict__" : Str)) = false := by decide
theorem nn_len : ("len" : Str) ≠ "__name__" := by decide
theorem dn_is_name : (("is_name" : Str) == ("__debug__" : Str)) = false := by decide
theorem dc_is_name : (("is_name" : Str) == ("__classdict__" : Str)) = false := by decide
theorem nn_is_name : ("is_name" : Str) ≠ "__name__" := by decide
theorem dn_tuple : (("tuple" : Str) == ("__debug__" : Str)) = false := by decide
theorem dc_tuple : (("tuple" : Str) == ("__classdict__" : Str)) = false := by decide
theorem nn_tuple : ("tuple" : Str) ≠ "__name__" := by decide
theorem dn_is_kind : (("is_kind" : Str) == ("__debug__" : Str)) = false := by decide
theorem dc_is_kind : (("is_kind" : Str) == ("__classdict__" : Str)) = false := by decide
theorem nn_is_kind : ("is_kind" : Str) ≠ "__name__" := by decide
theorem dn_is_whole : (("is_whole" : Str) == ("__debug__" : Str)) = false := by decide
theorem dc_is_whole : (("is_whole" : Str) == ("__classdict__" : Str)) = false := by decide
theorem nn_is_whole : ("is_whole" : Str) ≠ "__name__" := by decide
theorem dn_sum : (("sum" : Str) == ("__debug__" : Str)) = false := by decide
theorem dc_sum : (("sum" : Str) == ("__classdict__" : Str)) = false := by decide
theorem nn_sum : ("sum" : Str) ≠ "__name__" := by decide
theorem dn_list : (("list" : Str) == ("__debug__" : Str)) = false := by decide
theorem dc_list : (("list" : Str) == ("__classdict__" : Str)) = false := by decide
theorem nn_list : ("list" : Str) ≠ "__name__" := by decide
theorem dn_is_part : (("is_part" : Str) == ("__debug__" : Str)) = false := by decide
theorem dc_is_part : (("is_part" : Str) == ("__classdict__" : Str)) = false := by decide
theorem nn_is_part : ("is_part" : Str) ≠ "__name__" := by decide
theorem dn_part : (("part" : Str) == ("__debug__" : Str)) = false := by decide
theorem dc_part : (("part" : Str) == ("__classdict__" : Str)) = false := by decide
theorem nn_part : ("part" : Str) ≠ "__name__" := by decide
theorem dn_parts : (("parts" : Str) == ("__debug__" : Str)) = false := by decide
theorem dc_parts : (("parts" : Str) == ("__classdict__" : Str)) = false := by decide
theorem nn_parts : ("parts" : Str) ≠ "__name__" := by decide
theorem dn_kind : (("kind" : Str) == ("__debug__" : Str)) = false := by decide
theorem dc_kind : (("kind" : Str) == ("__classdict__" : Str)) = false := by decide
theorem nn_kind : ("kind" : Str) ≠ "__name__" := by decide
theorem dn_kinds : (("kinds" : Str) == ("__debug__" : Str)) = false := by decide
theorem dc_kinds : (("kinds" : Str) == ("__classdict__" : Str)) = false := by decide
theorem nn_kinds : ("kinds" : Str) ≠ "__name__" := by decide
theorem dn_are_parts : (("are_parts" : Str) == ("__debug__" : Str)) = false := by decide
theorem dc_are_parts : (("are_parts" : Str) == ("__classdict__" : Str)) = false := by decide
theorem nn_are_parts : ("are_parts" : Str) ≠ "__name__" := by decide
theorem dn_NoGoods : (("NoGoods" : Str) == ("__debug__" : Str)) = false := by decide
theorem dc_NoGoods : (("NoGoods" : Str) == ("__classdict__" : Str)) = false := by decide
theorem nn_NoGoods : ("NoGoods" : Str) ≠ "__name__" := by decide
theorem dn_weight_in : (("weight_in" : Str) == ("__debug__" : Str)) = false := by decide
theorem dc_weight_in : (("weight_in" : Str) == ("__classdict__" : Str)) = false := by decide
theorem nn_weight_in : ("weight_in" : Str) ≠ "__name__" := by decide
theorem dn__law_script : (("_law_script" : Str) == ("__debug__" : Str)) = false := by decide
theorem dc__law_script : (("_law_script" : Str) == ("__classdict__" : Str)) = false := by decide
theorem nn__law_script : ("_law_script" : Str) ≠ "__name__" := by decide
theorem dn__law_k : (("_law_k" : Str) == ("__debug__" : Str)) = false := by decide
theorem dc__law_k : (("_law_k" : Str) == ("__classdict__" : Str)) = false := by decide
theorem nn__law_k : ("_law_k" : Str) ≠ "__name__" := by decide
theorem dn__law_cell : (("_law_cell" : Str) == ("__debug__" : Str)) = false := by decide
theorem dc__law_cell : (("_law_cell" : Str) == ("__classdict__" : Str)) = false := by decide
theorem nn__law_cell : ("_law_cell" : Str) ≠ "__name__" := by decide
theorem dn__law_more : (("_law_more" : Str) == ("__debug__" : Str)) = false := by decide
theorem dc__law_more : (("_law_more" : Str) == ("__classdict__" : Str)) = false := by decide
theorem nn__law_more : ("_law_more" : Str) ≠ "__name__" := by decide
theorem dn__law_letters : (("_law_letters" : Str) == ("__debug__" : Str)) = false := by decide
theorem dc__law_letters : (("_law_letters" : Str) == ("__classdict__" : Str)) = false := by decide
theorem nn__law_letters : ("_law_letters" : Str) ≠ "__name__" := by decide
theorem dn__law_primes : (("_law_primes" : Str) == ("__debug__" : Str)) = false := by decide
theorem dc__law_primes : (("_law_primes" : Str) == ("__classdict__" : Str)) = false := by decide
theorem nn__law_primes : ("_law_primes" : Str) ≠ "__name__" := by decide
theorem dn__law_some : (("_law_some" : Str) == ("__debug__" : Str)) = false := by decide
theorem dc__law_some : (("_law_some" : Str) == ("__classdict__" : Str)) = false := by decide
theorem nn__law_some : ("_law_some" : Str) ≠ "__name__" := by decide
theorem dn_range : (("range" : Str) == ("__debug__" : Str)) = false := by decide
theorem dc_range : (("range" : Str) == ("__classdict__" : Str)) = false := by decide
theorem nn_range : ("range" : Str) ≠ "__name__" := by decide
theorem dn__law_signs : (("_law_signs" : Str) == ("__debug__" : Str)) = false := by decide
theorem dc__law_signs : (("_law_signs" : Str) == ("__classdict__" : Str)) = false := by decide
theorem nn__law_signs : ("_law_signs" : Str) ≠ "__name__" := by decide
theorem dn__law_size : (("_law_size" : Str) == ("__debug__" : Str)) = false := by decide
theorem dc__law_size : (("_law_size" : Str) == ("__classdict__" : Str)) = false := by decide
theorem nn__law_size : ("_law_size" : Str) ≠ "__name__" := by decide
theorem dn__law_j : (("_law_j" : Str) == ("__debug__" : Str)) = false := by decide
theorem dc__law_j : (("_law_j" : Str) == ("__classdict__" : Str)) = false := by decide
theorem nn__law_j : ("_law_j" : Str) ≠ "__name__" := by decide
theorem dn__law_sign : (("_law_sign" : Str) == ("__debug__" : Str)) = false := by decide
theorem dc__law_sign : (("_law_sign" : Str) == ("__classdict__" : Str)) = false := by decide
theorem nn__law_sign : ("_law_sign" : Str) ≠ "__name__" := by decide
theorem dn__law_stuffs : (("_law_stuffs" : Str) == ("__debug__" : Str)) = false := by decide
theorem dc__law_stuffs : (("_law_stuffs" : Str) == ("__classdict__" : Str)) = false := by decide
theorem nn__law_stuffs : ("_law_stuffs" : Str) ≠ "__name__" := by decide
theorem dn__law_uses : (("_law_uses" : Str) == ("__debug__" : Str)) = false := by decide
theorem dc__law_uses : (("_law_uses" : Str) == ("__classdict__" : Str)) = false := by decide
theorem nn__law_uses : ("_law_uses" : Str) ≠ "__name__" := by decide
theorem dn__law_many : (("_law_many" : Str) == ("__debug__" : Str)) = false := by decide
theorem dc__law_many : (("_law_many" : Str) == ("__classdict__" : Str)) = false := by decide
theorem nn__law_many : ("_law_many" : Str) ≠ "__name__" := by decide
theorem dn__law_step : (("_law_step" : Str) == ("__debug__" : Str)) = false := by decide
theorem dc__law_step : (("_law_step" : Str) == ("__classdict__" : Str)) = false := by decide
theorem nn__law_step : ("_law_step" : Str) ≠ "__name__" := by decide
theorem dn__law_cell_at : (("_law_cell_at" : Str) == ("__debug__" : Str)) = false := by decide
theorem dc__law_cell_at : (("_law_cell_at" : Str) == ("__classdict__" : Str)) = false := by decide
theorem nn__law_cell_at : ("_law_cell_at" : Str) ≠ "__name__" := by decide
theorem dn__law_names : (("_law_names" : Str) == ("__debug__" : Str)) = false := by decide
theorem dc__law_names : (("_law_names" : Str) == ("__classdict__" : Str)) = false := by decide
theorem nn__law_names : ("_law_names" : Str) ≠ "__name__" := by decide
theorem dn__law_spot : (("_law_spot" : Str) == ("__debug__" : Str)) = false := by decide
theorem dc__law_spot : (("_law_spot" : Str) == ("__classdict__" : Str)) = false := by decide
theorem nn__law_spot : ("_law_spot" : Str) ≠ "__name__" := by decide
theorem dn__law_kinds_here : (("_law_kinds_here" : Str) == ("__debug__" : Str)) = false := by decide
theorem dc__law_kinds_here : (("_law_kinds_here" : Str) == ("__classdict__" : Str)) = false := by decide
theorem nn__law_kinds_here : ("_law_kinds_here" : Str) ≠ "__name__" := by decide
theorem dn__law_parts_here : (("_law_parts_here" : Str) == ("__debug__" : Str)) = false := by decide
theorem dc__law_parts_here : (("_law_parts_here" : Str) == ("__classdict__" : Str)) = false := by decide
theorem nn__law_parts_here : ("_law_parts_here" : Str) ≠ "__name__" := by decide
theorem dn__law_stuff : (("_law_stuff" : Str) == ("__debug__" : Str)) = false := by decide
theorem dc__law_stuff : (("_law_stuff" : Str) == ("__classdict__" : Str)) = false := by decide
theorem nn__law_stuff : ("_law_stuff" : Str) ≠ "__name__" := by decide
theorem dn__law_use : (("_law_use" : Str) == ("__debug__" : Str)) = false := by decide
theorem dc__law_use : (("_law_use" : Str) == ("__classdict__" : Str)) = false := by decide
theorem nn__law_use : ("_law_use" : Str) ≠ "__name__" := by decide
theorem dn__law_strange_here : (("_law_strange_here" : Str) == ("__debug__" : Str)) = false := by decide
theorem dc__law_strange_here : (("_law_strange_here" : Str) == ("__classdict__" : Str)) = false := by decide
theorem nn__law_strange_here : ("_law_strange_here" : Str) ≠ "__name__" := by decide
theorem dn__law_turned : (("_law_turned" : Str) == ("__debug__" : Str)) = false := by decide
theorem dc__law_turned : (("_law_turned" : Str) == ("__classdict__" : Str)) = false := by decide
theorem nn__law_turned : ("_law_turned" : Str) ≠ "__name__" := by decide
theorem dn_e : (("e" : Str) == ("__debug__" : Str)) = false := by decide
theorem dc_e : (("e" : Str) == ("__classdict__" : Str)) = false := by decide
theorem nn_e : ("e" : Str) ≠ "__name__" := by decide
theorem dn_folded : (("folded" : Str) == ("__debug__" : Str)) = false := by decide
theorem dc_folded : (("folded" : Str) == ("__classdict__" : Str)) = false := by decide
theorem nn_folded : ("folded" : Str) ≠ "__name__" := by decide
theorem dn_NoBands : (("NoBands" : Str) == ("__debug__" : Str)) = false := by decide
theorem dc_NoBands : (("NoBands" : Str) == ("__classdict__" : Str)) = false := by decide
theorem nn_NoBands : ("NoBands" : Str) ≠ "__name__" := by decide
theorem dn_NoDeed : (("NoDeed" : Str) == ("__debug__" : Str)) = false := by decide
theorem dc_NoDeed : (("NoDeed" : Str) == ("__classdict__" : Str)) = false := by decide
theorem nn_NoDeed : ("NoDeed" : Str) ≠ "__name__" := by decide
theorem dn_NoEntry : (("NoEntry" : Str) == ("__debug__" : Str)) = false := by decide
theorem dc_NoEntry : (("NoEntry" : Str) == ("__classdict__" : Str)) = false := by decide
theorem nn_NoEntry : ("NoEntry" : Str) ≠ "__name__" := by decide
theorem dn_NoKinds : (("NoKinds" : Str) == ("__debug__" : Str)) = false := by decide
theorem dc_NoKinds : (("NoKinds" : Str) == ("__classdict__" : Str)) = false := by decide
theorem nn_NoKinds : ("NoKinds" : Str) ≠ "__name__" := by decide
theorem dn_NoLot : (("NoLot" : Str) == ("__debug__" : Str)) = false := by decide
theorem dc_NoLot : (("NoLot" : Str) == ("__classdict__" : Str)) = false := by decide
theorem nn_NoLot : ("NoLot" : Str) ≠ "__name__" := by decide
theorem dn_NoNote : (("NoNote" : Str) == ("__debug__" : Str)) = false := by decide
theorem dc_NoNote : (("NoNote" : Str) == ("__classdict__" : Str)) = false := by decide
theorem nn_NoNote : ("NoNote" : Str) ≠ "__name__" := by decide
theorem dn_NoNumber : (("NoNumber" : Str) == ("__debug__" : Str)) = false := by decide
theorem dc_NoNumber : (("NoNumber" : Str) == ("__classdict__" : Str)) = false := by decide
theorem nn_NoNumber : ("NoNumber" : Str) ≠ "__name__" := by decide
theorem dn_NoQuota : (("NoQuota" : Str) == ("__debug__" : Str)) = false := by decide
theorem dc_NoQuota : (("NoQuota" : Str) == ("__classdict__" : Str)) = false := by decide
theorem nn_NoQuota : ("NoQuota" : Str) ≠ "__name__" := by decide
theorem dn_ValueError : (("ValueError" : Str) == ("__debug__" : Str)) = false := by decide
theorem dc_ValueError : (("ValueError" : Str) == ("__classdict__" : Str)) = false := by decide
theorem nn_ValueError : ("ValueError" : Str) ≠ "__name__" := by decide
theorem dn_NoRate : (("NoRate" : Str) == ("__debug__" : Str)) = false := by decide
theorem dc_NoRate : (("NoRate" : Str) == ("__classdict__" : Str)) = false := by decide
theorem nn_NoRate : ("NoRate" : Str) ≠ "__name__" := by decide
theorem dn_NoRow : (("NoRow" : Str) == ("__debug__" : Str)) = false := by decide
theorem dc_NoRow : (("NoRow" : Str) == ("__classdict__" : Str)) = false := by decide
theorem nn_NoRow : ("NoRow" : Str) ≠ "__name__" := by decide
theorem dn_NoRule : (("NoRule" : Str) == ("__debug__" : Str)) = false := by decide
theorem dc_NoRule : (("NoRule" : Str) == ("__classdict__" : Str)) = false := by decide
theorem nn_NoRule : ("NoRule" : Str) ≠ "__name__" := by decide
theorem dn_NoTree : (("NoTree" : Str) == ("__debug__" : Str)) = false := by decide
theorem dc_NoTree : (("NoTree" : Str) == ("__classdict__" : Str)) = false := by decide
theorem nn_NoTree : ("NoTree" : Str) ≠ "__name__" := by decide
theorem dn_TariffError : (("TariffError" : Str) == ("__debug__" : Str)) = false := by decide
theorem dc_TariffError : (("TariffError" : Str) == ("__classdict__" : Str)) = false := by decide
theorem nn_TariffError : ("TariffError" : Str) ≠ "__name__" := by decide
theorem dn__law_sums : (("_law_sums" : Str) == ("__debug__" : Str)) = false := by decide
theorem dc__law_sums : (("_law_sums" : Str) == ("__classdict__" : Str)) = false := by decide
theorem nn__law_sums : ("_law_sums" : Str) ≠ "__name__" := by decide
theorem dn__law_weight : (("_law_weight" : Str) == ("__debug__" : Str)) = false := by decide
theorem dc__law_weight : (("_law_weight" : Str) == ("__classdict__" : Str)) = false := by decide
theorem nn__law_weight : ("_law_weight" : Str) ≠ "__name__" := by decide
theorem dn__law_kind : (("_law_kind" : Str) == ("__debug__" : Str)) = false := by decide
theorem dc__law_kind : (("_law_kind" : Str) == ("__classdict__" : Str)) = false := by decide
theorem nn__law_kind : ("_law_kind" : Str) ≠ "__name__" := by decide
theorem dn__law_wrong : (("_law_wrong" : Str) == ("__debug__" : Str)) = false := by decide
theorem dc__law_wrong : (("_law_wrong" : Str) == ("__classdict__" : Str)) = false := by decide
theorem nn__law_wrong : ("_law_wrong" : Str) ≠ "__name__" := by decide
theorem dn__law_thing : (("_law_thing" : Str) == ("__debug__" : Str)) = false := by decide
theorem dc__law_thing : (("_law_thing" : Str) == ("__classdict__" : Str)) = false := by decide
theorem nn__law_thing : ("_law_thing" : Str) ≠ "__name__" := by decide
theorem dn__law_together : (("_law_together" : Str) == ("__debug__" : Str)) = false := by decide
theorem dc__law_together : (("_law_together" : Str) == ("__classdict__" : Str)) = false := by decide
theorem nn__law_together : ("_law_together" : Str) ≠ "__name__" := by decide
theorem dn__law_great : (("_law_great" : Str) == ("__debug__" : Str)) = false := by decide
theorem dc__law_great : (("_law_great" : Str) == ("__classdict__" : Str)) = false := by decide
theorem nn__law_great : ("_law_great" : Str) ≠ "__name__" := by decide
theorem dn__law_kinds : (("_law_kinds" : Str) == ("__debug__" : Str)) = false := by decide
theorem dc__law_kinds : (("_law_kinds" : Str) == ("__classdict__" : Str)) = false := by decide
theorem nn__law_kinds : ("_law_kinds" : Str) ≠ "__name__" := by decide
theorem dn__law_parts : (("_law_parts" : Str) == ("__debug__" : Str)) = false := by decide
theorem dc__law_parts : (("_law_parts" : Str) == ("__classdict__" : Str)) = false := by decide
theorem nn__law_parts : ("_law_parts" : Str) ≠ "__name__" := by decide
theorem dn__law_strange : (("_law_strange" : Str) == ("__debug__" : Str)) = false := by decide
theorem dc__law_strange : (("_law_strange" : Str) == ("__classdict__" : Str)) = false := by decide
theorem nn__law_strange : ("_law_strange" : Str) ≠ "__name__" := by decide
theorem dn__law_taken : (("_law_taken" : Str) == ("__debug__" : Str)) = false := by decide
theorem dc__law_taken : (("_law_taken" : Str) == ("__classdict__" : Str)) = false := by decide
theorem nn__law_taken : ("_law_taken" : Str) ≠ "__name__" := by decide
theorem dn__law_refused : (("_law_refused" : Str) == ("__debug__" : Str)) = false := by decide
theorem dc__law_refused : (("_law_refused" : Str) == ("__classdict__" : Str)) = false := by decide
theorem nn__law_refused : ("_law_refused" : Str) ≠ "__name__" := by decide
theorem dn__law_refused_by_any : (("_law_refused_by_any" : Str) == ("__debug__" : Str)) = false := by decide
theorem dc__law_refused_by_any : (("_law_refused_by_any" : Str) == ("__classdict__" : Str)) = false := by decide
theorem nn__law_refused_by_any : ("_law_refused_by_any" : Str) ≠ "__name__" := by decide
theorem dn__law_part : (("_law_part" : Str) == ("__debug__" : Str)) = false := by decide
theorem dc__law_part : (("_law_part" : Str) == ("__classdict__" : Str)) = false := by decide
theorem nn__law_part : ("_law_part" : Str) ≠ "__name__" := by decide
abbrev s_is_whole : Stmt := top 16
theorem sc_is_whole : FnScope ["thing"] ["thing"] (defScope s_is_whole) := ⟨rfl, rfl, rfl, by decide +kernel, rfl, by decide +kernel, by decide +kernel⟩
theorem v_is_whole_0 : Vis (defScope s_is_whole) "thing" := by first | exact Or.inl rfl | exact Or.inr (Or.inl rfl) | exact Or.inr (Or.inr rfl)
theorem l_is_whole_0 : Loc (defScope s_is_whole) "thing" := by first | exact Or.inl rfl | exact Or.inr rfl
theorem g_is_whole_isinstance : (defScope s_is_whole).names.lookup ("isinstance" : Str) = some .globalImplicit := by rfl
theorem g_is_whole_int : (defScope s_is_whole).names.lookup ("int" : Str) = some .globalImplicit := by rfl
theorem g_is_whole_bool : (defScope s_is_whole).names.lookup ("bool" : Str) = some .globalImplicit := by rfl
abbrev s_is_name : Stmt := top 18
theorem sc_is_name : FnScope ["thing"] ["thing"] (defScope s_is_name) := ⟨rfl, rfl, rfl, by decide +kernel, rfl, by decide +kernel, by decide +kernel⟩
theorem v_is_name_0 : Vis (defScope s_is_name) "thing" := by first | exact Or.inl rfl | exact Or.inr (Or.inl rfl) | exact Or.inr (Or.inr rfl)
theorem l_is_name_0 : Loc (defScope s_is_name) "thing" := by first | exact Or.inl rfl | exact Or.inr rfl
theorem g_is_name_isinstance : (defScope s_is_name).names.lookup ("isinstance" : Str) = some .globalImplicit := by rfl
theorem g_is_name_str : (defScope s_is_name).names.lookup ("str" : Str) = some .globalImplicit := by rfl
theorem g_is_name_len : (defScope s_is_name).names.lookup ("len" : Str) = some .globalImplicit := by rfl
theorem g_is_name_all : (defScope s_is_name).names.lookup ("all" : Str) = some .globalImplicit := by rfl
abbrev s_is_kind : Stmt := top 20
theorem sc_is_kind : FnScope ["thing"] ["thing"] (defScope s_is_kind) := ⟨rfl, rfl, rfl, by decide +kernel, rfl, by decide +kernel, by decide +kernel⟩
theorem v_is_kind_0 : Vis (defScope s_is_kind) "thing" := by first | exact Or.inl rfl | exact Or.inr (Or.inl rfl) | exact Or.inr (Or.inr rfl)
theorem l_is_kind_0 : Loc (defScope s_is_kind) "thing" := by first | exact Or.inl rfl | exact Or.inr rfl
theorem g_is_kind_isinstance : (defScope s_is_kind).names.lookup ("isinstance" : Str) = some .globalImplicit := by rfl
theorem g_is_kind_tuple : (defScope s_is_kind).names.lookup ("tuple" : Str) = some .globalImplicit := by rfl
theorem g_is_kind_len : (defScope s_is_kind).names.lookup ("len" : Str) = some .globalImplicit := by rfl
theorem g_is_kind_is_name : (defScope s_is_kind).names.lookup ("is_name" : Str) = some .globalImplicit := by rfl
abbrev s_is_part : Stmt := top 21
theorem sc_is_part : FnScope ["thing"] ["thing"] (defScope s_is_part) := ⟨rfl, rfl, rfl, by decide +kernel, rfl, by decide +kernel, by decide +kernel⟩
theorem v_is_part_0 : Vis (defScope s_is_part) "thing" := by first | exact Or.inl rfl | exact Or.inr (Or.inl rfl) | exact Or.inr (Or.inr rfl)
theorem l_is_part_0 : Loc (defScope s_is_part) "thing" := by first | exact Or.inl rfl | exact Or.inr rfl
theorem g_is_part_isinstance : (defScope s_is_part).names.lookup ("isinstance" : Str) = some .globalImplicit := by rfl
theorem g_is_part_tuple : (defScope s_is_part).names.lookup ("tuple" : Str) = some .globalImplicit := by rfl
theorem g_is_part_len : (defScope s_is_part).names.lookup ("len" : Str) = some .globalImplicit := by rfl
theorem g_is_part_is_kind : (defScope s_is_part).names.lookup ("is_kind" : Str) = some .globalImplicit := by rfl
theorem g_is_part_is_whole : (defScope s_is_part).names.lookup ("is_whole" : Str) = some .globalImplicit := by rfl
abbrev s_are_parts : Stmt := top 22
theorem sc_are_parts : FnScope ["thing"] ["thing"] (defScope s_are_parts) := ⟨rfl, rfl, rfl, by decide +kernel, rfl, by decide +kernel, by decide +kernel⟩
theorem v_are_parts_0 : Vis (defScope s_are_parts) "thing" := by first | exact Or.inl rfl | exact Or.inr (Or.inl rfl) | exact Or.inr (Or.inr rfl)
theorem l_are_parts_0 : Loc (defScope s_are_parts) "thing" := by first | exact Or.inl rfl | exact Or.inr rfl
theorem g_are_parts_isinstance : (defScope s_are_parts).names.lookup ("isinstance" : Str) = some .globalImplicit := by rfl
theorem g_are_parts_list : (defScope s_are_parts).names.lookup ("list" : Str) = some .globalImplicit := by rfl
theorem g_are_parts_len : (defScope s_are_parts).names.lookup ("len" : Str) = some .globalImplicit := by rfl
theorem g_are_parts_all : (defScope s_are_parts).names.lookup ("all" : Str) = some .globalImplicit := by rfl
theorem g_are_parts_sum : (defScope s_are_parts).names.lookup ("sum" : Str) = some .globalImplicit := by rfl
abbrev s_weight_in : Stmt := top 23
theorem sc_weight_in : FnScope ["parts", "kind"] ["parts", "kind"] (defScope s_weight_in) := ⟨rfl, rfl, rfl, by decide +kernel, rfl, by decide +kernel, by decide +kernel⟩
theorem v_weight_in_0 : Vis (defScope s_weight_in) "parts" := by first | exact Or.inl rfl | exact Or.inr (Or.inl rfl) | exact Or.inr (Or.inr rfl)
theorem l_weight_in_0 : Loc (defScope s_weight_in) "parts" := by first | exact Or.inl rfl | exact Or.inr rfl
theorem v_weight_in_1 : Vis (defScope s_weight_in) "kind" := by first | exact Or.inl rfl | exact Or.inr (Or.inl rfl) | exact Or.inr (Or.inr rfl)
theorem l_weight_in_1 : Loc (defScope s_weight_in) "kind" := by first | exact Or.inl rfl | exact Or.inr rfl
theorem g_weight_in_sum : (defScope s_weight_in).names.lookup ("sum" : Str) = some .globalImplicit := by rfl
abbrev s_folded : Stmt := top 24
theorem sc_folded : FnScope ["kinds", "parts"] ["kinds", "parts"] (defScope s_folded) := ⟨rfl, rfl, rfl, by decide +kernel, rfl, by decide +kernel, by decide +kernel⟩
theorem v_folded_0 : Vis (defScope s_folded) "kinds" := by first | exact Or.inl rfl | exact Or.inr (Or.inl rfl) | exact Or.inr (Or.inr rfl)
theorem l_folded_0 : Loc (defScope s_folded) "kinds" := by first | exact Or.inl rfl | exact Or.inr rfl
theorem v_folded_1 : Vis (defScope s_folded) "parts" := by first | exact Or.inl rfl | exact Or.inr (Or.inl rfl) | exact Or.inr (Or.inr rfl)
theorem l_folded_1 : Loc (defScope s_folded) "parts" := by first | exact Or.inl rfl | exact Or.inr rfl
theorem g_folded_are_parts : (defScope s_folded).names.lookup ("are_parts" : Str) = some .globalImplicit := by rfl
theorem g_folded_NoGoods : (defScope s_folded).names.lookup ("NoGoods" : Str) = some .globalImplicit := by rfl
theorem g_folded_all : (defScope s_folded).names.lookup ("all" : Str) = some .globalImplicit := by rfl
abbrev s_law_cell_at : Stmt := top 26
theorem sc_law_cell_at : FnScope ["_law_script", "_law_k"] ["_law_script", "_law_k"] (defScope s_law_cell_at) := ⟨rfl, rfl, rfl, by decide +kernel, rfl, by decide +kernel, by decide +kernel⟩
theorem v_law_cell_at_0 : Vis (defScope s_law_cell_at) "_law_script" := by first | exact Or.inl rfl | exact Or.inr (Or.inl rfl) | exact Or.inr (Or.inr rfl)
theorem l_law_cell_at_0 : Loc (defScope s_law_cell_at) "_law_script" := by first | exact Or.inl rfl | exact Or.inr rfl
theorem v_law_cell_at_1 : Vis (defScope s_law_cell_at) "_law_k" := by first | exact Or.inl rfl | exact Or.inr (Or.inl rfl) | exact Or.inr (Or.inr rfl)
theorem l_law_cell_at_1 : Loc (defScope s_law_cell_at) "_law_k" := by first | exact Or.inl rfl | exact Or.inr rfl
theorem g_law_cell_at_len : (defScope s_law_cell_at).names.lookup ("len" : Str) = some .globalImplicit := by rfl
abbrev s_law_names : Stmt := top 27
theorem sc_law_names : FnScope ["_law_cell", "_law_more", "_law_letters", "_law_primes", "_law_some", "_law_k", "_law_signs", "_law_size"] ["_law_cell", "_law_more"] (defScope s_law_names) := ⟨rfl, rfl, rfl, by decide +kernel, rfl, by decide +kernel, by decide +kernel⟩
theorem v_law_names_0 : Vis (defScope s_law_names) "_law_cell" := by first | exact Or.inl rfl | exact Or.inr (Or.inl rfl) | exact Or.inr (Or.inr rfl)
theorem l_law_names_0 : Loc (defScope s_law_names) "_law_cell" := by first | exact Or.inl rfl | exact Or.inr rfl
theorem v_law_names_1 : Vis (defScope s_law_names) "_law_more" := by first | exact Or.inl rfl | exact Or.inr (Or.inl rfl) | exact Or.inr (Or.inr rfl)
theorem l_law_names_1 : Loc (defScope s_law_names) "_law_more" := by first | exact Or.inl rfl | exact Or.inr rfl
theorem v_law_names_2 : Vis (defScope s_law_names) "_law_letters" := by first | exact Or.inl rfl | exact Or.inr (Or.inl rfl) | exact Or.inr (Or.inr rfl)
theorem l_law_names_2 : Loc (defScope s_law_names) "_law_letters" := by first | exact Or.inl rfl | exact Or.inr rfl
theorem v_law_names_3 : Vis (defScope s_law_names) "_law_primes" := by first | exact Or.inl rfl | exact Or.inr (Or.inl rfl) | exact Or.inr (Or.inr rfl)
theorem l_law_names_3 : Loc (defScope s_law_names) "_law_primes" := by first | exact Or.inl rfl | exact Or.inr rfl
theorem v_law_names_4 : Vis (defScope s_law_names) "_law_some" := by first | exact Or.inl rfl | exact Or.inr (Or.inl rfl) | exact Or.inr (Or.inr rfl)
theorem l_law_names_4 : Loc (defScope s_law_names) "_law_some" := by first | exact Or.inl rfl | exact Or.inr rfl
theorem v_law_names_5 : Vis (defScope s_law_names) "_law_k" := by first | exact Or.inl rfl | exact Or.inr (Or.inl rfl) | exact Or.inr (Or.inr rfl)
theorem l_law_names_5 : Loc (defScope s_law_names) "_law_k" := by first | exact Or.inl rfl | exact Or.inr rfl
theorem v_law_names_6 : Vis (defScope s_law_names) "_law_signs" := by first | exact Or.inl rfl | exact Or.inr (Or.inl rfl) | exact Or.inr (Or.inr rfl)
theorem l_law_names_6 : Loc (defScope s_law_names) "_law_signs" := by first | exact Or.inl rfl | exact Or.inr rfl
theorem v_law_names_7 : Vis (defScope s_law_names) "_law_size" := by first | exact Or.inl rfl | exact Or.inr (Or.inl rfl) | exact Or.inr (Or.inr rfl)
theorem l_law_names_7 : Loc (defScope s_law_names) "_law_size" := by first | exact Or.inl rfl | exact Or.inr rfl
theorem g_law_names_range : (defScope s_law_names).names.lookup ("range" : Str) = some .globalImplicit := by rfl
abbrev s_law_kinds : Stmt := top 28
theorem sc_law_kinds : FnScope ["_law_script", "_law_cell", "_law_stuffs", "_law_uses", "_law_many", "_law_step", "_law_some", "_law_k", "_law_spot"] ["_law_script"] (defScope s_law_kinds) := ⟨rfl, rfl, rfl, by decide +kernel, rfl, by decide +kernel, by decide +kernel⟩
theorem v_law_kinds_0 : Vis (defScope s_law_kinds) "_law_script" := by first | exact Or.inl rfl | exact Or.inr (Or.inl rfl) | exact Or.inr (Or.inr rfl)
theorem l_law_kinds_0 : Loc (defScope s_law_kinds) "_law_script" := by first | exact Or.inl rfl | exact Or.inr rfl
theorem v_law_kinds_1 : Vis (defScope s_law_kinds) "_law_cell" := by first | exact Or.inl rfl | exact Or.inr (Or.inl rfl) | exact Or.inr (Or.inr rfl)
theorem l_law_kinds_1 : Loc (defScope s_law_kinds) "_law_cell" := by first | exact Or.inl rfl | exact Or.inr rfl
theorem v_law_kinds_2 : Vis (defScope s_law_kinds) "_law_stuffs" := by first | exact Or.inl rfl | exact Or.inr (Or.inl rfl) | exact Or.inr (Or.inr rfl)
theorem l_law_kinds_2 : Loc (defScope s_law_kinds) "_law_stuffs" := by first | exact Or.inl rfl | exact Or.inr rfl
theorem v_law_kinds_3 : Vis (defScope s_law_kinds) "_law_uses" := by first | exact Or.inl rfl | exact Or.inr (Or.inl rfl) | exact Or.inr (Or.inr rfl)
theorem l_law_kinds_3 : Loc (defScope s_law_kinds) "_law_uses" := by first | exact Or.inl rfl | exact Or.inr rfl
theorem v_law_kinds_4 : Vis (defScope s_law_kinds) "_law_many" := by first | exact Or.inl rfl | exact Or.inr (Or.inl rfl) | exact Or.inr (Or.inr rfl)
theorem l_law_kinds_4 : Loc (defScope s_law_kinds) "_law_many" := by first | exact Or.inl rfl | exact Or.inr rfl
theorem v_law_kinds_5 : Vis (defScope s_law_kinds) "_law_step" := by first | exact Or.inl rfl | exact Or.inr (Or.inl rfl) | exact Or.inr (Or.inr rfl)
theorem l_law_kinds_5 : Loc (defScope s_law_kinds) "_law_step" := by first | exact Or.inl rfl | exact Or.inr rfl
theorem v_law_kinds_6 : Vis (defScope s_law_kinds) "_law_some" := by first | exact Or.inl rfl | exact Or.inr (Or.inl rfl) | exact Or.inr (Or.inr rfl)
theorem l_law_kinds_6 : Loc (defScope s_law_kinds) "_law_some" := by first | exact Or.inl rfl | exact Or.inr rfl
theorem v_law_kinds_7 : Vis (defScope s_law_kinds) "_law_k" := by first | exact Or.inl rfl | exact Or.inr (Or.inl rfl) | exact Or.inr (Or.inr rfl)
theorem l_law_kinds_7 : Loc (defScope s_law_kinds) "_law_k" := by first | exact Or.inl rfl | exact Or.inr rfl
theorem v_law_kinds_8 : Vis (defScope s_law_kinds) "_law_spot" := by first | exact Or.inl rfl | exact Or.inr (Or.inl rfl) | exact Or.inr (Or.inr rfl)
theorem l_law_kinds_8 : Loc (defScope s_law_kinds) "_law_spot" := by first | exact Or.inl rfl | exact Or.inr rfl
theorem g_law_kinds__law_cell_at : (defScope s_law_kinds).names.lookup ("_law_cell_at" : Str) = some .globalImplicit := by rfl
theorem g_law_kinds__law_names : (defScope s_law_kinds).names.lookup ("_law_names" : Str) = some .globalImplicit := by rfl
theorem g_law_kinds_range : (defScope s_law_kinds).names.lookup ("range" : Str) = some .globalImplicit := by rfl
abbrev s_law_parts : Stmt := top 29
theorem sc_law_parts : FnScope ["_law_script", "_law_kinds_here", "_law_parts_here", "_law_k", "_law_cell", "_law_stuff", "_law_use"] ["_law_script", "_law_kinds_here"] (defScope s_law_parts) := ⟨rfl, rfl, rfl, by decide +kernel, rfl, by decide +kernel, by decide +kernel⟩
theorem v_law_parts_0 : Vis (defScope s_law_parts) "_law_script" := by first | exact Or.inl rfl | exact Or.inr (Or.inl rfl) | exact Or.inr (Or.inr rfl)
theorem l_law_parts_0 : Loc (defScope s_law_parts) "_law_script" := by first | exact Or.inl rfl | exact Or.inr rfl
theorem v_law_parts_1 : Vis (defScope s_law_parts) "_law_kinds_here" := by first | exact Or.inl rfl | exact Or.inr (Or.inl rfl) | exact Or.inr (Or.inr rfl)
theorem l_law_parts_1 : Loc (defScope s_law_parts) "_law_kinds_here" := by first | exact Or.inl rfl | exact Or.inr rfl
theorem v_law_parts_2 : Vis (defScope s_law_parts) "_law_parts_here" := by first | exact Or.inl rfl | exact Or.inr (Or.inl rfl) | exact Or.inr (Or.inr rfl)
theorem l_law_parts_2 : Loc (defScope s_law_parts) "_law_parts_here" := by first | exact Or.inl rfl | exact Or.inr rfl
theorem v_law_parts_3 : Vis (defScope s_law_parts) "_law_k" := by first | exact Or.inl rfl | exact Or.inr (Or.inl rfl) | exact Or.inr (Or.inr rfl)
theorem l_law_parts_3 : Loc (defScope s_law_parts) "_law_k" := by first | exact Or.inl rfl | exact Or.inr rfl
theorem v_law_parts_4 : Vis (defScope s_law_parts) "_law_cell" := by first | exact Or.inl rfl | exact Or.inr (Or.inl rfl) | exact Or.inr (Or.inr rfl)
theorem l_law_parts_4 : Loc (defScope s_law_parts) "_law_cell" := by first | exact Or.inl rfl | exact Or.inr rfl
theorem v_law_parts_5 : Vis (defScope s_law_parts) "_law_stuff" := by first | exact Or.inl rfl | exact Or.inr (Or.inl rfl) | exact Or.inr (Or.inr rfl)
theorem l_law_parts_5 : Loc (defScope s_law_parts) "_law_stuff" := by first | exact Or.inl rfl | exact Or.inr rfl
theorem v_law_parts_6 : Vis (defScope s_law_parts) "_law_use" := by first | exact Or.inl rfl | exact Or.inr (Or.inl rfl) | exact Or.inr (Or.inr rfl)
theorem l_law_parts_6 : Loc (defScope s_law_parts) "_law_use" := by first | exact Or.inl rfl | exact Or.inr rfl
theorem g_law_parts_range : (defScope s_law_parts).names.lookup ("range" : Str) = some .globalImplicit := by rfl
theorem g_law_parts__law_cell_at : (defScope s_law_parts).names.lookup ("_law_cell_at" : Str) = some .globalImplicit := by rfl
theorem g_law_parts_len : (defScope s_law_parts).names.lookup ("len" : Str) = some .globalImplicit := by rfl
abbrev s_law_strange : Stmt := top 30
theorem sc_law_strange : FnScope ["_law_kinds_here", "_law_cell", "_law_stuff", "_law_use", "_law_strange_here", "_law_turned", "_law_some"] ["_law_kinds_here", "_law_cell"] (defScope s_law_strange) := ⟨rfl, rfl, rfl, by decide +kernel, rfl, by decide +kernel, by decide +kernel⟩
theorem v_law_strange_0 : Vis (defScope s_law_strange) "_law_kinds_here" := by first | exact Or.inl rfl | exact Or.inr (Or.inl rfl) | exact Or.inr (Or.inr rfl)
theorem l_law_strange_0 : Loc (defScope s_law_strange) "_law_kinds_here" := by first | exact Or.inl rfl | exact Or.inr rfl
theorem v_law_strange_1 : Vis (defScope s_law_strange) "_law_cell" := by first | exact Or.inl rfl | exact Or.inr (Or.inl rfl) | exact Or.inr (Or.inr rfl)
theorem l_law_strange_1 : Loc (defScope s_law_strange) "_law_cell" := by first | exact Or.inl rfl | exact Or.inr rfl
theorem v_law_strange_2 : Vis (defScope s_law_strange) "_law_stuff" := by first | exact Or.inl rfl | exact Or.inr (Or.inl rfl) | exact Or.inr (Or.inr rfl)
theorem l_law_strange_2 : Loc (defScope s_law_strange) "_law_stuff" := by first | exact Or.inl rfl | exact Or.inr rfl
theorem v_law_strange_3 : Vis (defScope s_law_strange) "_law_use" := by first | exact Or.inl rfl | exact Or.inr (Or.inl rfl) | exact Or.inr (Or.inr rfl)
theorem l_law_strange_3 : Loc (defScope s_law_strange) "_law_use" := by first | exact Or.inl rfl | exact Or.inr rfl
theorem v_law_strange_4 : Vis (defScope s_law_strange) "_law_strange_here" := by first | exact Or.inl rfl | exact Or.inr (Or.inl rfl) | exact Or.inr (Or.inr rfl)
theorem l_law_strange_4 : Loc (defScope s_law_strange) "_law_strange_here" := by first | exact Or.inl rfl | exact Or.inr rfl
theorem v_law_strange_5 : Vis (defScope s_law_strange) "_law_turned" := by first | exact Or.inl rfl | exact Or.inr (Or.inl rfl) | exact Or.inr (Or.inr rfl)
theorem l_law_strange_5 : Loc (defScope s_law_strange) "_law_turned" := by first | exact Or.inl rfl | exact Or.inr rfl
theorem v_law_strange_6 : Vis (defScope s_law_strange) "_law_some" := by first | exact Or.inl rfl | exact Or.inr (Or.inl rfl) | exact Or.inr (Or.inr rfl)
theorem l_law_strange_6 : Loc (defScope s_law_strange) "_law_some" := by first | exact Or.inl rfl | exact Or.inr rfl
theorem g_law_strange_len : (defScope s_law_strange).names.lookup ("len" : Str) = some .globalImplicit := by rfl
abbrev s_law_refused : Stmt := top 31
theorem sc_law_refused : FnScope ["_law_kinds_here", "_law_parts_here", "e"] ["_law_kinds_here", "_law_parts_here"] (defScope s_law_refused) := ⟨rfl, rfl, rfl, by decide +kernel, rfl, by decide +kernel, by decide +kernel⟩
theorem v_law_refused_0 : Vis (defScope s_law_refused) "_law_kinds_here" := by first | exact Or.inl rfl | exact Or.inr (Or.inl rfl) | exact Or.inr (Or.inr rfl)
theorem l_law_refused_0 : Loc (defScope s_law_refused) "_law_kinds_here" := by first | exact Or.inl rfl | exact Or.inr rfl
theorem v_law_refused_1 : Vis (defScope s_law_refused) "_law_parts_here" := by first | exact Or.inl rfl | exact Or.inr (Or.inl rfl) | exact Or.inr (Or.inr rfl)
theorem l_law_refused_1 : Loc (defScope s_law_refused) "_law_parts_here" := by first | exact Or.inl rfl | exact Or.inr rfl
theorem v_law_refused_2 : Vis (defScope s_law_refused) "e" := by first | exact Or.inl rfl | exact Or.inr (Or.inl rfl) | exact Or.inr (Or.inr rfl)
theorem l_law_refused_2 : Loc (defScope s_law_refused) "e" := by first | exact Or.inl rfl | exact Or.inr rfl
theorem g_law_refused_folded : (defScope s_law_refused).names.lookup ("folded" : Str) = some .globalImplicit := by rfl
theorem g_law_refused_NoGoods : (defScope s_law_refused).names.lookup ("NoGoods" : Str) = some .globalImplicit := by rfl
theorem g_law_refused_isinstance : (defScope s_law_refused).names.lookup ("isinstance" : Str) = some .globalImplicit := by rfl
theorem g_law_refused_NoBands : (defScope s_law_refused).names.lookup ("NoBands" : Str) = some .globalImplicit := by rfl
theorem g_law_refused_NoDeed : (defScope s_law_refused).names.lookup ("NoDeed" : Str) = some .globalImplicit := by rfl
theorem g_law_refused_NoEntry : (defScope s_law_refused).names.lookup ("NoEntry" : Str) = some .globalImplicit := by rfl
theorem g_law_refused_NoKinds : (defScope s_law_refused).names.lookup ("NoKinds" : Str) = some .globalImplicit := by rfl
theorem g_law_refused_NoLot : (defScope s_law_refused).names.lookup ("NoLot" : Str) = some .globalImplicit := by rfl
theorem g_law_refused_NoNote : (defScope s_law_refused).names.lookup ("NoNote" : Str) = some .globalImplicit := by rfl
theorem g_law_refused_NoNumber : (defScope s_law_refused).names.lookup ("NoNumber" : Str) = some .globalImplicit := by rfl
theorem g_law_refused_NoQuota : (defScope s_law_refused).names.lookup ("NoQuota" : Str) = some .globalImplicit := by rfl
theorem g_law_refused_ValueError : (defScope s_law_refused).names.lookup ("ValueError" : Str) = some .globalImplicit := by rfl
theorem g_law_refused_NoRate : (defScope s_law_refused).names.lookup ("NoRate" : Str) = some .globalImplicit := by rfl
theorem g_law_refused_NoRow : (defScope s_law_refused).names.lookup ("NoRow" : Str) = some .globalImplicit := by rfl
theorem g_law_refused_NoRule : (defScope s_law_refused).names.lookup ("NoRule" : Str) = some .globalImplicit := by rfl
theorem g_law_refused_NoTree : (defScope s_law_refused).names.lookup ("NoTree" : Str) = some .globalImplicit := by rfl
abbrev s_law_refused_by_any : Stmt := top 32
theorem sc_law_refused_by_any : FnScope ["_law_kinds_here", "_law_parts_here"] ["_law_kinds_here", "_law_parts_here"] (defScope s_law_refused_by_any) := ⟨rfl, rfl, rfl, by decide +kernel, rfl, by decide +kernel, by decide +kernel⟩
theorem v_law_refused_by_any_0 : Vis (defScope s_law_refused_by_any) "_law_kinds_here" := by first | exact Or.inl rfl | exact Or.inr (Or.inl rfl) | exact Or.inr (Or.inr rfl)
theorem l_law_refused_by_any_0 : Loc (defScope s_law_refused_by_any) "_law_kinds_here" := by first | exact Or.inl rfl | exact Or.inr rfl
theorem v_law_refused_by_any_1 : Vis (defScope s_law_refused_by_any) "_law_parts_here" := by first | exact Or.inl rfl | exact Or.inr (Or.inl rfl) | exact Or.inr (Or.inr rfl)
theorem l_law_refused_by_any_1 : Loc (defScope s_law_refused_by_any) "_law_parts_here" := by first | exact Or.inl rfl | exact Or.inr rfl
theorem g_law_refused_by_any_folded : (defScope s_law_refused_by_any).names.lookup ("folded" : Str) = some .globalImplicit := by rfl
theorem g_law_refused_by_any_TariffError : (defScope s_law_refused_by_any).names.lookup ("TariffError" : Str) = some .globalImplicit := by rfl
abbrev s_law_taken : Stmt := top 33
theorem sc_law_taken : FnScope ["_law_kinds_here", "_law_parts_here", "_law_sums", "_law_stuff", "_law_use", "_law_weight", "_law_k"] ["_law_kinds_here", "_law_parts_here"] (defScope s_law_taken) := ⟨rfl, rfl, rfl, by decide +kernel, rfl, by decide +kernel, by decide +kernel⟩
theorem v_law_taken_0 : Vis (defScope s_law_taken) "_law_kinds_here" := by first | exact Or.inl rfl | exact Or.inr (Or.inl rfl) | exact Or.inr (Or.inr rfl)
theorem l_law_taken_0 : Loc (defScope s_law_taken) "_law_kinds_here" := by first | exact Or.inl rfl | exact Or.inr rfl
theorem v_law_taken_1 : Vis (defScope s_law_taken) "_law_parts_here" := by first | exact Or.inl rfl | exact Or.inr (Or.inl rfl) | exact Or.inr (Or.inr rfl)
theorem l_law_taken_1 : Loc (defScope s_law_taken) "_law_parts_here" := by first | exact Or.inl rfl | exact Or.inr rfl
theorem v_law_taken_2 : Vis (defScope s_law_taken) "_law_sums" := by first | exact Or.inl rfl | exact Or.inr (Or.inl rfl) | exact Or.inr (Or.inr rfl)
theorem l_law_taken_2 : Loc (defScope s_law_taken) "_law_sums" := by first | exact Or.inl rfl | exact Or.inr rfl
theorem v_law_taken_3 : Vis (defScope s_law_taken) "_law_stuff" := by first | exact Or.inl rfl | exact Or.inr (Or.inl rfl) | exact Or.inr (Or.inr rfl)
theorem l_law_taken_3 : Loc (defScope s_law_taken) "_law_stuff" := by first | exact Or.inl rfl | exact Or.inr rfl
theorem v_law_taken_4 : Vis (defScope s_law_taken) "_law_use" := by first | exact Or.inl rfl | exact Or.inr (Or.inl rfl) | exact Or.inr (Or.inr rfl)
theorem l_law_taken_4 : Loc (defScope s_law_taken) "_law_use" := by first | exact Or.inl rfl | exact Or.inr rfl
theorem v_law_taken_5 : Vis (defScope s_law_taken) "_law_weight" := by first | exact Or.inl rfl | exact Or.inr (Or.inl rfl) | exact Or.inr (Or.inr rfl)
theorem l_law_taken_5 : Loc (defScope s_law_taken) "_law_weight" := by first | exact Or.inl rfl | exact Or.inr rfl
theorem v_law_taken_6 : Vis (defScope s_law_taken) "_law_k" := by first | exact Or.inl rfl | exact Or.inr (Or.inl rfl) | exact Or.inr (Or.inr rfl)
theorem l_law_taken_6 : Loc (defScope s_law_taken) "_law_k" := by first | exact Or.inl rfl | exact Or.inr rfl
theorem g_law_taken_range : (defScope s_law_taken).names.lookup ("range" : Str) = some .globalImplicit := by rfl
theorem g_law_taken_len : (defScope s_law_taken).names.lookup ("len" : Str) = some .globalImplicit := by rfl
theorem g_law_taken_folded : (defScope s_law_taken).names.lookup ("folded" : Str) = some .globalImplicit := by rfl
abbrev s_law : Stmt := top 34
theorem sc_law : FnScope ["_law_script", "_law_kinds_here", "_law_parts_here", "_law_cell", "_law_wrong", "_law_many", "_law_thing", "_law_together", "_law_stuff", "_law_use", "_law_great"] ["_law_script"] (defScope s_law) := ⟨rfl, rfl, rfl, by decide +kernel, rfl, by decide +kernel, by decide +kernel⟩
theorem v_law_0 : Vis (defScope s_law) "_law_script" := by first | exact Or.inl rfl | exact Or.inr (Or.inl rfl) | exact Or.inr (Or.inr rfl)
theorem l_law_0 : Loc (defScope s_law) "_law_script" := by first | exact Or.inl rfl | exact Or.inr rfl
theorem v_law_1 : Vis (defScope s_law) "_law_kinds_here" := by first | exact Or.inl rfl | exact Or.inr (Or.inl rfl) | exact Or.inr (Or.inr rfl)
theorem l_law_1 : Loc (defScope s_law) "_law_kinds_here" := by first | exact Or.inl rfl | exact Or.inr rfl
theorem v_law_2 : Vis (defScope s_law) "_law_parts_here" := by first | exact Or.inl rfl | exact Or.inr (Or.inl rfl) | exact Or.inr (Or.inr rfl)
theorem l_law_2 : Loc (defScope s_law) "_law_parts_here" := by first | exact Or.inl rfl | exact Or.inr rfl
theorem v_law_3 : Vis (defScope s_law) "_law_cell" := by first | exact Or.inl rfl | exact Or.inr (Or.inl rfl) | exact Or.inr (Or.inr rfl)
theorem l_law_3 : Loc (defScope s_law) "_law_cell" := by first | exact Or.inl rfl | exact Or.inr rfl
theorem v_law_4 : Vis (defScope s_law) "_law_wrong" := by first | exact Or.inl rfl | exact Or.inr (Or.inl rfl) | exact Or.inr (Or.inr rfl)
theorem l_law_4 : Loc (defScope s_law) "_law_wrong" := by first | exact Or.inl rfl | exact Or.inr rfl
theorem v_law_5 : Vis (defScope s_law) "_law_many" := by first | exact Or.inl rfl | exact Or.inr (Or.inl rfl) | exact Or.inr (Or.inr rfl)
theorem l_law_5 : Loc (defScope s_law) "_law_many" := by first | exact Or.inl rfl | exact Or.inr rfl
theorem v_law_6 : Vis (defScope s_law) "_law_thing" := by first | exact Or.inl rfl | exact Or.inr (Or.inl rfl) | exact Or.inr (Or.inr rfl)
theorem l_law_6 : Loc (defScope s_law) "_law_thing" := by first | exact Or.inl rfl | exact Or.inr rfl
theorem v_law_7 : Vis (defScope s_law) "_law_together" := by first | exact Or.inl rfl | exact Or.inr (Or.inl rfl) | exact Or.inr (Or.inr rfl)
theorem l_law_7 : Loc (defScope s_law) "_law_together" := by first | exact Or.inl rfl | exact Or.inr rfl
theorem v_law_8 : Vis (defScope s_law) "_law_stuff" := by first | exact Or.inl rfl | exact Or.inr (Or.inl rfl) | exact Or.inr (Or.inr rfl)
theorem l_law_8 : Loc (defScope s_law) "_law_stuff" := by first | exact Or.inl rfl | exact Or.inr rfl
theorem v_law_9 : Vis (defScope s_law) "_law_use" := by first | exact Or.inl rfl | exact Or.inr (Or.inl rfl) | exact Or.inr (Or.inr rfl)
theorem l_law_9 : Loc (defScope s_law) "_law_use" := by first | exact Or.inl rfl | exact Or.inr rfl
theorem v_law_10 : Vis (defScope s_law) "_law_great" := by first | exact Or.inl rfl | exact Or.inr (Or.inl rfl) | exact Or.inr (Or.inr rfl)
theorem l_law_10 : Loc (defScope s_law) "_law_great" := by first | exact Or.inl rfl | exact Or.inr rfl
theorem g_law__law_kinds : (defScope s_law).names.lookup ("_law_kinds" : Str) = some .globalImplicit := by rfl
theorem g_law__law_parts : (defScope s_law).names.lookup ("_law_parts" : Str) = some .globalImplicit := by rfl
theorem g_law__law_cell_at : (defScope s_law).names.lookup ("_law_cell_at" : Str) = some .globalImplicit := by rfl
theorem g_law_list : (defScope s_law).names.lookup ("list" : Str) = some .globalImplicit := by rfl
theorem g_law_len : (defScope s_law).names.lookup ("len" : Str) = some .globalImplicit := by rfl
theorem g_law__law_strange : (defScope s_law).names.lookup ("_law_strange" : Str) = some .globalImplicit := by rfl
theorem g_law__law_refused : (defScope s_law).names.lookup ("_law_refused" : Str) = some .globalImplicit := by rfl
theorem g_law__law_refused_by_any : (defScope s_law).names.lookup ("_law_refused_by_any" : Str) = some .globalImplicit := by rfl
theorem g_law_range : (defScope s_law).names.lookup ("range" : Str) = some .globalImplicit := by rfl
theorem g_law_tuple : (defScope s_law).names.lookup ("tuple" : Str) = some .globalImplicit := by rfl
theorem g_law__law_taken : (defScope s_law).names.lookup ("_law_taken" : Str) = some .globalImplicit := by rfl
theorem g_law_sum : (defScope s_law).names.lookup ("sum" : Str) = some .globalImplicit := by rfl

def cellAt (ns : List Int) (k : Int) : Int := if k < (ns.length : Int) then ns.getD k.toNat 0 else 0
def spCellAt (K : PySem.W.Frag) : Sp := fun vs H Q _ => ∃ (a : Addr) (ns : List Int) (k : Int), vs = [.ref a, .int k] ∧ SqL K H a (ns.map V.int) ∧ 0 ≤ k ∧ Q (.int (cellAt ns k)) H
theorem spCellAt_of {K : PySem.W.Frag} {H : Hp} {a : Addr} {ns : List Int} {k : Int} {Q : VK} {E : XK} (h : SqL K H a (ns.map V.int)) (h0 : 0 ≤ k) (q : Q (.int (cellAt ns k)) H) : spCellAt K [.ref a, .int k] H Q E := ⟨a, ns, k, rfl, h, h0, q⟩
section
variable {P : Program} {w : World} {K : PySem.W.Frag} {mg : Str → Option Value} {base : Heap} {f : Addr} {fd : FuncData}
theorem ok_law_cell_at (F : Fun K "_law_cell_at" "_law_cell_at" s_law_cell_at f fd) (M : Mg mg) : FnOk P w K mg base CX0 1 f fd ["_law_script", "_law_k"] (spCellAt K) := by
  refine F.ok sc_law_cell_at (fun vs H Q E h => ?_) (fun cdv A outer s H vs Q E hr h => ?_)
  · obtain ⟨a, ns, k, rfl, _⟩ := h
    rfl
  obtain ⟨a, ns, k, rfl, hS, h0, q⟩ := h
  refine ⟨_, (@pss_cons _ _ _ _ _ (@ps_if _ _ _ _ _ _ _ _ (@pt_cmpR _ _ _ _ _ _ _ _ (@op_lt _) (@pe_var _ 1 _ _ rfl v_law_cell_at_1 dn__law_k dc__law_k) (@pe_callB _ _ _ _ _ _ _ _ _ call_len_seq g_law_cell_at_len M.m_len b_len (@pa_cons _ _ _ _ _ (@pe_var _ 0 _ _ rfl v_law_cell_at_0 dn__law_script dc__law_script) (@pa_nil _) (star1 rfl)) nn_len dn_len (star1 rfl) nost0) (nomark _)) (@pss_one _ _ _ (@ps_ret _ _ _ _ (@pe_ix _ _ _ _ _ _ _ (@ix_list _) (@pe_var _ 0 _ _ rfl v_law_cell_at_0 dn__law_script dc__law_script) (@pe_var _ 1 _ _ rfl v_law_cell_at_1 dn__law_k dc__law_k) (fun _ _ => rfl)))) (@pss_nil _)) (@pss_one _ _ _ (@ps_ret _ _ _ _ (@pe_int _ _ _ _)))), ?_⟩
  unfold cellAt at q
  simp only [tTryN, rSlS, rMulS, rCatS, iZipL, rInsert, rReverse, tDNewX, tTry, tRaise, iEnumL, iEnumT, iZip, iSeq, iOr, rIx, iStr, rLeS, rJoin, rSlTA, tComp_eq, tComp1, slots, Option.getD_some, Option.getD_none, tYes, tSeq, tAsg, gName, tOp, tUn, tC, tVar, tCB, tCons, tNil, tCall, rI, rI0, rU, tRet, tRetN, tIfS, tTest, tB, tAnd, tOr, tNot, tAndV, tOrV, tNotV, tIf, tChain, tMenu, tPar, tDrop, tTup, tLst, tNext, tSl, tPart, tNoPart, tNever, gTup, gCons, gNil, gSub, rSetL, tBM, rAppend, rEq, rNe, rIsi, rIxL, rIxT, rIxS, rSlL, isi_non_bl, isi_non_int, isi_non_str, isi_non_lst, isi_non_tup, isi_bl_bl, isi_bl_int, isi_bl_str, isi_bl_lst, isi_bl_tup, isi_int_bl, isi_int_int, isi_int_str, isi_int_lst, isi_int_tup, isi_str_bl, isi_str_int, isi_str_str, isi_str_lst, isi_str_tup, isi_lst_bl, isi_lst_int, isi_lst_str, isi_lst_lst, isi_lst_tup, isi_tup_bl, isi_tup_int, isi_tup_str, isi_tup_lst, isi_tup_tup, isi_dct_bl, isi_dct_int, isi_dct_str, isi_dct_lst, isi_dct_tup, Kd_non, Kd_bl, Kd_int, Kd_str, sc_non_non, sc_non_int, sc_int_non, sc_non_bl, sc_bl_non, sc_non_str, sc_str_non, sc_int_int, sc_bl_bl, sc_str_str, sc_int_str, sc_str_int, sc_bl_str, sc_str_bl, decide_true, decide_false, tFor_eq, iList, iTup, iRng1, iRng2, iRng3, rIndexT, tBM0, tBMT, tyK_int, tyK_bool, tyK_str, tyK_list, tyK_tuple, L2.start, cxK, Int.reduceToNat, List.map_cons, List.map_nil, List.length_cons, List.length_nil, Nat.reduceAdd, Nat.reduceSub, Nat.zero_add, List.replicate_succ, List.replicate_zero, List.cons_append, List.nil_append, List.append_nil, List.getElem?_cons_zero, List.getElem?_cons_succ, List.set_cons_zero, List.set_cons_succ, Option.some.injEq, V.int.injEq, V.bl.injEq, V.ref.injEq, V.str.injEq, V.ty.injEq, List.cons.injEq, exists_eq_left', exists_eq_left, exists_eq_right, exists_and_left, exists_and_right, and_true, true_and, and_assoc, exists_const, decide_eq_true_eq, Bool.not_eq_true', Bool.not_true, Bool.not_false, Bool.not_not, decide_eq_false_iff_not, ite_not, Bool.false_eq_true, if_true, if_false, reduceCtorEq, and_false, false_and, exists_false, or_false, false_or, ↓reduceIte, eq_self, reduceIte]
  refine ⟨_, .inl hS, ?_⟩
  rw [List.length_map]
  by_cases hk : k < (ns.length : Int)
  · rw [if_pos hk]
    rw [if_pos hk] at q
    exact ⟨_, hS, _, atI_map h0 hk, q⟩
  · rw [if_neg hk]
    rw [if_neg hk] at q
    exact q
end

def wholeK : Kn → Bool
  | .int => true
  | _ => false
def spIsWhole (K : PySem.W.Frag) : Sp := fun vs H Q _ => ∃ v k, vs = [v] ∧ Kd K H v k ∧ Q (.bl (wholeK k)) H
theorem spIsWhole_of {K : PySem.W.Frag} {H : Hp} {v : V} {k : Kn} {Q : VK} {E : XK} (h : Kd K H v k) (q : Q (.bl (wholeK k)) H) : spIsWhole K [v] H Q E := ⟨v, k, rfl, h, q⟩
theorem kd_int {K : PySem.W.Frag} {H : Hp} {v : V} (h : Kd K H v .int) : ∃ i, v = .int i := by
  cases v with
  | int i => exact ⟨i, rfl⟩
  | ref a => rcases h with ⟨z, _⟩ | ⟨z, _⟩ | ⟨z, _⟩ <;> cases z
  | non => cases h
  | bl b => cases h
  | str x => cases h
  | byt b => exact h.elim
  | flt b => exact h.elim
  | ty n => exact h.elim
theorem kd_same {K : PySem.W.Frag} {H H' : Hp} {v : V} {k : Kn} (e : Same H H') (h : Kd K H v k) : Kd K H' v k := by
  cases v with
  | ref a =>
    rcases h with ⟨z, xs, h⟩ | ⟨z, xs, h⟩ | ⟨z, h⟩
    · exact .inl ⟨z, xs, e.seq h⟩
    · exact .inr (.inl ⟨z, xs, Same.tup e h⟩)
    · exact .inr (.inr ⟨z, e _ _ h⟩)
  | _ => exact h
theorem wholeK_ne {k : Kn} (h : k ≠ .int) : wholeK k = false := by
  cases k <;> first | rfl | exact absurd rfl h
section
variable {P : Program} {w : World} {K : PySem.W.Frag} {mg : Str → Option Value} {base : Heap} {f : Addr} {fd : FuncData}
theorem ok_is_whole (F : Fun K "is_whole" "is_whole" s_is_whole f fd) (M : Mg mg) : FnOk P w K mg base CX0 1 f fd ["thing"] (spIsWhole K) := by
  refine F.ok sc_is_whole (fun vs H Q E h => ?_) (fun cdv A outer s H vs Q E hr h => ?_)
  · obtain ⟨v, k, rfl, _⟩ := h
    rfl
  obtain ⟨v, k, rfl, hk, q⟩ := h
  refine ⟨_, (@pss_one _ _ _ (@ps_ret _ _ _ _ (@pe_and _ _ _ _ _ _ _ (@pe_callB _ _ _ _ _ _ _ _ _ call_isi g_is_whole_isinstance M.m_isinstance b_isinstance (@pa_cons _ _ _ _ _ (@pe_var _ 0 _ _ rfl v_is_whole_0 dn_thing dc_thing) (@pa_cons _ _ _ _ _ (@pe_bltn _ _ (.ty "int") _ _ g_is_whole_int M.m_int b_int rfl nn_int dn_int) (@pa_nil _) (star1 rfl)) (star1 rfl)) nn_isinstance dn_isinstance (star1 rfl) (nost1 rfl nost0)) (@pe_one _ _ _ _ _ (@pe_not _ _ _ _ (@pe_callB _ _ _ _ _ _ _ _ _ call_isi g_is_whole_isinstance M.m_isinstance b_isinstance (@pa_cons _ _ _ _ _ (@pe_var _ 0 _ _ rfl v_is_whole_0 dn_thing dc_thing) (@pa_cons _ _ _ _ _ (@pe_bltn _ _ (.ty "bool") _ _ g_is_whole_bool M.m_bool b_bool rfl nn_bool dn_bool) (@pa_nil _) (star1 rfl)) (star1 rfl)) nn_isinstance dn_isinstance (star1 rfl) (nost1 rfl nost0))))))), ?_⟩
  simp only [tTryN, rSlS, rMulS, rCatS, iZipL, rInsert, rReverse, tDNewX, tTry, tRaise, iEnumL, iEnumT, iZip, iSeq, iOr, rIx, iStr, rLeS, rJoin, rSlTA, tComp_eq, tComp1, slots, Option.getD_some, Option.getD_none, tYes, tSeq, tAsg, gName, tOp, tUn, tC, tVar, tCB, tCons, tNil, tCall, rI, rI0, rU, tRet, tRetN, tIfS, tTest, tB, tAnd, tOr, tNot, tAndV, tOrV, tNotV, tIf, tChain, tMenu, tPar, tDrop, tTup, tLst, tNext, tSl, tPart, tNoPart, tNever, gTup, gCons, gNil, gSub, rSetL, tBM, rAppend, rEq, rNe, rIsi, rIxL, rIxT, rIxS, rSlL, isi_non_bl, isi_non_int, isi_non_str, isi_non_lst, isi_non_tup, isi_bl_bl, isi_bl_int, isi_bl_str, isi_bl_lst, isi_bl_tup, isi_int_bl, isi_int_int, isi_int_str, isi_int_lst, isi_int_tup, isi_str_bl, isi_str_int, isi_str_str, isi_str_lst, isi_str_tup, isi_lst_bl, isi_lst_int, isi_lst_str, isi_lst_lst, isi_lst_tup, isi_tup_bl, isi_tup_int, isi_tup_str, isi_tup_lst, isi_tup_tup, isi_dct_bl, isi_dct_int, isi_dct_str, isi_dct_lst, isi_dct_tup, Kd_non, Kd_bl, Kd_int, Kd_str, sc_non_non, sc_non_int, sc_int_non, sc_non_bl, sc_bl_non, sc_non_str, sc_str_non, sc_int_int, sc_bl_bl, sc_str_str, sc_int_str, sc_str_int, sc_bl_str, sc_str_bl, decide_true, decide_false, tFor_eq, iList, iTup, iRng1, iRng2, iRng3, rIndexT, tBM0, tBMT, tyK_int, tyK_bool, tyK_str, tyK_list, tyK_tuple, L2.start, cxK, Int.reduceToNat, List.map_cons, List.map_nil, List.length_cons, List.length_nil, Nat.reduceAdd, Nat.reduceSub, Nat.zero_add, List.replicate_succ, List.replicate_zero, List.cons_append, List.nil_append, List.append_nil, List.getElem?_cons_zero, List.getElem?_cons_succ, List.set_cons_zero, List.set_cons_succ, Option.some.injEq, V.int.injEq, V.bl.injEq, V.ref.injEq, V.str.injEq, V.ty.injEq, List.cons.injEq, exists_eq_left', exists_eq_left, exists_eq_right, exists_and_left, exists_and_right, and_true, true_and, and_assoc, exists_const, decide_eq_true_eq, Bool.not_eq_true', Bool.not_true, Bool.not_false, Bool.not_not, decide_eq_false_iff_not, ite_not, Bool.false_eq_true, if_true, if_false, reduceCtorEq, and_false, false_and, exists_false, or_false, false_or, ↓reduceIte, eq_self, reduceIte]
  refine ⟨_, hk, ?_⟩
  cases k with
  | int => exact ⟨_, hk, q⟩
  | bl => exact ⟨_, hk, q⟩
  | _ => exact q
end

def nameB (cs : List Nat) : Bool := decide (1 ≤ cs.length ∧ cs.length ≤ 8) && cs.all isLow
abbrev asc (cs : List Nat) : Prop := cs.all (fun c => decide (c < 128)) = true
inductive NameV (K : PySem.W.Frag) (H : Hp) : V → Bool → Prop
  | no {v : V} {k : Kn} : Kd K H v k → k ≠ .str → NameV K H v false
  | txt {cs : List Nat} : asc cs → cs.length ≤ 1000 → NameV K H (.str (txt cs)) (nameB cs)
def spIsName (K : PySem.W.Frag) : Sp := fun vs H Q _ => ∃ v b, vs = [v] ∧ NameV K H v b ∧ ∀ H', Same H H' → Q (.bl b) H'
theorem isi_str_ne {k : Kn} (h : k ≠ .str) : isiB k .str = false := by
  cases k <;> first | rfl | exact absurd rfl h
theorem txt_len (cs : List Nat) : (txt cs).length = cs.length := List.size_toArray ..
section
variable {P : Program} {w : World} {K : PySem.W.Frag} {mg : Str → Option Value} {base : Heap} {f : Addr} {fd : FuncData}
theorem ok_is_name (F : Fun K "is_name" "is_name" s_is_name f fd) (M : Mg mg) : FnOk P w K mg base CX0 1 f fd ["thing"] (spIsName K) := by
  refine F.ok sc_is_name (fun vs H Q E h => ?_) (fun cdv A outer s H vs Q E hr h => ?_)
  · obtain ⟨v, b, rfl, _⟩ := h
    rfl
  obtain ⟨v, b, rfl, N, q⟩ := h
  refine ⟨_, (@pss_cons _ _ _ _ _ (@ps_if _ _ _ _ _ _ _ _ (@PW.pt _ _ _ (@pw_or _ _ _ _ _ _ _ (@pt_not _ _ _ _ (@pt_val _ _ _ (@pe_callB _ _ _ _ _ _ _ _ _ call_isi g_is_name_isinstance M.m_isinstance b_isinstance (@pa_cons _ _ _ _ _ (@pe_var _ 0 _ _ rfl v_is_name_0 dn_thing dc_thing) (@pa_cons _ _ _ _ _ (@pe_bltn _ _ (.ty "str") _ _ g_is_name_str M.m_str b_str rfl nn_str dn_str) (@pa_nil _) (star1 rfl)) (star1 rfl)) nn_isinstance dn_isinstance (star1 rfl) (nost1 rfl nost0)) (test1 rfl))) (@pw_or1 _ _ _ _ (@pt_not _ _ _ _ (@pt_chain _ _ _ _ _ _ _ _ _ _ _ _ op_le op_le (@pe_int _ _ _ _) (@pe_callB _ _ _ _ _ _ _ _ _ call_len_str g_is_name_len M.m_len b_len (@pa_cons _ _ _ _ _ (@pe_var _ 0 _ _ rfl v_is_name_0 dn_thing dc_thing) (@pa_nil _) (star1 rfl)) nn_len dn_len (star1 rfl) nost0) (@pe_int _ _ _ _) (by with_unfolding_all rfl)))))) (@pss_one _ _ _ (@ps_ret _ _ _ _ (@pe_bl _ _ _ _))) (@pss_nil _)) (@pss_one _ _ _ (@ps_ret _ _ _ _ (@pe_callB _ _ _ _ _ _ _ _ _ (call_all1 rfl) g_is_name_all M.m_all b_all (@pa_cons _ _ _ _ _ (@pe_comp _ _ _ _ _ _ _ _ _ _ _ _ _ _ _ rfl (CompOk.make (N' := ["letter"]) (ix := []) (nl := 1) (by rfl) fm0 (by rfl) (by decide +kernel) rfl (by decide +kernel) rfl True.intro) (@pi_str _ _ _ _ (@pe_var _ 0 _ _ rfl v_is_name_0 dn_thing dc_thing)) (fun _ _ _ _ _ => (@pg_name _ _ 0 _ (show List.Nodup (["letter"] : List Str) from by decide) rfl (Or.inl rfl) (by first | exact .inl rfl | exact .inr rfl | assumption))) (fun _ _ _ _ _ => (@pif_nil _)) (fun _ _ _ _ _ => (@pe_chain _ _ _ _ _ _ _ _ _ _ _ _ op_leS op_leS (@pe_str _ _ _ _) (@pv _ 0 _ _ (by rfl) (by first | exact Or.inl rfl | exact Or.inr (Or.inl rfl) | exact Or.inr (Or.inr rfl)) (by decide) (by decide)) (@pe_str _ _ _ _) (by with_unfolding_all rfl))) (by intro _; rfl)) (@pa_nil _) (star1 rfl)) nn_all dn_all (star1 rfl) nost0)))), ?_⟩
  cases N with
  | no kd hk =>
    simp only [tTryN, rSlS, rMulS, rCatS, iZipL, rInsert, rReverse, tDNewX, tTry, tRaise, iEnumL, iEnumT, iZip, iSeq, iOr, rIx, iStr, rLeS, rJoin, rSlTA, tComp_eq, tComp1, slots, Option.getD_some, Option.getD_none, tYes, tSeq, tAsg, gName, tOp, tUn, tC, tVar, tCB, tCons, tNil, tCall, rI, rI0, rU, tRet, tRetN, tIfS, tTest, tB, tAnd, tOr, tNot, tAndV, tOrV, tNotV, tIf, tChain, tMenu, tPar, tDrop, tTup, tLst, tNext, tSl, tPart, tNoPart, tNever, gTup, gCons, gNil, gSub, rSetL, tBM, rAppend, rEq, rNe, rIsi, rIxL, rIxT, rIxS, rSlL, isi_non_bl, isi_non_int, isi_non_str, isi_non_lst, isi_non_tup, isi_bl_bl, isi_bl_int, isi_bl_str, isi_bl_lst, isi_bl_tup, isi_int_bl, isi_int_int, isi_int_str, isi_int_lst, isi_int_tup, isi_str_bl, isi_str_int, isi_str_str, isi_str_lst, isi_str_tup, isi_lst_bl, isi_lst_int, isi_lst_str, isi_lst_lst, isi_lst_tup, isi_tup_bl, isi_tup_int, isi_tup_str, isi_tup_lst, isi_tup_tup, isi_dct_bl, isi_dct_int, isi_dct_str, isi_dct_lst, isi_dct_tup, Kd_non, Kd_bl, Kd_int, Kd_str, sc_non_non, sc_non_int, sc_int_non, sc_non_bl, sc_bl_non, sc_non_str, sc_str_non, sc_int_int, sc_bl_bl, sc_str_str, sc_int_str, sc_str_int, sc_bl_str, sc_str_bl, decide_true, decide_false, tFor_eq, iList, iTup, iRng1, iRng2, iRng3, rIndexT, tBM0, tBMT, tyK_int, tyK_bool, tyK_str, tyK_list, tyK_tuple, L2.start, cxK, Int.reduceToNat, List.map_cons, List.map_nil, List.length_cons, List.length_nil, Nat.reduceAdd, Nat.reduceSub, Nat.zero_add, List.replicate_succ, List.replicate_zero, List.cons_append, List.nil_append, List.append_nil, List.getElem?_cons_zero, List.getElem?_cons_succ, List.set_cons_zero, List.set_cons_succ, Option.some.injEq, V.int.injEq, V.bl.injEq, V.ref.injEq, V.str.injEq, V.ty.injEq, List.cons.injEq, exists_eq_left', exists_eq_left, exists_eq_right, exists_and_left, exists_and_right, and_true, true_and, and_assoc, exists_const, decide_eq_true_eq, Bool.not_eq_true', Bool.not_true, Bool.not_false, Bool.not_not, decide_eq_false_iff_not, ite_not, Bool.false_eq_true, if_true, if_false, reduceCtorEq, and_false, false_and, exists_false, or_false, false_or, ↓reduceIte, eq_self, reduceIte]
    refine ⟨_, kd, ?_⟩
    rw [if_pos (isi_str_ne hk)]
    exact q _ (Same.refl _)
  | @txt cs ha hn =>
    simp only [tTryN, rSlS, rMulS, rCatS, iZipL, rInsert, rReverse, tDNewX, tTry, tRaise, iEnumL, iEnumT, iZip, iSeq, iOr, rIx, iStr, rLeS, rJoin, rSlTA, tComp_eq, tComp1, slots, Option.getD_some, Option.getD_none, tYes, tSeq, tAsg, gName, tOp, tUn, tC, tVar, tCB, tCons, tNil, tCall, rI, rI0, rU, tRet, tRetN, tIfS, tTest, tB, tAnd, tOr, tNot, tAndV, tOrV, tNotV, tIf, tChain, tMenu, tPar, tDrop, tTup, tLst, tNext, tSl, tPart, tNoPart, tNever, gTup, gCons, gNil, gSub, rSetL, tBM, rAppend, rEq, rNe, rIsi, rIxL, rIxT, rIxS, rSlL, isi_non_bl, isi_non_int, isi_non_str, isi_non_lst, isi_non_tup, isi_bl_bl, isi_bl_int, isi_bl_str, isi_bl_lst, isi_bl_tup, isi_int_bl, isi_int_int, isi_int_str, isi_int_lst, isi_int_tup, isi_str_bl, isi_str_int, isi_str_str, isi_str_lst, isi_str_tup, isi_lst_bl, isi_lst_int, isi_lst_str, isi_lst_lst, isi_lst_tup, isi_tup_bl, isi_tup_int, isi_tup_str, isi_tup_lst, isi_tup_tup, isi_dct_bl, isi_dct_int, isi_dct_str, isi_dct_lst, isi_dct_tup, Kd_non, Kd_bl, Kd_int, Kd_str, sc_non_non, sc_non_int, sc_int_non, sc_non_bl, sc_bl_non, sc_non_str, sc_str_non, sc_int_int, sc_bl_bl, sc_str_str, sc_int_str, sc_str_int, sc_bl_str, sc_str_bl, decide_true, decide_false, tFor_eq, iList, iTup, iRng1, iRng2, iRng3, rIndexT, tBM0, tBMT, tyK_int, tyK_bool, tyK_str, tyK_list, tyK_tuple, L2.start, cxK, Int.reduceToNat, List.map_cons, List.map_nil, List.length_cons, List.length_nil, Nat.reduceAdd, Nat.reduceSub, Nat.zero_add, List.replicate_succ, List.replicate_zero, List.cons_append, List.nil_append, List.append_nil, List.getElem?_cons_zero, List.getElem?_cons_succ, List.set_cons_zero, List.set_cons_succ, Option.some.injEq, V.int.injEq, V.bl.injEq, V.ref.injEq, V.str.injEq, V.ty.injEq, List.cons.injEq, exists_eq_left', exists_eq_left, exists_eq_right, exists_and_left, exists_and_right, and_true, true_and, and_assoc, exists_const, decide_eq_true_eq, Bool.not_eq_true', Bool.not_true, Bool.not_false, Bool.not_not, decide_eq_false_iff_not, ite_not, Bool.false_eq_true, if_true, if_false, reduceCtorEq, and_false, false_and, exists_false, or_false, false_or, ↓reduceIte, eq_self, reduceIte]
    rw [txt_len]
    have sl : cs.length ≤ sizeLine := Nat.le_trans hn (by decide)
    refine ⟨sl, ?_⟩
    by_cases h1 : 1 ≤ (cs.length : Int)
    · rw [if_pos h1]
      by_cases h2 : (cs.length : Int) ≤ 8
      · rw [if_pos h2]
        refine ⟨_, rfl, ha, fun D hD => ?_⟩
        obtain ⟨Pc, hC⟩ : ∃ Pc : Nat → St → Hp → Prop, Pc = fun i τ H' => ∃ z, H' D = some (.lst (((cs.map isLow).take i).map V.bl)) ∧ Same H H' ∧ τ = [z] := ⟨_, rfl⟩
        refine compS_str cs Pc ?_ ?_ ?_
        · rw [hC]
          exact ⟨_, upd_same, same_new hD _, rfl⟩
        · intro i c τ H' R hc h next
          rw [hC] at h
          obtain ⟨z, d1, d2, rfl⟩ := h
          have li : i < cs.length := (List.getElem?_eq_some_iff.mp hc).1
          have key : ∃ ys, H' D = some (.lst ys) ∧ ys.length < sizeLine ∧ R [some (sgn c)] (upd H' D (.lst (ys ++ [.bl (isLow c)]))) := by
            refine ⟨_, d1, ?_, next _ _ ?_⟩
            · rw [List.length_map, List.length_take, List.length_map]
              exact Nat.lt_of_lt_of_le (m := 64) (by omega) (by decide)
            · rw [hC]
              refine ⟨_, ?_, fun b o hb => by rw [upd_ne (ne_of_none hb hD)]; exact d2 _ _ hb, rfl⟩
              rw [upd_same, List.take_add_one, List.getElem?_map, hc, List.map_append]
              rfl
          simp only [tTryN, rSlS, rMulS, rCatS, iZipL, rInsert, rReverse, tDNewX, tTry, tRaise, iEnumL, iEnumT, iZip, iSeq, iOr, rIx, iStr, rLeS, rJoin, rSlTA, tComp_eq, tComp1, slots, Option.getD_some, Option.getD_none, tYes, tSeq, tAsg, gName, tOp, tUn, tC, tVar, tCB, tCons, tNil, tCall, rI, rI0, rU, tRet, tRetN, tIfS, tTest, tB, tAnd, tOr, tNot, tAndV, tOrV, tNotV, tIf, tChain, tMenu, tPar, tDrop, tTup, tLst, tNext, tSl, tPart, tNoPart, tNever, gTup, gCons, gNil, gSub, rSetL, tBM, rAppend, rEq, rNe, rIsi, rIxL, rIxT, rIxS, rSlL, isi_non_bl, isi_non_int, isi_non_str, isi_non_lst, isi_non_tup, isi_bl_bl, isi_bl_int, isi_bl_str, isi_bl_lst, isi_bl_tup, isi_int_bl, isi_int_int, isi_int_str, isi_int_lst, isi_int_tup, isi_str_bl, isi_str_int, isi_str_str, isi_str_lst, isi_str_tup, isi_lst_bl, isi_lst_int, isi_lst_str, isi_lst_lst, isi_lst_tup, isi_tup_bl, isi_tup_int, isi_tup_str, isi_tup_lst, isi_tup_tup, isi_dct_bl, isi_dct_int, isi_dct_str, isi_dct_lst, isi_dct_tup, Kd_non, Kd_bl, Kd_int, Kd_str, sc_non_non, sc_non_int, sc_int_non, sc_non_bl, sc_bl_non, sc_non_str, sc_str_non, sc_int_int, sc_bl_bl, sc_str_str, sc_int_str, sc_str_int, sc_bl_str, sc_str_bl, decide_true, decide_false, tFor_eq, iList, iTup, iRng1, iRng2, iRng3, rIndexT, tBM0, tBMT, tyK_int, tyK_bool, tyK_str, tyK_list, tyK_tuple, L2.start, cxK, Int.reduceToNat, List.map_cons, List.map_nil, List.length_cons, List.length_nil, Nat.reduceAdd, Nat.reduceSub, Nat.zero_add, List.replicate_succ, List.replicate_zero, List.cons_append, List.nil_append, List.append_nil, List.getElem?_cons_zero, List.getElem?_cons_succ, List.set_cons_zero, List.set_cons_succ, Option.some.injEq, V.int.injEq, V.bl.injEq, V.ref.injEq, V.str.injEq, V.ty.injEq, List.cons.injEq, exists_eq_left', exists_eq_left, exists_eq_right, exists_and_left, exists_and_right, and_true, true_and, and_assoc, exists_const, decide_eq_true_eq, Bool.not_eq_true', Bool.not_true, Bool.not_false, Bool.not_not, decide_eq_false_iff_not, ite_not, Bool.false_eq_true, if_true, if_false, reduceCtorEq, and_false, false_and, exists_false, or_false, false_or, ↓reduceIte, eq_self, reduceIte]
          refine ⟨97, rfl, _, rfl, ?_⟩
          unfold isLow at key
          by_cases hc1 : 97 ≤ c
          · rw [decide_eq_true hc1, Bool.true_and] at key
            rw [if_pos hc1]
            exact ⟨_, rfl, 122, rfl, key⟩
          · rw [decide_eq_false hc1, Bool.false_and] at key
            rw [if_neg hc1]
            exact key
        · intro τ H' h
          rw [hC] at h
          obtain ⟨z, d1, d2, rfl⟩ := h
          rw [List.take_of_length_le (by rw [List.length_map]; exact Nat.le_refl _)] at d1
          refine ⟨_, rfl, _, SqL.of d1, ?_⟩
          have e : nameB cs = (cs.map isLow).all id := by
            unfold nameB
            rw [decide_eq_true ⟨by omega, by omega⟩, Bool.true_and, List.all_map]
            rfl
          rw [← e]
          exact q _ d2
      · rw [if_neg h2]
        have e : nameB cs = false := by
          unfold nameB
          rw [decide_eq_false (by omega)]
          rfl
        rw [← e]
        exact q _ (Same.refl _)
    · rw [if_neg h1]
      have e : nameB cs = false := by
        unfold nameB
        rw [decide_eq_false (by omega)]
        rfl
      rw [← e]
      exact q _ (Same.refl _)
end

inductive KindV (K : PySem.W.Frag) (H : Hp) : V → Bool → Prop
  | no {v : V} {k : Kn} : Kd K H v k → k ≠ .tup → KindV K H v false
  | len {p : Addr} {xs : List V} : SqT K H p xs → xs.length ≠ 2 → KindV K H (.ref p) false
  | two {p : Addr} {x y : V} {b c : Bool} : SqT K H p [x, y] → NameV K H x b → NameV K H y c → KindV K H (.ref p) (b && c)
theorem NameV.same {K : PySem.W.Frag} {H H' : Hp} {v : V} {b : Bool} (h : NameV K H v b) (e : Same H H') : NameV K H' v b := by
  cases h with
  | no a c => exact .no (kd_same e a) c
  | txt a c => exact .txt a c
theorem KindV.same {K : PySem.W.Frag} {H H' : Hp} {v : V} {b : Bool} (h : KindV K H v b) (e : Same H H') : KindV K H' v b := by
  cases h with
  | no a c => exact .no (kd_same e a) c
  | len a c => exact .len (Same.tup e a) c
  | two a c d => exact .two (Same.tup e a) (c.same e) (d.same e)
def wB : V → Bool
  | .int i => decide (1 ≤ i)
  | _ => false
inductive PartV (K : PySem.W.Frag) (H : Hp) : V → Bool → Prop
  | no {v : V} {k : Kn} : Kd K H v k → k ≠ .tup → PartV K H v false
  | len {p : Addr} {xs : List V} : SqT K H p xs → xs.length ≠ 3 → PartV K H (.ref p) false
  | three {p : Addr} {x y z : V} {b c : Bool} {k : Kn} : SqT K H p [x, y, z] → NameV K H x b → NameV K H y c → Kd K H z k → PartV K H (.ref p) (b && c && wB z)
theorem PartV.same {K : PySem.W.Frag} {H H' : Hp} {v : V} {b : Bool} (h : PartV K H v b) (e : Same H H') : PartV K H' v b := by
  cases h with
  | no a c => exact .no (kd_same e a) c
  | len a c => exact .len (Same.tup e a) c
  | three a c d f => exact .three (Same.tup e a) (c.same e) (d.same e) (kd_same e f)
def spIsKind (K : PySem.W.Frag) : Sp := fun vs H Q _ => ∃ v b, vs = [v] ∧ KindV K H v b ∧ ∀ H', Same H H' → Q (.bl b) H'
def spIsPart (K : PySem.W.Frag) : Sp := fun vs H Q _ => ∃ v b, vs = [v] ∧ PartV K H v b ∧ ∀ H', Same H H' → Q (.bl b) H'
theorem isiG_tup_ne {k : Kn} (h : k ≠ .tup) : isiB k .tup = false := by
  cases k <;> first | rfl | exact absurd rfl h
theorem wholeB {K : PySem.W.Frag} {H : Hp} {x : V} {k : Kn} (h : Kd K H x k) : (k = .int ∧ ∃ i, x = .int i) ∨ (wholeK k = false ∧ wB x = false) := by
  by_cases e : k = .int
  · subst e
    exact .inl ⟨rfl, kd_int h⟩
  · refine .inr ⟨wholeK_ne e, ?_⟩
    cases x with
    | int i => exact absurd h e
    | _ => rfl
section
variable {P : Program} {w : World} {K : PySem.W.Frag} {mg : Str → Option Value} {base : Heap} {f : Addr} {fd : FuncData}
theorem ok_is_kind (F : Fun K "is_kind" "is_kind" s_is_kind f fd) (M : Mg mg) (C_is_name : Cal P w K mg base CX0 "is_name" 1 ["thing"] (spIsName K)) : FnOk P w K mg base CX0 2 f fd ["thing"] (spIsKind K) := by
  refine F.ok sc_is_kind (fun vs H Q E h => ?_) (fun cdv A outer s H vs Q E hr h => ?_)
  · obtain ⟨v, b, rfl, _⟩ := h
    rfl
  obtain ⟨v, b, rfl, N, q⟩ := h
  refine ⟨_, (@pss_cons _ _ _ _ _ (@ps_if _ _ _ _ _ _ _ _ (@PW.pt _ _ _ (@pw_or _ _ _ _ _ _ _ (@pt_not _ _ _ _ (@pt_val _ _ _ (@pe_callB _ _ _ _ _ _ _ _ _ call_isi g_is_kind_isinstance M.m_isinstance b_isinstance (@pa_cons _ _ _ _ _ (@pe_var _ 0 _ _ rfl v_is_kind_0 dn_thing dc_thing) (@pa_cons _ _ _ _ _ (@pe_bltn _ _ (.ty "tuple") _ _ g_is_kind_tuple M.m_tuple b_tuple rfl nn_tuple dn_tuple) (@pa_nil _) (star1 rfl)) (star1 rfl)) nn_isinstance dn_isinstance (star1 rfl) (nost1 rfl nost0)) (test1 rfl))) (@pw_or1 _ _ _ _ (@pt_cmpR _ _ _ _ _ _ _ _ (@op_ne _) (@pe_callB _ _ _ _ _ _ _ _ _ call_len_seq g_is_kind_len M.m_len b_len (@pa_cons _ _ _ _ _ (@pe_var _ 0 _ _ rfl v_is_kind_0 dn_thing dc_thing) (@pa_nil _) (star1 rfl)) nn_len dn_len (star1 rfl) nost0) (@pe_int _ _ _ _) (nomark _))))) (@pss_one _ _ _ (@ps_ret _ _ _ _ (@pe_bl _ _ _ _))) (@pss_nil _)) (@pss_one _ _ _ (@ps_ret _ _ _ _ (@pe_and _ _ _ _ _ _ _ (@pe_callC _ _ _ _ _ _ _ _ _ _ _ C_is_name hr g_is_kind_is_name (@pa_cons _ _ _ _ _ (@pe_ix _ _ _ _ _ _ _ (@ix_tup _) (@pe_var _ 0 _ _ rfl v_is_kind_0 dn_thing dc_thing) (@pe_int _ _ _ _) (fun _ _ => rfl)) (@pa_nil _) (star1 rfl)) (by decide) dn_is_name (star1 rfl) nost0) (@pe_one _ _ _ _ _ (@pe_callC _ _ _ _ _ _ _ _ _ _ _ C_is_name hr g_is_kind_is_name (@pa_cons _ _ _ _ _ (@pe_ix _ _ _ _ _ _ _ (@ix_tup _) (@pe_var _ 0 _ _ rfl v_is_kind_0 dn_thing dc_thing) (@pe_int _ _ _ _) (fun _ _ => rfl)) (@pa_nil _) (star1 rfl)) (by decide) dn_is_name (star1 rfl) nost0)))))), ?_⟩
  simp only [tTryN, rSlS, rMulS, rCatS, iZipL, rInsert, rReverse, tDNewX, tTry, tRaise, iEnumL, iEnumT, iZip, iSeq, iOr, rIx, iStr, rLeS, rJoin, rSlTA, tComp_eq, tComp1, slots, Option.getD_some, Option.getD_none, tYes, tSeq, tAsg, gName, tOp, tUn, tC, tVar, tCB, tCons, tNil, tCall, rI, rI0, rU, tRet, tRetN, tIfS, tTest, tB, tAnd, tOr, tNot, tAndV, tOrV, tNotV, tIf, tChain, tMenu, tPar, tDrop, tTup, tLst, tNext, tSl, tPart, tNoPart, tNever, gTup, gCons, gNil, gSub, rSetL, tBM, rAppend, rEq, rNe, rIsi, rIxL, rIxT, rIxS, rSlL, isi_non_bl, isi_non_int, isi_non_str, isi_non_lst, isi_non_tup, isi_bl_bl, isi_bl_int, isi_bl_str, isi_bl_lst, isi_bl_tup, isi_int_bl, isi_int_int, isi_int_str, isi_int_lst, isi_int_tup, isi_str_bl, isi_str_int, isi_str_str, isi_str_lst, isi_str_tup, isi_lst_bl, isi_lst_int, isi_lst_str, isi_lst_lst, isi_lst_tup, isi_tup_bl, isi_tup_int, isi_tup_str, isi_tup_lst, isi_tup_tup, isi_dct_bl, isi_dct_int, isi_dct_str, isi_dct_lst, isi_dct_tup, Kd_non, Kd_bl, Kd_int, Kd_str, sc_non_non, sc_non_int, sc_int_non, sc_non_bl, sc_bl_non, sc_non_str, sc_str_non, sc_int_int, sc_bl_bl, sc_str_str, sc_int_str, sc_str_int, sc_bl_str, sc_str_bl, decide_true, decide_false, tFor_eq, iList, iTup, iRng1, iRng2, iRng3, rIndexT, tBM0, tBMT, tyK_int, tyK_bool, tyK_str, tyK_list, tyK_tuple, L2.start, cxK, Int.reduceToNat, List.map_cons, List.map_nil, List.length_cons, List.length_nil, Nat.reduceAdd, Nat.reduceSub, Nat.zero_add, List.replicate_succ, List.replicate_zero, List.cons_append, List.nil_append, List.append_nil, List.getElem?_cons_zero, List.getElem?_cons_succ, List.set_cons_zero, List.set_cons_succ, Option.some.injEq, V.int.injEq, V.bl.injEq, V.ref.injEq, V.str.injEq, V.ty.injEq, List.cons.injEq, exists_eq_left', exists_eq_left, exists_eq_right, exists_and_left, exists_and_right, and_true, true_and, and_assoc, exists_const, decide_eq_true_eq, Bool.not_eq_true', Bool.not_true, Bool.not_false, Bool.not_not, decide_eq_false_iff_not, ite_not, Bool.false_eq_true, if_true, if_false, reduceCtorEq, and_false, false_and, exists_false, or_false, false_or, ↓reduceIte, eq_self, reduceIte]
  cases N with
  | no kd hk =>
    refine ⟨_, kd, ?_⟩
    rw [if_pos (isiG_tup_ne hk)]
    exact q _ (Same.refl _)
  | len T hl =>
    refine ⟨_, Kd.tup T, ?_⟩
    rw [if_neg (by decide)]
    refine ⟨_, rfl, _, .inr T, ?_⟩
    rw [if_neg (by omega)]
    exact q _ (Same.refl _)
  | @two p x y b c T n1 n2 =>
    refine ⟨_, Kd.tup T, ?_⟩
    rw [if_neg (by decide)]
    refine ⟨_, rfl, _, .inr T, ?_⟩
    rw [if_pos (show (([x, y].length : Nat) : Int) = 2 from rfl)]
    refine ⟨_, rfl, _, T, _, rfl, _, _, rfl, n1, fun H1 e1 => ⟨_, rfl, ?_⟩⟩
    cases b with
    | true =>
      rw [if_pos rfl]
      exact ⟨_, rfl, _, Same.tup e1 T, _, rfl, _, _, rfl, n2.same e1, fun H2 e2 => q _ (e1.trans e2)⟩
    | false =>
      rw [if_neg (by decide)]
      exact q _ e1
theorem ok_is_part (F : Fun K "is_part" "is_part" s_is_part f fd) (M : Mg mg) (C_is_whole : Cal P w K mg base CX0 "is_whole" 1 ["thing"] (spIsWhole K)) (C_is_kind : Cal P w K mg base CX0 "is_kind" 2 ["thing"] (spIsKind K)) : FnOk P w K mg base CX0 3 f fd ["thing"] (spIsPart K) := by
  refine F.ok sc_is_part (fun vs H Q E h => ?_) (fun cdv A outer s H vs Q E hr h => ?_)
  · obtain ⟨v, b, rfl, _⟩ := h
    rfl
  obtain ⟨v, b, rfl, N, q⟩ := h
  refine ⟨_, (@pss_cons _ _ _ _ _ (@ps_if _ _ _ _ _ _ _ _ (@PW.pt _ _ _ (@pw_or _ _ _ _ _ _ _ (@pt_not _ _ _ _ (@pt_val _ _ _ (@pe_callB _ _ _ _ _ _ _ _ _ call_isi g_is_part_isinstance M.m_isinstance b_isinstance (@pa_cons _ _ _ _ _ (@pe_var _ 0 _ _ rfl v_is_part_0 dn_thing dc_thing) (@pa_cons _ _ _ _ _ (@pe_bltn _ _ (.ty "tuple") _ _ g_is_part_tuple M.m_tuple b_tuple rfl nn_tuple dn_tuple) (@pa_nil _) (star1 rfl)) (star1 rfl)) nn_isinstance dn_isinstance (star1 rfl) (nost1 rfl nost0)) (test1 rfl))) (@pw_or1 _ _ _ _ (@pt_cmpR _ _ _ _ _ _ _ _ (@op_ne _) (@pe_callB _ _ _ _ _ _ _ _ _ call_len_seq g_is_part_len M.m_len b_len (@pa_cons _ _ _ _ _ (@pe_var _ 0 _ _ rfl v_is_part_0 dn_thing dc_thing) (@pa_nil _) (star1 rfl)) nn_len dn_len (star1 rfl) nost0) (@pe_int _ _ _ _) (nomark _))))) (@pss_one _ _ _ (@ps_ret _ _ _ _ (@pe_bl _ _ _ _))) (@pss_nil _)) (@pss_one _ _ _ (@ps_ret _ _ _ _ (@pe_and _ _ _ _ _ _ _ (@pe_callC _ _ _ _ _ _ _ _ _ _ _ C_is_kind hr g_is_part_is_kind (@pa_cons _ _ _ _ _ (@pe_slice _ _ _ _ _ _ _ _ _ _ (@sl_tupA _) (@pe_var _ 0 _ _ rfl v_is_part_0 dn_thing dc_thing) (@po_none _) (@po_some _ _ _ (@pe_int _ _ _ _))) (@pa_nil _) (star1 rfl)) (by decide) dn_is_kind (star1 rfl) nost0) (@pe_and _ _ _ _ _ _ _ (@pe_callC _ _ _ _ _ _ _ _ _ _ _ C_is_whole hr g_is_part_is_whole (@pa_cons _ _ _ _ _ (@pe_ix _ _ _ _ _ _ _ (@ix_tup _) (@pe_var _ 0 _ _ rfl v_is_part_0 dn_thing dc_thing) (@pe_int _ _ _ _) (fun _ _ => rfl)) (@pa_nil _) (star1 rfl)) (by decide) dn_is_whole (star1 rfl) nost0) (@pe_one _ _ _ _ _ (@pe_cmpR _ _ _ _ _ _ _ _ (@op_ge _) (@pe_ix _ _ _ _ _ _ _ (@ix_tup _) (@pe_var _ 0 _ _ rfl v_is_part_0 dn_thing dc_thing) (@pe_int _ _ _ _) (fun _ _ => rfl)) (@pe_int _ _ _ _) (nomark _)))))))), ?_⟩
  simp only [tTryN, rSlS, rMulS, rCatS, iZipL, rInsert, rReverse, tDNewX, tTry, tRaise, iEnumL, iEnumT, iZip, iSeq, iOr, rIx, iStr, rLeS, rJoin, rSlTA, tComp_eq, tComp1, slots, Option.getD_some, Option.getD_none, tYes, tSeq, tAsg, gName, tOp, tUn, tC, tVar, tCB, tCons, tNil, tCall, rI, rI0, rU, tRet, tRetN, tIfS, tTest, tB, tAnd, tOr, tNot, tAndV, tOrV, tNotV, tIf, tChain, tMenu, tPar, tDrop, tTup, tLst, tNext, tSl, tPart, tNoPart, tNever, gTup, gCons, gNil, gSub, rSetL, tBM, rAppend, rEq, rNe, rIsi, rIxL, rIxT, rIxS, rSlL, isi_non_bl, isi_non_int, isi_non_str, isi_non_lst, isi_non_tup, isi_bl_bl, isi_bl_int, isi_bl_str, isi_bl_lst, isi_bl_tup, isi_int_bl, isi_int_int, isi_int_str, isi_int_lst, isi_int_tup, isi_str_bl, isi_str_int, isi_str_str, isi_str_lst, isi_str_tup, isi_lst_bl, isi_lst_int, isi_lst_str, isi_lst_lst, isi_lst_tup, isi_tup_bl, isi_tup_int, isi_tup_str, isi_tup_lst, isi_tup_tup, isi_dct_bl, isi_dct_int, isi_dct_str, isi_dct_lst, isi_dct_tup, Kd_non, Kd_bl, Kd_int, Kd_str, sc_non_non, sc_non_int, sc_int_non, sc_non_bl, sc_bl_non, sc_non_str, sc_str_non, sc_int_int, sc_bl_bl, sc_str_str, sc_int_str, sc_str_int, sc_bl_str, sc_str_bl, decide_true, decide_false, tFor_eq, iList, iTup, iRng1, iRng2, iRng3, rIndexT, tBM0, tBMT, tyK_int, tyK_bool, tyK_str, tyK_list, tyK_tuple, L2.start, cxK, Int.reduceToNat, List.map_cons, List.map_nil, List.length_cons, List.length_nil, Nat.reduceAdd, Nat.reduceSub, Nat.zero_add, List.replicate_succ, List.replicate_zero, List.cons_append, List.nil_append, List.append_nil, List.getElem?_cons_zero, List.getElem?_cons_succ, List.set_cons_zero, List.set_cons_succ, Option.some.injEq, V.int.injEq, V.bl.injEq, V.ref.injEq, V.str.injEq, V.ty.injEq, List.cons.injEq, exists_eq_left', exists_eq_left, exists_eq_right, exists_and_left, exists_and_right, and_true, true_and, and_assoc, exists_const, decide_eq_true_eq, Bool.not_eq_true', Bool.not_true, Bool.not_false, Bool.not_not, decide_eq_false_iff_not, ite_not, Bool.false_eq_true, if_true, if_false, reduceCtorEq, and_false, false_and, exists_false, or_false, false_or, ↓reduceIte, eq_self, reduceIte]
  cases N with
  | no kd hk =>
    refine ⟨_, kd, ?_⟩
    rw [if_pos (isiG_tup_ne hk)]
    exact q _ (Same.refl _)
  | len T hl =>
    refine ⟨_, Kd.tup T, ?_⟩
    rw [if_neg (by decide)]
    refine ⟨_, rfl, _, .inr T, ?_⟩
    rw [if_neg (by omega)]
    exact q _ (Same.refl _)
  | @three p x y z b c k T n1 n2 kz =>
    refine ⟨_, Kd.tup T, ?_⟩
    rw [if_neg (by decide)]
    refine ⟨_, rfl, _, .inr T, ?_⟩
    rw [if_pos (show (([x, y, z].length : Nat) : Int) = 3 from rfl)]
    have ec : cutV [x, y, z] none (some 2) = [x, y] := cut_to (n := 2)
    refine ⟨_, rfl, _, T, fun e => absurd (congrArg List.length (ec.symm.trans e)) (by simp), fun t ht => ?_⟩
    rw [ec]
    obtain ⟨H1, g1, S1, T1⟩ := fresh_tup (K := K) ht [x, y]
    rw [← g1]
    clear g1
    refine ⟨_, _, rfl, .two T1 (n1.same S1) (n2.same S1), fun H2 e2 => ⟨_, rfl, ?_⟩⟩
    have S2 := S1.trans e2
    cases hbc : (b && c) with
    | false =>
      rw [if_neg (by decide)]
      rw [hbc, Bool.false_and] at q
      exact q _ S2
    | true =>
      rw [if_pos rfl]
      rw [hbc, Bool.true_and] at q
      refine ⟨_, rfl, _, Same.tup S2 T, _, rfl, spIsWhole_of (kd_same S2 kz) ⟨_, rfl, ?_⟩⟩
      rcases wholeB kz with ⟨rfl, i, rfl⟩ | ⟨e1, e2'⟩
      · rw [if_pos (by decide)]
        exact ⟨_, rfl, _, Same.tup S2 T, _, rfl, _, rfl, q _ S2⟩
      · rw [e1, if_neg (by decide)]
        rw [e2'] at q
        exact q _ S2
end

abbrev lettersS : Str := "abcdefghijklmnopqrstuvwxyz"
theorem letters_at : ∀ r : Nat, r < 26 → lettersS.cps.toList[r]? = some (97 + r) := by decide +kernel
def primes : List Int := [10007, 10009, 10037, 10039, 10061, 10067, 10069, 10079]
def baseS (c : Int) : List Int := (List.range 8).map fun j : Nat => c * (48271 + 7919 * (0 + (j : Int))) % primes.getD j 0 % 26
def sizeN (m : Int) (k : Nat) : Nat := if m / 8 % 3 = 1 then (1 + (m + (0 + (k : Int))) % 8).toNat else (1 + m % 8).toNat
def signs (c m : Int) (k : Nat) : List Int := if m / 8 % 3 = 1 then baseS c else (baseS c).set (m / 24 % (1 + m % 8)).toNat (((baseS c).getD (m / 24 % (1 + m % 8)).toNat 0 + (0 + (k : Int))) % 26)
def nameOf (c m : Int) (k : Nat) : List Nat := ((signs c m k).take (sizeN m k)).map fun i => 97 + i.toNat
theorem baseS_len (c : Int) : (baseS c).length = 8 := by unfold baseS; rw [List.length_map, List.length_range]
theorem baseS_in (c : Int) : ∀ i ∈ baseS c, 0 ≤ i ∧ i < 26 := fun i hi => by
  obtain ⟨j, _, rfl⟩ := List.mem_map.mp hi
  exact ⟨Int.emod_nonneg _ (by decide), Int.emod_lt_of_pos _ (by decide)⟩
theorem signs_len (c m : Int) (k : Nat) : (signs c m k).length = 8 := by
  unfold signs
  split
  · exact baseS_len c
  · rw [List.length_set, baseS_len]
theorem signs_in (c m : Int) (k : Nat) : ∀ i ∈ signs c m k, 0 ≤ i ∧ i < 26 := fun i hi => by
  unfold signs at hi
  split at hi
  · exact baseS_in c i hi
  · rcases List.mem_or_eq_of_mem_set hi with hi | rfl
    · exact baseS_in c i hi
    · exact ⟨Int.emod_nonneg _ (by decide), Int.emod_lt_of_pos _ (by decide)⟩
theorem sizeN_in (m : Int) (k : Nat) : 1 ≤ sizeN m k ∧ sizeN m k ≤ 8 := by
  have a := Int.emod_nonneg (m + (0 + (k : Int))) (show (8 : Int) ≠ 0 by decide)
  have b := Int.emod_lt_of_pos (m + (0 + (k : Int))) (show (0 : Int) < 8 by decide)
  have a' := Int.emod_nonneg m (show (8 : Int) ≠ 0 by decide)
  have b' := Int.emod_lt_of_pos m (show (0 : Int) < 8 by decide)
  unfold sizeN
  split <;> omega
theorem nameOf_len (c m : Int) (k : Nat) : (nameOf c m k).length = sizeN m k := by
  have := sizeN_in m k
  unfold nameOf
  rw [List.length_map, List.length_take, signs_len]
  omega
theorem nameOf_name (c m : Int) (k : Nat) : nameB (nameOf c m k) = true := by
  have := sizeN_in m k
  unfold nameB
  rw [nameOf_len, decide_eq_true this, Bool.true_and, List.all_eq_true]
  intro x hx
  unfold nameOf at hx
  obtain ⟨i, hi, rfl⟩ := List.mem_map.mp hx
  have := signs_in c m k i (List.mem_of_mem_take hi)
  unfold isLow
  rw [decide_eq_true (by omega), decide_eq_true (by omega)]
  rfl
theorem nameOf_apart {c m : Int} {i j : Nat} (hi : i < 4) (hj : j < 4) (h : nameOf c m i = nameOf c m j) : i = j := by
  have hl := congrArg List.length h
  rw [nameOf_len, nameOf_len] at hl
  have a' := Int.emod_nonneg m (show (8 : Int) ≠ 0 by decide)
  have b' := Int.emod_lt_of_pos m (show (0 : Int) < 8 by decide)
  by_cases hA : m / 8 % 3 = 1
  · unfold sizeN at hl
    rw [if_pos hA, if_pos hA] at hl
    omega
  · have p0 := Int.emod_nonneg (m / 24) (show (1 + m % 8 : Int) ≠ 0 by omega)
    have p1 := Int.emod_lt_of_pos (m / 24) (show (0 : Int) < 1 + m % 8 by omega)
    have sz : ∀ k, sizeN m k = (1 + m % 8).toNat := fun k => by unfold sizeN; rw [if_neg hA]
    have bl := baseS_len c
    obtain ⟨p, hp⟩ : ∃ p : Nat, m / 24 % (1 + m % 8) = (p : Int) := ⟨_, (Int.toNat_of_nonneg p0).symm⟩
    rw [hp] at p1
    have pick : ∀ k, (nameOf c m k)[p]? = some (97 + (((baseS c).getD p 0 + (0 + (k : Int))) % 26).toNat) := fun k => by
      unfold nameOf signs
      rw [if_neg hA, sz, hp, Int.toNat_natCast, List.getElem?_map, List.getElem?_take, if_pos (by omega), List.getElem?_set_self (by omega)]
      rfl
    have e := pick i
    rw [h, pick j, Option.some.injEq] at e
    have r1 := Int.emod_nonneg ((baseS c).getD p 0 + (0 + (i : Int))) (show (26 : Int) ≠ 0 by decide)
    have r2 := Int.emod_nonneg ((baseS c).getD p 0 + (0 + (j : Int))) (show (26 : Int) ≠ 0 by decide)
    omega
structure Four (ns : List (List Nat)) : Prop where
  len : ns.length = 4
  name : ∀ cs ∈ ns, nameB cs = true
  apart : ∀ i j, i < 4 → j < 4 → ns.getD i [] = ns.getD j [] → i = j
def spNames (K : PySem.W.Frag) : Sp := fun vs H Q _ => ∃ c m : Int, vs = [.int c, .int m] ∧ ∀ (l : Addr) (ns : List (List Nat)) (H' : Hp), Same H H' → H l = none → H' l = some (.lst (ns.map fun cs => V.str (txt cs))) → Four ns → Q (.ref l) H'
section
variable {P : Program} {w : World} {K : PySem.W.Frag} {mg : Str → Option Value} {base : Heap} {f : Addr} {fd : FuncData}
theorem ok_law_names (F : Fun K "_law_names" "_law_names" s_law_names f fd) (M : Mg mg) : FnOk P w K mg base CX0 1 f fd ["_law_cell", "_law_more"] (spNames K) := by
  refine F.ok sc_law_names (fun vs H Q E h => ?_) (fun cdv A outer s H vs Q E hr h => ?_)
  · obtain ⟨c, m, rfl, _⟩ := h
    rfl
  obtain ⟨c, m, rfl, q⟩ := h
  refine ⟨_, (@pss_cons _ _ _ _ _ (@ps_set _ _ 2 _ _ _ _ sc_law_names.nd rfl l_law_names_2 (@pe_str _ _ _ _) (swap1 rfl) (.inl rfl)) (@pss_cons _ _ _ _ _ (@ps_set _ _ 3 _ _ _ _ sc_law_names.nd rfl l_law_names_3 (@pe_lst _ _ _ _ (@pa_cons _ _ _ _ _ (@pe_int _ _ _ _) (@pa_cons _ _ _ _ _ (@pe_int _ _ _ _) (@pa_cons _ _ _ _ _ (@pe_int _ _ _ _) (@pa_cons _ _ _ _ _ (@pe_int _ _ _ _) (@pa_cons _ _ _ _ _ (@pe_int _ _ _ _) (@pa_cons _ _ _ _ _ (@pe_int _ _ _ _) (@pa_cons _ _ _ _ _ (@pe_int _ _ _ _) (@pa_cons _ _ _ _ _ (@pe_int _ _ _ _) (@pa_nil _) (star1 rfl)) (star1 rfl)) (star1 rfl)) (star1 rfl)) (star1 rfl)) (star1 rfl)) (star1 rfl)) (star1 rfl))) (swap1 rfl) (.inl rfl)) (@pss_cons _ _ _ _ _ (@ps_set _ _ 4 _ _ _ _ sc_law_names.nd rfl l_law_names_4 (@pe_lst _ _ _ _ (@pa_nil _)) (swap1 rfl) (.inl rfl)) (@pss_cons _ _ _ _ _ (@ps_for _ _ _ _ _ _ _ _ PassesOwn.never rfl (@pi_range1 _ _ _ _ _ _ g_law_names_range M.m_range (@pa_cons _ _ _ _ _ (@pe_int _ _ _ _) (@pa_nil _) (star1 rfl)) (star1' rfl)) (@pg_name _ _ 5 _ sc_law_names.nd rfl l_law_names_5 (.inl rfl)) (@pss_cons _ _ _ _ _ (@ps_setComp _ _ _ _ _ _ _ _ _ _ _ _ _ _ _ 6 _ _ _ sc_law_names.nd rfl l_law_names_6 rfl (CompOk.make (N' := ["_law_cell", "_law_primes", "_law_j"]) (ix := [0, 3]) (nl := 1) (by rfl) (fm1 rfl (fm1 rfl fm0)) (by rfl) (by decide +kernel) rfl (by decide +kernel) rfl (And.intro ⟨rfl, .inl rfl, .inl rfl⟩ (And.intro ⟨rfl, .inl rfl, .inl rfl⟩ True.intro))) (@pi_range1 _ _ _ _ _ _ g_law_names_range M.m_range (@pa_cons _ _ _ _ _ (@pe_int _ _ _ _) (@pa_nil _) (star1 rfl)) (star1' rfl)) (fun _ _ _ _ _ => (@pg_name _ _ 2 _ (show List.Nodup (["_law_cell", "_law_primes", "_law_j"] : List Str) from by decide) rfl (Or.inl rfl) (by first | exact .inl rfl | exact .inr rfl | assumption))) (fun _ _ _ _ _ => (@pif_nil _)) (fun _ _ _ _ _ => (@pe_op _ _ _ _ _ _ _ _ (@op_mod _) (@pe_op _ _ _ _ _ _ _ _ (@op_mod _) (@pe_op _ _ _ _ _ _ _ _ (@op_mul _) (@pv _ 0 _ _ (by rfl) (by first | exact Or.inl rfl | exact Or.inr (Or.inl rfl) | exact Or.inr (Or.inr rfl)) (by decide) (by decide)) (@pe_op _ _ _ _ _ _ _ _ (@op_add _) (@pe_int _ _ _ _) (@pe_op _ _ _ _ _ _ _ _ (@op_mulB _) (@pe_int _ _ _ _) (@pv _ 2 _ _ (by rfl) (by first | exact Or.inl rfl | exact Or.inr (Or.inl rfl) | exact Or.inr (Or.inr rfl)) (by decide) (by decide))))) (@pe_ix _ _ _ _ _ _ _ (@ix_listK _ K rfl) (@pv _ 1 _ _ (by rfl) (by first | exact Or.inl rfl | exact Or.inr (Or.inl rfl) | exact Or.inr (Or.inr rfl)) (by decide) (by decide)) (@pv _ 2 _ _ (by rfl) (by first | exact Or.inl rfl | exact Or.inr (Or.inl rfl) | exact Or.inr (Or.inr rfl)) (by decide) (by decide)) (fun _ _ => rfl))) (@pe_int _ _ _ _))) (by rfl) (by intro _; rfl) (by first | exact .inl rfl | exact .inr rfl | assumption)) (@pss_cons _ _ _ _ _ (@ps_set _ _ 7 _ _ _ _ sc_law_names.nd rfl l_law_names_7 (@pe_op _ _ _ _ _ _ _ _ (@op_add _) (@pe_int _ _ _ _) (@pe_op _ _ _ _ _ _ _ _ (@op_mod _) (@pe_var _ 1 _ _ rfl v_law_names_1 dn__law_more dc__law_more) (@pe_int _ _ _ _))) (swap1 rfl) (.inl rfl)) (@pss_cons _ _ _ _ _ (@ps_if _ _ _ _ _ _ _ _ (@pt_cmpR _ _ _ _ _ _ _ _ (@op_eq _) (@pe_op _ _ _ _ _ _ _ _ (@op_mod _) (@pe_op _ _ _ _ _ _ _ _ (@op_fdivB _) (@pe_var _ 1 _ _ rfl v_law_names_1 dn__law_more dc__law_more) (@pe_int _ _ _ _)) (@pe_int _ _ _ _)) (@pe_int _ _ _ _) (nomark _)) (@pss_one _ _ _ (@ps_set _ _ 7 _ _ _ _ sc_law_names.nd rfl l_law_names_7 (@pe_op _ _ _ _ _ _ _ _ (@op_add _) (@pe_int _ _ _ _) (@pe_op _ _ _ _ _ _ _ _ (@op_mod _) (@pe_op _ _ _ _ _ _ _ _ (@op_add _) (@pe_var _ 1 _ _ rfl v_law_names_1 dn__law_more dc__law_more) (@pe_var _ 5 _ _ rfl v_law_names_5 dn__law_k dc__law_k)) (@pe_int _ _ _ _))) (swap1 rfl) (.inl rfl))) (@pss_one _ _ _ (@ps_asg _ _ _ _ _ _ (@pe_op _ _ _ _ _ _ _ _ (@op_mod _) (@pe_op _ _ _ _ _ _ _ _ (@op_add _) (@pe_ix _ _ _ _ _ _ _ (@ix_list _) (@pe_var _ 6 _ _ rfl v_law_names_6 dn__law_signs dc__law_signs) (@pe_op _ _ _ _ _ _ _ _ (@op_mod _) (@pe_op _ _ _ _ _ _ _ _ (@op_fdivB _) (@pe_var _ 1 _ _ rfl v_law_names_1 dn__law_more dc__law_more) (@pe_int _ _ _ _)) (@pe_var _ 7 _ _ rfl v_law_names_7 dn__law_size dc__law_size)) (fun _ _ => rfl)) (@pe_var _ 5 _ _ rfl v_law_names_5 dn__law_k dc__law_k)) (@pe_int _ _ _ _)) (@pg_sub _ _ _ _ _ _ _ (@pe_var _ 6 _ _ rfl v_law_names_6 dn__law_signs dc__law_signs) (@pe_op _ _ _ _ _ _ _ _ (@op_mod _) (@pe_op _ _ _ _ _ _ _ _ (@op_fdivB _) (@pe_var _ 1 _ _ rfl v_law_names_1 dn__law_more dc__law_more) (@pe_int _ _ _ _)) (@pe_var _ 7 _ _ rfl v_law_names_7 dn__law_size dc__law_size)) set_list (by intro _; rfl)) (by rfl) (by rfl) (by rfl)))) (@pss_one _ _ _ (@ps_expr _ _ _ _ (@pe_bm _ _ _ _ _ _ _ _ _ _ _ _ PySem.F.plainAttrs_list PySem.F.slot_list_append PySem.F.type_list_append mt_append (@pe_var _ 4 _ _ rfl v_law_names_4 dn__law_some dc__law_some) (@pa_cons _ _ _ _ _ (@pe_bm _ _ _ _ _ _ _ _ _ _ _ _ PySem.F.plainAttrs_str PySem.F.slot_str_join PySem.F.type_str_join mt_join (@pe_str _ _ _ _) (@pa_cons _ _ _ _ _ (@pe_comp _ _ _ _ _ _ _ _ _ _ _ _ _ _ _ rfl (CompOk.make (N' := ["_law_letters", "_law_sign"]) (ix := [2]) (nl := 1) (by rfl) (fm1 rfl fm0) (by rfl) (by decide +kernel) rfl (by decide +kernel) rfl (And.intro ⟨rfl, .inl rfl, .inl rfl⟩ True.intro)) (@pi_list _ _ _ _ (@pe_slice _ _ _ _ _ _ _ _ _ _ (@sl_list _) (@pe_var _ 6 _ _ rfl v_law_names_6 dn__law_signs dc__law_signs) (@po_none _) (@po_some _ _ _ (@pe_var _ 7 _ _ rfl v_law_names_7 dn__law_size dc__law_size)))) (fun _ _ _ _ _ => (@pg_name _ _ 1 _ (show List.Nodup (["_law_letters", "_law_sign"] : List Str) from by decide) rfl (Or.inl rfl) (by first | exact .inl rfl | exact .inr rfl | assumption))) (fun _ _ _ _ _ => (@pif_nil _)) (fun _ _ _ _ _ => (@pe_ix _ _ _ _ _ _ _ ix_str (@pv _ 0 _ _ (by rfl) (by first | exact Or.inl rfl | exact Or.inr (Or.inl rfl) | exact Or.inr (Or.inr rfl)) (by decide) (by decide)) (@pv _ 1 _ _ (by rfl) (by first | exact Or.inl rfl | exact Or.inr (Or.inl rfl) | exact Or.inr (Or.inr rfl)) (by decide) (by decide)) (fun _ _ => rfl))) (by intro _; rfl)) (@pa_nil _) (star1 rfl)) (by rfl) (by rfl) (by rfl) (by rfl) (by rfl)) (@pa_nil _) (star1 rfl)) (by rfl) (by rfl) (by rfl) (by rfl) (by rfl)) (swap1 rfl)))))) (by intro _; rfl)) (@pss_one _ _ _ (@ps_ret _ _ _ _ (@pe_var _ 4 _ _ rfl v_law_names_4 dn__law_some dc__law_some))))))), ?_⟩
  simp only [tTryN, rSlS, rMulS, rCatS, iZipL, rInsert, rReverse, tDNewX, tTry, tRaise, iEnumL, iEnumT, iZip, iSeq, iOr, rIx, iStr, rLeS, rJoin, rSlTA, tComp_eq, tComp1, slots, Option.getD_some, Option.getD_none, tYes, tSeq, tAsg, gName, tOp, tUn, tC, tVar, tCB, tCons, tNil, tCall, rI, rI0, rU, tRet, tRetN, tIfS, tTest, tB, tAnd, tOr, tNot, tAndV, tOrV, tNotV, tIf, tChain, tMenu, tPar, tDrop, tTup, tLst, tNext, tSl, tPart, tNoPart, tNever, gTup, gCons, gNil, gSub, rSetL, tBM, rAppend, rEq, rNe, rIsi, rIxL, rIxT, rIxS, rSlL, isi_non_bl, isi_non_int, isi_non_str, isi_non_lst, isi_non_tup, isi_bl_bl, isi_bl_int, isi_bl_str, isi_bl_lst, isi_bl_tup, isi_int_bl, isi_int_int, isi_int_str, isi_int_lst, isi_int_tup, isi_str_bl, isi_str_int, isi_str_str, isi_str_lst, isi_str_tup, isi_lst_bl, isi_lst_int, isi_lst_str, isi_lst_lst, isi_lst_tup, isi_tup_bl, isi_tup_int, isi_tup_str, isi_tup_lst, isi_tup_tup, isi_dct_bl, isi_dct_int, isi_dct_str, isi_dct_lst, isi_dct_tup, Kd_non, Kd_bl, Kd_int, Kd_str, sc_non_non, sc_non_int, sc_int_non, sc_non_bl, sc_bl_non, sc_non_str, sc_str_non, sc_int_int, sc_bl_bl, sc_str_str, sc_int_str, sc_str_int, sc_bl_str, sc_str_bl, decide_true, decide_false, tFor_eq, iList, iTup, iRng1, iRng2, iRng3, rIndexT, tBM0, tBMT, tyK_int, tyK_bool, tyK_str, tyK_list, tyK_tuple, L2.start, cxK, Int.reduceToNat, List.map_cons, List.map_nil, List.length_cons, List.length_nil, Nat.reduceAdd, Nat.reduceSub, Nat.zero_add, List.replicate_succ, List.replicate_zero, List.cons_append, List.nil_append, List.append_nil, List.getElem?_cons_zero, List.getElem?_cons_succ, List.set_cons_zero, List.set_cons_succ, Option.some.injEq, V.int.injEq, V.bl.injEq, V.ref.injEq, V.str.injEq, V.ty.injEq, List.cons.injEq, exists_eq_left', exists_eq_left, exists_eq_right, exists_and_left, exists_and_right, and_true, true_and, and_assoc, exists_const, decide_eq_true_eq, Bool.not_eq_true', Bool.not_true, Bool.not_false, Bool.not_not, decide_eq_false_iff_not, ite_not, Bool.false_eq_true, if_true, if_false, reduceCtorEq, and_false, false_and, exists_false, or_false, false_or, ↓reduceIte, eq_self, reduceIte]
  refine ⟨by decide, fun pr hpr => ?_⟩
  obtain ⟨H1, g1, S1, L1⟩ : ∃ H1, H1 = upd H pr (.lst [V.int 10007, V.int 10009, V.int 10037, V.int 10039, V.int 10061, V.int 10067, V.int 10069, V.int 10079]) ∧ Same H H1 ∧ SqL K H1 pr (primes.map V.int) := ⟨_, rfl, same_new hpr _, SqL.of upd_same⟩
  rw [← g1]
  clear g1
  refine ⟨by decide, fun l hl => ⟨by decide, by decide, ?_⟩⟩
  have hlH : H l = none := S1.free hl
  have bl := baseS_len c
  have a' := Int.emod_nonneg m (show (8 : Int) ≠ 0 by decide)
  have b' := Int.emod_lt_of_pos m (show (0 : Int) < 8 by decide)
  obtain ⟨Pv, hP⟩ : ∃ Pv : Nat → St → Hp → Prop, Pv = fun k σ H' => ∃ x y z, H' l = some (.lst (((List.range k).map (nameOf c m)).map fun cs => V.str (txt cs))) ∧ Same H1 H' ∧ σ = [some (.int c), some (.int m), some (.str lettersS), some (.ref pr), some (.ref l), x, y, z] := ⟨_, rfl⟩
  refine forW_range Pv ?_ ?_ ?_
  · rw [hP]
    exact ⟨_, _, _, upd_same, same_new hl _, rfl⟩
  · intro k σ H' hk h
    rw [hP] at h
    obtain ⟨x, y, z, dl, e, rfl⟩ := h
    simp only [tTryN, rSlS, rMulS, rCatS, iZipL, rInsert, rReverse, tDNewX, tTry, tRaise, iEnumL, iEnumT, iZip, iSeq, iOr, rIx, iStr, rLeS, rJoin, rSlTA, tComp_eq, tComp1, slots, Option.getD_some, Option.getD_none, tYes, tSeq, tAsg, gName, tOp, tUn, tC, tVar, tCB, tCons, tNil, tCall, rI, rI0, rU, tRet, tRetN, tIfS, tTest, tB, tAnd, tOr, tNot, tAndV, tOrV, tNotV, tIf, tChain, tMenu, tPar, tDrop, tTup, tLst, tNext, tSl, tPart, tNoPart, tNever, gTup, gCons, gNil, gSub, rSetL, tBM, rAppend, rEq, rNe, rIsi, rIxL, rIxT, rIxS, rSlL, isi_non_bl, isi_non_int, isi_non_str, isi_non_lst, isi_non_tup, isi_bl_bl, isi_bl_int, isi_bl_str, isi_bl_lst, isi_bl_tup, isi_int_bl, isi_int_int, isi_int_str, isi_int_lst, isi_int_tup, isi_str_bl, isi_str_int, isi_str_str, isi_str_lst, isi_str_tup, isi_lst_bl, isi_lst_int, isi_lst_str, isi_lst_lst, isi_lst_tup, isi_tup_bl, isi_tup_int, isi_tup_str, isi_tup_lst, isi_tup_tup, isi_dct_bl, isi_dct_int, isi_dct_str, isi_dct_lst, isi_dct_tup, Kd_non, Kd_bl, Kd_int, Kd_str, sc_non_non, sc_non_int, sc_int_non, sc_non_bl, sc_bl_non, sc_non_str, sc_str_non, sc_int_int, sc_bl_bl, sc_str_str, sc_int_str, sc_str_int, sc_bl_str, sc_str_bl, decide_true, decide_false, tFor_eq, iList, iTup, iRng1, iRng2, iRng3, rIndexT, tBM0, tBMT, tyK_int, tyK_bool, tyK_str, tyK_list, tyK_tuple, L2.start, cxK, Int.reduceToNat, List.map_cons, List.map_nil, List.length_cons, List.length_nil, Nat.reduceAdd, Nat.reduceSub, Nat.zero_add, List.replicate_succ, List.replicate_zero, List.cons_append, List.nil_append, List.append_nil, List.getElem?_cons_zero, List.getElem?_cons_succ, List.set_cons_zero, List.set_cons_succ, Option.some.injEq, V.int.injEq, V.bl.injEq, V.ref.injEq, V.str.injEq, V.ty.injEq, List.cons.injEq, exists_eq_left', exists_eq_left, exists_eq_right, exists_and_left, exists_and_right, and_true, true_and, and_assoc, exists_const, decide_eq_true_eq, Bool.not_eq_true', Bool.not_true, Bool.not_false, Bool.not_not, decide_eq_false_iff_not, ite_not, Bool.false_eq_true, if_true, if_false, reduceCtorEq, and_false, false_and, exists_false, or_false, false_or, ↓reduceIte, eq_self, reduceIte]
    refine ⟨by decide, by decide, fun D hD => ?_⟩
    obtain ⟨Pc, hC⟩ : ∃ Pc : Nat → St → Hp → Prop, Pc = fun j τ H2 => ∃ z, H2 D = some (.lst (((baseS c).take j).map V.int)) ∧ Same H' H2 ∧ τ = [some (.int c), some (.ref pr), z] := ⟨_, rfl⟩
    refine compS_range Pc ?_ ?_ ?_
    · rw [hC]
      exact ⟨_, upd_same, same_new hD _, rfl⟩
    · intro j τ H2 R' hj h next
      rw [hC] at h
      obtain ⟨z, c1, c2, rfl⟩ := h
      have pj : ∃ v, primes.getD j 0 = v ∧ 0 < v := by
        have : j = 0 ∨ j = 1 ∨ j = 2 ∨ j = 3 ∨ j = 4 ∨ j = 5 ∨ j = 6 ∨ j = 7 := by omega
        rcases this with rfl | rfl | rfl | rfl | rfl | rfl | rfl | rfl <;> exact ⟨_, rfl, by decide⟩
      obtain ⟨v, ev, v0⟩ := pj
      have atp : atI (primes.map V.int) (0 + (j : Int)) = some (.int v) := by
        have := atI_map (ns := primes) (k := 0 + (j : Int)) (by omega) (by show 0 + (j : Int) < 8; omega)
        rwa [show (0 + (j : Int)).toNat = j by omega, ev] at this
      have eb : (baseS c)[j]? = some (c * (48271 + 7919 * (0 + (j : Int))) % v % 26) := by
        unfold baseS
        rw [List.getElem?_map, List.getElem?_range hj, ← ev]
        rfl
      simp only [tTryN, rSlS, rMulS, rCatS, iZipL, rInsert, rReverse, tDNewX, tTry, tRaise, iEnumL, iEnumT, iZip, iSeq, iOr, rIx, iStr, rLeS, rJoin, rSlTA, tComp_eq, tComp1, slots, Option.getD_some, Option.getD_none, tYes, tSeq, tAsg, gName, tOp, tUn, tC, tVar, tCB, tCons, tNil, tCall, rI, rI0, rU, tRet, tRetN, tIfS, tTest, tB, tAnd, tOr, tNot, tAndV, tOrV, tNotV, tIf, tChain, tMenu, tPar, tDrop, tTup, tLst, tNext, tSl, tPart, tNoPart, tNever, gTup, gCons, gNil, gSub, rSetL, tBM, rAppend, rEq, rNe, rIsi, rIxL, rIxT, rIxS, rSlL, isi_non_bl, isi_non_int, isi_non_str, isi_non_lst, isi_non_tup, isi_bl_bl, isi_bl_int, isi_bl_str, isi_bl_lst, isi_bl_tup, isi_int_bl, isi_int_int, isi_int_str, isi_int_lst, isi_int_tup, isi_str_bl, isi_str_int, isi_str_str, isi_str_lst, isi_str_tup, isi_lst_bl, isi_lst_int, isi_lst_str, isi_lst_lst, isi_lst_tup, isi_tup_bl, isi_tup_int, isi_tup_str, isi_tup_lst, isi_tup_tup, isi_dct_bl, isi_dct_int, isi_dct_str, isi_dct_lst, isi_dct_tup, Kd_non, Kd_bl, Kd_int, Kd_str, sc_non_non, sc_non_int, sc_int_non, sc_non_bl, sc_bl_non, sc_non_str, sc_str_non, sc_int_int, sc_bl_bl, sc_str_str, sc_int_str, sc_str_int, sc_bl_str, sc_str_bl, decide_true, decide_false, tFor_eq, iList, iTup, iRng1, iRng2, iRng3, rIndexT, tBM0, tBMT, tyK_int, tyK_bool, tyK_str, tyK_list, tyK_tuple, L2.start, cxK, Int.reduceToNat, List.map_cons, List.map_nil, List.length_cons, List.length_nil, Nat.reduceAdd, Nat.reduceSub, Nat.zero_add, List.replicate_succ, List.replicate_zero, List.cons_append, List.nil_append, List.append_nil, List.getElem?_cons_zero, List.getElem?_cons_succ, List.set_cons_zero, List.set_cons_succ, Option.some.injEq, V.int.injEq, V.bl.injEq, V.ref.injEq, V.str.injEq, V.ty.injEq, List.cons.injEq, exists_eq_left', exists_eq_left, exists_eq_right, exists_and_left, exists_and_right, and_true, true_and, and_assoc, exists_const, decide_eq_true_eq, Bool.not_eq_true', Bool.not_true, Bool.not_false, Bool.not_not, decide_eq_false_iff_not, ite_not, Bool.false_eq_true, if_true, if_false, reduceCtorEq, and_false, false_and, exists_false, or_false, false_or, ↓reduceIte, eq_self, reduceIte]
      refine ⟨cmul (by omega) (by omega) (by omega) (by omega), .inr ⟨by omega, by omega⟩, _, (e.trans c2).seq L1, _, atp, _, rfl, v0, by decide, _, c1, by rw [List.length_map, List.length_take]; exact Nat.lt_of_lt_of_le (m := 64) (by omega) (by decide), next _ _ ?_⟩
      rw [hC]
      refine ⟨_, ?_, same_upd c2 hD _, rfl⟩
      rw [upd_same, List.take_add_one, eb, List.map_append]
      rfl
    intro τ H2 h
    rw [hC] at h
    obtain ⟨z', dD, S2, rfl⟩ := h
    rw [List.take_of_length_le (by omega)] at dD
    have DL : l ≠ D := ne_of_none dl hD
    replace dl := S2 _ _ dl
    simp only [tTryN, rSlS, rMulS, rCatS, iZipL, rInsert, rReverse, tDNewX, tTry, tRaise, iEnumL, iEnumT, iZip, iSeq, iOr, rIx, iStr, rLeS, rJoin, rSlTA, tComp_eq, tComp1, slots, Option.getD_some, Option.getD_none, tYes, tSeq, tAsg, gName, tOp, tUn, tC, tVar, tCB, tCons, tNil, tCall, rI, rI0, rU, tRet, tRetN, tIfS, tTest, tB, tAnd, tOr, tNot, tAndV, tOrV, tNotV, tIf, tChain, tMenu, tPar, tDrop, tTup, tLst, tNext, tSl, tPart, tNoPart, tNever, gTup, gCons, gNil, gSub, rSetL, tBM, rAppend, rEq, rNe, rIsi, rIxL, rIxT, rIxS, rSlL, isi_non_bl, isi_non_int, isi_non_str, isi_non_lst, isi_non_tup, isi_bl_bl, isi_bl_int, isi_bl_str, isi_bl_lst, isi_bl_tup, isi_int_bl, isi_int_int, isi_int_str, isi_int_lst, isi_int_tup, isi_str_bl, isi_str_int, isi_str_str, isi_str_lst, isi_str_tup, isi_lst_bl, isi_lst_int, isi_lst_str, isi_lst_lst, isi_lst_tup, isi_tup_bl, isi_tup_int, isi_tup_str, isi_tup_lst, isi_tup_tup, isi_dct_bl, isi_dct_int, isi_dct_str, isi_dct_lst, isi_dct_tup, Kd_non, Kd_bl, Kd_int, Kd_str, sc_non_non, sc_non_int, sc_int_non, sc_non_bl, sc_bl_non, sc_non_str, sc_str_non, sc_int_int, sc_bl_bl, sc_str_str, sc_int_str, sc_str_int, sc_bl_str, sc_str_bl, decide_true, decide_false, tFor_eq, iList, iTup, iRng1, iRng2, iRng3, rIndexT, tBM0, tBMT, tyK_int, tyK_bool, tyK_str, tyK_list, tyK_tuple, L2.start, cxK, Int.reduceToNat, List.map_cons, List.map_nil, List.length_cons, List.length_nil, Nat.reduceAdd, Nat.reduceSub, Nat.zero_add, List.replicate_succ, List.replicate_zero, List.cons_append, List.nil_append, List.append_nil, List.getElem?_cons_zero, List.getElem?_cons_succ, List.set_cons_zero, List.set_cons_succ, Option.some.injEq, V.int.injEq, V.bl.injEq, V.ref.injEq, V.str.injEq, V.ty.injEq, List.cons.injEq, exists_eq_left', exists_eq_left, exists_eq_right, exists_and_left, exists_and_right, and_true, true_and, and_assoc, exists_const, decide_eq_true_eq, Bool.not_eq_true', Bool.not_true, Bool.not_false, Bool.not_not, decide_eq_false_iff_not, ite_not, Bool.false_eq_true, if_true, if_false, reduceCtorEq, and_false, false_and, exists_false, or_false, false_or, ↓reduceIte, eq_self, reduceIte]
    refine ⟨by decide, cdiv (by decide) (by decide), by decide, ?_⟩
    by_cases hA : m / 8 % 3 = 1
    · rw [if_pos hA]
      refine ⟨by decide, ?_⟩
      have es : signs c m k = baseS c := by unfold signs; rw [if_pos hA]
      have q0 := Int.emod_nonneg (m + (0 + (k : Int))) (show (8 : Int) ≠ 0 by decide)
      have esz : (1 + (m + (0 + (k : Int))) % 8) = ((sizeN m k : Nat) : Int) := by
        unfold sizeN
        rw [if_pos hA]
        omega
      rw [← es] at dD
      have EX := e.trans S2
      refine ⟨.inl ⟨rfl, _, SqL.of dl⟩, rfl, _, SqL.of dD, fun s1 hs1 => ?_⟩
      rw [esz, cut_to]
      have sin := sizeN_in m k
      have sle := signs_len c m k
      obtain ⟨H4, g4, S4, L4⟩ : ∃ H4, H4 = upd H2 s1 (.lst (((signs c m k).map V.int).take (sizeN m k))) ∧ Same H2 H4 ∧ H4 s1 = some (.lst (((signs c m k).take (sizeN m k)).map V.int)) := ⟨_, rfl, same_new hs1 _, by rw [upd_same, List.map_take]⟩
      rw [← g4]
      clear g4
      refine ⟨⟨_, SqL.of L4⟩, fun D2 hD2 => ?_⟩
      obtain ⟨Pd, hQ⟩ : ∃ Pd : Nat → St → Hp → Prop, Pd = fun j τ H5 => ∃ z, H5 D2 = some (.lst (((nameOf c m k).take j).map sgn)) ∧ Same H4 H5 ∧ τ = [some (.str lettersS), z] := ⟨_, rfl⟩
      refine compS_list (((signs c m k).take (sizeN m k)).map V.int) Pd ?_ (fun j τ H5 _ h => by rw [hQ] at h; obtain ⟨z, _, e, _⟩ := h; exact SqL.of (e _ _ L4)) ?_ ?_
      · rw [hQ]
        exact ⟨_, upd_same, same_new hD2 _, rfl⟩
      · intro j v τ H5 R' hv h next
        rw [hQ] at h
        obtain ⟨z, c1, c2, rfl⟩ := h
        rw [List.getElem?_map] at hv
        obtain ⟨o, ho, rfl⟩ := Option.map_eq_some_iff.mp hv
        have oi := signs_in c m k o (List.mem_of_mem_take (List.mem_of_getElem? ho))
        have lj := (List.getElem?_eq_some_iff.mp ho).1
        rw [List.length_take] at lj
        obtain ⟨r, hr'⟩ : ∃ r : Nat, o = (r : Int) := ⟨o.toNat, by omega⟩
        subst hr'
        have en : (nameOf c m k)[j]? = some (97 + r) := by
          unfold nameOf
          rw [List.getElem?_map, ho]
          rfl
        simp only [tTryN, rSlS, rMulS, rCatS, iZipL, rInsert, rReverse, tDNewX, tTry, tRaise, iEnumL, iEnumT, iZip, iSeq, iOr, rIx, iStr, rLeS, rJoin, rSlTA, tComp_eq, tComp1, slots, Option.getD_some, Option.getD_none, tYes, tSeq, tAsg, gName, tOp, tUn, tC, tVar, tCB, tCons, tNil, tCall, rI, rI0, rU, tRet, tRetN, tIfS, tTest, tB, tAnd, tOr, tNot, tAndV, tOrV, tNotV, tIf, tChain, tMenu, tPar, tDrop, tTup, tLst, tNext, tSl, tPart, tNoPart, tNever, gTup, gCons, gNil, gSub, rSetL, tBM, rAppend, rEq, rNe, rIsi, rIxL, rIxT, rIxS, rSlL, isi_non_bl, isi_non_int, isi_non_str, isi_non_lst, isi_non_tup, isi_bl_bl, isi_bl_int, isi_bl_str, isi_bl_lst, isi_bl_tup, isi_int_bl, isi_int_int, isi_int_str, isi_int_lst, isi_int_tup, isi_str_bl, isi_str_int, isi_str_str, isi_str_lst, isi_str_tup, isi_lst_bl, isi_lst_int, isi_lst_str, isi_lst_lst, isi_lst_tup, isi_tup_bl, isi_tup_int, isi_tup_str, isi_tup_lst, isi_tup_tup, isi_dct_bl, isi_dct_int, isi_dct_str, isi_dct_lst, isi_dct_tup, Kd_non, Kd_bl, Kd_int, Kd_str, sc_non_non, sc_non_int, sc_int_non, sc_non_bl, sc_bl_non, sc_non_str, sc_str_non, sc_int_int, sc_bl_bl, sc_str_str, sc_int_str, sc_str_int, sc_bl_str, sc_str_bl, decide_true, decide_false, tFor_eq, iList, iTup, iRng1, iRng2, iRng3, rIndexT, tBM0, tBMT, tyK_int, tyK_bool, tyK_str, tyK_list, tyK_tuple, L2.start, cxK, Int.reduceToNat, List.map_cons, List.map_nil, List.length_cons, List.length_nil, Nat.reduceAdd, Nat.reduceSub, Nat.zero_add, List.replicate_succ, List.replicate_zero, List.cons_append, List.nil_append, List.append_nil, List.getElem?_cons_zero, List.getElem?_cons_succ, List.set_cons_zero, List.set_cons_succ, Option.some.injEq, V.int.injEq, V.bl.injEq, V.ref.injEq, V.str.injEq, V.ty.injEq, List.cons.injEq, exists_eq_left', exists_eq_left, exists_eq_right, exists_and_left, exists_and_right, and_true, true_and, and_assoc, exists_const, decide_eq_true_eq, Bool.not_eq_true', Bool.not_true, Bool.not_false, Bool.not_not, decide_eq_false_iff_not, ite_not, Bool.false_eq_true, if_true, if_false, reduceCtorEq, and_false, false_and, exists_false, or_false, false_or, ↓reduceIte, eq_self, reduceIte]
        refine ⟨by decide, 97 + r, atI_nat (letters_at r (by omega)), _, c1, by rw [List.length_map, List.length_take, nameOf_len]; exact Nat.lt_of_lt_of_le (m := 64) (by omega) (by decide), next _ _ ?_⟩
        rw [hQ]
        refine ⟨_, ?_, same_upd c2 hD2 _, rfl⟩
        rw [upd_same, List.take_add_one, en, List.map_append]
        rfl
      · intro τ H5 h
        rw [hQ] at h
        obtain ⟨z, c1, c2, rfl⟩ := h
        rw [List.length_map, List.length_take, sle, List.take_of_length_le (by rw [nameOf_len]; omega)] at c1
        have dl5 := (S4.trans c2) _ _ dl
        refine ⟨_, rfl, _, SqL.of c1, by rw [nameOf_len]; omega, _, dl5, by rw [List.length_map, List.length_map, List.length_range]; exact Nat.lt_of_lt_of_le (m := 64) (by omega) (by decide), ?_⟩
        rw [hP]
        refine ⟨_, _, _, ?_, same_upd (EX.trans (S4.trans c2)) hl _, rfl⟩
        rw [upd_same, List.range_succ, List.map_append, List.map_append]
        rfl
    · rw [if_neg hA]
      have p0 := Int.emod_nonneg (m / 24) (show (1 + m % 8 : Int) ≠ 0 by omega)
      have p1 := Int.emod_lt_of_pos (m / 24) (show (0 : Int) < 1 + m % 8 by omega)
      obtain ⟨p, hp⟩ : ∃ p : Nat, m / 24 % (1 + m % 8) = (p : Int) := ⟨_, (Int.toNat_of_nonneg p0).symm⟩
      have p1' := p1
      rw [hp] at p1'
      have atp : atI ((baseS c).map V.int) (m / 24 % (1 + m % 8)) = some (.int ((baseS c).getD p 0)) := by
        rw [hp]
        have := atI_map (ns := baseS c) (k := (p : Int)) (by omega) (by omega)
        rwa [Int.toNat_natCast] at this
      refine ⟨cdiv (by decide) (by decide), by omega, _, SqL.of dD, _, atp, _, rfl, by decide, cdiv (by decide) (by decide), by omega, _, dD, p, by rw [hp, List.length_map]; exact ixN_nat (by omega), ?_⟩
      have es : signs c m k = (baseS c).set p (((baseS c).getD p 0 + (0 + (k : Int))) % 26) := by
        unfold signs
        rw [if_neg hA, hp, Int.toNat_natCast]
      rw [← List.map_set, ← es]
      have esz : (1 + m % 8) = ((sizeN m k : Nat) : Int) := by
        unfold sizeN
        rw [if_neg hA]
        omega
      have HDn : H1 D = none := e.free hD
      obtain ⟨H3, g3, S3, dD3⟩ : ∃ H3, H3 = upd H2 D (.lst ((signs c m k).map V.int)) ∧ Same H1 H3 ∧ H3 D = some (.lst ((signs c m k).map V.int)) := ⟨_, rfl, same_upd (e.trans S2) HDn _, upd_same⟩
      have dl3 : H3 l = some (.lst (((List.range k).map (nameOf c m)).map fun cs => V.str (txt cs))) := by rw [g3, upd_ne DL]; exact dl
      rw [← g3]
      clear g3 dD dl
      have dD := dD3
      have dl := dl3
      have EX := S3
      refine ⟨.inl ⟨rfl, _, SqL.of dl⟩, rfl, _, SqL.of dD, fun s1 hs1 => ?_⟩
      rw [esz, cut_to]
      have sin := sizeN_in m k
      have sle := signs_len c m k
      obtain ⟨H4, g4, S4, L4⟩ : ∃ H4, H4 = upd H3 s1 (.lst (((signs c m k).map V.int).take (sizeN m k))) ∧ Same H3 H4 ∧ H4 s1 = some (.lst (((signs c m k).take (sizeN m k)).map V.int)) := ⟨_, rfl, same_new hs1 _, by rw [upd_same, List.map_take]⟩
      rw [← g4]
      clear g4
      refine ⟨⟨_, SqL.of L4⟩, fun D2 hD2 => ?_⟩
      obtain ⟨Pd, hQ⟩ : ∃ Pd : Nat → St → Hp → Prop, Pd = fun j τ H5 => ∃ z, H5 D2 = some (.lst (((nameOf c m k).take j).map sgn)) ∧ Same H4 H5 ∧ τ = [some (.str lettersS), z] := ⟨_, rfl⟩
      refine compS_list (((signs c m k).take (sizeN m k)).map V.int) Pd ?_ (fun j τ H5 _ h => by rw [hQ] at h; obtain ⟨z, _, e, _⟩ := h; exact SqL.of (e _ _ L4)) ?_ ?_
      · rw [hQ]
        exact ⟨_, upd_same, same_new hD2 _, rfl⟩
      · intro j v τ H5 R' hv h next
        rw [hQ] at h
        obtain ⟨z, c1, c2, rfl⟩ := h
        rw [List.getElem?_map] at hv
        obtain ⟨o, ho, rfl⟩ := Option.map_eq_some_iff.mp hv
        have oi := signs_in c m k o (List.mem_of_mem_take (List.mem_of_getElem? ho))
        have lj := (List.getElem?_eq_some_iff.mp ho).1
        rw [List.length_take] at lj
        obtain ⟨r, hr'⟩ : ∃ r : Nat, o = (r : Int) := ⟨o.toNat, by omega⟩
        subst hr'
        have en : (nameOf c m k)[j]? = some (97 + r) := by
          unfold nameOf
          rw [List.getElem?_map, ho]
          rfl
        simp only [tTryN, rSlS, rMulS, rCatS, iZipL, rInsert, rReverse, tDNewX, tTry, tRaise, iEnumL, iEnumT, iZip, iSeq, iOr, rIx, iStr, rLeS, rJoin, rSlTA, tComp_eq, tComp1, slots, Option.getD_some, Option.getD_none, tYes, tSeq, tAsg, gName, tOp, tUn, tC, tVar, tCB, tCons, tNil, tCall, rI, rI0, rU, tRet, tRetN, tIfS, tTest, tB, tAnd, tOr, tNot, tAndV, tOrV, tNotV, tIf, tChain, tMenu, tPar, tDrop, tTup, tLst, tNext, tSl, tPart, tNoPart, tNever, gTup, gCons, gNil, gSub, rSetL, tBM, rAppend, rEq, rNe, rIsi, rIxL, rIxT, rIxS, rSlL, isi_non_bl, isi_non_int, isi_non_str, isi_non_lst, isi_non_tup, isi_bl_bl, isi_bl_int, isi_bl_str, isi_bl_lst, isi_bl_tup, isi_int_bl, isi_int_int, isi_int_str, isi_int_lst, isi_int_tup, isi_str_bl, isi_str_int, isi_str_str, isi_str_lst, isi_str_tup, isi_lst_bl, isi_lst_int, isi_lst_str, isi_lst_lst, isi_lst_tup, isi_tup_bl, isi_tup_int, isi_tup_str, isi_tup_lst, isi_tup_tup, isi_dct_bl, isi_dct_int, isi_dct_str, isi_dct_lst, isi_dct_tup, Kd_non, Kd_bl, Kd_int, Kd_str, sc_non_non, sc_non_int, sc_int_non, sc_non_bl, sc_bl_non, sc_non_str, sc_str_non, sc_int_int, sc_bl_bl, sc_str_str, sc_int_str, sc_str_int, sc_bl_str, sc_str_bl, decide_true, decide_false, tFor_eq, iList, iTup, iRng1, iRng2, iRng3, rIndexT, tBM0, tBMT, tyK_int, tyK_bool, tyK_str, tyK_list, tyK_tuple, L2.start, cxK, Int.reduceToNat, List.map_cons, List.map_nil, List.length_cons, List.length_nil, Nat.reduceAdd, Nat.reduceSub, Nat.zero_add, List.replicate_succ, List.replicate_zero, List.cons_append, List.nil_append, List.append_nil, List.getElem?_cons_zero, List.getElem?_cons_succ, List.set_cons_zero, List.set_cons_succ, Option.some.injEq, V.int.injEq, V.bl.injEq, V.ref.injEq, V.str.injEq, V.ty.injEq, List.cons.injEq, exists_eq_left', exists_eq_left, exists_eq_right, exists_and_left, exists_and_right, and_true, true_and, and_assoc, exists_const, decide_eq_true_eq, Bool.not_eq_true', Bool.not_true, Bool.not_false, Bool.not_not, decide_eq_false_iff_not, ite_not, Bool.false_eq_true, if_true, if_false, reduceCtorEq, and_false, false_and, exists_false, or_false, false_or, ↓reduceIte, eq_self, reduceIte]
        refine ⟨by decide, 97 + r, atI_nat (letters_at r (by omega)), _, c1, by rw [List.length_map, List.length_take, nameOf_len]; exact Nat.lt_of_lt_of_le (m := 64) (by omega) (by decide), next _ _ ?_⟩
        rw [hQ]
        refine ⟨_, ?_, same_upd c2 hD2 _, rfl⟩
        rw [upd_same, List.take_add_one, en, List.map_append]
        rfl
      · intro τ H5 h
        rw [hQ] at h
        obtain ⟨z, c1, c2, rfl⟩ := h
        rw [List.length_map, List.length_take, sle, List.take_of_length_le (by rw [nameOf_len]; omega)] at c1
        have dl5 := (S4.trans c2) _ _ dl
        refine ⟨_, rfl, _, SqL.of c1, by rw [nameOf_len]; omega, _, dl5, by rw [List.length_map, List.length_map, List.length_range]; exact Nat.lt_of_lt_of_le (m := 64) (by omega) (by decide), ?_⟩
        rw [hP]
        refine ⟨_, _, _, ?_, same_upd (EX.trans (S4.trans c2)) hl _, rfl⟩
        rw [upd_same, List.range_succ, List.map_append, List.map_append]
        rfl
  · intro σ H' h
    rw [hP] at h
    obtain ⟨x, y, z, dl, e, rfl⟩ := h
    simp only [tTryN, rSlS, rMulS, rCatS, iZipL, rInsert, rReverse, tDNewX, tTry, tRaise, iEnumL, iEnumT, iZip, iSeq, iOr, rIx, iStr, rLeS, rJoin, rSlTA, tComp_eq, tComp1, slots, Option.getD_some, Option.getD_none, tYes, tSeq, tAsg, gName, tOp, tUn, tC, tVar, tCB, tCons, tNil, tCall, rI, rI0, rU, tRet, tRetN, tIfS, tTest, tB, tAnd, tOr, tNot, tAndV, tOrV, tNotV, tIf, tChain, tMenu, tPar, tDrop, tTup, tLst, tNext, tSl, tPart, tNoPart, tNever, gTup, gCons, gNil, gSub, rSetL, tBM, rAppend, rEq, rNe, rIsi, rIxL, rIxT, rIxS, rSlL, isi_non_bl, isi_non_int, isi_non_str, isi_non_lst, isi_non_tup, isi_bl_bl, isi_bl_int, isi_bl_str, isi_bl_lst, isi_bl_tup, isi_int_bl, isi_int_int, isi_int_str, isi_int_lst, isi_int_tup, isi_str_bl, isi_str_int, isi_str_str, isi_str_lst, isi_str_tup, isi_lst_bl, isi_lst_int, isi_lst_str, isi_lst_lst, isi_lst_tup, isi_tup_bl, isi_tup_int, isi_tup_str, isi_tup_lst, isi_tup_tup, isi_dct_bl, isi_dct_int, isi_dct_str, isi_dct_lst, isi_dct_tup, Kd_non, Kd_bl, Kd_int, Kd_str, sc_non_non, sc_non_int, sc_int_non, sc_non_bl, sc_bl_non, sc_non_str, sc_str_non, sc_int_int, sc_bl_bl, sc_str_str, sc_int_str, sc_str_int, sc_bl_str, sc_str_bl, decide_true, decide_false, tFor_eq, iList, iTup, iRng1, iRng2, iRng3, rIndexT, tBM0, tBMT, tyK_int, tyK_bool, tyK_str, tyK_list, tyK_tuple, L2.start, cxK, Int.reduceToNat, List.map_cons, List.map_nil, List.length_cons, List.length_nil, Nat.reduceAdd, Nat.reduceSub, Nat.zero_add, List.replicate_succ, List.replicate_zero, List.cons_append, List.nil_append, List.append_nil, List.getElem?_cons_zero, List.getElem?_cons_succ, List.set_cons_zero, List.set_cons_succ, Option.some.injEq, V.int.injEq, V.bl.injEq, V.ref.injEq, V.str.injEq, V.ty.injEq, List.cons.injEq, exists_eq_left', exists_eq_left, exists_eq_right, exists_and_left, exists_and_right, and_true, true_and, and_assoc, exists_const, decide_eq_true_eq, Bool.not_eq_true', Bool.not_true, Bool.not_false, Bool.not_not, decide_eq_false_iff_not, ite_not, Bool.false_eq_true, if_true, if_false, reduceCtorEq, and_false, false_and, exists_false, or_false, false_or, ↓reduceIte, eq_self, reduceIte]
    refine q _ _ _ (S1.trans e) hlH dl ⟨by rw [List.length_map, List.length_range], fun cs hcs => ?_, fun i j hi hj h => ?_⟩
    · obtain ⟨k, _, rfl⟩ := List.mem_map.mp hcs
      exact nameOf_name c m k
    · have gi : ∀ n : Nat, n < 4 → ((List.range 4).map (nameOf c m)).getD n [] = nameOf c m n := fun n hn => by
        rw [List.getD, List.getElem?_map, List.getElem?_range hn]
        rfl
      rw [gi i hi, gi j hj] at h
      exact nameOf_apart hi hj h
end

inductive TpD (H : Hp) : List V → List (List V) → Prop
  | nil : TpD H [] []
  | cons {p : Addr} {r : List V} {xs : List V} {rs : List (List V)} : H p = some (.tup r) → TpD H xs rs → TpD H (.ref p :: xs) (r :: rs)
theorem TpD.same {H H' : Hp} {xs : List V} {rs : List (List V)} (h : TpD H xs rs) (e : Same H H') : TpD H' xs rs := by
  induction h with
  | nil => exact .nil
  | cons a _ ih => exact .cons (e _ _ a) ih
theorem TpD.upd {H : Hp} {l : Addr} {ys zs : List V} {xs : List V} {rs : List (List V)} (h : TpD H xs rs) (hl : H l = some (.lst ys)) : TpD (upd H l (.lst zs)) xs rs := by
  induction h with
  | nil => exact .nil
  | @cons p r xs rs a _ ih =>
    refine .cons ?_ ih
    have n : p ≠ l := fun e => by rw [e, hl] at a; cases a
    rw [upd_ne n]
    exact a
theorem TpD.snoc {H : Hp} {xs : List V} {rs : List (List V)} {p : Addr} {r : List V} (h : TpD H xs rs) (e : H p = some (.tup r)) : TpD H (xs ++ [.ref p]) (rs ++ [r]) := by
  induction h with
  | nil => exact .cons e .nil
  | cons a _ ih => exact .cons a ih
theorem TpD.length {H : Hp} {xs : List V} {rs : List (List V)} (h : TpD H xs rs) : xs.length = rs.length := by
  induction h with
  | nil => rfl
  | cons _ _ ih => rw [List.length_cons, List.length_cons, ih]
theorem TpD.at {H : Hp} {xs : List V} {rs : List (List V)} (h : TpD H xs rs) : ∀ {i : Nat} {r : List V}, rs[i]? = some r → ∃ p, xs[i]? = some (.ref p) ∧ H p = some (.tup r) := by
  induction h with
  | nil => intro i x e; simp at e
  | cons a _ ih =>
    intro i x e
    cases i with
    | zero => cases e; exact ⟨_, rfl, a⟩
    | succ i => exact ih e
abbrev Kd2 : Type := List Nat × List Nat
def kRow (k : Kd2) : List V := [.str (txt k.1), .str (txt k.2)]
structure KsOk (ks : List Kd2) : Prop where
  l1 : 1 ≤ ks.length
  l4 : ks.length ≤ 4
  name : ∀ k ∈ ks, nameB k.1 = true ∧ nameB k.2 = true
  nd : ks.Nodup
def spKinds (K : PySem.W.Frag) : Sp := fun vs H Q _ => ∃ (a : Addr) (ns : List Int), vs = [.ref a] ∧ SqL K H a (ns.map V.int) ∧ ∀ (l : Addr) (xs : List V) (ks : List Kd2) (H' : Hp), Same H H' → H l = none → H' l = some (.lst xs) → TpD H' xs (ks.map kRow) → KsOk ks → Q (.ref l) H'
def spot (c st : Int) (k : Nat) : Nat := ((c / 64 + st * (0 + (k : Int))) % 16).toNat
theorem spot_in (c st : Int) (k : Nat) : spot c st k < 16 ∧ ((c / 64 + st * (0 + (k : Int))) % 16) = ((spot c st k : Nat) : Int) := by
  have a := Int.emod_nonneg (c / 64 + st * (0 + (k : Int))) (show (16 : Int) ≠ 0 by decide)
  have b := Int.emod_lt_of_pos (c / 64 + st * (0 + (k : Int))) (show (0 : Int) < 16 by decide)
  unfold spot
  omega
theorem spot_apart {c st : Int} (h : st = 1 ∨ st = 4 ∨ st = 5 ∨ st = 7) {i j : Nat} (hi : i < 4) (hj : j < 4) (e : spot c st i = spot c st j) : i = j := by
  have a := (spot_in c st i).2
  have b := (spot_in c st j).2
  rw [e] at a
  rcases h with rfl | rfl | rfl | rfl <;> omega
section
variable {P : Program} {w : World} {K : PySem.W.Frag} {mg : Str → Option Value} {base : Heap} {f : Addr} {fd : FuncData}
theorem ok_law_kinds (F : Fun K "_law_kinds" "_law_kinds" s_law_kinds f fd) (M : Mg mg) (C_law_cell_at : Cal P w K mg base CX0 "_law_cell_at" 1 ["_law_script", "_law_k"] (spCellAt K)) (C_law_names : Cal P w K mg base CX0 "_law_names" 1 ["_law_cell", "_law_more"] (spNames K)) : FnOk P w K mg base CX0 2 f fd ["_law_script"] (spKinds K) := by
  refine F.ok sc_law_kinds (fun vs H Q E h => ?_) (fun cdv A outer s H vs Q E hr h => ?_)
  · obtain ⟨a, ns, rfl, _⟩ := h
    rfl
  obtain ⟨a, ns, rfl, hS, q⟩ := h
  refine ⟨_, (@pss_cons _ _ _ _ _ (@ps_set _ _ 1 _ _ _ _ sc_law_kinds.nd rfl l_law_kinds_1 (@pe_callC _ _ _ _ _ _ _ _ _ _ _ C_law_cell_at hr g_law_kinds__law_cell_at (@pa_cons _ _ _ _ _ (@pe_var _ 0 _ _ rfl v_law_kinds_0 dn__law_script dc__law_script) (@pa_cons _ _ _ _ _ (@pe_int _ _ _ _) (@pa_nil _) (star1 rfl)) (star1 rfl)) (by decide) dn__law_cell_at (star1 rfl) (nost1 rfl nost0)) (swap1 rfl) (.inl rfl)) (@pss_cons _ _ _ _ _ (@ps_set _ _ 2 _ _ _ _ sc_law_kinds.nd rfl l_law_kinds_2 (@pe_callC _ _ _ _ _ _ _ _ _ _ _ C_law_names hr g_law_kinds__law_names (@pa_cons _ _ _ _ _ (@pe_callC _ _ _ _ _ _ _ _ _ _ _ C_law_cell_at hr g_law_kinds__law_cell_at (@pa_cons _ _ _ _ _ (@pe_var _ 0 _ _ rfl v_law_kinds_0 dn__law_script dc__law_script) (@pa_cons _ _ _ _ _ (@pe_int _ _ _ _) (@pa_nil _) (star1 rfl)) (star1 rfl)) (by decide) dn__law_cell_at (star1 rfl) (nost1 rfl nost0)) (@pa_cons _ _ _ _ _ (@pe_callC _ _ _ _ _ _ _ _ _ _ _ C_law_cell_at hr g_law_kinds__law_cell_at (@pa_cons _ _ _ _ _ (@pe_var _ 0 _ _ rfl v_law_kinds_0 dn__law_script dc__law_script) (@pa_cons _ _ _ _ _ (@pe_int _ _ _ _) (@pa_nil _) (star1 rfl)) (star1 rfl)) (by decide) dn__law_cell_at (star1 rfl) (nost1 rfl nost0)) (@pa_nil _) (star1 rfl)) (star1 rfl)) (by decide) dn__law_names (star1 rfl) (nost1 rfl nost0)) (swap1 rfl) (.inl rfl)) (@pss_cons _ _ _ _ _ (@ps_set _ _ 3 _ _ _ _ sc_law_kinds.nd rfl l_law_kinds_3 (@pe_callC _ _ _ _ _ _ _ _ _ _ _ C_law_names hr g_law_kinds__law_names (@pa_cons _ _ _ _ _ (@pe_callC _ _ _ _ _ _ _ _ _ _ _ C_law_cell_at hr g_law_kinds__law_cell_at (@pa_cons _ _ _ _ _ (@pe_var _ 0 _ _ rfl v_law_kinds_0 dn__law_script dc__law_script) (@pa_cons _ _ _ _ _ (@pe_int _ _ _ _) (@pa_nil _) (star1 rfl)) (star1 rfl)) (by decide) dn__law_cell_at (star1 rfl) (nost1 rfl nost0)) (@pa_cons _ _ _ _ _ (@pe_callC _ _ _ _ _ _ _ _ _ _ _ C_law_cell_at hr g_law_kinds__law_cell_at (@pa_cons _ _ _ _ _ (@pe_var _ 0 _ _ rfl v_law_kinds_0 dn__law_script dc__law_script) (@pa_cons _ _ _ _ _ (@pe_int _ _ _ _) (@pa_nil _) (star1 rfl)) (star1 rfl)) (by decide) dn__law_cell_at (star1 rfl) (nost1 rfl nost0)) (@pa_nil _) (star1 rfl)) (star1 rfl)) (by decide) dn__law_names (star1 rfl) (nost1 rfl nost0)) (swap1 rfl) (.inl rfl)) (@pss_cons _ _ _ _ _ (@ps_set _ _ 4 _ _ _ _ sc_law_kinds.nd rfl l_law_kinds_4 (@pe_menu _ _ _ _ _ _ _ (@pa_cons _ _ _ _ _ (@pe_int _ _ _ _) (@pa_cons _ _ _ _ _ (@pe_int _ _ _ _) (@pa_cons _ _ _ _ _ (@pe_int _ _ _ _) (@pa_cons _ _ _ _ _ (@pe_int _ _ _ _) (@pa_cons _ _ _ _ _ (@pe_int _ _ _ _) (@pa_cons _ _ _ _ _ (@pe_int _ _ _ _) (@pa_cons _ _ _ _ _ (@pe_int _ _ _ _) (@pa_cons _ _ _ _ _ (@pe_int _ _ _ _) (@pa_cons _ _ _ _ _ (@pe_int _ _ _ _) (@pa_cons _ _ _ _ _ (@pe_int _ _ _ _) (@pa_cons _ _ _ _ _ (@pe_int _ _ _ _) (@pa_cons _ _ _ _ _ (@pe_int _ _ _ _) (@pa_cons _ _ _ _ _ (@pe_int _ _ _ _) (@pa_cons _ _ _ _ _ (@pe_int _ _ _ _) (@pa_cons _ _ _ _ _ (@pe_int _ _ _ _) (@pa_cons _ _ _ _ _ (@pe_int _ _ _ _) (@pa_nil _) (star1 rfl)) (star1 rfl)) (star1 rfl)) (star1 rfl)) (star1 rfl)) (star1 rfl)) (star1 rfl)) (star1 rfl)) (star1 rfl)) (star1 rfl)) (star1 rfl)) (star1 rfl)) (star1 rfl)) (star1 rfl)) (star1 rfl)) (star1 rfl)) (@pe_op _ _ _ _ _ _ _ _ (@op_mod _) (@pe_var _ 1 _ _ rfl v_law_kinds_1 dn__law_cell dc__law_cell) (@pe_int _ _ _ _)) (fun _ _ => rfl)) (swap1 rfl) (.inl rfl)) (@pss_cons _ _ _ _ _ (@ps_set _ _ 5 _ _ _ _ sc_law_kinds.nd rfl l_law_kinds_5 (@pe_menu _ _ _ _ _ _ _ (@pa_cons _ _ _ _ _ (@pe_int _ _ _ _) (@pa_cons _ _ _ _ _ (@pe_int _ _ _ _) (@pa_cons _ _ _ _ _ (@pe_int _ _ _ _) (@pa_cons _ _ _ _ _ (@pe_int _ _ _ _) (@pa_nil _) (star1 rfl)) (star1 rfl)) (star1 rfl)) (star1 rfl)) (@pe_op _ _ _ _ _ _ _ _ (@op_mod _) (@pe_op _ _ _ _ _ _ _ _ (@op_fdivB _) (@pe_var _ 1 _ _ rfl v_law_kinds_1 dn__law_cell dc__law_cell) (@pe_int _ _ _ _)) (@pe_int _ _ _ _)) (fun _ _ => rfl)) (swap1 rfl) (.inl rfl)) (@pss_cons _ _ _ _ _ (@ps_set _ _ 6 _ _ _ _ sc_law_kinds.nd rfl l_law_kinds_6 (@pe_lst _ _ _ _ (@pa_nil _)) (swap1 rfl) (.inl rfl)) (@pss_cons _ _ _ _ _ (@ps_for _ _ _ _ _ _ _ _ PassesOwn.never rfl (@pi_range1 _ _ _ _ _ _ g_law_kinds_range M.m_range (@pa_cons _ _ _ _ _ (@pe_var _ 4 _ _ rfl v_law_kinds_4 dn__law_many dc__law_many) (@pa_nil _) (star1 rfl)) (star1' rfl)) (@pg_name _ _ 7 _ sc_law_kinds.nd rfl l_law_kinds_7 (.inl rfl)) (@pss_cons _ _ _ _ _ (@ps_set _ _ 8 _ _ _ _ sc_law_kinds.nd rfl l_law_kinds_8 (@pe_op _ _ _ _ _ _ _ _ (@op_mod _) (@pe_op _ _ _ _ _ _ _ _ (@op_add _) (@pe_op _ _ _ _ _ _ _ _ (@op_fdivB _) (@pe_var _ 1 _ _ rfl v_law_kinds_1 dn__law_cell dc__law_cell) (@pe_int _ _ _ _)) (@pe_op _ _ _ _ _ _ _ _ (@op_mulB _) (@pe_var _ 5 _ _ rfl v_law_kinds_5 dn__law_step dc__law_step) (@pe_var _ 7 _ _ rfl v_law_kinds_7 dn__law_k dc__law_k))) (@pe_int _ _ _ _)) (swap1 rfl) (.inl rfl)) (@pss_one _ _ _ (@ps_expr _ _ _ _ (@pe_bm _ _ _ _ _ _ _ _ _ _ _ _ PySem.F.plainAttrs_list PySem.F.slot_list_append PySem.F.type_list_append mt_append (@pe_var _ 6 _ _ rfl v_law_kinds_6 dn__law_some dc__law_some) (@pa_cons _ _ _ _ _ (@pe_tup _ _ _ _ _ (@pa_cons _ _ _ _ _ (@pe_ix _ _ _ _ _ _ _ (@ix_list _) (@pe_var _ 2 _ _ rfl v_law_kinds_2 dn__law_stuffs dc__law_stuffs) (@pe_op _ _ _ _ _ _ _ _ (@op_mod _) (@pe_var _ 8 _ _ rfl v_law_kinds_8 dn__law_spot dc__law_spot) (@pe_int _ _ _ _)) (fun _ _ => rfl)) (@pa_cons _ _ _ _ _ (@pe_ix _ _ _ _ _ _ _ (@ix_list _) (@pe_var _ 3 _ _ rfl v_law_kinds_3 dn__law_uses dc__law_uses) (@pe_op _ _ _ _ _ _ _ _ (@op_fdivB _) (@pe_var _ 8 _ _ rfl v_law_kinds_8 dn__law_spot dc__law_spot) (@pe_int _ _ _ _)) (fun _ _ => rfl)) (@pa_nil _) (star1 rfl)) (star1 rfl))) (@pa_nil _) (star1 rfl)) (by rfl) (by rfl) (by rfl) (by rfl) (by rfl)) (swap1 rfl)))) (by intro _; rfl)) (@pss_one _ _ _ (@ps_ret _ _ _ _ (@pe_var _ 6 _ _ rfl v_law_kinds_6 dn__law_some dc__law_some)))))))))), ?_⟩
  simp only [tTryN, rSlS, rMulS, rCatS, iZipL, rInsert, rReverse, tDNewX, tTry, tRaise, iEnumL, iEnumT, iZip, iSeq, iOr, rIx, iStr, rLeS, rJoin, rSlTA, tComp_eq, tComp1, slots, Option.getD_some, Option.getD_none, tYes, tSeq, tAsg, gName, tOp, tUn, tC, tVar, tCB, tCons, tNil, tCall, rI, rI0, rU, tRet, tRetN, tIfS, tTest, tB, tAnd, tOr, tNot, tAndV, tOrV, tNotV, tIf, tChain, tMenu, tPar, tDrop, tTup, tLst, tNext, tSl, tPart, tNoPart, tNever, gTup, gCons, gNil, gSub, rSetL, tBM, rAppend, rEq, rNe, rIsi, rIxL, rIxT, rIxS, rSlL, isi_non_bl, isi_non_int, isi_non_str, isi_non_lst, isi_non_tup, isi_bl_bl, isi_bl_int, isi_bl_str, isi_bl_lst, isi_bl_tup, isi_int_bl, isi_int_int, isi_int_str, isi_int_lst, isi_int_tup, isi_str_bl, isi_str_int, isi_str_str, isi_str_lst, isi_str_tup, isi_lst_bl, isi_lst_int, isi_lst_str, isi_lst_lst, isi_lst_tup, isi_tup_bl, isi_tup_int, isi_tup_str, isi_tup_lst, isi_tup_tup, isi_dct_bl, isi_dct_int, isi_dct_str, isi_dct_lst, isi_dct_tup, Kd_non, Kd_bl, Kd_int, Kd_str, sc_non_non, sc_non_int, sc_int_non, sc_non_bl, sc_bl_non, sc_non_str, sc_str_non, sc_int_int, sc_bl_bl, sc_str_str, sc_int_str, sc_str_int, sc_bl_str, sc_str_bl, decide_true, decide_false, tFor_eq, iList, iTup, iRng1, iRng2, iRng3, rIndexT, tBM0, tBMT, tyK_int, tyK_bool, tyK_str, tyK_list, tyK_tuple, L2.start, cxK, Int.reduceToNat, List.map_cons, List.map_nil, List.length_cons, List.length_nil, Nat.reduceAdd, Nat.reduceSub, Nat.zero_add, List.replicate_succ, List.replicate_zero, List.cons_append, List.nil_append, List.append_nil, List.getElem?_cons_zero, List.getElem?_cons_succ, List.set_cons_zero, List.set_cons_succ, Option.some.injEq, V.int.injEq, V.bl.injEq, V.ref.injEq, V.str.injEq, V.ty.injEq, List.cons.injEq, exists_eq_left', exists_eq_left, exists_eq_right, exists_and_left, exists_and_right, and_true, true_and, and_assoc, exists_const, decide_eq_true_eq, Bool.not_eq_true', Bool.not_true, Bool.not_false, Bool.not_not, decide_eq_false_iff_not, ite_not, Bool.false_eq_true, if_true, if_false, reduceCtorEq, and_false, false_and, exists_false, or_false, false_or, ↓reduceIte, eq_self, reduceIte]
  refine spCellAt_of hS (by decide) ?_
  simp only [tTryN, rSlS, rMulS, rCatS, iZipL, rInsert, rReverse, tDNewX, tTry, tRaise, iEnumL, iEnumT, iZip, iSeq, iOr, rIx, iStr, rLeS, rJoin, rSlTA, tComp_eq, tComp1, slots, Option.getD_some, Option.getD_none, tYes, tSeq, tAsg, gName, tOp, tUn, tC, tVar, tCB, tCons, tNil, tCall, rI, rI0, rU, tRet, tRetN, tIfS, tTest, tB, tAnd, tOr, tNot, tAndV, tOrV, tNotV, tIf, tChain, tMenu, tPar, tDrop, tTup, tLst, tNext, tSl, tPart, tNoPart, tNever, gTup, gCons, gNil, gSub, rSetL, tBM, rAppend, rEq, rNe, rIsi, rIxL, rIxT, rIxS, rSlL, isi_non_bl, isi_non_int, isi_non_str, isi_non_lst, isi_non_tup, isi_bl_bl, isi_bl_int, isi_bl_str, isi_bl_lst, isi_bl_tup, isi_int_bl, isi_int_int, isi_int_str, isi_int_lst, isi_int_tup, isi_str_bl, isi_str_int, isi_str_str, isi_str_lst, isi_str_tup, isi_lst_bl, isi_lst_int, isi_lst_str, isi_lst_lst, isi_lst_tup, isi_tup_bl, isi_tup_int, isi_tup_str, isi_tup_lst, isi_tup_tup, isi_dct_bl, isi_dct_int, isi_dct_str, isi_dct_lst, isi_dct_tup, Kd_non, Kd_bl, Kd_int, Kd_str, sc_non_non, sc_non_int, sc_int_non, sc_non_bl, sc_bl_non, sc_non_str, sc_str_non, sc_int_int, sc_bl_bl, sc_str_str, sc_int_str, sc_str_int, sc_bl_str, sc_str_bl, decide_true, decide_false, tFor_eq, iList, iTup, iRng1, iRng2, iRng3, rIndexT, tBM0, tBMT, tyK_int, tyK_bool, tyK_str, tyK_list, tyK_tuple, L2.start, cxK, Int.reduceToNat, List.map_cons, List.map_nil, List.length_cons, List.length_nil, Nat.reduceAdd, Nat.reduceSub, Nat.zero_add, List.replicate_succ, List.replicate_zero, List.cons_append, List.nil_append, List.append_nil, List.getElem?_cons_zero, List.getElem?_cons_succ, List.set_cons_zero, List.set_cons_succ, Option.some.injEq, V.int.injEq, V.bl.injEq, V.ref.injEq, V.str.injEq, V.ty.injEq, List.cons.injEq, exists_eq_left', exists_eq_left, exists_eq_right, exists_and_left, exists_and_right, and_true, true_and, and_assoc, exists_const, decide_eq_true_eq, Bool.not_eq_true', Bool.not_true, Bool.not_false, Bool.not_not, decide_eq_false_iff_not, ite_not, Bool.false_eq_true, if_true, if_false, reduceCtorEq, and_false, false_and, exists_false, or_false, false_or, ↓reduceIte, eq_self, reduceIte]
  refine spCellAt_of hS (by decide) (spCellAt_of hS (by decide) ⟨_, _, rfl, fun s1 fs H1 S1 hs1 L1 F1 => ?_⟩)
  simp only [tTryN, rSlS, rMulS, rCatS, iZipL, rInsert, rReverse, tDNewX, tTry, tRaise, iEnumL, iEnumT, iZip, iSeq, iOr, rIx, iStr, rLeS, rJoin, rSlTA, tComp_eq, tComp1, slots, Option.getD_some, Option.getD_none, tYes, tSeq, tAsg, gName, tOp, tUn, tC, tVar, tCB, tCons, tNil, tCall, rI, rI0, rU, tRet, tRetN, tIfS, tTest, tB, tAnd, tOr, tNot, tAndV, tOrV, tNotV, tIf, tChain, tMenu, tPar, tDrop, tTup, tLst, tNext, tSl, tPart, tNoPart, tNever, gTup, gCons, gNil, gSub, rSetL, tBM, rAppend, rEq, rNe, rIsi, rIxL, rIxT, rIxS, rSlL, isi_non_bl, isi_non_int, isi_non_str, isi_non_lst, isi_non_tup, isi_bl_bl, isi_bl_int, isi_bl_str, isi_bl_lst, isi_bl_tup, isi_int_bl, isi_int_int, isi_int_str, isi_int_lst, isi_int_tup, isi_str_bl, isi_str_int, isi_str_str, isi_str_lst, isi_str_tup, isi_lst_bl, isi_lst_int, isi_lst_str, isi_lst_lst, isi_lst_tup, isi_tup_bl, isi_tup_int, isi_tup_str, isi_tup_lst, isi_tup_tup, isi_dct_bl, isi_dct_int, isi_dct_str, isi_dct_lst, isi_dct_tup, Kd_non, Kd_bl, Kd_int, Kd_str, sc_non_non, sc_non_int, sc_int_non, sc_non_bl, sc_bl_non, sc_non_str, sc_str_non, sc_int_int, sc_bl_bl, sc_str_str, sc_int_str, sc_str_int, sc_bl_str, sc_str_bl, decide_true, decide_false, tFor_eq, iList, iTup, iRng1, iRng2, iRng3, rIndexT, tBM0, tBMT, tyK_int, tyK_bool, tyK_str, tyK_list, tyK_tuple, L2.start, cxK, Int.reduceToNat, List.map_cons, List.map_nil, List.length_cons, List.length_nil, Nat.reduceAdd, Nat.reduceSub, Nat.zero_add, List.replicate_succ, List.replicate_zero, List.cons_append, List.nil_append, List.append_nil, List.getElem?_cons_zero, List.getElem?_cons_succ, List.set_cons_zero, List.set_cons_succ, Option.some.injEq, V.int.injEq, V.bl.injEq, V.ref.injEq, V.str.injEq, V.ty.injEq, List.cons.injEq, exists_eq_left', exists_eq_left, exists_eq_right, exists_and_left, exists_and_right, and_true, true_and, and_assoc, exists_const, decide_eq_true_eq, Bool.not_eq_true', Bool.not_true, Bool.not_false, Bool.not_not, decide_eq_false_iff_not, ite_not, Bool.false_eq_true, if_true, if_false, reduceCtorEq, and_false, false_and, exists_false, or_false, false_or, ↓reduceIte, eq_self, reduceIte]
  refine spCellAt_of (S1.seq hS) (by decide) (spCellAt_of (S1.seq hS) (by decide) ⟨_, _, rfl, fun s2 gs H2 S2 hs2 L2' F2 => ?_⟩)
  simp only [tTryN, rSlS, rMulS, rCatS, iZipL, rInsert, rReverse, tDNewX, tTry, tRaise, iEnumL, iEnumT, iZip, iSeq, iOr, rIx, iStr, rLeS, rJoin, rSlTA, tComp_eq, tComp1, slots, Option.getD_some, Option.getD_none, tYes, tSeq, tAsg, gName, tOp, tUn, tC, tVar, tCB, tCons, tNil, tCall, rI, rI0, rU, tRet, tRetN, tIfS, tTest, tB, tAnd, tOr, tNot, tAndV, tOrV, tNotV, tIf, tChain, tMenu, tPar, tDrop, tTup, tLst, tNext, tSl, tPart, tNoPart, tNever, gTup, gCons, gNil, gSub, rSetL, tBM, rAppend, rEq, rNe, rIsi, rIxL, rIxT, rIxS, rSlL, isi_non_bl, isi_non_int, isi_non_str, isi_non_lst, isi_non_tup, isi_bl_bl, isi_bl_int, isi_bl_str, isi_bl_lst, isi_bl_tup, isi_int_bl, isi_int_int, isi_int_str, isi_int_lst, isi_int_tup, isi_str_bl, isi_str_int, isi_str_str, isi_str_lst, isi_str_tup, isi_lst_bl, isi_lst_int, isi_lst_str, isi_lst_lst, isi_lst_tup, isi_tup_bl, isi_tup_int, isi_tup_str, isi_tup_lst, isi_tup_tup, isi_dct_bl, isi_dct_int, isi_dct_str, isi_dct_lst, isi_dct_tup, Kd_non, Kd_bl, Kd_int, Kd_str, sc_non_non, sc_non_int, sc_int_non, sc_non_bl, sc_bl_non, sc_non_str, sc_str_non, sc_int_int, sc_bl_bl, sc_str_str, sc_int_str, sc_str_int, sc_bl_str, sc_str_bl, decide_true, decide_false, tFor_eq, iList, iTup, iRng1, iRng2, iRng3, rIndexT, tBM0, tBMT, tyK_int, tyK_bool, tyK_str, tyK_list, tyK_tuple, L2.start, cxK, Int.reduceToNat, List.map_cons, List.map_nil, List.length_cons, List.length_nil, Nat.reduceAdd, Nat.reduceSub, Nat.zero_add, List.replicate_succ, List.replicate_zero, List.cons_append, List.nil_append, List.append_nil, List.getElem?_cons_zero, List.getElem?_cons_succ, List.set_cons_zero, List.set_cons_succ, Option.some.injEq, V.int.injEq, V.bl.injEq, V.ref.injEq, V.str.injEq, V.ty.injEq, List.cons.injEq, exists_eq_left', exists_eq_left, exists_eq_right, exists_and_left, exists_and_right, and_true, true_and, and_assoc, exists_const, decide_eq_true_eq, Bool.not_eq_true', Bool.not_true, Bool.not_false, Bool.not_not, decide_eq_false_iff_not, ite_not, Bool.false_eq_true, if_true, if_false, reduceCtorEq, and_false, false_and, exists_false, or_false, false_or, ↓reduceIte, eq_self, reduceIte]
  have S02 := S1.trans S2
  replace L1 := S2 _ _ L1
  generalize cellAt ns 0 = c at *
  have m0 := Int.emod_nonneg c (show (16 : Int) ≠ 0 by decide)
  have m1 := Int.emod_lt_of_pos c (show (0 : Int) < 16 by decide)
  have t0 := Int.emod_nonneg (c / 16) (show (4 : Int) ≠ 0 by decide)
  have t1 := Int.emod_lt_of_pos (c / 16) (show (0 : Int) < 4 by decide)
  obtain ⟨many, hmany, em⟩ := menu_at (xs := [1, 1, 2, 2, 2, 2, 2, 2, 2, 2, 3, 3, 3, 3, 3, 4]) m0 m1
  obtain ⟨st, hst, et⟩ := menu_at (xs := [1, 4, 5, 7]) t0 t1
  have mi : 1 ≤ many ∧ many ≤ 4 := by
    simp only [List.mem_cons, List.not_mem_nil, or_false] at hmany
    omega
  simp only [List.mem_cons, List.not_mem_nil, or_false] at hst
  have si : 1 ≤ st ∧ st ≤ 7 := by omega
  refine ⟨by decide, by decide, m0, _, em, by decide, cdiv (by decide) (by decide), by decide, t0, _, et, by decide, fun l hl => ⟨_, rfl, by omega, by omega, ?_⟩⟩
  have hlH : H l = none := S02.free hl
  obtain ⟨kOf, hkOf⟩ : ∃ kOf : Nat → Kd2, kOf = fun k => (fs.getD (spot c st k % 4) [], gs.getD (spot c st k / 4) []) := ⟨_, rfl⟩
  have l1s := F1.len
  have l2s := F2.len
  obtain ⟨Pv, hP⟩ : ∃ Pv : Nat → St → Hp → Prop, Pv = fun k σ H' => ∃ xs y z, H' l = some (.lst xs) ∧ TpD H' xs (((List.range k).map kOf).map kRow) ∧ Same H2 H' ∧ σ = [some (.ref a), some (.int c), some (.ref s1), some (.ref s2), some (.int many), some (.int st), some (.ref l), y, z] := ⟨_, rfl⟩
  refine forW_range Pv ?_ ?_ ?_
  · rw [hP]
    exact ⟨[], _, _, upd_same, .nil, same_new hl _, rfl⟩
  · intro k σ H' hk h
    rw [hP] at h
    obtain ⟨xs, y, z, dl, td, e, rfl⟩ := h
    obtain ⟨sp1, sp2⟩ := spot_in c st k
    have a1 : atI (fs.map fun cs => V.str (txt cs)) ((spot c st k : Nat) % 4 : Int) = some (.str (txt (kOf k).1)) := by
      rw [show ((spot c st k : Nat) : Int) % 4 = ((spot c st k % 4 : Nat) : Int) by omega]
      refine atI_nat ?_
      rw [List.getElem?_map, List.getElem?_eq_getElem (show spot c st k % 4 < fs.length by omega), hkOf]
      show some _ = some (V.str (txt (fs.getD (spot c st k % 4) [])))
      rw [getD_at (show spot c st k % 4 < fs.length by omega)]
    have a2 : atI (gs.map fun cs => V.str (txt cs)) ((spot c st k : Nat) / 4 : Int) = some (.str (txt (kOf k).2)) := by
      rw [show ((spot c st k : Nat) : Int) / 4 = ((spot c st k / 4 : Nat) : Int) by omega]
      refine atI_nat ?_
      rw [List.getElem?_map, List.getElem?_eq_getElem (show spot c st k / 4 < gs.length by omega), hkOf]
      show some _ = some (V.str (txt (gs.getD (spot c st k / 4) [])))
      rw [getD_at (show spot c st k / 4 < gs.length by omega)]
    have len := td.length
    rw [List.length_map, List.length_map, List.length_range] at len
    simp only [tTryN, rSlS, rMulS, rCatS, iZipL, rInsert, rReverse, tDNewX, tTry, tRaise, iEnumL, iEnumT, iZip, iSeq, iOr, rIx, iStr, rLeS, rJoin, rSlTA, tComp_eq, tComp1, slots, Option.getD_some, Option.getD_none, tYes, tSeq, tAsg, gName, tOp, tUn, tC, tVar, tCB, tCons, tNil, tCall, rI, rI0, rU, tRet, tRetN, tIfS, tTest, tB, tAnd, tOr, tNot, tAndV, tOrV, tNotV, tIf, tChain, tMenu, tPar, tDrop, tTup, tLst, tNext, tSl, tPart, tNoPart, tNever, gTup, gCons, gNil, gSub, rSetL, tBM, rAppend, rEq, rNe, rIsi, rIxL, rIxT, rIxS, rSlL, isi_non_bl, isi_non_int, isi_non_str, isi_non_lst, isi_non_tup, isi_bl_bl, isi_bl_int, isi_bl_str, isi_bl_lst, isi_bl_tup, isi_int_bl, isi_int_int, isi_int_str, isi_int_lst, isi_int_tup, isi_str_bl, isi_str_int, isi_str_str, isi_str_lst, isi_str_tup, isi_lst_bl, isi_lst_int, isi_lst_str, isi_lst_lst, isi_lst_tup, isi_tup_bl, isi_tup_int, isi_tup_str, isi_tup_lst, isi_tup_tup, isi_dct_bl, isi_dct_int, isi_dct_str, isi_dct_lst, isi_dct_tup, Kd_non, Kd_bl, Kd_int, Kd_str, sc_non_non, sc_non_int, sc_int_non, sc_non_bl, sc_bl_non, sc_non_str, sc_str_non, sc_int_int, sc_bl_bl, sc_str_str, sc_int_str, sc_str_int, sc_bl_str, sc_str_bl, decide_true, decide_false, tFor_eq, iList, iTup, iRng1, iRng2, iRng3, rIndexT, tBM0, tBMT, tyK_int, tyK_bool, tyK_str, tyK_list, tyK_tuple, L2.start, cxK, Int.reduceToNat, List.map_cons, List.map_nil, List.length_cons, List.length_nil, Nat.reduceAdd, Nat.reduceSub, Nat.zero_add, List.replicate_succ, List.replicate_zero, List.cons_append, List.nil_append, List.append_nil, List.getElem?_cons_zero, List.getElem?_cons_succ, List.set_cons_zero, List.set_cons_succ, Option.some.injEq, V.int.injEq, V.bl.injEq, V.ref.injEq, V.str.injEq, V.ty.injEq, List.cons.injEq, exists_eq_left', exists_eq_left, exists_eq_right, exists_and_left, exists_and_right, and_true, true_and, and_assoc, exists_const, decide_eq_true_eq, Bool.not_eq_true', Bool.not_true, Bool.not_false, Bool.not_not, decide_eq_false_iff_not, ite_not, Bool.false_eq_true, if_true, if_false, reduceCtorEq, and_false, false_and, exists_false, or_false, false_or, ↓reduceIte, eq_self, reduceIte]
    refine ⟨cdiv (by decide) (by decide), cmul (by omega) (by omega) (by omega) (by omega), by decide, ?_⟩
    rw [sp2]
    refine ⟨.inl ⟨rfl, _, SqL.of dl⟩, by decide, _, SqL.of (e _ _ L1), _, a1, cdiv (by decide) (by decide), _, SqL.of (e _ _ L2'), _, a2, by decide, fun p hp => ?_⟩
    obtain ⟨H3, g3, S3, T3⟩ : ∃ H3, H3 = upd H' p (.tup (kRow (kOf k))) ∧ Same H' H3 ∧ H3 p = some (.tup (kRow (kOf k))) := ⟨_, rfl, same_new hp _, upd_same⟩
    have g3' : H3 = upd H' p (.tup [V.str (txt (kOf k).1), V.str (txt (kOf k).2)]) := g3
    rw [← g3']
    clear g3 g3'
    have d3 := S3 _ _ dl
    refine ⟨_, d3, Nat.lt_of_lt_of_le (m := 64) (by omega) (by decide), ?_⟩
    rw [hP]
    refine ⟨_, _, _, upd_same, ?_, same_upd (e.trans S3) hl _, rfl⟩
    rw [List.range_succ, List.map_append, List.map_append]
    exact ((td.same S3).snoc T3).upd d3
  · intro σ H' h
    rw [hP] at h
    obtain ⟨xs, y, z, dl, td, e, rfl⟩ := h
    simp only [tTryN, rSlS, rMulS, rCatS, iZipL, rInsert, rReverse, tDNewX, tTry, tRaise, iEnumL, iEnumT, iZip, iSeq, iOr, rIx, iStr, rLeS, rJoin, rSlTA, tComp_eq, tComp1, slots, Option.getD_some, Option.getD_none, tYes, tSeq, tAsg, gName, tOp, tUn, tC, tVar, tCB, tCons, tNil, tCall, rI, rI0, rU, tRet, tRetN, tIfS, tTest, tB, tAnd, tOr, tNot, tAndV, tOrV, tNotV, tIf, tChain, tMenu, tPar, tDrop, tTup, tLst, tNext, tSl, tPart, tNoPart, tNever, gTup, gCons, gNil, gSub, rSetL, tBM, rAppend, rEq, rNe, rIsi, rIxL, rIxT, rIxS, rSlL, isi_non_bl, isi_non_int, isi_non_str, isi_non_lst, isi_non_tup, isi_bl_bl, isi_bl_int, isi_bl_str, isi_bl_lst, isi_bl_tup, isi_int_bl, isi_int_int, isi_int_str, isi_int_lst, isi_int_tup, isi_str_bl, isi_str_int, isi_str_str, isi_str_lst, isi_str_tup, isi_lst_bl, isi_lst_int, isi_lst_str, isi_lst_lst, isi_lst_tup, isi_tup_bl, isi_tup_int, isi_tup_str, isi_tup_lst, isi_tup_tup, isi_dct_bl, isi_dct_int, isi_dct_str, isi_dct_lst, isi_dct_tup, Kd_non, Kd_bl, Kd_int, Kd_str, sc_non_non, sc_non_int, sc_int_non, sc_non_bl, sc_bl_non, sc_non_str, sc_str_non, sc_int_int, sc_bl_bl, sc_str_str, sc_int_str, sc_str_int, sc_bl_str, sc_str_bl, decide_true, decide_false, tFor_eq, iList, iTup, iRng1, iRng2, iRng3, rIndexT, tBM0, tBMT, tyK_int, tyK_bool, tyK_str, tyK_list, tyK_tuple, L2.start, cxK, Int.reduceToNat, List.map_cons, List.map_nil, List.length_cons, List.length_nil, Nat.reduceAdd, Nat.reduceSub, Nat.zero_add, List.replicate_succ, List.replicate_zero, List.cons_append, List.nil_append, List.append_nil, List.getElem?_cons_zero, List.getElem?_cons_succ, List.set_cons_zero, List.set_cons_succ, Option.some.injEq, V.int.injEq, V.bl.injEq, V.ref.injEq, V.str.injEq, V.ty.injEq, List.cons.injEq, exists_eq_left', exists_eq_left, exists_eq_right, exists_and_left, exists_and_right, and_true, true_and, and_assoc, exists_const, decide_eq_true_eq, Bool.not_eq_true', Bool.not_true, Bool.not_false, Bool.not_not, decide_eq_false_iff_not, ite_not, Bool.false_eq_true, if_true, if_false, reduceCtorEq, and_false, false_and, exists_false, or_false, false_or, ↓reduceIte, eq_self, reduceIte]
    refine q _ _ _ _ (S02.trans e) hlH dl td ⟨?_, ?_, fun k hk => ?_, ?_⟩
    · rw [List.length_map, List.length_range]
      omega
    · rw [List.length_map, List.length_range]
      omega
    · obtain ⟨i, hi, rfl⟩ := List.mem_map.mp hk
      obtain ⟨sp1, _⟩ := spot_in c st i
      rw [hkOf]
      constructor
      · show nameB (fs.getD (spot c st i % 4) []) = true
        rw [getD_at (show spot c st i % 4 < fs.length by omega)]
        exact F1.name _ (List.getElem_mem _)
      · show nameB (gs.getD (spot c st i / 4) []) = true
        rw [getD_at (show spot c st i / 4 < gs.length by omega)]
        exact F2.name _ (List.getElem_mem _)
    · rw [List.nodup_iff_pairwise_ne, List.pairwise_map]
      refine List.Pairwise.imp_of_mem (fun {i j} hi hj hne he => ?_) List.nodup_range
      have hi' := List.mem_range.mp hi
      have hj' := List.mem_range.mp hj
      obtain ⟨u1, _⟩ := spot_in c st i
      obtain ⟨u2, _⟩ := spot_in c st j
      rw [hkOf] at he
      have e1 : spot c st i % 4 = spot c st j % 4 := F1.apart _ _ (by omega) (by omega) (congrArg Prod.fst he)
      have e2 : spot c st i / 4 = spot c st j / 4 := F2.apart _ _ (by omega) (by omega) (congrArg Prod.snd he)
      have e3 : spot c st i = spot c st j := by
        have := Nat.div_add_mod (spot c st i) 4
        have := Nat.div_add_mod (spot c st j) 4
        omega
      exact hne (spot_apart hst (by omega) (by omega) e3)
end

inductive PartV2 (K : PySem.W.Frag) (H : Hp) : List V → List Bool → Prop
  | nil : PartV2 K H [] []
  | cons {x : V} {b : Bool} {xs : List V} {bs : List Bool} : PartV K H x b → PartV2 K H xs bs → PartV2 K H (x :: xs) (b :: bs)
theorem PartV2.same {K : PySem.W.Frag} {H H' : Hp} {xs : List V} {bs : List Bool} (h : PartV2 K H xs bs) (e : Same H H') : PartV2 K H' xs bs := by
  induction h with
  | nil => exact .nil
  | cons a _ ih => exact .cons (a.same e) ih
theorem PartV2.length {K : PySem.W.Frag} {H : Hp} {xs : List V} {bs : List Bool} (h : PartV2 K H xs bs) : xs.length = bs.length := by
  induction h with
  | nil => rfl
  | cons _ _ ih => rw [List.length_cons, List.length_cons, ih]
theorem PartV2.at {K : PySem.W.Frag} {H : Hp} {xs : List V} {bs : List Bool} (h : PartV2 K H xs bs) : ∀ {i : Nat} {x : V}, xs[i]? = some x → ∃ b, bs[i]? = some b ∧ PartV K H x b := by
  induction h with
  | nil => intro i x e; simp at e
  | cons a _ ih =>
    intro i x e
    cases i with
    | zero => cases e; exact ⟨_, rfl, a⟩
    | succ i => exact ih e
abbrev Pt : Type := Kd2 × Int
def pRow (p : Pt) : List V := [.str (txt p.1.1), .str (txt p.1.2), .int p.2]
abbrev okKind (k : Kd2) : Prop := nameB k.1 = true ∧ nameB k.2 = true
inductive PrtAll (K : PySem.W.Frag) (H : Hp) : List V → List Pt → Prop
  | nil : PrtAll K H [] []
  | cons {p : Addr} {q : Pt} {xs : List V} {ps : List Pt} : SqT K H p (pRow q) → okKind q.1 → 1 ≤ q.2 → PrtAll K H xs ps → PrtAll K H (.ref p :: xs) (q :: ps)
theorem PrtAll.same {K : PySem.W.Frag} {H H' : Hp} {xs : List V} {ps : List Pt} (h : PrtAll K H xs ps) (e : Same H H') : PrtAll K H' xs ps := by
  induction h with
  | nil => exact .nil
  | cons a b c _ ih => exact .cons (Same.tup e a) b c ih
theorem PrtAll.length {K : PySem.W.Frag} {H : Hp} {xs : List V} {ps : List Pt} (h : PrtAll K H xs ps) : xs.length = ps.length := by
  induction h with
  | nil => rfl
  | cons _ _ _ _ ih => rw [List.length_cons, List.length_cons, ih]
theorem PrtAll.at {K : PySem.W.Frag} {H : Hp} {xs : List V} {ps : List Pt} (h : PrtAll K H xs ps) : ∀ {i : Nat} {x : V}, xs[i]? = some x → ∃ p q, x = .ref p ∧ ps[i]? = some q ∧ SqT K H p (pRow q) ∧ okKind q.1 ∧ 1 ≤ q.2 := by
  induction h with
  | nil => intro i x e; simp at e
  | cons a b c _ ih =>
    intro i x e
    cases i with
    | zero => cases e; exact ⟨_, _, rfl, rfl, a, b, c⟩
    | succ i => exact ih e
theorem name_asc {cs : List Nat} (h : nameB cs = true) : asc cs ∧ cs.length ≤ 8 := by
  unfold nameB at h
  rw [Bool.and_eq_true, decide_eq_true_iff] at h
  refine ⟨List.all_eq_true.mpr fun c hc => decide_eq_true ?_, h.1.2⟩
  have := List.all_eq_true.mp h.2 c hc
  unfold isLow at this
  rw [Bool.and_eq_true, decide_eq_true_iff, decide_eq_true_iff] at this
  omega
theorem name_v {K : PySem.W.Frag} {H : Hp} {cs : List Nat} (h : nameB cs = true) : NameV K H (.str (txt cs)) true := by
  have a := name_asc h
  have := NameV.txt (K := K) (H := H) a.1 (show cs.length ≤ 1000 by omega)
  rwa [h] at this
theorem PrtAll.v2 {K : PySem.W.Frag} {H : Hp} {xs : List V} {ps : List Pt} (h : PrtAll K H xs ps) : PartV2 K H xs (ps.map fun _ => true) := by
  induction h with
  | nil => exact .nil
  | @cons p q xs ps a b c _ ih =>
    refine .cons ?_ ih
    have := PartV.three a (name_v b.1) (name_v b.2) (show Kd K H (.int q.2) .int from rfl)
    have e : (true && true && wB (.int q.2)) = true := by
      show (true && decide (1 ≤ q.2)) = true
      rw [decide_eq_true c]
      rfl
    rwa [e] at this
inductive PartsV (K : PySem.W.Frag) (H : Hp) : V → Bool → Prop
  | no {v : V} {k : Kn} : Kd K H v k → k ≠ .lst → PartsV K H v false
  | len {l : Addr} {xs : List V} : SqL K H l xs → ¬(1 ≤ xs.length ∧ xs.length ≤ 40) → PartsV K H (.ref l) false
  | bad {l : Addr} {xs : List V} {bs : List Bool} : SqL K H l xs → 1 ≤ xs.length → xs.length ≤ 40 → PartV2 K H xs bs → bs.all id = false → PartsV K H (.ref l) false
  | good {l : Addr} {xs : List V} {ps : List Pt} : SqL K H l xs → 1 ≤ xs.length → xs.length ≤ 40 → PrtAll K H xs ps → PartsV K H (.ref l) (decide ((ps.map (·.2)).sum ≤ 10 ^ 15))
def spAreParts (K : PySem.W.Frag) : Sp := fun vs H Q _ => ∃ v b, vs = [v] ∧ PartsV K H v b ∧ ∀ H', Same H H' → Q (.bl b) H'
theorem isiG_lst_ne {k : Kn} (h : k ≠ .lst) : isiB k .lst = false := by
  cases k <;> first | rfl | exact absurd rfl h
theorem ptruths {K : PySem.W.Frag} {H : Hp} {l D : Addr} {xs : List V} {bs : List Bool} {Q : VK} {E : XK} (L : SqL K H l xs) (B : PartV2 K H xs bs) (hD : H D = none) (q : ∀ H', Same H H' → SqL K H' D (bs.map V.bl) → Q (.ref D) H')
    (hl : xs.length ≤ 40 := by assumption) : CompS D (Itl K l) (gName 0) tYes (tCall (spIsPart K) [] E (tCons (tVar 0) tNil)) Q [none] (upd H D (.lst [])) := by
  obtain ⟨Pc, hC⟩ : ∃ Pc : Nat → St → Hp → Prop, Pc = fun i τ H' => ∃ z, H' D = some (.lst ((bs.take i).map V.bl)) ∧ Same H H' ∧ τ = [z] := ⟨_, rfl⟩
  refine compS_list xs Pc ?_ (fun i τ H' _ h => by rw [hC] at h; obtain ⟨z, _, e, _⟩ := h; exact e.seq L) ?_ ?_
  · rw [hC]
    exact ⟨_, upd_same, same_new hD _, rfl⟩
  · intro i x τ H' R hx h next
    rw [hC] at h
    obtain ⟨z, d1, d2, rfl⟩ := h
    obtain ⟨b, hb, Bx⟩ := B.at hx
    have li : i < xs.length := (List.getElem?_eq_some_iff.mp hx).1
    simp only [tTryN, rSlS, rMulS, rCatS, iZipL, rInsert, rReverse, tDNewX, tTry, tRaise, iEnumL, iEnumT, iZip, iSeq, iOr, rIx, iStr, rLeS, rJoin, rSlTA, tComp_eq, tComp1, slots, Option.getD_some, Option.getD_none, tYes, tSeq, tAsg, gName, tOp, tUn, tC, tVar, tCB, tCons, tNil, tCall, rI, rI0, rU, tRet, tRetN, tIfS, tTest, tB, tAnd, tOr, tNot, tAndV, tOrV, tNotV, tIf, tChain, tMenu, tPar, tDrop, tTup, tLst, tNext, tSl, tPart, tNoPart, tNever, gTup, gCons, gNil, gSub, rSetL, tBM, rAppend, rEq, rNe, rIsi, rIxL, rIxT, rIxS, rSlL, isi_non_bl, isi_non_int, isi_non_str, isi_non_lst, isi_non_tup, isi_bl_bl, isi_bl_int, isi_bl_str, isi_bl_lst, isi_bl_tup, isi_int_bl, isi_int_int, isi_int_str, isi_int_lst, isi_int_tup, isi_str_bl, isi_str_int, isi_str_str, isi_str_lst, isi_str_tup, isi_lst_bl, isi_lst_int, isi_lst_str, isi_lst_lst, isi_lst_tup, isi_tup_bl, isi_tup_int, isi_tup_str, isi_tup_lst, isi_tup_tup, isi_dct_bl, isi_dct_int, isi_dct_str, isi_dct_lst, isi_dct_tup, Kd_non, Kd_bl, Kd_int, Kd_str, sc_non_non, sc_non_int, sc_int_non, sc_non_bl, sc_bl_non, sc_non_str, sc_str_non, sc_int_int, sc_bl_bl, sc_str_str, sc_int_str, sc_str_int, sc_bl_str, sc_str_bl, decide_true, decide_false, tFor_eq, iList, iTup, iRng1, iRng2, iRng3, rIndexT, tBM0, tBMT, tyK_int, tyK_bool, tyK_str, tyK_list, tyK_tuple, L2.start, cxK, Int.reduceToNat, List.map_cons, List.map_nil, List.length_cons, List.length_nil, Nat.reduceAdd, Nat.reduceSub, Nat.zero_add, List.replicate_succ, List.replicate_zero, List.cons_append, List.nil_append, List.append_nil, List.getElem?_cons_zero, List.getElem?_cons_succ, List.set_cons_zero, List.set_cons_succ, Option.some.injEq, V.int.injEq, V.bl.injEq, V.ref.injEq, V.str.injEq, V.ty.injEq, List.cons.injEq, exists_eq_left', exists_eq_left, exists_eq_right, exists_and_left, exists_and_right, and_true, true_and, and_assoc, exists_const, decide_eq_true_eq, Bool.not_eq_true', Bool.not_true, Bool.not_false, Bool.not_not, decide_eq_false_iff_not, ite_not, Bool.false_eq_true, if_true, if_false, reduceCtorEq, and_false, false_and, exists_false, or_false, false_or, ↓reduceIte, eq_self, reduceIte]
    refine ⟨_, _, rfl, Bx.same d2, fun H2 e2 => ⟨_, e2 _ _ d1, ?_, next _ _ ?_⟩⟩
    · rw [List.length_map, List.length_take]
      exact Nat.lt_of_lt_of_le (m := 64) (by omega) (by decide)
    · rw [hC]
      refine ⟨_, ?_, same_upd (d2.trans e2) hD _, rfl⟩
      rw [upd_same, List.take_add_one, hb, List.map_append]
      rfl
  · intro τ H' h
    rw [hC] at h
    obtain ⟨z, d1, d2, rfl⟩ := h
    rw [List.take_of_length_le (by rw [B.length]; exact Nat.le_refl _)] at d1
    exact q _ d2 (SqL.of d1)
def wSum (ps : List Pt) (k : Kd2) : Int := ((ps.filter fun p => decide (p.1 = k)).map (·.2)).sum
def spWeightIn (K : PySem.W.Frag) : Sp := fun vs H Q _ => ∃ (l r : Addr) (xs : List V) (ps : List Pt) (k : Kd2), vs = [.ref l, .ref r] ∧ SqL K H l xs ∧ PrtAll K H xs ps ∧ xs.length ≤ 40 ∧ SqT K H r (kRow k) ∧ okKind k ∧ ∀ H', Same H H' → Q (.int (wSum ps k)) H'
def kD (k : Kd2) : PyData := .tuple [.str (txt k.1), .str (txt k.2)]
theorem rep_kind {K : PySem.W.Frag} {H : Hp} {p : Addr} {k : Kd2} (h : SqT K H p (kRow k)) : Rep K H (.ref p) (kD k) := .tup h (.cons (.str _) (.cons (.str _) .nil))
theorem flat_kind {k : Kd2} (h : okKind k) : flatD (kD k) := by
  have sk : ∀ {cs : List Nat}, nameB cs = true → PyData.canLay0 (.str (txt cs)) = true := fun {cs} hn => by
    have a := (name_asc hn).1
    show (txt cs).cps.all (· < 0x110000) = true
    rw [List.all_toArray, List.all_eq_true]
    intro c hc
    have := of_decide_eq_true (List.all_eq_true.mp a c hc)
    exact decide_eq_true (by omega)
  refine ⟨?_, by show max 0 (max 0 0) + 1 ≤ 40; decide⟩
  show (PyData.canLay0 (.str (txt k.1)) && (PyData.canLay0 (.str (txt k.2)) && true)) = true
  rw [sk h.1, sk h.2]
  rfl
theorem txt_inj {a b : List Nat} : (txt a == txt b) = decide (a = b) := by
  by_cases h : a = b
  · subst h
    rw [decide_eq_true rfl]
    exact beq_self_eq_true _
  · rw [decide_eq_false h]
    refine beq_false_of_ne fun e => h ?_
    have := congrArg (fun s : Str => s.cps.toList) e
    simpa using this
theorem eqv_kind (k k' : Kd2) : PyData.eqv (kD k) (kD k') = decide (k = k') := by
  obtain ⟨a, b⟩ := k
  obtain ⟨c, d⟩ := k'
  show ((txt a == txt c) && ((txt b == txt d) && true)) = _
  rw [txt_inj, txt_inj]
  by_cases h1 : a = c <;> by_cases h2 : b = d <;> simp [h1, h2]
theorem rEqD_kind {K : PySem.W.Frag} {H : Hp} {p q : Addr} {k k' : Kd2} {neg : Bool} {Q : VK} (h1 : SqT K H p (kRow k)) (h2 : SqT K H q (kRow k')) (o1 : okKind k) (o2 : okKind k') (hq : Q (.bl (if neg then !decide (k = k') else decide (k = k'))) H) : rEqD K neg (.ref p) (.ref q) H Q :=
  ⟨_, _, rep_kind h1, rep_kind h2, flat_kind o1, flat_kind o2, by rw [eqv_kind]; exact hq⟩
section
variable {P : Program} {w : World} {K : PySem.W.Frag} {mg : Str → Option Value} {base : Heap} {f : Addr} {fd : FuncData}
theorem ok_are_parts (F : Fun K "are_parts" "are_parts" s_are_parts f fd) (M : Mg mg) (C_is_part : Cal P w K mg base CX0 "is_part" 3 ["thing"] (spIsPart K)) : FnOk P w K mg base CX0 4 f fd ["thing"] (spAreParts K) := by
  refine F.ok sc_are_parts (fun vs H Q E h => ?_) (fun cdv A outer s H vs Q E hr h => ?_)
  · obtain ⟨v, b, rfl, _⟩ := h
    rfl
  obtain ⟨v, b, rfl, N, q⟩ := h
  refine ⟨_, (@pss_cons _ _ _ _ _ (@ps_if _ _ _ _ _ _ _ _ (@PW.pt _ _ _ (@pw_or _ _ _ _ _ _ _ (@pt_not _ _ _ _ (@pt_val _ _ _ (@pe_callB _ _ _ _ _ _ _ _ _ call_isi g_are_parts_isinstance M.m_isinstance b_isinstance (@pa_cons _ _ _ _ _ (@pe_var _ 0 _ _ rfl v_are_parts_0 dn_thing dc_thing) (@pa_cons _ _ _ _ _ (@pe_bltn _ _ (.ty "list") _ _ g_are_parts_list M.m_list b_list rfl nn_list dn_list) (@pa_nil _) (star1 rfl)) (star1 rfl)) nn_isinstance dn_isinstance (star1 rfl) (nost1 rfl nost0)) (test1 rfl))) (@pw_or1 _ _ _ _ (@pt_not _ _ _ _ (@pt_chain _ _ _ _ _ _ _ _ _ _ _ _ op_le op_le (@pe_int _ _ _ _) (@pe_callB _ _ _ _ _ _ _ _ _ call_len_seq g_are_parts_len M.m_len b_len (@pa_cons _ _ _ _ _ (@pe_var _ 0 _ _ rfl v_are_parts_0 dn_thing dc_thing) (@pa_nil _) (star1 rfl)) nn_len dn_len (star1 rfl) nost0) (@pe_int _ _ _ _) (by with_unfolding_all rfl)))))) (@pss_one _ _ _ (@ps_ret _ _ _ _ (@pe_bl _ _ _ _))) (@pss_nil _)) (@pss_cons _ _ _ _ _ (@ps_if _ _ _ _ _ _ _ _ (@pt_not _ _ _ _ (@pt_val _ _ _ (@pe_callB _ _ _ _ _ _ _ _ _ (call_all1 rfl) g_are_parts_all M.m_all b_all (@pa_cons _ _ _ _ _ (@pe_comp _ _ _ _ _ _ _ _ _ _ _ _ _ _ _ rfl (CompOk.make (N' := ["part"]) (ix := []) (nl := 1) (by rfl) fm0 (by rfl) (by decide +kernel) rfl (by decide +kernel) rfl True.intro) (@pi_list _ _ _ _ (@pe_var _ 0 _ _ rfl v_are_parts_0 dn_thing dc_thing)) (fun _ _ _ _ _ => (@pg_name _ _ 0 _ (show List.Nodup (["part"] : List Str) from by decide) rfl (Or.inl rfl) (by first | exact .inl rfl | exact .inr rfl | assumption))) (fun _ _ _ _ _ => (@pif_nil _)) (fun _ _ _ _ _ => (@pe_callC _ _ _ _ _ _ _ _ _ _ _ C_is_part hr rfl (@pa_cons _ _ _ _ _ (@pv _ 0 _ _ (by rfl) (by first | exact Or.inl rfl | exact Or.inr (Or.inl rfl) | exact Or.inr (Or.inr rfl)) (by decide) (by decide)) (@pa_nil _) (star1 rfl)) (by decide) dn_is_part (star1 rfl) nost0)) (by intro _; rfl)) (@pa_nil _) (star1 rfl)) nn_all dn_all (star1 rfl) nost0) (test1 rfl))) (@pss_one _ _ _ (@ps_ret _ _ _ _ (@pe_bl _ _ _ _))) (@pss_nil _)) (@pss_one _ _ _ (@ps_ret _ _ _ _ (@pe_cmpR _ _ _ _ _ _ _ _ op_le (@pe_callB _ _ _ _ _ _ _ _ _ (call_sum1 rfl) g_are_parts_sum M.m_sum b_sum (@pa_cons _ _ _ _ _ (@pe_comp _ _ _ _ _ _ _ _ _ _ _ _ _ _ _ rfl (CompOk.make (N' := ["part"]) (ix := []) (nl := 1) (by rfl) fm0 (by rfl) (by decide +kernel) rfl (by decide +kernel) rfl True.intro) (@pi_list _ _ _ _ (@pe_var _ 0 _ _ rfl v_are_parts_0 dn_thing dc_thing)) (fun _ _ _ _ _ => (@pg_name _ _ 0 _ (show List.Nodup (["part"] : List Str) from by decide) rfl (Or.inl rfl) (by first | exact .inl rfl | exact .inr rfl | assumption))) (fun _ _ _ _ _ => (@pif_nil _)) (fun _ _ _ _ _ => (@pe_ix _ _ _ _ _ _ _ (ix_tupK (K := K) rfl) (@pv _ 0 _ _ (by rfl) (by first | exact Or.inl rfl | exact Or.inr (Or.inl rfl) | exact Or.inr (Or.inr rfl)) (by decide) (by decide)) (@pe_int _ _ _ _) (fun _ _ => rfl))) (by intro _; rfl)) (@pa_nil _) (star1 rfl)) nn_sum dn_sum (star1 rfl) nost0) (@pe_op _ _ _ _ _ _ _ _ (@op_pow _) (@pe_int _ _ _ _) (@pe_int _ _ _ _)) (nomark _)))))), ?_⟩
  simp only [tTryN, rSlS, rMulS, rCatS, iZipL, rInsert, rReverse, tDNewX, tTry, tRaise, iEnumL, iEnumT, iZip, iSeq, iOr, rIx, iStr, rLeS, rJoin, rSlTA, tComp_eq, tComp1, slots, Option.getD_some, Option.getD_none, tYes, tSeq, tAsg, gName, tOp, tUn, tC, tVar, tCB, tCons, tNil, tCall, rI, rI0, rU, tRet, tRetN, tIfS, tTest, tB, tAnd, tOr, tNot, tAndV, tOrV, tNotV, tIf, tChain, tMenu, tPar, tDrop, tTup, tLst, tNext, tSl, tPart, tNoPart, tNever, gTup, gCons, gNil, gSub, rSetL, tBM, rAppend, rEq, rNe, rIsi, rIxL, rIxT, rIxS, rSlL, isi_non_bl, isi_non_int, isi_non_str, isi_non_lst, isi_non_tup, isi_bl_bl, isi_bl_int, isi_bl_str, isi_bl_lst, isi_bl_tup, isi_int_bl, isi_int_int, isi_int_str, isi_int_lst, isi_int_tup, isi_str_bl, isi_str_int, isi_str_str, isi_str_lst, isi_str_tup, isi_lst_bl, isi_lst_int, isi_lst_str, isi_lst_lst, isi_lst_tup, isi_tup_bl, isi_tup_int, isi_tup_str, isi_tup_lst, isi_tup_tup, isi_dct_bl, isi_dct_int, isi_dct_str, isi_dct_lst, isi_dct_tup, Kd_non, Kd_bl, Kd_int, Kd_str, sc_non_non, sc_non_int, sc_int_non, sc_non_bl, sc_bl_non, sc_non_str, sc_str_non, sc_int_int, sc_bl_bl, sc_str_str, sc_int_str, sc_str_int, sc_bl_str, sc_str_bl, decide_true, decide_false, tFor_eq, iList, iTup, iRng1, iRng2, iRng3, rIndexT, tBM0, tBMT, tyK_int, tyK_bool, tyK_str, tyK_list, tyK_tuple, L2.start, cxK, Int.reduceToNat, List.map_cons, List.map_nil, List.length_cons, List.length_nil, Nat.reduceAdd, Nat.reduceSub, Nat.zero_add, List.replicate_succ, List.replicate_zero, List.cons_append, List.nil_append, List.append_nil, List.getElem?_cons_zero, List.getElem?_cons_succ, List.set_cons_zero, List.set_cons_succ, Option.some.injEq, V.int.injEq, V.bl.injEq, V.ref.injEq, V.str.injEq, V.ty.injEq, List.cons.injEq, exists_eq_left', exists_eq_left, exists_eq_right, exists_and_left, exists_and_right, and_true, true_and, and_assoc, exists_const, decide_eq_true_eq, Bool.not_eq_true', Bool.not_true, Bool.not_false, Bool.not_not, decide_eq_false_iff_not, ite_not, Bool.false_eq_true, if_true, if_false, reduceCtorEq, and_false, false_and, exists_false, or_false, false_or, ↓reduceIte, eq_self, reduceIte]
  cases N with
  | no kd hk =>
    refine ⟨_, kd, ?_⟩
    rw [if_pos (isiG_lst_ne hk)]
    exact q _ (Same.refl _)
  | @len l xs L hl =>
    refine ⟨_, Kd.lst L, ?_⟩
    rw [if_neg (by decide)]
    refine ⟨_, rfl, _, .inl L, ?_⟩
    by_cases h1 : 1 ≤ (xs.length : Int)
    · rw [if_pos h1, if_neg (by omega)]
      exact q _ (Same.refl _)
    · rw [if_neg h1]
      exact q _ (Same.refl _)
  | @bad l xs bs L l1 l40 B ba =>
    refine ⟨_, Kd.lst L, ?_⟩
    rw [if_neg (by decide)]
    refine ⟨_, rfl, _, .inl L, ?_⟩
    rw [if_pos (by omega), if_pos (by omega)]
    refine ⟨_, rfl, ⟨_, L⟩, fun D hD => ptruths L B hD fun H1 S1 L1 => ⟨_, rfl, _, L1, ?_⟩⟩
    rw [if_pos ba]
    exact q _ S1
  | @good l xs ps L l1 l40 PA =>
    refine ⟨_, Kd.lst L, ?_⟩
    rw [if_neg (by decide)]
    refine ⟨_, rfl, _, .inl L, ?_⟩
    rw [if_pos (by omega), if_pos (by omega)]
    refine ⟨_, rfl, ⟨_, L⟩, fun D hD => ptruths L PA.v2 hD fun H1 S1 L1 => ⟨_, rfl, _, L1, ?_⟩⟩
    have at' : (ps.map fun _ => true).all id = true := by
      rw [List.all_map, List.all_eq_true]
      intro _ _
      rfl
    rw [if_neg (by rw [at']; decide)]
    have len := PA.length
    refine ⟨_, rfl, ⟨_, S1.seq L⟩, fun D2 hD2 => ?_⟩
    obtain ⟨Pc, hC⟩ : ∃ Pc : Nat → St → Hp → Prop, Pc = fun i τ H' => ∃ z, H' D2 = some (.lst (((ps.map (·.2)).take i).map V.int)) ∧ Same H1 H' ∧ τ = [z] := ⟨_, rfl⟩
    refine compS_list xs Pc ?_ (fun i τ H' _ h => by rw [hC] at h; obtain ⟨z, _, e, _⟩ := h; exact (S1.trans e).seq L) ?_ ?_
    · rw [hC]
      exact ⟨_, upd_same, same_new hD2 _, rfl⟩
    · intro i x τ H' R' hx h next
      rw [hC] at h
      obtain ⟨z, d1, d2, rfl⟩ := h
      obtain ⟨p, pq, rfl, hp, Tp, _⟩ := (PA.same (S1.trans d2)).at hx
      have li : i < xs.length := (List.getElem?_eq_some_iff.mp hx).1
      simp only [tTryN, rSlS, rMulS, rCatS, iZipL, rInsert, rReverse, tDNewX, tTry, tRaise, iEnumL, iEnumT, iZip, iSeq, iOr, rIx, iStr, rLeS, rJoin, rSlTA, tComp_eq, tComp1, slots, Option.getD_some, Option.getD_none, tYes, tSeq, tAsg, gName, tOp, tUn, tC, tVar, tCB, tCons, tNil, tCall, rI, rI0, rU, tRet, tRetN, tIfS, tTest, tB, tAnd, tOr, tNot, tAndV, tOrV, tNotV, tIf, tChain, tMenu, tPar, tDrop, tTup, tLst, tNext, tSl, tPart, tNoPart, tNever, gTup, gCons, gNil, gSub, rSetL, tBM, rAppend, rEq, rNe, rIsi, rIxL, rIxT, rIxS, rSlL, isi_non_bl, isi_non_int, isi_non_str, isi_non_lst, isi_non_tup, isi_bl_bl, isi_bl_int, isi_bl_str, isi_bl_lst, isi_bl_tup, isi_int_bl, isi_int_int, isi_int_str, isi_int_lst, isi_int_tup, isi_str_bl, isi_str_int, isi_str_str, isi_str_lst, isi_str_tup, isi_lst_bl, isi_lst_int, isi_lst_str, isi_lst_lst, isi_lst_tup, isi_tup_bl, isi_tup_int, isi_tup_str, isi_tup_lst, isi_tup_tup, isi_dct_bl, isi_dct_int, isi_dct_str, isi_dct_lst, isi_dct_tup, Kd_non, Kd_bl, Kd_int, Kd_str, sc_non_non, sc_non_int, sc_int_non, sc_non_bl, sc_bl_non, sc_non_str, sc_str_non, sc_int_int, sc_bl_bl, sc_str_str, sc_int_str, sc_str_int, sc_bl_str, sc_str_bl, decide_true, decide_false, tFor_eq, iList, iTup, iRng1, iRng2, iRng3, rIndexT, tBM0, tBMT, tyK_int, tyK_bool, tyK_str, tyK_list, tyK_tuple, L2.start, cxK, Int.reduceToNat, List.map_cons, List.map_nil, List.length_cons, List.length_nil, Nat.reduceAdd, Nat.reduceSub, Nat.zero_add, List.replicate_succ, List.replicate_zero, List.cons_append, List.nil_append, List.append_nil, List.getElem?_cons_zero, List.getElem?_cons_succ, List.set_cons_zero, List.set_cons_succ, Option.some.injEq, V.int.injEq, V.bl.injEq, V.ref.injEq, V.str.injEq, V.ty.injEq, List.cons.injEq, exists_eq_left', exists_eq_left, exists_eq_right, exists_and_left, exists_and_right, and_true, true_and, and_assoc, exists_const, decide_eq_true_eq, Bool.not_eq_true', Bool.not_true, Bool.not_false, Bool.not_not, decide_eq_false_iff_not, ite_not, Bool.false_eq_true, if_true, if_false, reduceCtorEq, and_false, false_and, exists_false, or_false, false_or, ↓reduceIte, eq_self, reduceIte]
      refine ⟨_, Tp, _, rfl, _, d1, ?_, next _ _ ?_⟩
      · rw [List.length_map, List.length_take, List.length_map]
        exact Nat.lt_of_lt_of_le (m := 64) (by omega) (by decide)
      · rw [hC]
        refine ⟨_, ?_, same_upd d2 hD2 _, rfl⟩
        rw [upd_same, List.take_add_one, List.getElem?_map, hp, List.map_append]
        rfl
    · intro τ H' h
      rw [hC] at h
      obtain ⟨z, d1, d2, rfl⟩ := h
      rw [List.take_of_length_le (by rw [List.length_map]; omega)] at d1
      exact ⟨_, rfl, _, SqL.of d1, cpow, q _ (S1.trans d2)⟩
theorem ok_weight_in (F : Fun K "weight_in" "weight_in" s_weight_in f fd) (M : Mg mg) : FnOk P w K mg base CX0 1 f fd ["parts", "kind"] (spWeightIn K) := by
  refine F.ok sc_weight_in (fun vs H Q E h => ?_) (fun cdv A outer s H vs Q E hr h => ?_)
  · obtain ⟨l, r, xs, ps, k, rfl, _⟩ := h
    rfl
  obtain ⟨l, r, xs, ps, k, rfl, L, PA, l40, TR, ok, q⟩ := h
  have len := PA.length
  refine ⟨_, (@pss_one _ _ _ (@ps_ret _ _ _ _ (@pe_callB _ _ _ _ _ _ _ _ _ (call_sum1 rfl) g_weight_in_sum M.m_sum b_sum (@pa_cons _ _ _ _ _ (@pe_comp _ _ _ _ _ _ _ _ _ _ _ _ _ _ _ rfl (CompOk.make (N' := ["kind", "part"]) (ix := [1]) (nl := 1) (by rfl) (fm1 rfl fm0) (by rfl) (by decide +kernel) rfl (by decide +kernel) rfl (And.intro ⟨rfl, .inl rfl, .inl rfl⟩ True.intro)) (@pi_list _ _ _ _ (@pe_var _ 0 _ _ rfl v_weight_in_0 dn_parts dc_parts)) (fun _ _ _ _ _ => (@pg_name _ _ 1 _ (show List.Nodup (["kind", "part"] : List Str) from by decide) rfl (Or.inl rfl) (by first | exact .inl rfl | exact .inr rfl | assumption))) (fun _ _ _ _ _ => (@pif_one _ _ _ (@pt_cmpR _ _ _ _ _ _ _ _ (op_eqDK (K := K) rfl (hu60 hr)) (@pe_slice _ _ _ _ _ _ _ _ _ _ (sl_tupAK (K := K) rfl) (@pv _ 1 _ _ (by rfl) (by first | exact Or.inl rfl | exact Or.inr (Or.inl rfl) | exact Or.inr (Or.inr rfl)) (by decide) (by decide)) (@po_none _) (@po_some _ _ _ (@pe_int _ _ _ _))) (@pv _ 0 _ _ (by rfl) (by first | exact Or.inl rfl | exact Or.inr (Or.inl rfl) | exact Or.inr (Or.inr rfl)) (by decide) (by decide)) (nomark _)))) (fun _ _ _ _ _ => (@pe_ix _ _ _ _ _ _ _ (ix_tupK (K := K) rfl) (@pv _ 1 _ _ (by rfl) (by first | exact Or.inl rfl | exact Or.inr (Or.inl rfl) | exact Or.inr (Or.inr rfl)) (by decide) (by decide)) (@pe_int _ _ _ _) (fun _ _ => rfl))) (by intro _; rfl)) (@pa_nil _) (star1 rfl)) nn_sum dn_sum (star1 rfl) nost0))), ?_⟩
  simp only [tTryN, rSlS, rMulS, rCatS, iZipL, rInsert, rReverse, tDNewX, tTry, tRaise, iEnumL, iEnumT, iZip, iSeq, iOr, rIx, iStr, rLeS, rJoin, rSlTA, tComp_eq, tComp1, slots, Option.getD_some, Option.getD_none, tYes, tSeq, tAsg, gName, tOp, tUn, tC, tVar, tCB, tCons, tNil, tCall, rI, rI0, rU, tRet, tRetN, tIfS, tTest, tB, tAnd, tOr, tNot, tAndV, tOrV, tNotV, tIf, tChain, tMenu, tPar, tDrop, tTup, tLst, tNext, tSl, tPart, tNoPart, tNever, gTup, gCons, gNil, gSub, rSetL, tBM, rAppend, rEq, rNe, rIsi, rIxL, rIxT, rIxS, rSlL, isi_non_bl, isi_non_int, isi_non_str, isi_non_lst, isi_non_tup, isi_bl_bl, isi_bl_int, isi_bl_str, isi_bl_lst, isi_bl_tup, isi_int_bl, isi_int_int, isi_int_str, isi_int_lst, isi_int_tup, isi_str_bl, isi_str_int, isi_str_str, isi_str_lst, isi_str_tup, isi_lst_bl, isi_lst_int, isi_lst_str, isi_lst_lst, isi_lst_tup, isi_tup_bl, isi_tup_int, isi_tup_str, isi_tup_lst, isi_tup_tup, isi_dct_bl, isi_dct_int, isi_dct_str, isi_dct_lst, isi_dct_tup, Kd_non, Kd_bl, Kd_int, Kd_str, sc_non_non, sc_non_int, sc_int_non, sc_non_bl, sc_bl_non, sc_non_str, sc_str_non, sc_int_int, sc_bl_bl, sc_str_str, sc_int_str, sc_str_int, sc_bl_str, sc_str_bl, decide_true, decide_false, tFor_eq, iList, iTup, iRng1, iRng2, iRng3, rIndexT, tBM0, tBMT, tyK_int, tyK_bool, tyK_str, tyK_list, tyK_tuple, L2.start, cxK, Int.reduceToNat, List.map_cons, List.map_nil, List.length_cons, List.length_nil, Nat.reduceAdd, Nat.reduceSub, Nat.zero_add, List.replicate_succ, List.replicate_zero, List.cons_append, List.nil_append, List.append_nil, List.getElem?_cons_zero, List.getElem?_cons_succ, List.set_cons_zero, List.set_cons_succ, Option.some.injEq, V.int.injEq, V.bl.injEq, V.ref.injEq, V.str.injEq, V.ty.injEq, List.cons.injEq, exists_eq_left', exists_eq_left, exists_eq_right, exists_and_left, exists_and_right, and_true, true_and, and_assoc, exists_const, decide_eq_true_eq, Bool.not_eq_true', Bool.not_true, Bool.not_false, Bool.not_not, decide_eq_false_iff_not, ite_not, Bool.false_eq_true, if_true, if_false, reduceCtorEq, and_false, false_and, exists_false, or_false, false_or, ↓reduceIte, eq_self, reduceIte]
  refine ⟨⟨_, L⟩, fun D hD => ?_⟩
  obtain ⟨Pc, hC⟩ : ∃ Pc : Nat → St → Hp → Prop, Pc = fun i τ H' => ∃ z, H' D = some (.lst ((((ps.take i).filter fun p => decide (p.1 = k)).map (·.2)).map V.int)) ∧ Same H H' ∧ τ = [some (.ref r), z] := ⟨_, rfl⟩
  refine compS_list xs Pc ?_ (fun i τ H' _ h => by rw [hC] at h; obtain ⟨z, _, e, _⟩ := h; exact e.seq L) ?_ ?_
  · rw [hC]
    exact ⟨_, upd_same, same_new hD _, rfl⟩
  · intro i x τ H' R' hx h next
    rw [hC] at h
    obtain ⟨z, d1, d2, rfl⟩ := h
    obtain ⟨p, pq, rfl, hp, Tp, okp, _⟩ := (PA.same d2).at hx
    have li : i < xs.length := (List.getElem?_eq_some_iff.mp hx).1
    have ep : (ps.take (i + 1)).filter (fun p => decide (p.1 = k)) = (ps.take i).filter (fun p => decide (p.1 = k)) ++ [pq].filter (fun p => decide (p.1 = k)) := by
      rw [List.take_add_one, hp, List.filter_append]
      rfl
    have lp : ((ps.take i).filter fun p => decide (p.1 = k)).length ≤ 40 := by
      have := List.length_filter_le (fun p : Pt => decide (p.1 = k)) (ps.take i)
      rw [List.length_take] at this
      omega
    simp only [tTryN, rSlS, rMulS, rCatS, iZipL, rInsert, rReverse, tDNewX, tTry, tRaise, iEnumL, iEnumT, iZip, iSeq, iOr, rIx, iStr, rLeS, rJoin, rSlTA, tComp_eq, tComp1, slots, Option.getD_some, Option.getD_none, tYes, tSeq, tAsg, gName, tOp, tUn, tC, tVar, tCB, tCons, tNil, tCall, rI, rI0, rU, tRet, tRetN, tIfS, tTest, tB, tAnd, tOr, tNot, tAndV, tOrV, tNotV, tIf, tChain, tMenu, tPar, tDrop, tTup, tLst, tNext, tSl, tPart, tNoPart, tNever, gTup, gCons, gNil, gSub, rSetL, tBM, rAppend, rEq, rNe, rIsi, rIxL, rIxT, rIxS, rSlL, isi_non_bl, isi_non_int, isi_non_str, isi_non_lst, isi_non_tup, isi_bl_bl, isi_bl_int, isi_bl_str, isi_bl_lst, isi_bl_tup, isi_int_bl, isi_int_int, isi_int_str, isi_int_lst, isi_int_tup, isi_str_bl, isi_str_int, isi_str_str, isi_str_lst, isi_str_tup, isi_lst_bl, isi_lst_int, isi_lst_str, isi_lst_lst, isi_lst_tup, isi_tup_bl, isi_tup_int, isi_tup_str, isi_tup_lst, isi_tup_tup, isi_dct_bl, isi_dct_int, isi_dct_str, isi_dct_lst, isi_dct_tup, Kd_non, Kd_bl, Kd_int, Kd_str, sc_non_non, sc_non_int, sc_int_non, sc_non_bl, sc_bl_non, sc_non_str, sc_str_non, sc_int_int, sc_bl_bl, sc_str_str, sc_int_str, sc_str_int, sc_bl_str, sc_str_bl, decide_true, decide_false, tFor_eq, iList, iTup, iRng1, iRng2, iRng3, rIndexT, tBM0, tBMT, tyK_int, tyK_bool, tyK_str, tyK_list, tyK_tuple, L2.start, cxK, Int.reduceToNat, List.map_cons, List.map_nil, List.length_cons, List.length_nil, Nat.reduceAdd, Nat.reduceSub, Nat.zero_add, List.replicate_succ, List.replicate_zero, List.cons_append, List.nil_append, List.append_nil, List.getElem?_cons_zero, List.getElem?_cons_succ, List.set_cons_zero, List.set_cons_succ, Option.some.injEq, V.int.injEq, V.bl.injEq, V.ref.injEq, V.str.injEq, V.ty.injEq, List.cons.injEq, exists_eq_left', exists_eq_left, exists_eq_right, exists_and_left, exists_and_right, and_true, true_and, and_assoc, exists_const, decide_eq_true_eq, Bool.not_eq_true', Bool.not_true, Bool.not_false, Bool.not_not, decide_eq_false_iff_not, ite_not, Bool.false_eq_true, if_true, if_false, reduceCtorEq, and_false, false_and, exists_false, or_false, false_or, ↓reduceIte, eq_self, reduceIte]
    have ec : cutV (pRow pq) none (some 2) = kRow pq.1 := cut_to (n := 2)
    refine ⟨_, Tp, fun e => absurd (congrArg List.length (ec.symm.trans e)) (by unfold kRow pRow; simp), fun t ht => ?_⟩
    rw [ec]
    obtain ⟨H2, g2, S2, T2⟩ := fresh_tup (K := K) ht (kRow pq.1)
    rw [← g2]
    clear g2
    replace d1 := S2 _ _ d1
    replace d2 := d2.trans S2
    refine rEqD_kind T2 (Same.tup d2 TR) okp ok ⟨_, rfl, ?_⟩
    rw [if_neg Bool.false_ne_true]
    by_cases hk : pq.1 = k
    · rw [decide_eq_true hk, if_pos rfl]
      refine ⟨_, Same.tup S2 Tp, _, rfl, _, d1, by rw [List.length_map, List.length_map]; exact Nat.lt_of_lt_of_le (m := 64) (by omega) (by decide), next _ _ ?_⟩
      rw [hC]
      refine ⟨_, ?_, same_upd d2 hD _, rfl⟩
      rw [upd_same, ep, List.filter_cons_of_pos (by rw [decide_eq_true hk]), List.map_append, List.map_append]
      rfl
    · rw [decide_eq_false hk, if_neg (by decide)]
      refine next _ _ ?_
      rw [hC]
      refine ⟨_, ?_, d2, rfl⟩
      rw [ep, List.filter_cons_of_neg (by rw [decide_eq_false hk]; decide), List.filter_nil, List.append_nil]
      exact d1
  · intro τ H' h
    rw [hC] at h
    obtain ⟨z, d1, d2, rfl⟩ := h
    rw [List.take_of_length_le (by omega)] at d1
    exact ⟨_, rfl, _, SqL.of d1, q _ d2⟩
end

inductive KnA (K : PySem.W.Frag) (H : Hp) : List V → List Kd2 → Prop
  | nil : KnA K H [] []
  | cons {p : Addr} {k : Kd2} {xs : List V} {ks : List Kd2} : SqT K H p (kRow k) → KnA K H xs ks → KnA K H (.ref p :: xs) (k :: ks)
theorem KnA.same {K : PySem.W.Frag} {H H' : Hp} {xs : List V} {ks : List Kd2} (h : KnA K H xs ks) (e : Same H H') : KnA K H' xs ks := by
  induction h with
  | nil => exact .nil
  | cons a _ ih => exact .cons (Same.tup e a) ih
theorem KnA.length {K : PySem.W.Frag} {H : Hp} {xs : List V} {ks : List Kd2} (h : KnA K H xs ks) : xs.length = ks.length := by
  induction h with
  | nil => rfl
  | cons _ _ ih => rw [List.length_cons, List.length_cons, ih]
theorem KnA.at {K : PySem.W.Frag} {H : Hp} {xs : List V} {ks : List Kd2} (h : KnA K H xs ks) : ∀ {i : Nat} {x : V}, xs[i]? = some x → ∃ p k, x = .ref p ∧ ks[i]? = some k ∧ SqT K H p (kRow k) := by
  induction h with
  | nil => intro i x e; simp at e
  | cons a _ ih =>
    intro i x e
    cases i with
    | zero => cases e; exact ⟨_, _, rfl, rfl, a⟩
    | succ i => exact ih e
theorem KnA.rep {K : PySem.W.Frag} {H : Hp} {xs : List V} {ks : List Kd2} (h : KnA K H xs ks) : RepAll K H xs (ks.map kD) := by
  induction h with
  | nil => exact .nil
  | cons a _ ih => exact .cons (rep_kind a) ih
theorem TpD.kna {K : PySem.W.Frag} {H : Hp} : ∀ {ks : List Kd2} {xs : List V}, TpD H xs (ks.map kRow) → KnA K H xs ks
  | [], _, .nil => .nil
  | k :: ks, _, .cons a t => .cons (SqT.of a) (TpD.kna t)
theorem flat_kinds : ∀ {ks : List Kd2}, (∀ k ∈ ks, okKind k) → PyData.canLayAll0 (ks.map kD) = true ∧ PyData.depthAll (ks.map kD) ≤ 1
  | [], _ => ⟨rfl, by decide⟩
  | k :: ks, h => by
    obtain ⟨a, b⟩ := flat_kinds fun k' hk => h k' (List.mem_cons_of_mem _ hk)
    have f := flat_kind (h k (List.mem_cons_self ..))
    refine ⟨?_, ?_⟩
    · show (PyData.canLay0 (kD k) && PyData.canLayAll0 (ks.map kD)) = true
      rw [f.1, a]
      rfl
    · show max (max 0 (max 0 0) + 1) (PyData.depthAll (ks.map kD)) ≤ 1
      omega
theorem any_kind (k : Kd2) : ∀ ks : List Kd2, ((ks.map kD).any fun y => PyData.eqv y (kD k)) = decide (k ∈ ks)
  | [] => rfl
  | c :: ks => by
    rw [List.map_cons, List.any_cons, any_kind k ks, eqv_kind]
    by_cases h : c = k
    · subst h
      simp
    · rw [decide_eq_false h, Bool.false_or]
      by_cases h2 : k ∈ ks
      · rw [decide_eq_true h2, decide_eq_true (List.mem_cons_of_mem _ h2)]
      · rw [decide_eq_false h2, decide_eq_false (by simp only [List.mem_cons, not_or]; exact ⟨fun e => h e.symm, h2⟩)]
theorem rInD_kind {K : PySem.W.Frag} {H : Hp} {p l : Addr} {k : Kd2} {xs : List V} {ks : List Kd2} {neg : Bool} {Q : VK} (h1 : SqT K H p (kRow k)) (o1 : okKind k) (L : SqL K H l xs) (A : KnA K H xs ks) (ok : ∀ k ∈ ks, okKind k) (hq : Q (.bl (if neg then !decide (k ∈ ks) else decide (k ∈ ks))) H) : rInD K neg (.ref p) (.ref l) H Q := by
  obtain ⟨f1, f2⟩ := flat_kinds ok
  refine ⟨l, kD k, ks.map kD, rfl, rep_kind h1, .inl (.lst L A.rep), flat_kind o1, ⟨f1, ?_⟩, ?_⟩
  · show PyData.depthAll (ks.map kD) + 1 ≤ 40
    omega
  · rw [any_kind]
    exact hq

def spFolded (K : PySem.W.Frag) (cN : Addr) : Sp := fun vs H Q E => ∃ (kl : Addr) (kx : List V) (ks : List Kd2) (v : V), vs = [.ref kl, v] ∧ SqL K H kl kx ∧ KnA K H kx ks ∧ (∀ k ∈ ks, okKind k) ∧ ks.length ≤ 4 ∧
  ((PartsV K H v false ∧ ∀ H', Same H H' → E (.ref cN) none H') ∨ ∃ (pl : Addr) (xs : List V) (ps : List Pt), v = .ref pl ∧ SqL K H pl xs ∧ PrtAll K H xs ps ∧ 1 ≤ xs.length ∧ xs.length ≤ 40 ∧ (ps.map (·.2)).sum ≤ 10 ^ 15 ∧
    ((∀ p ∈ ps, p.1 ∈ ks) → ∀ (l : Addr) (H' : Hp), Same H H' → H l = none → H' l = some (.lst ((ks.map (wSum ps)).map V.int)) → Q (.ref l) H') ∧ ((¬∀ p ∈ ps, p.1 ∈ ks) → ∀ H', Same H H' → E (.ref cN) none H'))
section
variable {P : Program} {w : World} {K : PySem.W.Frag} {mg : Str → Option Value} {base : Heap} {f : Addr} {fd : FuncData}
theorem ok_folded {c_NoGoods : Addr} (F : Fun K "folded" "folded" s_folded f fd) (M : Mg mg) (C_are_parts : Cal P w K mg base CX0 "are_parts" 4 ["thing"] (spAreParts K)) (C_weight_in : Cal P w K mg base CX0 "weight_in" 1 ["parts", "kind"] (spWeightIn K)) (R_NoGoods : XRaise K mg "NoGoods" c_NoGoods) : FnOk P w K mg base (CXE P w) 5 f fd ["kinds", "parts"] (spFolded K c_NoGoods) := by
  refine F.okX sc_folded (fun vs H Q E h => ?_) (fun cdv A outer s H vs Q E hr h => ?_)
  · obtain ⟨kl, kx, ks, v, rfl, _⟩ := h
    rfl
  obtain ⟨kl, kx, ks, v, rfl, LK, KA, okk, l4, h⟩ := h
  have lk := KA.length
  refine ⟨_, (@pss_cons _ _ _ _ _ (@ps_if _ _ _ _ _ _ _ _ (@pt_not _ _ _ _ (@pt_val _ _ _ (@pe_callC _ _ _ _ _ _ _ _ _ _ _ C_are_parts hr g_folded_are_parts (@pa_cons _ _ _ _ _ (@pe_var _ 1 _ _ rfl v_folded_1 dn_parts dc_parts) (@pa_nil _) (star1 rfl)) (by decide) dn_are_parts (star1 rfl) nost0) (test1 rfl))) (@pss_one _ _ _ (@ps_raise _ _ _ _ _ _ _ _ _ _ _ throws_cx hr g_folded_NoGoods R_NoGoods (@pa_cons _ _ _ _ _ (@pe_str _ _ _ _) (@pa_nil _) (star1 rfl)) (star1 rfl) (by rfl) dn_NoGoods)) (@pss_nil _)) (@pss_cons _ _ _ _ _ (@ps_if _ _ _ _ _ _ _ _ (@pt_not _ _ _ _ (@pt_val _ _ _ (@pe_callB _ _ _ _ _ _ _ _ _ (call_all1 rfl) g_folded_all M.m_all b_all (@pa_cons _ _ _ _ _ (@pe_comp _ _ _ _ _ _ _ _ _ _ _ _ _ _ _ rfl (CompOk.make (N' := ["kinds", "part"]) (ix := [0]) (nl := 1) (by rfl) (fm1 rfl fm0) (by rfl) (by decide +kernel) rfl (by decide +kernel) rfl (And.intro ⟨rfl, .inl rfl, .inl rfl⟩ True.intro)) (@pi_list _ _ _ _ (@pe_var _ 1 _ _ rfl v_folded_1 dn_parts dc_parts)) (fun _ _ _ _ _ => (@pg_name _ _ 1 _ (show List.Nodup (["kinds", "part"] : List Str) from by decide) rfl (Or.inl rfl) (by first | exact .inl rfl | exact .inr rfl | assumption))) (fun _ _ _ _ _ => (@pif_nil _)) (fun _ _ _ _ _ => (@pe_cmpR _ _ _ _ _ _ _ _ (op_inDK (K := K) rfl (hu60 hr)) (@pe_slice _ _ _ _ _ _ _ _ _ _ (sl_tupAK (K := K) rfl) (@pv _ 1 _ _ (by rfl) (by first | exact Or.inl rfl | exact Or.inr (Or.inl rfl) | exact Or.inr (Or.inr rfl)) (by decide) (by decide)) (@po_none _) (@po_some _ _ _ (@pe_int _ _ _ _))) (@pv _ 0 _ _ (by rfl) (by first | exact Or.inl rfl | exact Or.inr (Or.inl rfl) | exact Or.inr (Or.inr rfl)) (by decide) (by decide)) (by with_unfolding_all rfl))) (by intro _; rfl)) (@pa_nil _) (star1 rfl)) nn_all dn_all (star1 rfl) nost0) (test1 rfl))) (@pss_one _ _ _ (@ps_raise _ _ _ _ _ _ _ _ _ _ _ throws_cx hr g_folded_NoGoods R_NoGoods (@pa_cons _ _ _ _ _ (@pe_str _ _ _ _) (@pa_nil _) (star1 rfl)) (star1 rfl) (by rfl) dn_NoGoods)) (@pss_nil _)) (@pss_one _ _ _ (@ps_ret _ _ _ _ (@pe_comp _ _ _ _ _ _ _ _ _ _ _ _ _ _ _ rfl (CompOk.make (N' := ["parts", "kind"]) (ix := [1]) (nl := 1) (by rfl) (fm1 rfl fm0) (by rfl) (by decide +kernel) rfl (by decide +kernel) rfl (And.intro ⟨rfl, .inl rfl, .inl rfl⟩ True.intro)) (@pi_list _ _ _ _ (@pe_var _ 0 _ _ rfl v_folded_0 dn_kinds dc_kinds)) (fun _ _ _ _ _ => (@pg_name _ _ 1 _ (show List.Nodup (["parts", "kind"] : List Str) from by decide) rfl (Or.inl rfl) (by first | exact .inl rfl | exact .inr rfl | assumption))) (fun _ _ _ _ _ => (@pif_nil _)) (fun _ _ _ _ _ => (@pe_callC _ _ _ _ _ _ _ _ _ _ _ C_weight_in hr rfl (@pa_cons _ _ _ _ _ (@pv _ 0 _ _ (by rfl) (by first | exact Or.inl rfl | exact Or.inr (Or.inl rfl) | exact Or.inr (Or.inr rfl)) (by decide) (by decide)) (@pa_cons _ _ _ _ _ (@pv _ 1 _ _ (by rfl) (by first | exact Or.inl rfl | exact Or.inr (Or.inl rfl) | exact Or.inr (Or.inr rfl)) (by decide) (by decide)) (@pa_nil _) (star1 rfl)) (star1 rfl)) (by decide) dn_weight_in (star1 rfl) (nost1 rfl nost0))) (by intro _; rfl)))))), ?_⟩
  simp only [tTryN, rSlS, rMulS, rCatS, iZipL, rInsert, rReverse, tDNewX, tTry, tRaise, iEnumL, iEnumT, iZip, iSeq, iOr, rIx, iStr, rLeS, rJoin, rSlTA, tComp_eq, tComp1, slots, Option.getD_some, Option.getD_none, tYes, tSeq, tAsg, gName, tOp, tUn, tC, tVar, tCB, tCons, tNil, tCall, rI, rI0, rU, tRet, tRetN, tIfS, tTest, tB, tAnd, tOr, tNot, tAndV, tOrV, tNotV, tIf, tChain, tMenu, tPar, tDrop, tTup, tLst, tNext, tSl, tPart, tNoPart, tNever, gTup, gCons, gNil, gSub, rSetL, tBM, rAppend, rEq, rNe, rIsi, rIxL, rIxT, rIxS, rSlL, isi_non_bl, isi_non_int, isi_non_str, isi_non_lst, isi_non_tup, isi_bl_bl, isi_bl_int, isi_bl_str, isi_bl_lst, isi_bl_tup, isi_int_bl, isi_int_int, isi_int_str, isi_int_lst, isi_int_tup, isi_str_bl, isi_str_int, isi_str_str, isi_str_lst, isi_str_tup, isi_lst_bl, isi_lst_int, isi_lst_str, isi_lst_lst, isi_lst_tup, isi_tup_bl, isi_tup_int, isi_tup_str, isi_tup_lst, isi_tup_tup, isi_dct_bl, isi_dct_int, isi_dct_str, isi_dct_lst, isi_dct_tup, Kd_non, Kd_bl, Kd_int, Kd_str, sc_non_non, sc_non_int, sc_int_non, sc_non_bl, sc_bl_non, sc_non_str, sc_str_non, sc_int_int, sc_bl_bl, sc_str_str, sc_int_str, sc_str_int, sc_bl_str, sc_str_bl, decide_true, decide_false, tFor_eq, iList, iTup, iRng1, iRng2, iRng3, rIndexT, tBM0, tBMT, tyK_int, tyK_bool, tyK_str, tyK_list, tyK_tuple, L2.start, cxK, Int.reduceToNat, List.map_cons, List.map_nil, List.length_cons, List.length_nil, Nat.reduceAdd, Nat.reduceSub, Nat.zero_add, List.replicate_succ, List.replicate_zero, List.cons_append, List.nil_append, List.append_nil, List.getElem?_cons_zero, List.getElem?_cons_succ, List.set_cons_zero, List.set_cons_succ, Option.some.injEq, V.int.injEq, V.bl.injEq, V.ref.injEq, V.str.injEq, V.ty.injEq, List.cons.injEq, exists_eq_left', exists_eq_left, exists_eq_right, exists_and_left, exists_and_right, and_true, true_and, and_assoc, exists_const, decide_eq_true_eq, Bool.not_eq_true', Bool.not_true, Bool.not_false, Bool.not_not, decide_eq_false_iff_not, ite_not, Bool.false_eq_true, if_true, if_false, reduceCtorEq, and_false, false_and, exists_false, or_false, false_or, ↓reduceIte, eq_self, reduceIte]
  rcases h with ⟨B, qe⟩ | ⟨pl, xs, ps, rfl, L, PA, l1, l40, sm, qt, qe⟩
  · refine ⟨_, _, rfl, B, fun H1 S1 => ⟨_, rfl, ?_⟩⟩
    rw [if_pos rfl]
    exact ⟨by decide, qe _ S1⟩
  · have G : PartsV K H (.ref pl) true := by
      have := PartsV.good L l1 l40 PA
      rwa [decide_eq_true sm] at this
    refine ⟨_, _, rfl, G, fun H1 S1 => ⟨_, rfl, ?_⟩⟩
    rw [if_neg (by decide)]
    have len := PA.length
    have L1 := S1.seq L
    have LK1 := S1.seq LK
    have PA1 := PA.same S1
    have KA1 := KA.same S1
    refine ⟨_, rfl, ⟨_, L1⟩, fun D hD => ?_⟩
    obtain ⟨Pc, hC⟩ : ∃ Pc : Nat → St → Hp → Prop, Pc = fun i τ H' => ∃ z, H' D = some (.lst (((ps.map fun p => decide (p.1 ∈ ks)).take i).map V.bl)) ∧ Same H1 H' ∧ τ = [some (.ref kl), z] := ⟨_, rfl⟩
    refine compS_list xs Pc ?_ (fun i τ H' _ h => by rw [hC] at h; obtain ⟨z, _, e, _⟩ := h; exact e.seq L1) ?_ ?_
    · rw [hC]
      exact ⟨_, upd_same, same_new hD _, rfl⟩
    · intro i x τ H' R' hx h next
      rw [hC] at h
      obtain ⟨z, d1, d2, rfl⟩ := h
      obtain ⟨p, pq, rfl, hp, Tp, okp, _⟩ := (PA1.same d2).at hx
      have li : i < xs.length := (List.getElem?_eq_some_iff.mp hx).1
      simp only [tTryN, rSlS, rMulS, rCatS, iZipL, rInsert, rReverse, tDNewX, tTry, tRaise, iEnumL, iEnumT, iZip, iSeq, iOr, rIx, iStr, rLeS, rJoin, rSlTA, tComp_eq, tComp1, slots, Option.getD_some, Option.getD_none, tYes, tSeq, tAsg, gName, tOp, tUn, tC, tVar, tCB, tCons, tNil, tCall, rI, rI0, rU, tRet, tRetN, tIfS, tTest, tB, tAnd, tOr, tNot, tAndV, tOrV, tNotV, tIf, tChain, tMenu, tPar, tDrop, tTup, tLst, tNext, tSl, tPart, tNoPart, tNever, gTup, gCons, gNil, gSub, rSetL, tBM, rAppend, rEq, rNe, rIsi, rIxL, rIxT, rIxS, rSlL, isi_non_bl, isi_non_int, isi_non_str, isi_non_lst, isi_non_tup, isi_bl_bl, isi_bl_int, isi_bl_str, isi_bl_lst, isi_bl_tup, isi_int_bl, isi_int_int, isi_int_str, isi_int_lst, isi_int_tup, isi_str_bl, isi_str_int, isi_str_str, isi_str_lst, isi_str_tup, isi_lst_bl, isi_lst_int, isi_lst_str, isi_lst_lst, isi_lst_tup, isi_tup_bl, isi_tup_int, isi_tup_str, isi_tup_lst, isi_tup_tup, isi_dct_bl, isi_dct_int, isi_dct_str, isi_dct_lst, isi_dct_tup, Kd_non, Kd_bl, Kd_int, Kd_str, sc_non_non, sc_non_int, sc_int_non, sc_non_bl, sc_bl_non, sc_non_str, sc_str_non, sc_int_int, sc_bl_bl, sc_str_str, sc_int_str, sc_str_int, sc_bl_str, sc_str_bl, decide_true, decide_false, tFor_eq, iList, iTup, iRng1, iRng2, iRng3, rIndexT, tBM0, tBMT, tyK_int, tyK_bool, tyK_str, tyK_list, tyK_tuple, L2.start, cxK, Int.reduceToNat, List.map_cons, List.map_nil, List.length_cons, List.length_nil, Nat.reduceAdd, Nat.reduceSub, Nat.zero_add, List.replicate_succ, List.replicate_zero, List.cons_append, List.nil_append, List.append_nil, List.getElem?_cons_zero, List.getElem?_cons_succ, List.set_cons_zero, List.set_cons_succ, Option.some.injEq, V.int.injEq, V.bl.injEq, V.ref.injEq, V.str.injEq, V.ty.injEq, List.cons.injEq, exists_eq_left', exists_eq_left, exists_eq_right, exists_and_left, exists_and_right, and_true, true_and, and_assoc, exists_const, decide_eq_true_eq, Bool.not_eq_true', Bool.not_true, Bool.not_false, Bool.not_not, decide_eq_false_iff_not, ite_not, Bool.false_eq_true, if_true, if_false, reduceCtorEq, and_false, false_and, exists_false, or_false, false_or, ↓reduceIte, eq_self, reduceIte]
      have ec : cutV (pRow pq) none (some 2) = kRow pq.1 := cut_to (n := 2)
      refine ⟨_, Tp, fun e => absurd (congrArg List.length (ec.symm.trans e)) (by unfold kRow pRow; simp), fun t ht => ?_⟩
      rw [ec]
      obtain ⟨H2, g2, S2, T2⟩ := fresh_tup (K := K) ht (kRow pq.1)
      rw [← g2]
      clear g2
      replace d1 := S2 _ _ d1
      replace d2 := d2.trans S2
      refine rInD_kind T2 okp (d2.seq LK1) (KA1.same d2) okk ⟨_, d1, ?_, next _ _ ?_⟩
      · rw [List.length_map, List.length_take, List.length_map]
        exact Nat.lt_of_lt_of_le (m := 64) (by omega) (by decide)
      · rw [if_neg Bool.false_ne_true, hC]
        refine ⟨_, ?_, same_upd d2 hD _, rfl⟩
        rw [upd_same, List.take_add_one, List.getElem?_map, hp, List.map_append]
        rfl
    intro τ H2 h
    rw [hC] at h
    obtain ⟨z, d1, S2, rfl⟩ := h
    rw [List.take_of_length_le (by rw [List.length_map]; omega)] at d1
    refine ⟨_, rfl, _, SqL.of d1, ?_⟩
    have S02 := S1.trans S2
    have eall : (ps.map fun p => decide (p.1 ∈ ks)).all id = decide (∀ p ∈ ps, p.1 ∈ ks) := by
      rw [List.all_map, Bool.eq_iff_iff, List.all_eq_true, decide_eq_true_iff]
      constructor
      · intro h p hp
        exact of_decide_eq_true (h p hp)
      · intro h p hp
        exact decide_eq_true (h p hp)
    rw [eall]
    by_cases hall : ∀ p ∈ ps, p.1 ∈ ks
    · rw [decide_eq_true hall, if_neg (by decide)]
      refine ⟨⟨_, S2.seq LK1⟩, fun D2 hD2 => ?_⟩
      obtain ⟨Pd, hQ⟩ : ∃ Pd : Nat → St → Hp → Prop, Pd = fun i τ H' => ∃ z, H' D2 = some (.lst (((ks.map (wSum ps)).take i).map V.int)) ∧ Same H2 H' ∧ τ = [some (.ref pl), z] := ⟨_, rfl⟩
      refine compS_list kx Pd ?_ (fun i τ H' _ h => by rw [hQ] at h; obtain ⟨z, _, e, _⟩ := h; exact (S2.trans e).seq LK1) ?_ ?_
      · rw [hQ]
        exact ⟨_, upd_same, same_new hD2 _, rfl⟩
      · intro i x τ H' R' hx h next
        rw [hQ] at h
        obtain ⟨z, c1, c2, rfl⟩ := h
        obtain ⟨p, k, rfl, hk, Tk⟩ := (KA1.same (S2.trans c2)).at hx
        have li : i < kx.length := (List.getElem?_eq_some_iff.mp hx).1
        simp only [tTryN, rSlS, rMulS, rCatS, iZipL, rInsert, rReverse, tDNewX, tTry, tRaise, iEnumL, iEnumT, iZip, iSeq, iOr, rIx, iStr, rLeS, rJoin, rSlTA, tComp_eq, tComp1, slots, Option.getD_some, Option.getD_none, tYes, tSeq, tAsg, gName, tOp, tUn, tC, tVar, tCB, tCons, tNil, tCall, rI, rI0, rU, tRet, tRetN, tIfS, tTest, tB, tAnd, tOr, tNot, tAndV, tOrV, tNotV, tIf, tChain, tMenu, tPar, tDrop, tTup, tLst, tNext, tSl, tPart, tNoPart, tNever, gTup, gCons, gNil, gSub, rSetL, tBM, rAppend, rEq, rNe, rIsi, rIxL, rIxT, rIxS, rSlL, isi_non_bl, isi_non_int, isi_non_str, isi_non_lst, isi_non_tup, isi_bl_bl, isi_bl_int, isi_bl_str, isi_bl_lst, isi_bl_tup, isi_int_bl, isi_int_int, isi_int_str, isi_int_lst, isi_int_tup, isi_str_bl, isi_str_int, isi_str_str, isi_str_lst, isi_str_tup, isi_lst_bl, isi_lst_int, isi_lst_str, isi_lst_lst, isi_lst_tup, isi_tup_bl, isi_tup_int, isi_tup_str, isi_tup_lst, isi_tup_tup, isi_dct_bl, isi_dct_int, isi_dct_str, isi_dct_lst, isi_dct_tup, Kd_non, Kd_bl, Kd_int, Kd_str, sc_non_non, sc_non_int, sc_int_non, sc_non_bl, sc_bl_non, sc_non_str, sc_str_non, sc_int_int, sc_bl_bl, sc_str_str, sc_int_str, sc_str_int, sc_bl_str, sc_str_bl, decide_true, decide_false, tFor_eq, iList, iTup, iRng1, iRng2, iRng3, rIndexT, tBM0, tBMT, tyK_int, tyK_bool, tyK_str, tyK_list, tyK_tuple, L2.start, cxK, Int.reduceToNat, List.map_cons, List.map_nil, List.length_cons, List.length_nil, Nat.reduceAdd, Nat.reduceSub, Nat.zero_add, List.replicate_succ, List.replicate_zero, List.cons_append, List.nil_append, List.append_nil, List.getElem?_cons_zero, List.getElem?_cons_succ, List.set_cons_zero, List.set_cons_succ, Option.some.injEq, V.int.injEq, V.bl.injEq, V.ref.injEq, V.str.injEq, V.ty.injEq, List.cons.injEq, exists_eq_left', exists_eq_left, exists_eq_right, exists_and_left, exists_and_right, and_true, true_and, and_assoc, exists_const, decide_eq_true_eq, Bool.not_eq_true', Bool.not_true, Bool.not_false, Bool.not_not, decide_eq_false_iff_not, ite_not, Bool.false_eq_true, if_true, if_false, reduceCtorEq, and_false, false_and, exists_false, or_false, false_or, ↓reduceIte, eq_self, reduceIte]
        refine ⟨_, _, _, _, _, rfl, (S2.trans c2).seq L1, PA1.same (S2.trans c2), l40, Tk, okk k (List.mem_of_getElem? hk), fun H4 e4 => ⟨_, e4 _ _ c1, ?_, next _ _ ?_⟩⟩
        · rw [List.length_map, List.length_take, List.length_map]
          exact Nat.lt_of_lt_of_le (m := 64) (by omega) (by decide)
        · rw [hQ]
          refine ⟨_, ?_, same_upd (c2.trans e4) hD2 _, rfl⟩
          rw [upd_same, List.take_add_one, List.getElem?_map, hk, List.map_append]
          rfl
      · intro τ H' h
        rw [hQ] at h
        obtain ⟨z, c1, c2, rfl⟩ := h
        rw [List.take_of_length_le (by rw [List.length_map]; omega)] at c1
        exact qt hall _ _ (S02.trans c2) (S02.free hD2) c1
    · rw [decide_eq_false hall, if_pos rfl]
      exact ⟨by decide, qe hall _ S02⟩
end

def sv (F G : Kd2 → Int) (ks : List Kd2) (j : Nat) : List Int := (ks.take j).map G ++ (ks.drop j).map F
theorem drop_at {ks : List Kd2} {j : Nat} {k : Kd2} (h : ks[j]? = some k) : ks.drop j = k :: ks.drop (j + 1) := by
  obtain ⟨hj, e⟩ := List.getElem?_eq_some_iff.mp h
  rw [List.drop_eq_getElem_cons hj, e]
theorem take_at {ks : List Kd2} {j : Nat} {k : Kd2} (h : ks[j]? = some k) : ks.take (j + 1) = ks.take j ++ [k] := by
  rw [List.take_add_one, h]
  rfl
theorem sv_zero (F G : Kd2 → Int) (ks : List Kd2) : sv F G ks 0 = ks.map F := rfl
theorem sv_all (F G : Kd2 → Int) (ks : List Kd2) {n : Nat} (h : ks.length ≤ n) : sv F G ks n = ks.map G := by
  unfold sv
  rw [List.take_of_length_le h, List.drop_of_length_le h, List.map_nil, List.append_nil]
theorem sv_len (F G : Kd2 → Int) (ks : List Kd2) (j : Nat) : (sv F G ks j).length = ks.length := by
  unfold sv
  rw [List.length_append, List.length_map, List.length_map, List.length_take, List.length_drop]
  omega
theorem sv_at {F G : Kd2 → Int} {ks : List Kd2} {j : Nat} {k : Kd2} (h : ks[j]? = some k) : (sv F G ks j)[j]? = some (F k) := by
  have hj := (List.getElem?_eq_some_iff.mp h).1
  unfold sv
  rw [List.getElem?_append_right (by rw [List.length_map, List.length_take]; omega), List.length_map, List.length_take, Nat.min_eq_left (by omega), Nat.sub_self, drop_at h]
  rfl
theorem sv_set {F G : Kd2 → Int} {ks : List Kd2} {j : Nat} {k : Kd2} (h : ks[j]? = some k) : (sv F G ks j).set j (G k) = sv F G ks (j + 1) := by
  have hj := (List.getElem?_eq_some_iff.mp h).1
  have e : ((ks.take j).map G).length = j := by rw [List.length_map, List.length_take]; omega
  unfold sv
  rw [List.set_append_right _ _ (by omega), e, Nat.sub_self, drop_at h, take_at h, List.map_cons, List.set_cons_zero, List.map_append, List.append_assoc]
  rfl
theorem sv_eq {F G : Kd2 → Int} {ks : List Kd2} {j : Nat} {k : Kd2} (h : ks[j]? = some k) (e : F k = G k) : sv F G ks j = sv F G ks (j + 1) := by
  unfold sv
  rw [drop_at h, take_at h, List.map_cons, List.map_append, List.append_assoc, e]
  rfl
theorem wSum_step {ps : List Pt} {i : Nat} {p : Pt} {k : Kd2} (h : ps[i]? = some p) : wSum (ps.take (i + 1)) k = wSum (ps.take i) k + if p.1 = k then p.2 else 0 := by
  unfold wSum
  rw [List.take_add_one, h, List.filter_append, List.map_append, List.sum_append]
  by_cases e : p.1 = k
  · rw [if_pos e]
    show _ + (List.map _ (List.filter _ [p])).sum = _
    rw [List.filter_cons_of_pos (by rw [decide_eq_true e]), List.filter_nil]
    simp
  · rw [if_neg e]
    show _ + (List.map _ (List.filter _ [p])).sum = _
    rw [List.filter_cons_of_neg (by rw [decide_eq_false e]; decide), List.filter_nil]
    simp

theorem PrtAll.append {K : PySem.W.Frag} {H : Hp} {xs ys : List V} {ps qs : List Pt} (h : PrtAll K H xs ps) (g : PrtAll K H ys qs) : PrtAll K H (xs ++ ys) (ps ++ qs) := by
  induction h with
  | nil => exact g
  | cons a b c _ ih => exact .cons a b c ih
theorem PrtAll.take {K : PySem.W.Frag} {H : Hp} {xs : List V} {ps : List Pt} (h : PrtAll K H xs ps) : ∀ n : Nat, PrtAll K H (xs.take n) (ps.take n) := by
  induction h with
  | nil => intro n; rw [List.take_nil, List.take_nil]; exact .nil
  | cons a b c _ ih =>
    intro n
    cases n with
    | zero => exact .nil
    | succ n => exact .cons a b c (ih n)
theorem PrtAll.drop {K : PySem.W.Frag} {H : Hp} {xs : List V} {ps : List Pt} (h : PrtAll K H xs ps) : ∀ n : Nat, PrtAll K H (xs.drop n) (ps.drop n) := by
  induction h with
  | nil => intro n; rw [List.drop_nil, List.drop_nil]; exact .nil
  | cons a b c h ih =>
    intro n
    cases n with
    | zero => exact .cons a b c h
    | succ n => exact ih n
theorem PrtAll.reverse {K : PySem.W.Frag} {H : Hp} {xs : List V} {ps : List Pt} (h : PrtAll K H xs ps) : PrtAll K H xs.reverse ps.reverse := by
  induction h with
  | nil => exact .nil
  | cons a b c _ ih =>
    rw [List.reverse_cons, List.reverse_cons]
    exact ih.append (.cons a b c .nil)
theorem sum_ins (g : Pt → Int) (qs : List Pt) (m : Nat) (b : Pt) : ((qs.take m ++ b :: qs.drop m).map g).sum = (qs.map g).sum + g b := by
  have : (qs.map g).sum = ((qs.take m).map g).sum + ((qs.drop m).map g).sum := by
    rw [← List.sum_append, ← List.map_append, List.take_append_drop]
  rw [this, List.map_append, List.sum_append, List.map_cons, List.sum_cons]
  omega
theorem tup_upd {H : Hp} {l p : Addr} {ys zs r : List V} (hl : H l = some (.lst ys)) (h : H p = some (.tup r)) : upd H l (.lst zs) p = some (.tup r) := by
  have n : p ≠ l := fun e => by rw [e, hl] at h; cases h
  rw [upd_ne n]
  exact h
theorem SqT.upd {K : PySem.W.Frag} {H : Hp} {l p : Addr} {ys zs r : List V} (h : SqT K H p r) (hl : H l = some (.lst ys)) : SqT K (upd H l (.lst zs)) p r := by
  rcases h with (h | ⟨o, h⟩) | h
  · exact .inl (.inl (tup_upd hl h))
  · refine .inl (.inr ⟨o, ?_⟩)
    rw [upd_ne (fun e => by rw [e, hl] at h; cases h)]
    exact h
  · exact .inr h
theorem Kd.upd {K : PySem.W.Frag} {H : Hp} {l : Addr} {ys zs : List V} {v : V} {k : Kn} (h : Kd K H v k) (hl : H l = some (.lst ys)) : Kd K (upd H l (.lst zs)) v k := by
  cases v with
  | ref a =>
    rcases h with ⟨rfl, xs, h⟩ | ⟨rfl, xs, h⟩ | ⟨rfl, h⟩
    · by_cases e : a = l
      · subst e
        exact .inl ⟨rfl, zs, SqL.of upd_same⟩
      · rcases h with (h | ⟨o, h⟩) | h
        · exact .inl ⟨rfl, xs, .inl (.inl (by rw [upd_ne e]; exact h))⟩
        · exact .inl ⟨rfl, xs, .inl (.inr ⟨o, by rw [upd_ne e]; exact h⟩)⟩
        · exact .inl ⟨rfl, xs, .inr h⟩
    · exact .inr (.inl ⟨rfl, xs, SqT.upd h hl⟩)
    · exact .inr (.inr ⟨rfl, by rw [upd_ne (fun e => by rw [e, hl] at h; cases h)]; exact h⟩)
  | _ => exact h
theorem NameV.upd {K : PySem.W.Frag} {H : Hp} {l : Addr} {ys zs : List V} {v : V} {b : Bool} (h : NameV K H v b) (hl : H l = some (.lst ys)) : NameV K (upd H l (.lst zs)) v b := by
  cases h with
  | no a c => exact .no (Kd.upd a hl) c
  | txt a c => exact .txt a c
theorem PartV.upd {K : PySem.W.Frag} {H : Hp} {l : Addr} {ys zs : List V} {v : V} {b : Bool} (h : PartV K H v b) (hl : H l = some (.lst ys)) : PartV K (upd H l (.lst zs)) v b := by
  cases h with
  | no a c => exact .no (Kd.upd a hl) c
  | len a c => exact .len (SqT.upd a hl) c
  | three a c d f => exact .three (SqT.upd a hl) (c.upd hl) (d.upd hl) (Kd.upd f hl)
theorem PrtAll.upd {K : PySem.W.Frag} {H : Hp} {l : Addr} {ys zs xs : List V} {ps : List Pt} (h : PrtAll K H xs ps) (hl : H l = some (.lst ys)) : PrtAll K (upd H l (.lst zs)) xs ps := by
  induction h with
  | nil => exact .nil
  | cons a b c _ ih => exact .cons (SqT.upd a hl) b c ih
theorem PartV2.append {K : PySem.W.Frag} {H : Hp} {xs ys : List V} {bs cs : List Bool} (h : PartV2 K H xs bs) (g : PartV2 K H ys cs) : PartV2 K H (xs ++ ys) (bs ++ cs) := by
  induction h with
  | nil => exact g
  | cons a _ ih => exact .cons a ih
theorem PrtAll.pick {K : PySem.W.Frag} {H : Hp} {xs : List V} {ps : List Pt} (h : PrtAll K H xs ps) : ∀ {is : List Nat}, (∀ i ∈ is, i < xs.length) → PrtAll K H (is.map fun i => xs.getD i .non) (is.map fun i => ps.getD i (([], []), 0))
  | [], _ => .nil
  | i :: is, hi => by
    have li := hi i (List.mem_cons_self ..)
    have ih := PrtAll.pick h (is := is) fun j hj => hi j (List.mem_cons_of_mem _ hj)
    have hx : xs[i]? = some (xs.getD i .non) := by rw [List.getElem?_eq_getElem li, List.getD_eq_getElem?_getD, List.getElem?_eq_getElem li]; rfl
    obtain ⟨p, q, e, hq, T, o, w⟩ := h.at hx
    have eq : ps.getD i (([], []), 0) = q := by rw [List.getD_eq_getElem?_getD, hq]; rfl
    rw [List.map_cons, List.map_cons, e, eq]
    exact .cons T o w ih
theorem sum_top9 {n : Int} : ∀ {ps : List Pt}, (∀ p ∈ ps, p.2 ≤ n) → (ps.map (·.2)).sum ≤ (ps.length : Int) * n
  | [], _ => by simp
  | p :: ps, h => by
    have ih := sum_top9 (ps := ps) fun q hq => h q (List.mem_cons_of_mem _ hq)
    have a := h p (List.mem_cons_self ..)
    rw [List.map_cons, List.sum_cons, List.length_cons]
    have : ((ps.length + 1 : Nat) : Int) * n = (ps.length : Int) * n + n := by rw [Int.natCast_add, Int.add_mul]; simp
    omega
theorem sum_ge : ∀ {ps : List Pt}, (∀ p ∈ ps, 1 ≤ p.2) → (ps.length : Int) ≤ (ps.map (·.2)).sum
  | [], _ => by decide
  | p :: ps, h => by
    have ih := sum_ge (ps := ps) fun q hq => h q (List.mem_cons_of_mem _ hq)
    have a := h p (List.mem_cons_self ..)
    rw [List.map_cons, List.sum_cons, List.length_cons]
    omega

theorem TpD.prt {K : PySem.W.Frag} {H : Hp} : ∀ {ps : List Pt} {xs : List V}, TpD H xs (ps.map pRow) → (∀ p ∈ ps, okKind p.1 ∧ 1 ≤ p.2) → PrtAll K H xs ps
  | [], _, .nil, _ => .nil
  | p :: ps, _, .cons a t, h => .cons (SqT.of a) (h p (List.mem_cons_self ..)).1 (h p (List.mem_cons_self ..)).2 (TpD.prt t fun q hq => h q (List.mem_cons_of_mem _ hq))

def GoodP9 (ks : List Kd2) (ps : List Pt) : Prop := ∀ p ∈ ps, p.1 ∈ ks ∧ 1 ≤ p.2 ∧ p.2 ≤ 10 ^ 9
def spLParts9 (K : PySem.W.Frag) : Sp := fun vs H Q _ => ∃ (a kl : Addr) (ns : List Int) (kx : List V) (ks : List Kd2), vs = [.ref a, .ref kl] ∧ SqL K H a (ns.map V.int) ∧ SqL K H kl kx ∧ KnA K H kx ks ∧ 1 ≤ ks.length ∧ ks.length ≤ 4 ∧
  ∀ (l : Addr) (H' : Hp) (xs : List V) (ps : List Pt), Same H H' → H l = none → H' l = some (.lst xs) → TpD H' xs (ps.map pRow) → 1 ≤ ps.length → ps.length ≤ 6 → GoodP9 ks ps → Q (.ref l) H'
def Odd (K : PySem.W.Frag) (H : Hp) (ks : List Kd2) (v : V) : Prop := PartV K H v false ∨ ∃ (p : Addr) (q : Pt), v = .ref p ∧ SqT K H p (pRow q) ∧ okKind q.1 ∧ 1 ≤ q.2 ∧ q.2 ≤ 3 ∧ q.1 ∉ ks
def spStrange (K : PySem.W.Frag) : Sp := fun vs H Q _ => ∃ (kl : Addr) (c : Int) (kx : List V) (ks : List Kd2), vs = [.ref kl, .int c] ∧ SqL K H kl kx ∧ KnA K H kx ks ∧ 1 ≤ ks.length ∧ ks.length ≤ 4 ∧ (∀ k ∈ ks, okKind k) ∧
  ∀ (v : V) (H' : Hp), Same H H' → Odd K H' ks v → Q v H'
theorem cut5 {s1 s2 s3 s4 s5 tl : TS} {D : Ends} {σ : St} {H : Hp} (h : ∀ tl', tl' = tl → tSeq s1 (tSeq s2 (tSeq s3 (tSeq s4 (tSeq s5 tl')))) D σ H) : tSeq s1 (tSeq s2 (tSeq s3 (tSeq s4 (tSeq s5 tl)))) D σ H := h tl rfl
section
variable {P : Program} {w : World} {K : PySem.W.Frag} {mg : Str → Option Value} {base : Heap} {f : Addr} {fd : FuncData}
theorem ok_law_parts (F : Fun K "_law_parts" "_law_parts" s_law_parts f fd) (M : Mg mg) (C_law_cell_at : Cal P w K mg base CX0 "_law_cell_at" 1 ["_law_script", "_law_k"] (spCellAt K)) : FnOk P w K mg base CX0 2 f fd ["_law_script", "_law_kinds_here"] (spLParts9 K) := by
  refine F.ok sc_law_parts (fun vs H Q E h => ?_) (fun cdv A outer s H vs Q E hr h => ?_)
  · obtain ⟨a, kl, ns, kx, ks, rfl, _⟩ := h
    rfl
  obtain ⟨a, kl, ns, kx, ks, rfl, hS, LK, KA, l1, l4, q⟩ := h
  have lk := KA.length
  refine ⟨_, (@pss_cons _ _ _ _ _ (@ps_set _ _ 2 _ _ _ _ sc_law_parts.nd rfl l_law_parts_2 (@pe_lst _ _ _ _ (@pa_nil _)) (swap1 rfl) (.inl rfl)) (@pss_cons _ _ _ _ _ (@ps_for _ _ _ _ _ _ _ _ PassesOwn.never rfl (@pi_range1 _ _ _ _ _ _ g_law_parts_range M.m_range (@pa_cons _ _ _ _ _ (@pe_op _ _ _ _ _ _ _ _ (@op_add _) (@pe_int _ _ _ _) (@pe_op _ _ _ _ _ _ _ _ (@op_mod _) (@pe_callC _ _ _ _ _ _ _ _ _ _ _ C_law_cell_at hr g_law_parts__law_cell_at (@pa_cons _ _ _ _ _ (@pe_var _ 0 _ _ rfl v_law_parts_0 dn__law_script dc__law_script) (@pa_cons _ _ _ _ _ (@pe_int _ _ _ _) (@pa_nil _) (star1 rfl)) (star1 rfl)) (by decide) dn__law_cell_at (star1 rfl) (nost1 rfl nost0)) (@pe_int _ _ _ _))) (@pa_nil _) (star1 rfl)) (star1' rfl)) (@pg_name _ _ 3 _ sc_law_parts.nd rfl l_law_parts_3 (.inl rfl)) (@pss_cons _ _ _ _ _ (@ps_set _ _ 4 _ _ _ _ sc_law_parts.nd rfl l_law_parts_4 (@pe_callC _ _ _ _ _ _ _ _ _ _ _ C_law_cell_at hr g_law_parts__law_cell_at (@pa_cons _ _ _ _ _ (@pe_var _ 0 _ _ rfl v_law_parts_0 dn__law_script dc__law_script) (@pa_cons _ _ _ _ _ (@pe_op _ _ _ _ _ _ _ _ (@op_add _) (@pe_int _ _ _ _) (@pe_var _ 3 _ _ rfl v_law_parts_3 dn__law_k dc__law_k)) (@pa_nil _) (star1 rfl)) (star1 rfl)) (by decide) dn__law_cell_at (star1 rfl) (nost1 rfl nost0)) (swap1 rfl) (.inl rfl)) (@pss_cons _ _ _ _ _ (@ps_asg _ _ _ _ _ _ (@pe_ix _ _ _ _ _ _ _ (@ix_list _) (@pe_var _ 1 _ _ rfl v_law_parts_1 dn__law_kinds_here dc__law_kinds_here) (@pe_op _ _ _ _ _ _ _ _ (@op_mod _) (@pe_var _ 4 _ _ rfl v_law_parts_4 dn__law_cell dc__law_cell) (@pe_callB _ _ _ _ _ _ _ _ _ call_len_seq g_law_parts_len M.m_len b_len (@pa_cons _ _ _ _ _ (@pe_var _ 1 _ _ rfl v_law_parts_1 dn__law_kinds_here dc__law_kinds_here) (@pa_nil _) (star1 rfl)) nn_len dn_len (star1 rfl) nost0)) (fun _ _ => rfl)) (@pg_tup _ _ _ _ _ _ rfl (@pgs_cons _ _ _ _ _ (@pg_name _ _ 5 _ sc_law_parts.nd rfl l_law_parts_5 (.inl rfl)) (@pgs_cons _ _ _ _ _ (@pg_name _ _ 6 _ sc_law_parts.nd rfl l_law_parts_6 (.inl rfl)) (@pgs_nil _) (by rfl)) (by rfl)) (by rfl) (by rfl)) (by rfl) (by rfl) (by rfl)) (@pss_one _ _ _ (@ps_expr _ _ _ _ (@pe_bm _ _ _ _ _ _ _ _ _ _ _ _ PySem.F.plainAttrs_list PySem.F.slot_list_append PySem.F.type_list_append mt_append (@pe_var _ 2 _ _ rfl v_law_parts_2 dn__law_parts_here dc__law_parts_here) (@pa_cons _ _ _ _ _ (@pe_tup _ _ _ _ _ (@pa_cons _ _ _ _ _ (@pe_var _ 5 _ _ rfl v_law_parts_5 dn__law_stuff dc__law_stuff) (@pa_cons _ _ _ _ _ (@pe_var _ 6 _ _ rfl v_law_parts_6 dn__law_use dc__law_use) (@pa_cons _ _ _ _ _ (@pe_op _ _ _ _ _ _ _ _ (@op_add _) (@pe_int _ _ _ _) (@pe_op _ _ _ _ _ _ _ _ (@op_mod _) (@pe_op _ _ _ _ _ _ _ _ (@op_fdivB _) (@pe_var _ 4 _ _ rfl v_law_parts_4 dn__law_cell dc__law_cell) (@pe_int _ _ _ _)) (@pe_op _ _ _ _ _ _ _ _ (@op_pow _) (@pe_int _ _ _ _) (@pe_int _ _ _ _)))) (@pa_nil _) (star1 rfl)) (star1 rfl)) (star1 rfl))) (@pa_nil _) (star1 rfl)) (by rfl) (by rfl) (by rfl) (by rfl) (by rfl)) (swap1 rfl))))) (by intro _; rfl)) (@pss_one _ _ _ (@ps_ret _ _ _ _ (@pe_var _ 2 _ _ rfl v_law_parts_2 dn__law_parts_here dc__law_parts_here))))), ?_⟩
  simp only [tTryN, rSlS, rMulS, rCatS, iZipL, rInsert, rReverse, tDNewX, tTry, tRaise, iEnumL, iEnumT, iZip, iSeq, iOr, rIx, iStr, rLeS, rJoin, rSlTA, tComp_eq, tComp1, slots, Option.getD_some, Option.getD_none, tYes, tSeq, tAsg, gName, tOp, tUn, tC, tVar, tCB, tCons, tNil, tCall, rI, rI0, rU, tRet, tRetN, tIfS, tTest, tB, tAnd, tOr, tNot, tAndV, tOrV, tNotV, tIf, tChain, tMenu, tPar, tDrop, tTup, tLst, tNext, tSl, tPart, tNoPart, tNever, gTup, gCons, gNil, gSub, rSetL, tBM, rAppend, rEq, rNe, rIsi, rIxL, rIxT, rIxS, rSlL, isi_non_bl, isi_non_int, isi_non_str, isi_non_lst, isi_non_tup, isi_bl_bl, isi_bl_int, isi_bl_str, isi_bl_lst, isi_bl_tup, isi_int_bl, isi_int_int, isi_int_str, isi_int_lst, isi_int_tup, isi_str_bl, isi_str_int, isi_str_str, isi_str_lst, isi_str_tup, isi_lst_bl, isi_lst_int, isi_lst_str, isi_lst_lst, isi_lst_tup, isi_tup_bl, isi_tup_int, isi_tup_str, isi_tup_lst, isi_tup_tup, isi_dct_bl, isi_dct_int, isi_dct_str, isi_dct_lst, isi_dct_tup, Kd_non, Kd_bl, Kd_int, Kd_str, sc_non_non, sc_non_int, sc_int_non, sc_non_bl, sc_bl_non, sc_non_str, sc_str_non, sc_int_int, sc_bl_bl, sc_str_str, sc_int_str, sc_str_int, sc_bl_str, sc_str_bl, decide_true, decide_false, tFor_eq, iList, iTup, iRng1, iRng2, iRng3, rIndexT, tBM0, tBMT, tyK_int, tyK_bool, tyK_str, tyK_list, tyK_tuple, L2.start, cxK, Int.reduceToNat, List.map_cons, List.map_nil, List.length_cons, List.length_nil, Nat.reduceAdd, Nat.reduceSub, Nat.zero_add, List.replicate_succ, List.replicate_zero, List.cons_append, List.nil_append, List.append_nil, List.getElem?_cons_zero, List.getElem?_cons_succ, List.set_cons_zero, List.set_cons_succ, Option.some.injEq, V.int.injEq, V.bl.injEq, V.ref.injEq, V.str.injEq, V.ty.injEq, List.cons.injEq, exists_eq_left', exists_eq_left, exists_eq_right, exists_and_left, exists_and_right, and_true, true_and, and_assoc, exists_const, decide_eq_true_eq, Bool.not_eq_true', Bool.not_true, Bool.not_false, Bool.not_not, decide_eq_false_iff_not, ite_not, Bool.false_eq_true, if_true, if_false, reduceCtorEq, and_false, false_and, exists_false, or_false, false_or, ↓reduceIte, eq_self, reduceIte]
  refine ⟨by decide, fun l hl => spCellAt_of ((same_new hl _).seq hS) (by decide) ⟨_, rfl, by decide, by omega, by omega, ?_⟩⟩
  obtain ⟨n, hn, n1, n6⟩ : ∃ n : Nat, (1 + cellAt ns 5 % 6).toNat = n ∧ 1 ≤ n ∧ n ≤ 6 := ⟨_, rfl, by omega, by omega⟩
  rw [hn]
  obtain ⟨Pv, hP⟩ : ∃ Pv : Nat → St → Hp → Prop, Pv = fun i σ H' => ∃ xs ps y3 y4 y5 y6, H' l = some (.lst xs) ∧ TpD H' xs (ps.map pRow) ∧ ps.length = i ∧ GoodP9 ks ps ∧ Same H H' ∧ σ = [some (.ref a), some (.ref kl), some (.ref l), y3, y4, y5, y6] := ⟨_, rfl⟩
  refine forW_range Pv ?_ ?_ ?_
  · rw [hP]
    exact ⟨[], [], _, _, _, _, upd_same, .nil, rfl, (fun p hp => by cases hp), same_new hl _, rfl⟩
  · intro i σ H' hi h
    rw [hP] at h
    obtain ⟨xs, ps, y3, y4, y5, y6, dl, td, pl, gp, e, rfl⟩ := h
    simp only [tTryN, rSlS, rMulS, rCatS, iZipL, rInsert, rReverse, tDNewX, tTry, tRaise, iEnumL, iEnumT, iZip, iSeq, iOr, rIx, iStr, rLeS, rJoin, rSlTA, tComp_eq, tComp1, slots, Option.getD_some, Option.getD_none, tYes, tSeq, tAsg, gName, tOp, tUn, tC, tVar, tCB, tCons, tNil, tCall, rI, rI0, rU, tRet, tRetN, tIfS, tTest, tB, tAnd, tOr, tNot, tAndV, tOrV, tNotV, tIf, tChain, tMenu, tPar, tDrop, tTup, tLst, tNext, tSl, tPart, tNoPart, tNever, gTup, gCons, gNil, gSub, rSetL, tBM, rAppend, rEq, rNe, rIsi, rIxL, rIxT, rIxS, rSlL, isi_non_bl, isi_non_int, isi_non_str, isi_non_lst, isi_non_tup, isi_bl_bl, isi_bl_int, isi_bl_str, isi_bl_lst, isi_bl_tup, isi_int_bl, isi_int_int, isi_int_str, isi_int_lst, isi_int_tup, isi_str_bl, isi_str_int, isi_str_str, isi_str_lst, isi_str_tup, isi_lst_bl, isi_lst_int, isi_lst_str, isi_lst_lst, isi_lst_tup, isi_tup_bl, isi_tup_int, isi_tup_str, isi_tup_lst, isi_tup_tup, isi_dct_bl, isi_dct_int, isi_dct_str, isi_dct_lst, isi_dct_tup, Kd_non, Kd_bl, Kd_int, Kd_str, sc_non_non, sc_non_int, sc_int_non, sc_non_bl, sc_bl_non, sc_non_str, sc_str_non, sc_int_int, sc_bl_bl, sc_str_str, sc_int_str, sc_str_int, sc_bl_str, sc_str_bl, decide_true, decide_false, tFor_eq, iList, iTup, iRng1, iRng2, iRng3, rIndexT, tBM0, tBMT, tyK_int, tyK_bool, tyK_str, tyK_list, tyK_tuple, L2.start, cxK, Int.reduceToNat, List.map_cons, List.map_nil, List.length_cons, List.length_nil, Nat.reduceAdd, Nat.reduceSub, Nat.zero_add, List.replicate_succ, List.replicate_zero, List.cons_append, List.nil_append, List.append_nil, List.getElem?_cons_zero, List.getElem?_cons_succ, List.set_cons_zero, List.set_cons_succ, Option.some.injEq, V.int.injEq, V.bl.injEq, V.ref.injEq, V.str.injEq, V.ty.injEq, List.cons.injEq, exists_eq_left', exists_eq_left, exists_eq_right, exists_and_left, exists_and_right, and_true, true_and, and_assoc, exists_const, decide_eq_true_eq, Bool.not_eq_true', Bool.not_true, Bool.not_false, Bool.not_not, decide_eq_false_iff_not, ite_not, Bool.false_eq_true, if_true, if_false, reduceCtorEq, and_false, false_and, exists_false, or_false, false_or, ↓reduceIte, eq_self, reduceIte]
    refine spCellAt_of (e.seq hS) (by omega) ?_
    obtain ⟨c, hc⟩ : ∃ c : Int, cellAt ns (6 + (0 + (i : Int))) = c := ⟨_, rfl⟩
    rw [hc]
    have kpos : (0 : Int) < (kx.length : Int) := by omega
    have e0 := Int.emod_nonneg c (Int.ne_of_gt kpos)
    have e1 := Int.emod_lt_of_pos c kpos
    obtain ⟨j, hj⟩ : ∃ j : Nat, c % (kx.length : Int) = j := ⟨(c % (kx.length : Int)).toNat, by omega⟩
    obtain ⟨xk, hxk⟩ : ∃ x, kx[j]? = some x := ⟨kx[j]'(by omega), List.getElem?_eq_getElem _⟩
    obtain ⟨kp, k, rfl, hk, Tk⟩ := (KA.same e).at hxk
    have w1 : 1 ≤ 1 + c / 4 % 10 ^ 9 ∧ 1 + c / 4 % 10 ^ 9 ≤ 10 ^ 9 := by
      have a0 := Int.emod_nonneg (c / 4) (show (10 ^ 9 : Int) ≠ 0 by decide)
      have a1 := Int.emod_lt_of_pos (c / 4) (show (0 : Int) < 10 ^ 9 by decide)
      omega
    obtain ⟨wt, hwt⟩ : ∃ wt : Int, 1 + c / 4 % 10 ^ 9 = wt := ⟨_, rfl⟩
    rw [hwt] at w1
    refine ⟨_, .inl (e.seq LK), _, rfl, kpos, _, e.seq LK, _, (by rw [hj]; exact atI_nat hxk), _, rfl, _, Tk, rfl, _, _, rfl, _, _, rfl, rfl, .inl ⟨rfl, _, SqL.of dl⟩, _, rfl, cdiv (by decide) (by decide), cpow, by decide, by decide, fun t ht => ?_⟩
    rw [hwt]
    obtain ⟨H5, g5, S5, T5⟩ : ∃ H5, H5 = upd H' t (.tup (pRow (k, wt))) ∧ Same H' H5 ∧ H5 t = some (.tup (pRow (k, wt))) := ⟨_, rfl, same_new ht _, upd_same⟩
    have g5' : H5 = upd H' t (.tup [V.str (txt k.1), V.str (txt k.2), V.int wt]) := g5
    rw [← g5']
    clear g5 g5'
    have d5 := S5 _ _ dl
    have len := td.length
    rw [List.length_map] at len
    refine ⟨_, d5, Nat.lt_of_lt_of_le (m := 64) (by omega) (by decide), ?_⟩
    rw [hP]
    refine ⟨_, ps ++ [(k, wt)], _, _, _, _, upd_same, ?_, by rw [List.length_append, pl]; rfl, ?_, same_upd (e.trans S5) hl _, rfl⟩
    · rw [List.map_append]
      exact ((td.same S5).snoc T5).upd d5
    · intro p hp
      rcases List.mem_append.mp hp with hp | hp
      · exact gp p hp
      · rw [List.mem_singleton.mp hp]
        exact ⟨List.mem_of_getElem? hk, w1⟩
  · intro σ H' h
    rw [hP] at h
    obtain ⟨xs, ps, y3, y4, y5, y6, dl, td, pl, gp, e, rfl⟩ := h
    simp only [tTryN, rSlS, rMulS, rCatS, iZipL, rInsert, rReverse, tDNewX, tTry, tRaise, iEnumL, iEnumT, iZip, iSeq, iOr, rIx, iStr, rLeS, rJoin, rSlTA, tComp_eq, tComp1, slots, Option.getD_some, Option.getD_none, tYes, tSeq, tAsg, gName, tOp, tUn, tC, tVar, tCB, tCons, tNil, tCall, rI, rI0, rU, tRet, tRetN, tIfS, tTest, tB, tAnd, tOr, tNot, tAndV, tOrV, tNotV, tIf, tChain, tMenu, tPar, tDrop, tTup, tLst, tNext, tSl, tPart, tNoPart, tNever, gTup, gCons, gNil, gSub, rSetL, tBM, rAppend, rEq, rNe, rIsi, rIxL, rIxT, rIxS, rSlL, isi_non_bl, isi_non_int, isi_non_str, isi_non_lst, isi_non_tup, isi_bl_bl, isi_bl_int, isi_bl_str, isi_bl_lst, isi_bl_tup, isi_int_bl, isi_int_int, isi_int_str, isi_int_lst, isi_int_tup, isi_str_bl, isi_str_int, isi_str_str, isi_str_lst, isi_str_tup, isi_lst_bl, isi_lst_int, isi_lst_str, isi_lst_lst, isi_lst_tup, isi_tup_bl, isi_tup_int, isi_tup_str, isi_tup_lst, isi_tup_tup, isi_dct_bl, isi_dct_int, isi_dct_str, isi_dct_lst, isi_dct_tup, Kd_non, Kd_bl, Kd_int, Kd_str, sc_non_non, sc_non_int, sc_int_non, sc_non_bl, sc_bl_non, sc_non_str, sc_str_non, sc_int_int, sc_bl_bl, sc_str_str, sc_int_str, sc_str_int, sc_bl_str, sc_str_bl, decide_true, decide_false, tFor_eq, iList, iTup, iRng1, iRng2, iRng3, rIndexT, tBM0, tBMT, tyK_int, tyK_bool, tyK_str, tyK_list, tyK_tuple, L2.start, cxK, Int.reduceToNat, List.map_cons, List.map_nil, List.length_cons, List.length_nil, Nat.reduceAdd, Nat.reduceSub, Nat.zero_add, List.replicate_succ, List.replicate_zero, List.cons_append, List.nil_append, List.append_nil, List.getElem?_cons_zero, List.getElem?_cons_succ, List.set_cons_zero, List.set_cons_succ, Option.some.injEq, V.int.injEq, V.bl.injEq, V.ref.injEq, V.str.injEq, V.ty.injEq, List.cons.injEq, exists_eq_left', exists_eq_left, exists_eq_right, exists_and_left, exists_and_right, and_true, true_and, and_assoc, exists_const, decide_eq_true_eq, Bool.not_eq_true', Bool.not_true, Bool.not_false, Bool.not_not, decide_eq_false_iff_not, ite_not, Bool.false_eq_true, if_true, if_false, reduceCtorEq, and_false, false_and, exists_false, or_false, false_or, ↓reduceIte, eq_self, reduceIte]
    exact q _ _ _ _ e hl dl td (by omega) (by omega) gp
theorem cutN_one {cs : List Nat} (h : 1 ≤ cs.length) : cutN cs (some 1) none = cs.drop 1 := by
  unfold cutN
  have e : HT.sIx cs.length 0 (some 1) = 1 := by
    have := HT.sIx_nat cs.length 0 1
    rw [Nat.min_eq_left h] at this
    exact this
  rw [e, HT.sIx_none, List.take_of_length_le (by rw [List.length_drop]; exact Nat.le_refl _)]
theorem name_turn {cs : List Nat} {z : Nat} (h : nameB cs = true) (hz : isLow z = true) : nameB (cs.drop 1 ++ [z]) = true := by
  unfold nameB at h ⊢
  rw [Bool.and_eq_true, decide_eq_true_iff] at h
  rw [Bool.and_eq_true, decide_eq_true_iff, List.length_append, List.length_drop, List.all_append, Bool.and_eq_true]
  refine ⟨⟨by show 1 ≤ _ + 1; omega, by show _ + 1 ≤ 8; omega⟩, List.all_eq_true.mpr fun c hc => List.all_eq_true.mp h.2 c (List.mem_of_mem_drop hc), ?_⟩
  rw [List.all_cons, hz]
  rfl
theorem partV_of {K : PySem.W.Frag} {H : Hp} {v : V} {b c : Bool} (h : PartV K H v b) (e : b = c) : PartV K H v c := e ▸ h
theorem odd3 {K : PySem.W.Frag} {H : Hp} {ks : List Kd2} {p : Addr} {x y z : V} {b c : Bool} {k : Kn} (T : SqT K H p [x, y, z]) (n1 : NameV K H x b) (n2 : NameV K H y c) (kz : Kd K H z k) (e : (b && c && wB z) = false) : Odd K H ks (.ref p) := .inl (partV_of (PartV.three T n1 n2 kz) e)
theorem odd8 {K : PySem.W.Frag} {H : Hp} {ks : List Kd2} {p : Addr} {cs us : List Nat} (T : SqT K H p [.str (txt cs), .str (txt us), .int 2]) (a : asc cs) (l : cs.length ≤ 1000) (ou : nameB us = true) (n : nameB cs = true → (cs, us) ∉ ks) : Odd K H ks (.ref p) := by
  by_cases h : nameB cs = true
  · exact .inr ⟨p, ((cs, us), 2), rfl, T, ⟨h, ou⟩, show (1 : Int) ≤ 2 by decide, show (2 : Int) ≤ 3 by decide, n h⟩
  · have h' : nameB cs = false := by rwa [Bool.not_eq_true] at h
    exact odd3 T (NameV.txt a l) (name_v ou) (show Kd K _ (.int 2) .int from rfl) (by rw [h']; rfl)
theorem name_e {K : PySem.W.Frag} {H : Hp} : NameV K H (.str "") false := NameV.txt (K := K) (H := H) (cs := []) rfl (by decide)
theorem Odd.same {K : PySem.W.Frag} {H H' : Hp} {ks : List Kd2} {v : V} (h : Odd K H ks v) (e : Same H H') : Odd K H' ks v := by
  rcases h with h | ⟨p, q, rfl, T, r⟩
  · exact .inl (h.same e)
  · exact .inr ⟨p, q, rfl, Same.tup e T, r⟩
theorem ok_law_strange (F : Fun K "_law_strange" "_law_strange" s_law_strange f fd) (M : Mg mg) : FnOk P w K mg base CX0 1 f fd ["_law_kinds_here", "_law_cell"] (spStrange K) := by
  refine F.ok sc_law_strange (fun vs H Q E h => ?_) (fun cdv A outer s H vs Q E hr h => ?_)
  · obtain ⟨kl, c, kx, ks, rfl, _⟩ := h
    rfl
  obtain ⟨kl, c, kx, ks, rfl, LK, KA, l1, l4, okk, q⟩ := h
  have lk := KA.length
  refine ⟨_, (@pss_cons _ _ _ _ _ (@ps_asg _ _ _ _ _ _ (@pe_ix _ _ _ _ _ _ _ (@ix_list _) (@pe_var _ 0 _ _ rfl v_law_strange_0 dn__law_kinds_here dc__law_kinds_here) (@pe_op _ _ _ _ _ _ _ _ (@op_mod _) (@pe_var _ 1 _ _ rfl v_law_strange_1 dn__law_cell dc__law_cell) (@pe_callB _ _ _ _ _ _ _ _ _ call_len_seq g_law_strange_len M.m_len b_len (@pa_cons _ _ _ _ _ (@pe_var _ 0 _ _ rfl v_law_strange_0 dn__law_kinds_here dc__law_kinds_here) (@pa_nil _) (star1 rfl)) nn_len dn_len (star1 rfl) nost0)) (fun _ _ => rfl)) (@pg_tup _ _ _ _ _ _ rfl (@pgs_cons _ _ _ _ _ (@pg_name _ _ 2 _ sc_law_strange.nd rfl l_law_strange_2 (.inl rfl)) (@pgs_cons _ _ _ _ _ (@pg_name _ _ 3 _ sc_law_strange.nd rfl l_law_strange_3 (.inl rfl)) (@pgs_nil _) (by rfl)) (by rfl)) (by rfl) (by rfl)) (by rfl) (by rfl) (by rfl)) (@pss_cons _ _ _ _ _ (@ps_set _ _ 4 _ _ _ _ sc_law_strange.nd rfl l_law_strange_4 (@pe_op _ _ _ _ _ _ _ _ op_catS (@pe_slice _ _ _ _ _ _ _ _ _ _ sl_str (@pe_var _ 2 _ _ rfl v_law_strange_2 dn__law_stuff dc__law_stuff) (@po_some _ _ _ (@pe_int _ _ _ _)) (@po_none _)) (@pe_ix _ _ _ _ _ _ _ ix_str (@pe_str _ _ _ _) (@pe_op _ _ _ _ _ _ _ _ (@op_mod _) (@pe_op _ _ _ _ _ _ _ _ (@op_fdivB _) (@pe_var _ 1 _ _ rfl v_law_strange_1 dn__law_cell dc__law_cell) (@pe_int _ _ _ _)) (@pe_int _ _ _ _)) (fun _ _ => rfl))) (swap1 rfl) (.inl rfl)) (@pss_cons _ _ _ _ _ (@ps_if _ _ _ _ _ _ _ _ (@pt_cmpR _ _ _ _ _ _ _ _ (op_inD (hu60 hr)) (@pe_tup _ _ _ _ _ (@pa_cons _ _ _ _ _ (@pe_var _ 4 _ _ rfl v_law_strange_4 dn__law_strange_here dc__law_strange_here) (@pa_cons _ _ _ _ _ (@pe_var _ 3 _ _ rfl v_law_strange_3 dn__law_use dc__law_use) (@pa_nil _) (star1 rfl)) (star1 rfl))) (@pe_var _ 0 _ _ rfl v_law_strange_0 dn__law_kinds_here dc__law_kinds_here) (by with_unfolding_all rfl)) (@pss_one _ _ _ (@ps_set _ _ 4 _ _ _ _ sc_law_strange.nd rfl l_law_strange_4 (@pe_op _ _ _ _ _ _ _ _ op_mulS (@pe_str _ _ _ _) (@pe_int _ _ _ _)) (swap1 rfl) (.inl rfl))) (@pss_nil _)) (@pss_cons _ _ _ _ _ (@ps_set _ _ 5 _ _ _ _ sc_law_strange.nd rfl l_law_strange_5 (@pe_tup _ _ _ _ _ (@pa_cons _ _ _ _ _ (@pe_var _ 3 _ _ rfl v_law_strange_3 dn__law_use dc__law_use) (@pa_cons _ _ _ _ _ (@pe_var _ 2 _ _ rfl v_law_strange_2 dn__law_stuff dc__law_stuff) (@pa_cons _ _ _ _ _ (@pe_int _ _ _ _) (@pa_nil _) (star1 rfl)) (star1 rfl)) (star1 rfl))) (swap1 rfl) (.inl rfl)) (@pss_cons _ _ _ _ _ (@ps_if _ _ _ _ _ _ _ _ (@pt_cmpR _ _ _ _ _ _ _ _ (op_inD (hu60 hr)) (@pe_tup _ _ _ _ _ (@pa_cons _ _ _ _ _ (@pe_var _ 3 _ _ rfl v_law_strange_3 dn__law_use dc__law_use) (@pa_cons _ _ _ _ _ (@pe_var _ 2 _ _ rfl v_law_strange_2 dn__law_stuff dc__law_stuff) (@pa_nil _) (star1 rfl)) (star1 rfl))) (@pe_var _ 0 _ _ rfl v_law_strange_0 dn__law_kinds_here dc__law_kinds_here) (by with_unfolding_all rfl)) (@pss_one _ _ _ (@ps_set _ _ 5 _ _ _ _ sc_law_strange.nd rfl l_law_strange_5 (@pe_tup _ _ _ _ _ (@pa_cons _ _ _ _ _ (@pe_var _ 3 _ _ rfl v_law_strange_3 dn__law_use dc__law_use) (@pa_cons _ _ _ _ _ (@pe_var _ 2 _ _ rfl v_law_strange_2 dn__law_stuff dc__law_stuff) (@pa_cons _ _ _ _ _ (@pe_int _ _ _ _) (@pa_nil _) (star1 rfl)) (star1 rfl)) (star1 rfl))) (swap1 rfl) (.inl rfl))) (@pss_nil _)) (@pss_cons _ _ _ _ _ (@ps_set _ _ 6 _ _ _ _ sc_law_strange.nd rfl l_law_strange_6 (@pe_lst _ _ _ _ (@pa_cons _ _ _ _ _ (@pe_tup _ _ _ _ _ (@pa_cons _ _ _ _ _ (@pe_var _ 2 _ _ rfl v_law_strange_2 dn__law_stuff dc__law_stuff) (@pa_cons _ _ _ _ _ (@pe_var _ 3 _ _ rfl v_law_strange_3 dn__law_use dc__law_use) (@pa_nil _) (star1 rfl)) (star1 rfl))) (@pa_cons _ _ _ _ _ (@pe_tup _ _ _ _ _ (@pa_cons _ _ _ _ _ (@pe_var _ 2 _ _ rfl v_law_strange_2 dn__law_stuff dc__law_stuff) (@pa_cons _ _ _ _ _ (@pe_var _ 3 _ _ rfl v_law_strange_3 dn__law_use dc__law_use) (@pa_cons _ _ _ _ _ (@pe_int _ _ _ _) (@pa_cons _ _ _ _ _ (@pe_int _ _ _ _) (@pa_nil _) (star1 rfl)) (star1 rfl)) (star1 rfl)) (star1 rfl))) (@pa_cons _ _ _ _ _ (@pe_lst _ _ _ _ (@pa_cons _ _ _ _ _ (@pe_var _ 2 _ _ rfl v_law_strange_2 dn__law_stuff dc__law_stuff) (@pa_cons _ _ _ _ _ (@pe_var _ 3 _ _ rfl v_law_strange_3 dn__law_use dc__law_use) (@pa_cons _ _ _ _ _ (@pe_int _ _ _ _) (@pa_nil _) (star1 rfl)) (star1 rfl)) (star1 rfl))) (@pa_cons _ _ _ _ _ (@pe_non _ _ _) (@pa_cons _ _ _ _ _ (@pe_tup _ _ _ _ _ (@pa_cons _ _ _ _ _ (@pe_var _ 2 _ _ rfl v_law_strange_2 dn__law_stuff dc__law_stuff) (@pa_cons _ _ _ _ _ (@pe_var _ 3 _ _ rfl v_law_strange_3 dn__law_use dc__law_use) (@pa_cons _ _ _ _ _ (@pe_int _ _ _ _) (@pa_nil _) (star1 rfl)) (star1 rfl)) (star1 rfl))) (@pa_cons _ _ _ _ _ (@pe_tup _ _ _ _ _ (@pa_cons _ _ _ _ _ (@pe_var _ 2 _ _ rfl v_law_strange_2 dn__law_stuff dc__law_stuff) (@pa_cons _ _ _ _ _ (@pe_var _ 3 _ _ rfl v_law_strange_3 dn__law_use dc__law_use) (@pa_cons _ _ _ _ _ (@pe_op _ _ _ _ _ _ _ _ (@op_sub _) (@pe_un _ _ _ _ _ _ (@un_neg _) (@pe_int _ _ _ _)) (@pe_op _ _ _ _ _ _ _ _ (@op_mod _) (@pe_var _ 1 _ _ rfl v_law_strange_1 dn__law_cell dc__law_cell) (@pe_int _ _ _ _))) (@pa_nil _) (star1 rfl)) (star1 rfl)) (star1 rfl))) (@pa_nil _) (star1 rfl)) (star1 rfl)) (star1 rfl)) (star1 rfl)) (star1 rfl)) (star1 rfl))) (swap1 rfl) (.inl rfl)) (@pss_cons _ _ _ _ _ (@ps_set _ _ 6 _ _ _ _ sc_law_strange.nd rfl l_law_strange_6 (@pe_op _ _ _ _ _ _ _ _ (@op_cat _) (@pe_var _ 6 _ _ rfl v_law_strange_6 dn__law_some dc__law_some) (@pe_lst _ _ _ _ (@pa_cons _ _ _ _ _ (@pe_tup _ _ _ _ _ (@pa_cons _ _ _ _ _ (@pe_var _ 2 _ _ rfl v_law_strange_2 dn__law_stuff dc__law_stuff) (@pa_cons _ _ _ _ _ (@pe_var _ 3 _ _ rfl v_law_strange_3 dn__law_use dc__law_use) (@pa_cons _ _ _ _ _ (@pe_bl _ _ _ _) (@pa_nil _) (star1 rfl)) (star1 rfl)) (star1 rfl))) (@pa_cons _ _ _ _ _ (@pe_tup _ _ _ _ _ (@pa_cons _ _ _ _ _ (@pe_var _ 2 _ _ rfl v_law_strange_2 dn__law_stuff dc__law_stuff) (@pa_cons _ _ _ _ _ (@pe_var _ 3 _ _ rfl v_law_strange_3 dn__law_use dc__law_use) (@pa_cons _ _ _ _ _ (@pe_str _ _ _ _) (@pa_nil _) (star1 rfl)) (star1 rfl)) (star1 rfl))) (@pa_cons _ _ _ _ _ (@pe_tup _ _ _ _ _ (@pa_cons _ _ _ _ _ (@pe_var _ 4 _ _ rfl v_law_strange_4 dn__law_strange_here dc__law_strange_here) (@pa_cons _ _ _ _ _ (@pe_var _ 3 _ _ rfl v_law_strange_3 dn__law_use dc__law_use) (@pa_cons _ _ _ _ _ (@pe_int _ _ _ _) (@pa_nil _) (star1 rfl)) (star1 rfl)) (star1 rfl))) (@pa_cons _ _ _ _ _ (@pe_var _ 5 _ _ rfl v_law_strange_5 dn__law_turned dc__law_turned) (@pa_cons _ _ _ _ _ (@pe_tup _ _ _ _ _ (@pa_cons _ _ _ _ _ (@pe_str _ _ _ _) (@pa_cons _ _ _ _ _ (@pe_var _ 3 _ _ rfl v_law_strange_3 dn__law_use dc__law_use) (@pa_cons _ _ _ _ _ (@pe_int _ _ _ _) (@pa_nil _) (star1 rfl)) (star1 rfl)) (star1 rfl))) (@pa_cons _ _ _ _ _ (@pe_tup _ _ _ _ _ (@pa_cons _ _ _ _ _ (@pe_var _ 2 _ _ rfl v_law_strange_2 dn__law_stuff dc__law_stuff) (@pa_cons _ _ _ _ _ (@pe_int _ _ _ _) (@pa_cons _ _ _ _ _ (@pe_int _ _ _ _) (@pa_nil _) (star1 rfl)) (star1 rfl)) (star1 rfl))) (@pa_nil _) (star1 rfl)) (star1 rfl)) (star1 rfl)) (star1 rfl)) (star1 rfl)) (star1 rfl)))) (swap1 rfl) (.inl rfl)) (@pss_cons _ _ _ _ _ (@ps_set _ _ 6 _ _ _ _ sc_law_strange.nd rfl l_law_strange_6 (@pe_op _ _ _ _ _ _ _ _ (@op_cat _) (@pe_var _ 6 _ _ rfl v_law_strange_6 dn__law_some dc__law_some) (@pe_lst _ _ _ _ (@pa_cons _ _ _ _ _ (@pe_tup _ _ _ _ _ (@pa_cons _ _ _ _ _ (@pe_var _ 2 _ _ rfl v_law_strange_2 dn__law_stuff dc__law_stuff) (@pa_cons _ _ _ _ _ (@pe_var _ 3 _ _ rfl v_law_strange_3 dn__law_use dc__law_use) (@pa_cons _ _ _ _ _ (@pe_non _ _ _) (@pa_nil _) (star1 rfl)) (star1 rfl)) (star1 rfl))) (@pa_cons _ _ _ _ _ (@pe_tup _ _ _ _ _ (@pa_cons _ _ _ _ _ (@pe_var _ 2 _ _ rfl v_law_strange_2 dn__law_stuff dc__law_stuff) (@pa_cons _ _ _ _ _ (@pe_var _ 3 _ _ rfl v_law_strange_3 dn__law_use dc__law_use) (@pa_cons _ _ _ _ _ (@pe_lst _ _ _ _ (@pa_cons _ _ _ _ _ (@pe_int _ _ _ _) (@pa_nil _) (star1 rfl))) (@pa_nil _) (star1 rfl)) (star1 rfl)) (star1 rfl))) (@pa_cons _ _ _ _ _ (@pe_tup _ _ _ _ _ (@pa_cons _ _ _ _ _ (@pe_lst _ _ _ _ (@pa_cons _ _ _ _ _ (@pe_var _ 2 _ _ rfl v_law_strange_2 dn__law_stuff dc__law_stuff) (@pa_nil _) (star1 rfl))) (@pa_cons _ _ _ _ _ (@pe_var _ 3 _ _ rfl v_law_strange_3 dn__law_use dc__law_use) (@pa_cons _ _ _ _ _ (@pe_int _ _ _ _) (@pa_nil _) (star1 rfl)) (star1 rfl)) (star1 rfl))) (@pa_cons _ _ _ _ _ (@pe_tup _ _ _ _ _ (@pa_cons _ _ _ _ _ (@pe_var _ 2 _ _ rfl v_law_strange_2 dn__law_stuff dc__law_stuff) (@pa_cons _ _ _ _ _ (@pe_lst _ _ _ _ (@pa_cons _ _ _ _ _ (@pe_var _ 3 _ _ rfl v_law_strange_3 dn__law_use dc__law_use) (@pa_nil _) (star1 rfl))) (@pa_cons _ _ _ _ _ (@pe_int _ _ _ _) (@pa_nil _) (star1 rfl)) (star1 rfl)) (star1 rfl))) (@pa_nil _) (star1 rfl)) (star1 rfl)) (star1 rfl)) (star1 rfl)))) (swap1 rfl) (.inl rfl)) (@pss_one _ _ _ (@ps_ret _ _ _ _ (@pe_ix _ _ _ _ _ _ _ (@ix_list _) (@pe_var _ 6 _ _ rfl v_law_strange_6 dn__law_some dc__law_some) (@pe_op _ _ _ _ _ _ _ _ (@op_mod _) (@pe_op _ _ _ _ _ _ _ _ (@op_fdivB _) (@pe_var _ 1 _ _ rfl v_law_strange_1 dn__law_cell dc__law_cell) (@pe_int _ _ _ _)) (@pe_int _ _ _ _)) (fun _ _ => rfl)))))))))))), ?_⟩
  refine cut5 fun tl htl => ?_
  simp only [tTryN, rSlS, rMulS, rCatS, iZipL, rInsert, rReverse, tDNewX, tTry, tRaise, iEnumL, iEnumT, iZip, iSeq, iOr, rIx, iStr, rLeS, rJoin, rSlTA, tComp_eq, tComp1, slots, Option.getD_some, Option.getD_none, tYes, tSeq, tAsg, gName, tOp, tUn, tC, tVar, tCB, tCons, tNil, tCall, rI, rI0, rU, tRet, tRetN, tIfS, tTest, tB, tAnd, tOr, tNot, tAndV, tOrV, tNotV, tIf, tChain, tMenu, tPar, tDrop, tTup, tLst, tNext, tSl, tPart, tNoPart, tNever, gTup, gCons, gNil, gSub, rSetL, tBM, rAppend, rEq, rNe, rIsi, rIxL, rIxT, rIxS, rSlL, isi_non_bl, isi_non_int, isi_non_str, isi_non_lst, isi_non_tup, isi_bl_bl, isi_bl_int, isi_bl_str, isi_bl_lst, isi_bl_tup, isi_int_bl, isi_int_int, isi_int_str, isi_int_lst, isi_int_tup, isi_str_bl, isi_str_int, isi_str_str, isi_str_lst, isi_str_tup, isi_lst_bl, isi_lst_int, isi_lst_str, isi_lst_lst, isi_lst_tup, isi_tup_bl, isi_tup_int, isi_tup_str, isi_tup_lst, isi_tup_tup, isi_dct_bl, isi_dct_int, isi_dct_str, isi_dct_lst, isi_dct_tup, Kd_non, Kd_bl, Kd_int, Kd_str, sc_non_non, sc_non_int, sc_int_non, sc_non_bl, sc_bl_non, sc_non_str, sc_str_non, sc_int_int, sc_bl_bl, sc_str_str, sc_int_str, sc_str_int, sc_bl_str, sc_str_bl, decide_true, decide_false, tFor_eq, iList, iTup, iRng1, iRng2, iRng3, rIndexT, tBM0, tBMT, tyK_int, tyK_bool, tyK_str, tyK_list, tyK_tuple, L2.start, cxK, Int.reduceToNat, List.map_cons, List.map_nil, List.length_cons, List.length_nil, Nat.reduceAdd, Nat.reduceSub, Nat.zero_add, List.replicate_succ, List.replicate_zero, List.cons_append, List.nil_append, List.append_nil, List.getElem?_cons_zero, List.getElem?_cons_succ, List.set_cons_zero, List.set_cons_succ, Option.some.injEq, V.int.injEq, V.bl.injEq, V.ref.injEq, V.str.injEq, V.ty.injEq, List.cons.injEq, exists_eq_left', exists_eq_left, exists_eq_right, exists_and_left, exists_and_right, and_true, true_and, and_assoc, exists_const, decide_eq_true_eq, Bool.not_eq_true', Bool.not_true, Bool.not_false, Bool.not_not, decide_eq_false_iff_not, ite_not, Bool.false_eq_true, if_true, if_false, reduceCtorEq, and_false, false_and, exists_false, or_false, false_or, ↓reduceIte, eq_self, reduceIte]
  have kpos : (0 : Int) < (kx.length : Int) := by omega
  have e0 := Int.emod_nonneg c (Int.ne_of_gt kpos)
  have e1 := Int.emod_lt_of_pos c kpos
  obtain ⟨j, hj⟩ : ∃ j : Nat, c % (kx.length : Int) = j := ⟨(c % (kx.length : Int)).toNat, by omega⟩
  obtain ⟨xk, hxk⟩ : ∃ x, kx[j]? = some x := ⟨kx[j]'(by omega), List.getElem?_eq_getElem _⟩
  obtain ⟨kp, k, rfl, hk, Tk⟩ := KA.at hxk
  have okK := okk k (List.mem_of_getElem? hk)
  have l8 := (name_asc okK.1).2
  have l1' : 1 ≤ k.1.length := by
    have := okK.1
    unfold nameB at this
    rw [Bool.and_eq_true, decide_eq_true_iff] at this
    omega
  refine ⟨_, .inl LK, kpos, _, LK, _, (by rw [hj]; exact atI_nat hxk), _, rfl, _, Tk, rfl, _, _, rfl, _, _, rfl, rfl, _, rfl, by omega, cdiv (by decide) (by decide), by decide, by decide, ?_⟩
  obtain ⟨z, hz, lz⟩ : ∃ z, atI (Str.ofString "xyz").cps.toList (c / 4 % 3) = some z ∧ isLow z = true := by
    have a0 := Int.emod_nonneg (c / 4) (show (3 : Int) ≠ 0 by decide)
    have a1 := Int.emod_lt_of_pos (c / 4) (show (0 : Int) < 3 by decide)
    have : c / 4 % 3 = 0 ∨ c / 4 % 3 = 1 ∨ c / 4 % 3 = 2 := by omega
    rcases this with e | e | e <;> rw [e]
    · exact ⟨120, rfl, rfl⟩
    · exact ⟨121, rfl, rfl⟩
    · exact ⟨122, rfl, rfl⟩
  rw [cutN_one l1']
  refine ⟨_, hz, _, rfl, [z], rfl, by rw [List.length_drop]; show _ + 1 ≤ 1000; omega, by decide, fun t1 ht1 => ?_⟩
  have nst := name_turn okK.1 lz
  obtain ⟨cs, hcs⟩ : ∃ cs, k.1.drop 1 ++ [z] = cs := ⟨_, rfl⟩
  rw [hcs] at nst ⊢
  obtain ⟨H1, g1, S1, T1⟩ := fresh_tup (K := K) ht1 (kRow (cs, k.2))
  have g1' : H1 = upd H t1 (.tup [V.str (txt cs), V.str (txt k.2)]) := g1
  rw [← g1']
  clear g1 g1'
  refine rInD_kind T1 ⟨nst, okK.2⟩ (S1.seq LK) (KA.same S1) okk ⟨_, rfl, ?_⟩
  rw [if_neg Bool.false_ne_true]
  have TL : ∀ (H0 : Hp) (ds : List Nat) (tu : Addr), Same H H0 → (asc ds ∧ ds.length ≤ 1000 ∧ (nameB ds = true → (ds, k.2) ∉ ks)) → Odd K H0 ks (.ref tu) → tl { nx := fun x H' => Q V.non H', rt := Q } [some (V.ref kl), some (V.int c), some (V.str (txt k.1)), some (V.str (txt k.2)), some (V.str (txt ds)), some (V.ref tu), none] H0 := by
    intro H0 ds tu S0 ⟨ok1, ok2, ok3⟩ OT
    rw [htl]
    simp only [tTryN, rSlS, rMulS, rCatS, iZipL, rInsert, rReverse, tDNewX, tTry, tRaise, iEnumL, iEnumT, iZip, iSeq, iOr, rIx, iStr, rLeS, rJoin, rSlTA, tComp_eq, tComp1, slots, Option.getD_some, Option.getD_none, tYes, tSeq, tAsg, gName, tOp, tUn, tC, tVar, tCB, tCons, tNil, tCall, rI, rI0, rU, tRet, tRetN, tIfS, tTest, tB, tAnd, tOr, tNot, tAndV, tOrV, tNotV, tIf, tChain, tMenu, tPar, tDrop, tTup, tLst, tNext, tSl, tPart, tNoPart, tNever, gTup, gCons, gNil, gSub, rSetL, tBM, rAppend, rEq, rNe, rIsi, rIxL, rIxT, rIxS, rSlL, isi_non_bl, isi_non_int, isi_non_str, isi_non_lst, isi_non_tup, isi_bl_bl, isi_bl_int, isi_bl_str, isi_bl_lst, isi_bl_tup, isi_int_bl, isi_int_int, isi_int_str, isi_int_lst, isi_int_tup, isi_str_bl, isi_str_int, isi_str_str, isi_str_lst, isi_str_tup, isi_lst_bl, isi_lst_int, isi_lst_str, isi_lst_lst, isi_lst_tup, isi_tup_bl, isi_tup_int, isi_tup_str, isi_tup_lst, isi_tup_tup, isi_dct_bl, isi_dct_int, isi_dct_str, isi_dct_lst, isi_dct_tup, Kd_non, Kd_bl, Kd_int, Kd_str, sc_non_non, sc_non_int, sc_int_non, sc_non_bl, sc_bl_non, sc_non_str, sc_str_non, sc_int_int, sc_bl_bl, sc_str_str, sc_int_str, sc_str_int, sc_bl_str, sc_str_bl, decide_true, decide_false, tFor_eq, iList, iTup, iRng1, iRng2, iRng3, rIndexT, tBM0, tBMT, tyK_int, tyK_bool, tyK_str, tyK_list, tyK_tuple, L2.start, cxK, Int.reduceToNat, List.map_cons, List.map_nil, List.length_cons, List.length_nil, Nat.reduceAdd, Nat.reduceSub, Nat.zero_add, List.replicate_succ, List.replicate_zero, List.cons_append, List.nil_append, List.append_nil, List.getElem?_cons_zero, List.getElem?_cons_succ, List.set_cons_zero, List.set_cons_succ, Option.some.injEq, V.int.injEq, V.bl.injEq, V.ref.injEq, V.str.injEq, V.ty.injEq, List.cons.injEq, exists_eq_left', exists_eq_left, exists_eq_right, exists_and_left, exists_and_right, and_true, true_and, and_assoc, exists_const, decide_eq_true_eq, Bool.not_eq_true', Bool.not_true, Bool.not_false, Bool.not_not, decide_eq_false_iff_not, ite_not, Bool.false_eq_true, if_true, if_false, reduceCtorEq, and_false, false_and, exists_false, or_false, false_or, ↓reduceIte, eq_self, reduceIte]
    have neg9 : (true && true && wB (.int (-1 - c % 9))) = false := by
      show decide (1 ≤ -1 - c % 9) = false
      rw [decide_eq_false (by omega)]
    refine ⟨by decide, fun p1 h1 => ?_⟩
    obtain ⟨G1, g1, S1, T1⟩ := fresh_tup (K := K) h1 [.str (txt k.1), .str (txt k.2)]
    rw [← g1]
    clear g1
    refine ⟨by decide, fun p2 h2 => ?_⟩
    obtain ⟨G2, g2, S2, T2⟩ := fresh_tup (K := K) h2 [.str (txt k.1), .str (txt k.2), .int 2, .int 2]
    rw [← g2]
    clear g2
    refine ⟨by decide, fun p3 h3 => ?_⟩
    obtain ⟨G3, g3, S3, T3⟩ := fresh_lst (K := K) h3 [.str (txt k.1), .str (txt k.2), .int 2]
    rw [← g3]
    clear g3
    refine ⟨by decide, fun p4 h4 => ?_⟩
    obtain ⟨G4, g4, S4, T4⟩ := fresh_tup (K := K) h4 [.str (txt k.1), .str (txt k.2), .int 0]
    rw [← g4]
    clear g4
    refine ⟨by decide, by decide, fun p5 h5 => ?_⟩
    obtain ⟨G5, g5, S5, T5⟩ := fresh_tup (K := K) h5 [.str (txt k.1), .str (txt k.2), .int (-1 - c % 9)]
    rw [← g5]
    clear g5
    refine ⟨by decide, fun p6 h6 => ?_⟩
    obtain ⟨G6, g6, S6, T6⟩ : ∃ G6, G6 = upd G5 p6 (.lst [.ref p1, .ref p2, .ref p3, .non, .ref p4, .ref p5]) ∧ Same G5 G6 ∧ G6 p6 = some (.lst [.ref p1, .ref p2, .ref p3, .non, .ref p4, .ref p5]) := ⟨_, rfl, same_new h6 _, upd_same⟩
    rw [← g6]
    clear g6
    refine ⟨by decide, fun p7 h7 => ?_⟩
    obtain ⟨G7, g7, S7, T7⟩ := fresh_tup (K := K) h7 [.str (txt k.1), .str (txt k.2), .bl true]
    rw [← g7]
    clear g7
    refine ⟨by decide, fun p8 h8 => ?_⟩
    obtain ⟨G8, g8, S8, T8⟩ := fresh_tup (K := K) h8 [.str (txt k.1), .str (txt k.2), .str "1"]
    rw [← g8]
    clear g8
    refine ⟨by decide, fun p9 h9 => ?_⟩
    obtain ⟨G9, g9, S9, T9⟩ := fresh_tup (K := K) h9 [.str (txt ds), .str (txt k.2), .int 2]
    rw [← g9]
    clear g9
    refine ⟨by decide, fun p10 h10 => ?_⟩
    obtain ⟨G10, g10, S10, T10⟩ := fresh_tup (K := K) h10 [.str "", .str (txt k.2), .int 2]
    rw [← g10]
    clear g10
    refine ⟨by decide, fun p11 h11 => ?_⟩
    obtain ⟨G11, g11, S11, T11⟩ := fresh_tup (K := K) h11 [.str (txt k.1), .int 4, .int 2]
    rw [← g11]
    clear g11
    refine ⟨by decide, fun p12 h12 => ?_⟩
    obtain ⟨G12, g12, S12, T12⟩ : ∃ G12, G12 = upd G11 p12 (.lst [.ref p7, .ref p8, .ref p9, .ref tu, .ref p10, .ref p11]) ∧ Same G11 G12 ∧ G12 p12 = some (.lst [.ref p7, .ref p8, .ref p9, .ref tu, .ref p10, .ref p11]) := ⟨_, rfl, same_new h12 _, upd_same⟩
    rw [← g12]
    clear g12
    refine ⟨_, _, _, _, rfl, rfl, (S7.trans (S8.trans (S9.trans (S10.trans (S11.trans (S12)))))) _ _ T6, T12, ?_, fun p13 h13 => ?_⟩
    · exact Nat.le_trans (m := 64) (by simp) (by decide)
    obtain ⟨G13, g13, S13, T13⟩ : ∃ G13, G13 = upd G12 p13 (.lst ([.ref p1, .ref p2, .ref p3, .non, .ref p4, .ref p5] ++ [.ref p7, .ref p8, .ref p9, .ref tu, .ref p10, .ref p11])) ∧ Same G12 G13 ∧ G13 p13 = some (.lst ([.ref p1, .ref p2, .ref p3, .non, .ref p4, .ref p5] ++ [.ref p7, .ref p8, .ref p9, .ref tu, .ref p10, .ref p11])) := ⟨_, rfl, same_new h13 _, upd_same⟩
    rw [← g13]
    clear g13
    refine ⟨by decide, fun p14 h14 => ?_⟩
    obtain ⟨G14, g14, S14, T14⟩ := fresh_tup (K := K) h14 [.str (txt k.1), .str (txt k.2), .non]
    rw [← g14]
    clear g14
    refine ⟨by decide, fun p15 h15 => ?_⟩
    obtain ⟨G15, g15, S15, T15⟩ := fresh_lst (K := K) h15 [.int 2]
    rw [← g15]
    clear g15
    refine ⟨by decide, fun p16 h16 => ?_⟩
    obtain ⟨G16, g16, S16, T16⟩ := fresh_tup (K := K) h16 [.str (txt k.1), .str (txt k.2), .ref p15]
    rw [← g16]
    clear g16
    refine ⟨by decide, fun p17 h17 => ?_⟩
    obtain ⟨G17, g17, S17, T17⟩ := fresh_lst (K := K) h17 [.str (txt k.1)]
    rw [← g17]
    clear g17
    refine ⟨by decide, fun p18 h18 => ?_⟩
    obtain ⟨G18, g18, S18, T18⟩ := fresh_tup (K := K) h18 [.ref p17, .str (txt k.2), .int 2]
    rw [← g18]
    clear g18
    refine ⟨by decide, fun p19 h19 => ?_⟩
    obtain ⟨G19, g19, S19, T19⟩ := fresh_lst (K := K) h19 [.str (txt k.2)]
    rw [← g19]
    clear g19
    refine ⟨by decide, fun p20 h20 => ?_⟩
    obtain ⟨G20, g20, S20, T20⟩ := fresh_tup (K := K) h20 [.str (txt k.1), .ref p19, .int 2]
    rw [← g20]
    clear g20
    refine ⟨by decide, fun p21 h21 => ?_⟩
    obtain ⟨G21, g21, S21, T21⟩ : ∃ G21, G21 = upd G20 p21 (.lst [.ref p14, .ref p16, .ref p18, .ref p20]) ∧ Same G20 G21 ∧ G21 p21 = some (.lst [.ref p14, .ref p16, .ref p18, .ref p20]) := ⟨_, rfl, same_new h21 _, upd_same⟩
    rw [← g21]
    clear g21
    refine ⟨_, _, _, _, rfl, rfl, (S14.trans (S15.trans (S16.trans (S17.trans (S18.trans (S19.trans (S20.trans (S21)))))))) _ _ T13, T21, ?_, fun p22 h22 => ?_⟩
    · exact Nat.le_trans (m := 64) (by simp) (by decide)
    obtain ⟨G22, g22, S22, T22⟩ : ∃ G22, G22 = upd G21 p22 (.lst ([.ref p1, .ref p2, .ref p3, .non, .ref p4, .ref p5] ++ [.ref p7, .ref p8, .ref p9, .ref tu, .ref p10, .ref p11] ++ [.ref p14, .ref p16, .ref p18, .ref p20])) ∧ Same G21 G22 ∧ G22 p22 = some (.lst ([.ref p1, .ref p2, .ref p3, .non, .ref p4, .ref p5] ++ [.ref p7, .ref p8, .ref p9, .ref tu, .ref p10, .ref p11] ++ [.ref p14, .ref p16, .ref p18, .ref p20])) := ⟨_, rfl, same_new h22 _, upd_same⟩
    rw [← g22]
    clear g22
    have O1 : Odd K G22 ks (.ref p1) := Odd.same (H := G1) (.inl (.len T1 (by simp))) (S2.trans (S3.trans (S4.trans (S5.trans (S6.trans (S7.trans (S8.trans (S9.trans (S10.trans (S11.trans (S12.trans (S13.trans (S14.trans (S15.trans (S16.trans (S17.trans (S18.trans (S19.trans (S20.trans (S21.trans (S22)))))))))))))))))))))
    have O2 : Odd K G22 ks (.ref p2) := Odd.same (H := G2) (.inl (.len T2 (by simp))) (S3.trans (S4.trans (S5.trans (S6.trans (S7.trans (S8.trans (S9.trans (S10.trans (S11.trans (S12.trans (S13.trans (S14.trans (S15.trans (S16.trans (S17.trans (S18.trans (S19.trans (S20.trans (S21.trans (S22))))))))))))))))))))
    have O3 : Odd K G22 ks (.ref p3) := Odd.same (H := G3) (.inl (.no (Kd.lst T3) (by decide))) (S4.trans (S5.trans (S6.trans (S7.trans (S8.trans (S9.trans (S10.trans (S11.trans (S12.trans (S13.trans (S14.trans (S15.trans (S16.trans (S17.trans (S18.trans (S19.trans (S20.trans (S21.trans (S22)))))))))))))))))))
    have O4 : Odd K G22 ks (.ref p4) := Odd.same (H := G4) (odd3 T4 (name_v okK.1) (name_v okK.2) (show Kd K _ (.int 0) .int from rfl) rfl) (S5.trans (S6.trans (S7.trans (S8.trans (S9.trans (S10.trans (S11.trans (S12.trans (S13.trans (S14.trans (S15.trans (S16.trans (S17.trans (S18.trans (S19.trans (S20.trans (S21.trans (S22))))))))))))))))))
    have O5 : Odd K G22 ks (.ref p5) := Odd.same (H := G5) (odd3 T5 (name_v okK.1) (name_v okK.2) (show Kd K _ (.int _) .int from rfl) neg9) (S6.trans (S7.trans (S8.trans (S9.trans (S10.trans (S11.trans (S12.trans (S13.trans (S14.trans (S15.trans (S16.trans (S17.trans (S18.trans (S19.trans (S20.trans (S21.trans (S22)))))))))))))))))
    have O7 : Odd K G22 ks (.ref p7) := Odd.same (H := G7) (odd3 T7 (name_v okK.1) (name_v okK.2) (show Kd K _ (.bl true) .bl from rfl) rfl) (S8.trans (S9.trans (S10.trans (S11.trans (S12.trans (S13.trans (S14.trans (S15.trans (S16.trans (S17.trans (S18.trans (S19.trans (S20.trans (S21.trans (S22)))))))))))))))
    have O8 : Odd K G22 ks (.ref p8) := Odd.same (H := G8) (odd3 T8 (name_v okK.1) (name_v okK.2) (show Kd K _ (.str "1") .str from rfl) rfl) (S9.trans (S10.trans (S11.trans (S12.trans (S13.trans (S14.trans (S15.trans (S16.trans (S17.trans (S18.trans (S19.trans (S20.trans (S21.trans (S22))))))))))))))
    have O9 : Odd K G22 ks (.ref p9) := Odd.same (H := G9) (odd8 T9 ok1 ok2 okK.2 ok3) (S10.trans (S11.trans (S12.trans (S13.trans (S14.trans (S15.trans (S16.trans (S17.trans (S18.trans (S19.trans (S20.trans (S21.trans (S22)))))))))))))
    have O10 : Odd K G22 ks (.ref p10) := Odd.same (H := G10) (odd3 T10 name_e (name_v okK.2) (show Kd K _ (.int 2) .int from rfl) rfl) (S11.trans (S12.trans (S13.trans (S14.trans (S15.trans (S16.trans (S17.trans (S18.trans (S19.trans (S20.trans (S21.trans (S22))))))))))))
    have O11 : Odd K G22 ks (.ref p11) := Odd.same (H := G11) (odd3 T11 (name_v okK.1) (.no (show Kd K _ (.int 4) .int from rfl) (by decide)) (show Kd K _ (.int 2) .int from rfl) rfl) (S12.trans (S13.trans (S14.trans (S15.trans (S16.trans (S17.trans (S18.trans (S19.trans (S20.trans (S21.trans (S22)))))))))))
    have O14 : Odd K G22 ks (.ref p14) := Odd.same (H := G14) (odd3 T14 (name_v okK.1) (name_v okK.2) (show Kd K _ .non .non from rfl) rfl) (S15.trans (S16.trans (S17.trans (S18.trans (S19.trans (S20.trans (S21.trans (S22))))))))
    have O16 : Odd K G22 ks (.ref p16) := Odd.same (H := G16) (odd3 T16 (name_v okK.1) (name_v okK.2) (Kd.lst (S16.seq T15)) rfl) (S17.trans (S18.trans (S19.trans (S20.trans (S21.trans (S22))))))
    have O18 : Odd K G22 ks (.ref p18) := Odd.same (H := G18) (odd3 T18 (.no (Kd.lst (S18.seq T17)) (by decide)) (name_v okK.2) (show Kd K _ (.int 2) .int from rfl) rfl) (S19.trans (S20.trans (S21.trans (S22))))
    have O20 : Odd K G22 ks (.ref p20) := Odd.same (H := G20) (odd3 T20 (name_v okK.1) (.no (Kd.lst (S20.seq T19)) (by decide)) (show Kd K _ (.int 2) .int from rfl) rfl) (S21.trans (S22))
    have On : Odd K G22 ks .non := .inl (.no (show Kd K _ .non .non from rfl) (by decide))
    have Ot : Odd K G22 ks (.ref tu) := Odd.same OT (S1.trans (S2.trans (S3.trans (S4.trans (S5.trans (S6.trans (S7.trans (S8.trans (S9.trans (S10.trans (S11.trans (S12.trans (S13.trans (S14.trans (S15.trans (S16.trans (S17.trans (S18.trans (S19.trans (S20.trans (S21.trans (S22))))))))))))))))))))))
    have all : ∀ v ∈ [.ref p1, .ref p2, .ref p3, .non, .ref p4, .ref p5, .ref p7, .ref p8, .ref p9, .ref tu, .ref p10, .ref p11, .ref p14, .ref p16, .ref p18, .ref p20], Odd K G22 ks v := by
      simp only [List.forall_mem_cons]
      exact ⟨O1, O2, O3, On, O4, O5, O7, O8, O9, Ot, O10, O11, O14, O16, O18, O20, fun _ h => by cases h⟩
    have U : Same H G22 := S0.trans (S1.trans (S2.trans (S3.trans (S4.trans (S5.trans (S6.trans (S7.trans (S8.trans (S9.trans (S10.trans (S11.trans (S12.trans (S13.trans (S14.trans (S15.trans (S16.trans (S17.trans (S18.trans (S19.trans (S20.trans (S21.trans (S22))))))))))))))))))))))
    refine ⟨cdiv (by decide) (by decide), by decide, _, rfl, _, SqL.of T22, ?_⟩
    have i0 := Int.emod_nonneg (c / 12) (show (16 : Int) ≠ 0 by decide)
    have i1 := Int.emod_lt_of_pos (c / 12) (show (0 : Int) < 16 by decide)
    obtain ⟨i, hi⟩ : ∃ i : Nat, c / 12 % 16 = i := ⟨(c / 12 % 16).toNat, by omega⟩
    obtain ⟨v, hv⟩ : ∃ v, ([.ref p1, .ref p2, .ref p3, .non, .ref p4, .ref p5, .ref p7, .ref p8, .ref p9, .ref tu, .ref p10, .ref p11, .ref p14, .ref p16, .ref p18, .ref p20] : List V)[i]? = some v := ⟨_, List.getElem?_eq_getElem (by show i < 16; omega)⟩
    exact ⟨v, by rw [hi]; exact atI_nat hv, q _ _ U (all v (List.mem_of_getElem? hv))⟩
  by_cases hin : (cs, k.2) ∈ ks
  · rw [decide_eq_true hin, if_pos rfl]
    refine ⟨113, rfl, 9, rfl, by decide, by decide, ?_⟩
    refine ⟨by decide, fun t2 ht2 => ?_⟩
    obtain ⟨H2, g2, S2, T2⟩ := fresh_tup (K := K) ht2 (pRow ((k.2, k.1), 3))
    have g2' : H2 = upd H1 t2 (.tup [V.str (txt k.2), V.str (txt k.1), V.int 3]) := g2
    rw [← g2']
    clear g2 g2'
    refine ⟨by decide, fun t3 ht3 => ?_⟩
    obtain ⟨H3, g3, S3, T3⟩ := fresh_tup (K := K) ht3 (kRow (k.2, k.1))
    have g3' : H3 = upd H2 t3 (.tup [V.str (txt k.2), V.str (txt k.1)]) := g3
    rw [← g3']
    clear g3 g3'
    have S03 := S1.trans (S2.trans S3)
    refine rInD_kind T3 ⟨okK.2, okK.1⟩ (S03.seq LK) (KA.same S03) okk ⟨_, rfl, ?_⟩
    rw [if_neg Bool.false_ne_true]
    by_cases hin2 : (k.2, k.1) ∈ ks
    · rw [decide_eq_true hin2, if_pos rfl]
      refine ⟨by decide, fun t4 ht4 => ?_⟩
      obtain ⟨H4, g4, S4, T4⟩ := fresh_tup (K := K) ht4 [V.str (txt k.2), V.str (txt k.1), V.int 0]
      rw [← g4]
      clear g4
      exact TL _ _ _ (S03.trans S4) ⟨by decide, by decide, fun h => absurd h (by decide)⟩ (odd3 T4 (name_v okK.2) (name_v okK.1) (show Kd K _ (.int 0) .int from rfl) rfl)
    · rw [decide_eq_false hin2, if_neg (by decide)]
      exact TL _ _ _ S03 ⟨by decide, by decide, fun h => absurd h (by decide)⟩ (.inr ⟨_, ((k.2, k.1), 3), rfl, Same.tup S3 T2, ⟨okK.2, okK.1⟩, show (1 : Int) ≤ 3 by decide, show (3 : Int) ≤ 3 by decide, hin2⟩)
  · rw [decide_eq_false hin, if_neg (by decide)]
    refine ⟨by decide, fun t2 ht2 => ?_⟩
    obtain ⟨H2, g2, S2, T2⟩ := fresh_tup (K := K) ht2 (pRow ((k.2, k.1), 3))
    have g2' : H2 = upd H1 t2 (.tup [V.str (txt k.2), V.str (txt k.1), V.int 3]) := g2
    rw [← g2']
    clear g2 g2'
    refine ⟨by decide, fun t3 ht3 => ?_⟩
    obtain ⟨H3, g3, S3, T3⟩ := fresh_tup (K := K) ht3 (kRow (k.2, k.1))
    have g3' : H3 = upd H2 t3 (.tup [V.str (txt k.2), V.str (txt k.1)]) := g3
    rw [← g3']
    clear g3 g3'
    have S03 := S1.trans (S2.trans S3)
    refine rInD_kind T3 ⟨okK.2, okK.1⟩ (S03.seq LK) (KA.same S03) okk ⟨_, rfl, ?_⟩
    rw [if_neg Bool.false_ne_true]
    by_cases hin2 : (k.2, k.1) ∈ ks
    · rw [decide_eq_true hin2, if_pos rfl]
      refine ⟨by decide, fun t4 ht4 => ?_⟩
      obtain ⟨H4, g4, S4, T4⟩ := fresh_tup (K := K) ht4 [V.str (txt k.2), V.str (txt k.1), V.int 0]
      rw [← g4]
      clear g4
      exact TL _ _ _ (S03.trans S4) ⟨(name_asc nst).1, Nat.le_trans (name_asc nst).2 (by decide), fun _ => hin⟩ (odd3 T4 (name_v okK.2) (name_v okK.1) (show Kd K _ (.int 0) .int from rfl) rfl)
    · rw [decide_eq_false hin2, if_neg (by decide)]
      exact TL _ _ _ S03 ⟨(name_asc nst).1, Nat.le_trans (name_asc nst).2 (by decide), fun _ => hin⟩ (.inr ⟨_, ((k.2, k.1), 3), rfl, Same.tup S3 T2, ⟨okK.2, okK.1⟩, show (1 : Int) ≤ 3 by decide, show (3 : Int) ≤ 3 by decide, hin2⟩)
end

section
variable {P : Program} {w : World} {K : PySem.W.Frag} {mg : Str → Option Value} {base : Heap} {f : Addr} {fd : FuncData}
def spRef9 (K : PySem.W.Frag) : Sp := fun vs H Q _ => ∃ (kl : Addr) (kx : List V) (ks : List Kd2) (v : V), vs = [.ref kl, v] ∧ SqL K H kl kx ∧ KnA K H kx ks ∧ (∀ k ∈ ks, okKind k) ∧ ks.length ≤ 4 ∧
  (PartsV K H v false ∨ ∃ (pl : Addr) (xs : List V) (ps : List Pt), v = .ref pl ∧ SqL K H pl xs ∧ PrtAll K H xs ps ∧ 1 ≤ xs.length ∧ xs.length ≤ 40 ∧ (ps.map (·.2)).sum ≤ 10 ^ 15 ∧ ¬∀ p ∈ ps, p.1 ∈ ks) ∧ ∀ H', Same H H' → Q (.bl true) H'
def spTaken (K : PySem.W.Frag) : Sp := fun vs H Q _ => ∃ (kl : Addr) (kx : List V) (ks : List Kd2) (pl : Addr) (xs : List V) (ps : List Pt), vs = [.ref kl, .ref pl] ∧ SqL K H kl kx ∧ KnA K H kx ks ∧ (∀ k ∈ ks, okKind k) ∧ ks.length ≤ 4 ∧ SqL K H pl xs ∧ PrtAll K H xs ps ∧ 1 ≤ xs.length ∧ xs.length ≤ 40 ∧ (ps.map (·.2)).sum ≤ 10 ^ 15 ∧ (∀ p ∈ ps, p.1 ∈ ks) ∧ ∀ H', Same H H' → Q (.bl true) H'
theorem ok_law_refused {c_NoGoods c_NoBands c_NoDeed c_NoEntry c_NoKinds c_NoLot c_NoNote c_NoNumber c_NoQuota c_NoRate c_NoRow c_NoRule c_NoTree : Addr} (F : Fun K "_law_refused" "_law_refused" s_law_refused f fd) (M : Mg mg) (C_folded : Cal P w K mg base (CXE P w) "folded" 5 ["kinds", "parts"] (spFolded K c_NoGoods))
    (A_NoBands : mg "NoBands" = some (.ref c_NoBands)) (A_NoDeed : mg "NoDeed" = some (.ref c_NoDeed)) (A_NoEntry : mg "NoEntry" = some (.ref c_NoEntry)) (A_NoKinds : mg "NoKinds" = some (.ref c_NoKinds)) (A_NoLot : mg "NoLot" = some (.ref c_NoLot)) (A_NoNote : mg "NoNote" = some (.ref c_NoNote)) (A_NoNumber : mg "NoNumber" = some (.ref c_NoNumber)) (A_NoQuota : mg "NoQuota" = some (.ref c_NoQuota)) (A_NoRate : mg "NoRate" = some (.ref c_NoRate)) (A_NoRow : mg "NoRow" = some (.ref c_NoRow)) (A_NoRule : mg "NoRule" = some (.ref c_NoRule)) (A_NoTree : mg "NoTree" = some (.ref c_NoTree))
    (X_NoGoods : XCatch K mg "NoGoods" c_NoGoods) (K_N : XCls K c_NoGoods) (sub : PySem.W.subIn K (.ref c_NoGoods) (.ref c_NoGoods) = some true) (q2 : PySem.W.kitOne K (.ref c_NoGoods) (.type "ValueError") = some true)
    (g1 : PySem.W.kitAny K (.ref c_NoGoods) ([c_NoBands, c_NoDeed, c_NoEntry, c_NoKinds, c_NoLot, c_NoNote, c_NoNumber, c_NoQuota].map Value.ref) = some false) (g2 : PySem.W.kitAny K (.ref c_NoGoods) ([c_NoRate, c_NoRow, c_NoRule, c_NoTree].map Value.ref) = some false) :
    FnOk P w K mg base CX0 6 f fd ["_law_kinds_here", "_law_parts_here"] (spRef9 K) := by
  refine F.ok sc_law_refused (fun vs H Q E h => ?_) (fun cdv A outer s H vs Q E hr h => ?_)
  · obtain ⟨kl, kx, ks, v, rfl, _⟩ := h
    rfl
  obtain ⟨kl, kx, ks, v, rfl, LK, KA, okk, l4, B, q⟩ := h
  refine ⟨_, (@pss_cons _ _ _ _ _ (@ps_try _ _ _ _ _ _ 2 _ _ _ _ _ _ _ _ _ _ _ _ _ _ _ rfl rfl rfl rfl C_folded hr g_law_refused_folded (@pa_cons _ _ _ _ _ (@pe_var _ 0 _ _ rfl v_law_refused_0 dn__law_kinds_here dc__law_kinds_here) (@pa_cons _ _ _ _ _ (@pe_var _ 1 _ _ rfl v_law_refused_1 dn__law_parts_here dc__law_parts_here) (@pa_nil _) (star1 rfl)) (star1 rfl)) g_law_refused_NoGoods X_NoGoods sc_law_refused.nd rfl rfl rfl (fun _ => (@pss_cons _ _ _ _ _ (@ps_if _ _ _ _ _ _ _ _ (@pt_val _ _ _ (@pe_callB _ _ _ _ _ _ _ _ _ (call_isiX (K := K) rfl) g_law_refused_isinstance M.m_isinstance b_isinstance (@pa_cons _ _ _ _ _ (@pe_var _ 2 _ _ rfl v_law_refused_2 dn_e dc_e) (@pa_cons _ _ _ _ _ (@pe_tup _ _ _ _ _ (@pa_cons _ _ _ _ _ (@pe_glob _ _ _ _ _ g_law_refused_NoBands A_NoBands (show RelV (.ref c_NoBands) _ from rfl) dn_NoBands) (@pa_cons _ _ _ _ _ (@pe_glob _ _ _ _ _ g_law_refused_NoDeed A_NoDeed (show RelV (.ref c_NoDeed) _ from rfl) dn_NoDeed) (@pa_cons _ _ _ _ _ (@pe_glob _ _ _ _ _ g_law_refused_NoEntry A_NoEntry (show RelV (.ref c_NoEntry) _ from rfl) dn_NoEntry) (@pa_cons _ _ _ _ _ (@pe_glob _ _ _ _ _ g_law_refused_NoKinds A_NoKinds (show RelV (.ref c_NoKinds) _ from rfl) dn_NoKinds) (@pa_cons _ _ _ _ _ (@pe_glob _ _ _ _ _ g_law_refused_NoLot A_NoLot (show RelV (.ref c_NoLot) _ from rfl) dn_NoLot) (@pa_cons _ _ _ _ _ (@pe_glob _ _ _ _ _ g_law_refused_NoNote A_NoNote (show RelV (.ref c_NoNote) _ from rfl) dn_NoNote) (@pa_cons _ _ _ _ _ (@pe_glob _ _ _ _ _ g_law_refused_NoNumber A_NoNumber (show RelV (.ref c_NoNumber) _ from rfl) dn_NoNumber) (@pa_cons _ _ _ _ _ (@pe_glob _ _ _ _ _ g_law_refused_NoQuota A_NoQuota (show RelV (.ref c_NoQuota) _ from rfl) dn_NoQuota) (@pa_nil _) (star1 rfl)) (star1 rfl)) (star1 rfl)) (star1 rfl)) (star1 rfl)) (star1 rfl)) (star1 rfl)) (star1 rfl))) (@pa_nil _) (star1 rfl)) (star1 rfl)) nn_isinstance dn_isinstance (star1 rfl) (nost1 rfl nost0)) (test1 rfl)) (@pss_one _ _ _ (@ps_ret _ _ _ _ (@pe_bl _ _ _ _))) (@pss_nil _)) (@pss_one _ _ _ (@ps_ret _ _ _ _ (@pe_and _ _ _ _ _ _ _ (@pe_callB _ _ _ _ _ _ _ _ _ (call_isiX (K := K) rfl) g_law_refused_isinstance M.m_isinstance b_isinstance (@pa_cons _ _ _ _ _ (@pe_var _ 2 _ _ rfl v_law_refused_2 dn_e dc_e) (@pa_cons _ _ _ _ _ (@pe_bltn _ _ (.ty "ValueError") _ _ g_law_refused_ValueError M.m_ValueError b_ValueError rfl nn_ValueError dn_ValueError) (@pa_nil _) (star1 rfl)) (star1 rfl)) nn_isinstance dn_isinstance (star1 rfl) (nost1 rfl nost0)) (@pe_one _ _ _ _ _ (@pe_not _ _ _ _ (@pe_callB _ _ _ _ _ _ _ _ _ (call_isiX (K := K) rfl) g_law_refused_isinstance M.m_isinstance b_isinstance (@pa_cons _ _ _ _ _ (@pe_var _ 2 _ _ rfl v_law_refused_2 dn_e dc_e) (@pa_cons _ _ _ _ _ (@pe_tup _ _ _ _ _ (@pa_cons _ _ _ _ _ (@pe_glob _ _ _ _ _ g_law_refused_NoRate A_NoRate (show RelV (.ref c_NoRate) _ from rfl) dn_NoRate) (@pa_cons _ _ _ _ _ (@pe_glob _ _ _ _ _ g_law_refused_NoRow A_NoRow (show RelV (.ref c_NoRow) _ from rfl) dn_NoRow) (@pa_cons _ _ _ _ _ (@pe_glob _ _ _ _ _ g_law_refused_NoRule A_NoRule (show RelV (.ref c_NoRule) _ from rfl) dn_NoRule) (@pa_cons _ _ _ _ _ (@pe_glob _ _ _ _ _ g_law_refused_NoTree A_NoTree (show RelV (.ref c_NoTree) _ from rfl) dn_NoTree) (@pa_nil _) (star1 rfl)) (star1 rfl)) (star1 rfl)) (star1 rfl))) (@pa_nil _) (star1 rfl)) (star1 rfl)) nn_isinstance dn_isinstance (star1 rfl) (nost1 rfl nost0))))))))) (by decide) dn_folded dn_NoGoods (star1 rfl) (nost1 rfl nost0) (swap1 rfl)) (@pss_one _ _ _ (@ps_ret _ _ _ _ (@pe_bl _ _ _ _)))), ?_⟩
  simp only [tTryN, rSlS, rMulS, rCatS, iZipL, rInsert, rReverse, tDNewX, tTry, tRaise, iEnumL, iEnumT, iZip, iSeq, iOr, rIx, iStr, rLeS, rJoin, rSlTA, tComp_eq, tComp1, slots, Option.getD_some, Option.getD_none, tYes, tSeq, tAsg, gName, tOp, tUn, tC, tVar, tCB, tCons, tNil, tCall, rI, rI0, rU, tRet, tRetN, tIfS, tTest, tB, tAnd, tOr, tNot, tAndV, tOrV, tNotV, tIf, tChain, tMenu, tPar, tDrop, tTup, tLst, tNext, tSl, tPart, tNoPart, tNever, gTup, gCons, gNil, gSub, rSetL, tBM, rAppend, rEq, rNe, rIsi, rIxL, rIxT, rIxS, rSlL, isi_non_bl, isi_non_int, isi_non_str, isi_non_lst, isi_non_tup, isi_bl_bl, isi_bl_int, isi_bl_str, isi_bl_lst, isi_bl_tup, isi_int_bl, isi_int_int, isi_int_str, isi_int_lst, isi_int_tup, isi_str_bl, isi_str_int, isi_str_str, isi_str_lst, isi_str_tup, isi_lst_bl, isi_lst_int, isi_lst_str, isi_lst_lst, isi_lst_tup, isi_tup_bl, isi_tup_int, isi_tup_str, isi_tup_lst, isi_tup_tup, isi_dct_bl, isi_dct_int, isi_dct_str, isi_dct_lst, isi_dct_tup, Kd_non, Kd_bl, Kd_int, Kd_str, sc_non_non, sc_non_int, sc_int_non, sc_non_bl, sc_bl_non, sc_non_str, sc_str_non, sc_int_int, sc_bl_bl, sc_str_str, sc_int_str, sc_str_int, sc_bl_str, sc_str_bl, decide_true, decide_false, tFor_eq, iList, iTup, iRng1, iRng2, iRng3, rIndexT, tBM0, tBMT, tyK_int, tyK_bool, tyK_str, tyK_list, tyK_tuple, L2.start, cxK, Int.reduceToNat, List.map_cons, List.map_nil, List.length_cons, List.length_nil, Nat.reduceAdd, Nat.reduceSub, Nat.zero_add, List.replicate_succ, List.replicate_zero, List.cons_append, List.nil_append, List.append_nil, List.getElem?_cons_zero, List.getElem?_cons_succ, List.set_cons_zero, List.set_cons_succ, Option.some.injEq, V.int.injEq, V.bl.injEq, V.ref.injEq, V.str.injEq, V.ty.injEq, List.cons.injEq, exists_eq_left', exists_eq_left, exists_eq_right, exists_and_left, exists_and_right, and_true, true_and, and_assoc, exists_const, decide_eq_true_eq, Bool.not_eq_true', Bool.not_true, Bool.not_false, Bool.not_not, decide_eq_false_iff_not, ite_not, Bool.false_eq_true, if_true, if_false, reduceCtorEq, and_false, false_and, exists_false, or_false, false_or, ↓reduceIte, eq_self, reduceIte]
  refine ⟨kl, kx, ks, v, rfl, LK, KA, okk, l4, ?_⟩
  rcases B with B | ⟨pl, xs, ps, rfl, L, PA, l1, l40, sm, nall⟩
  · refine .inl ⟨B, fun H' e => ⟨_, rfl, sub, fun a ha => ?_⟩⟩
    have hx : upd H' a (excO a c_NoGoods) a = some (excO a c_NoGoods) := upd_same
    refine ⟨by decide, fun p hp => isiX_tup ((same_new hp _) _ _ hx) K_N upd_same g1 ⟨_, rfl, ?_⟩⟩
    rw [if_neg (by decide)]
    refine isiX_ty ((same_new hp _) _ _ hx) K_N q2 ⟨_, rfl, ?_⟩
    rw [if_pos rfl]
    exact ⟨by decide, fun p2 hp2 => isiX_tup ((same_new hp2 _) _ _ ((same_new hp _) _ _ hx)) K_N upd_same g2 ⟨_, rfl, q _ (e.trans ((same_new ha _).trans ((same_new hp _).trans (same_new hp2 _))))⟩⟩
  · refine .inr ⟨pl, xs, ps, rfl, L, PA, l1, l40, sm, fun h => absurd h nall, fun _ H' e => ⟨_, rfl, sub, fun a ha => ?_⟩⟩
    have hx : upd H' a (excO a c_NoGoods) a = some (excO a c_NoGoods) := upd_same
    refine ⟨by decide, fun p hp => isiX_tup ((same_new hp _) _ _ hx) K_N upd_same g1 ⟨_, rfl, ?_⟩⟩
    rw [if_neg (by decide)]
    refine isiX_ty ((same_new hp _) _ _ hx) K_N q2 ⟨_, rfl, ?_⟩
    rw [if_pos rfl]
    exact ⟨by decide, fun p2 hp2 => isiX_tup ((same_new hp2 _) _ _ ((same_new hp _) _ _ hx)) K_N upd_same g2 ⟨_, rfl, q _ (e.trans ((same_new ha _).trans ((same_new hp _).trans (same_new hp2 _))))⟩⟩
theorem ok_law_refused_by_any {c_NoGoods c_TariffError : Addr} (F : Fun K "_law_refused_by_any" "_law_refused_by_any" s_law_refused_by_any f fd) (M : Mg mg) (C_folded : Cal P w K mg base (CXE P w) "folded" 5 ["kinds", "parts"] (spFolded K c_NoGoods))
    (X_TariffError : XCatch K mg "TariffError" c_TariffError) (sub : PySem.W.subIn K (.ref c_NoGoods) (.ref c_TariffError) = some true) :
    FnOk P w K mg base CX0 6 f fd ["_law_kinds_here", "_law_parts_here"] (spRef9 K) := by
  refine F.ok sc_law_refused_by_any (fun vs H Q E h => ?_) (fun cdv A outer s H vs Q E hr h => ?_)
  · obtain ⟨kl, kx, ks, v, rfl, _⟩ := h
    rfl
  obtain ⟨kl, kx, ks, v, rfl, LK, KA, okk, l4, B, q⟩ := h
  refine ⟨_, (@pss_cons _ _ _ _ _ (@ps_tryN _ _ _ _ _ _ _ _ _ _ _ _ _ _ _ _ _ _ _ _ rfl rfl rfl rfl C_folded hr g_law_refused_by_any_folded (@pa_cons _ _ _ _ _ (@pe_var _ 0 _ _ rfl v_law_refused_by_any_0 dn__law_kinds_here dc__law_kinds_here) (@pa_cons _ _ _ _ _ (@pe_var _ 1 _ _ rfl v_law_refused_by_any_1 dn__law_parts_here dc__law_parts_here) (@pa_nil _) (star1 rfl)) (star1 rfl)) g_law_refused_by_any_TariffError X_TariffError rfl (fun _ => (@pss_one _ _ _ (@ps_ret _ _ _ _ (@pe_bl _ _ _ _)))) (by decide) dn_folded dn_TariffError (star1 rfl) (nost1 rfl nost0) (swap1 rfl)) (@pss_one _ _ _ (@ps_ret _ _ _ _ (@pe_bl _ _ _ _)))), ?_⟩
  simp only [tTryN, rSlS, rMulS, rCatS, iZipL, rInsert, rReverse, tDNewX, tTry, tRaise, iEnumL, iEnumT, iZip, iSeq, iOr, rIx, iStr, rLeS, rJoin, rSlTA, tComp_eq, tComp1, slots, Option.getD_some, Option.getD_none, tYes, tSeq, tAsg, gName, tOp, tUn, tC, tVar, tCB, tCons, tNil, tCall, rI, rI0, rU, tRet, tRetN, tIfS, tTest, tB, tAnd, tOr, tNot, tAndV, tOrV, tNotV, tIf, tChain, tMenu, tPar, tDrop, tTup, tLst, tNext, tSl, tPart, tNoPart, tNever, gTup, gCons, gNil, gSub, rSetL, tBM, rAppend, rEq, rNe, rIsi, rIxL, rIxT, rIxS, rSlL, isi_non_bl, isi_non_int, isi_non_str, isi_non_lst, isi_non_tup, isi_bl_bl, isi_bl_int, isi_bl_str, isi_bl_lst, isi_bl_tup, isi_int_bl, isi_int_int, isi_int_str, isi_int_lst, isi_int_tup, isi_str_bl, isi_str_int, isi_str_str, isi_str_lst, isi_str_tup, isi_lst_bl, isi_lst_int, isi_lst_str, isi_lst_lst, isi_lst_tup, isi_tup_bl, isi_tup_int, isi_tup_str, isi_tup_lst, isi_tup_tup, isi_dct_bl, isi_dct_int, isi_dct_str, isi_dct_lst, isi_dct_tup, Kd_non, Kd_bl, Kd_int, Kd_str, sc_non_non, sc_non_int, sc_int_non, sc_non_bl, sc_bl_non, sc_non_str, sc_str_non, sc_int_int, sc_bl_bl, sc_str_str, sc_int_str, sc_str_int, sc_bl_str, sc_str_bl, decide_true, decide_false, tFor_eq, iList, iTup, iRng1, iRng2, iRng3, rIndexT, tBM0, tBMT, tyK_int, tyK_bool, tyK_str, tyK_list, tyK_tuple, L2.start, cxK, Int.reduceToNat, List.map_cons, List.map_nil, List.length_cons, List.length_nil, Nat.reduceAdd, Nat.reduceSub, Nat.zero_add, List.replicate_succ, List.replicate_zero, List.cons_append, List.nil_append, List.append_nil, List.getElem?_cons_zero, List.getElem?_cons_succ, List.set_cons_zero, List.set_cons_succ, Option.some.injEq, V.int.injEq, V.bl.injEq, V.ref.injEq, V.str.injEq, V.ty.injEq, List.cons.injEq, exists_eq_left', exists_eq_left, exists_eq_right, exists_and_left, exists_and_right, and_true, true_and, and_assoc, exists_const, decide_eq_true_eq, Bool.not_eq_true', Bool.not_true, Bool.not_false, Bool.not_not, decide_eq_false_iff_not, ite_not, Bool.false_eq_true, if_true, if_false, reduceCtorEq, and_false, false_and, exists_false, or_false, false_or, ↓reduceIte, eq_self, reduceIte]
  refine ⟨kl, kx, ks, v, rfl, LK, KA, okk, l4, ?_⟩
  rcases B with B | ⟨pl, xs, ps, rfl, L, PA, l1, l40, sm, nall⟩
  · exact .inl ⟨B, fun H' e => ⟨_, rfl, sub, fun a ha => q _ (e.trans (same_new ha _))⟩⟩
  · exact .inr ⟨pl, xs, ps, rfl, L, PA, l1, l40, sm, fun h => absurd h nall, fun _ H' e => ⟨_, rfl, sub, fun a ha => q _ (e.trans (same_new ha _))⟩⟩
theorem ok_law_taken {c_NoGoods : Addr} (F : Fun K "_law_taken" "_law_taken" s_law_taken f fd) (M : Mg mg) (C_folded : Cal P w K mg base (CXE P w) "folded" 5 ["kinds", "parts"] (spFolded K c_NoGoods)) : FnOk P w K mg base CX0 6 f fd ["_law_kinds_here", "_law_parts_here"] (spTaken K) := by
  refine F.ok sc_law_taken (fun vs H Q E h => ?_) (fun cdv A outer s H vs Q E hr h => ?_)
  · obtain ⟨kl, kx, ks, pl, xs, ps, rfl, _⟩ := h
    rfl
  obtain ⟨kl, kx, ks, pl, px, ps, rfl, LK, KA, okk, l4, LP, PA, l1, l40, sm, hin, q⟩ := h
  have lk := KA.length
  have lp := PA.length
  refine ⟨_, (@pss_cons _ _ _ _ _ (@ps_setComp _ _ _ _ _ _ _ _ _ _ _ _ _ _ _ 2 _ _ _ sc_law_taken.nd rfl l_law_taken_2 rfl (CompOk.make (N' := ["_law_kind"]) (ix := []) (nl := 1) (by rfl) fm0 (by rfl) (by decide +kernel) rfl (by decide +kernel) rfl True.intro) (@pi_list _ _ _ _ (@pe_var _ 0 _ _ rfl v_law_taken_0 dn__law_kinds_here dc__law_kinds_here)) (fun _ _ _ _ _ => (@pg_name _ _ 0 _ (show List.Nodup (["_law_kind"] : List Str) from by decide) rfl (Or.inl rfl) (by first | exact .inl rfl | exact .inr rfl | assumption))) (fun _ _ _ _ _ => (@pif_nil _)) (fun _ _ _ _ _ => (@pe_int _ _ _ _)) (by rfl) (by intro _; rfl) (by first | exact .inl rfl | exact .inr rfl | assumption)) (@pss_cons _ _ _ _ _ (@ps_for _ _ _ _ _ _ _ _ PassesOwn.never rfl (@pi_list _ _ _ _ (@pe_var _ 1 _ _ rfl v_law_taken_1 dn__law_parts_here dc__law_parts_here)) (@pg_tup _ _ _ _ _ _ rfl (@pgs_cons _ _ _ _ _ (@pg_name _ _ 3 _ sc_law_taken.nd rfl l_law_taken_3 (.inl rfl)) (@pgs_cons _ _ _ _ _ (@pg_name _ _ 4 _ sc_law_taken.nd rfl l_law_taken_4 (.inl rfl)) (@pgs_cons _ _ _ _ _ (@pg_name _ _ 5 _ sc_law_taken.nd rfl l_law_taken_5 (.inl rfl)) (@pgs_nil _) (by rfl)) (by rfl)) (by rfl)) (by rfl) (by rfl)) (@pss_one _ _ _ (@ps_for _ _ _ _ _ _ _ _ PassesOwn.never rfl (@pi_range1 _ _ _ _ _ _ g_law_taken_range M.m_range (@pa_cons _ _ _ _ _ (@pe_callB _ _ _ _ _ _ _ _ _ call_len_seq g_law_taken_len M.m_len b_len (@pa_cons _ _ _ _ _ (@pe_var _ 0 _ _ rfl v_law_taken_0 dn__law_kinds_here dc__law_kinds_here) (@pa_nil _) (star1 rfl)) nn_len dn_len (star1 rfl) nost0) (@pa_nil _) (star1 rfl)) (star1' rfl)) (@pg_name _ _ 6 _ sc_law_taken.nd rfl l_law_taken_6 (.inl rfl)) (@pss_one _ _ _ (@ps_if _ _ _ _ _ _ _ _ (@pt_cmpR _ _ _ _ _ _ _ _ (op_eqD (hu60 hr)) (@pe_ix _ _ _ _ _ _ _ (@ix_list _) (@pe_var _ 0 _ _ rfl v_law_taken_0 dn__law_kinds_here dc__law_kinds_here) (@pe_var _ 6 _ _ rfl v_law_taken_6 dn__law_k dc__law_k) (fun _ _ => rfl)) (@pe_tup _ _ _ _ _ (@pa_cons _ _ _ _ _ (@pe_var _ 3 _ _ rfl v_law_taken_3 dn__law_stuff dc__law_stuff) (@pa_cons _ _ _ _ _ (@pe_var _ 4 _ _ rfl v_law_taken_4 dn__law_use dc__law_use) (@pa_nil _) (star1 rfl)) (star1 rfl))) (nomark _)) (@pss_one _ _ _ (@ps_asg _ _ _ _ _ _ (@pe_op _ _ _ _ _ _ _ _ (@op_add _) (@pe_ix _ _ _ _ _ _ _ (@ix_list _) (@pe_var _ 2 _ _ rfl v_law_taken_2 dn__law_sums dc__law_sums) (@pe_var _ 6 _ _ rfl v_law_taken_6 dn__law_k dc__law_k) (fun _ _ => rfl)) (@pe_var _ 5 _ _ rfl v_law_taken_5 dn__law_weight dc__law_weight)) (@pg_sub _ _ _ _ _ _ _ (@pe_var _ 2 _ _ rfl v_law_taken_2 dn__law_sums dc__law_sums) (@pe_var _ 6 _ _ rfl v_law_taken_6 dn__law_k dc__law_k) set_list (by intro _; rfl)) (by rfl) (by rfl) (by rfl))) (@pss_nil _))) (by intro _; rfl))) (by intro _; rfl)) (@pss_one _ _ _ (@ps_ret _ _ _ _ (@pe_cmpR _ _ _ _ _ _ _ _ (@op_eqS _ (Nat.lt_of_succ_lt (hu_of hr))) (@pe_callN _ _ _ _ _ _ _ _ _ _ _ C_folded hr g_law_taken_folded (@pa_cons _ _ _ _ _ (@pe_var _ 0 _ _ rfl v_law_taken_0 dn__law_kinds_here dc__law_kinds_here) (@pa_cons _ _ _ _ _ (@pe_var _ 1 _ _ rfl v_law_taken_1 dn__law_parts_here dc__law_parts_here) (@pa_nil _) (star1 rfl)) (star1 rfl)) (by decide) dn_folded (star1 rfl) (nost1 rfl nost0)) (@pe_var _ 2 _ _ rfl v_law_taken_2 dn__law_sums dc__law_sums) (nomark _)))))), ?_⟩
  simp only [tTryN, rSlS, rMulS, rCatS, iZipL, rInsert, rReverse, tDNewX, tTry, tRaise, iEnumL, iEnumT, iZip, iSeq, iOr, rIx, iStr, rLeS, rJoin, rSlTA, tComp_eq, tComp1, slots, Option.getD_some, Option.getD_none, tYes, tSeq, tAsg, gName, tOp, tUn, tC, tVar, tCB, tCons, tNil, tCall, rI, rI0, rU, tRet, tRetN, tIfS, tTest, tB, tAnd, tOr, tNot, tAndV, tOrV, tNotV, tIf, tChain, tMenu, tPar, tDrop, tTup, tLst, tNext, tSl, tPart, tNoPart, tNever, gTup, gCons, gNil, gSub, rSetL, tBM, rAppend, rEq, rNe, rIsi, rIxL, rIxT, rIxS, rSlL, isi_non_bl, isi_non_int, isi_non_str, isi_non_lst, isi_non_tup, isi_bl_bl, isi_bl_int, isi_bl_str, isi_bl_lst, isi_bl_tup, isi_int_bl, isi_int_int, isi_int_str, isi_int_lst, isi_int_tup, isi_str_bl, isi_str_int, isi_str_str, isi_str_lst, isi_str_tup, isi_lst_bl, isi_lst_int, isi_lst_str, isi_lst_lst, isi_lst_tup, isi_tup_bl, isi_tup_int, isi_tup_str, isi_tup_lst, isi_tup_tup, isi_dct_bl, isi_dct_int, isi_dct_str, isi_dct_lst, isi_dct_tup, Kd_non, Kd_bl, Kd_int, Kd_str, sc_non_non, sc_non_int, sc_int_non, sc_non_bl, sc_bl_non, sc_non_str, sc_str_non, sc_int_int, sc_bl_bl, sc_str_str, sc_int_str, sc_str_int, sc_bl_str, sc_str_bl, decide_true, decide_false, tFor_eq, iList, iTup, iRng1, iRng2, iRng3, rIndexT, tBM0, tBMT, tyK_int, tyK_bool, tyK_str, tyK_list, tyK_tuple, L2.start, cxK, Int.reduceToNat, List.map_cons, List.map_nil, List.length_cons, List.length_nil, Nat.reduceAdd, Nat.reduceSub, Nat.zero_add, List.replicate_succ, List.replicate_zero, List.cons_append, List.nil_append, List.append_nil, List.getElem?_cons_zero, List.getElem?_cons_succ, List.set_cons_zero, List.set_cons_succ, Option.some.injEq, V.int.injEq, V.bl.injEq, V.ref.injEq, V.str.injEq, V.ty.injEq, List.cons.injEq, exists_eq_left', exists_eq_left, exists_eq_right, exists_and_left, exists_and_right, and_true, true_and, and_assoc, exists_const, decide_eq_true_eq, Bool.not_eq_true', Bool.not_true, Bool.not_false, Bool.not_not, decide_eq_false_iff_not, ite_not, Bool.false_eq_true, if_true, if_false, reduceCtorEq, and_false, false_and, exists_false, or_false, false_or, ↓reduceIte, eq_self, reduceIte]
  refine ⟨⟨_, LK⟩, fun l hl => ?_⟩
  obtain ⟨Pc, hC⟩ : ∃ Pc : Nat → St → Hp → Prop, Pc = fun i τ H' => ∃ z, H' l = some (.lst ((((ks.take i)).map (wSum [])).map V.int)) ∧ Same H H' ∧ τ = [z] := ⟨_, rfl⟩
  refine compS_list kx Pc ?_ (fun i τ H' _ h => by rw [hC] at h; obtain ⟨z, _, e, _⟩ := h; exact e.seq LK) ?_ ?_
  · rw [hC]
    exact ⟨_, upd_same, same_new hl _, rfl⟩
  · intro i x τ H' R' hx h next
    rw [hC] at h
    obtain ⟨z, d1, d2, rfl⟩ := h
    obtain ⟨p, k, rfl, hk, Tk⟩ := (KA.same d2).at hx
    have li : i < kx.length := (List.getElem?_eq_some_iff.mp hx).1
    simp only [tTryN, rSlS, rMulS, rCatS, iZipL, rInsert, rReverse, tDNewX, tTry, tRaise, iEnumL, iEnumT, iZip, iSeq, iOr, rIx, iStr, rLeS, rJoin, rSlTA, tComp_eq, tComp1, slots, Option.getD_some, Option.getD_none, tYes, tSeq, tAsg, gName, tOp, tUn, tC, tVar, tCB, tCons, tNil, tCall, rI, rI0, rU, tRet, tRetN, tIfS, tTest, tB, tAnd, tOr, tNot, tAndV, tOrV, tNotV, tIf, tChain, tMenu, tPar, tDrop, tTup, tLst, tNext, tSl, tPart, tNoPart, tNever, gTup, gCons, gNil, gSub, rSetL, tBM, rAppend, rEq, rNe, rIsi, rIxL, rIxT, rIxS, rSlL, isi_non_bl, isi_non_int, isi_non_str, isi_non_lst, isi_non_tup, isi_bl_bl, isi_bl_int, isi_bl_str, isi_bl_lst, isi_bl_tup, isi_int_bl, isi_int_int, isi_int_str, isi_int_lst, isi_int_tup, isi_str_bl, isi_str_int, isi_str_str, isi_str_lst, isi_str_tup, isi_lst_bl, isi_lst_int, isi_lst_str, isi_lst_lst, isi_lst_tup, isi_tup_bl, isi_tup_int, isi_tup_str, isi_tup_lst, isi_tup_tup, isi_dct_bl, isi_dct_int, isi_dct_str, isi_dct_lst, isi_dct_tup, Kd_non, Kd_bl, Kd_int, Kd_str, sc_non_non, sc_non_int, sc_int_non, sc_non_bl, sc_bl_non, sc_non_str, sc_str_non, sc_int_int, sc_bl_bl, sc_str_str, sc_int_str, sc_str_int, sc_bl_str, sc_str_bl, decide_true, decide_false, tFor_eq, iList, iTup, iRng1, iRng2, iRng3, rIndexT, tBM0, tBMT, tyK_int, tyK_bool, tyK_str, tyK_list, tyK_tuple, L2.start, cxK, Int.reduceToNat, List.map_cons, List.map_nil, List.length_cons, List.length_nil, Nat.reduceAdd, Nat.reduceSub, Nat.zero_add, List.replicate_succ, List.replicate_zero, List.cons_append, List.nil_append, List.append_nil, List.getElem?_cons_zero, List.getElem?_cons_succ, List.set_cons_zero, List.set_cons_succ, Option.some.injEq, V.int.injEq, V.bl.injEq, V.ref.injEq, V.str.injEq, V.ty.injEq, List.cons.injEq, exists_eq_left', exists_eq_left, exists_eq_right, exists_and_left, exists_and_right, and_true, true_and, and_assoc, exists_const, decide_eq_true_eq, Bool.not_eq_true', Bool.not_true, Bool.not_false, Bool.not_not, decide_eq_false_iff_not, ite_not, Bool.false_eq_true, if_true, if_false, reduceCtorEq, and_false, false_and, exists_false, or_false, false_or, ↓reduceIte, eq_self, reduceIte]
    refine ⟨_, d1, ?_, next _ _ ?_⟩
    · rw [List.length_map, List.length_map, List.length_take]
      exact Nat.lt_of_lt_of_le (m := 64) (by omega) (by decide)
    · rw [hC]
      refine ⟨_, ?_, same_upd d2 hl _, rfl⟩
      rw [upd_same, take_at hk, List.map_append, List.map_append]
      rfl
  intro τ H1 h
  rw [hC] at h
  obtain ⟨z, d1, S1, rfl⟩ := h
  rw [List.take_of_length_le (by omega)] at d1
  refine ⟨⟨_, S1.seq LP⟩, ?_⟩
  obtain ⟨Pv, hP⟩ : ∃ Pv : Nat → St → Hp → Prop, Pv = fun i σ H' => ∃ y1 y2 y3 y4, H' l = some (.lst ((ks.map (wSum (ps.take i))).map V.int)) ∧ Same H H' ∧ σ = [some (.ref kl), some (.ref pl), some (.ref l), y1, y2, y3, y4] := ⟨_, rfl⟩
  refine forW_list px Pv ?_ (fun i σ H' _ h => by rw [hP] at h; obtain ⟨y1, y2, y3, y4, _, e, _⟩ := h; exact e.seq LP) ?_ ?_
  · rw [hP]
    exact ⟨_, _, _, _, d1, S1, rfl⟩
  · intro i x σ H' hx h
    rw [hP] at h
    obtain ⟨y1, y2, y3, y4, d2, e, rfl⟩ := h
    obtain ⟨p, pq, rfl, hp, Tp, okp, _⟩ := (PA.same e).at hx
    simp only [tTryN, rSlS, rMulS, rCatS, iZipL, rInsert, rReverse, tDNewX, tTry, tRaise, iEnumL, iEnumT, iZip, iSeq, iOr, rIx, iStr, rLeS, rJoin, rSlTA, tComp_eq, tComp1, slots, Option.getD_some, Option.getD_none, tYes, tSeq, tAsg, gName, tOp, tUn, tC, tVar, tCB, tCons, tNil, tCall, rI, rI0, rU, tRet, tRetN, tIfS, tTest, tB, tAnd, tOr, tNot, tAndV, tOrV, tNotV, tIf, tChain, tMenu, tPar, tDrop, tTup, tLst, tNext, tSl, tPart, tNoPart, tNever, gTup, gCons, gNil, gSub, rSetL, tBM, rAppend, rEq, rNe, rIsi, rIxL, rIxT, rIxS, rSlL, isi_non_bl, isi_non_int, isi_non_str, isi_non_lst, isi_non_tup, isi_bl_bl, isi_bl_int, isi_bl_str, isi_bl_lst, isi_bl_tup, isi_int_bl, isi_int_int, isi_int_str, isi_int_lst, isi_int_tup, isi_str_bl, isi_str_int, isi_str_str, isi_str_lst, isi_str_tup, isi_lst_bl, isi_lst_int, isi_lst_str, isi_lst_lst, isi_lst_tup, isi_tup_bl, isi_tup_int, isi_tup_str, isi_tup_lst, isi_tup_tup, isi_dct_bl, isi_dct_int, isi_dct_str, isi_dct_lst, isi_dct_tup, Kd_non, Kd_bl, Kd_int, Kd_str, sc_non_non, sc_non_int, sc_int_non, sc_non_bl, sc_bl_non, sc_non_str, sc_str_non, sc_int_int, sc_bl_bl, sc_str_str, sc_int_str, sc_str_int, sc_bl_str, sc_str_bl, decide_true, decide_false, tFor_eq, iList, iTup, iRng1, iRng2, iRng3, rIndexT, tBM0, tBMT, tyK_int, tyK_bool, tyK_str, tyK_list, tyK_tuple, L2.start, cxK, Int.reduceToNat, List.map_cons, List.map_nil, List.length_cons, List.length_nil, Nat.reduceAdd, Nat.reduceSub, Nat.zero_add, List.replicate_succ, List.replicate_zero, List.cons_append, List.nil_append, List.append_nil, List.getElem?_cons_zero, List.getElem?_cons_succ, List.set_cons_zero, List.set_cons_succ, Option.some.injEq, V.int.injEq, V.bl.injEq, V.ref.injEq, V.str.injEq, V.ty.injEq, List.cons.injEq, exists_eq_left', exists_eq_left, exists_eq_right, exists_and_left, exists_and_right, and_true, true_and, and_assoc, exists_const, decide_eq_true_eq, Bool.not_eq_true', Bool.not_true, Bool.not_false, Bool.not_not, decide_eq_false_iff_not, ite_not, Bool.false_eq_true, if_true, if_false, reduceCtorEq, and_false, false_and, exists_false, or_false, false_or, ↓reduceIte, eq_self, reduceIte]
    refine ⟨_, Tp, rfl, _, _, rfl, _, _, rfl, _, _, rfl, rfl, _, .inl (e.seq LK), by omega, by omega, ?_⟩
    obtain ⟨Pw, hW⟩ : ∃ Pw : Nat → St → Hp → Prop, Pw = fun j σ H' => ∃ y, H' l = some (.lst ((sv (wSum (ps.take i)) (wSum (ps.take (i + 1))) ks j).map V.int)) ∧ Same H H' ∧ σ = [some (.ref kl), some (.ref pl), some (.ref l), some (.str (txt pq.1.1)), some (.str (txt pq.1.2)), some (.int pq.2), y] := ⟨_, rfl⟩
    refine forW_range Pw ?_ ?_ ?_
    · rw [hW]
      exact ⟨_, d2, e, rfl⟩
    · intro j σ H3 hj h
      rw [hW] at h
      obtain ⟨y, d3, e3, rfl⟩ := h
      rw [Int.toNat_natCast] at hj
      obtain ⟨xk, hxk⟩ : ∃ x, kx[j]? = some x := ⟨kx[j]'(by omega), List.getElem?_eq_getElem _⟩
      obtain ⟨kp, k, rfl, hk, Tk⟩ := (KA.same e3).at hxk
      simp only [tTryN, rSlS, rMulS, rCatS, iZipL, rInsert, rReverse, tDNewX, tTry, tRaise, iEnumL, iEnumT, iZip, iSeq, iOr, rIx, iStr, rLeS, rJoin, rSlTA, tComp_eq, tComp1, slots, Option.getD_some, Option.getD_none, tYes, tSeq, tAsg, gName, tOp, tUn, tC, tVar, tCB, tCons, tNil, tCall, rI, rI0, rU, tRet, tRetN, tIfS, tTest, tB, tAnd, tOr, tNot, tAndV, tOrV, tNotV, tIf, tChain, tMenu, tPar, tDrop, tTup, tLst, tNext, tSl, tPart, tNoPart, tNever, gTup, gCons, gNil, gSub, rSetL, tBM, rAppend, rEq, rNe, rIsi, rIxL, rIxT, rIxS, rSlL, isi_non_bl, isi_non_int, isi_non_str, isi_non_lst, isi_non_tup, isi_bl_bl, isi_bl_int, isi_bl_str, isi_bl_lst, isi_bl_tup, isi_int_bl, isi_int_int, isi_int_str, isi_int_lst, isi_int_tup, isi_str_bl, isi_str_int, isi_str_str, isi_str_lst, isi_str_tup, isi_lst_bl, isi_lst_int, isi_lst_str, isi_lst_lst, isi_lst_tup, isi_tup_bl, isi_tup_int, isi_tup_str, isi_tup_lst, isi_tup_tup, isi_dct_bl, isi_dct_int, isi_dct_str, isi_dct_lst, isi_dct_tup, Kd_non, Kd_bl, Kd_int, Kd_str, sc_non_non, sc_non_int, sc_int_non, sc_non_bl, sc_bl_non, sc_non_str, sc_str_non, sc_int_int, sc_bl_bl, sc_str_str, sc_int_str, sc_str_int, sc_bl_str, sc_str_bl, decide_true, decide_false, tFor_eq, iList, iTup, iRng1, iRng2, iRng3, rIndexT, tBM0, tBMT, tyK_int, tyK_bool, tyK_str, tyK_list, tyK_tuple, L2.start, cxK, Int.reduceToNat, List.map_cons, List.map_nil, List.length_cons, List.length_nil, Nat.reduceAdd, Nat.reduceSub, Nat.zero_add, List.replicate_succ, List.replicate_zero, List.cons_append, List.nil_append, List.append_nil, List.getElem?_cons_zero, List.getElem?_cons_succ, List.set_cons_zero, List.set_cons_succ, Option.some.injEq, V.int.injEq, V.bl.injEq, V.ref.injEq, V.str.injEq, V.ty.injEq, List.cons.injEq, exists_eq_left', exists_eq_left, exists_eq_right, exists_and_left, exists_and_right, and_true, true_and, and_assoc, exists_const, decide_eq_true_eq, Bool.not_eq_true', Bool.not_true, Bool.not_false, Bool.not_not, decide_eq_false_iff_not, ite_not, Bool.false_eq_true, if_true, if_false, reduceCtorEq, and_false, false_and, exists_false, or_false, false_or, ↓reduceIte, eq_self, reduceIte]
      rw [Int.zero_add]
      refine ⟨_, e3.seq LK, _, atI_nat hxk, by decide, fun t ht => ?_⟩
      obtain ⟨H4, g4, S4, T4⟩ := fresh_tup (K := K) ht (kRow pq.1)
      have g4' : H4 = upd H3 t (.tup [V.str (txt pq.1.1), V.str (txt pq.1.2)]) := g4
      rw [← g4']
      clear g4 g4'
      have e4 := e3.trans S4
      have d4 := S4 _ _ d3
      refine rEqD_kind (Same.tup S4 Tk) T4 (okk k (List.mem_of_getElem? hk)) okp ⟨_, rfl, ?_⟩
      rw [if_neg Bool.false_ne_true]
      have st := wSum_step (k := k) hp
      by_cases hkk : k = pq.1
      · rw [decide_eq_true hkk, if_pos rfl]
        rw [if_pos hkk.symm] at st
        refine ⟨_, SqL.of d4, _, atI_nat (by rw [List.getElem?_map, sv_at hk]; rfl), _, rfl, _, d4, j, ixN_nat (by rw [List.length_map, sv_len]; omega), ?_⟩
        rw [hW]
        refine ⟨_, ?_, same_upd e4 hl _, rfl⟩
        rw [upd_same, ← st, ← sv_set hk, List.map_set]
      · rw [decide_eq_false hkk, if_neg (by decide)]
        rw [if_neg (fun x => hkk x.symm), Int.add_zero] at st
        rw [hW]
        refine ⟨_, ?_, e4, rfl⟩
        rw [← sv_eq hk st.symm]
        exact d4
    · intro σ H3 h
      rw [hW] at h
      obtain ⟨y, d3, e3, rfl⟩ := h
      rw [Int.toNat_natCast, sv_all _ _ _ (by omega)] at d3
      rw [hP]
      exact ⟨_, _, _, _, d3, e3, rfl⟩
  · intro σ H' h
    rw [hP] at h
    obtain ⟨y1, y2, y3, y4, d2, e, rfl⟩ := h
    rw [List.take_of_length_le (by omega)] at d2
    simp only [tTryN, rSlS, rMulS, rCatS, iZipL, rInsert, rReverse, tDNewX, tTry, tRaise, iEnumL, iEnumT, iZip, iSeq, iOr, rIx, iStr, rLeS, rJoin, rSlTA, tComp_eq, tComp1, slots, Option.getD_some, Option.getD_none, tYes, tSeq, tAsg, gName, tOp, tUn, tC, tVar, tCB, tCons, tNil, tCall, rI, rI0, rU, tRet, tRetN, tIfS, tTest, tB, tAnd, tOr, tNot, tAndV, tOrV, tNotV, tIf, tChain, tMenu, tPar, tDrop, tTup, tLst, tNext, tSl, tPart, tNoPart, tNever, gTup, gCons, gNil, gSub, rSetL, tBM, rAppend, rEq, rNe, rIsi, rIxL, rIxT, rIxS, rSlL, isi_non_bl, isi_non_int, isi_non_str, isi_non_lst, isi_non_tup, isi_bl_bl, isi_bl_int, isi_bl_str, isi_bl_lst, isi_bl_tup, isi_int_bl, isi_int_int, isi_int_str, isi_int_lst, isi_int_tup, isi_str_bl, isi_str_int, isi_str_str, isi_str_lst, isi_str_tup, isi_lst_bl, isi_lst_int, isi_lst_str, isi_lst_lst, isi_lst_tup, isi_tup_bl, isi_tup_int, isi_tup_str, isi_tup_lst, isi_tup_tup, isi_dct_bl, isi_dct_int, isi_dct_str, isi_dct_lst, isi_dct_tup, Kd_non, Kd_bl, Kd_int, Kd_str, sc_non_non, sc_non_int, sc_int_non, sc_non_bl, sc_bl_non, sc_non_str, sc_str_non, sc_int_int, sc_bl_bl, sc_str_str, sc_int_str, sc_str_int, sc_bl_str, sc_str_bl, decide_true, decide_false, tFor_eq, iList, iTup, iRng1, iRng2, iRng3, rIndexT, tBM0, tBMT, tyK_int, tyK_bool, tyK_str, tyK_list, tyK_tuple, L2.start, cxK, Int.reduceToNat, List.map_cons, List.map_nil, List.length_cons, List.length_nil, Nat.reduceAdd, Nat.reduceSub, Nat.zero_add, List.replicate_succ, List.replicate_zero, List.cons_append, List.nil_append, List.append_nil, List.getElem?_cons_zero, List.getElem?_cons_succ, List.set_cons_zero, List.set_cons_succ, Option.some.injEq, V.int.injEq, V.bl.injEq, V.ref.injEq, V.str.injEq, V.ty.injEq, List.cons.injEq, exists_eq_left', exists_eq_left, exists_eq_right, exists_and_left, exists_and_right, and_true, true_and, and_assoc, exists_const, decide_eq_true_eq, Bool.not_eq_true', Bool.not_true, Bool.not_false, Bool.not_not, decide_eq_false_iff_not, ite_not, Bool.false_eq_true, if_true, if_false, reduceCtorEq, and_false, false_and, exists_false, or_false, false_or, ↓reduceIte, eq_self, reduceIte]
    refine ⟨_, _, _, _, rfl, e.seq LK, KA.same e, okk, l4, .inr ⟨_, _, _, rfl, e.seq LP, PA.same e, l1, l40, sm, fun _ l2 H3 S3 hl2 L3 => ?_, fun h => absurd hin h⟩⟩
    refine rEqS_ints (.inl ⟨SqL.of L3, SqL.of (S3 _ _ d2)⟩) ?_
    rw [if_neg Bool.false_ne_true, decide_eq_true rfl]
    exact q _ (e.trans S3)
end

theorem Odd.upd {K : PySem.W.Frag} {H : Hp} {l : Addr} {ys zs : List V} {ks : List Kd2} {v : V} (h : Odd K H ks v) (hl : H l = some (.lst ys)) : Odd K (upd H l (.lst zs)) ks v := by
  rcases h with h | ⟨p, q, rfl, T, r⟩
  · exact .inl (PartV.upd h hl)
  · exact .inr ⟨p, q, rfl, SqT.upd T hl, r⟩
theorem wrong_bad {K : PySem.W.Frag} {H : Hp} {l : Addr} {px : List V} {ps : List Pt} {ks : List Kd2} {v : V} {m : Nat} (L : SqL K H l (px.take m ++ v :: px.drop m)) (PA : PrtAll K H px ps) (gp : GoodP9 ks ps) (l6 : ps.length ≤ 6) (O : Odd K H ks v) :
    PartsV K H (.ref l) false ∨ ∃ (pl : Addr) (xs : List V) (ps : List Pt), V.ref l = .ref pl ∧ SqL K H pl xs ∧ PrtAll K H xs ps ∧ 1 ≤ xs.length ∧ xs.length ≤ 40 ∧ (ps.map (·.2)).sum ≤ 10 ^ 15 ∧ ¬∀ p ∈ ps, p.1 ∈ ks := by
  have lp := PA.length
  have len : (px.take m ++ v :: px.drop m).length = px.length + 1 := by
    simp only [List.length_append, List.length_cons, List.length_take, List.length_drop]
    omega
  rcases O with O | ⟨p, q, rfl, T, o, w1, w3, nk⟩
  · refine .inl (.bad L (by omega) (by omega) ((PA.take m).v2.append (.cons O (PA.drop m).v2)) ?_)
    rw [List.all_append, List.all_cons]
    simp
  · refine .inr ⟨l, _, ps.take m ++ q :: ps.drop m, rfl, L, (PA.take m).append (.cons T o w1 (PA.drop m)), by omega, by omega, ?_, fun h => nk (h q (List.mem_append_right _ (List.mem_cons_self ..)))⟩
    rw [sum_ins (fun p : Pt => p.2)]
    have := sum_top9 (n := 10 ^ 9) fun p hp => (gp p hp).2.2
    have e : (10 ^ 9 : Int) = 1000000000 := by decide
    have e' : (10 ^ 15 : Int) = 1000000000000000 := by decide
    rw [e] at this
    rw [e']
    have : (ps.map (·.2)).sum ≤ 6000000000 := by omega
    omega
section
variable {P : Program} {w : World} {K : PySem.W.Frag} {mg : Str → Option Value} {base : Heap} {f : Addr} {fd : FuncData}
theorem ok_law (F : Fun K "law" "law" s_law f fd) (M : Mg mg) (C_law_cell_at : Cal P w K mg base CX0 "_law_cell_at" 1 ["_law_script", "_law_k"] (spCellAt K)) (C_law_kinds : Cal P w K mg base CX0 "_law_kinds" 2 ["_law_script"] (spKinds K)) (C_law_parts : Cal P w K mg base CX0 "_law_parts" 2 ["_law_script", "_law_kinds_here"] (spLParts9 K))
    (C_law_strange : Cal P w K mg base CX0 "_law_strange" 1 ["_law_kinds_here", "_law_cell"] (spStrange K)) (C_law_refused : Cal P w K mg base CX0 "_law_refused" 6 ["_law_kinds_here", "_law_parts_here"] (spRef9 K)) (C_law_refused_by_any : Cal P w K mg base CX0 "_law_refused_by_any" 6 ["_law_kinds_here", "_law_parts_here"] (spRef9 K)) (C_law_taken : Cal P w K mg base CX0 "_law_taken" 6 ["_law_kinds_here", "_law_parts_here"] (spTaken K)) : FnOk P w K mg base CX0 7 f fd ["_law_script"] (spLaw K) := by
  refine F.ok sc_law (fun vs H Q E h => ?_) (fun cdv A outer s H vs Q E hr h => ?_)
  · obtain ⟨a, ns, rfl, _⟩ := h
    rfl
  obtain ⟨a, ns, rfl, hS, hl, q⟩ := h
  refine ⟨_, (@pss_cons _ _ _ _ _ (@ps_set _ _ 1 _ _ _ _ sc_law.nd rfl l_law_1 (@pe_callC _ _ _ _ _ _ _ _ _ _ _ C_law_kinds hr g_law__law_kinds (@pa_cons _ _ _ _ _ (@pe_var _ 0 _ _ rfl v_law_0 dn__law_script dc__law_script) (@pa_nil _) (star1 rfl)) (by decide) dn__law_kinds (star1 rfl) nost0) (swap1 rfl) (.inl rfl)) (@pss_cons _ _ _ _ _ (@ps_set _ _ 2 _ _ _ _ sc_law.nd rfl l_law_2 (@pe_callC _ _ _ _ _ _ _ _ _ _ _ C_law_parts hr g_law__law_parts (@pa_cons _ _ _ _ _ (@pe_var _ 0 _ _ rfl v_law_0 dn__law_script dc__law_script) (@pa_cons _ _ _ _ _ (@pe_var _ 1 _ _ rfl v_law_1 dn__law_kinds_here dc__law_kinds_here) (@pa_nil _) (star1 rfl)) (star1 rfl)) (by decide) dn__law_parts (star1 rfl) (nost1 rfl nost0)) (swap1 rfl) (.inl rfl)) (@pss_cons _ _ _ _ _ (@ps_set _ _ 3 _ _ _ _ sc_law.nd rfl l_law_3 (@pe_callC _ _ _ _ _ _ _ _ _ _ _ C_law_cell_at hr g_law__law_cell_at (@pa_cons _ _ _ _ _ (@pe_var _ 0 _ _ rfl v_law_0 dn__law_script dc__law_script) (@pa_cons _ _ _ _ _ (@pe_int _ _ _ _) (@pa_nil _) (star1 rfl)) (star1 rfl)) (by decide) dn__law_cell_at (star1 rfl) (nost1 rfl nost0)) (swap1 rfl) (.inl rfl)) (@pss_cons _ _ _ _ _ (@ps_set _ _ 4 _ _ _ _ sc_law.nd rfl l_law_4 (@pe_callTy _ _ _ _ _ _ _ _ _ call_list_of g_law_list M.m_list b_list (@pa_cons _ _ _ _ _ (@pe_var _ 2 _ _ rfl v_law_2 dn__law_parts_here dc__law_parts_here) (@pa_nil _) (star1 rfl)) nn_list dn_list (star1 rfl) nost0) (swap1 rfl) (.inl rfl)) (@pss_cons _ _ _ _ _ (@ps_expr _ _ _ _ (@pe_bm _ _ _ _ _ _ _ _ _ _ _ _ PySem.F.plainAttrs_list PySem.F.slot_list_insert PySem.F.type_list_insert mt_insert (@pe_var _ 4 _ _ rfl v_law_4 dn__law_wrong dc__law_wrong) (@pa_cons _ _ _ _ _ (@pe_op _ _ _ _ _ _ _ _ (@op_mod _) (@pe_var _ 3 _ _ rfl v_law_3 dn__law_cell dc__law_cell) (@pe_op _ _ _ _ _ _ _ _ (@op_add _) (@pe_callB _ _ _ _ _ _ _ _ _ call_len_seq g_law_len M.m_len b_len (@pa_cons _ _ _ _ _ (@pe_var _ 2 _ _ rfl v_law_2 dn__law_parts_here dc__law_parts_here) (@pa_nil _) (star1 rfl)) nn_len dn_len (star1 rfl) nost0) (@pe_int _ _ _ _))) (@pa_cons _ _ _ _ _ (@pe_callC _ _ _ _ _ _ _ _ _ _ _ C_law_strange hr g_law__law_strange (@pa_cons _ _ _ _ _ (@pe_var _ 1 _ _ rfl v_law_1 dn__law_kinds_here dc__law_kinds_here) (@pa_cons _ _ _ _ _ (@pe_callC _ _ _ _ _ _ _ _ _ _ _ C_law_cell_at hr g_law__law_cell_at (@pa_cons _ _ _ _ _ (@pe_var _ 0 _ _ rfl v_law_0 dn__law_script dc__law_script) (@pa_cons _ _ _ _ _ (@pe_int _ _ _ _) (@pa_nil _) (star1 rfl)) (star1 rfl)) (by decide) dn__law_cell_at (star1 rfl) (nost1 rfl nost0)) (@pa_nil _) (star1 rfl)) (star1 rfl)) (by decide) dn__law_strange (star1 rfl) (nost1 rfl nost0)) (@pa_nil _) (star1 rfl)) (star1 rfl)) (by rfl) (by rfl) (by rfl) (by rfl) (by rfl)) (swap1 rfl)) (@pss_cons _ _ _ _ _ (@ps_if _ _ _ _ _ _ _ _ (@PW.pt _ _ _ (@pw_or _ _ _ _ _ _ _ (@pt_not _ _ _ _ (@pt_val _ _ _ (@pe_callC _ _ _ _ _ _ _ _ _ _ _ C_law_refused hr g_law__law_refused (@pa_cons _ _ _ _ _ (@pe_callTy _ _ _ _ _ _ _ _ _ call_list_of g_law_list M.m_list b_list (@pa_cons _ _ _ _ _ (@pe_var _ 1 _ _ rfl v_law_1 dn__law_kinds_here dc__law_kinds_here) (@pa_nil _) (star1 rfl)) nn_list dn_list (star1 rfl) nost0) (@pa_cons _ _ _ _ _ (@pe_var _ 4 _ _ rfl v_law_4 dn__law_wrong dc__law_wrong) (@pa_nil _) (star1 rfl)) (star1 rfl)) (by decide) dn__law_refused (star1 rfl) (nost1 rfl nost0)) (test1 rfl))) (@pw_or1 _ _ _ _ (@pt_not _ _ _ _ (@pt_val _ _ _ (@pe_callC _ _ _ _ _ _ _ _ _ _ _ C_law_refused_by_any hr g_law__law_refused_by_any (@pa_cons _ _ _ _ _ (@pe_var _ 1 _ _ rfl v_law_1 dn__law_kinds_here dc__law_kinds_here) (@pa_cons _ _ _ _ _ (@pe_var _ 4 _ _ rfl v_law_4 dn__law_wrong dc__law_wrong) (@pa_nil _) (star1 rfl)) (star1 rfl)) (by decide) dn__law_refused_by_any (star1 rfl) (nost1 rfl nost0)) (test1 rfl)))))) (@pss_one _ _ _ (@ps_ret _ _ _ _ (@pe_bl _ _ _ _))) (@pss_nil _)) (@pss_cons _ _ _ _ _ (@ps_setComp _ _ _ _ _ _ _ _ _ _ _ _ _ _ _ 5 _ _ _ sc_law.nd rfl l_law_5 rfl (CompOk.make (N' := ["_law_parts_here", "_law_k"]) (ix := [2]) (nl := 1) (by rfl) (fm1 rfl fm0) (by rfl) (by decide +kernel) rfl (by decide +kernel) rfl (And.intro ⟨rfl, .inl rfl, .inl rfl⟩ True.intro)) (@pi_range1 _ _ _ _ _ _ g_law_range M.m_range (@pa_cons _ _ _ _ _ (@pe_int _ _ _ _) (@pa_nil _) (star1 rfl)) (star1' rfl)) (fun _ _ _ _ _ => (@pg_name _ _ 1 _ (show List.Nodup (["_law_parts_here", "_law_k"] : List Str) from by decide) rfl (Or.inl rfl) (by first | exact .inl rfl | exact .inr rfl | assumption))) (fun _ _ _ _ _ => (@pif_nil _)) (fun _ _ _ _ _ => (@pe_ix _ _ _ _ _ _ _ (@ix_listK _ K rfl) (@pv _ 0 _ _ (by rfl) (by first | exact Or.inl rfl | exact Or.inr (Or.inl rfl) | exact Or.inr (Or.inr rfl)) (by decide) (by decide)) (@pe_op _ _ _ _ _ _ _ _ (@op_mod _) (@pv _ 1 _ _ (by rfl) (by first | exact Or.inl rfl | exact Or.inr (Or.inl rfl) | exact Or.inr (Or.inr rfl)) (by decide) (by decide)) (@pe_callB _ _ _ _ _ _ _ _ _ (call_len_seqK (K := K) rfl) rfl M.m_len b_len (@pa_cons _ _ _ _ _ (@pv _ 0 _ _ (by rfl) (by first | exact Or.inl rfl | exact Or.inr (Or.inl rfl) | exact Or.inr (Or.inr rfl)) (by decide) (by decide)) (@pa_nil _) (star1 rfl)) nn_len dn_len (star1 rfl) nost0)) (fun _ _ => rfl))) (by rfl) (by intro _; rfl) (by first | exact .inl rfl | exact .inr rfl | assumption)) (@pss_cons _ _ _ _ _ (@ps_set _ _ 6 _ _ _ _ sc_law.nd rfl l_law_6 (@pe_menu _ _ _ _ _ _ _ (@pa_cons _ _ _ _ _ (@pe_lst _ _ _ _ (@pa_nil _)) (@pa_cons _ _ _ _ _ (@pe_var _ 5 _ _ rfl v_law_5 dn__law_many dc__law_many) (@pa_cons _ _ _ _ _ (@pe_callTy _ _ _ _ _ _ _ _ _ call_tuple_of g_law_tuple M.m_tuple b_tuple (@pa_cons _ _ _ _ _ (@pe_var _ 2 _ _ rfl v_law_2 dn__law_parts_here dc__law_parts_here) (@pa_nil _) (star1 rfl)) nn_tuple dn_tuple (star1 rfl) nost0) (@pa_cons _ _ _ _ _ (@pe_ix _ _ _ _ _ _ _ (@ix_list _) (@pe_var _ 2 _ _ rfl v_law_2 dn__law_parts_here dc__law_parts_here) (@pe_int _ _ _ _) (fun _ _ => rfl)) (@pa_cons _ _ _ _ _ (@pe_non _ _ _) (@pa_cons _ _ _ _ _ (@pe_str _ _ _ _) (@pa_cons _ _ _ _ _ (@pe_int _ _ _ _) (@pa_cons _ _ _ _ _ (@pe_dnewX _ _) (@pa_nil _) (star1 rfl)) (star1 rfl)) (star1 rfl)) (star1 rfl)) (star1 rfl)) (star1 rfl)) (star1 rfl)) (star1 rfl)) (@pe_op _ _ _ _ _ _ _ _ (@op_mod _) (@pe_callC _ _ _ _ _ _ _ _ _ _ _ C_law_cell_at hr g_law__law_cell_at (@pa_cons _ _ _ _ _ (@pe_var _ 0 _ _ rfl v_law_0 dn__law_script dc__law_script) (@pa_cons _ _ _ _ _ (@pe_int _ _ _ _) (@pa_nil _) (star1 rfl)) (star1 rfl)) (by decide) dn__law_cell_at (star1 rfl) (nost1 rfl nost0)) (@pe_int _ _ _ _)) (fun _ _ => rfl)) (swap1 rfl) (.inl rfl)) (@pss_cons _ _ _ _ _ (@ps_if _ _ _ _ _ _ _ _ (@PW.pt _ _ _ (@pw_or _ _ _ _ _ _ _ (@pt_not _ _ _ _ (@pt_val _ _ _ (@pe_callC _ _ _ _ _ _ _ _ _ _ _ C_law_refused hr g_law__law_refused (@pa_cons _ _ _ _ _ (@pe_var _ 1 _ _ rfl v_law_1 dn__law_kinds_here dc__law_kinds_here) (@pa_cons _ _ _ _ _ (@pe_var _ 6 _ _ rfl v_law_6 dn__law_thing dc__law_thing) (@pa_nil _) (star1 rfl)) (star1 rfl)) (by decide) dn__law_refused (star1 rfl) (nost1 rfl nost0)) (test1 rfl))) (@pw_or1 _ _ _ _ (@pt_not _ _ _ _ (@pt_val _ _ _ (@pe_callC _ _ _ _ _ _ _ _ _ _ _ C_law_taken hr g_law__law_taken (@pa_cons _ _ _ _ _ (@pe_var _ 1 _ _ rfl v_law_1 dn__law_kinds_here dc__law_kinds_here) (@pa_cons _ _ _ _ _ (@pe_slice _ _ _ _ _ _ _ _ _ _ (@sl_list _) (@pe_var _ 5 _ _ rfl v_law_5 dn__law_many dc__law_many) (@po_none _) (@po_some _ _ _ (@pe_int _ _ _ _))) (@pa_nil _) (star1 rfl)) (star1 rfl)) (by decide) dn__law_taken (star1 rfl) (nost1 rfl nost0)) (test1 rfl)))))) (@pss_one _ _ _ (@ps_ret _ _ _ _ (@pe_bl _ _ _ _))) (@pss_nil _)) (@pss_cons _ _ _ _ _ (@ps_set _ _ 7 _ _ _ _ sc_law.nd rfl l_law_7 (@pe_callB _ _ _ _ _ _ _ _ _ (call_sum1 rfl) g_law_sum M.m_sum b_sum (@pa_cons _ _ _ _ _ (@pe_comp _ _ _ _ _ _ _ _ _ _ _ _ _ _ _ rfl (CompOk.make (N' := ["_law_part"]) (ix := []) (nl := 1) (by rfl) fm0 (by rfl) (by decide +kernel) rfl (by decide +kernel) rfl True.intro) (@pi_list _ _ _ _ (@pe_var _ 2 _ _ rfl v_law_2 dn__law_parts_here dc__law_parts_here)) (fun _ _ _ _ _ => (@pg_name _ _ 0 _ (show List.Nodup (["_law_part"] : List Str) from by decide) rfl (Or.inl rfl) (by first | exact .inl rfl | exact .inr rfl | assumption))) (fun _ _ _ _ _ => (@pif_nil _)) (fun _ _ _ _ _ => (@pe_ix _ _ _ _ _ _ _ (ix_tupK (K := K) rfl) (@pv _ 0 _ _ (by rfl) (by first | exact Or.inl rfl | exact Or.inr (Or.inl rfl) | exact Or.inr (Or.inr rfl)) (by decide) (by decide)) (@pe_int _ _ _ _) (fun _ _ => rfl))) (by intro _; rfl)) (@pa_nil _) (star1 rfl)) nn_sum dn_sum (star1 rfl) nost0) (swap1 rfl) (.inl rfl)) (@pss_cons _ _ _ _ _ (@ps_asg _ _ _ _ _ _ (@pe_ix _ _ _ _ _ _ _ (@ix_list _) (@pe_var _ 1 _ _ rfl v_law_1 dn__law_kinds_here dc__law_kinds_here) (@pe_op _ _ _ _ _ _ _ _ (@op_mod _) (@pe_op _ _ _ _ _ _ _ _ (@op_fdivB _) (@pe_var _ 3 _ _ rfl v_law_3 dn__law_cell dc__law_cell) (@pe_int _ _ _ _)) (@pe_callB _ _ _ _ _ _ _ _ _ call_len_seq g_law_len M.m_len b_len (@pa_cons _ _ _ _ _ (@pe_var _ 1 _ _ rfl v_law_1 dn__law_kinds_here dc__law_kinds_here) (@pa_nil _) (star1 rfl)) nn_len dn_len (star1 rfl) nost0)) (fun _ _ => rfl)) (@pg_tup _ _ _ _ _ _ rfl (@pgs_cons _ _ _ _ _ (@pg_name _ _ 8 _ sc_law.nd rfl l_law_8 (.inl rfl)) (@pgs_cons _ _ _ _ _ (@pg_name _ _ 9 _ sc_law.nd rfl l_law_9 (.inl rfl)) (@pgs_nil _) (by rfl)) (by rfl)) (by rfl) (by rfl)) (by rfl) (by rfl) (by rfl)) (@pss_cons _ _ _ _ _ (@ps_set _ _ 10 _ _ _ _ sc_law.nd rfl l_law_10 (@pe_callTy _ _ _ _ _ _ _ _ _ call_list_of g_law_list M.m_list b_list (@pa_cons _ _ _ _ _ (@pe_var _ 2 _ _ rfl v_law_2 dn__law_parts_here dc__law_parts_here) (@pa_nil _) (star1 rfl)) nn_list dn_list (star1 rfl) nost0) (swap1 rfl) (.inl rfl)) (@pss_cons _ _ _ _ _ (@ps_expr _ _ _ _ (@pe_bm _ _ _ _ _ _ _ _ _ _ _ _ PySem.F.plainAttrs_list PySem.F.slot_list_insert PySem.F.type_list_insert mt_insert (@pe_var _ 10 _ _ rfl v_law_10 dn__law_great dc__law_great) (@pa_cons _ _ _ _ _ (@pe_op _ _ _ _ _ _ _ _ (@op_mod _) (@pe_op _ _ _ _ _ _ _ _ (@op_fdivB _) (@pe_var _ 3 _ _ rfl v_law_3 dn__law_cell dc__law_cell) (@pe_int _ _ _ _)) (@pe_op _ _ _ _ _ _ _ _ (@op_add _) (@pe_callB _ _ _ _ _ _ _ _ _ call_len_seq g_law_len M.m_len b_len (@pa_cons _ _ _ _ _ (@pe_var _ 2 _ _ rfl v_law_2 dn__law_parts_here dc__law_parts_here) (@pa_nil _) (star1 rfl)) nn_len dn_len (star1 rfl) nost0) (@pe_int _ _ _ _))) (@pa_cons _ _ _ _ _ (@pe_tup _ _ _ _ _ (@pa_cons _ _ _ _ _ (@pe_var _ 8 _ _ rfl v_law_8 dn__law_stuff dc__law_stuff) (@pa_cons _ _ _ _ _ (@pe_var _ 9 _ _ rfl v_law_9 dn__law_use dc__law_use) (@pa_cons _ _ _ _ _ (@pe_op _ _ _ _ _ _ _ _ (@op_sub _) (@pe_op _ _ _ _ _ _ _ _ (@op_pow _) (@pe_int _ _ _ _) (@pe_int _ _ _ _)) (@pe_var _ 7 _ _ rfl v_law_7 dn__law_together dc__law_together)) (@pa_nil _) (star1 rfl)) (star1 rfl)) (star1 rfl))) (@pa_nil _) (star1 rfl)) (star1 rfl)) (by rfl) (by rfl) (by rfl) (by rfl) (by rfl)) (swap1 rfl)) (@pss_cons _ _ _ _ _ (@ps_if _ _ _ _ _ _ _ _ (@pt_not _ _ _ _ (@pt_val _ _ _ (@pe_callC _ _ _ _ _ _ _ _ _ _ _ C_law_taken hr g_law__law_taken (@pa_cons _ _ _ _ _ (@pe_var _ 1 _ _ rfl v_law_1 dn__law_kinds_here dc__law_kinds_here) (@pa_cons _ _ _ _ _ (@pe_var _ 10 _ _ rfl v_law_10 dn__law_great dc__law_great) (@pa_nil _) (star1 rfl)) (star1 rfl)) (by decide) dn__law_taken (star1 rfl) (nost1 rfl nost0)) (test1 rfl))) (@pss_one _ _ _ (@ps_ret _ _ _ _ (@pe_bl _ _ _ _))) (@pss_nil _)) (@pss_cons _ _ _ _ _ (@ps_expr _ _ _ _ (@pe_bm _ _ _ _ _ _ _ _ _ _ _ _ PySem.F.plainAttrs_list PySem.F.slot_list_append PySem.F.type_list_append mt_append (@pe_var _ 10 _ _ rfl v_law_10 dn__law_great dc__law_great) (@pa_cons _ _ _ _ _ (@pe_tup _ _ _ _ _ (@pa_cons _ _ _ _ _ (@pe_ix _ _ _ _ _ _ _ (@ix_tup _) (@pe_ix _ _ _ _ _ _ _ (@ix_list _) (@pe_var _ 1 _ _ rfl v_law_1 dn__law_kinds_here dc__law_kinds_here) (@pe_int _ _ _ _) (fun _ _ => rfl)) (@pe_int _ _ _ _) (fun _ _ => rfl)) (@pa_cons _ _ _ _ _ (@pe_ix _ _ _ _ _ _ _ (@ix_tup _) (@pe_ix _ _ _ _ _ _ _ (@ix_list _) (@pe_var _ 1 _ _ rfl v_law_1 dn__law_kinds_here dc__law_kinds_here) (@pe_int _ _ _ _) (fun _ _ => rfl)) (@pe_int _ _ _ _) (fun _ _ => rfl)) (@pa_cons _ _ _ _ _ (@pe_int _ _ _ _) (@pa_nil _) (star1 rfl)) (star1 rfl)) (star1 rfl))) (@pa_nil _) (star1 rfl)) (by rfl) (by rfl) (by rfl) (by rfl) (by rfl)) (swap1 rfl)) (@pss_one _ _ _ (@ps_ret _ _ _ _ (@pe_and _ _ _ _ _ _ _ (@pe_callC _ _ _ _ _ _ _ _ _ _ _ C_law_refused hr g_law__law_refused (@pa_cons _ _ _ _ _ (@pe_var _ 1 _ _ rfl v_law_1 dn__law_kinds_here dc__law_kinds_here) (@pa_cons _ _ _ _ _ (@pe_var _ 10 _ _ rfl v_law_10 dn__law_great dc__law_great) (@pa_nil _) (star1 rfl)) (star1 rfl)) (by decide) dn__law_refused (star1 rfl) (nost1 rfl nost0)) (@pe_one _ _ _ _ _ (@pe_callC _ _ _ _ _ _ _ _ _ _ _ C_law_taken hr g_law__law_taken (@pa_cons _ _ _ _ _ (@pe_var _ 1 _ _ rfl v_law_1 dn__law_kinds_here dc__law_kinds_here) (@pa_cons _ _ _ _ _ (@pe_var _ 2 _ _ rfl v_law_2 dn__law_parts_here dc__law_parts_here) (@pa_nil _) (star1 rfl)) (star1 rfl)) (by decide) dn__law_taken (star1 rfl) (nost1 rfl nost0))))))))))))))))))))), ?_⟩
  simp only [tTryN, rSlS, rMulS, rCatS, iZipL, rInsert, rReverse, tDNewX, tTry, tRaise, iEnumL, iEnumT, iZip, iSeq, iOr, rIx, iStr, rLeS, rJoin, rSlTA, tComp_eq, tComp1, slots, Option.getD_some, Option.getD_none, tYes, tSeq, tAsg, gName, tOp, tUn, tC, tVar, tCB, tCons, tNil, tCall, rI, rI0, rU, tRet, tRetN, tIfS, tTest, tB, tAnd, tOr, tNot, tAndV, tOrV, tNotV, tIf, tChain, tMenu, tPar, tDrop, tTup, tLst, tNext, tSl, tPart, tNoPart, tNever, gTup, gCons, gNil, gSub, rSetL, tBM, rAppend, rEq, rNe, rIsi, rIxL, rIxT, rIxS, rSlL, isi_non_bl, isi_non_int, isi_non_str, isi_non_lst, isi_non_tup, isi_bl_bl, isi_bl_int, isi_bl_str, isi_bl_lst, isi_bl_tup, isi_int_bl, isi_int_int, isi_int_str, isi_int_lst, isi_int_tup, isi_str_bl, isi_str_int, isi_str_str, isi_str_lst, isi_str_tup, isi_lst_bl, isi_lst_int, isi_lst_str, isi_lst_lst, isi_lst_tup, isi_tup_bl, isi_tup_int, isi_tup_str, isi_tup_lst, isi_tup_tup, isi_dct_bl, isi_dct_int, isi_dct_str, isi_dct_lst, isi_dct_tup, Kd_non, Kd_bl, Kd_int, Kd_str, sc_non_non, sc_non_int, sc_int_non, sc_non_bl, sc_bl_non, sc_non_str, sc_str_non, sc_int_int, sc_bl_bl, sc_str_str, sc_int_str, sc_str_int, sc_bl_str, sc_str_bl, decide_true, decide_false, tFor_eq, iList, iTup, iRng1, iRng2, iRng3, rIndexT, tBM0, tBMT, tyK_int, tyK_bool, tyK_str, tyK_list, tyK_tuple, L2.start, cxK, Int.reduceToNat, List.map_cons, List.map_nil, List.length_cons, List.length_nil, Nat.reduceAdd, Nat.reduceSub, Nat.zero_add, List.replicate_succ, List.replicate_zero, List.cons_append, List.nil_append, List.append_nil, List.getElem?_cons_zero, List.getElem?_cons_succ, List.set_cons_zero, List.set_cons_succ, Option.some.injEq, V.int.injEq, V.bl.injEq, V.ref.injEq, V.str.injEq, V.ty.injEq, List.cons.injEq, exists_eq_left', exists_eq_left, exists_eq_right, exists_and_left, exists_and_right, and_true, true_and, and_assoc, exists_const, decide_eq_true_eq, Bool.not_eq_true', Bool.not_true, Bool.not_false, Bool.not_not, decide_eq_false_iff_not, ite_not, Bool.false_eq_true, if_true, if_false, reduceCtorEq, and_false, false_and, exists_false, or_false, false_or, ↓reduceIte, eq_self, reduceIte]
  refine ⟨_, _, rfl, hS, fun kl kx ks H1 S1 hkl LK TK ok => ?_⟩
  simp only [tTryN, rSlS, rMulS, rCatS, iZipL, rInsert, rReverse, tDNewX, tTry, tRaise, iEnumL, iEnumT, iZip, iSeq, iOr, rIx, iStr, rLeS, rJoin, rSlTA, tComp_eq, tComp1, slots, Option.getD_some, Option.getD_none, tYes, tSeq, tAsg, gName, tOp, tUn, tC, tVar, tCB, tCons, tNil, tCall, rI, rI0, rU, tRet, tRetN, tIfS, tTest, tB, tAnd, tOr, tNot, tAndV, tOrV, tNotV, tIf, tChain, tMenu, tPar, tDrop, tTup, tLst, tNext, tSl, tPart, tNoPart, tNever, gTup, gCons, gNil, gSub, rSetL, tBM, rAppend, rEq, rNe, rIsi, rIxL, rIxT, rIxS, rSlL, isi_non_bl, isi_non_int, isi_non_str, isi_non_lst, isi_non_tup, isi_bl_bl, isi_bl_int, isi_bl_str, isi_bl_lst, isi_bl_tup, isi_int_bl, isi_int_int, isi_int_str, isi_int_lst, isi_int_tup, isi_str_bl, isi_str_int, isi_str_str, isi_str_lst, isi_str_tup, isi_lst_bl, isi_lst_int, isi_lst_str, isi_lst_lst, isi_lst_tup, isi_tup_bl, isi_tup_int, isi_tup_str, isi_tup_lst, isi_tup_tup, isi_dct_bl, isi_dct_int, isi_dct_str, isi_dct_lst, isi_dct_tup, Kd_non, Kd_bl, Kd_int, Kd_str, sc_non_non, sc_non_int, sc_int_non, sc_non_bl, sc_bl_non, sc_non_str, sc_str_non, sc_int_int, sc_bl_bl, sc_str_str, sc_int_str, sc_str_int, sc_bl_str, sc_str_bl, decide_true, decide_false, tFor_eq, iList, iTup, iRng1, iRng2, iRng3, rIndexT, tBM0, tBMT, tyK_int, tyK_bool, tyK_str, tyK_list, tyK_tuple, L2.start, cxK, Int.reduceToNat, List.map_cons, List.map_nil, List.length_cons, List.length_nil, Nat.reduceAdd, Nat.reduceSub, Nat.zero_add, List.replicate_succ, List.replicate_zero, List.cons_append, List.nil_append, List.append_nil, List.getElem?_cons_zero, List.getElem?_cons_succ, List.set_cons_zero, List.set_cons_succ, Option.some.injEq, V.int.injEq, V.bl.injEq, V.ref.injEq, V.str.injEq, V.ty.injEq, List.cons.injEq, exists_eq_left', exists_eq_left, exists_eq_right, exists_and_left, exists_and_right, and_true, true_and, and_assoc, exists_const, decide_eq_true_eq, Bool.not_eq_true', Bool.not_true, Bool.not_false, Bool.not_not, decide_eq_false_iff_not, ite_not, Bool.false_eq_true, if_true, if_false, reduceCtorEq, and_false, false_and, exists_false, or_false, false_or, ↓reduceIte, eq_self, reduceIte]
  refine ⟨_, _, _, _, _, rfl, S1.seq hS, SqL.of LK, TK.kna, ok.l1, ok.l4, fun pl H2 px ps S2 hpl LP TP p1 p6 gp => ?_⟩
  have S02 := S1.trans S2
  have pok : ∀ p ∈ ps, okKind p.1 ∧ 1 ≤ p.2 := fun p hp => ⟨ok.name _ (gp p hp).1, (gp p hp).2.1⟩
  have PA : PrtAll K H2 px ps := TP.prt pok
  replace LK := S2 _ _ LK
  have KA : KnA K H2 kx ks := TpD.kna (TK.same S2)
  have lk := KA.length
  have lp := PA.length
  have k1 := ok.l1
  have k4 := ok.l4
  simp only [tTryN, rSlS, rMulS, rCatS, iZipL, rInsert, rReverse, tDNewX, tTry, tRaise, iEnumL, iEnumT, iZip, iSeq, iOr, rIx, iStr, rLeS, rJoin, rSlTA, tComp_eq, tComp1, slots, Option.getD_some, Option.getD_none, tYes, tSeq, tAsg, gName, tOp, tUn, tC, tVar, tCB, tCons, tNil, tCall, rI, rI0, rU, tRet, tRetN, tIfS, tTest, tB, tAnd, tOr, tNot, tAndV, tOrV, tNotV, tIf, tChain, tMenu, tPar, tDrop, tTup, tLst, tNext, tSl, tPart, tNoPart, tNever, gTup, gCons, gNil, gSub, rSetL, tBM, rAppend, rEq, rNe, rIsi, rIxL, rIxT, rIxS, rSlL, isi_non_bl, isi_non_int, isi_non_str, isi_non_lst, isi_non_tup, isi_bl_bl, isi_bl_int, isi_bl_str, isi_bl_lst, isi_bl_tup, isi_int_bl, isi_int_int, isi_int_str, isi_int_lst, isi_int_tup, isi_str_bl, isi_str_int, isi_str_str, isi_str_lst, isi_str_tup, isi_lst_bl, isi_lst_int, isi_lst_str, isi_lst_lst, isi_lst_tup, isi_tup_bl, isi_tup_int, isi_tup_str, isi_tup_lst, isi_tup_tup, isi_dct_bl, isi_dct_int, isi_dct_str, isi_dct_lst, isi_dct_tup, Kd_non, Kd_bl, Kd_int, Kd_str, sc_non_non, sc_non_int, sc_int_non, sc_non_bl, sc_bl_non, sc_non_str, sc_str_non, sc_int_int, sc_bl_bl, sc_str_str, sc_int_str, sc_str_int, sc_bl_str, sc_str_bl, decide_true, decide_false, tFor_eq, iList, iTup, iRng1, iRng2, iRng3, rIndexT, tBM0, tBMT, tyK_int, tyK_bool, tyK_str, tyK_list, tyK_tuple, L2.start, cxK, Int.reduceToNat, List.map_cons, List.map_nil, List.length_cons, List.length_nil, Nat.reduceAdd, Nat.reduceSub, Nat.zero_add, List.replicate_succ, List.replicate_zero, List.cons_append, List.nil_append, List.append_nil, List.getElem?_cons_zero, List.getElem?_cons_succ, List.set_cons_zero, List.set_cons_succ, Option.some.injEq, V.int.injEq, V.bl.injEq, V.ref.injEq, V.str.injEq, V.ty.injEq, List.cons.injEq, exists_eq_left', exists_eq_left, exists_eq_right, exists_and_left, exists_and_right, and_true, true_and, and_assoc, exists_const, decide_eq_true_eq, Bool.not_eq_true', Bool.not_true, Bool.not_false, Bool.not_not, decide_eq_false_iff_not, ite_not, Bool.false_eq_true, if_true, if_false, reduceCtorEq, and_false, false_and, exists_false, or_false, false_or, ↓reduceIte, eq_self, reduceIte]
  refine spCellAt_of (S02.seq hS) (by decide) ?_
  obtain ⟨c, hc⟩ : ∃ c : Int, cellAt ns 12 = c := ⟨_, rfl⟩
  rw [hc]
  refine ⟨_, .inl (SqL.of LP), fun wl hwl => ?_⟩
  obtain ⟨H3, g3, S3, LW⟩ : ∃ H3, H3 = upd H2 wl (.lst px) ∧ Same H2 H3 ∧ H3 wl = some (.lst px) := ⟨_, rfl, same_new hwl _, upd_same⟩
  rw [← g3]
  clear g3
  refine ⟨.inl ⟨rfl, _, SqL.of LW⟩, _, .inl (SqL.of (S3 _ _ LP)), _, rfl, by omega, ?_⟩
  refine spCellAt_of ((S02.trans S3).seq hS) (by decide) ?_
  refine ⟨_, _, _, _, rfl, SqL.of (S3 _ _ LK), KA.same S3, k1, k4, ok.name, fun v H4 S4 OD => ?_⟩
  have m0 := Int.emod_nonneg c (show (px.length : Int) + 1 ≠ 0 by omega)
  have m1 := Int.emod_lt_of_pos c (show 0 < (px.length : Int) + 1 by omega)
  obtain ⟨m, hm⟩ : ∃ m : Nat, c % ((px.length : Int) + 1) = m := ⟨(c % ((px.length : Int) + 1)).toNat, by omega⟩
  refine ⟨px, m, hm, S4 _ _ LW, by omega, Nat.lt_of_lt_of_le (m := 64) (by omega) (by decide), ?_⟩
  obtain ⟨H5, g5, S5, L5, OD5⟩ : ∃ H5, H5 = upd H4 wl (.lst (px.take m ++ v :: px.drop m)) ∧ Same H2 H5 ∧ H5 wl = some (.lst (px.take m ++ v :: px.drop m)) ∧ Odd K H5 ks v := ⟨_, rfl, same_upd (S3.trans S4) hwl _, upd_same, Odd.upd OD (S4 _ _ LW)⟩
  rw [← g5]
  clear g5
  refine ⟨_, .inl (SqL.of (S5 _ _ LK)), fun k2 hk2 => ?_⟩
  obtain ⟨H6, g6, S6, LK2⟩ : ∃ H6, H6 = upd H5 k2 (.lst kx) ∧ Same H5 H6 ∧ H6 k2 = some (.lst kx) := ⟨_, rfl, same_new hk2 _, upd_same⟩
  rw [← g6]
  clear g6
  have S26 := S5.trans S6
  refine ⟨_, _, _, _, rfl, SqL.of LK2, KA.same S26, ok.name, k4, wrong_bad (SqL.of (S6 _ _ L5)) (PA.same S26) gp p6 (OD5.same S6), fun H7 S7 => ⟨_, rfl, ?_⟩⟩
  rw [if_neg (by decide)]
  have S27 := S26.trans S7
  refine ⟨_, _, _, _, rfl, SqL.of (S27 _ _ LK), KA.same S27, ok.name, k4, wrong_bad (SqL.of (S7 _ _ (S6 _ _ L5))) (PA.same S27) gp p6 (OD5.same (S6.trans S7)), fun H8 S8 => ⟨_, rfl, ?_⟩⟩
  rw [if_neg (by decide)]
  have S28 := S27.trans S8
  refine ⟨by decide, by decide, fun D hD => ?_⟩
  obtain ⟨Pc, hC⟩ : ∃ Pc : Nat → St → Hp → Prop, Pc = fun i τ H' => ∃ z, H' D = some (.lst (((List.range i).map (· % px.length)).map fun i => px.getD i .non)) ∧ Same H8 H' ∧ τ = [some (.ref pl), z] := ⟨_, rfl⟩
  refine compS_range Pc ?_ ?_ ?_
  · rw [hC]
    exact ⟨_, upd_same, same_new hD _, rfl⟩
  · intro i τ H' R' hi h next
    rw [hC] at h
    obtain ⟨z, d1, d2, rfl⟩ := h
    simp only [tTryN, rSlS, rMulS, rCatS, iZipL, rInsert, rReverse, tDNewX, tTry, tRaise, iEnumL, iEnumT, iZip, iSeq, iOr, rIx, iStr, rLeS, rJoin, rSlTA, tComp_eq, tComp1, slots, Option.getD_some, Option.getD_none, tYes, tSeq, tAsg, gName, tOp, tUn, tC, tVar, tCB, tCons, tNil, tCall, rI, rI0, rU, tRet, tRetN, tIfS, tTest, tB, tAnd, tOr, tNot, tAndV, tOrV, tNotV, tIf, tChain, tMenu, tPar, tDrop, tTup, tLst, tNext, tSl, tPart, tNoPart, tNever, gTup, gCons, gNil, gSub, rSetL, tBM, rAppend, rEq, rNe, rIsi, rIxL, rIxT, rIxS, rSlL, isi_non_bl, isi_non_int, isi_non_str, isi_non_lst, isi_non_tup, isi_bl_bl, isi_bl_int, isi_bl_str, isi_bl_lst, isi_bl_tup, isi_int_bl, isi_int_int, isi_int_str, isi_int_lst, isi_int_tup, isi_str_bl, isi_str_int, isi_str_str, isi_str_lst, isi_str_tup, isi_lst_bl, isi_lst_int, isi_lst_str, isi_lst_lst, isi_lst_tup, isi_tup_bl, isi_tup_int, isi_tup_str, isi_tup_lst, isi_tup_tup, isi_dct_bl, isi_dct_int, isi_dct_str, isi_dct_lst, isi_dct_tup, Kd_non, Kd_bl, Kd_int, Kd_str, sc_non_non, sc_non_int, sc_int_non, sc_non_bl, sc_bl_non, sc_non_str, sc_str_non, sc_int_int, sc_bl_bl, sc_str_str, sc_int_str, sc_str_int, sc_bl_str, sc_str_bl, decide_true, decide_false, tFor_eq, iList, iTup, iRng1, iRng2, iRng3, rIndexT, tBM0, tBMT, tyK_int, tyK_bool, tyK_str, tyK_list, tyK_tuple, L2.start, cxK, Int.reduceToNat, List.map_cons, List.map_nil, List.length_cons, List.length_nil, Nat.reduceAdd, Nat.reduceSub, Nat.zero_add, List.replicate_succ, List.replicate_zero, List.cons_append, List.nil_append, List.append_nil, List.getElem?_cons_zero, List.getElem?_cons_succ, List.set_cons_zero, List.set_cons_succ, Option.some.injEq, V.int.injEq, V.bl.injEq, V.ref.injEq, V.str.injEq, V.ty.injEq, List.cons.injEq, exists_eq_left', exists_eq_left, exists_eq_right, exists_and_left, exists_and_right, and_true, true_and, and_assoc, exists_const, decide_eq_true_eq, Bool.not_eq_true', Bool.not_true, Bool.not_false, Bool.not_not, decide_eq_false_iff_not, ite_not, Bool.false_eq_true, if_true, if_false, reduceCtorEq, and_false, false_and, exists_false, or_false, false_or, ↓reduceIte, eq_self, reduceIte]
    have im : i % px.length < px.length := Nat.mod_lt _ (by omega)
    have hx : px[i % px.length]? = some (px.getD (i % px.length) .non) := by rw [List.getElem?_eq_getElem im, List.getD_eq_getElem?_getD, List.getElem?_eq_getElem im]; rfl
    have L' : SqL K H' pl px := SqL.of ((S28.trans d2) _ _ LP)
    refine ⟨_, .inl L', by omega, _, L', _, (by rw [Int.zero_add, ← Int.natCast_emod]; exact atI_nat hx), _, d1, ?_, next _ _ ?_⟩
    · rw [List.length_map, List.length_map, List.length_range]
      exact Nat.lt_of_lt_of_le (m := 64) (by omega) (by decide)
    · rw [hC]
      refine ⟨_, ?_, same_upd d2 hD _, rfl⟩
      rw [upd_same, List.range_succ, List.map_append, List.map_append]
      rfl
  intro τ H9 h
  rw [hC] at h
  obtain ⟨z, LM, S9, rfl⟩ := h
  clear hC Pc
  have S29 := S28.trans S9
  have mi : ∀ i ∈ (List.range 41).map (· % px.length), i < px.length := fun i hi => by
    obtain ⟨j, _, rfl⟩ := List.mem_map.mp hi
    exact Nat.mod_lt _ (by omega)
  have PM := (PA.same S29).pick mi
  obtain ⟨mx, hmx⟩ : ∃ mx, ((List.range 41).map (· % px.length)).map (fun i => px.getD i V.non) = mx := ⟨_, rfl⟩
  obtain ⟨mp, hmp⟩ : ∃ mp, ((List.range 41).map (· % px.length)).map (fun i => ps.getD i (([], []), 0)) = mp := ⟨_, rfl⟩
  have gm : GoodP9 ks mp := fun p hp => by
    rw [← hmp] at hp
    obtain ⟨i, hi, rfl⟩ := List.mem_map.mp hp
    have li := mi i hi
    refine gp _ ?_
    rw [List.getD_eq_getElem?_getD, List.getElem?_eq_getElem (show i < ps.length by omega)]
    exact List.getElem_mem _
  have lm : mx.length = 41 := by rw [← hmx, List.length_map, List.length_map, List.length_range]
  have lm' : mp.length = 41 := by rw [← hmp, List.length_map, List.length_map, List.length_range]
  rw [hmx] at LM
  rw [hmx, hmp] at PM
  clear hmx hmp mi
  refine ⟨by decide, fun e0 he0 => ?_⟩
  obtain ⟨H10, g10, S10, L10⟩ := fresh_lst (K := K) he0 []
  rw [← g10]
  clear g10
  refine ⟨_, .inl ⟨SqL.of ((S29.trans S10) _ _ LP), fun tt htt => ?_⟩⟩
  obtain ⟨H11, g11, S11, T11⟩ := fresh_tup (K := K) htt px
  rw [← g11]
  clear g11
  have S211 := S29.trans (S10.trans S11)
  obtain ⟨x0, hx0⟩ : ∃ x, px[0]? = some x := ⟨px[0]'(by omega), List.getElem?_eq_getElem _⟩
  obtain ⟨pa0, q0, rfl, hq0, Tp0, okp0, _⟩ := (PA.same S211).at hx0
  refine ⟨_, SqL.of (S211 _ _ LP), _, (show atI px ((0 : Nat) : Int) = some _ from atI_nat hx0), fun dd hdd => ?_⟩
  obtain ⟨H12, g12, S12, T12⟩ := fresh_dct (K := K) hdd
  rw [← g12]
  clear g12
  have S212 := S211.trans S12
  have S912 := S10.trans (S11.trans S12)
  refine ⟨by decide, spCellAt_of ((S02.trans S212).seq hS) (by decide) ⟨_, rfl, by decide, by omega, ?_⟩⟩
  have i0 := Int.emod_nonneg (cellAt ns 14) (show (8 : Int) ≠ 0 by decide)
  have i1 := Int.emod_lt_of_pos (cellAt ns 14) (show (0 : Int) < 8 by decide)
  obtain ⟨i, hi, li⟩ : ∃ i : Nat, (cellAt ns 14 % 8).toNat = i ∧ i < 8 := ⟨_, rfl, by omega⟩
  rw [hi]
  obtain ⟨v2, hv2⟩ : ∃ v, ([V.ref e0, V.ref D, V.ref tt, V.ref pa0, V.non, V.str (Str.ofString "parts"), V.int 7, V.ref dd] : List V)[i]? = some v := ⟨_, List.getElem?_eq_getElem (by show i < 8; omega)⟩
  have all : ∀ v ∈ [V.ref e0, V.ref D, V.ref tt, V.ref pa0, V.non, V.str (Str.ofString "parts"), V.int 7, V.ref dd], PartsV K H12 v false := by
    simp only [List.forall_mem_cons]
    refine ⟨.len ((S11.trans S12).seq L10) (by decide), .len (SqL.of (S912 _ _ LM)) (by omega), .no (Kd.tup (Same.tup S12 T11)) (by decide), .no (Kd.tup (Same.tup S12 Tp0)) (by decide), .no (show Kd K _ .non .non from rfl) (by decide), .no (show Kd K _ (.str _) .str from rfl) (by decide), .no (show Kd K _ (.int 7) .int from rfl) (by decide), .no T12 (by decide), fun _ h => by cases h⟩
  refine ⟨v2, hv2, _, _, _, _, rfl, SqL.of (S212 _ _ LK), KA.same S212, ok.name, k4, .inl (all v2 (List.mem_of_getElem? hv2)), fun H13 S13 => ⟨_, rfl, ?_⟩⟩
  rw [if_neg (by decide)]
  have S913 := S912.trans S13
  have S213 := S29.trans S913
  refine ⟨_, rfl, _, SqL.of (S913 _ _ LM), fun m2 hm2 => ?_⟩
  have ec : cutV mx none (some 40) = mx.take 40 := cut_to (n := 40)
  rw [ec]
  obtain ⟨H14, g14, S14, L14⟩ := fresh_lst (K := K) hm2 (mx.take 40)
  rw [← g14]
  clear g14
  have S214 := S213.trans S14
  have e9 : (10 ^ 9 : Int) = 1000000000 := by decide
  have e15 : (10 ^ 15 : Int) = 1000000000000000 := by decide
  have sm40 : ((mp.take 40).map (·.2)).sum ≤ 10 ^ 15 := by
    have := sum_top9 (n := 10 ^ 9) (ps := mp.take 40) fun p hp => (gm p (List.mem_of_mem_take hp)).2.2
    rw [List.length_take, lm', e9] at this
    rw [e15]
    omega
  refine ⟨_, _, _, _, _, _, rfl, SqL.of (S214 _ _ LK), KA.same S214, ok.name, k4, L14, ((PM.same (S913.trans S14)).take 40), by rw [List.length_take]; omega, by rw [List.length_take]; omega, sm40, fun p hp => (gm p (List.mem_of_mem_take hp)).1, fun H15 S15 => ⟨_, rfl, ?_⟩⟩
  rw [if_neg (by decide)]
  have S215 := S214.trans S15
  refine ⟨⟨_, SqL.of (S215 _ _ LP)⟩, fun D2 hD2 => ?_⟩
  obtain ⟨Pc, hC⟩ : ∃ Pc : Nat → St → Hp → Prop, Pc = fun i τ H' => ∃ z, H' D2 = some (.lst (((ps.map (·.2)).take i).map V.int)) ∧ Same H15 H' ∧ τ = [z] := ⟨_, rfl⟩
  refine compS_list px Pc ?_ (fun i τ H' _ h => by rw [hC] at h; obtain ⟨z, _, e, _⟩ := h; exact SqL.of ((S215.trans e) _ _ LP)) ?_ ?_
  · rw [hC]
    exact ⟨_, upd_same, same_new hD2 _, rfl⟩
  · intro i x τ H' R' hx h next
    rw [hC] at h
    obtain ⟨z, d1, d2, rfl⟩ := h
    obtain ⟨p, pq, rfl, hp, Tp, _⟩ := (PA.same (S215.trans d2)).at hx
    have li : i < px.length := (List.getElem?_eq_some_iff.mp hx).1
    simp only [tTryN, rSlS, rMulS, rCatS, iZipL, rInsert, rReverse, tDNewX, tTry, tRaise, iEnumL, iEnumT, iZip, iSeq, iOr, rIx, iStr, rLeS, rJoin, rSlTA, tComp_eq, tComp1, slots, Option.getD_some, Option.getD_none, tYes, tSeq, tAsg, gName, tOp, tUn, tC, tVar, tCB, tCons, tNil, tCall, rI, rI0, rU, tRet, tRetN, tIfS, tTest, tB, tAnd, tOr, tNot, tAndV, tOrV, tNotV, tIf, tChain, tMenu, tPar, tDrop, tTup, tLst, tNext, tSl, tPart, tNoPart, tNever, gTup, gCons, gNil, gSub, rSetL, tBM, rAppend, rEq, rNe, rIsi, rIxL, rIxT, rIxS, rSlL, isi_non_bl, isi_non_int, isi_non_str, isi_non_lst, isi_non_tup, isi_bl_bl, isi_bl_int, isi_bl_str, isi_bl_lst, isi_bl_tup, isi_int_bl, isi_int_int, isi_int_str, isi_int_lst, isi_int_tup, isi_str_bl, isi_str_int, isi_str_str, isi_str_lst, isi_str_tup, isi_lst_bl, isi_lst_int, isi_lst_str, isi_lst_lst, isi_lst_tup, isi_tup_bl, isi_tup_int, isi_tup_str, isi_tup_lst, isi_tup_tup, isi_dct_bl, isi_dct_int, isi_dct_str, isi_dct_lst, isi_dct_tup, Kd_non, Kd_bl, Kd_int, Kd_str, sc_non_non, sc_non_int, sc_int_non, sc_non_bl, sc_bl_non, sc_non_str, sc_str_non, sc_int_int, sc_bl_bl, sc_str_str, sc_int_str, sc_str_int, sc_bl_str, sc_str_bl, decide_true, decide_false, tFor_eq, iList, iTup, iRng1, iRng2, iRng3, rIndexT, tBM0, tBMT, tyK_int, tyK_bool, tyK_str, tyK_list, tyK_tuple, L2.start, cxK, Int.reduceToNat, List.map_cons, List.map_nil, List.length_cons, List.length_nil, Nat.reduceAdd, Nat.reduceSub, Nat.zero_add, List.replicate_succ, List.replicate_zero, List.cons_append, List.nil_append, List.append_nil, List.getElem?_cons_zero, List.getElem?_cons_succ, List.set_cons_zero, List.set_cons_succ, Option.some.injEq, V.int.injEq, V.bl.injEq, V.ref.injEq, V.str.injEq, V.ty.injEq, List.cons.injEq, exists_eq_left', exists_eq_left, exists_eq_right, exists_and_left, exists_and_right, and_true, true_and, and_assoc, exists_const, decide_eq_true_eq, Bool.not_eq_true', Bool.not_true, Bool.not_false, Bool.not_not, decide_eq_false_iff_not, ite_not, Bool.false_eq_true, if_true, if_false, reduceCtorEq, and_false, false_and, exists_false, or_false, false_or, ↓reduceIte, eq_self, reduceIte]
    refine ⟨_, Tp, _, rfl, _, d1, ?_, next _ _ ?_⟩
    · rw [List.length_map, List.length_take, List.length_map]
      exact Nat.lt_of_lt_of_le (m := 64) (by omega) (by decide)
    · rw [hC]
      refine ⟨_, ?_, same_upd d2 hD2 _, rfl⟩
      rw [upd_same, List.take_add_one, List.getElem?_map, hp, List.map_append]
      rfl
  intro τ H16 h
  rw [hC] at h
  obtain ⟨z2, d1, S16, rfl⟩ := h
  clear hC Pc
  rw [List.take_of_length_le (by rw [List.length_map]; omega)] at d1
  have S216 := S215.trans S16
  obtain ⟨tg, htg⟩ : ∃ tg : Int, (ps.map (·.2)).sum = tg := ⟨_, rfl⟩
  have tg0 : tg ≤ 6000000000 := by
    have := sum_top9 (n := 10 ^ 9) fun p hp => (gp p hp).2.2
    rw [e9, htg] at this
    omega
  have tg1 : 1 ≤ tg := by
    have := sum_ge (ps := ps) fun p hp => (gp p hp).2.1
    omega
  simp only [tTryN, rSlS, rMulS, rCatS, iZipL, rInsert, rReverse, tDNewX, tTry, tRaise, iEnumL, iEnumT, iZip, iSeq, iOr, rIx, iStr, rLeS, rJoin, rSlTA, tComp_eq, tComp1, slots, Option.getD_some, Option.getD_none, tYes, tSeq, tAsg, gName, tOp, tUn, tC, tVar, tCB, tCons, tNil, tCall, rI, rI0, rU, tRet, tRetN, tIfS, tTest, tB, tAnd, tOr, tNot, tAndV, tOrV, tNotV, tIf, tChain, tMenu, tPar, tDrop, tTup, tLst, tNext, tSl, tPart, tNoPart, tNever, gTup, gCons, gNil, gSub, rSetL, tBM, rAppend, rEq, rNe, rIsi, rIxL, rIxT, rIxS, rSlL, isi_non_bl, isi_non_int, isi_non_str, isi_non_lst, isi_non_tup, isi_bl_bl, isi_bl_int, isi_bl_str, isi_bl_lst, isi_bl_tup, isi_int_bl, isi_int_int, isi_int_str, isi_int_lst, isi_int_tup, isi_str_bl, isi_str_int, isi_str_str, isi_str_lst, isi_str_tup, isi_lst_bl, isi_lst_int, isi_lst_str, isi_lst_lst, isi_lst_tup, isi_tup_bl, isi_tup_int, isi_tup_str, isi_tup_lst, isi_tup_tup, isi_dct_bl, isi_dct_int, isi_dct_str, isi_dct_lst, isi_dct_tup, Kd_non, Kd_bl, Kd_int, Kd_str, sc_non_non, sc_non_int, sc_int_non, sc_non_bl, sc_bl_non, sc_non_str, sc_str_non, sc_int_int, sc_bl_bl, sc_str_str, sc_int_str, sc_str_int, sc_bl_str, sc_str_bl, decide_true, decide_false, tFor_eq, iList, iTup, iRng1, iRng2, iRng3, rIndexT, tBM0, tBMT, tyK_int, tyK_bool, tyK_str, tyK_list, tyK_tuple, L2.start, cxK, Int.reduceToNat, List.map_cons, List.map_nil, List.length_cons, List.length_nil, Nat.reduceAdd, Nat.reduceSub, Nat.zero_add, List.replicate_succ, List.replicate_zero, List.cons_append, List.nil_append, List.append_nil, List.getElem?_cons_zero, List.getElem?_cons_succ, List.set_cons_zero, List.set_cons_succ, Option.some.injEq, V.int.injEq, V.bl.injEq, V.ref.injEq, V.str.injEq, V.ty.injEq, List.cons.injEq, exists_eq_left', exists_eq_left, exists_eq_right, exists_and_left, exists_and_right, and_true, true_and, and_assoc, exists_const, decide_eq_true_eq, Bool.not_eq_true', Bool.not_true, Bool.not_false, Bool.not_not, decide_eq_false_iff_not, ite_not, Bool.false_eq_true, if_true, if_false, reduceCtorEq, and_false, false_and, exists_false, or_false, false_or, ↓reduceIte, eq_self, reduceIte]
  have kpos : (0 : Int) < (kx.length : Int) := by omega
  have e0' := Int.emod_nonneg (c / 7) (Int.ne_of_gt kpos)
  have e1' := Int.emod_lt_of_pos (c / 7) kpos
  obtain ⟨j, hj⟩ : ∃ j : Nat, c / 7 % (kx.length : Int) = j := ⟨(c / 7 % (kx.length : Int)).toNat, by omega⟩
  obtain ⟨xk, hxk⟩ : ∃ x, kx[j]? = some x := ⟨kx[j]'(by omega), List.getElem?_eq_getElem _⟩
  obtain ⟨kp, k, rfl, hk, Tk⟩ := (KA.same S216).at hxk
  refine ⟨_, SqL.of d1, cdiv (by decide) (by decide), _, .inl (SqL.of (S216 _ _ LK)), kpos, _, SqL.of (S216 _ _ LK), _, (by rw [hj]; exact atI_nat hxk), _, rfl, _, Tk, rfl, _, _, rfl, _, _, rfl, rfl, _, .inl (SqL.of (S216 _ _ LP)), fun gl hgl => ?_⟩
  rw [htg]
  obtain ⟨H17, g17, S17, LG⟩ : ∃ H17, H17 = upd H16 gl (.lst px) ∧ Same H16 H17 ∧ H17 gl = some (.lst px) := ⟨_, rfl, same_new hgl _, upd_same⟩
  rw [← g17]
  clear g17
  refine ⟨.inl ⟨rfl, _, SqL.of LG⟩, cdiv (by decide) (by decide), _, .inl (SqL.of (S17 _ _ (S216 _ _ LP))), by omega, cpow, by decide, fun t ht => ?_⟩
  obtain ⟨bg, hbg⟩ : ∃ bg : Int, 10 ^ 15 - tg = bg := ⟨_, rfl⟩
  first | rw [hbg] | (rw [show (10 ^ Int.toNat 15 - tg : Int) = bg from hbg])
  obtain ⟨H18, g18, S18, T18⟩ : ∃ H18, H18 = upd H17 t (.tup (pRow (k, bg))) ∧ Same H17 H18 ∧ H18 t = some (.tup (pRow (k, bg))) := ⟨_, rfl, same_new ht _, upd_same⟩
  have g18' : H18 = upd H17 t (.tup [V.str (txt k.1), V.str (txt k.2), V.int bg]) := g18
  rw [← g18']
  clear g18 g18'
  have n0 := Int.emod_nonneg (c / 9) (show (px.length : Int) + 1 ≠ 0 by omega)
  have n1 := Int.emod_lt_of_pos (c / 9) (show 0 < (px.length : Int) + 1 by omega)
  obtain ⟨m2, hm2⟩ : ∃ m : Nat, c / 9 % ((px.length : Int) + 1) = m := ⟨(c / 9 % ((px.length : Int) + 1)).toNat, by omega⟩
  refine ⟨px, m2, hm2, S18 _ _ LG, by omega, Nat.lt_of_lt_of_le (m := 64) (by omega) (by decide), ?_⟩
  obtain ⟨gx, hgx⟩ : ∃ gx, px.take m2 ++ V.ref t :: px.drop m2 = gx := ⟨_, rfl⟩
  rw [hgx]
  obtain ⟨H19, g19, S1619, LG19, T19⟩ : ∃ H19, H19 = upd H18 gl (.lst gx) ∧ Same H16 H19 ∧ H19 gl = some (.lst gx) ∧ H19 t = some (.tup (pRow (k, bg))) := ⟨_, rfl, same_upd (S17.trans S18) hgl _, upd_same, tup_upd (S18 _ _ LG) T18⟩
  rw [← g19]
  clear g19
  have S219 := S216.trans S1619
  have kin := List.mem_of_getElem? hk
  have PA19 := PA.same S219
  have PG : PrtAll K H19 gx (ps.take m2 ++ (k, bg) :: ps.drop m2) := by
    rw [← hgx]
    exact (PA19.take m2).append (.cons (SqT.of T19) (ok.name _ kin) (show 1 ≤ bg by rw [e15] at hbg; omega) (PA19.drop m2))
  obtain ⟨gs, hgs⟩ : ∃ gs, ps.take m2 ++ (k, bg) :: ps.drop m2 = gs := ⟨_, rfl⟩
  rw [hgs] at PG
  have sg : (gs.map (·.2)).sum = 10 ^ 15 := by
    rw [← hgs, sum_ins (fun p : Pt => p.2), htg]
    show tg + bg = 10 ^ 15
    omega
  have ing : ∀ p ∈ gs, p.1 ∈ ks := fun p hp => by
    rw [← hgs] at hp
    rcases List.mem_append.mp hp with hp | hp
    · exact (gp p (List.mem_of_mem_take hp)).1
    · rcases List.mem_cons.mp hp with hp | hp
      · rw [hp]
        exact kin
      · exact (gp p (List.mem_of_mem_drop hp)).1
  have lgx : gx.length = px.length + 1 := by
    rw [← hgx]
    simp only [List.length_append, List.length_cons, List.length_take, List.length_drop]
    omega
  have lgs := PG.length
  refine ⟨_, _, _, _, _, _, rfl, SqL.of (S219 _ _ LK), KA.same S219, ok.name, k4, SqL.of LG19, PG, by omega, by omega, by rw [sg]; exact Int.le_refl _, ing, fun H20 S20 => ⟨_, rfl, ?_⟩⟩
  rw [if_neg (by decide)]
  have S220 := S219.trans S20
  obtain ⟨xk0, hxk0⟩ : ∃ x, kx[0]? = some x := ⟨kx[0]'(by omega), List.getElem?_eq_getElem _⟩
  obtain ⟨kp0, k0, rfl, hk0, Tk0⟩ := (KA.same S220).at hxk0
  have a0 : atI kx 0 = some (V.ref kp0) := show atI kx ((0 : Nat) : Int) = some _ from atI_nat hxk0
  have LG20 := S20 _ _ LG19
  refine ⟨.inl ⟨rfl, _, SqL.of LG20⟩, _, SqL.of (S220 _ _ LK), _, a0, _, rfl, _, Tk0, _, rfl, _, SqL.of (S220 _ _ LK), _, a0, _, rfl, _, Tk0, _, rfl, by decide, fun t2 ht2 => ?_⟩
  obtain ⟨H21, g21, S21, T21⟩ : ∃ H21, H21 = upd H20 t2 (.tup (pRow (k0, 1))) ∧ Same H20 H21 ∧ H21 t2 = some (.tup (pRow (k0, 1))) := ⟨_, rfl, same_new ht2 _, upd_same⟩
  have g21' : H21 = upd H20 t2 (.tup [V.str (txt k0.1), V.str (txt k0.2), V.int 1]) := g21
  rw [← g21']
  clear g21 g21'
  refine ⟨_, S21 _ _ LG20, Nat.lt_of_lt_of_le (m := 64) (by omega) (by decide), ?_⟩
  obtain ⟨H22, g22, S1622, LG22, PG22⟩ : ∃ H22, H22 = upd H21 gl (.lst (gx ++ [.ref t2])) ∧ Same H16 H22 ∧ H22 gl = some (.lst (gx ++ [.ref t2])) ∧ PrtAll K H22 (gx ++ [.ref t2]) (gs ++ [(k0, 1)]) :=
    ⟨_, rfl, same_upd (S1619.trans (S20.trans S21)) hgl _, upd_same, PrtAll.append ((PG.same (S20.trans S21)).upd (S21 _ _ LG20)) (.cons (SqT.of (tup_upd (S21 _ _ LG20) T21)) (ok.name _ (List.mem_of_getElem? hk0)) (show (1 : Int) ≤ 1 by decide) .nil)⟩
  rw [← g22]
  clear g22
  have S222 := S216.trans S1622
  have bad : PartsV K H22 (.ref gl) false := by
    have := PartsV.good (SqL.of LG22) (by rw [List.length_append]; omega) (by rw [List.length_append]; show _ + 1 ≤ 40; omega) PG22
    rw [List.map_append, List.sum_append, sg] at this
    have e : decide ((10 : Int) ^ 15 + (List.map (fun x : Pt => x.2) [(k0, 1)]).sum ≤ 10 ^ 15) = false := decide_eq_false fun h => by
      have h' : (10 : Int) ^ 15 + (1 + 0) ≤ 10 ^ 15 := h
      rw [e15] at h'
      omega
    rw [e] at this
    exact this
  refine ⟨_, _, _, _, rfl, SqL.of (S222 _ _ LK), KA.same S222, ok.name, k4, .inl bad, fun H23 S23 => ⟨_, rfl, ?_⟩⟩
  rw [if_pos rfl]
  have S223 := S222.trans S23
  exact ⟨_, _, _, _, _, _, rfl, SqL.of (S223 _ _ LK), KA.same S223, ok.name, k4, SqL.of (S223 _ _ LP), PA.same S223, by omega, by omega, by rw [htg, e15]; omega, fun p hp => (gp p hp).1, fun H24 S24 => q _⟩
end

theorem all_mk {l : PySem.W.OpenLaw} {w : World} {K : PySem.W.Frag} {h : Heap} {mg : Str → Option Value} {fa f1 f2 f3 f4 f5 f6 f7 f8 f9 f10 f11 f12 f13 f14 f15 f16 : Addr} (X : K.In h) (G : h.Ns mainGlobals mg) (hfa : mg "law" = some (.ref fa))
    {od1 an1 od2 an2 od3 an3 od4 an4 od5 an5 od6 an6 od7 an7 od8 an8 od9 an9 od10 an10 od11 an11 od12 an12 od13 an13 od14 an14 od15 an15 od16 an16 : Option Addr} {sl1 sl2 sl3 sl4 sl5 sl6 sl7 sl8 sl9 sl10 sl11 sl12 sl13 sl14 sl15 sl16 : Array (Option Value)} {oc1 kV1 dc1 pm1 cd1 ct1 oc2 kV2 dc2 pm2 cd2 ct2 oc3 kV3 dc3 pm3 cd3 ct3 oc4 kV4 dc4 pm4 cd4 ct4 oc5 kV5 dc5 pm5 cd5 ct5 oc6 kV6 dc6 pm6 cd6 ct6 oc7 kV7 dc7 pm7 cd7 ct7 oc8 kV8 dc8 pm8 cd8 ct8 oc9 kV9 dc9 pm9 cd9 ct9 oc10 kV10 dc10 pm10 cd10 ct10 oc11 kV11 dc11 pm11 cd11 ct11 oc12 kV12 dc12 pm12 cd12 ct12 oc13 kV13 dc13 pm13 cd13 ct13 oc14 kV14 dc14 pm14 cd14 ct14 oc15 kV15 dc15 pm15 cd15 ct15 oc16 kV16 dc16 pm16 cd16 ct16 : Value}
    (a1 : PySem.W.nsIn K mainGlobals "is_whole" = some (some (.ref f1))) (l1 : K.lookup f1 = some ⟨oc1, od1, .func (PySem.W.fnOf "is_whole" "is_whole" (defArgs s_is_whole) (defBody s_is_whole) (defScope s_is_whole) .none kV1 dc1 pm1 an1 cd1 ct1), sl1⟩) (c1 : PySem.W.codeIn K cd1 "is_whole" = true) (k1 : PySem.W.keepIn K (.ref f1) = true)
    (a2 : PySem.W.nsIn K mainGlobals "is_name" = some (some (.ref f2))) (l2 : K.lookup f2 = some ⟨oc2, od2, .func (PySem.W.fnOf "is_name" "is_name" (defArgs s_is_name) (defBody s_is_name) (defScope s_is_name) .none kV2 dc2 pm2 an2 cd2 ct2), sl2⟩) (c2 : PySem.W.codeIn K cd2 "is_name" = true) (k2 : PySem.W.keepIn K (.ref f2) = true)
    (a3 : PySem.W.nsIn K mainGlobals "is_kind" = some (some (.ref f3))) (l3 : K.lookup f3 = some ⟨oc3, od3, .func (PySem.W.fnOf "is_kind" "is_kind" (defArgs s_is_kind) (defBody s_is_kind) (defScope s_is_kind) .none kV3 dc3 pm3 an3 cd3 ct3), sl3⟩) (c3 : PySem.W.codeIn K cd3 "is_kind" = true) (k3 : PySem.W.keepIn K (.ref f3) = true)
    (a4 : PySem.W.nsIn K mainGlobals "is_part" = some (some (.ref f4))) (l4 : K.lookup f4 = some ⟨oc4, od4, .func (PySem.W.fnOf "is_part" "is_part" (defArgs s_is_part) (defBody s_is_part) (defScope s_is_part) .none kV4 dc4 pm4 an4 cd4 ct4), sl4⟩) (c4 : PySem.W.codeIn K cd4 "is_part" = true) (k4 : PySem.W.keepIn K (.ref f4) = true)
    (a5 : PySem.W.nsIn K mainGlobals "are_parts" = some (some (.ref f5))) (l5 : K.lookup f5 = some ⟨oc5, od5, .func (PySem.W.fnOf "are_parts" "are_parts" (defArgs s_are_parts) (defBody s_are_parts) (defScope s_are_parts) .none kV5 dc5 pm5 an5 cd5 ct5), sl5⟩) (c5 : PySem.W.codeIn K cd5 "are_parts" = true) (k5 : PySem.W.keepIn K (.ref f5) = true)
    (a6 : PySem.W.nsIn K mainGlobals "weight_in" = some (some (.ref f6))) (l6 : K.lookup f6 = some ⟨oc6, od6, .func (PySem.W.fnOf "weight_in" "weight_in" (defArgs s_weight_in) (defBody s_weight_in) (defScope s_weight_in) .none kV6 dc6 pm6 an6 cd6 ct6), sl6⟩) (c6 : PySem.W.codeIn K cd6 "weight_in" = true) (k6 : PySem.W.keepIn K (.ref f6) = true)
    (a7 : PySem.W.nsIn K mainGlobals "folded" = some (some (.ref f7))) (l7 : K.lookup f7 = some ⟨oc7, od7, .func (PySem.W.fnOf "folded" "folded" (defArgs s_folded) (defBody s_folded) (defScope s_folded) .none kV7 dc7 pm7 an7 cd7 ct7), sl7⟩) (c7 : PySem.W.codeIn K cd7 "folded" = true) (k7 : PySem.W.keepIn K (.ref f7) = true)
    (a8 : PySem.W.nsIn K mainGlobals "_law_cell_at" = some (some (.ref f8))) (l8 : K.lookup f8 = some ⟨oc8, od8, .func (PySem.W.fnOf "_law_cell_at" "_law_cell_at" (defArgs s_law_cell_at) (defBody s_law_cell_at) (defScope s_law_cell_at) .none kV8 dc8 pm8 an8 cd8 ct8), sl8⟩) (c8 : PySem.W.codeIn K cd8 "_law_cell_at" = true) (k8 : PySem.W.keepIn K (.ref f8) = true)
    (a9 : PySem.W.nsIn K mainGlobals "_law_names" = some (some (.ref f9))) (l9 : K.lookup f9 = some ⟨oc9, od9, .func (PySem.W.fnOf "_law_names" "_law_names" (defArgs s_law_names) (defBody s_law_names) (defScope s_law_names) .none kV9 dc9 pm9 an9 cd9 ct9), sl9⟩) (c9 : PySem.W.codeIn K cd9 "_law_names" = true) (k9 : PySem.W.keepIn K (.ref f9) = true)
    (a10 : PySem.W.nsIn K mainGlobals "_law_kinds" = some (some (.ref f10))) (l10 : K.lookup f10 = some ⟨oc10, od10, .func (PySem.W.fnOf "_law_kinds" "_law_kinds" (defArgs s_law_kinds) (defBody s_law_kinds) (defScope s_law_kinds) .none kV10 dc10 pm10 an10 cd10 ct10), sl10⟩) (c10 : PySem.W.codeIn K cd10 "_law_kinds" = true) (k10 : PySem.W.keepIn K (.ref f10) = true)
    (a11 : PySem.W.nsIn K mainGlobals "_law_parts" = some (some (.ref f11))) (l11 : K.lookup f11 = some ⟨oc11, od11, .func (PySem.W.fnOf "_law_parts" "_law_parts" (defArgs s_law_parts) (defBody s_law_parts) (defScope s_law_parts) .none kV11 dc11 pm11 an11 cd11 ct11), sl11⟩) (c11 : PySem.W.codeIn K cd11 "_law_parts" = true) (k11 : PySem.W.keepIn K (.ref f11) = true)
    (a12 : PySem.W.nsIn K mainGlobals "_law_strange" = some (some (.ref f12))) (l12 : K.lookup f12 = some ⟨oc12, od12, .func (PySem.W.fnOf "_law_strange" "_law_strange" (defArgs s_law_strange) (defBody s_law_strange) (defScope s_law_strange) .none kV12 dc12 pm12 an12 cd12 ct12), sl12⟩) (c12 : PySem.W.codeIn K cd12 "_law_strange" = true) (k12 : PySem.W.keepIn K (.ref f12) = true)
    (a13 : PySem.W.nsIn K mainGlobals "_law_refused" = some (some (.ref f13))) (l13 : K.lookup f13 = some ⟨oc13, od13, .func (PySem.W.fnOf "_law_refused" "_law_refused" (defArgs s_law_refused) (defBody s_law_refused) (defScope s_law_refused) .none kV13 dc13 pm13 an13 cd13 ct13), sl13⟩) (c13 : PySem.W.codeIn K cd13 "_law_refused" = true) (k13 : PySem.W.keepIn K (.ref f13) = true)
    (a14 : PySem.W.nsIn K mainGlobals "_law_refused_by_any" = some (some (.ref f14))) (l14 : K.lookup f14 = some ⟨oc14, od14, .func (PySem.W.fnOf "_law_refused_by_any" "_law_refused_by_any" (defArgs s_law_refused_by_any) (defBody s_law_refused_by_any) (defScope s_law_refused_by_any) .none kV14 dc14 pm14 an14 cd14 ct14), sl14⟩) (c14 : PySem.W.codeIn K cd14 "_law_refused_by_any" = true) (k14 : PySem.W.keepIn K (.ref f14) = true)
    (a15 : PySem.W.nsIn K mainGlobals "_law_taken" = some (some (.ref f15))) (l15 : K.lookup f15 = some ⟨oc15, od15, .func (PySem.W.fnOf "_law_taken" "_law_taken" (defArgs s_law_taken) (defBody s_law_taken) (defScope s_law_taken) .none kV15 dc15 pm15 an15 cd15 ct15), sl15⟩) (c15 : PySem.W.codeIn K cd15 "_law_taken" = true) (k15 : PySem.W.keepIn K (.ref f15) = true)
    (a16 : PySem.W.nsIn K mainGlobals "law" = some (some (.ref f16))) (l16 : K.lookup f16 = some ⟨oc16, od16, .func (PySem.W.fnOf "law" "law" (defArgs s_law) (defBody s_law) (defScope s_law) .none kV16 dc16 pm16 an16 cd16 ct16), sl16⟩) (c16 : PySem.W.codeIn K cd16 "law" = true) (k16 : PySem.W.keepIn K (.ref f16) = true)
    {c_TariffError c_NoNumber c_NoBands c_NoKinds c_NoGoods c_NoNote c_NoTree c_NoRule c_NoLot c_NoQuota c_NoRate c_NoEntry c_NoDeed c_NoRow : Addr}
    (n_TariffError : PySem.W.nsIn K mainGlobals "TariffError" = some (some (.ref c_TariffError)))
    (n_NoNumber : PySem.W.nsIn K mainGlobals "NoNumber" = some (some (.ref c_NoNumber)))
    (n_NoBands : PySem.W.nsIn K mainGlobals "NoBands" = some (some (.ref c_NoBands)))
    (n_NoKinds : PySem.W.nsIn K mainGlobals "NoKinds" = some (some (.ref c_NoKinds)))
    (n_NoGoods : PySem.W.nsIn K mainGlobals "NoGoods" = some (some (.ref c_NoGoods)))
    (n_NoNote : PySem.W.nsIn K mainGlobals "NoNote" = some (some (.ref c_NoNote)))
    (n_NoTree : PySem.W.nsIn K mainGlobals "NoTree" = some (some (.ref c_NoTree)))
    (n_NoRule : PySem.W.nsIn K mainGlobals "NoRule" = some (some (.ref c_NoRule)))
    (n_NoLot : PySem.W.nsIn K mainGlobals "NoLot" = some (some (.ref c_NoLot)))
    (n_NoQuota : PySem.W.nsIn K mainGlobals "NoQuota" = some (some (.ref c_NoQuota)))
    (n_NoRate : PySem.W.nsIn K mainGlobals "NoRate" = some (some (.ref c_NoRate)))
    (n_NoEntry : PySem.W.nsIn K mainGlobals "NoEntry" = some (some (.ref c_NoEntry)))
    (n_NoDeed : PySem.W.nsIn K mainGlobals "NoDeed" = some (some (.ref c_NoDeed)))
    (n_NoRow : PySem.W.nsIn K mainGlobals "NoRow" = some (some (.ref c_NoRow)))
    (e_NoGoods : PySem.W.excIn K c_NoGoods bmVE "ValueError.__new__" = true)
    (ci_NoGoods : PySem.W.isClsIn K c_NoGoods = true)
    (ct_NoGoods : PySem.W.typeIn K (.ref c_NoGoods) = some (.type "type"))
    (cb_NoGoods : PySem.W.mroIn K c_NoGoods (.type "BaseException") = some true)
    (ci_TariffError : PySem.W.isClsIn K c_TariffError = true)
    (ct_TariffError : PySem.W.typeIn K (.ref c_TariffError) = some (.type "type"))
    (cb_TariffError : PySem.W.mroIn K c_TariffError (.type "BaseException") = some true)
    (xga_NoGoods : PySem.W.findIn K (.ref c_NoGoods) "__getattribute__" = some (some (.builtin "BaseException.__getattribute__")))
    (xgt_NoGoods : PySem.W.findIn K (.ref c_NoGoods) "__getattr__" = some none)
    (xca_NoGoods : PySem.W.findIn K (.ref c_NoGoods) "__class__" = some (some (.builtin "object.__class__")))
    (xcn_NoGoods : PySem.W.specialIn K (.builtin "object.__class__") "__get__" = some (some (.builtin "getset_descriptor.__get__")))
    (xtk_NoGoods : PySem.W.takesIn K (.builtin "object.__class__") = some true)
    (xmo_NoGoods : PySem.W.mroIn K c_NoGoods (.type "object") = some true)
    (xmb_NoGoods : PySem.W.mroIn K c_NoGoods (.type "BaseException") = some true)
    (xis_NoGoods : PySem.W.isClsIn K c_NoGoods = true)
    (sub1 : PySem.W.subIn K (.ref c_NoGoods) (.ref c_NoGoods) = some true)
    (sub2 : PySem.W.subIn K (.ref c_NoGoods) (.ref c_TariffError) = some true)
    (q2 : PySem.W.kitOne K (.ref c_NoGoods) (.type "ValueError") = some true)
    (g1 : PySem.W.kitAny K (.ref c_NoGoods) [.ref c_NoBands, .ref c_NoDeed, .ref c_NoEntry, .ref c_NoKinds, .ref c_NoLot, .ref c_NoNote, .ref c_NoNumber, .ref c_NoQuota] = some false)
    (g2 : PySem.W.kitAny K (.ref c_NoGoods) [.ref c_NoRate, .ref c_NoRow, .ref c_NoRule, .ref c_NoTree] = some false)
    (z_len : PySem.W.nsIn K mainGlobals "len" = some none)
    (z_range : PySem.W.nsIn K mainGlobals "range" = some none)
    (z_abs : PySem.W.nsIn K mainGlobals "abs" = some none)
    (z_max : PySem.W.nsIn K mainGlobals "max" = some none)
    (z_min : PySem.W.nsIn K mainGlobals "min" = some none)
    (z_isinstance : PySem.W.nsIn K mainGlobals "isinstance" = some none)
    (z_int : PySem.W.nsIn K mainGlobals "int" = some none)
    (z_bool : PySem.W.nsIn K mainGlobals "bool" = some none)
    (z_str : PySem.W.nsIn K mainGlobals "str" = some none)
    (z_list : PySem.W.nsIn K mainGlobals "list" = some none)
    (z_tuple : PySem.W.nsIn K mainGlobals "tuple" = some none)
    (z_sum : PySem.W.nsIn K mainGlobals "sum" = some none)
    (z_all : PySem.W.nsIn K mainGlobals "all" = some none)
    (z_enumerate : PySem.W.nsIn K mainGlobals "enumerate" = some none)
    (z_zip : PySem.W.nsIn K mainGlobals "zip" = some none)
    (z_ValueError : PySem.W.nsIn K mainGlobals "ValueError" = some none)
    (z_any : PySem.W.nsIn K mainGlobals "any" = some none)
    (z_set : PySem.W.nsIn K mainGlobals "set" = some none)
    (z_sorted : PySem.W.nsIn K mainGlobals "sorted" = some none)
    : ∃ fd : FuncData, (∀ (s : Shared) (v : Value), BindsTo s fd ⟨[v], []⟩ [("_law_script", v)]) ∧ ∀ base : Heap, K.In base → base.Ns mainGlobals mg → FnOk l.prog w K mg base CX0 7 fa fd ["_law_script"] (spLaw K) := by
  have e := hfa.symm.trans (PySem.W.mg_of X G a16)
  cases e
  have F1 := fun_mk (st := s_is_whole) l1 c1 k1
  have F2 := fun_mk (st := s_is_name) l2 c2 k2
  have F3 := fun_mk (st := s_is_kind) l3 c3 k3
  have F4 := fun_mk (st := s_is_part) l4 c4 k4
  have F5 := fun_mk (st := s_are_parts) l5 c5 k5
  have F6 := fun_mk (st := s_weight_in) l6 c6 k6
  have F7 := fun_mk (st := s_folded) l7 c7 k7
  have F8 := fun_mk (st := s_law_cell_at) l8 c8 k8
  have F9 := fun_mk (st := s_law_names) l9 c9 k9
  have F10 := fun_mk (st := s_law_kinds) l10 c10 k10
  have F11 := fun_mk (st := s_law_parts) l11 c11 k11
  have F12 := fun_mk (st := s_law_strange) l12 c12 k12
  have F13 := fun_mk (st := s_law_refused) l13 c13 k13
  have F14 := fun_mk (st := s_law_refused_by_any) l14 c14 k14
  have F15 := fun_mk (st := s_law_taken) l15 c15 k15
  have F16 := fun_mk (st := s_law) l16 c16 k16
  have b1 := F1.binds (ps := ["thing"]) fun _ _ _ _ _ _ us hl => match us, hl with | [_], _ => rfl
  have b2 := F2.binds (ps := ["thing"]) fun _ _ _ _ _ _ us hl => match us, hl with | [_], _ => rfl
  have b3 := F3.binds (ps := ["thing"]) fun _ _ _ _ _ _ us hl => match us, hl with | [_], _ => rfl
  have b4 := F4.binds (ps := ["thing"]) fun _ _ _ _ _ _ us hl => match us, hl with | [_], _ => rfl
  have b5 := F5.binds (ps := ["thing"]) fun _ _ _ _ _ _ us hl => match us, hl with | [_], _ => rfl
  have b6 := F6.binds (ps := ["parts", "kind"]) fun _ _ _ _ _ _ us hl => match us, hl with | [_, _], _ => rfl
  have b7 := F7.binds (ps := ["kinds", "parts"]) fun _ _ _ _ _ _ us hl => match us, hl with | [_, _], _ => rfl
  have b8 := F8.binds (ps := ["_law_script", "_law_k"]) fun _ _ _ _ _ _ us hl => match us, hl with | [_, _], _ => rfl
  have b9 := F9.binds (ps := ["_law_cell", "_law_more"]) fun _ _ _ _ _ _ us hl => match us, hl with | [_, _], _ => rfl
  have b10 := F10.binds (ps := ["_law_script"]) fun _ _ _ _ _ _ us hl => match us, hl with | [_], _ => rfl
  have b11 := F11.binds (ps := ["_law_script", "_law_kinds_here"]) fun _ _ _ _ _ _ us hl => match us, hl with | [_, _], _ => rfl
  have b12 := F12.binds (ps := ["_law_kinds_here", "_law_cell"]) fun _ _ _ _ _ _ us hl => match us, hl with | [_, _], _ => rfl
  have b13 := F13.binds (ps := ["_law_kinds_here", "_law_parts_here"]) fun _ _ _ _ _ _ us hl => match us, hl with | [_, _], _ => rfl
  have b14 := F14.binds (ps := ["_law_kinds_here", "_law_parts_here"]) fun _ _ _ _ _ _ us hl => match us, hl with | [_, _], _ => rfl
  have b15 := F15.binds (ps := ["_law_kinds_here", "_law_parts_here"]) fun _ _ _ _ _ _ us hl => match us, hl with | [_, _], _ => rfl
  have M : Mg mg := ⟨PySem.W.mg_none_of X G z_len, PySem.W.mg_none_of X G z_range, PySem.W.mg_none_of X G z_abs, PySem.W.mg_none_of X G z_max, PySem.W.mg_none_of X G z_min, PySem.W.mg_none_of X G z_isinstance, PySem.W.mg_none_of X G z_int, PySem.W.mg_none_of X G z_bool, PySem.W.mg_none_of X G z_str, PySem.W.mg_none_of X G z_list, PySem.W.mg_none_of X G z_tuple, PySem.W.mg_none_of X G z_sum, PySem.W.mg_none_of X G z_all, PySem.W.mg_none_of X G z_enumerate, PySem.W.mg_none_of X G z_zip, PySem.W.mg_none_of X G z_ValueError, PySem.W.mg_none_of X G z_any, PySem.W.mg_none_of X G z_set, PySem.W.mg_none_of X G z_sorted⟩
  refine ⟨PySem.W.fnOf "law" "law" (defArgs s_law) (defBody s_law) (defScope s_law) .none kV16 dc16 pm16 an16 cd16 ct16, fun s v => .of_eq rfl, fun base _ _ => ?_⟩
  have A_TariffError := PySem.W.mg_of X G n_TariffError
  have A_NoNumber := PySem.W.mg_of X G n_NoNumber
  have A_NoBands := PySem.W.mg_of X G n_NoBands
  have A_NoKinds := PySem.W.mg_of X G n_NoKinds
  have A_NoGoods := PySem.W.mg_of X G n_NoGoods
  have A_NoNote := PySem.W.mg_of X G n_NoNote
  have A_NoTree := PySem.W.mg_of X G n_NoTree
  have A_NoRule := PySem.W.mg_of X G n_NoRule
  have A_NoLot := PySem.W.mg_of X G n_NoLot
  have A_NoQuota := PySem.W.mg_of X G n_NoQuota
  have A_NoRate := PySem.W.mg_of X G n_NoRate
  have A_NoEntry := PySem.W.mg_of X G n_NoEntry
  have A_NoDeed := PySem.W.mg_of X G n_NoDeed
  have A_NoRow := PySem.W.mg_of X G n_NoRow
  have R_NoGoods : XRaise K mg "NoGoods" c_NoGoods := ⟨A_NoGoods, e_NoGoods⟩
  have X_NoGoods : XCatch K mg "NoGoods" c_NoGoods := ⟨A_NoGoods, (fun z => by unfold PySem.W.isClsIn at ci_NoGoods; rw [z] at ci_NoGoods; cases ci_NoGoods), ct_NoGoods, cb_NoGoods⟩
  have X_TariffError : XCatch K mg "TariffError" c_TariffError := ⟨A_TariffError, (fun z => by unfold PySem.W.isClsIn at ci_TariffError; rw [z] at ci_TariffError; cases ci_TariffError), ct_TariffError, cb_TariffError⟩
  have K_NoGoods : XCls K c_NoGoods := ⟨xga_NoGoods, xgt_NoGoods, xca_NoGoods, xcn_NoGoods, xtk_NoGoods, xmo_NoGoods, xmb_NoGoods, xis_NoGoods⟩
  have C_is_whole : Cal l.prog w K mg base CX0 "is_whole" 1 ["thing"] (spIsWhole K) := ⟨⟨_, _, ok_is_whole F1 M, b1, k1, PySem.W.mg_of X G a1⟩⟩
  have C_is_name : Cal l.prog w K mg base CX0 "is_name" 1 ["thing"] (spIsName K) := ⟨⟨_, _, ok_is_name F2 M, b2, k2, PySem.W.mg_of X G a2⟩⟩
  have C_is_kind : Cal l.prog w K mg base CX0 "is_kind" 2 ["thing"] (spIsKind K) := ⟨⟨_, _, ok_is_kind F3 M C_is_name, b3, k3, PySem.W.mg_of X G a3⟩⟩
  have C_is_part : Cal l.prog w K mg base CX0 "is_part" 3 ["thing"] (spIsPart K) := ⟨⟨_, _, ok_is_part F4 M C_is_whole C_is_kind, b4, k4, PySem.W.mg_of X G a4⟩⟩
  have C_are_parts : Cal l.prog w K mg base CX0 "are_parts" 4 ["thing"] (spAreParts K) := ⟨⟨_, _, ok_are_parts F5 M C_is_part, b5, k5, PySem.W.mg_of X G a5⟩⟩
  have C_weight_in : Cal l.prog w K mg base CX0 "weight_in" 1 ["parts", "kind"] (spWeightIn K) := ⟨⟨_, _, ok_weight_in F6 M, b6, k6, PySem.W.mg_of X G a6⟩⟩
  have C_folded : Cal l.prog w K mg base (CXE l.prog w) "folded" 5 ["kinds", "parts"] (spFolded K c_NoGoods) := ⟨⟨_, _, ok_folded F7 M C_are_parts C_weight_in R_NoGoods, b7, k7, PySem.W.mg_of X G a7⟩⟩
  have C_law_cell_at : Cal l.prog w K mg base CX0 "_law_cell_at" 1 ["_law_script", "_law_k"] (spCellAt K) := ⟨⟨_, _, ok_law_cell_at F8 M, b8, k8, PySem.W.mg_of X G a8⟩⟩
  have C_law_names : Cal l.prog w K mg base CX0 "_law_names" 1 ["_law_cell", "_law_more"] (spNames K) := ⟨⟨_, _, ok_law_names F9 M, b9, k9, PySem.W.mg_of X G a9⟩⟩
  have C_law_kinds : Cal l.prog w K mg base CX0 "_law_kinds" 2 ["_law_script"] (spKinds K) := ⟨⟨_, _, ok_law_kinds F10 M C_law_cell_at C_law_names, b10, k10, PySem.W.mg_of X G a10⟩⟩
  have C_law_parts : Cal l.prog w K mg base CX0 "_law_parts" 2 ["_law_script", "_law_kinds_here"] (spLParts9 K) := ⟨⟨_, _, ok_law_parts F11 M C_law_cell_at, b11, k11, PySem.W.mg_of X G a11⟩⟩
  have C_law_strange : Cal l.prog w K mg base CX0 "_law_strange" 1 ["_law_kinds_here", "_law_cell"] (spStrange K) := ⟨⟨_, _, ok_law_strange F12 M, b12, k12, PySem.W.mg_of X G a12⟩⟩
  have C_law_refused : Cal l.prog w K mg base CX0 "_law_refused" 6 ["_law_kinds_here", "_law_parts_here"] (spRef9 K) := ⟨⟨_, _, ok_law_refused F13 M C_folded A_NoBands A_NoDeed A_NoEntry A_NoKinds A_NoLot A_NoNote A_NoNumber A_NoQuota A_NoRate A_NoRow A_NoRule A_NoTree X_NoGoods K_NoGoods sub1 q2 g1 g2, b13, k13, PySem.W.mg_of X G a13⟩⟩
  have C_law_refused_by_any : Cal l.prog w K mg base CX0 "_law_refused_by_any" 6 ["_law_kinds_here", "_law_parts_here"] (spRef9 K) := ⟨⟨_, _, ok_law_refused_by_any F14 M C_folded X_TariffError sub2, b14, k14, PySem.W.mg_of X G a14⟩⟩
  have C_law_taken : Cal l.prog w K mg base CX0 "_law_taken" 6 ["_law_kinds_here", "_law_parts_here"] (spTaken K) := ⟨⟨_, _, ok_law_taken F15 M C_folded, b15, k15, PySem.W.mg_of X G a15⟩⟩
  exact ok_law F16 M C_law_cell_at C_law_kinds C_law_parts C_law_strange C_law_refused C_law_refused_by_any C_law_taken
theorem walk {l : PySem.W.OpenLaw} {q : Program} {loose : List Str} {XP : (Str → Option Value) → Heap → Prop} {YP : World → Heap → Prop} {d : DefRec} {K : Params → PySem.W.Frag} (hn : l.most = some 63) (hdf : d.params.defaults = [])
    (hY : ∀ (w : World) (h : Heap), YP w h → (K w.params).In h)
    (F : ∀ (w : World) (mg : Str → Option Value) (fa : Addr) (h : Heap), (K w.params).In h → h.Ns mainGlobals mg → mg d.name = some (.ref fa) →
      ∃ fd : FuncData, (∀ (s : Shared) (u : Value), BindsTo s fd ⟨[u], []⟩ [("_law_script", u)]) ∧ ∀ base : Heap, (K w.params).In base → base.Ns mainGlobals mg → FnOk l.prog w (K w.params) mg base CX0 7 fa fd ["_law_script"] (spLaw (K w.params))) :
    PySem.W.WalkO q loose XP YP l.row.toRowW d [] (fun f vs => PySem.call f vs) :=
  L2.walk_of (n := 63) (k := 7) (x := "_law_script") (CX := fun _ => CX0) (sp := fun w => spLaw (K w.params)) hn (by decide) hdf ⟨rfl, by decide, by decide⟩ hY F (fun _ _ a ns hl _ hS => ⟨a, ns, rfl, hS, hl, fun _ => rfl⟩) fun _ _ _ _ _ z => z
end My
open PySem PySem.W PyProof.Rows
set_option maxRecDepth 100000 in
set_option maxHeartbeats 0 in
theorem PySem.Challenge.cw_tariffgate_k29_goods_refused_holds : PySem.Challenge.rw_tariffgate_k29_goods_refused.Holds := by
  w_on; o_law; k_head; (case hw => w_witness2)
  k_fill
  refine My.walk (l := PySem.Challenge.rw_tariffgate_k29_goods_refused) rfl rfl (fun w h Y => PySem.W.kIn_of Y) ?F
  case F =>
    intro w mg fa h KX G hmg
    refine' My.all_mk KX G hmg ?a1 ?l1 ?c1 ?k1 ?a2 ?l2 ?c2 ?k2 ?a3 ?l3 ?c3 ?k3 ?a4 ?l4 ?c4 ?k4 ?a5 ?l5 ?c5 ?k5 ?a6 ?l6 ?c6 ?k6 ?a7 ?l7 ?c7 ?k7 ?a8 ?l8 ?c8 ?k8 ?a9 ?l9 ?c9 ?k9 ?a10 ?l10 ?c10 ?k10 ?a11 ?l11 ?c11 ?k11 ?a12 ?l12 ?c12 ?k12 ?a13 ?l13 ?c13 ?k13 ?a14 ?l14 ?c14 ?k14 ?a15 ?l15 ?c15 ?k15 ?a16 ?l16 ?c16 ?k16 ?n_TariffError ?n_NoNumber ?n_NoBands ?n_NoKinds ?n_NoGoods ?n_NoNote ?n_NoTree ?n_NoRule ?n_NoLot ?n_NoQuota ?n_NoRate ?n_NoEntry ?n_NoDeed ?n_NoRow ?e_NoGoods ?ci_NoGoods ?ct_NoGoods ?cb_NoGoods ?ci_TariffError ?ct_TariffError ?cb_TariffError ?xga_NoGoods ?xgt_NoGoods ?xca_NoGoods ?xcn_NoGoods ?xtk_NoGoods ?xmo_NoGoods ?xmb_NoGoods ?xis_NoGoods ?sub1 ?sub2 ?q2 ?g1 ?g2 ?z_len ?z_range ?z_abs ?z_max ?z_min ?z_isinstance ?z_int ?z_bool ?z_str ?z_list ?z_tuple ?z_sum ?z_all ?z_enumerate ?z_zip ?z_ValueError ?z_any ?z_set ?z_sorted
    (case a1 => first | k_is | k_exc | kit_is)
    (case l1 => first | k_is | k_exc | kit_is)
    (case c1 => first | k_is | k_exc | kit_is)
    (case k1 => first | k_is | k_exc | kit_is)
    (case a2 => first | k_is | k_exc | kit_is)
    (case l2 => first | k_is | k_exc | kit_is)
    (case c2 => first | k_is | k_exc | kit_is)
    (case k2 => first | k_is | k_exc | kit_is)
    (case a3 => first | k_is | k_exc | kit_is)
    (case l3 => first | k_is | k_exc | kit_is)
    (case c3 => first | k_is | k_exc | kit_is)
    (case k3 => first | k_is | k_exc | kit_is)
    (case a4 => first | k_is | k_exc | kit_is)
    (case l4 => first | k_is | k_exc | kit_is)
    (case c4 => first | k_is | k_exc | kit_is)
    (case k4 => first | k_is | k_exc | kit_is)
    (case a5 => first | k_is | k_exc | kit_is)
    (case l5 => first | k_is | k_exc | kit_is)
    (case c5 => first | k_is | k_exc | kit_is)
    (case k5 => first | k_is | k_exc | kit_is)
    (case a6 => first | k_is | k_exc | kit_is)
    (case l6 => first | k_is | k_exc | kit_is)
    (case c6 => first | k_is | k_exc | kit_is)
    (case k6 => first | k_is | k_exc | kit_is)
    (case a7 => first | k_is | k_exc | kit_is)
    (case l7 => first | k_is | k_exc | kit_is)
    (case c7 => first | k_is | k_exc | kit_is)
    (case k7 => first | k_is | k_exc | kit_is)
    (case a8 => first | k_is | k_exc | kit_is)
    (case l8 => first | k_is | k_exc | kit_is)
    (case c8 => first | k_is | k_exc | kit_is)
    (case k8 => first | k_is | k_exc | kit_is)
    (case a9 => first | k_is | k_exc | kit_is)
    (case l9 => first | k_is | k_exc | kit_is)
    (case c9 => first | k_is | k_exc | kit_is)
    (case k9 => first | k_is | k_exc | kit_is)
    (case a10 => first | k_is | k_exc | kit_is)
    (case l10 => first | k_is | k_exc | kit_is)
    (case c10 => first | k_is | k_exc | kit_is)
    (case k10 => first | k_is | k_exc | kit_is)
    (case a11 => first | k_is | k_exc | kit_is)
    (case l11 => first | k_is | k_exc | kit_is)
    (case c11 => first | k_is | k_exc | kit_is)
    (case k11 => first | k_is | k_exc | kit_is)
    (case a12 => first | k_is | k_exc | kit_is)
    (case l12 => first | k_is | k_exc | kit_is)
    (case c12 => first | k_is | k_exc | kit_is)
    (case k12 => first | k_is | k_exc | kit_is)
    (case a13 => first | k_is | k_exc | kit_is)
    (case l13 => first | k_is | k_exc | kit_is)
    (case c13 => first | k_is | k_exc | kit_is)
    (case k13 => first | k_is | k_exc | kit_is)
    (case a14 => first | k_is | k_exc | kit_is)
    (case l14 => first | k_is | k_exc | kit_is)
    (case c14 => first | k_is | k_exc | kit_is)
    (case k14 => first | k_is | k_exc | kit_is)
    (case a15 => first | k_is | k_exc | kit_is)
    (case l15 => first | k_is | k_exc | kit_is)
    (case c15 => first | k_is | k_exc | kit_is)
    (case k15 => first | k_is | k_exc | kit_is)
    (case a16 => first | k_is | k_exc | kit_is)
    (case l16 => first | k_is | k_exc | kit_is)
    (case c16 => first | k_is | k_exc | kit_is)
    (case k16 => first | k_is | k_exc | kit_is)
    (case n_TariffError => first | k_is | k_exc | kit_is)
    (case n_NoNumber => first | k_is | k_exc | kit_is)
    (case n_NoBands => first | k_is | k_exc | kit_is)
    (case n_NoKinds => first | k_is | k_exc | kit_is)
    (case n_NoGoods => first | k_is | k_exc | kit_is)
    (case n_NoNote => first | k_is | k_exc | kit_is)
    (case n_NoTree => first | k_is | k_exc | kit_is)
    (case n_NoRule => first | k_is | k_exc | kit_is)
    (case n_NoLot => first | k_is | k_exc | kit_is)
    (case n_NoQuota => first | k_is | k_exc | kit_is)
    (case n_NoRate => first | k_is | k_exc | kit_is)
    (case n_NoEntry => first | k_is | k_exc | kit_is)
    (case n_NoDeed => first | k_is | k_exc | kit_is)
    (case n_NoRow => first | k_is | k_exc | kit_is)
    (case e_NoGoods => first | k_is | k_exc | kit_is)
    (case ci_NoGoods => first | k_is | k_exc | kit_is)
    (case ct_NoGoods => first | k_is | k_exc | kit_is)
    (case cb_NoGoods => first | k_is | k_exc | kit_is)
    (case ci_TariffError => first | k_is | k_exc | kit_is)
    (case ct_TariffError => first | k_is | k_exc | kit_is)
    (case cb_TariffError => first | k_is | k_exc | kit_is)
    (case xga_NoGoods => first | k_is | k_exc | kit_is)
    (case xgt_NoGoods => first | k_is | k_exc | kit_is)
    (case xca_NoGoods => first | k_is | k_exc | kit_is)
    (case xcn_NoGoods => first | k_is | k_exc | kit_is)
    (case xtk_NoGoods => first | k_is | k_exc | kit_is)
    (case xmo_NoGoods => first | k_is | k_exc | kit_is)
    (case xmb_NoGoods => first | k_is | k_exc | kit_is)
    (case xis_NoGoods => first | k_is | k_exc | kit_is)
    (case sub1 => first | k_is | k_exc | kit_is)
    (case sub2 => first | k_is | k_exc | kit_is)
    (case q2 => first | k_is | k_exc | kit_is)
    (case g1 => first | k_is | k_exc | kit_is)
    (case g2 => first | k_is | k_exc | kit_is)
    (case z_len => first | k_is | k_exc | kit_is)
    (case z_range => first | k_is | k_exc | kit_is)
    (case z_abs => first | k_is | k_exc | kit_is)
    (case z_max => first | k_is | k_exc | kit_is)
    (case z_min => first | k_is | k_exc | kit_is)
    (case z_isinstance => first | k_is | k_exc | kit_is)
    (case z_int => first | k_is | k_exc | kit_is)
    (case z_bool => first | k_is | k_exc | kit_is)
    (case z_str => first | k_is | k_exc | kit_is)
    (case z_list => first | k_is | k_exc | kit_is)
    (case z_tuple => first | k_is | k_exc | kit_is)
    (case z_sum => first | k_is | k_exc | kit_is)
    (case z_all => first | k_is | k_exc | kit_is)
    (case z_enumerate => first | k_is | k_exc | kit_is)
    (case z_zip => first | k_is | k_exc | kit_is)
    (case z_ValueError => first | k_is | k_exc | kit_is)
    (case z_any => first | k_is | k_exc | kit_is)
    (case z_set => first | k_is | k_exc | kit_is)
    (case z_sorted => first | k_is | k_exc | kit_is)
#print axioms PySem.Challenge.cw_tariffgate_k29_goods_refused_holds

