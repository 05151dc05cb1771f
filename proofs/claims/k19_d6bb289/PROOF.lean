import PyProof.Rows.All
import Wide.All
import OpenK.AllK
import Wide.FinOn
import Lean
import PyProof.EqAt
import PyProof.EqKinds
import PyProof.TupleCall
import PyProof.NeKinds
import PyProof.Draws
import PyProof.EnumMake
import PyProof.WalksEnum
import PyProof.Rows.EnumRows
import PyProof.ExcArgsOwn
import PyProof.ExcAttrAll.ValueError
import PyProof.ExcBaseAll.ValueError
import KE.KIsAll
import KE.KTryOn
import KE.RegKIsAll
import OpenK.KOwn
import PyProof.ZipIter
import PyProof.StrWalks
import PyProof.DictTable
import PyProof.SetNew
import PyProof.SetRoads
import PyProof.P3In
import PyProof.NeData
import PyProof.AttrMissSeq
import KE.KDictOf
import KE.KDictSum
import PyProof.Rows.SortStr
import PyProof.ExcInit
import PyProof.ExcClass2
import PyProof.InstStoreFacts
import PySem.Challenge.RW_tariffgate_k19_refusals_apart
set_option Elab.async false
set_option linter.all false
set_option maxRecDepth 100000
namespace L2
open PySem PySem.Spec PyProof.Rows

abbrev Key := Sum Int Str
def keyIs : Key → Value → Bool
  | .inl k, v => Value.isInt k v
  | .inr x, v => Value.isStrOf x v
def keyH (w : World) : Key → Int
  | .inl k => hashInt k
  | .inr x => hashStr w x
theorem keyIs_shape : ∀ {k : Key} {v : Value}, keyIs k v = true → (∃ i t, k = Sum.inl i ∧ v = Value.int i t) ∨ (∃ x t, k = Sum.inr x ∧ v = Value.str x t)
  | .inl i, v, h => by
    obtain ⟨t, e⟩ := Value.isInt_shape (k := i) (v := v) h
    exact .inl ⟨i, t, rfl, e⟩
  | .inr x, v, h => by
    obtain ⟨t, e⟩ := Value.isStrOf_shape (x := x) (v := v) h
    exact .inr ⟨x, t, rfl, e⟩
theorem keyIs_int (i : Int) (t : Tok) : keyIs (.inl i) (.int i t) = true := by simp [keyIs, Value.isInt]
theorem keyIs_str (x : Str) (t : Tok) : keyIs (.inr x) (.str x t) = true := by simp [keyIs, Value.isStrOf]
theorem key_ll (a b : Int) : decide ((Sum.inl a : Key) = Sum.inl b) = (a == b) := by
  by_cases e : a = b
  · subst e; simp
  · have h : ¬ (Sum.inl a : Key) = Sum.inl b := fun q => e (Sum.inl.inj q)
    rw [decide_eq_false h]
    exact (beq_eq_false_iff_ne.mpr e).symm
theorem key_rr (a b : Str) : decide ((Sum.inr a : Key) = Sum.inr b) = decide (a = b) := by
  by_cases e : a = b
  · subst e; simp
  · have h : ¬ (Sum.inr a : Key) = Sum.inr b := fun q => e (Sum.inr.inj q)
    rw [decide_eq_false h, decide_eq_false e]
theorem key_lr (a : Int) (b : Str) : decide ((Sum.inl a : Key) = Sum.inr b) = false := decide_eq_false (fun q => nomatch q)
theorem key_rl (a : Str) (b : Int) : decide ((Sum.inr a : Key) = Sum.inl b) = false := decide_eq_false (fun q => nomatch q)

def mixKind (prog : Program) (w : World) : PySem.KeyKind prog w Key where
  is := keyIs
  hash := keyH w
  inj := fun v a b ha hb => by
    rcases keyIs_shape ha with ⟨i, t, rfl, rfl⟩ | ⟨x, t, rfl, rfl⟩
    · rcases keyIs_shape hb with ⟨j, u, rfl, e⟩ | ⟨y, u, rfl, e⟩
      · injection e with e1 _; rw [e1]
      · exact nomatch e
    · rcases keyIs_shape hb with ⟨j, u, rfl, e⟩ | ⟨y, u, rfl, e⟩
      · exact nomatch e
      · injection e with e1 _; rw [e1]
  byValue := fun k v h => by
    rcases keyIs_shape h with ⟨i, t, rfl, rfl⟩ | ⟨x, t, rfl, rfl⟩ <;> rfl
  pyHash := fun hv h => by
    rcases keyIs_shape hv with ⟨i, t, rfl, rfl⟩ | ⟨x, t, rfl, rfl⟩
    · exact wpAny_pyHash_int h
    · exact wpAny_pyHash_str h
  eqBool := fun hu hv h => by
    rcases keyIs_shape hu with ⟨i, t, rfl, rfl⟩ | ⟨x, t, rfl, rfl⟩
    · rcases keyIs_shape hv with ⟨j, u, rfl, rfl⟩ | ⟨y, u, rfl, rfl⟩
      · rw [key_ll] at h; exact wpAny_eqBool_int h
      · rw [key_lr] at h; exact SeqAt.EqAt.int_str i t y u _ _ _ _ h
    · rcases keyIs_shape hv with ⟨j, u, rfl, rfl⟩ | ⟨y, u, rfl, rfl⟩
      · rw [key_rl] at h; exact SeqAt.EqAt.str_int x t j u _ _ _ _ h
      · rw [key_rr] at h; exact wpAny_eqBool_str h
  «strs» := fun k x t v h => by
    rcases keyIs_shape h with ⟨i, u, rfl, e⟩ | ⟨y, u, rfl, e⟩
    · exact nomatch e
    · injection e with e1 _
      subst e1
      cases v <;> rfl

theorem mixKind_int (prog : Program) (w : World) (i : Int) (t : Tok) : (mixKind prog w).is (.inl i) (.int i t) = true := keyIs_int i t
theorem mixKind_str (prog : Program) (w : World) (x : Str) (t : Tok) : (mixKind prog w).is (.inr x) (.str x t) = true := keyIs_str x t
end L2

namespace L2
open PySem PySem.Spec PyProof.Rows

inductive V where
  | non | bl (b : Bool) | int (i : Int) | str (x : Str) | byt (b : Array UInt8) | flt (b : UInt64) | ref (a : Addr) | ty (n : String)
  deriving DecidableEq

def RelV : V → Value → Prop
  | .non, u => u = Value.none
  | .bl b, u => u = Value.bool b
  | .int i, u => ∃ t, u = Value.int i t
  | .str x, u => ∃ t, u = Value.str x t
  | .byt b, u => ∃ t, u = Value.bytes b t
  | .flt b, u => ∃ t, u = Value.float b t
  | .ref a, u => u = Value.ref a
  | .ty n, u => u = Value.type n

abbrev Vals : List V → List Value → Prop := Paired RelV
theorem Vals.length {xs : List V} {us : List Value} (r : Vals xs us) : xs.length = us.length := Paired.length r
theorem Vals.get : ∀ {xs : List V} {us : List Value} {i : Nat} {x : V}, Vals xs us → xs[i]? = some x → ∃ u, us[i]? = some u ∧ RelV x u
  | _, _, _, _, .nil, e => by simp at e
  | _, _, 0, _, .cons r _, e => by simp at e; subst e; exact ⟨_, rfl, r⟩
  | _, _, i + 1, x, .cons _ t, e => by
    obtain ⟨u, h1, h2⟩ := Vals.get (i := i) (x := x) t (by simpa using e)
    exact ⟨u, by simpa using h1, h2⟩
theorem Vals.set {x : V} {u : Value} (r : RelV x u) : ∀ {xs : List V} {us : List Value} (i : Nat), Vals xs us → Vals (xs.set i x) (us.set i u)
  | _, _, _, .nil => .nil
  | _, _, 0, .cons _ t => .cons r t
  | _, _, i + 1, .cons q t => .cons q (Vals.set r i t)
theorem Vals.append : ∀ {xs ys : List V} {us ws : List Value}, Vals xs us → Vals ys ws → Vals (xs ++ ys) (us ++ ws)
  | _, _, _, _, .nil, s => s
  | _, _, _, _, .cons r t, s => .cons r (Vals.append t s)
theorem Vals.take : ∀ {xs : List V} {us : List Value} (n : Nat), Vals xs us → Vals (xs.take n) (us.take n)
  | _, _, 0, _ => .nil
  | _, _, _ + 1, .nil => .nil
  | _, _, n + 1, .cons r t => .cons r (Vals.take n t)
theorem Vals.drop : ∀ {xs : List V} {us : List Value} (n : Nat), Vals xs us → Vals (xs.drop n) (us.drop n)
  | _, _, 0, r => r
  | _, _, _ + 1, .nil => .nil
  | _, _, n + 1, .cons _ t => Vals.drop n t
theorem Vals.none_of : ∀ {xs : List V} {us : List Value} {i : Nat}, Vals xs us → xs[i]? = none → us[i]? = none := fun {xs us i} r e => by
  have h1 := r.length
  have h2 : xs.length ≤ i := List.getElem?_eq_none_iff.mp e
  exact List.getElem?_eq_none_iff.mpr (by omega)

def RelO : Option V → Option Value → Prop
  | some v, some u => RelV v u
  | none, none => True
  | _, _ => False
def KV {κ : Type} : List (κ × V) → List (κ × Value) → Prop := Paired fun (p : κ × V) (q : κ × Value) => p.1 = q.1 ∧ RelV p.2 q.2

def kV : Key → V
  | .inl i => .int i
  | .inr x => .str x

inductive HO where
  /-- a list -/
  | lst (xs : List V)
  /-- a tuple (never changes) -/
  | tup (xs : List V)
  /-- a dict whose keys are ints and texts; one whose keys are tuples of ints and texts (the empty one is both) -/
  | dK (kvs : List (Key × V)) | dT (kvs : List (List Key × V))
  /-- a set of ints: its members, its size -/
  | set (S : Int → Bool) (n : Nat)
  /-- an instance of the class at C, its dict at dx, its attributes -/
  | ins (C dx : Addr) (fs : List (Str × V))
  /-- the dict of the instance at x -/
  | own (x : Addr)
  /-- the dict of an exception -/
  | xd (fs : List (Str × V))
  /-- a bound method, f of x -/
  | met (f x : Addr)
  /-- a range object lo, lo + 1, .. below hi -/
  | rng (lo hi : Int)
  /-- a thing that is known to the object (the script; a dict while a loop walks it): read, never written while it is so -/
  | frz (o : Obj) (u : HO)
  /-- a code object's table -/
  | tbl (ps : Array Value)
  /-- any other thing, by what is true of its one object (a def of one's own: SetO a S n := HO.ext fun h => ..) -/
  | ext (φ : Heap → Prop)

abbrev Hp := Addr → Option HO
def upd (H : Hp) (a : Addr) (o : HO) : Hp := fun b => if b = a then some o else H b
theorem upd_same {H : Hp} {a : Addr} {o : HO} : upd H a o a = some o := by unfold upd; rw [if_pos rfl]
theorem upd_ne {H : Hp} {a b : Addr} {o : HO} (h : b ≠ a) : upd H a o b = H b := by unfold upd; rw [if_neg h]
theorem ne_of {H : Hp} {a b : Addr} {o u : HO} (h : H a = some o) (h' : H b = some u) (d : o ≠ u) : a ≠ b := by
  intro e; subst e; rw [h] at h'; exact d (Option.some.inj h')
theorem ne_of_none {H : Hp} {a b : Addr} {o : HO} (h : H a = some o) (h' : H b = none) : a ≠ b := by
  intro e; subst e; rw [h] at h'; cases h'

section
variable (P : Program) (w : World)
def NoD (h : Heap) (a : Addr) : Prop := ∃ o, h.get? a = some o ∧ o.dict = none
def ObjOk (H : Hp) (h : Heap) (a : Addr) : HO → Prop
  | .lst xs => xs.length ≤ sizeLine ∧ ∃ (its : List Value) (n : Nat), Vals xs its ∧ h.get? a = some { cls := .type "list", data := .seq its.toArray n }
  | .tup xs => xs.length ≤ sizeLine ∧ ∃ its : List Value, Vals xs its ∧ IsTup h a its.toArray ∧ NoD h a
  | .dK kvs => kvs.length ≤ sizeLine ∧ (a == sysModules) = false ∧ ∃ vs, KV kvs vs ∧ h.DictOf (mixKind P w) a vs
  | .dT kvs => kvs.length ≤ sizeLine ∧ (a == sysModules) = false ∧ ∃ xs : List (List Key × Addr × Value),
      Paired (fun (p : List Key × V) (q : List Key × Addr × Value) => p.1 = q.1 ∧ H q.2.1 = some (.tup (p.1.map kV)) ∧ RelV p.2 q.2.2) kvs xs ∧
      ∃ o es ep, h.get? a = some o ∧ o.ExactDict ∧ o.data = .dict es ep ∧ es.toList = xs.map (entryOfKey (tupleKind (mixKind P w))) ∧ (xs.map (·.1)).Nodup
  | .set S n => h.SetOf (intKind P w) a S n
  | .ins C dx fs => H dx = some (.own a) ∧ fs.length ≤ 1000 ∧ dx ≠ a ∧ h.get? a = some (PySem.W.instObj C dx) ∧
      ∃ mA, h.Ns1 dx mA ∧ (∀ f, RelO (fs.lookup f) (mA f)) ∧ PySem.Within mA (fs.map (·.1))
  | .own _ => ∃ o, h.get? a = some o
  | .xd fs => ∃ mA, h.Ns1 a mA ∧ ∀ f, RelO (fs.lookup f) (mA f)
  | .rng lo hi => ∃ t u v, h.get? a = some { cls := .type "range", data := .fields #[.int lo t, .int hi u, .int 1 v] }
  | .frz o u => h.get? a = some o ∧ ObjOk H h a u
  | .tbl ps => h.get? a = some { cls := .none, data := .fields ps }
  | .met f x => h.get? a = some (PySem.W.methodObj (.ref f) (.ref x))
  | .ext φ => φ h ∧ (∃ o, h.get? a = some o) ∧ ∀ h1 h2 : Heap, φ h1 → (∀ o, h1.get? a = some o → h2.get? a = some o) → φ h2
def HOk (H : Hp) (h : Heap) : Prop := ∀ a o, H a = some o → ObjOk P w H h a o
end

section
variable {P : Program} {w : World} {H H' : Hp} {h h' : Heap} {a : Addr} {o : HO}
theorem ObjOk.lt (x : ObjOk P w H h a o) : a < h.objs.size := by
  cases o with
  | lst xs => obtain ⟨_, _, _, _, e⟩ := x; exact Heap.lt_size e
  | tup xs => obtain ⟨_, _, _, p, _⟩ := x; exact p.lt
  | dK kvs => obtain ⟨_, _, _, _, o, _, _, e, _⟩ := x; exact Heap.lt_size e
  | dT kvs => obtain ⟨_, _, _, _, o, _, _, e, _⟩ := x; exact Heap.lt_size e
  | set S n => obtain ⟨o, _, _, _, e, _⟩ := x; exact Heap.lt_size e
  | ins C dx fs => obtain ⟨_, _, _, e, _⟩ := x; exact Heap.lt_size e
  | own y => obtain ⟨_, e⟩ := x; exact Heap.lt_size e
  | xd fs => obtain ⟨_, ⟨_, _, _, e, _⟩, _⟩ := x; exact Heap.lt_size e
  | rng lo hi => obtain ⟨_, _, _, e⟩ := x; exact Heap.lt_size e
  | frz ob u => obtain ⟨e, _⟩ := x; exact Heap.lt_size e
  | tbl ps => exact Heap.lt_size (show h.get? a = some _ from x)
  | met f y => exact Heap.lt_size (show h.get? a = some _ from x)
  | ext φ => obtain ⟨_, ⟨_, e⟩, _⟩ := x; exact Heap.lt_size e
theorem Paired.mapP {α β : Type} {F G : α → β → Prop} : ∀ {l₁ : List α} {l₂ : List β}, Paired F l₁ l₂ → (∀ a b, F a b → G a b) → Paired G l₁ l₂
  | _, _, .nil, _ => .nil
  | _, _, .cons r t, f => .cons (f _ _ r) (Paired.mapP t f)
theorem ObjOk.stay (x : ObjOk P w H h a o) (k : ∀ b u, (b = a ∨ H b = some (.own a)) → h.get? b = some u → h'.get? b = some u)
    (ho : ∀ b, H b = some (.own a) → H' b = some (.own a)) (ht : ∀ b xs, H b = some (.tup xs) → H' b = some (.tup xs)) : ObjOk P w H' h' a o := by
  induction o with
  | lst xs => obtain ⟨z, its, n, r, e⟩ := x; exact ⟨z, its, n, r, k _ _ (.inl rfl) e⟩
  | tup xs => obtain ⟨z, its, r, ⟨ob, e, c⟩, o2, e2, d2⟩ := x; exact ⟨z, its, r, ⟨ob, k _ _ (.inl rfl) e, c⟩, o2, k _ _ (.inl rfl) e2, d2⟩
  | dK kvs => obtain ⟨z, y, vs, r, ob, es, ep, e, c⟩ := x; exact ⟨z, y, vs, r, ob, es, ep, k _ _ (.inl rfl) e, c⟩
  | dT kvs =>
    obtain ⟨z, y, xs, r, ob, es, ep, e, c⟩ := x
    exact ⟨z, y, xs, Paired.mapP r fun p q z => ⟨z.1, ht _ _ z.2.1, z.2.2⟩, ob, es, ep, k _ _ (.inl rfl) e, c⟩
  | set S n => obtain ⟨ob, es, ep, t, e, c⟩ := x; exact ⟨ob, es, ep, t, k _ _ (.inl rfl) e, c⟩
  | ins C dx fs =>
    obtain ⟨d, z, ne, e, mA, ⟨od, es, ep, e2, c⟩, r⟩ := x
    exact ⟨ho _ d, z, ne, k _ _ (.inl rfl) e, mA, ⟨od, es, ep, k _ _ (.inr d) e2, c⟩, r⟩
  | own y => obtain ⟨ob, e⟩ := x; exact ⟨ob, k _ _ (.inl rfl) e⟩
  | xd fs => obtain ⟨mA, ⟨od, es, ep, e, c⟩, r⟩ := x; exact ⟨mA, ⟨od, es, ep, k _ _ (.inl rfl) e, c⟩, r⟩
  | rng lo hi => obtain ⟨t, u, v, e⟩ := x; exact ⟨t, u, v, k _ _ (.inl rfl) e⟩
  | frz ob u ih => obtain ⟨e, q⟩ := x; exact ⟨k _ _ (.inl rfl) e, ih q⟩
  | tbl ps =>
    have e : h.get? a = some { cls := .none, data := .fields ps } := x
    show h'.get? a = some { cls := .none, data := .fields ps }
    exact k a _ (.inl rfl) e
  | met f y =>
    have e : h.get? a = some (PySem.W.methodObj (.ref f) (.ref y)) := x
    show h'.get? a = some (PySem.W.methodObj (.ref f) (.ref y))
    exact k a _ (.inl rfl) e
  | ext φ => obtain ⟨p, ⟨o, e⟩, st⟩ := x; exact ⟨st _ _ p fun o q => k _ _ (.inl rfl) q, ⟨o, k _ _ (.inl rfl) e⟩, st⟩
theorem HOk.lt (x : HOk P w H h) (e : H a = some o) : a < h.objs.size := (x a o e).lt
theorem HOk.fresh (x : HOk P w H h) (e : h.objs.size ≤ a) : H a = none := by
  cases q : H a with
  | none => rfl
  | some u => exact absurd (Nat.lt_of_lt_of_le (x.lt q) e) (Nat.lt_irrefl _)
theorem HOk.kept (x : HOk P w H h) (k : ∀ b u, h.get? b = some u → h'.get? b = some u) : HOk P w H h' := fun a o e =>
  (x a o e).stay (fun b u _ q => k b u q) (fun _ q => q) fun _ _ q => q
theorem HOk.laid (x : HOk P w H h) (k : ∀ b u, h.get? b = some u → h'.get? b = some u) (hp : h.objs.size ≤ a) (new : ObjOk P w (upd H a o) h' a o) : HOk P w (upd H a o) h' := fun b u e => by
  have hn := x.fresh hp
  by_cases hb : b = a
  · subst hb; rw [upd_same] at e; cases e; exact new
  · rw [upd_ne hb] at e
    exact (x b u e).stay (fun c v _ q => k c v q) (fun c q => by rw [upd_ne (ne_of_none q hn)]; exact q) fun c xs q => by rw [upd_ne (ne_of_none q hn)]; exact q
end

def Rd (H : Hp) (a : Addr) (u : HO) : Prop := H a = some u ∨ ∃ o, H a = some (.frz o u)
theorem Rd.ok {P : Program} {w : World} {H : Hp} {h : Heap} {a : Addr} {u : HO} (r : Rd H a u) (x : HOk P w H h) : ObjOk P w H h a u := by
  rcases r with r | ⟨o, r⟩
  · exact x a u r
  · obtain ⟨_, q⟩ := x a _ r
    exact q
def Mut : Option HO → Prop
  | some (.lst _) => True
  | some (.dK _) => True
  | some (.dT _) => True
  | some (.set _ _) => True
  | some (.ins _ _ _) => True
  | some (.ext _) => True
  | _ => False
section
variable {P : Program} {w : World} {H : Hp} {h h' : Heap} {x e : Addr} {o' : HO}
theorem HOk.write (ok : HOk P w H h) (mu : Mut (H x)) (he : e = x ∨ H e = some (.own x)) (k : ∀ b u, b ≠ e → h.get? b = some u → h'.get? b = some u) (heo : ∃ u, h'.get? e = some u)
    (new : ObjOk P w (upd H x o') h' x o') : HOk P w (upd H x o') h' := fun b u q => by
  have nown : ∀ c y, H c = some (.own y) → c ≠ x := fun c y r z => by subst z; rw [r] at mu; exact mu
  have ntup : ∀ c xs, H c = some (.tup xs) → c ≠ x := fun c xs r z => by subst z; rw [r] at mu; exact mu
  by_cases hb : b = x
  · subst hb; rw [upd_same] at q; cases q; exact new
  · rw [upd_ne hb] at q
    by_cases hbe : b = e
    · have q' : H b = some (.own x) := by
        rcases he with z | z
        · exact absurd (hbe.trans z) hb
        · rw [hbe]; exact z
      rw [q] at q'; cases q'
      obtain ⟨v, hv⟩ := heo
      exact ⟨v, by rw [hbe]; exact hv⟩
    · refine (ok b u q).stay (fun c v hc r => k c v ?_ r) (fun c r => by rw [upd_ne (nown c b r)]; exact r) fun c xs r => by rw [upd_ne (ntup c xs r)]; exact r
      rcases hc with rfl | hc
      · exact hbe
      · rintro rfl
        rcases he with z | z
        · exact nown c b hc z
        · rw [hc] at z; cases z; exact hb rfl
end

structure Un (fs ex : List Addr) (H H' : Hp) (h h' : Heap) : Prop where
  keep : ∀ b o, h.get? b = some o → H b = none → b ∉ fs → b ∉ ex → h'.get? b = some o
  slot : ∀ b o, h.get? b = some o → H b = none → b ∈ fs → b ∉ ex → ∃ sl, h'.get? b = some { o with slots := sl }
  free : ∀ b o, h.get? b = some o → H b = none → b ∉ ex → H' b = none
  there : ∀ b o, h.get? b = some o → b ∉ ex → ∃ o', h'.get? b = some o'
  tups : ∀ b xs, H b = some (.tup xs) → H' b = some (.tup xs)
  frzs : ∀ b o u, H b = some (.frz o u) → H' b = some (.frz o u)
  tbls : ∀ b ps, H b = some (.tbl ps) → ∃ more, H' b = some (.tbl (ps ++ more))
section
variable {fs fs' ex ex' : List Addr} {H H1 H2 : Hp} {h h1 h2 h' : Heap} {a x e : Addr} {o : HO}
theorem Un.any (u : Un fs ex H H1 h h1) {b : Addr} {ob : Obj} (q : h.get? b = some ob) (n : H b = none) (hx : b ∉ ex) : ∃ sl, h1.get? b = some { ob with slots := sl } := by
  by_cases hb : b ∈ fs
  · exact u.slot b ob q n hb hx
  · exact ⟨ob.slots, u.keep b ob q n hb hx⟩
theorem Un.trans (a : Un fs ex H H1 h h1) (b : Un fs ex H1 H2 h1 h2) : Un fs ex H H2 h h2 where
  keep := fun c ob q n hc hx => b.keep c ob (a.keep c ob q n hc hx) (a.free c ob q n hx) hc hx
  slot := fun c ob q n hc hx => by
    obtain ⟨sl, e1⟩ := a.slot c ob q n hc hx
    obtain ⟨sl', e2⟩ := b.slot c _ e1 (a.free c ob q n hx) hc hx
    exact ⟨sl', e2⟩
  free := fun c ob q n hx => by
    obtain ⟨o', e1⟩ := a.there c ob q hx
    exact b.free c o' e1 (a.free c ob q n hx) hx
  there := fun c ob q hx => by
    obtain ⟨o', e1⟩ := a.there c ob q hx
    exact b.there c o' e1 hx
  tups := fun c xs q => b.tups c xs (a.tups c xs q)
  frzs := fun c ob xs q => b.frzs c ob xs (a.frzs c ob xs q)
  tbls := fun c ps q => by
    obtain ⟨m1, e1⟩ := a.tbls c ps q
    obtain ⟨m2, e2⟩ := b.tbls c _ e1
    exact ⟨m1 ++ m2, by rw [e2, Array.append_assoc]⟩
theorem Un.kept (k : ∀ b u, h.get? b = some u → h'.get? b = some u) : Un fs ex H H h h' :=
  ⟨fun b ob q _ _ _ => k b ob q, fun b ob q _ _ _ => ⟨ob.slots, k b ob q⟩, fun _ _ _ n _ => n, fun b ob q _ => ⟨ob, k b ob q⟩, fun _ _ q => q, fun _ _ _ q => q, fun _ ps q => ⟨#[], by rw [q]; simp⟩⟩
theorem Un.refl : Un fs ex H H h h := Un.kept fun _ _ q => q
theorem Un.laid (k : ∀ b u, h.get? b = some u → h'.get? b = some u) (hp : h.objs.size ≤ a) (hn : H a = none) : Un fs ex H (upd H a o) h h' where
  keep := fun b u q _ _ _ => k b u q
  slot := fun b u q _ _ _ => ⟨u.slots, k b u q⟩
  free := fun b u q n _ => by rw [upd_ne (Nat.ne_of_lt (Nat.lt_of_lt_of_le (Heap.lt_size q) hp))]; exact n
  there := fun b u q _ => ⟨u, k b u q⟩
  tups := fun b xs q => by rw [upd_ne (ne_of_none q hn)]; exact q
  frzs := fun b u xs q => by rw [upd_ne (ne_of_none q hn)]; exact q
  tbls := fun b ps q => ⟨#[], by rw [upd_ne (ne_of_none q hn), q]; simp⟩
theorem Un.write (mu : Mut (H x)) (he : e = x ∨ H e = some (.own x)) (k : ∀ b u, b ≠ e → h.get? b = some u → h'.get? b = some u) (heo : ∃ u, h'.get? e = some u) : Un fs ex H (upd H x o) h h' := by
  have hx : ∀ b, H b = none → b ≠ x := fun b n z => by subst z; rw [n] at mu; exact mu
  have hb : ∀ b, H b = none → b ≠ e := fun b n z => by
    subst z
    rcases he with r | r
    · exact hx b n r
    · rw [n] at r; cases r
  have hm : ∀ b u, H b = some u → ¬ Mut (some u) → b ≠ x := fun b u q nm z => by subst z; rw [q] at mu; exact nm mu
  refine ⟨fun b u q n _ _ => k b u (hb b n) q, fun b u q n _ _ => ⟨u.slots, k b u (hb b n) q⟩, fun b u q n _ => by rw [upd_ne (hx b n)]; exact n, fun b u q _ => ?_,
    fun b xs q => by rw [upd_ne (hm b _ q fun z => z)]; exact q, fun b u xs q => by rw [upd_ne (hm b _ q fun z => z)]; exact q, fun b ps q => ⟨#[], by rw [upd_ne (hm b _ q fun z => z), q]; simp⟩⟩
  by_cases hbe : b = e
  · subst hbe; exact heo
  · exact ⟨u, k b u hbe q⟩
theorem Un.mono (u : Un fs ex H H1 h h1) (hs : ∀ b ∈ fs, b ∈ fs') (hx : ∀ b ∈ ex, b ∈ ex') : Un fs' ex' H H1 h h1 :=
  ⟨fun b ob q n hb he => u.keep b ob q n (fun z => hb (hs b z)) fun z => he (hx b z), fun _ _ q n _ he => u.any q n fun z => he (hx _ z), fun b ob q n he => u.free b ob q n fun z => he (hx b z), fun b ob q he => u.there b ob q fun z => he (hx b z), u.tups, u.frzs, u.tbls⟩
end

def trk (h : Heap) (H : Hp) : List Addr := (List.range h.objs.size).filter fun a => (H a).isSome
def hidT (h : Heap) (H : Hp) : Heap := PySem.W.hideAll h (trk h H)
theorem hidT_size (h : Heap) (H : Hp) : (hidT h H).objs.size = h.objs.size := PySem.W.hideAll_size _ _
theorem hidT_get {h : Heap} {H : Hp} {b : Addr} {o : Obj} (e : h.get? b = some o) (n : H b = none) : (hidT h H).get? b = some o :=
  PySem.W.hideAll_get _ e fun hm => by
    have q : (H b).isSome = true := (List.mem_filter.mp hm).2
    rw [n] at q; simp at q
theorem of_hidT {h : Heap} {H : Hp} {b : Addr} {o : Obj} (e : (hidT h H).get? b = some o) : h.get? b = some o ∧ H b = none := by
  have e' : h.get? b = some o := PySem.W.of_hideAll (trk h H) e
  refine ⟨e', ?_⟩
  cases q : H b with
  | none => rfl
  | some x =>
    have hm : b ∈ trk h H := List.mem_filter.mpr ⟨List.mem_range.mpr (Heap.lt_size e'), by simp [q]⟩
    have z : (hidT h H).get? b = none := PySem.W.hideAll_none (trk h H) hm
    rw [z] at e; cases e

def allNews (g h : Heap) (L : Addr) : List (Addr × Obj) := (List.range h.objs.size).filterMap fun a => if a = L ∨ (g.get? a).isSome = true then none else (h.get? a).map fun o => (a, o)
def rest (g h : Heap) (L d : Addr) : List (Addr × Obj) := (allNews g h L).filter fun p => decide (p.1 ≠ d)
end L2

namespace L2
open PySem PySem.Spec PyProof.Rows

structure Mod (K : PySem.W.Frag) (mg : Str → Option Value) (base : Heap) : Prop where
  kin : K.In base
  glob : base.Ns mainGlobals mg
  blt : ∃ mb, base.Ns builtinsNs mb ∧ ∀ x : Str, x ≠ "__name__" → mb x = bootBuiltins x
  nolimit : base.NoLimit

structure Cx where
  prog : Program
  w : World
  K : PySem.W.Frag
  mg : Str → Option Value
  base : Heap
  A : Around
  N : List Str
  s₀ : Shared
  H₀ : Hp
  env : Env
  outer : List Env
  stack : List Env
  ex : List Addr
  fn : Str → Bool
  calm : Bool
  pn : List (Addr × Obj)
  xe : Value → Shared → Prop
def frs (l : List Env) : List Addr := l.filterMap (·.frame)
abbrev Cx.fs (X : Cx) : List Addr := frs X.outer

def Vis (sc : Scope) (x : Str) : Prop := sc.names.lookup x = some .local ∨ sc.names.lookup x = some .cell ∨ sc.names.lookup x = some .free
def Loc (sc : Scope) (x : Str) : Prop := sc.names.lookup x = some .local ∨ sc.names.lookup x = some .cell
def Look (env : Env) (h : Heap) (m : Str → Option Value) (x : Str) (u : Value) : Prop :=
  (env.kindOf x = some .local ∧ m x = some u) ∨ ((env.kindOf x = some .cell ∨ env.kindOf x = some .free) ∧ ∃ c, env.cells.lookup x = some c ∧ h.IsCell c (some u))

structure Cx.Ok (X : Cx) : Prop where
  mod : Mod X.K X.mg X.base
  kind : X.env.scope.kind = .function
  glob : X.env.globals = mainGlobals
  blt : X.env.builtins = builtinsNs
  above : X.s₀.heap.objs.size ≤ X.env.locals
  inj : ∀ x y c, X.env.cells.lookup x = some c → X.env.cells.lookup y = some c → x = y
  has : ∀ x, (X.env.kindOf x = some .cell ∨ X.env.kindOf x = some .free) → ∃ c, X.env.cells.lookup x = some c
  cab : ∀ x c, X.fn x = true → X.env.cells.lookup x = some c → X.s₀.heap.objs.size ≤ c
  hd : X.calm = true → X.A.handled = none
  frames : X.A.frames = some X.stack
  stk : X.stack = X.outer ∨ (X.stack = X.env :: X.outer ∧ X.env.frame = some X.env.locals)
  exf : ∀ b ∈ X.ex, b ≠ X.env.locals ∧ ∀ x c, X.env.cells.lookup x = some c → c ≠ b
  bs : ∀ b o, X.base.get? b = some o → X.s₀.heap.get? b = some o ∧ X.H₀ b = none
  bsz : X.base.objs.size ≤ X.s₀.heap.objs.size
  noex : ∀ b o, X.base.get? b = some o → b ∉ X.ex
  exfs : ∀ b ∈ X.ex, b ∉ X.fs
  funs : X.s₀.heap.FunFrames X.base X.outer
  frf : ∀ b ∈ X.fs, X.H₀ b = none

structure Inv (X : Cx) (pins : List (Addr × Obj)) (σ : List (Option V)) (H : Hp) (s : Shared) : Prop where
  ok : X.Ok
  os : s.os = X.s₀.os
  bare : AllBare s.gens
  base : Un X.fs X.ex X.H₀ H X.s₀.heap s.heap
  loc : ∃ m, s.heap.Ns X.env.locals m ∧ ∀ (i : Nat) (x : Str) (v : V), X.N[i]? = some x → σ[i]? = some (some v) → Vis X.env.scope x → ∃ u, RelV v u ∧ Look X.env s.heap m x u
  cell : ∀ x c, X.env.cells.lookup x = some c → ∃ v, s.heap.IsCell c v
  free : H X.env.locals = none
  freeC : ∀ x c, X.env.cells.lookup x = some c → H c = none
  pin : ∀ p ∈ X.pn ++ pins, s.heap.get? p.1 = some p.2 ∧ H p.1 = none ∧ p.1 ≠ X.env.locals ∧ p.1 ∉ X.fs ∧ ∀ v, p.2.data ≠ .cell v
  hok : HOk X.prog X.w H s.heap
  len : σ.length = X.N.length

section
variable {X : Cx} {pins : List (Addr × Obj)} {σ : List (Option V)} {H H' : Hp} {s : Shared} {h' : Heap}

theorem Cx.Ok.nofr (ok : X.Ok) {b : Addr} {o : Obj} (e : X.base.get? b = some o) : b ∉ X.fs := fun hb => by
  have := (ok.funs.mem hb).1
  rw [e] at this; cases this
theorem Inv.bs (I : Inv X pins σ H s) : ∀ b o, X.base.get? b = some o → s.heap.get? b = some o ∧ H b = none := fun b o e =>
  ⟨I.base.keep b o (I.ok.bs b o e).1 (I.ok.bs b o e).2 (I.ok.nofr e) (I.ok.noex b o e), I.base.free b o (I.ok.bs b o e).1 (I.ok.bs b o e).2 (I.ok.noex b o e)⟩
theorem Inv.bk (I : Inv X pins σ H s) : ∀ b o, X.base.get? b = some o → s.heap.get? b = some o := fun b o e => (I.bs b o e).1
theorem Inv.mod (I : Inv X pins σ H s) : Mod X.K X.mg X.base := I.ok.mod
theorem Inv.kIn (I : Inv X pins σ H s) : X.K.In s.heap := I.ok.mod.kin.keeps I.bk
theorem Inv.fr (I : Inv X pins σ H s) : ∃ m, Fr X.base X.env.locals s.heap m :=
  let ⟨m, hn, _⟩ := I.loc
  ⟨m, hn, I.bk, Nat.le_trans I.ok.bsz I.ok.above⟩
theorem Inv.lt (I : Inv X pins σ H s) : X.env.locals < s.heap.objs.size := let ⟨_, hn, _⟩ := I.loc; hn.lt
theorem Inv.sz (I : Inv X pins σ H s) : X.s₀.heap.objs.size ≤ s.heap.objs.size := Nat.le_trans I.ok.above (Nat.le_of_lt I.lt)
theorem Inv.nofs (I : Inv X pins σ H s) {a : Addr} (h : s.heap.objs.size ≤ a) : a ∉ X.fs := fun hb => by
  obtain ⟨_, o, ho, _⟩ := I.ok.funs.mem hb
  exact absurd (Nat.lt_of_lt_of_le (Heap.lt_size ho) (Nat.le_trans I.sz h)) (Nat.lt_irrefl _)
theorem Inv.cne (I : Inv X pins σ H s) : ∀ x c, X.env.cells.lookup x = some c → c ≠ X.env.locals := fun x c e z => by
  obtain ⟨v, o, ho, hd⟩ := I.cell x c e
  obtain ⟨m, ⟨o', es, ep, ho', hd', _⟩, _⟩ := I.loc
  rw [z, ho'] at ho; cases ho; rw [hd'] at hd; cases hd
theorem Inv.funs (I : Inv X pins σ H s) : s.heap.FunFrames X.base X.outer := by
  have all : ∀ (l : List Env), (∀ b ∈ frs l, b ∈ X.fs) → X.s₀.heap.FunFrames X.base l → s.heap.FunFrames X.base l := by
    intro l
    induction l with
    | nil => intro _ _; trivial
    | cons env r ih =>
      intro hs hl
      obtain ⟨hk, ⟨L, o, hf, hn, ho, hd⟩, hr⟩ := hl
      have hL : L ∈ X.fs := hs L (by unfold frs; rw [List.filterMap_cons, hf]; exact List.mem_cons_self)
      obtain ⟨sl, e⟩ := I.base.slot L o ho (I.ok.frf L hL) hL fun z => I.ok.exfs L z hL
      exact ⟨hk, ⟨L, _, hf, hn, e, hd⟩, ih (fun b hb => hs b (by unfold frs; rw [List.filterMap_cons, hf]; exact List.mem_cons_of_mem _ hb)) hr⟩
  exact all X.outer (fun _ hb => hb) I.ok.funs

theorem Inv.stack (I : Inv X pins σ H s) : s.heap.FunFrames X.base X.stack := by
  rcases I.ok.stk with e | ⟨e, hf⟩
  · rw [e]; exact I.funs
  · rw [e]
    obtain ⟨m, hn, _⟩ := I.loc
    refine .cons (by rw [I.ok.kind]; decide) hf hn ?_ I.funs
    exact Heap.get?_none_of_le (Nat.le_trans I.ok.bsz I.ok.above)
theorem Inv.stkSub (I : Inv X pins σ H s) : ∀ b ∈ frs X.stack, b ∈ X.env.locals :: X.fs := fun b hb => by
  rcases I.ok.stk with e | ⟨e, hf⟩
  · rw [e] at hb; exact List.mem_cons_of_mem _ hb
  · rw [e] at hb
    unfold frs at hb
    rw [List.filterMap_cons, hf] at hb
    exact hb
theorem Inv.stkFree (I : Inv X pins σ H s) : ∀ b ∈ frs X.stack, H b = none := fun b hb => by
  rcases List.mem_cons.mp (I.stkSub b hb) with e | hb
  · rw [e]; exact I.free
  · obtain ⟨_, o, ho, _⟩ := I.ok.funs.mem hb
    exact I.base.free b o ho (I.ok.frf b hb) fun z => I.ok.exfs b z hb

theorem Inv.step {g' : Array GenState} {t' : Nat} {d' : Drawn} {ch : List Addr} (I : Inv X pins σ H s)
    (hch : ∀ b ∈ ch, (b ∈ X.ex ∨ X.s₀.heap.objs.size ≤ b) ∧ b ≠ X.env.locals ∧ (∀ x c, X.env.cells.lookup x = some c → c ≠ b) ∧ ∀ p ∈ X.pn ++ pins, p.1 ≠ b)
    (keep : ∀ b o, b ≠ X.env.locals → b ∉ X.fs → b ∉ ch → s.heap.get? b = some o → H b = none → h'.get? b = some o)
    (slot : ∀ b o, b ≠ X.env.locals → b ∈ X.fs → b ∉ ch → s.heap.get? b = some o → H b = none → ∃ sl, h'.get? b = some { o with slots := sl }) (free : ∀ b o, b ∉ ch → s.heap.get? b = some o → H b = none → H' b = none)
    (there : ∀ b o, b ∉ ch → s.heap.get? b = some o → ∃ o', h'.get? b = some o')
    (tups : ∀ b xs, H b = some (.tup xs) → H' b = some (.tup xs)) (frzs : ∀ b o u, H b = some (.frz o u) → H' b = some (.frz o u)) (tbls : ∀ b ps, H b = some (.tbl ps) → ∃ more, H' b = some (.tbl (ps ++ more)))
    (ns : ∀ m, s.heap.Ns X.env.locals m → h'.Ns X.env.locals m) (hok : HOk X.prog X.w H' h') (hg : AllBare g') :
    Inv X pins σ H' { s with heap := h', gens := g', drawn := d', toks := t' } := by
  have neL : ∀ b o, X.s₀.heap.get? b = some o → b ≠ X.env.locals := fun b o e => Nat.ne_of_lt (Nat.lt_of_lt_of_le (Heap.lt_size e) I.ok.above)
  have neC : ∀ b o, X.s₀.heap.get? b = some o → b ∉ X.ex → b ∉ ch := fun b o e hx hb => by
    rcases (hch b hb).1 with z | z
    · exact hx z
    · exact absurd (Nat.lt_of_lt_of_le (Heap.lt_size e) z) (Nat.lt_irrefl _)
  have cellK : ∀ x c, X.env.cells.lookup x = some c → ∀ v, s.heap.IsCell c v → h'.IsCell c v := fun x c e v ⟨o, ho, hd⟩ => by
    have nch : c ∉ ch := fun z => (hch c z).2.2.1 x c e rfl
    by_cases hc : c ∈ X.fs
    · obtain ⟨sl, q⟩ := slot c o (I.cne x c e) hc nch ho (I.freeC x c e)
      exact ⟨_, q, hd⟩
    · exact ⟨o, keep c o (I.cne x c e) hc nch ho (I.freeC x c e), hd⟩
  refine ⟨I.ok, I.os, hg, ⟨fun b o e n hb hx => ?_, fun b o e n hb hx => ?_, fun b o e n hx => ?_, fun b o e hx => ?_, fun b xs e => tups b xs (I.base.tups b xs e), fun b o xs e => frzs b o xs (I.base.frzs b o xs e), fun b ps e => ?_⟩, ?_, fun x c e => ?_, ?_, fun x c e => ?_, fun p hp => ?_, hok, I.len⟩
  · exact keep b o (neL b o e) hb (neC b o e hx) (I.base.keep b o e n hb hx) (I.base.free b o e n hx)
  · obtain ⟨sl, e1⟩ := I.base.slot b o e n hb hx
    obtain ⟨sl', e2⟩ := slot b _ (neL b o e) hb (neC b o e hx) e1 (I.base.free b o e n hx)
    exact ⟨sl', e2⟩
  · obtain ⟨o', e1⟩ := I.base.there b o e hx
    exact free b o' (neC b o e hx) e1 (I.base.free b o e n hx)
  · obtain ⟨o', e1⟩ := I.base.there b o e hx
    exact there b o' (neC b o e hx) e1
  · obtain ⟨m1, e1⟩ := I.base.tbls b ps e
    obtain ⟨m2, e2⟩ := tbls b _ e1
    exact ⟨m1 ++ m2, by rw [e2, Array.append_assoc]⟩
  · obtain ⟨m, hn, hl⟩ := I.loc
    refine ⟨m, ns m hn, fun i x v e1 e2 e3 => ?_⟩
    obtain ⟨u, r, l⟩ := hl i x v e1 e2 e3
    refine ⟨u, r, ?_⟩
    rcases l with l | ⟨k, c, e, z⟩
    · exact .inl l
    · exact .inr ⟨k, c, e, cellK x c e _ z⟩
  · obtain ⟨v, z⟩ := I.cell x c e
    exact ⟨v, cellK x c e v z⟩
  · obtain ⟨m, ⟨o, _, _, ho, _⟩, _⟩ := I.loc
    exact free _ o (fun z => (hch _ z).2.1 rfl) ho I.free
  · obtain ⟨v, o, ho, hd⟩ := I.cell x c e
    exact free c o (fun z => (hch c z).2.2.1 x c e rfl) ho (I.freeC x c e)
  · obtain ⟨e, n, ne, nf, d⟩ := I.pin p hp
    have nch : p.1 ∉ ch := fun z => (hch p.1 z).2.2.2 p hp rfl
    exact ⟨keep p.1 p.2 ne nf nch e n, free p.1 p.2 nch e n, ne, nf, d⟩
theorem Inv.un {t' : Nat} (I : Inv X pins σ H s) (u : Un X.fs [] H H' s.heap h') (hok : HOk X.prog X.w H' h') : Inv X pins σ H' { s with heap := h', toks := t' } := by
  obtain ⟨m, ⟨o, es, ep, ho, r⟩, _⟩ := id I.loc
  obtain ⟨sl, hL⟩ := u.any ho I.free (by simp)
  exact I.step (g' := s.gens) (d' := s.drawn) (ch := []) (fun _ z => nomatch z) (fun b o _ hb _ e n => u.keep b o e n hb (by simp)) (fun b o _ hb _ e n => u.slot b o e n hb (by simp)) (fun b o _ e n => u.free b o e n (by simp)) (fun b o _ e => u.there b o e (by simp)) u.tups u.frzs u.tbls (fun m' hm => by
    obtain ⟨o', es', ep', ho', r'⟩ := hm
    rw [ho] at ho'; cases ho'
    exact ⟨_, es', ep', hL, r'⟩) hok I.bare
theorem Inv.call {g' : Array GenState} {t' : Nat} {d' : Drawn} {ch : List Addr} (I : Inv X pins σ H s) (u : Un (frs X.stack) ch H H' s.heap h') (hok : HOk X.prog X.w H' h') (hg : AllBare g')
    (hch : ∀ b ∈ ch, (b ∈ X.ex ∨ X.s₀.heap.objs.size ≤ b) ∧ b ≠ X.env.locals ∧ (∀ x c, X.env.cells.lookup x = some c → c ≠ b) ∧ ∀ p ∈ X.pn ++ pins, p.1 ≠ b) :
    Inv X pins σ H' { s with heap := h', gens := g', drawn := d', toks := t' } := by
  obtain ⟨m, ⟨o, es, ep, ho, r⟩, _⟩ := id I.loc
  obtain ⟨sl, hL⟩ := u.any ho I.free fun z => (hch _ z).2.1 rfl
  exact I.step (ch := ch) hch (fun b o hL hb hc e n => u.keep b o e n (fun z => (List.mem_cons.mp (I.stkSub b z)).elim hL hb) hc) (fun b o _ _ hc e n => u.any e n hc) (fun b o hc e n => u.free b o e n hc) (fun b o hc e => u.there b o e hc) u.tups u.frzs u.tbls (fun m' hm => by
    obtain ⟨o', es', ep', ho', r'⟩ := hm
    rw [ho] at ho'; cases ho'
    exact ⟨_, es', ep', hL, r'⟩) hok hg
theorem Inv.turned {t' : Nat} {it : Addr} (I : Inv X pins σ H s) (k : ∀ b o, b ≠ it → s.heap.get? b = some o → h'.get? b = some o) (hn : H it = none) (hL : it ≠ X.env.locals)
    (h1 : it ∈ X.ex ∨ X.s₀.heap.objs.size ≤ it) (h2 : ∀ x c, X.env.cells.lookup x = some c → c ≠ it) (h3 : ∀ p ∈ X.pn ++ pins, p.1 ≠ it) : Inv X pins σ H { s with heap := h', toks := t' } := by
  have nit : ∀ b u, H b = some u → b ≠ it := fun b u e z => by rw [z, hn] at e; cases e
  refine I.step (g' := s.gens) (d' := s.drawn) (ch := [it]) (fun b hb => ?_) (fun b o _ _ hc e _ => k b o (fun z => hc (by simp [z])) e) (fun b o _ _ hc e _ => ⟨o.slots, k b o (fun z => hc (by simp [z])) e⟩) (fun _ _ _ _ n => n)
    (fun b o hc e => ⟨o, k b o (fun z => hc (by simp [z])) e⟩) (fun _ _ e => e) (fun _ _ _ e => e) (fun b ps e => ⟨#[], by rw [e]; simp⟩) (fun m hm => ?_) (fun b u e => ?_) I.bare
  · have e : b = it := by simpa using hb
    subst e
    exact ⟨h1, hL, h2, h3⟩
  · obtain ⟨o, es, ep, ho, r⟩ := hm
    exact ⟨o, es, ep, k _ o (Ne.symm hL) ho, r⟩
  · refine (I.hok b u e).stay (fun c v hc q => k c v ?_ q) (fun _ q => q) fun _ _ q => q
    rcases hc with z | z
    · rw [z]; exact nit b u e
    · exact nit c _ z
theorem Inv.tok (I : Inv X pins σ H s) (t : Nat) : Inv X pins σ H { s with toks := t } := I.un (h' := s.heap) (t' := t) Un.refl I.hok
theorem Inv.kept {t' : Nat} (I : Inv X pins σ H s) (k : ∀ b u, s.heap.get? b = some u → h'.get? b = some u) : Inv X pins σ H { s with heap := h', toks := t' } := I.un (Un.kept k) (I.hok.kept k)
theorem Inv.laid {a : Addr} {o : HO} {t' : Nat} (I : Inv X pins σ H s) (k : ∀ b u, s.heap.get? b = some u → h'.get? b = some u) (hp : s.heap.objs.size ≤ a) (new : ObjOk X.prog X.w (upd H a o) h' a o) :
    Inv X pins σ (upd H a o) { s with heap := h', toks := t' } := I.un (Un.laid k hp (I.hok.fresh hp)) (I.hok.laid k hp new)
theorem Inv.write {x e : Addr} {o : HO} {t' : Nat} (I : Inv X pins σ H s) (mu : Mut (H x)) (he : e = x ∨ H e = some (.own x)) (k : ∀ b u, b ≠ e → s.heap.get? b = some u → h'.get? b = some u) (heo : ∃ u, h'.get? e = some u)
    (new : ObjOk X.prog X.w (upd H x o) h' x o) : Inv X pins σ (upd H x o) { s with heap := h', toks := t' } := I.un (Un.write mu he k heo) (I.hok.write mu he k heo new)
theorem Inv.pins_of {pins' : List (Addr × Obj)} (I : Inv X pins σ H s) (h : ∀ p ∈ pins', s.heap.get? p.1 = some p.2 ∧ H p.1 = none ∧ p.1 ≠ X.env.locals ∧ p.1 ∉ X.fs ∧ ∀ v, p.2.data ≠ .cell v) : Inv X pins' σ H s :=
  ⟨I.ok, I.os, I.bare, I.base, I.loc, I.cell, I.free, I.freeC, fun p hp => (List.mem_append.mp hp).elim (fun z => I.pin p (List.mem_append_left _ z)) (h p), I.hok, I.len⟩

theorem nodup_ix {N : List Str} (hN : N.Nodup) {i j : Nat} {x : Str} (a : N[i]? = some x) (b : N[j]? = some x) : i = j := by
  obtain ⟨h1, e1⟩ := List.getElem?_eq_some_iff.mp a
  obtain ⟨h2, e2⟩ := List.getElem?_eq_some_iff.mp b
  exact (List.getElem_inj hN).mp (e1.trans e2.symm)

theorem store_ok2 {M : Model} {A : Around} {E : Value → Shared → Prop} {i : Nat} {x : Str} {v : V} {u : Value} {Q : Unit → Shared → Prop} (I : Inv X pins σ H s) (hN : X.N.Nodup) (hi : X.N[i]? = some x) (hx : Loc X.env.scope x) (r : RelV v u)
    (h : ∀ s', Inv X pins (σ.set i (some v)) H s' → (∃ a, Heap.SameBut a s.heap s'.heap ∧ (a = X.env.locals ∨ X.env.cells.lookup x = some a)) → Q () s') (hf : X.fn x = true ∨ X.env.scope.names.lookup x = some .local := by first | exact .inl rfl | exact .inr rfl | assumption) : wpAny M A (storeName X.env x u) Q E s := by
  obtain ⟨m, hn, hl⟩ := id I.loc
  have hcls : (X.env.scope.kind == .class || (X.env.scope.kind == .module && X.env.locals != X.env.globals)) = false := by rw [I.ok.kind]; rfl
  have hiσ : i < σ.length := by rw [I.len]; exact (List.getElem?_eq_some_iff.mp hi).1
  have cne := I.cne
  have tracked : ∀ {a : Addr} {h' : Heap}, (∃ o, s.heap.get? a = some o ∧ H a = none) → Heap.SameBut a s.heap h' → HOk X.prog X.w H h' := fun {a h'} ha hs b ob e => by
    obtain ⟨_, _, hfree⟩ := ha
    refine (I.hok b ob e).stay (fun c w' hc q => (hs.2 c ?_).trans q) (fun _ q => q) fun _ _ q => q
    rintro rfl
    rcases hc with rfl | hc
    · rw [hfree] at e; cases e
    · rw [hfree] at hc; cases hc
  rcases hx with hk | hk
  · refine wpAny_storeName_local hk hn (fun h' hn' hs => ?_) hcls
    obtain ⟨oL, _, _, hoL, _⟩ := id hn
    refine h _ ⟨I.ok, I.os, I.bare, ⟨fun b o e n hb hx => ?_, fun b o e n hb hx => ?_, I.base.free, fun b o e hx => ?_, I.base.tups, I.base.frzs, I.base.tbls⟩, ⟨_, hn', fun j y v' e1 e2 e3 => ?_⟩, fun y c e => ?_, I.free, I.freeC, fun p hp => ?_, tracked ⟨oL, hoL, I.free⟩ hs, by simpa using I.len⟩ ⟨_, hs, .inl rfl⟩
    · exact (hs.2 b (Nat.ne_of_lt (Nat.lt_of_lt_of_le (Heap.lt_size e) I.ok.above))).trans (I.base.keep b o e n hb hx)
    · obtain ⟨sl, e1⟩ := I.base.slot b o e n hb hx
      exact ⟨sl, (hs.2 b (Nat.ne_of_lt (Nat.lt_of_lt_of_le (Heap.lt_size e) I.ok.above))).trans e1⟩
    · obtain ⟨o', e1⟩ := I.base.there b o e hx
      exact ⟨o', (hs.2 b (Nat.ne_of_lt (Nat.lt_of_lt_of_le (Heap.lt_size e) I.ok.above))).trans e1⟩
    · by_cases hj : j = i
      · subst hj
        rw [hi] at e1; cases e1
        rw [List.getElem?_set_self hiσ] at e2
        cases e2
        exact ⟨u, r, .inl ⟨hk, by simp⟩⟩
      · rw [List.getElem?_set_ne (Ne.symm hj)] at e2
        obtain ⟨u', r', q⟩ := hl j y v' e1 e2 e3
        refine ⟨u', r', ?_⟩
        rcases q with ⟨k, e⟩ | ⟨k, c, e, z⟩
        · refine .inl ⟨k, ?_⟩
          have : y ≠ x := fun e => hj (nodup_ix hN e1 (e ▸ hi))
          simp [this, e]
        · exact .inr ⟨k, c, e, z.sameBut hs (cne y c e)⟩
    · obtain ⟨w', z⟩ := I.cell y c e
      exact ⟨w', z.sameBut hs (cne y c e)⟩
    · obtain ⟨e, n, ne, nf, d⟩ := I.pin p hp
      exact ⟨(hs.2 p.1 ne).trans e, n, ne, nf, d⟩
  · have hfn : X.fn x = true := by
      rcases hf with z | z
      · exact z
      · rw [z] at hk; cases hk
    obtain ⟨c, hc⟩ := I.ok.has x (.inl hk)
    obtain ⟨w', z⟩ := I.cell x c hc
    refine wpAny_storeName_cell I.ok.kind hk hc z (fun h' hc' hs => ?_)
    obtain ⟨oc, hoc, hocd⟩ := id z
    refine h { s with heap := h' } ⟨I.ok, I.os, I.bare, ⟨fun b o e n hb hx => ?_, fun b o e n hb hx => ?_, I.base.free, fun b o e hx => ?_, I.base.tups, I.base.frzs, I.base.tbls⟩, ⟨m, hn.sameBut hs (Ne.symm (cne x c hc)), fun j y v' e1 e2 e3 => ?_⟩, fun y c' e => ?_, I.free, I.freeC, fun p hp => ?_, tracked ⟨oc, hoc, I.freeC x c hc⟩ hs, by simpa using I.len⟩ ⟨c, hs, .inr hc⟩
    · exact (hs.2 b (Nat.ne_of_lt (Nat.lt_of_lt_of_le (Heap.lt_size e) (I.ok.cab x c hfn hc)))).trans (I.base.keep b o e n hb hx)
    · obtain ⟨sl, e1⟩ := I.base.slot b o e n hb hx
      exact ⟨sl, (hs.2 b (Nat.ne_of_lt (Nat.lt_of_lt_of_le (Heap.lt_size e) (I.ok.cab x c hfn hc)))).trans e1⟩
    · obtain ⟨o', e1⟩ := I.base.there b o e hx
      exact ⟨o', (hs.2 b (Nat.ne_of_lt (Nat.lt_of_lt_of_le (Heap.lt_size e) (I.ok.cab x c hfn hc)))).trans e1⟩
    · by_cases hj : j = i
      · subst hj
        rw [hi] at e1; cases e1
        rw [List.getElem?_set_self hiσ] at e2
        cases e2
        exact ⟨u, r, .inr ⟨.inl hk, c, hc, hc'⟩⟩
      · rw [List.getElem?_set_ne (Ne.symm hj)] at e2
        obtain ⟨u', r', q⟩ := hl j y v' e1 e2 e3
        refine ⟨u', r', ?_⟩
        rcases q with q | ⟨k, c', e, z'⟩
        · exact .inl q
        · refine .inr ⟨k, c', e, z'.sameBut hs ?_⟩
          rintro rfl
          exact hj (nodup_ix hN e1 (I.ok.inj _ _ _ e hc ▸ hi))
    · by_cases hcc : c' = c
      · subst hcc; exact ⟨_, hc'⟩
      · obtain ⟨w2, z2⟩ := I.cell y c' e
        exact ⟨w2, z2.sameBut hs hcc⟩
    · obtain ⟨e, n, ne, nf, d⟩ := I.pin p hp
      refine ⟨(hs.2 p.1 ?_).trans e, n, ne, nf, d⟩
      intro q
      rw [q, hoc] at e
      have q' : oc = p.2 := Option.some.inj e
      exact d w' (by rw [← q']; exact hocd)
theorem store_ok {M : Model} {A : Around} {E : Value → Shared → Prop} {i : Nat} {x : Str} {v : V} {u : Value} {Q : Unit → Shared → Prop} (I : Inv X pins σ H s) (hN : X.N.Nodup) (hi : X.N[i]? = some x) (hx : Loc X.env.scope x) (r : RelV v u)
    (h : ∀ s', Inv X pins (σ.set i (some v)) H s' → Q () s') (hf : X.fn x = true ∨ X.env.scope.names.lookup x = some .local := by first | exact .inl rfl | exact .inr rfl | assumption) : wpAny M A (storeName X.env x u) Q E s :=
  store_ok2 I hN hi hx r (fun s' I' _ => h s' I') hf
end

abbrev XK := Value → Option Addr → Hp → Prop
abbrev St := List (Option V)
abbrev VK := V → Hp → Prop
abbrev TE := St → Hp → VK → Prop
abbrev TT := St → Hp → (Bool → Hp → Prop) → Prop
abbrev TA := St → Hp → (List V → Hp → Prop) → Prop
structure Ends where
  nx : St → Hp → Prop
  rt : VK
  bk : St → Hp → Prop := fun _ _ => False
  ct : St → Hp → Prop := fun _ _ => False
abbrev TS := Ends → St → Hp → Prop

def EP (X : Cx) (pins : List (Addr × Obj)) (σ : St) (Q : VK) (u : Value) (s' : Shared) : Prop := ∃ v H', Inv X pins σ H' s' ∧ RelV v u ∧ Q v H'
def TP (X : Cx) (pins : List (Addr × Obj)) (σ : St) (Q : Bool → Hp → Prop) (b : Bool) (s' : Shared) : Prop := ∃ H', Inv X pins σ H' s' ∧ Q b H'
def AP (X : Cx) (pins : List (Addr × Obj)) (σ : St) (Q : List V → Hp → Prop) (us : List Value) (s' : Shared) : Prop := ∃ vs H', Inv X pins σ H' s' ∧ Vals vs us ∧ Q vs H'
def SP (X : Cx) (pins : List (Addr × Obj)) (D : Ends) (f : Flow) (s' : Shared) : Prop :=
  match f with
  | .next => ∃ σ' H', Inv X pins σ' H' s' ∧ D.nx σ' H'
  | .brk => ∃ σ' H', Inv X pins σ' H' s' ∧ D.bk σ' H'
  | .cont => ∃ σ' H', Inv X pins σ' H' s' ∧ D.ct σ' H'
  | .ret u => ∃ v σ' H', Inv X pins σ' H' s' ∧ RelV v u ∧ D.rt v H'

def PE (X : Cx) (e : Expr) (t : TE) : Prop :=
  ∀ (pins : List (Addr × Obj)) (s : Shared) (σ : St) (H : Hp) (Q : VK), Inv X pins σ H s → t σ H Q → wpAny (model X.prog X.w) X.A (eval e X.env) (EP X pins σ Q) X.xe s
def PT (X : Cx) (e : Expr) (t : TT) : Prop :=
  ∀ (pins : List (Addr × Obj)) (s : Shared) (σ : St) (H : Hp) (Q : Bool → Hp → Prop), Inv X pins σ H s → t σ H Q → wpAny (model X.prog X.w) X.A (isTrue e X.env (eval e X.env)) (TP X pins σ Q) X.xe s
def PW (X : Cx) (e : Expr) (t : TT) : Prop :=
  ∀ (whole : Sem Value) (pins : List (Addr × Obj)) (s : Shared) (σ : St) (H : Hp) (Q : Bool → Hp → Prop), Inv X pins σ H s → t σ H Q → wpAny (model X.prog X.w) X.A (isTrue e X.env whole) (TP X pins σ Q) X.xe s
theorem PW.pt {X : Cx} {e : Expr} {t : TT} (h : PW X e t) : PT X e t := h _
def PA (X : Cx) (es : List Expr) (t : TA) : Prop :=
  ∀ (pos : Pos) (pins : List (Addr × Obj)) (s : Shared) (σ : St) (H : Hp) (Q : List V → Hp → Prop), Inv X pins σ H s → t σ H Q → wpAny (model X.prog X.w) X.A (spliced (backTo pos (starEach es X.env))) (AP X pins σ Q) X.xe s
def PS (X : Cx) (st : Stmt) (t : TS) : Prop :=
  ∀ (pins : List (Addr × Obj)) (s : Shared) (σ : St) (H : Hp) (D : Ends), Inv X pins σ H s → t D σ H → wpAny (model X.prog X.w) X.A (exec st X.env) (SP X pins D) X.xe s
def PSs (X : Cx) (st : List Stmt) (t : TS) : Prop :=
  ∀ (pins : List (Addr × Obj)) (s : Shared) (σ : St) (H : Hp) (D : Ends), Inv X pins σ H s → t D σ H → wpAny (model X.prog X.w) X.A (execs st X.env) (SP X pins D) X.xe s
theorem thn {α : Type} {t : Sem α} {Q Q' : α → Shared → Prop} {M : Model} {A : Around} {E : Value → Shared → Prop} {s : Shared} (h : wpAny M A t Q E s) (hQ : ∀ a s, Q a s → Q' a s) : wpAny M A t Q' E s := wpAny_mono h hQ fun _ _ x => x
end L2

namespace L2
open PySem PySem.Spec PyProof.Rows
section
variable {X : Cx}

theorem bin {a b : Expr} {ta tb : TE} (ha : PE X a ta) (hb : PE X b tb) {pins : List (Addr × Obj)} {s : Shared} {σ : St} {H : Hp} {R : V → V → Hp → Prop} (I : Inv X pins σ H s) (h : ta σ H fun x H1 => tb σ H1 fun y H2 => R x y H2)
    {α : Type} {Q : α → Shared → Prop} {f : Value → Value → Sem α}
    (hf : ∀ v u s2 x y H2, Inv X pins σ H2 s2 → RelV x v → RelV y u → R x y H2 → wpAny (model X.prog X.w) X.A (f v u) Q X.xe s2) :
    wpAny (model X.prog X.w) X.A (eval a X.env) (fun v s₁ => wpAny (model X.prog X.w) X.A (eval b X.env) (fun u s₂ => wpAny (model X.prog X.w) X.A (f v u) Q X.xe s₂) X.xe s₁) X.xe s := by
  refine thn (ha pins s σ H _ I h) fun v s1 ⟨x, H1, I1, r1, q1⟩ => ?_
  refine thn (hb pins s1 σ H1 _ I1 q1) fun u s2 ⟨y, H2, I2, r2, q2⟩ => ?_
  exact hf v u s2 x y H2 I2 r1 r2 q2

def tVar (i : Nat) : TE := fun σ H Q => ∃ v, σ[i]? = some (some v) ∧ Q v H
def tC (v : V) : TE := fun _ H Q => Q v H
theorem pe_var {i : Nat} {x : Str} {pos : Pos} (hN : X.N[i]? = some x) (hv : Vis X.env.scope x) (hd : (x == ("__debug__" : Str)) = false := by decide) (hcd : (x == ("__classdict__" : Str)) = false := by decide) : PE X (.Name x pos) (tVar i) := by
  intro pins s σ H Q I h
  obtain ⟨v, e, h⟩ := h
  obtain ⟨m, hn, hl⟩ := I.loc
  obtain ⟨u, r, l⟩ := hl i x v hN e hv
  have fin : EP X pins σ Q u s := ⟨v, H, I, r, h⟩
  rcases l with ⟨hk, hm⟩ | ⟨hk, c, hc, hcell⟩
  · exact wpAny_Name (wpAny_loadName_local I.ok.kind hk hn hm fin) hd
  · rcases hk with hk | hk
    · exact wpAny_Name (wpAny_loadName_cell I.ok.kind hk hc hcell fin) hd
    · exact wpAny_Name (wpAny_loadName_free I.ok.kind hk hc hcell fin hcd) hd
theorem pe_int {i j pos} : PE X (.Constant (.int i) j pos) (tC (.int i)) := fun _ _ _ H _ I h => wpAny_Constant_int ⟨.int i, H, I.tok _, ⟨_, rfl⟩, h⟩
theorem pe_bl {b j pos} : PE X (.Constant (.bool b) j pos) (tC (.bl b)) := fun _ _ _ H _ I h => Constant_bool ⟨.bl b, H, I, rfl, h⟩
theorem pe_str {x j pos} : PE X (.Constant (.str x) j pos) (tC (.str x)) := fun _ _ _ H _ I h => Calls.Constant_str ⟨.str x, H, I.tok _, ⟨_, rfl⟩, h⟩

def Gl (X : Cx) (x : Str) : Prop := X.env.kindOf x = some .globalImplicit
theorem ld_glob {E : Value → Shared → Prop} {pins : List (Addr × Obj)} {s : Shared} {σ : St} {H : Hp} {x : Str} {u : Value} {pos : Pos} {Q : Value → Shared → Prop} (I : Inv X pins σ H s) (hg : Gl X x) (hm : X.mg x = some u) (h : Q u s)
    (hd : (x == ("__debug__" : Str)) = false := by decide) : wpAny (model X.prog X.w) X.A (eval (.Name x pos) X.env) Q E s :=
  Calls.Name_function_global I.ok.kind hg (Calls.loadGlobal_global (by rw [I.ok.glob]; exact I.mod.glob.keeps I.bk) hm h) hd
theorem ld_blt {E : Value → Shared → Prop} {pins : List (Addr × Obj)} {s : Shared} {σ : St} {H : Hp} {x : Str} {u : Value} {pos : Pos} {Q : Value → Shared → Prop} (I : Inv X pins σ H s) (hg : Gl X x) (hm : X.mg x = none) (hv : bootBuiltins x = some u) (h : Q u s)
    (hn : x ≠ "__name__" := by decide) (hd : (x == ("__debug__" : Str)) = false := by decide) : wpAny (model X.prog X.w) X.A (eval (.Name x pos) X.env) Q E s := by
  obtain ⟨mb, h1, h2⟩ := I.mod.blt
  exact Calls.Name_function_global I.ok.kind hg (Calls.loadGlobal_builtin (by rw [I.ok.glob]; exact I.mod.glob.keeps I.bk) hm (by rw [I.ok.blt]; exact h1.keeps I.bk) ((h2 x hn).trans hv) h) hd
theorem pe_glob {x : Str} {v : V} {u : Value} {pos : Pos} (hg : Gl X x) (hm : X.mg x = some u) (r : RelV v u) (hd : (x == ("__debug__" : Str)) = false := by decide) : PE X (.Name x pos) (tC v) :=
  fun _ _ _ H _ I h => ld_glob I hg hm ⟨v, H, I, r, h⟩ hd
theorem pe_bltn {x : Str} {v : V} {u : Value} {pos : Pos} (hg : Gl X x) (hm : X.mg x = none) (hv : bootBuiltins x = some u) (r : RelV v u) (hn : x ≠ "__name__" := by decide) (hd : (x == ("__debug__" : Str)) = false := by decide) : PE X (.Name x pos) (tC v) :=
  fun _ _ _ H _ I h => ld_blt I hg hm hv ⟨v, H, I, r, h⟩ hn hd

variable {a b : Expr} {ta tb : TE} {pos : Pos}
def PC (X : Cx) (op : CmpOp) (a b : Expr) (t : TE) : Prop :=
  ∀ (pins : List (Addr × Obj)) (s : Shared) (σ : St) (H : Hp) (Q : VK), Inv X pins σ H s → t σ H Q →
    wpAny (model X.prog X.w) X.A (eval a X.env) (fun v s₁ => wpAny (model X.prog X.w) X.A (eval b X.env) (fun u s₂ => wpAny (model X.prog X.w) X.A (compareOp op v u) (EP X pins σ Q) X.xe s₂) X.xe s₁) X.xe s
theorem nobehind (b : Expr) {op : CmpOp} (h : op ≠ .In) (h2 : op ≠ .NotIn) : behindInMarks op b = false := by
  have e1 : (op == CmpOp.In) = false := by cases op <;> first | rfl | exact absurd rfl h
  have e2 : (op == CmpOp.NotIn) = false := by cases op <;> first | rfl | exact absurd rfl h2
  cases b <;> simp [behindInMarks, e1, e2]
def tB (t : TE) : TT := fun σ H Q => t σ H fun x H1 => ∃ c, x = .bl c ∧ Q c H1
theorem pt_cmp {op : CmpOp} {t : TE} (h : PC X op a b t) (h1 : behindInMarks op b = false := by first | exact nobehind _ (by decide) (by decide) | rfl) : PT X (.Compare a [op] [b] pos) (tB t) := by
  intro pins s σ H Q I hw
  refine wpAny_isTrue_Compare1 (thn (h pins s σ H _ I hw) fun v s1 h1 => thn h1 fun u s2 h2 => thn h2 fun c s3 ⟨x, H1, I1, r1, q1⟩ => ?_) h1
  obtain ⟨d, rfl, q⟩ := q1
  cases r1
  exact wpAny_truthy_bool ⟨H1, I1, q⟩
theorem pt_val {e : Expr} {t : TE} (h : PE X e t) (he : ∀ whole, isTrue e X.env whole = (do let v ← whole; standAt e.pos; holding [v] (truthy v)) := by intro _; rfl) : PT X e (tB t) := by
  intro pins s σ H Q I hw
  refine isTrue_plain (thn (h pins s σ H _ I hw) fun v s1 ⟨x, H1, I1, r1, q1⟩ => ?_) (he _)
  obtain ⟨d, rfl, q⟩ := q1
  cases r1
  exact wpAny_truthy_bool ⟨H1, I1, q⟩

variable {tA tB' : TT} {rest : List Expr}
def tAnd (t u : TT) : TT := fun σ H Q => t σ H fun c H1 => if c = true then u σ H1 Q else Q false H1
def tOr (t u : TT) : TT := fun σ H Q => t σ H fun c H1 => if c = true then Q true H1 else u σ H1 Q
def tNot (t : TT) : TT := fun σ H Q => t σ H fun c H1 => Q (!c) H1
theorem pw_or1 (ha : PT X a tA) : PW X (.BoolOp .Or [a] pos) tA := by
  intro wh pins s σ H Q I h
  refine isTrue_or (thn (ha pins s σ H Q I h) fun c s1 e => ?_)
  cases c with
  | false => exact isTrue_or_nil e
  | true => exact e
theorem pw_or (ha : PT X a tA) (hb : PW X (.BoolOp .Or (b :: rest) pos) tB') : PW X (.BoolOp .Or (a :: b :: rest) pos) (tOr tA tB') := by
  intro wh pins s σ H Q I h
  refine isTrue_or (thn (ha pins s σ H _ I h) fun c s1 ⟨H1, I1, q1⟩ => ?_)
  cases c with
  | true => exact ⟨H1, I1, q1⟩
  | false => exact hb wh pins s1 σ H1 Q I1 q1
theorem pt_not (ha : PT X a tA) : PT X (.UnaryOp .Not a pos) (tNot tA) := by
  intro pins s σ H Q I h
  exact isTrue_not (ha pins s σ H (fun c H1 => Q (!c) H1) I h)
def tAndV (ta tb : TE) : TE := fun σ H Q => ta σ H fun x H1 => ∃ c, x = .bl c ∧ if c = true then tb σ H1 Q else Q (.bl false) H1
def tOrV (ta tb : TE) : TE := fun σ H Q => ta σ H fun x H1 => ∃ c, x = .bl c ∧ if c = true then Q (.bl true) H1 else tb σ H1 Q
def tNotV (ta : TE) : TE := fun σ H Q => ta σ H fun x H1 => ∃ c, x = .bl c ∧ Q (.bl (!c)) H1
theorem pe_one {op} {t : TE} (h : PE X a t) : PE X (.BoolOp op [a] pos) t := fun pins s σ H Q I hw => BoolOp_one (h pins s σ H Q I hw)
theorem pe_and (ha : PE X a ta) (hb : PE X (.BoolOp .And (b :: rest) pos) tb) : PE X (.BoolOp .And (a :: b :: rest) pos) (tAndV ta tb) := by
  intro pins s σ H Q I h
  refine BoolOp_and (thn (ha pins s σ H _ I h) fun v s1 ⟨x, H1, I1, r1, q1⟩ => ?_)
  obtain ⟨c, rfl, q1⟩ := q1
  cases r1
  refine wpAny_truthy_bool ?_
  cases c with
  | true => exact hb pins s1 σ H1 Q I1 q1
  | false => exact ⟨.bl false, H1, I1, rfl, q1⟩
theorem pe_not (ha : PE X a ta) : PE X (.UnaryOp .Not a pos) (tNotV ta) := by
  intro pins s σ H Q I h
  refine UnaryOp_ (thn (ha pins s σ H _ I h) fun v s1 ⟨x, H1, I1, r1, q1⟩ => ?_)
  obtain ⟨c, rfl, q1⟩ := q1
  cases r1
  exact not_of (wpAny_truthy_bool ⟨.bl (!c), H1, I1, rfl, q1⟩)
def tIf (t : TT) (ta tb : TE) : TE := fun σ H Q => t σ H fun c H1 => if c = true then ta σ H1 Q else tb σ H1 Q
end
end L2

namespace L2
open PySem PySem.Spec PyProof.Rows

def SqL (K : PySem.W.Frag) (H : Hp) (a : Addr) (xs : List V) : Prop :=
  Rd H a (.lst xs) ∨
    ∃ (o : Obj) (its : Array Value) (n : Nat), K.lookup a = some o ∧ o.cls = .type "list" ∧ o.dict = none ∧ o.data = .seq its n ∧ its.size ≤ sizeLine ∧ Vals xs its.toList
def SqT (K : PySem.W.Frag) (H : Hp) (a : Addr) (xs : List V) : Prop :=
  Rd H a (.tup xs) ∨
    ∃ (o : Obj) (its : Array Value) (n : Nat), K.lookup a = some o ∧ o.cls = .type "tuple" ∧ o.data = .seq its n ∧ its.size ≤ sizeLine ∧ Vals xs its.toList
def absV : Value → Option V
  | .none => some .non
  | .bool b => some (.bl b)
  | .int i _ => some (.int i)
  | .str x _ => some (.str x)
  | .bytes b _ => some (.byt b)
  | .float b _ => some (.flt b)
  | .ref a => some (.ref a)
  | .type n => some (.ty n)
  | _ => none
theorem RelV.abs {x : V} {u : Value} (r : RelV x u) : absV u = some x := by
  cases x with
  | non => cases r; rfl
  | bl _ => cases r; rfl
  | int _ => obtain ⟨t, rfl⟩ := r; rfl
  | str _ => obtain ⟨t, rfl⟩ := r; rfl
  | byt _ => obtain ⟨t, rfl⟩ := r; rfl
  | flt _ => obtain ⟨t, rfl⟩ := r; rfl
  | ref _ => cases r; rfl
  | ty _ => cases r; rfl
theorem RelV.inj {x y : V} {u : Value} (r : RelV x u) (q : RelV y u) : x = y := Option.some.inj (r.abs.symm.trans q.abs)
theorem Vals.inj : ∀ {xs ys : List V} {us : List Value}, Vals xs us → Vals ys us → xs = ys
  | _, _, _, .nil, .nil => rfl
  | _, _, _, .cons r t, .cons r' t' => by rw [r.inj r', Vals.inj t t']
section
variable {X : Cx} {pins : List (Addr × Obj)} {σ : St} {H : Hp} {s : Shared} {a : Addr} {xs ys : List V}
theorem SqL.of {K : PySem.W.Frag} (h : H a = some (.lst xs)) : SqL K H a xs := .inl (.inl h)
theorem SqT.of {K : PySem.W.Frag} (h : H a = some (.tup xs)) : SqT K H a xs := .inl (.inl h)
theorem Inv.list (I : Inv X pins σ H s) (h : SqL X.K H a xs) : ∃ its : List Value, Vals xs its ∧ PlainL s.heap a its.toArray ∧ xs.length ≤ sizeLine := by
  rcases h with h | ⟨o, its, n, hk, hc, hd, hs, hz, r⟩
  · obtain ⟨z, its, n, r, e⟩ := h.ok I.hok
    exact ⟨its, r, ⟨_, n, e, rfl, rfl, rfl⟩, z⟩
  · refine ⟨its.toList, r, ⟨o, n, I.kIn a o hk, hc, hd, by simpa using hs⟩, ?_⟩
    have e := r.length
    simp only [Array.length_toList] at e
    omega
theorem Inv.tuple (I : Inv X pins σ H s) (h : SqT X.K H a xs) : ∃ its : List Value, Vals xs its ∧ IsTup s.heap a its.toArray ∧ xs.length ≤ sizeLine := by
  rcases h with h | ⟨o, its, n, hk, hc, hs, hz, r⟩
  · obtain ⟨z, its, r, p, _⟩ := h.ok I.hok
    exact ⟨its, r, p, z⟩
  · refine ⟨its.toList, r, ⟨o, I.kIn a o hk, hc, n, by simpa using hs⟩, ?_⟩
    have e := r.length
    simp only [Array.length_toList] at e
    omega
end

abbrev Cx.wish (X : Cx) (E : Value → Shared → Prop) : Cx := { X with xe := E }
abbrev Cx.nox (X : Cx) : Cx := X.wish fun _ _ => False
theorem Cx.Ok.wish {X : Cx} (ok : X.Ok) (E : Value → Shared → Prop) : (X.wish E).Ok :=
  ⟨ok.mod, ok.kind, ok.glob, ok.blt, ok.above, ok.inj, ok.has, ok.cab, ok.hd, ok.frames, ok.stk, ok.exf, ok.bs, ok.bsz, ok.noex, ok.exfs, ok.funs, ok.frf⟩
theorem Cx.Ok.unwish {X : Cx} {E : Value → Shared → Prop} (ok : (X.wish E).Ok) : X.Ok :=
  ⟨ok.mod, ok.kind, ok.glob, ok.blt, ok.above, ok.inj, ok.has, ok.cab, ok.hd, ok.frames, ok.stk, ok.exf, ok.bs, ok.bsz, ok.noex, ok.exfs, ok.funs, ok.frf⟩
section
variable {X : Cx} {pins : List (Addr × Obj)} {σ : St} {H : Hp} {s : Shared} {E : Value → Shared → Prop}
theorem Inv.wish (I : Inv X pins σ H s) (E : Value → Shared → Prop) : Inv (X.wish E) pins σ H s := ⟨I.ok.wish E, I.os, I.bare, I.base, I.loc, I.cell, I.free, I.freeC, I.pin, I.hok, I.len⟩
theorem Inv.unwish (I : Inv (X.wish E) pins σ H s) : Inv X pins σ H s := ⟨I.ok.unwish, I.os, I.bare, I.base, I.loc, I.cell, I.free, I.freeC, I.pin, I.hok, I.len⟩
theorem SP.unwish {D : Ends} {f : Flow} {s' : Shared} (h : SP (X.wish E) pins D f s') : SP X pins D f s' := by
  cases f with
  | next => obtain ⟨σ', H', I, q⟩ := h; exact ⟨σ', H', I.unwish, q⟩
  | brk => obtain ⟨σ', H', I, q⟩ := h; exact ⟨σ', H', I.unwish, q⟩
  | cont => obtain ⟨σ', H', I, q⟩ := h; exact ⟨σ', H', I.unwish, q⟩
  | ret u => obtain ⟨v, σ', H', I, r, q⟩ := h; exact ⟨v, σ', H', I.unwish, r, q⟩
theorem PSs.nox {st : List Stmt} {t : TS} (h : PSs X.nox st t) : PSs X st t := fun pins s σ H D I hw =>
  wpAny_mono (h pins s σ H D (I.wish _) hw) (fun _ _ q => q.unwish) fun _ _ z => False.elim z
end

section
variable {X : Cx} {st : Stmt} {rest : List Stmt} {t u : TS} {e : Expr} {te : TE} {pos : Pos}
def tNext : TS := fun D σ H => D.nx σ H
def tSeq (t u : TS) : TS := fun D σ H => t { D with nx := u D } σ H
theorem pss_nil : PSs X [] tNext := fun _ _ σ H _ I h => wpAny_execs_nil ⟨σ, H, I, h⟩
theorem pss_cons (h1 : PS X st t) (h2 : PSs X rest u) : PSs X (st :: rest) (tSeq t u) := by
  intro pins s σ H D I h
  refine wpAny_execs_cons (thn (h1 pins s σ H { D with nx := u D } I h) fun f s1 q => ?_)
  cases f with
  | next =>
    obtain ⟨σ', H', I', q⟩ := q
    exact h2 pins s1 σ' H' D I' q
  | ret v => exact q
  | brk => exact q
  | cont => exact q
theorem pss_one (h1 : PS X st t) : PSs X [st] t := by
  intro pins s σ H D I h
  refine wpAny_execs_cons (thn (h1 pins s σ H D I h) fun f s1 q => ?_)
  cases f with
  | next => exact wpAny_execs_nil q
  | ret v => exact q
  | brk => exact q
  | cont => exact q
def tCont : TS := fun D σ H => D.ct σ H
theorem Inv.quiet {pins : List (Addr × Obj)} {σ : St} {H : Hp} {s : Shared} (I : Inv X pins σ H s) : interactive X.env = false := by simp [interactive, I.ok.kind]
def tDrop (te : TE) : TS := fun D σ H => te σ H fun _ H1 => D.nx σ H1
theorem ps_expr (he : PE X e te) (hs : swapsWith e none pos.line X.env = pure false := by rfl) : PS X (.Expr e pos) (tDrop te) := by
  intro pins s σ H D I h
  exact wpAny_Expr_any (thn (he pins s σ H _ I h) fun v s1 ⟨x, H1, I1, r1, q1⟩ => ⟨σ, H1, I1, q1⟩) I.quiet hs
def tRet (te : TE) : TS := fun D σ H => te σ H D.rt
theorem ps_ret (he : PE X e te) : PS X (.Return (some e) pos) (tRet te) := by
  intro pins s σ H D I h
  exact wpAny_Return_some (thn (he pins s σ H _ I h) fun v s1 ⟨x, H1, I1, r1, q1⟩ => ⟨x, σ, H1, I1, r1, q1⟩)
def tRetN : TS := fun D _ H => D.rt .non H
def tIfS (c : TT) (t u : TS) : TS := fun D σ H => c σ H fun b H1 => if b = true then t D σ H1 else u D σ H1
theorem ps_if {c : Expr} {a b : List Stmt} {tc : TT} (hc : PT X c tc) (ha : PSs X a t) (hb : PSs X b u) : PS X (.If c a b pos) (tIfS tc t u) := by
  intro pins s σ H D I h
  refine wpAny_If (thn (hc pins s σ H _ I h) fun d s1 ⟨H1, I1, q1⟩ => ?_)
  cases d with
  | true => exact ha pins s1 σ H1 D I1 q1
  | false => exact hb pins s1 σ H1 D I1 q1
def tNever : TS := fun _ _ _ => False
end

abbrev TG := V → St → Hp → (St → Hp → Prop) → Prop
abbrev TGs := List V → St → Hp → (St → Hp → Prop) → Prop
def PG (X : Cx) (target : Expr) (t : TG) : Prop :=
  ∀ (pins : List (Addr × Obj)) (s : Shared) (σ : St) (H : Hp) (v : V) (u : Value) (Q : St → Hp → Prop), Inv X pins σ H s → RelV v u → t v σ H Q →
    wpAny (model X.prog X.w) X.A (assign target X.env u) (fun _ s' => ∃ σ' H', Inv X pins σ' H' s' ∧ Q σ' H') X.xe s
abbrev TSet := V → V → V → Hp → (Hp → Prop) → Prop
section
variable {X : Cx} {pos : Pos}
def gName (i : Nat) : TG := fun v σ H Q => Q (σ.set i (some v)) H
theorem pg_name {i : Nat} {x : Str} (hN : X.N.Nodup) (hi : X.N[i]? = some x) (hx : Loc X.env.scope x) (hf : X.fn x = true ∨ X.env.scope.names.lookup x = some .local := by first | exact .inl rfl | exact .inr rfl | assumption) : PG X (.Name x pos) (gName i) := by
  intro pins s σ H v u Q I r h
  exact wpAny_assign_Name (store_ok I hN hi hx r (fun s' I' => ⟨_, H, I', h⟩) hf)
def gNil : TGs := fun vs σ H Q => vs = [] ∧ Q σ H
def gCons (t : TG) (u : TGs) : TGs := fun vs σ H Q => ∃ v r, vs = v :: r ∧ t v σ H fun σ' H' => u r σ' H' Q
def gTup (K : PySem.W.Frag) (n : Nat) (t : TGs) : TG := fun v σ H Q => ∃ a xs, v = .ref a ∧ SqT K H a xs ∧ xs.length = n ∧ t xs σ H Q
def gSub (to ti : TE) (t : TSet) : TG := fun v σ H Q => to σ H fun o H1 => ti σ H1 fun i H2 => t o i v H2 fun H3 => Q σ H3
def tAsg (te : TE) (g : TG) : TS := fun D σ H => te σ H fun x H1 => g x σ H1 D.nx
theorem ps_set {i : Nat} {x : Str} {e : Expr} {te : TE} {pos' : Pos} (hN : X.N.Nodup) (hi : X.N[i]? = some x) (hx : Loc X.env.scope x) (he : PE X e te) (hs : swapsWith e (some (.Name x pos')) pos.line X.env = pure false := by rfl) (hf : X.fn x = true ∨ X.env.scope.names.lookup x = some .local := by first | exact .inl rfl | exact .inr rfl | assumption) :
    PS X (.Assign [.Name x pos'] e pos) (tAsg te (gName i)) := by
  intro pins s σ H D I h
  refine wpAny_Assign_Name (thn (he pins s σ H _ I h) fun v s1 ⟨y, H1, I1, r1, q1⟩ => ?_) hs
  exact store_ok I1 hN hi hx r1 (fun s2 I2 => ⟨_, H1, I2, q1⟩) hf
def tPar (i j : Nat) (ta : TA) : TS := fun D σ H => ta σ H fun vs H1 => ∃ v w, vs = [v, w] ∧ D.nx ((σ.set i (some v)).set j (some w)) H1
end

section
variable {X : Cx} {pos : Pos}
end

structure It where
  go : Nat → Hp → Prop
  yld : Nat → Hp → V → Hp → Prop
  stop : Nat → Hp → Prop
def FpOk (X : Cx) (pins : List (Addr × Obj)) (H : Hp) (b : Addr) : Prop :=
  H b = none ∧ b ≠ X.env.locals ∧ b ∉ X.fs ∧ (b ∈ X.ex ∨ X.s₀.heap.objs.size ≤ b) ∧ (∀ x c, X.env.cells.lookup x = some c → c ≠ b) ∧ ∀ p ∈ X.pn ++ pins, p.1 ≠ b
theorem Inv.fpOk {X : Cx} {pins : List (Addr × Obj)} {σ : St} {H H' : Hp} {s : Shared} {b : Addr} (I : Inv X pins σ H s) (hb : s.heap.objs.size ≤ b) (hn : H' b = none) : FpOk X pins H' b := by
  refine ⟨hn, Nat.ne_of_gt (Nat.lt_of_lt_of_le I.lt hb), I.nofs hb, .inr (Nat.le_trans I.sz hb), fun x c e z => ?_, fun p hp z => ?_⟩
  · obtain ⟨v, q⟩ := I.cell x c e
    exact absurd (Nat.lt_of_lt_of_le q.lt (by rw [z]; exact hb)) (Nat.lt_irrefl _)
  · exact absurd (Nat.lt_of_lt_of_le (Heap.lt_size (I.pin p hp).1) (by rw [z]; exact hb)) (Nat.lt_irrefl _)
structure Turn (P : Program) (w : World) (K : PySem.W.Frag) (tg : Expr) (J : It) (fp : List Addr) (it : Addr) (tn : Nat → Heap → Prop) : Prop where
  mem : it ∈ fp
  obj : ∀ i h, tn i h → ∀ b ∈ fp, ∃ o, h.get? b = some o ∧ ∀ v, o.data ≠ .cell v
  keep : ∀ i h h', tn i h → (∀ b ∈ fp, ∀ o, h.get? b = some o → h'.get? b = some o) → tn i h'
  item : ∀ (X : Cx), X.prog = P → X.w = w → X.K = K → X.calm = true → ∀ (i : Nat) (pins : List (Addr × Obj)) (s : Shared) (σ : St) (H : Hp) (E : Value → Shared → Prop), Inv X pins σ H s → (∀ b ∈ fp, FpOk X pins H b) → tn i s.heap → J.go i H →
    wpAny (model P w) X.A (pyNext (.ref it)) (fun r s1 => ∃ u, r = some u ∧
      wpAny (model P w) X.A (letOwnedTupleGo tg (.ref it) u) (fun _ s2 => ∃ x H', Inv X pins σ H' s2 ∧ RelV x u ∧ J.yld i H x H' ∧ tn (i + 1) s2.heap ∧ ∀ b ∈ fp, H' b = none) E s1) E s
  done : ∀ (X : Cx), X.prog = P → X.w = w → X.K = K → X.calm = true → ∀ (i : Nat) (pins : List (Addr × Obj)) (s : Shared) (σ : St) (H : Hp) (E : Value → Shared → Prop), Inv X pins σ H s → (∀ b ∈ fp, FpOk X pins H b) → tn i s.heap → J.stop i H →
    wpAny (model P w) X.A (pyNext (.ref it)) (fun r s1 => r = none ∧ Inv X pins σ H s1) E s
  self : ∀ (A : Around) (i : Nat) (s : Shared) (Q : Value → Shared → Prop) (E : Value → Shared → Prop), tn i s.heap → Q (.ref it) s → wpAny (model P w) A (pyIter (.ref it)) Q E s
abbrev TI := St → Hp → (It → Hp → Prop) → Prop
def PIE (X : Cx) (pins : List (Addr × Obj)) (σ : St) (tg : Expr) (R : It → Hp → Prop) (itv : Value) (s2 : Shared) : Prop :=
  ∃ (it : Addr) (fp : List Addr) (tn : Nat → Heap → Prop) (J : It) (H' : Hp), itv = .ref it ∧ Inv X pins σ H' s2 ∧ Turn X.prog X.w X.K tg J fp it tn ∧ tn 0 s2.heap ∧ (∀ b ∈ fp, FpOk X pins H' b) ∧ R J H'
def PI (X : Cx) (tg iter : Expr) (wi : TI) : Prop :=
  ∀ (pins : List (Addr × Obj)) (s : Shared) (σ : St) (H : Hp) (R : It → Hp → Prop), Inv X pins σ H s → wi σ H R →
    wpAny (model X.prog X.w) X.A (eval iter X.env) (fun v s1 => wpAny (model X.prog X.w) X.A (pyIter v) (PIE X pins σ tg R) X.xe s1) X.xe s

theorem go_of {M : Model} {A : Around} {E : Value → Shared → Prop} {s : Shared} {tg : Expr} {it : Addr} {u : Value} {o : Obj} {n : String} {vs : Array Value} {Q : Unit → Shared → Prop} (ho : s.heap.get? it = some o) (hc : o.cls = .type n) (hd : o.data = .fields vs)
    (hn : ["enumerate", "zip", "dict_itemiterator", "dict_reverseitemiterator", "odict_iterator", "itertools.zip_longest", "itertools.pairwise"].contains n = false) (hQ : Q () s) : wpAny M A (letOwnedTupleGo tg (.ref it) u) Q E s := by
  unfold letOwnedTupleGo
  cases tg <;> first
    | exact wpAny_pure hQ
    | (cases u <;> first
        | exact wpAny_pure hQ
        | (refine wpAny_bind (wpAny_load ho ?_)
           rw [hc, hd]
           show wpAny M A (if (["enumerate", "zip", "dict_itemiterator", "dict_reverseitemiterator", "odict_iterator", "itertools.zip_longest", "itertools.pairwise"].contains n && vs[0]? == some (rawInt _)) = true then _ else _) Q E s
           rw [if_neg (by intro h; rw [hn, Bool.false_and] at h; cases h)]
           exact wpAny_pure hQ))

def Itl (K : PySem.W.Frag) (a : Addr) : It :=
  ⟨fun i H => ∃ xs x, SqL K H a xs ∧ xs[i]? = some x, fun i H x H' => H' = H ∧ ∀ xs, SqL K H a xs → xs[i]? = some x, fun i H => ∃ xs, SqL K H a xs ∧ xs.length ≤ i⟩
def Itt (K : PySem.W.Frag) (a : Addr) : It :=
  ⟨fun i H => ∃ xs x, SqT K H a xs ∧ xs[i]? = some x, fun i H x H' => H' = H ∧ ∀ xs, SqT K H a xs → xs[i]? = some x, fun i H => ∃ xs, SqT K H a xs ∧ xs.length ≤ i⟩
def Itr (lo : Int) (n : Nat) : It := ⟨fun i _ => i < n, fun i H x H' => H' = H ∧ x = .int (lo + i), fun i _ => n ≤ i⟩
theorem turn_range {P : Program} {w : World} {K : PySem.W.Frag} {tg : Expr} (it : Addr) (lo : Int) (n : Nat) : Turn P w K tg (Itr lo n) [it] it (fun i h => IsRangeIter h it (lo + (i : Nat) * 1) ((n : Int) - (i : Nat)) 1) where
  mem := by simp
  obj := fun i h st b hb => by
    have e : b = it := by simpa using hb
    subst e
    exact ⟨_, st, fun v z => by
      have z' : Data.fields _ = Data.cell v := z
      cases z'⟩
  keep := fun i h h' st k => k it (by simp) _ st
  item := by
    intro X hP hw hK hc i pins s σ H E I hf st hg
    subst hP hw hK
    obtain ⟨f0, f1, f2, f3, f4, f5⟩ := hf it (by simp)
    have W := Walks.range (prog := X.prog) (w := X.w) (I.ok.hd hc) it lo 1 n
    refine W.item i s _ _ hg st fun v h' tk hv st' kk => ?_
    obtain ⟨t, rfl⟩ := hv
    have I1 : Inv X pins σ H { s with heap := h', toks := tk } := I.turned (fun b o hb e => kk b o (by simpa using hb) e) f0 f1 f3 f4 f5
    refine ⟨_, rfl, go_of (s := { s with heap := h', toks := tk }) (n := "range_iterator") st' rfl rfl (by decide) ⟨.int (lo + i), H, I1, ⟨t, ?_⟩, ⟨rfl, rfl⟩, st', fun b hb => (hf b hb).1⟩⟩
    rw [Int.mul_one]
  done := by
    intro X hP hw hK hc i pins s σ H E I hf st hg
    subst hP hw hK
    obtain ⟨f0, f1, f2, f3, f4, f5⟩ := hf it (by simp)
    exact wpAny_pyNext_range_end (I.ok.hd hc) st (by have : n ≤ i := hg; omega) fun h' eb => ⟨rfl, I.turned (t' := s.toks) (fun b o hb e => eb b o hb e) f0 f1 f3 f4 f5⟩
  self := fun _ _ _ _ _ st h => wpAny_pyIter_rangeiter st h
end L2

namespace L2
open PySem PySem.Spec PyProof.Rows
section
variable {X : Cx} {tg : Expr}
def iList (K : PySem.W.Frag) (tl : TE) : TI := fun σ H R => tl σ H fun x H1 => ∃ a, x = .ref a ∧ (∃ xs, SqL K H1 a xs) ∧ R (Itl K a) H1
def iTup (K : PySem.W.Frag) (tl : TE) : TI := fun σ H R => tl σ H fun x H1 => ∃ a, x = .ref a ∧ (∃ xs, SqT K H1 a xs) ∧ R (Itt K a) H1
theorem range_it {pins : List (Addr × Obj)} {σ : St} {H : Hp} {s : Shared} {R : It → Hp → Prop} {E : Value → Shared → Prop} {lo hi : Int} {t u v : Tok} {tk : Nat} (I : Inv X pins σ H s) (h1 : -(2 ^ 62) ≤ lo) (h2 : lo < 2 ^ 62) (h3 : -(2 ^ 62) ≤ hi) (h4 : hi < 2 ^ 62)
    (q : R (Itr lo (hi - lo).toNat) H) : wpAny (model X.prog X.w) X.A (pyIter (.ref s.heap.objs.size)) (PIE X pins σ tg R) E { s with heap := s.heap.push { cls := .type "range", data := .fields #[.int lo t, .int hi u, .int 1 v] }, toks := tk } := by
  refine wpAny_pyIter_range (IsRange.new ..) (small_one h1 h2 h3 h4) ?_
  have I1 : Inv X pins σ H { s with heap := s.heap.push { cls := .type "range", data := .fields #[.int lo t, .int hi u, .int 1 v] }, toks := tk } := I.kept fun b o e => Heap.get?_push_of_some _ e
  refine ⟨(s.heap.push { cls := .type "range", data := .fields #[.int lo t, .int hi u, .int 1 v] }).objs.size, [(s.heap.push { cls := .type "range", data := .fields #[.int lo t, .int hi u, .int 1 v] }).objs.size], _, _, H, rfl,
    I1.kept (t' := tk) fun b o e => Heap.get?_push_of_some _ e, turn_range _ lo (hi - lo).toNat, ?_, fun b hb => ?_, q⟩
  · have e1 : lo + ((0 : Nat) : Int) * 1 = lo := by simp
    have e2 : (((hi - lo).toNat : Nat) : Int) - ((0 : Nat) : Int) = Builtin.Range.rangeSize lo hi 1 := by rw [rangeSize_one]; split <;> omega
    show IsRangeIter _ _ (lo + ((0 : Nat) : Int) * 1) ((((hi - lo).toNat : Nat) : Int) - ((0 : Nat) : Int)) 1
    rw [e1, e2]
    exact Heap.get?_push_size _ rfl
  · have e : b = (s.heap.push { cls := .type "range", data := .fields #[.int lo t, .int hi u, .int 1 v] }).objs.size := by simpa using hb
    subst e
    exact I1.fpOk (Nat.le_refl _) (I1.hok.fresh (Nat.le_refl _))
def iRng1 (ta : TA) : TI := fun σ H R => ta σ H fun vs H1 => ∃ j : Int, vs = [.int j] ∧ -(2 ^ 62) ≤ j ∧ j < 2 ^ 62 ∧ R (Itr 0 j.toNat) H1
def iRng2 (ta : TA) : TI := fun σ H R => ta σ H fun vs H1 => ∃ i j : Int, vs = [.int i, .int j] ∧ (-(2 ^ 62) ≤ i ∧ i < 2 ^ 62 ∧ -(2 ^ 62) ≤ j ∧ j < 2 ^ 62) ∧ R (Itr i (j - i).toNat) H1
theorem pi_range1 {a : Expr} {ta : TA} {p pos : Pos} (hg : Gl X "range") (hm : X.mg "range" = none) (ha : PA X [a] ta) (hs : starEach [a] X.env = [(false, eval a X.env)] := by rfl) : PI X tg (.Call (.Name "range" p) [a] [] pos) (iRng1 ta) := by
  intro pins s σ H R I h
  refine Call_ (ld_blt I hg hm boot_range (PyProof.Rows.callWith_type1 (thn (ha pos pins s σ H _ I h) fun us s1 ⟨vs, H1, I1, r1, q1⟩ => ?_) hs rfl))
  obtain ⟨j, e, q1, q2, q⟩ := q1
  subst e
  cases r1 with
  | cons r rr =>
    cases rr
    obtain ⟨t, rfl⟩ := r
    exact call_range_1 (range_it I1 (by omega) (by omega) q1 q2 (by simpa using q))
def tFor (wi : TI) (g : TG) (tb : TS) : TS := fun D σ H => wi σ H fun J H1 => ∃ W : Nat → Nat → St → Hp → Prop, (∃ m, W 0 m σ H1) ∧ ∀ i m σ H, W i m σ H →
  (J.stop i H ∧ D.nx σ H) ∨ (J.go i H ∧ ∃ N : St → Hp → Prop, (∀ σ' H', N σ' H' → ∃ m', m' < m ∧ W (i + 1) m' σ' H') ∧ ∀ x H', J.yld i H x H' → g x σ H' fun σ2 H2 => tb { D with nx := N, ct := N, bk := D.nx } σ2 H2)
def pinsAt (fp : List Addr) (h : Heap) : List (Addr × Obj) := fp.filterMap fun b => (h.get? b).map fun o => (b, o)
theorem mem_pinsAt {fp : List Addr} {h : Heap} {b : Addr} {o : Obj} (hb : b ∈ fp) (e : h.get? b = some o) : (b, o) ∈ pinsAt fp h := List.mem_filterMap.mpr ⟨b, hb, by rw [e]; rfl⟩
theorem of_pinsAt {fp : List Addr} {h : Heap} {p : Addr × Obj} (hp : p ∈ pinsAt fp h) : p.1 ∈ fp ∧ h.get? p.1 = some p.2 := by
  obtain ⟨b, hb, e⟩ := List.mem_filterMap.mp hp
  cases q : h.get? b with
  | none => rw [q] at e; cases e
  | some o =>
    rw [q] at e
    have e' : (b, o) = p := Option.some.inj e
    subst e'
    exact ⟨hb, q⟩
theorem Inv.pinned {pins : List (Addr × Obj)} {σ : St} {H : Hp} {s : Shared} {fp : List Addr} (I : Inv X pins σ H s) (hf : ∀ b ∈ fp, FpOk X pins H b) (ho : ∀ b ∈ fp, ∃ o, s.heap.get? b = some o ∧ ∀ v, o.data ≠ .cell v) : Inv X (pins ++ pinsAt fp s.heap) σ H s :=
  I.pins_of fun p hp => (List.mem_append.mp hp).elim (fun z => I.pin p (List.mem_append_right _ z)) fun z => by
    obtain ⟨hb, e⟩ := of_pinsAt z
    obtain ⟨f0, f1, f2, _⟩ := hf p.1 hb
    obtain ⟨o, e', d⟩ := ho p.1 hb
    rw [e] at e'; cases e'
    exact ⟨e, f0, f1, f2, d⟩
theorem Inv.unpinned {pins pl : List (Addr × Obj)} {σ : St} {H : Hp} {s : Shared} (I : Inv X (pins ++ pl) σ H s) : Inv X pins σ H s := I.pins_of fun p hp => I.pin p (List.mem_append_right _ (List.mem_append_left _ hp))
theorem ps_for {iter : Expr} {body : List Stmt} {wi : TI} {g : TG} {tb : TS} {pos : Pos} (hp : PassesOwn (model X.prog X.w) X.A X.env X.xe) (hc : X.calm = true) (hi : PI X tg iter wi) (hg : PG X tg g) (hb : PSs X body tb)
    (hs : ∀ x, foldedSetIterable iter X.env x = pure x := by intro _; rfl) : PS X (.For tg iter body [] pos) (tFor wi g tb) := by
  intro pins s σ H D I h
  refine wpAny_For (thn (hi pins s σ H _ I h) fun v s1 h1 => thn h1 fun itv s2 h2 => ?_) hs
  obtain ⟨it, fp, tn, J, H2, e, I2, T, st2, f2, W, ⟨m0, w0⟩, turn⟩ := h2
  subst e
  -- what stays true of the iterator's objects through the loop
  have stat : ∀ {H' : Hp}, (∀ b ∈ fp, H' b = none) → ∀ b ∈ fp, FpOk X pins H' b := fun hn b hb => ⟨hn b hb, (f2 b hb).2⟩
  refine codeAny_forLoop_any (fun n s' => ∃ i σ' H', Inv X pins σ' H' s' ∧ tn i s'.heap ∧ (∀ b ∈ fp, H' b = none) ∧ W i n σ' H') ?_ m0 ⟨0, σ, H2, I2, st2, fun b hb => (f2 b hb).1, w0⟩
  rintro n s3 ⟨i, σ3, H3, I3, st3, fr3, w3⟩
  rcases turn i n σ3 H3 w3 with ⟨stop, qn⟩ | ⟨go, N, hN, step⟩
  · refine wpAny_passesOwn hp (thn (T.done X rfl rfl rfl hc i pins s3 σ3 H3 X.xe I3 (stat fr3) st3 stop) fun r s4 ⟨hr, I4⟩ => ?_)
    subst hr
    exact wpAny_execs_nil ⟨σ3, H3, I4, qn⟩
  · refine wpAny_passesOwn hp (thn (T.item X rfl rfl rfl hc i pins s3 σ3 H3 X.xe I3 (stat fr3) st3 go) fun r s4 ⟨u, hr, h4⟩ => ?_)
    subst hr
    refine wpAny_passesOwn hp (thn h4 fun _ s5 ⟨x, H5, I5, r5, y5, st5, fr5⟩ => ?_)
    have I5' := I5.pinned (stat fr5) (T.obj _ _ st5)
    refine wpAny_passesOwn hp (thn (hg _ s5 σ3 H5 x u _ I5' r5 (step x H5 y5)) fun _ s6 ⟨σ6, H6, I6, q6⟩ => ?_)
    refine wpAny_passesOwn hp (thn (hb _ s6 σ6 H6 _ I6 q6) fun f s7 q7 => ?_)
    have again : ∀ {σ7 : St} {H7 : Hp}, Inv X (pins ++ pinsAt fp s5.heap) σ7 H7 s7 → N σ7 H7 → ∃ m, m < n ∧ ∃ i σ' H', Inv X pins σ' H' s7 ∧ tn i s7.heap ∧ (∀ b ∈ fp, H' b = none) ∧ W i m σ' H' := fun {σ7 H7} I7 n7 => by
      obtain ⟨m', hm, w7⟩ := hN σ7 H7 n7
      refine ⟨m', hm, i + 1, σ7, H7, I7.unpinned, T.keep _ _ _ st5 fun b hb o e => (I7.pin (b, o) (List.mem_append_right _ (List.mem_append_right _ (mem_pinsAt hb e)))).1, fun b hb => ?_, w7⟩
      obtain ⟨o, e, d⟩ := T.obj _ _ st5 b hb
      exact (I7.pin (b, o) (List.mem_append_right _ (List.mem_append_right _ (mem_pinsAt hb e)))).2.1
    cases f with
    | next => obtain ⟨σ7, H7, I7, n7⟩ := q7; exact again I7 n7
    | cont => obtain ⟨σ7, H7, I7, n7⟩ := q7; exact again I7 n7
    | brk => obtain ⟨σ7, H7, I7, q7⟩ := q7; exact ⟨σ7, H7, I7.unpinned, q7⟩
    | ret v => obtain ⟨x7, σ7, H7, I7, r7, q7⟩ := q7; exact ⟨x7, σ7, H7, I7.unpinned, r7, q7⟩
end

theorem for_range {lo : Int} {n : Nat} {g : TG} {tb : TS} {D : Ends} {σ : St} {H : Hp} (Pv : Nat → St → Hp → Prop) (h0 : Pv 0 σ H)
    (hs : ∀ i σ H, i < n → Pv i σ H → g (.int (lo + i)) σ H fun σ2 H2 => tb { D with nx := Pv (i + 1), ct := Pv (i + 1), bk := D.nx } σ2 H2) (hd : ∀ σ H, Pv n σ H → D.nx σ H) :
    ∃ W : Nat → Nat → St → Hp → Prop, (∃ m, W 0 m σ H) ∧ ∀ i m σ H, W i m σ H →
      ((Itr lo n).stop i H ∧ D.nx σ H) ∨ ((Itr lo n).go i H ∧ ∃ N : St → Hp → Prop, (∀ σ' H', N σ' H' → ∃ m', m' < m ∧ W (i + 1) m' σ' H') ∧ ∀ x H', (Itr lo n).yld i H x H' → g x σ H' fun σ2 H2 => tb { D with nx := N, ct := N, bk := D.nx } σ2 H2) := by
  refine ⟨fun i m σ H => m = n - i ∧ i ≤ n ∧ Pv i σ H, ⟨n, by simp, Nat.zero_le _, h0⟩, ?_⟩
  rintro i m σ H ⟨rfl, hi, p⟩
  by_cases hlt : i < n
  · refine .inr ⟨hlt, Pv (i + 1), fun σ' H' p' => ⟨n - (i + 1), by omega, rfl, hlt, p'⟩, fun x H' y => ?_⟩
    obtain ⟨e, y⟩ := y
    subst e y
    exact hs i σ _ hlt p
  · have e : i = n := by omega
    subst e
    exact .inl ⟨Nat.le_refl _, hd σ H p⟩
end L2

namespace L2
open PySem PySem.Spec PyProof.Rows

abbrev R2 := V → V → Hp → VK → Prop
def OpR (X : Cx) (f : Value → Value → Sem Value) (r : R2) : Prop :=
  ∀ (pins : List (Addr × Obj)) (s : Shared) (σ : St) (H : Hp) (x y : V) (v u : Value) (Q : VK), Inv X pins σ H s → RelV x v → RelV y u → r x y H Q →
    wpAny (model X.prog X.w) X.A (f v u) (EP X pins σ Q) X.xe s
def CallR (X : Cx) (f : Value) (r : List V → Hp → VK → Prop) : Prop :=
  ∀ (pins : List (Addr × Obj)) (s : Shared) (σ : St) (H : Hp) (xs : List V) (us : List Value) (Q : VK), Inv X pins σ H s → Vals xs us → r xs H Q →
    wpAny (model X.prog X.w) X.A (call f us) (EP X pins σ Q) X.xe s
def tOp (r : R2) (ta tb : TE) : TE := fun σ H Q => ta σ H fun x H1 => tb σ H1 fun y H2 => r x y H2 Q
def tUn (r : V → Hp → VK → Prop) (ta : TE) : TE := fun σ H Q => ta σ H fun x H1 => r x H1 Q
def rI (C : Int → Int → Prop) (g : Int → Int → V) : R2 := fun x y H Q => ∃ i j, x = .int i ∧ y = .int j ∧ C i j ∧ Q (g i j) H
def rI0 (g : Int → Int → V) : R2 := fun x y H Q => ∃ i j, x = .int i ∧ y = .int j ∧ Q (g i j) H
def rU (g : Int → V) : V → Hp → VK → Prop := fun x H Q => ∃ i, x = .int i ∧ Q (g i) H

section
variable {X : Cx} {a b c : Expr} {ta tb tc : TE} {pos : Pos}

theorem binT (ha : PE X a ta) (hb : PE X b tb) {pins : List (Addr × Obj)} {s : Shared} {σ : St} {H : Hp} {R : V → V → Hp → Prop} (I : Inv X pins σ H s)
    (h : ta σ H fun x H1 => tb σ H1 fun y H2 => R x y H2) {Q : Value → Shared → Prop} {f : Value → Value → Sem Value}
    (hf : ∀ v u s2 x y H2, Inv X pins σ H2 s2 → RelV x v → RelV y u → R x y H2 → wpAny (model X.prog X.w) X.A (f v u) Q X.xe s2) :
    wpAny (model X.prog X.w) X.A (eval a X.env) (fun v s₁ => wpAny (model X.prog X.w) X.A (eval b X.env) (fun u s₂ => wpAny (model X.prog X.w) X.A (f v u) Q X.xe s₂) X.xe s₁) X.xe s := by
  refine thn (ha pins s σ H _ I h) fun v s1 ⟨x, H1, I1, r1, q1⟩ => ?_
  refine thn (hb pins s1 σ H1 _ I1 q1) fun u s2 ⟨y, H2, I2, r2, q2⟩ => ?_
  exact hf v u s2 x y H2 I2 r1 r2 q2

theorem pe_op {op : Operator} {r : R2} (ho : OpR X (binaryOp op) r) (ha : PE X a ta) (hb : PE X b tb) : PE X (.BinOp a op b pos) (tOp r ta tb) := by
  intro pins s σ H Q I h
  exact wpAny_BinOp (binT ha hb I h fun v u s2 x y H2 I2 rx ry q => ho pins s2 σ H2 x y v u Q I2 rx ry q)
theorem opI {f : Value → Value → Sem Value} {C : Int → Int → Prop} {g : Int → Int → Int}
    (rule : ∀ (i j : Int) (t u : Tok) (s : Shared) (Q : Value → Shared → Prop) (E : Value → Shared → Prop), C i j → Q (.int (g i j) s.toks) { s with toks := s.toks + 1 } → wpAny (model X.prog X.w) X.A (f (.int i t) (.int j u)) Q E s) :
    OpR X f (rI C fun i j => .int (g i j)) := by
  intro pins s σ H x y v u Q I rx ry h
  obtain ⟨i, j, rfl, rfl, hc, q⟩ := h
  obtain ⟨t, rfl⟩ := rx
  obtain ⟨t', rfl⟩ := ry
  exact rule i j t t' s _ _ hc ⟨.int (g i j), H, I.tok _, ⟨_, rfl⟩, q⟩
theorem opI0 {f : Value → Value → Sem Value} {g : Int → Int → Int}
    (rule : ∀ (i j : Int) (t u : Tok) (s : Shared) (Q : Value → Shared → Prop) (E : Value → Shared → Prop), Q (.int (g i j) s.toks) { s with toks := s.toks + 1 } → wpAny (model X.prog X.w) X.A (f (.int i t) (.int j u)) Q E s) :
    OpR X f (rI0 fun i j => .int (g i j)) := by
  intro pins s σ H x y v u Q I rx ry h
  obtain ⟨i, j, rfl, rfl, q⟩ := h
  obtain ⟨t, rfl⟩ := rx
  obtain ⟨t', rfl⟩ := ry
  exact rule i j t t' s _ _ ⟨.int (g i j), H, I.tok _, ⟨_, rfl⟩, q⟩
theorem opB0 {f : Value → Value → Sem Value} {g : Int → Int → Bool}
    (rule : ∀ (i j : Int) (t u : Tok) (s : Shared) (Q : Value → Shared → Prop) (E : Value → Shared → Prop), Q (.bool (g i j)) s → wpAny (model X.prog X.w) X.A (f (.int i t) (.int j u)) Q E s) :
    OpR X f (rI0 fun i j => .bl (g i j)) := by
  intro pins s σ H x y v u Q I rx ry h
  obtain ⟨i, j, rfl, rfl, q⟩ := h
  obtain ⟨t, rfl⟩ := rx
  obtain ⟨t', rfl⟩ := ry
  exact rule i j t t' s _ _ ⟨.bl (g i j), H, I, rfl, q⟩

def CPow (i j : Int) : Prop := 0 ≤ j ∧ j ≤ 1000000 ∧ i.natAbs < 2 ^ 64
def CMul (i j : Int) : Prop := (-(2 ^ 64) < i ∧ i < 2 ^ 64) ∨ (-(2 ^ 64) < j ∧ j < 2 ^ 64)
theorem CMul.ok {i j : Int} (h : CMul i j) : IntMulOk i j := by
  rcases h with ⟨h1, h2⟩ | ⟨h1, h2⟩
  · exact .of_left (intBits_le_64 h1 h2)
  · exact .of_right (intBits_le_64 h1 h2)
theorem op_add : OpR X (binaryOp .Add) (rI0 fun i j => .int (i + j)) := opI0 fun _ _ _ _ _ _ _ q => add_int q
theorem op_mod : OpR X (binaryOp .Mod) (rI (fun _ j => 0 < j) fun i j => .int (i % j)) := opI fun i j _ _ _ _ _ hc q => by
  have h1 : (0 : Int) < j := hc
  exact mod_int' (by omega) (by rw [Int.fmod_eq_emod_of_nonneg i (by omega)]; exact q)
theorem op_pow : OpR X (binaryOp .Pow) (rI CPow fun i j => .int (i ^ j.toNat)) := opI fun _ _ _ _ _ _ _ hc q => pow_int_small hc.1 hc.2.1 hc.2.2 q
end

def scal : V → V → Bool
  | .non, .non => true | .non, .int _ => true | .int _, .non => true | .non, .bl _ => true | .bl _, .non => true | .non, .str _ => true | .str _, .non => true
  | .int _, .int _ => true | .bl _, .bl _ => true | .str _, .str _ => true | .byt _, .byt _ => true
  | .int _, .str _ => true | .str _, .int _ => true | .bl _, .str _ => true | .str _, .bl _ => true
  | _, _ => false
def rEq : R2 := fun x y H Q => scal x y = true ∧ Q (.bl (decide (x = y))) H
def rNe : R2 := fun x y H Q => scal x y = true ∧ Q (.bl (!decide (x = y))) H

section
variable {X : Cx} {a b c : Expr} {ta tb tc : TE} {pos : Pos}
theorem op_lt : OpR X (compareOp .Lt) (rI0 fun i j => .bl (decide (i < j))) := opB0 fun _ _ _ _ _ _ _ q => lt_int q
theorem op_gt : OpR X (compareOp .Gt) (rI0 fun i j => .bl (decide (j < i))) := opB0 fun _ _ _ _ _ _ _ q => gt_int q
theorem nomark (b : Expr) {op : CmpOp} (h : op ≠ .In := by decide) (h2 : op ≠ .NotIn := by decide) : behindInMarks op b = false := by
  have e1 : (op == CmpOp.In) = false := by cases op <;> first | rfl | exact absurd rfl h
  have e2 : (op == CmpOp.NotIn) = false := by cases op <;> first | rfl | exact absurd rfl h2
  cases b <;> simp [behindInMarks, e1, e2]
theorem pe_cmpR {op : CmpOp} {r : R2} (ho : OpR X (compareOp op) r) (ha : PE X a ta) (hb : PE X b tb) (hm : behindInMarks op b = false) : PE X (.Compare a [op] [b] pos) (tOp r ta tb) := by
  intro pins s σ H Q I h
  exact wpAny_Compare1 (binT ha hb I h fun v u s2 x y H2 I2 rx ry q => ho pins s2 σ H2 x y v u Q I2 rx ry q) hm
def tTest (t : TE) : TT := fun σ H Q => t σ H fun x H' => ∃ k, x = .bl k ∧ Q k H'
theorem pt_cmpR {op : CmpOp} {r : R2} (ho : OpR X (compareOp op) r) (ha : PE X a ta) (hb : PE X b tb) (hm : behindInMarks op b = false) : PT X (.Compare a [op] [b] pos) (tTest (tOp r ta tb)) := by
  intro pins s σ H Q I h
  refine wpAny_isTrue_Compare1 (thn (ha pins s σ H _ I h) fun v s1 ⟨x, H1, I1, r1, q1⟩ => thn (hb pins s1 σ H1 _ I1 q1) fun u s2 ⟨y, H2, I2, r2, q2⟩ =>
    thn (ho pins s2 σ H2 x y v u _ I2 r1 r2 q2) fun c s3 ⟨z, H3, I3, r3, k, e, q3⟩ => ?_) hm
  subst e
  cases r3
  exact wpAny_truthy_bool ⟨H3, I3, q3⟩
def tChain (r r' : R2) (ta tb tc : TE) : TE := fun σ H Q => ta σ H fun x H1 => tb σ H1 fun y H2 => r x y H2 fun z H3 => ∃ k, z = .bl k ∧
  (if k = true then tc σ H3 fun w' H4 => r' y w' H4 Q else Q (.bl false) H3)
theorem line63 : (sizeLine : Nat) < 2 ^ 63 := by rw [sizeLine_eq]; decide
theorem op_add_str : OpR X (binaryOp .Add) (fun x y H Q => ∃ i j, x = .str i ∧ y = .str j ∧ i.length + j.length ≤ sizeLine ∧ Q (.str (i ++ j)) H) := by
  intro pins s σ H x y v u Q I rx ry h
  obtain ⟨i, j, rfl, rfl, hz, q⟩ := h
  obtain ⟨t, rfl⟩ := rx
  obtain ⟨t', rfl⟩ := ry
  exact add_str (fun t' tk => ⟨.str (i ++ j), H, I.tok _, ⟨_, rfl⟩, q⟩) hz
theorem vals1 {x : V} {us : List Value} (r : Vals [x] us) : ∃ u, us = [u] ∧ RelV x u := by
  cases r with
  | cons r1 r2 => cases r2; exact ⟨_, rfl, r1⟩
theorem vals2 {x y : V} {us : List Value} (r : Vals [x, y] us) : ∃ u w', us = [u, w'] ∧ RelV x u ∧ RelV y w' := by
  cases r with
  | cons r1 r2 =>
    cases r2 with
    | cons r3 r4 => cases r4; exact ⟨_, _, rfl, r1, r3⟩
end
end L2

namespace L2
open PySem PySem.Spec PyProof.Rows

structure ObjM (h : Heap) (x dx C : Addr) (mA : Str → Option Value) : Prop where
  obj : h.get? x = some (PySem.W.instObj C dx)
  ns : h.Ns1 dx mA
  ne : dx ≠ x

theorem lookIn_ns {h : Heap} {dx : Addr} {mA : Str → Option Value} (n : h.Ns1 dx mA) : ∃ od, h.get? dx = some od ∧ ∀ name, PySem.W.lookIn name od = some (mA name) := by
  obtain ⟨o, es, ep, ho, hd, hk, _, hm⟩ := n
  refine ⟨o, ho, fun name => ?_⟩
  have e := hm name
  unfold nsFind findBy at e
  rw [← Array.find?_toList] at e
  unfold PySem.W.lookIn
  rw [hd]
  dsimp only
  split
  · rename_i y q
    rw [q] at e
    exact congrArg some e
  · rename_i q
    rw [q] at e
    have a : es.toList.any (·.refKey) = false := by
      rw [List.any_eq_false]
      intro y hy
      obtain ⟨z, t, hkey⟩ := hk y (Array.mem_toList_iff.mp hy)
      simp [DictEntry.refKey, hkey]
    have a' : ¬ es.toList.any (·.refKey) = true := by rw [a]; exact Bool.false_ne_true
    rw [if_neg a']
    exact congrArg some e

section
variable {prog : Program} {w : World} {A : Around} {E : Value → Shared → Prop} {s : Shared} {K : PySem.W.Frag} {x dx C f : Addr} {mA : Str → Option Value} {name : Str} {v : Value}

end

def putF (f : Str) (v : V) : List (Str × V) → List (Str × V)
  | [] => [(f, v)]
  | (g, x) :: r => if g = f then (g, v) :: r else (g, x) :: putF f v r
theorem lookup_putF (f g : Str) (v : V) : ∀ fs : List (Str × V), (putF f v fs).lookup g = if g = f then some v else fs.lookup g
  | [] => by
    show List.lookup g [(f, v)] = _
    by_cases h : g = f
    · have hb : (g == f) = true := beq_iff_eq.mpr h
      simp only [List.lookup, hb, if_pos h]
    · have hb : (g == f) = false := beq_eq_false_iff_ne.mpr h
      simp only [List.lookup, hb, if_neg h]
  | (k, x) :: r => by
    have ih := lookup_putF f g v r
    rw [show putF f v ((k, x) :: r) = (if k = f then (k, v) :: r else (k, x) :: putF f v r) from rfl]
    by_cases hk : k = f
    · rw [if_pos hk]
      by_cases h : g = k
      · have hb : (g == k) = true := beq_iff_eq.mpr h
        simp only [List.lookup, hb, if_pos (h.trans hk)]
      · have hb : (g == k) = false := beq_eq_false_iff_ne.mpr h
        simp only [List.lookup, hb, if_neg (fun e : g = f => h (e.trans hk.symm))]
    · rw [if_neg hk]
      by_cases h : g = k
      · have hb : (g == k) = true := beq_iff_eq.mpr h
        simp only [List.lookup, hb, if_neg (fun e : g = f => hk (h.symm.trans e))]
      · have hb : (g == k) = false := beq_eq_false_iff_ne.mpr h
        simp only [List.lookup, hb]
        exact ih
theorem RelO.some_of {v : V} {o : Option Value} (r : RelO (some v) o) : ∃ u, o = some u ∧ RelV v u := by
  cases o with
  | none => exact (show False from r).elim
  | some u => exact ⟨u, rfl, r⟩
theorem RelO.none_of {o : Option Value} (r : RelO none o) : o = none := by
  cases o with
  | none => rfl
  | some u => exact (show False from r).elim
theorem handed_of {v : V} {u : Value} (r : RelV v u) : PySem.W.handedIn u = true := by
  cases v with
  | non => cases (show u = Value.none from r); rfl
  | bl b => cases (show u = Value.bool b from r); rfl
  | int i => obtain ⟨t, e⟩ := (show ∃ t, u = Value.int i t from r); cases e; rfl
  | str x => obtain ⟨t, e⟩ := (show ∃ t, u = Value.str x t from r); cases e; rfl
  | byt b => obtain ⟨t, e⟩ := (show ∃ t, u = Value.bytes b t from r); cases e; rfl
  | flt b => obtain ⟨t, e⟩ := (show ∃ t, u = Value.float b t from r); cases e; rfl
  | ref a => cases (show u = Value.ref a from r); rfl
  | ty n => cases (show u = Value.type n from r); rfl

section
variable {P : Program} {w : World} {H H' : Hp} {h h' : Heap} {a C dx : Addr} {fs fs' : List (Str × V)}
end

structure Cls (K : PySem.W.Frag) (C : Addr) : Prop where
  pg : PySem.W.plainGet K C Str.empty = true
  hd : PySem.W.hasDictIn K C = true
  po : PySem.W.plainOver K C = true
  sa : PySem.W.findIn K (.ref C) "__setattr__" = some (some (.builtin "object.__setattr__"))
def NoAttr (K : PySem.W.Frag) (C : Addr) (f : Str) : Prop := PySem.W.findIn K (.ref C) f = some none
structure Con (K : PySem.W.Frag) (C : Addr) (f : Str) (v : V) (u : Value) : Prop where
  at_ : PySem.W.findIn K (.ref C) f = some (some u)
  rel : RelV v u
  get : PySem.W.specialIn K u "__get__" = some none
  cp : PySem.W.copiedNames.contains f = false
structure Meth (K : PySem.W.Frag) (C : Addr) (m : Str) (f : Addr) : Prop where
  at_ : PySem.W.findIn K (.ref C) m = some (some (.ref f))
  fn : PySem.W.isFn K (.ref f) = true
  kp : PySem.W.keepIn K (.ref f) = true

section
variable {X : Cx} {pins : List (Addr × Obj)} {σ : St} {H : Hp} {s : Shared} {a C dx : Addr} {fs : List (Str × V)} {f : Str} {v : V} {A : Around} {E : Value → Shared → Prop}

theorem attr_of {prog : Program} {w : World} {env : Env} {e : Expr} {f : Str} {pos : Pos} {s : Shared} {Q : Value → Shared → Prop} (hb : attributeBase e f env (eval e env) = eval e env)
    (h : wpAny (model prog w) A (eval e env) (fun o s₁ => wpAny (model prog w) A (getAttr o f true) Q E s₁) E s) : wpAny (model prog w) A (eval (.Attribute e f pos) env) Q E s :=
  Attribute_any_ h (by rw [arm_eval_Attribute, hb])
end

def tFld (K : PySem.W.Frag) (ta : TE) (f : Str) : TE := fun σ H Q => ta σ H fun x H1 => ∃ a C dx fs v, x = .ref a ∧ H1 a = some (.ins C dx fs) ∧ Cls K C ∧ NoAttr K C f ∧ fs.lookup f = some v ∧ Q v H1
def sFld (K : PySem.W.Frag) (ta tv : TE) (f : Str) : TS := fun D σ H => tv σ H fun y H1 => ta σ H1 fun x H2 => ∃ a C dx fs, x = .ref a ∧ H2 a = some (.ins C dx fs) ∧ Cls K C ∧ NoAttr K C f ∧ fs.length < 1000 ∧
  D.nx σ (upd H2 a (.ins C dx (putF f y fs)))
section
variable {X : Cx} {o e value : Expr} {f : Str} {pos pos' tpos : Pos} {ta tv : TE}
end

section
variable {X : Cx} {pins : List (Addr × Obj)} {σ : St} {H : Hp} {s : Shared} {A : Around} {E : Value → Shared → Prop} {Q : Value → Shared → Prop} {c : Value} {b : Bool}
inductive TyOf (K : PySem.W.Frag) (H : Hp) : V → Value → Prop where
  | non : TyOf K H .non (.type "NoneType")
  | bl (x : Bool) : TyOf K H (.bl x) (.type "bool")
  | int (i : Int) : TyOf K H (.int i) (.type "int")
  | str (x : Str) : TyOf K H (.str x) (.type "str")
  | flt (x : UInt64) : TyOf K H (.flt x) (.type "float")
  | lst {a : Addr} {xs : List V} (e : H a = some (.lst xs)) : TyOf K H (.ref a) (.type "list")
  | frz {a : Addr} {o : Obj} {xs : List V} (e : H a = some (.frz o (.lst xs))) : TyOf K H (.ref a) (.type "list")
  | tup {a : Addr} {xs : List V} (e : H a = some (.tup xs)) : TyOf K H (.ref a) (.type "tuple")
  | dK {a : Addr} {kvs : List (Key × V)} (e : H a = some (.dK kvs)) : TyOf K H (.ref a) (.type "dict")
  | dT {a : Addr} {kvs : List (List Key × V)} (e : H a = some (.dT kvs)) : TyOf K H (.ref a) (.type "dict")
  | ins {a C dx : Addr} {fs : List (Str × V)} (e : H a = some (.ins C dx fs)) (cl : Cls K C) (ha : PySem.W.findIn K (.ref C) "__class__" = some (some (.builtin "object.__class__")))
      (hn : PySem.W.specialIn K (.builtin "object.__class__") "__get__" = some (some (.builtin "getset_descriptor.__get__"))) (htk : PySem.W.takesIn K (.builtin "object.__class__") = some true)
      (hm : PySem.W.mroIn K C (.type "object") = some true) : TyOf K H (.ref a) (.ref C)
end
end L2

namespace L2
open PySem PySem.Spec PyProof.Rows

structure Room (k : Nat) (A : Around) : Prop where
  hd : A.handled = none
  dp : A.depth + 3 * k + 5 < recursionLimit
  un : A.units + 16 * k + 200 < cLine
theorem Room.mono {j k : Nat} {A : Around} (r : Room k A) (h : j ≤ k) : Room j A := ⟨r.hd, by have := r.dp; omega, by have := r.un; omega⟩
theorem Room.deeper {k : Nat} {A : Around} (r : Room (k + 1) A) (env : Env) : Room k (A.deeper env) :=
  ⟨r.hd, by have := r.dp; show A.depth + 1 + 3 * k + 5 < _; omega, by have := r.un; show A.units + 3 + 16 * k + 200 < _; omega⟩
theorem Room.in1 {k : Nat} {A : Around} (r : Room (k + 1) A) : Room k A.in1 :=
  ⟨r.hd, by have := r.dp; show A.depth + 3 * k + 5 < _; omega, by have := r.un; show A.units + 1 + 16 * k + 200 < _; omega⟩
theorem make_depth {A : Around} {C : Addr} {us : List Value} {kw : List (Str × Value)} : (A.under (.builtin "type.__call__" ⟨.ref C :: us, kw⟩)).depth = A.depth + 1 := by
  first | rfl | simp [Around.under, Code.weight, Code.isCreation, Code.isGuard, Code.isCaller, Code.frames, Code.isFrame, guardIds]
theorem make_units {A : Around} {C : Addr} {us : List Value} {kw : List (Str × Value)} : (A.under (.builtin "type.__call__" ⟨.ref C :: us, kw⟩)).units = A.units + 1 := by
  first | rfl | simp [Around.under, Code.cUnits, Code.frames, Code.isFrame]
theorem Room.make {k : Nat} {A : Around} (r : Room (k + 1) A) (C : Addr) (us : List Value) (kw : List (Str × Value)) : Room k (A.under (.builtin "type.__call__" ⟨.ref C :: us, kw⟩)) :=
  ⟨r.hd, by have := r.dp; rw [make_depth]; omega, by have := r.un; rw [make_units]; omega⟩
theorem Room.depth {k : Nat} {A : Around} (r : Room k A) : A.depth < recursionLimit := by have := r.dp; omega
theorem Room.units {k : Nat} {A : Around} (r : Room k A) : A.units + 64 < cLine := by have := r.un; omega
def tNil : TA := fun _ H Q => Q [] H
def tCons (ta : TE) (tr : TA) : TA := fun σ H Q => ta σ H fun x H1 => tr σ H1 fun xs H2 => Q (x :: xs) H2
section
variable {X : Cx} {e : Expr} {es : List Expr} {te : TE} {t : TA} {pos : Pos}
theorem pa_nil : PA X [] tNil := fun _ _ _ _ H Q I h => Calls.spliced_nil ⟨[], H, I, .nil, h⟩
theorem pa_cons (ha : PE X e te) (hr : PA X es t) (hs : starEach (e :: es) X.env = (false, eval e X.env) :: starEach es X.env := by rfl) : PA X (e :: es) (tCons te t) := by
  intro pos pins s σ H Q I h
  rw [hs]
  show wpAny _ _ (spliced ((false, eval e X.env) :: backTo pos (starEach es X.env))) _ _ s
  refine Calls.spliced_cons (thn (ha pins s σ H _ I h) fun u s1 ⟨x, H1, I1, r1, q1⟩ => ?_)
  exact thn (hr pos pins s1 σ H1 _ I1 q1) fun us s2 ⟨xs, H2, I2, r2, q2⟩ => ⟨x :: xs, H2, I2, .cons r1 r2, q2⟩

def tTup (t : TA) : TE := fun σ H Q => t σ H fun xs H1 => xs.length ≤ sizeLine ∧ ∀ p, H1 p = none → Q (.ref p) (upd H1 p (.tup xs))
def tLst (t : TA) : TE := fun σ H Q => t σ H fun xs H1 => xs.length ≤ sizeLine ∧ ∀ p, H1 p = none → Q (.ref p) (upd H1 p (.lst xs))
theorem pe_tup {x1} (h : PA X es t) : PE X (.Tuple es x1 pos) (tTup t) := by
  intro pins s σ H Q I hq
  refine wpAny_Tuple_spliced (thn (h pos pins s σ H _ I hq) fun us s1 ⟨xs, H1, I1, r, z, q⟩ => ⟨by rw [← r.length]; exact z, ?_⟩)
  have hf : H1 s1.heap.objs.size = none := I1.hok.fresh (Nat.le_refl _)
  refine ⟨.ref s1.heap.objs.size, upd H1 s1.heap.objs.size (.tup xs), I1.laid (t' := s1.toks) (fun b u e => Heap.get?_push_of_some _ e) (Nat.le_refl _) ?_, rfl, q _ hf⟩
  exact ⟨z, us, r, ⟨_, Heap.get?_push_size _ rfl, rfl, _, rfl⟩, _, Heap.get?_push_size _ rfl, rfl⟩
theorem pe_lst (h : PA X es t) : PE X (.List es pos) (tLst t) := by
  intro pins s σ H Q I hq
  refine wpAny_List_spliced (thn (h pos pins s σ H _ I hq) fun us s1 ⟨xs, H1, I1, r, z, q⟩ => ⟨by rw [← r.length]; exact z, ?_⟩)
  have hf : H1 s1.heap.objs.size = none := I1.hok.fresh (Nat.le_refl _)
  refine ⟨.ref s1.heap.objs.size, upd H1 s1.heap.objs.size (.lst xs), I1.laid (t' := s1.toks) (fun b u e => Heap.get?_push_of_some _ e) (Nat.le_refl _) ?_, rfl, q _ hf⟩
  exact ⟨z, us, 0, r, Heap.get?_push_size _ rfl⟩
end

abbrev Sp := List V → Hp → VK → XK → Prop
abbrev CXT := List Env → Hp → Shared → XK → Value → Shared → Prop

structure Env0 (P : Program) (w : World) (K : PySem.W.Frag) (mg : Str → Option Value) (base : Heap) (A : Around) (outer : List Env) (s : Shared) (H : Hp) : Prop where
  frames : A.frames = some outer
  mod : Mod K mg base
  bs : ∀ b o, base.get? b = some o → s.heap.get? b = some o ∧ H b = none
  bsz : base.objs.size ≤ s.heap.objs.size
  funs : s.heap.FunFrames base outer
  frf : ∀ b ∈ frs outer, H b = none
  hok : HOk P w H s.heap
  bare : AllBare s.gens
def CE (outer : List Env) (P : Program) (w : World) (H : Hp) (s : Shared) (Q : VK) (u : Value) (s' : Shared) : Prop :=
  ∃ v H', s'.os = s.os ∧ AllBare s'.gens ∧ Un (frs outer) [] H H' s.heap s'.heap ∧ HOk P w H' s'.heap ∧ RelV v u ∧ Q v H'
def CR (CX : CXT) (outer : List Env) (P : Program) (w : World) (H : Hp) (s : Shared) (Q : VK) (E : XK) (r : Result) (s' : Shared) : Prop :=
  match r with
  | .ok (.ret u) => CE outer P w H s Q u s'
  | .ok _ => False
  | .error e => CX outer H s E e s'
structure FnOk (P : Program) (w : World) (K : PySem.W.Frag) (mg : Str → Option Value) (base : Heap) (CX : CXT) (k : Nat) (f : Addr) (fd : FuncData) (ps : List Str) (sp : Sp) : Prop where
  len : ∀ vs H Q E, sp vs H Q E → vs.length = ps.length
  run : ∀ (A : Around) (outer : List Env) (s : Shared) (H : Hp) (args : Args) (us : List Value) (vs : List V) (Q : VK) (E : XK), Room k A → Env0 P w K mg base A outer s H → BindsTo s fd args (ps.zip us) → Vals vs us → sp vs H Q E →
    codeAny (model P w) A (.call (.ref f) args) (CR CX outer P w H s Q E) s
theorem FnOk.mono {P : Program} {w : World} {K : PySem.W.Frag} {mg : Str → Option Value} {base : Heap} {CX : CXT} {j k : Nat} {f : Addr} {fd : FuncData} {ps : List Str} {sp : Sp} (F : FnOk P w K mg base CX j f fd ps sp) (h : j ≤ k) :
    FnOk P w K mg base CX k f fd ps sp := ⟨F.len, fun A outer s H args us vs Q E hr => F.run A outer s H args us vs Q E (hr.mono h)⟩
theorem Env0.make {P : Program} {w : World} {K : PySem.W.Frag} {mg : Str → Option Value} {base : Heap} {A : Around} {outer : List Env} {s : Shared} {H : Hp} (e : Env0 P w K mg base A outer s H) (C : Addr) (us : List Value) (kw : List (Str × Value)) :
    Env0 P w K mg base (A.under (.builtin "type.__call__" ⟨.ref C :: us, kw⟩)) outer s H := ⟨by first | exact e.frames | (simpa [Around.under, Code.envs, Code.isFrame, pushEnvs] using e.frames), e.mod, e.bs, e.bsz, e.funs, e.frf, e.hok, e.bare⟩
theorem Env0.in1 {P : Program} {w : World} {K : PySem.W.Frag} {mg : Str → Option Value} {base : Heap} {A : Around} {outer : List Env} {s : Shared} {H : Hp} (e : Env0 P w K mg base A outer s H) :
    Env0 P w K mg base A.in1 outer s H := ⟨e.frames, e.mod, e.bs, e.bsz, e.funs, e.frf, e.hok, e.bare⟩

section
variable {X : Cx} {pins : List (Addr × Obj)} {σ : St} {H : Hp} {s s' : Shared}
theorem Inv.env0 (I : Inv X pins σ H s) : Env0 X.prog X.w X.K X.mg X.base X.A X.stack s H :=
  ⟨I.ok.frames, I.ok.mod, I.bs, Nat.le_trans I.ok.bsz I.sz, I.stack, I.stkFree, I.hok, I.bare⟩
theorem Inv.after {Q : VK} {u : Value} (I : Inv X pins σ H s) (h : CE X.stack X.prog X.w H s Q u s') : EP X pins σ Q u s' := by
  obtain ⟨v, H', os, bare, un, hok, r, q⟩ := h
  obtain ⟨hh, g, d, t, os'⟩ := s'
  obtain rfl : os' = s.os := os
  exact ⟨v, H', I.call (h' := hh) (g' := g) (d' := d) (t' := t) (ch := []) un hok bare (fun b z => absurd z (by simp)), r, q⟩
end

def tCall (sp : Sp) (dvs : List V) (E : XK) (t : TA) : TE := fun σ H Q => t σ H fun vs H1 => sp (vs ++ dvs) H1 Q E
def tMake (C : Addr) (sp : Sp) (dvs : List V) (E : XK) (t : TA) : TE := fun σ H Q => t σ H fun vs H1 => ∀ x dx, H1 x = none → H1 dx = none → dx ≠ x →
  sp (.ref x :: (vs ++ dvs)) (upd (upd H1 dx (.own x)) x (.ins C dx [])) (fun v H2 => v = .non ∧ Q (.ref x) H2) E

def Binds (K : PySem.W.Frag) (fd : FuncData) (ps : List Str) (ds : List Value) : Prop :=
  ∀ (s : Shared) (us : List Value), K.In s.heap → (us ++ ds).length = ps.length → BindsTo s fd ⟨us, []⟩ (ps.zip (us ++ ds))
theorem Binds.all {K : PySem.W.Frag} {fd : FuncData} {ps : List Str} (h : ∀ us : List Value, us.length = ps.length → bindArgs fd ⟨us, []⟩ = pure (ps.zip us)) : Binds K fd ps [] := fun s us _ hl => by
  rw [List.append_nil] at hl ⊢
  exact .of_eq (h us hl)

def Passes (CX : CXT) (X : Cx) (E : XK) : Prop := ∀ (pins : List (Addr × Obj)) (σ : St) (H : Hp) (s : Shared) (e : Value) (s' : Shared), Inv X pins σ H s → CX X.stack H s E e s' → X.xe e s'

section
variable {X : Cx} {CX : CXT} {k : Nat} {f C : Addr} {fd : FuncData} {ps : List Str} {sp : Sp} {dvs : List V} {ds : List Value} {E : XK} {x m : Str} {p pos apos : Pos} {e o : Expr} {es : List Expr} {ta : TE} {t : TA}

theorem run_fn {pins : List (Addr × Obj)} {σ : St} {H : Hp} {s : Shared} {Q : VK} {us : List Value} {vs : List V} (F : FnOk X.prog X.w X.K X.mg X.base CX k f fd ps sp) (hr : Room k X.A) (hb : Binds X.K fd ps ds) (hd : Vals dvs ds) (hx : Passes CX X E)
    (I : Inv X pins σ H s) (r : Vals vs us) (h : sp (vs ++ dvs) H Q E) : wpAny (model X.prog X.w) X.A (call (.ref f) us) (EP X pins σ Q) X.xe s := by
  have r2 : Vals (vs ++ dvs) (us ++ ds) := r.append hd
  have hl : (us ++ ds).length = ps.length := by rw [← r2.length]; exact F.len _ _ _ _ h
  refine wpAny_call (codeAny_mono (F.run X.A X.stack s H ⟨us, []⟩ (us ++ ds) (vs ++ dvs) Q E hr I.env0 (hb s us I.kIn hl) r2 h) fun r s' hq => ?_)
  cases r with
  | error e => exact hx pins σ H s e s' I hq
  | ok fl =>
    cases fl with
    | ret u => exact I.after hq
    | next => exact False.elim hq
    | brk => exact False.elim hq
    | cont => exact False.elim hq

theorem pe_call (F : FnOk X.prog X.w X.K X.mg X.base CX k f fd ps sp) (hr : Room k X.A) (hg : Gl X x) (hm : X.mg x = some (.ref f)) (hk : PySem.W.keepIn X.K (.ref f) = true) (hb : Binds X.K fd ps ds) (hd : Vals dvs ds) (hx : Passes CX X E)
    (ha : PA X (e :: es) t) (hdb : (x == ("__debug__" : Str)) = false := by decide) (he : starEach (e :: es) X.env = (false, eval e X.env) :: starEach es X.env := by rfl) (hpl : (backTo pos (starEach es X.env)).any (·.1) = false := by rfl) :
    PE X (.Call (.Name x p) (e :: es) [] pos) (tCall sp dvs E t) := by
  intro pins s σ H Q I h
  refine wpAny_Call_Name_kw (ld_glob I hg hm ?_ hdb)
  refine PySem.W.callWith_K (h₀ := X.base) I.ok.mod.kin hk (thn (ha pos pins s σ H _ I h) fun us s1 ⟨vs, H1, I1, r, q⟩ => ⟨I1.kIn, ?_⟩) he hpl
  exact run_fn F hr hb hd hx I1 r q
structure Mk (K : PySem.W.Frag) (C f : Addr) : Prop where
  makes : PySem.W.makesIn K C = true
  init : PySem.W.findIn K (.ref C) "__init__" = some (some (.ref f))
  fn : PySem.W.isFn K (.ref f) = true
  kp : PySem.W.keepIn K (.ref C) = true

end

section
variable {X : Cx} {CX : CXT} {k : Nat} {f C : Addr} {fd : FuncData} {ps ks : List Str} {sp : Sp} {E : XK} {x m : Str} {p pos apos kpos : Pos} {e o : Expr} {es : List Expr} {kws : List Keyword} {te ta : TE} {t tk : TA} {nm : Option Str}
structure KBinds (K : PySem.W.Frag) (fd : FuncData) (ps ks : List Str) (g : List Value → List Value → List Value) (gV : List V → List V → List V) : Prop where
  to : ∀ (s : Shared) (us ws : List Value), K.In s.heap → (g us ws).length = ps.length → BindsTo s fd ⟨us, ks.zip ws⟩ (ps.zip (g us ws))
  rel : ∀ {vs : List V} {us : List Value} {zs : List V} {ws : List Value}, Vals vs us → Vals zs ws → Vals (gV vs zs) (g us ws)
variable {g : List Value → List Value → List Value} {gV : List V → List V → List V}
end

structure FnScope (N P : List Str) (sc : Scope) : Prop where
  kind : sc.kind = .function
  co : sc.isCoroutine = false
  gen : sc.isGenerator = false
  nd : N.Nodup
  pre : N.take P.length = P
  par : ∀ x ∈ P, sc.names.lookup x = some .local ∨ sc.names.lookup x = some .cell
  nofree : ∀ y ∈ sc.names, y.2 ≠ .free

theorem bindL_out {kindOf : Str → Option NameKind} {x : Str} : ∀ {binds : List (Str × Value)} {m : Str → Option Value}, (∀ v, (x, v) ∉ binds) → bindL kindOf binds m x = m x
  | [], _, _ => rfl
  | (n, v) :: r, m, h => by
    unfold bindL
    rw [bindL_out fun w hw => h w (List.mem_cons_of_mem _ hw)]
    split
    · have : x ≠ n := by rintro rfl; exact h v List.mem_cons_self
      simp [this]
    · rfl
theorem bindC_out {kindOf : Str → Option NameKind} {x : Str} : ∀ {binds : List (Str × Value)} {m : Str → Option Value}, (∀ v, (x, v) ∉ binds) → bindC kindOf binds m x = m x
  | [], _, _ => rfl
  | (n, v) :: r, m, h => by
    unfold bindC
    rw [bindC_out fun w hw => h w (List.mem_cons_of_mem _ hw)]
    split
    · rfl
    · have : x ≠ n := by rintro rfl; exact h v List.mem_cons_self
      simp [this]
theorem bindL_get {kindOf : Str → Option NameKind} {x : Str} {v : Value} : ∀ {P : List Str} {vs : List Value} {i : Nat} {m : Str → Option Value}, P.Nodup → P[i]? = some x → vs[i]? = some v → kindOf x = some .local →
    bindL kindOf (P.zip vs) m x = some v
  | [], _, _, _, _, h, _, _ => by simp at h
  | _ :: _, [], _, _, _, _, h, _ => by simp at h
  | p :: P, w :: vs, 0, m, nd, h1, h2, hk => by
    simp at h1 h2; subst h1; subst h2
    show bindL kindOf ((p, w) :: P.zip vs) m p = _
    unfold bindL
    rw [bindL_out fun v hv => (List.nodup_cons.mp nd).1 (List.of_mem_zip hv).1, if_pos hk]
    simp
  | p :: P, w :: vs, i + 1, m, nd, h1, h2, hk => by
    show bindL kindOf ((p, w) :: P.zip vs) m x = _
    unfold bindL
    exact bindL_get (i := i) (List.nodup_cons.mp nd).2 (by simpa using h1) (by simpa using h2) hk
theorem bindC_get {kindOf : Str → Option NameKind} {x : Str} {v : Value} : ∀ {P : List Str} {vs : List Value} {i : Nat} {m : Str → Option Value}, P.Nodup → P[i]? = some x → vs[i]? = some v → kindOf x ≠ some .local →
    bindC kindOf (P.zip vs) m x = some v
  | [], _, _, _, _, h, _, _ => by simp at h
  | _ :: _, [], _, _, _, _, h, _ => by simp at h
  | p :: P, w :: vs, 0, m, nd, h1, h2, hk => by
    simp at h1 h2; subst h1; subst h2
    show bindC kindOf ((p, w) :: P.zip vs) m p = _
    unfold bindC
    rw [bindC_out fun v hv => (List.nodup_cons.mp nd).1 (List.of_mem_zip hv).1, if_neg hk]
    simp
  | p :: P, w :: vs, i + 1, m, nd, h1, h2, hk => by
    show bindC kindOf ((p, w) :: P.zip vs) m x = _
    unfold bindC
    exact bindC_get (i := i) (List.nodup_cons.mp nd).2 (by simpa using h1) (by simpa using h2) hk

def start (N : List Str) (vs : List V) : St := vs.map some ++ List.replicate (N.length - vs.length) none

def cxOf (CX : CXT) (P : Program) (w : World) (K : PySem.W.Frag) (mg : Str → Option Value) (base : Heap) (N : List Str) (qual : Str) (scope : Scope) (f : Addr) (cd : Value) (A : Around) (outer : List Env) (s : Shared) (H : Hp) (E : XK) : Cx where
  prog := P
  w := w
  K := K
  mg := mg
  base := base
  A := A.deeper (envOfC qual scope s.heap.objs.size f cd)
  N := N
  s₀ := s
  H₀ := H
  env := envOfC qual scope s.heap.objs.size f cd
  outer := outer
  stack := envOfC qual scope s.heap.objs.size f cd :: outer
  ex := []
  calm := true
  fn := fun _ => true
  pn := []
  xe := fun e s' => wpAny (model P w) (A.deeper (envOfC qual scope s.heap.objs.size f cd)) (leaving (envOfC qual scope s.heap.objs.size f cd) e) (fun _ s'' => CX outer H s E e s'') (fun e' s'' => CX outer H s E e' s'') s'

theorem cell_has {sc : Scope} {n : Nat} {x : Str} (h : sc.names.lookup x = some .cell) : ∃ c, (cellsFrom n sc.names []).lookup x = some c := by
  have q := PySem.W.cellsFrom_some sc.names n [] (.inl h)
  exact Option.isSome_iff_exists.mp q

theorem inv_start {CX : CXT} {P : Program} {w : World} {K : PySem.W.Frag} {mg : Str → Option Value} {base : Heap} {N ps : List Str} {qual : Str} {scope : Scope} {f : Addr} {cd : Value} {A : Around} {outer : List Env} {s s1 : Shared} {H : Hp} {E : XK} {us : List Value} {vs : List V}
    (S : FnScope N ps scope) (hd : A.handled = none) (e0 : Env0 P w K mg base A outer s H) (hl : vs.length = ps.length) (r : Vals vs us)
    (x : InCallC s s.heap.objs.size (bindL (envOfC qual scope s.heap.objs.size f cd).kindOf (ps.zip us) fun _ => none) (cellsFrom (s.heap.objs.size + 1) scope.names []) (bindC (envOfC qual scope s.heap.objs.size f cd).kindOf (ps.zip us) fun _ => none) s1) :
    Inv (cxOf CX P w K mg base N qual scope f cd A outer s H E) [] (start N vs) H s1 := by
  have hpl : ps.length ≤ N.length := by have := congrArg List.length S.pre; rw [List.length_take] at this; omega
  obtain ⟨h1, tk, rfl, hk⟩ := x.done
  have noA : ∀ b : Addr, b ∉ (cxOf CX P w K mg base N qual scope f cd A outer s H E).ex := fun b z => absurd (show b ∈ ([] : List Addr) from z) (by simp)
  refine ⟨⟨e0.mod, S.kind, rfl, rfl, Nat.le_refl _, fun y z c h1 h2 => ?_, fun y hy => ?_, fun y c _ h => ?_, fun _ => hd, Around.frames_deeper e0.frames, .inr ⟨rfl, rfl⟩, fun b z => absurd z (noA b), e0.bs, e0.bsz, fun b _ _ => noA b, fun b z => absurd z (noA b), e0.funs, e0.frf⟩,
    rfl, e0.bare, Un.kept hk, ⟨_, x.toInCall.ns, fun i y v h1 h2 h3 => ?_⟩, fun y c h => ⟨_, x.cell y c h⟩, e0.hok.fresh (Nat.le_refl _), fun y c h => ?_, fun p hp => absurd (show p ∈ ([] : List (Addr × Obj)) from hp) (by simp), e0.hok.kept hk, ?_⟩
  · exact name_of_addr x.apart (PySem.mem_of_lookup h1) (PySem.mem_of_lookup h2)
  · have hy : scope.names.lookup y = some .cell ∨ scope.names.lookup y = some .free := hy
    rcases hy with hy | hy
    · exact cell_has hy
    · exact absurd rfl (S.nofree _ (PySem.mem_of_lookup hy))
  · exact Nat.le_of_lt (x.above y c (PySem.mem_of_lookup h))
  · have hi : i < vs.length := by
      unfold start at h2
      by_cases hi : i < vs.length
      · exact hi
      · rw [List.getElem?_append_right (by simpa using hi)] at h2
        rw [List.getElem?_replicate] at h2
        split at h2 <;> cases h2
    have ha : vs[i]? = some v := by
      unfold start at h2
      rw [List.getElem?_append_left (by simpa using hi), List.getElem?_map] at h2
      cases e : vs[i]? with
      | none => rw [e] at h2; cases h2
      | some a => rw [e] at h2; cases h2; rfl
    obtain ⟨u, hu, rv⟩ := r.get ha
    have hp : ps[i]? = some y := by
      rw [← S.pre, List.getElem?_take_of_lt (by omega)]; exact h1
    have ndP : ps.Nodup := by rw [← S.pre]; exact S.nd.sublist (List.take_sublist _ _)
    refine ⟨u, rv, ?_⟩
    rcases S.par y (List.mem_of_getElem? hp) with k | k
    · exact .inl ⟨k, bindL_get ndP hp hu k⟩
    · obtain ⟨c, e⟩ := cell_has (n := s.heap.objs.size + 1) k
      refine .inr ⟨.inl k, c, e, ?_⟩
      have q := x.cell y c e
      rw [bindC_get ndP hp hu (by show scope.names.lookup y ≠ _; rw [k]; decide)] at q
      exact q
  · exact e0.hok.fresh (Nat.le_of_lt (x.above y c (PySem.mem_of_lookup h)))
  · unfold start
    show _ = N.length
    rw [List.length_append, List.length_map, List.length_replicate]
    omega

theorem fn_of {CX : CXT} {P : Program} {w : World} {K : PySem.W.Frag} {mg : Str → Option Value} {base : Heap} {k : Nat} {f : Addr} {name qual : Str} {params : Arguments} {body : List Stmt} {scope : Scope} {dV kV doc pm cdv ct oc : Value} {an od : Option Addr}
    {osl : Array (Option Value)} {N ps : List Str} {sp : Sp} (lk : K.lookup f = some ⟨oc, od, .func (PySem.W.fnOf name qual params body scope dV kV doc pm an cdv ct), osl⟩) (hcd : PySem.W.codeIn K cdv qual = true) (S : FnScope N ps scope)
    (len : ∀ vs H Q E, sp vs H Q E → vs.length = ps.length)
    (hbody : ∀ (A : Around) (outer : List Env) (s : Shared) (H : Hp) (vs : List V) (Q : VK) (E : XK), Room k (A.deeper (envOfC qual scope s.heap.objs.size f cdv)) → sp vs H Q E →
      ∃ t, PSs (cxOf CX P w K mg base N qual scope f cdv A outer s H E) body t ∧ t { nx := fun _ H' => Q .non H', rt := Q } (start N vs) H) :
    FnOk P w K mg base CX (k + 1) f (PySem.W.fnOf name qual params body scope dV kV doc pm an cdv ct) ps sp := by
  refine ⟨len, fun A outer s H args us vs Q E hr e0 hb r hsp => ?_⟩
  have hl := len _ _ _ _ hsp
  have KX : K.In s.heap := e0.mod.kin.keeps fun b o e => (e0.bs b o e).1
  have lim : s.heap.NoLimit := e0.mod.nolimit.keeps fun b o e => (e0.bs b o e).1
  have hkind : ∀ y ∈ ps.zip us, scope.names.lookup y.1 = some .local ∨ (scope.names.lookup y.1 = some .cell ∧ ((cellsFrom (s.heap.objs.size + 1) scope.names []).lookup y.1).isSome = true) := fun ⟨n, v⟩ hy => by
    rcases S.par n (List.of_mem_zip hy).1 with q | q
    · exact .inl q
    · exact .inr ⟨q, PySem.W.cellsFrom_some _ _ _ (.inl q)⟩
  refine codeAny_call_function hr.depth (KX _ _ lk) rfl S.co S.gen rfl (PySem.W.codeRec_of KX hcd) (hb _ _ _ _ ?_)
  refine wpAny_newFunctionEnv_cells S.kind hkind fun env he s1 x => ?_
  subst he
  refine ⟨lim.keeps x.toInCall.keep, codeAny_func ?_⟩
  obtain ⟨t, ht, hq⟩ := hbody A outer s H vs Q E (hr.deeper _) hsp
  have I : Inv (cxOf CX P w K mg base N qual scope f cdv A outer s H E) [] (start N vs) H s1 := inv_start S hr.hd e0 hl r x
  refine wpAny_mono (ht [] s1 (start N vs) H _ I hq) (fun fl s' hs => ?_) fun e s' hs => hs
  have fin : ∀ {σ' : St} {H' : Hp} {v : V} {u : Value}, Inv (cxOf CX P w K mg base N qual scope f cdv A outer s H E) [] σ' H' s' → RelV v u → Q v H' → CE outer P w H s Q u s' :=
    fun {σ' H' v u} J rv q => ⟨v, H', J.os, J.bare, J.base, J.hok, rv, q⟩
  cases fl with
  | ret u =>
    obtain ⟨v, σ', H', J, rv, q⟩ := hs
    exact fin J rv q
  | next =>
    obtain ⟨σ', H', J, q⟩ := hs
    exact fin (v := V.non) (u := Value.none) J rfl q
  | brk =>
    obtain ⟨_, _, _, q⟩ := hs
    exact False.elim q
  | cont =>
    obtain ⟨_, _, _, q⟩ := hs
    exact False.elim q
end L2

namespace L2
open PySem PySem.Spec PyProof.Rows
section
variable {X : Cx} {x : Str} {p pos : Pos} {e : Expr} {es : List Expr} {t : TA} {id T : String} {r : List V → Hp → VK → Prop}

def tCB (r : List V → Hp → VK → Prop) (t : TA) : TE := fun σ H Q => t σ H fun vs H1 => r vs H1 Q
theorem pe_callB (hc : CallR X (.builtin id) r) (hg : Gl X x) (hm : X.mg x = none) (hv : bootBuiltins x = some (.builtin id)) (ha : PA X (e :: es) t) (hn : x ≠ "__name__" := by decide) (hdb : (x == ("__debug__" : Str)) = false := by decide)
    (he : starEach (e :: es) X.env = (false, eval e X.env) :: starEach es X.env := by rfl) (hpl : (backTo pos (starEach es X.env)).any (·.1) = false := by rfl) : PE X (.Call (.Name x p) (e :: es) [] pos) (tCB r t) := by
  intro pins s σ H Q I h
  refine wpAny_Call_Name_kw (ld_blt I hg hm hv ?_ hn hdb)
  exact PyProof.Rows.callWith_builtin1 (thn (ha pos pins s σ H _ I h) fun us s1 ⟨vs, H1, I1, r1, q1⟩ => hc pins s1 σ H1 vs us Q I1 r1 q1) he hpl
theorem pe_callTy (hc : CallR X (.type T) r) (hg : Gl X x) (hm : X.mg x = none) (hv : bootBuiltins x = some (.type T)) (ha : PA X (e :: es) t) (hn : x ≠ "__name__" := by decide) (hdb : (x == ("__debug__" : Str)) = false := by decide)
    (he : starEach (e :: es) X.env = (false, eval e X.env) :: starEach es X.env := by rfl) (hpl : (backTo pos (starEach es X.env)).any (·.1) = false := by rfl) : PE X (.Call (.Name x p) (e :: es) [] pos) (tCB r t) := by
  intro pins s σ H Q I h
  refine wpAny_Call_Name_kw (ld_blt I hg hm hv ?_ hn hdb)
  exact PyProof.Rows.callWith_type1 (thn (ha pos pins s σ H _ I h) fun us s1 ⟨vs, H1, I1, r1, q1⟩ => hc pins s1 σ H1 vs us Q I1 r1 q1) he hpl
end
end L2

namespace HT
open PySem PyProof.Rows

section
open PySem.SeqAt
open PySem.AutoSeq1 (wpAny_loadPart')
open PySem.MeetsSeq PySem.MeetsSeq2 PySem.MeetsSeq3

end

section
variable {prog : Program} {w : World} {A : Around} {E : Value → Shared → Prop} {s : Shared}

theorem cat_tup {t b : Addr} {vs ws : List Value} {Q : Value → Shared → Prop} (ht : IsTup s.heap t vs.toArray) (hb : IsTup s.heap b ws.toArray) (hv : vs ≠ [])
    (h1 : ws = [] → Q (.ref t) s) (h2 : ws ≠ [] → Q (.ref s.heap.objs.size) { s with heap := s.heap.push { cls := .type "tuple", data := .seq (vs ++ ws).toArray } })
    (hsz : vs.length + ws.length ≤ sizeLine) : wpAny (model prog w) A (binaryOp .Add (.ref t) (.ref b)) Q E s := by
  obtain ⟨⟨cls, dd, data, sl⟩, ho, hc, n, hd⟩ := id ht
  obtain ⟨⟨cls2, dd2, data2, sl2⟩, ho2, hc2, n2, hd2⟩ := id hb
  simp only at hc hd hc2 hd2
  subst hc hd hc2 hd2
  have e : vs.toArray ++ ws.toArray = (vs ++ ws).toArray := by simp
  by_cases hw : ws = []
  · exact concat_meets ⟨_, ho, rfl⟩ ⟨_, ho2, rfl⟩ noFill_tuple_add seq_tuple_add PySem.F.slot_tuple_add PySem.F.entry_tuple_add (PySem.F.args_tuple_add_2 _ _)
      (tuple_addW1 t b vs.toArray ws.toArray n n2 dd dd2 sl sl2 (by simpa using hv) (by simp [hw])) ⟨ho, ho2, h1 hw⟩
  · refine concat_meets ⟨_, ho, rfl⟩ ⟨_, ho2, rfl⟩ noFill_tuple_add seq_tuple_add PySem.F.slot_tuple_add PySem.F.entry_tuple_add (PySem.F.args_tuple_add_2 _ _)
      (tuple_addW2 t b vs.toArray ws.toArray n n2 dd dd2 sl sl2 (by simpa using hv) (by simpa using hw) (by rw [List.size_toArray, List.size_toArray]; exact hsz)) ⟨ho, ho2, ?_⟩
    rw [e]
    exact h2 hw

def sIx (n d : Nat) : Option Int → Nat
  | none => d
  | some v => if v < 0 then (v + (n : Int)).toNat else min v.toNat n
end
end HT

namespace L2
open PySem PySem.Spec PyProof.Rows

abbrev TO := St → Hp → (Option Int → Hp → Prop) → Prop
def tNoPart : TO := fun _ H Q => Q none H
def tPart (t : TE) : TO := fun σ H Q => t σ H fun x H1 => ∃ i, x = .int i ∧ Q (some i) H1

section
variable {X : Cx} {e : Expr} {te : TE} {lo hi : Option Expr} {tl th : TO} {pos p2 : Pos}

def SlR (X : Cx) (r : V → Option Int → Option Int → Hp → VK → Prop) : Prop :=
  ∀ (pins : List (Addr × Obj)) (s : Shared) (σ : St) (H : Hp) (x : V) (v vl vu : Value) (lo hi : Option Int) (sl : Addr) (Q : VK), Inv X pins σ H s → RelV x v → s.heap.IsSliceOf sl vl vu .none → IsPart vl lo → IsPart vu hi → r x lo hi H Q →
    ∃ T id, typeLookup (.type T) "__getitem__" = pure (some (.builtin id)) ∧ s.TypeIs v T ∧ wpAny (model X.prog X.w) X.A (getItem v (.ref sl)) (EP X pins σ Q) X.xe s
def tSl (r : V → Option Int → Option Int → Hp → VK → Prop) (te : TE) (tl th : TO) : TE := fun σ H Q => te σ H fun x H1 => tl σ H1 fun l H2 => th σ H2 fun u H3 => r x l u H3 Q
def cutV (xs : List V) (lo hi : Option Int) : List V := (xs.drop (HT.sIx xs.length 0 lo)).take (HT.sIx xs.length xs.length hi - HT.sIx xs.length 0 lo)
theorem cutV_length (xs : List V) (lo hi : Option Int) : (cutV xs lo hi).length ≤ xs.length := by
  unfold cutV
  rw [List.length_take, List.length_drop]
  omega
def rCatT (K : PySem.W.Frag) : R2 := fun x y H Q => ∃ a b xs ys, x = .ref a ∧ y = .ref b ∧ SqT K H a xs ∧ SqT K H b ys ∧ xs ≠ [] ∧ xs.length + ys.length ≤ sizeLine ∧
  (ys = [] → Q (.ref a) H) ∧ (ys ≠ [] → ∀ p, H p = none → Q (.ref p) (upd H p (.tup (xs ++ ys))))
theorem Vals.nil_iff {xs : List V} {us : List Value} (r : Vals xs us) : us = [] ↔ xs = [] := by
  cases r with
  | nil => simp
  | cons _ _ => simp
theorem op_catT : OpR X (binaryOp .Add) (rCatT X.K) := by
  intro pins s σ H x y v u Q I rx ry h
  obtain ⟨a, b, xs, ys, rfl, rfl, ha, hb, hx, hz, q1, q2⟩ := h
  cases rx
  cases ry
  obtain ⟨its, r1, p1, _⟩ := I.tuple ha
  obtain ⟨its2, r2, p2, _⟩ := I.tuple hb
  refine HT.cat_tup p1 p2 (fun z => hx (r1.nil_iff.mp z)) (fun z => ⟨.ref a, H, I, rfl, q1 (r2.nil_iff.mp z)⟩) (fun z => ?_) (by rw [← r1.length, ← r2.length]; exact hz)
  refine ⟨.ref s.heap.objs.size, _, I.laid (t' := s.toks) (o := .tup (xs ++ ys)) (fun b ob q => Heap.get?_push_of_some _ q) (Nat.le_refl _) ?_, rfl, q2 (fun w => z (r2.nil_iff.mpr w)) _ (I.hok.fresh (Nat.le_refl _))⟩
  exact ⟨by rw [List.length_append]; exact hz, _, r1.append r2, IsTup.new _ _, _, Heap.get?_push_size _ rfl, rfl⟩
end
end L2

namespace L2
open PySem PySem.Spec PyProof.Rows

def ixN (n : Nat) (i : Int) : Option Nat := if 0 ≤ i then (if i < n then some i.toNat else none) else if -(n : Int) ≤ i then some (i + n).toNat else none
def atI {α : Type} (xs : List α) (i : Int) : Option α := (ixN xs.length i).bind fun j => xs[j]?
theorem ixN_seq {n : Nat} {i : Int} {j : Nat} (h : ixN n i = some j) : seqIndex? i n = some j ∧ j < n ∧ -(n : Int) ≤ i ∧ i < n := by
  unfold ixN at h
  by_cases h0 : 0 ≤ i
  · rw [if_pos h0] at h
    by_cases h1 : i < n
    · rw [if_pos h1] at h
      have e : i.toNat = j := Option.some.inj h
      exact ⟨by rw [seqIndex_of h0 h1, e], by omega, by omega, h1⟩
    · rw [if_neg h1] at h; cases h
  · rw [if_neg h0] at h
    by_cases h1 : -(n : Int) ≤ i
    · rw [if_pos h1] at h
      have e : (i + n).toNat = j := Option.some.inj h
      exact ⟨by rw [seqIndex_neg (by omega) h1, e], by omega, h1, by omega⟩
    · rw [if_neg h1] at h; cases h
theorem atI_get {α : Type} {xs : List α} {i : Int} {v : α} (h : atI xs i = some v) : ∃ j, seqIndex? i xs.length = some j ∧ xs[j]? = some v ∧ j < xs.length ∧ -(xs.length : Int) ≤ i ∧ i < xs.length := by
  unfold atI at h
  cases e : ixN xs.length i with
  | none => rw [e] at h; cases h
  | some j =>
    rw [e] at h
    obtain ⟨h1, h2, h3, h4⟩ := ixN_seq e
    exact ⟨j, h1, h, h2, h3, h4⟩
theorem atI_nat {α : Type} {xs : List α} {j : Nat} {v : α} (h : xs[j]? = some v) : atI xs (j : Int) = some v := by
  have hj : j < xs.length := (List.getElem?_eq_some_iff.mp h).1
  have e : ixN xs.length (j : Int) = some j := by
    unfold ixN
    rw [if_pos (by omega), if_pos (by omega)]; simp
  unfold atI; rw [e]; exact h
def PlainIx (b : Expr) : Prop := ∀ o i, subscripted b false o i = operate [o, i] (getItem o i)
def IxR (X : Cx) (r : R2) : Prop :=
  ∀ (value slice : Expr) (pins : List (Addr × Obj)) (s : Shared) (σ : St) (H : Hp) (x y : V) (v u : Value) (Q : VK), Inv X pins σ H s → RelV x v → RelV y u → r x y H Q →
    subscripted slice false v u = operate [v, u] (getItem v u) → wpAny (model X.prog X.w) X.A (subscriptTail value slice v u) (EP X pins σ Q) X.xe s
def MtR (X : Cx) (id : String) (r : V → List V → Hp → VK → Prop) : Prop :=
  ∀ (pins : List (Addr × Obj)) (s : Shared) (σ : St) (H : Hp) (x : V) (xs : List V) (v : Value) (us : List Value) (Q : VK), Inv X pins σ H s → RelV x v → Vals xs us → r x xs H Q →
    wpAny (model X.prog X.w) X.A (call (.builtin id) (v :: us)) (EP X pins σ Q) X.xe s
section
variable {X : Cx} {a b : Expr} {ta tb : TE} {pos : Pos}
theorem pe_ix {r : R2} (hr : IxR X r) (ha : PE X a ta) (hb : PE X b tb) (hs : PlainIx b) : PE X (.Subscript a b pos) (tOp r ta tb) := by
  intro pins s σ H Q I h
  exact Subscript_ (binT ha hb I h fun v u s2 x y H2 I2 rx ry q => hr a b pins s2 σ H2 x y v u Q I2 rx ry q (hs _ _))

def rIxL (K : PySem.W.Frag) : R2 := fun x y H Q => ∃ p xs i v, x = .ref p ∧ y = .int i ∧ SqL K H p xs ∧ atI xs i = some v ∧ Q v H
def rIxT (K : PySem.W.Frag) : R2 := fun x y H Q => ∃ p xs i v, x = .ref p ∧ y = .int i ∧ SqT K H p xs ∧ atI xs i = some v ∧ Q v H
def rIxS : R2 := fun x y H Q => ∃ z i c, x = .str z ∧ y = .int i ∧ z.length ≤ sizeLine ∧ atI z.cps.toList i = some c ∧ Q (.str ⟨#[c]⟩) H
theorem ix_list : IxR X (rIxL X.K) := by
  intro value slice pins s σ H x y v u Q I rx ry h hs
  obtain ⟨p, xs, i, z, rfl, rfl, hq, he, q⟩ := h
  cases rx
  obtain ⟨t, rfl⟩ := ry
  obtain ⟨its, r, pl, hz⟩ := I.list hq
  obtain ⟨j, h1, h2, h3, h4, h5⟩ := atI_get he
  obtain ⟨w, ew, rw'⟩ := r.get h2
  have hl := r.length
  have hn := line63
  have fin : EP X pins σ Q w s := ⟨z, H, I, rw', q⟩
  by_cases h0 : 0 ≤ i
  · have hj : i.toNat = j := by
      rw [seqIndex_of h0 h5] at h1
      exact Option.some.inj h1
    exact item_listR pl.isList h0 (by omega) (by rw [hj]; simpa using ew) fin hs
  · have hj : (i + (its.toArray.size : Int)).toNat = j := by
      rw [seqIndex_neg (by omega) h4] at h1
      rw [List.size_toArray, ← hl]
      exact Option.some.inj h1
    exact subscriptTail_builtinR (x := w) pl.isList.typeIs slot_list_getitem.lookup
      (wpAny_getItem_list_neg (Q := fun r s' => r = w ∧ EP X pins σ Q r s') pl.isList (by omega) (by rw [List.size_toArray] <;> omega) (by omega) (by rw [hj]; simpa using ew) ⟨rfl, fin⟩) hs
theorem ix_str : IxR X rIxS := by
  intro value slice pins s σ H x y v u Q I rx ry h hs
  obtain ⟨z, i, c, rfl, rfl, hz, he, q⟩ := h
  obtain ⟨t, rfl⟩ := rx
  obtain ⟨t', rfl⟩ := ry
  obtain ⟨j, h1, h2, h3, h4, h5⟩ := atI_get he
  have hl : z.cps.toList.length = z.length := by simp [Str.length]
  rw [hl] at h1 h4 h5
  have hn := line63
  exact tail_any (typeIs_str s z t) slot_str_getitem.lookup (getItem_str (c := c) (by
    have e1 : decide (i < -(2 ^ 63 : Int)) = false := decide_eq_false (by omega)
    have e2 : decide (i ≥ 2 ^ 63) = false := decide_eq_false (by omega)
    rw [e1, e2, Bool.or_false]) (by rw [h1]; simpa using h2) ⟨.str ⟨#[c]⟩, H, I.tok _, ⟨_, rfl⟩, q⟩) hs
def rIx (K : PySem.W.Frag) : R2 := fun x y H Q => rIxL K x y H Q ∨ rIxT K x y H Q ∨ rIxS x y H Q
theorem Inv.lst {pins : List (Addr × Obj)} {σ : St} {H : Hp} {s : Shared} {p : Addr} {xs : List V} (I : Inv X pins σ H s) (h : H p = some (.lst xs)) :
    ∃ (its : List Value) (n : Nat), Vals xs its ∧ s.heap.get? p = some { cls := .type "list", data := .seq its.toArray n } ∧ xs.length ≤ sizeLine := by
  obtain ⟨z, its, n, r, e⟩ := I.hok p _ h
  exact ⟨its, n, r, e, z⟩
def rSetL : V → V → V → Hp → (Hp → Prop) → Prop := fun o i v H Q => ∃ p xs k j, o = .ref p ∧ i = .int k ∧ H p = some (.lst xs) ∧ ixN xs.length k = some j ∧ Q (upd H p (.lst (xs.set j v)))
theorem slice_bounds (lo hi : Option Int) (n : Nat) : (sliceBounds lo hi none n).1 = ((HT.sIx n 0 lo : Nat) : Int) ∧ (sliceBounds lo hi none n).2.1 = ((HT.sIx n n hi : Nat) : Int) ∧ (sliceBounds lo hi none n).2.2 = 1 := by
  refine ⟨?_, ?_, rfl⟩
  · cases lo with
    | none => simp [sliceBounds, HT.sIx]
    | some i =>
      simp only [sliceBounds, HT.sIx, Option.getD_none, show (1 : Int) > 0 by decide, if_true]
      by_cases h : i < 0
      · simp only [h, if_true] <;> omega
      · simp only [h, if_false] <;> omega
  · cases hi with
    | none => simp [sliceBounds, HT.sIx]
    | some i =>
      simp only [sliceBounds, HT.sIx, Option.getD_none, show (1 : Int) > 0 by decide, if_true]
      by_cases h : i < 0
      · simp only [h, if_true] <;> omega
      · simp only [h, if_false] <;> omega
theorem slicePick_cut (its : List Value) (lo hi : Option Int) : slicePick its.toArray lo hi none = ((its.drop (HT.sIx its.length 0 lo)).take (HT.sIx its.length its.length hi - HT.sIx its.length 0 lo)).toArray := by
  obtain ⟨h1, h2, h3⟩ := slice_bounds lo hi its.toArray.size
  unfold slicePick
  rw [h1, h2, h3]
  simp only [sliceRange_one, pick_run, List.size_toArray] <;> rfl
def rSlL (K : PySem.W.Frag) : V → Option Int → Option Int → Hp → VK → Prop := fun x lo hi H Q => ∃ a xs, x = .ref a ∧ SqL K H a xs ∧ ∀ p, H p = none → Q (.ref p) (upd H p (.lst (cutV xs lo hi)))
theorem sl_list : SlR X (rSlL X.K) := by
  intro pins s σ H x v vl vu lo hi sl Q I rx hs pl pu h
  obtain ⟨a, xs, rfl, hx, q⟩ := h
  cases rx
  obtain ⟨its, r, ht, hz⟩ := I.list hx
  have hlen := r.length
  refine ⟨"list", _, slot_list_getitem.lookup, ht.isList.typeIs, ?_⟩
  refine wpAny_getItem_list_slice ht.isList hs pl pu .none (by simp) ?_ (by rw [List.size_toArray] <;> omega)
  rw [slicePick_cut, ← hlen]
  refine ⟨.ref s.heap.objs.size, _, I.laid (t' := s.toks) (o := .lst (cutV xs lo hi)) (fun b ob q => Heap.get?_push_of_some _ q) (Nat.le_refl _) ?_, rfl, q _ (I.hok.fresh (Nat.le_refl _))⟩
  exact ⟨Nat.le_trans (cutV_length xs lo hi) hz, _, 0, (r.drop (HT.sIx xs.length 0 lo)).take (HT.sIx xs.length xs.length hi - HT.sIx xs.length 0 lo), Heap.get?_push_size _ rfl⟩

def flatV : V → Bool
  | .non => true
  | .bl _ => true
  | .int _ => true
  | .str _ => true
  | _ => false
def eqV : V → V → Bool
  | .non, .non => true
  | .bl a, .bl b => a == b
  | .bl a, .int b => (if a then 1 else 0) == b
  | .int a, .bl b => a == (if b then 1 else 0)
  | .int a, .int b => a == b
  | .str a, .str b => a == b
  | _, _ => false
theorem eqAt_V {A : Around} {s : Shared} {y x : V} {u v : Value} (ry : RelV y u) (rx : RelV x v) (fy : flatV y = true) (fx : flatV x = true) : SeqAt.EqAt A s u v (eqV y x) := by
  cases y with
  | non =>
    cases ry
    cases x with
    | non => cases rx; exact SeqAt.EqAt.same _
    | bl b => cases rx; exact SeqAt.EqAt.none_bool b
    | int b => obtain ⟨t, rfl⟩ := rx; exact SeqAt.EqAt.none_int b t
    | str b => obtain ⟨t, rfl⟩ := rx; exact SeqAt.EqAt.none_str b t
    | _ => exact absurd (show false = true from fx) Bool.false_ne_true
  | bl a =>
    cases ry
    cases x with
    | non => cases rx; exact SeqAt.EqAt.bool_none a
    | bl b => cases rx; exact SeqAt.EqAt.bool_bool a b
    | int b => obtain ⟨t, rfl⟩ := rx; exact SeqAt.EqAt.bool_int a b t
    | str b => obtain ⟨t, rfl⟩ := rx; exact SeqAt.EqAt.bool_str a b t
    | _ => exact absurd (show false = true from fx) Bool.false_ne_true
  | int a =>
    obtain ⟨t', rfl⟩ := ry
    cases x with
    | non => cases rx; exact SeqAt.EqAt.int_none a t'
    | bl b => cases rx; exact SeqAt.EqAt.int_bool a t' b
    | int b => obtain ⟨t, rfl⟩ := rx; exact SeqAt.EqAt.int_int a t' b t
    | str b => obtain ⟨t, rfl⟩ := rx; exact SeqAt.EqAt.int_str a t' b t
    | _ => exact absurd (show false = true from fx) Bool.false_ne_true
  | str a =>
    obtain ⟨t', rfl⟩ := ry
    cases x with
    | non => cases rx; exact SeqAt.EqAt.str_none a t'
    | bl b => cases rx; exact SeqAt.EqAt.str_bool a t' b
    | int b => obtain ⟨t, rfl⟩ := rx; exact SeqAt.EqAt.str_int a t' b t
    | str b => obtain ⟨t, rfl⟩ := rx; exact SeqAt.EqAt.str_str a t' b t
    | _ => exact absurd (show false = true from fx) Bool.false_ne_true
  | _ => exact absurd (show false = true from fy) Bool.false_ne_true
theorem call_len_seq : CallR X (.builtin "len") (fun xs H Q => ∃ p ys, xs = [.ref p] ∧ (SqL X.K H p ys ∨ SqT X.K H p ys) ∧ Q (.int ys.length) H) := by
  intro pins s σ H xs us Q I r h
  obtain ⟨p, ys, rfl, hq, q⟩ := h
  obtain ⟨u, rfl, rx⟩ := vals1 r
  cases rx
  have hn := line63
  rcases hq with hq | hq
  · obtain ⟨its, r', pl, hz⟩ := I.list hq
    have hlen := r'.length
    exact Calls.call_len_list pl.isList (by simp only [List.size_toArray] <;> omega) ⟨.int ys.length, H, I.tok _, ⟨s.toks + 1, by rw [List.size_toArray, hlen]⟩, q⟩
  · obtain ⟨its, r', pl, hz⟩ := I.tuple hq
    have hlen := r'.length
    exact len_tuple pl (by simp only [List.size_toArray] <;> omega) ⟨.int ys.length, H, I.tok _, ⟨s.toks + 1, by rw [List.size_toArray, hlen]⟩, q⟩
theorem call_list_of : CallR X (.type "list") (fun xs H Q => ∃ p ys, xs = [.ref p] ∧ (SqL X.K H p ys ∨ SqT X.K H p ys) ∧ ∀ l, H l = none → Q (.ref l) (upd H l (.lst ys))) := by
  intro pins s σ H xs us Q I r h
  obtain ⟨p, ys, rfl, hq, q⟩ := h
  obtain ⟨u, rfl, rx⟩ := vals1 r
  cases rx
  have fin : ∀ (its : List Value), Vals ys its → ys.length ≤ sizeLine → ∀ (h' : Heap) (c' : Nat), (∀ b o', s.heap.get? b = some o' → h'.get? b = some o') →
      h'.get? s.heap.objs.size = some { cls := .type "list", dict := none, data := .seq its.toArray c', slots := #[] } → EP X pins σ Q (.ref s.heap.objs.size) { s with heap := h' } := fun its r' hz h' c' kp e =>
    ⟨.ref s.heap.objs.size, _, I.laid (t' := s.toks) kp (Nat.le_refl _) (show ObjOk X.prog X.w _ h' _ (.lst ys) from ⟨hz, its, c', r', e⟩), rfl, q _ (I.hok.fresh (Nat.le_refl _))⟩
  rcases hq with hq | hq
  · obtain ⟨its, r', pl, hz⟩ := I.list hq
    have hlen := r'.length
    obtain ⟨o, ho, hc, n, hd⟩ := pl.isList
    exact call_list_seq p (.inl rfl) ho hc hd (fun h' c' kp e => fin its r' hz h' c' kp e) (by simp only [List.size_toArray] <;> omega)
  · obtain ⟨its, r', pl, hz⟩ := I.tuple hq
    have hlen := r'.length
    obtain ⟨o, ho, hc, n, hd⟩ := pl
    exact call_list_seq p (.inr rfl) ho hc hd (fun h' c' kp e => fin its r' hz h' c' kp e) (by simp only [List.size_toArray] <;> omega)
theorem call_tuple_of : CallR X (.type "tuple") (fun xs H Q => ∃ p ys, xs = [.ref p] ∧ ((SqL X.K H p ys ∧ ∀ l, H l = none → Q (.ref l) (upd H l (.tup ys))) ∨ (SqT X.K H p ys ∧ Q (.ref p) H))) := by
  intro pins s σ H xs us Q I r h
  obtain ⟨p, ys, rfl, h⟩ := h
  obtain ⟨u, rfl, rx⟩ := vals1 r
  cases rx
  rcases h with ⟨hq, q⟩ | ⟨hq, q⟩
  · obtain ⟨its, r', pl, hz⟩ := I.list hq
    have hlen := r'.length
    refine call_tuple_list pl.isList (fun h' kp => ?_) (by simp only [List.size_toArray] <;> omega)
    have I1 : Inv X pins σ H { s with heap := h' } := I.kept (t' := s.toks) kp
    have I2 : Inv X pins σ (upd H h'.objs.size (.tup ys)) { s with heap := h'.push { cls := .type "tuple", data := .seq its.toArray } } :=
      I1.laid (t' := s.toks) (fun b o e => Heap.get?_push_of_some _ e) (Nat.le_refl _) (show ObjOk X.prog X.w _ _ _ (.tup ys) from ⟨hz, its, r', IsTup.new _ _, _, Heap.get?_push_size _ rfl, rfl⟩)
    exact ⟨.ref h'.objs.size, _, I2, rfl, q _ (I1.hok.fresh (Nat.le_refl _))⟩
  · obtain ⟨its, r', pl, hz⟩ := I.tuple hq
    exact call_tuple_same pl ⟨.ref p, H, I, rfl, q⟩

def tyV (K : PySem.W.Frag) (T : String) (x : V) (H : Hp) : Prop := match x with
  | .str _ => T = "str"
  | .int _ => T = "int"
  | .ref p => (T = "list" ∧ ∃ xs, SqL K H p xs) ∨ (T = "tuple" ∧ ∃ o, K.lookup p = some o ∧ o.cls = .type "tuple" ∧ o.dict = none) ∨
      (T = "dict" ∧ ((∃ kvs, H p = some (.dK kvs)) ∨ ∃ kvs, H p = some (.dT kvs))) ∨ (T = "set" ∧ ∃ S n, H p = some (.set S n))
  | _ => False
theorem tyV_is {pins : List (Addr × Obj)} {σ : St} {H : Hp} {s : Shared} {T : String} {x : V} {v : Value} (I : Inv X pins σ H s) (r : RelV x v) (ty : tyV X.K T x H) :
    s.TypeIs v T ∧ ∀ a, v = .ref a → ∃ ob, s.heap.get? a = some ob ∧ ob.dict = none := by
  cases x with
  | str z =>
    obtain ⟨t, rfl⟩ := r
    cases (show T = "str" from ty)
    exact ⟨typeIs_str s z t, fun _ e => nomatch e⟩
  | int i =>
    obtain ⟨t, rfl⟩ := r
    cases (show T = "int" from ty)
    exact ⟨typeIs_int s i t, fun _ e => nomatch e⟩
  | ref p =>
    cases r
    rcases ty with ⟨rfl, xs, hq⟩ | ⟨rfl, o, hk, hc, hd⟩ | ⟨rfl, hk⟩ | ⟨rfl, S, n, hk⟩
    · obtain ⟨its, _, pl, _⟩ := I.list hq
      refine ⟨pl.isList.typeIs, fun a e => ?_⟩
      cases e
      obtain ⟨o, n, e, c, hd, _⟩ := pl
      exact ⟨o, e, hd⟩
    · refine ⟨⟨o, I.kIn p o hk, hc⟩, fun a e => ?_⟩
      cases e
      exact ⟨o, I.kIn _ o hk, hd⟩
    · have z : ∃ o, s.heap.get? p = some o ∧ o.ExactDict := by
        rcases hk with ⟨kvs, hk⟩ | ⟨kvs, hk⟩
        · obtain ⟨_, _, _, _, o, _, _, e, ex, _⟩ := I.hok p _ hk
          exact ⟨o, e, ex⟩
        · obtain ⟨_, _, _, _, o, _, _, e, ex, _⟩ := I.hok p _ hk
          exact ⟨o, e, ex⟩
      obtain ⟨o, e, ex⟩ := z
      refine ⟨⟨o, e, ex.1⟩, fun a e2 => ?_⟩
      cases e2
      exact ⟨o, e, ex.2.1⟩
    · obtain ⟨o, _, _, _, e, ex, _⟩ := I.hok p _ hk
      refine ⟨⟨o, e, ex.1⟩, fun a e2 => ?_⟩
      cases e2
      exact ⟨o, e, ex.2.1⟩
  | _ => exact False.elim ty
def tBM0 (K : PySem.W.Frag) (T : String) (r : V → List V → Hp → VK → Prop) (to : TE) : TE := fun σ H Q => to σ H fun x H1 => tyV K T x H1 ∧ r x [] H1 Q
def tBM (K : PySem.W.Frag) (T : String) (r : V → List V → Hp → VK → Prop) (to : TE) (t : TA) : TE := fun σ H Q => to σ H fun x H1 => tyV K T x H1 ∧ t σ H1 fun xs H2 => r x xs H2 Q
variable {o e : Expr} {es : List Expr} {to : TE} {t : TA} {name : Str} {apos cpos : Pos} {T id : String} {r : V → List V → Hp → VK → Prop}
theorem pe_bm (pa : PlainAttrs T) (slot : Slot T name id) (hty : typeOf (.builtin id) = pure (.type "method_descriptor")) (hm : MtR X id r) (ho : PE X o to) (ha : PA X (e :: es) t)
    (hbase : attributeBase o name X.env (eval o X.env) = eval o X.env := by rfl)
    (hfew : ((backTo cpos (starEach (e :: es) X.env)).all (fun x => !x.1) && (backToKw cpos (keywordEach [] X.env)).all (fun x => x.1.isSome)
      && decide ((e :: es).length + ([] : List Keyword).length + (if ([] : List Keyword).isEmpty then 0 else 1) < 30)) = true := by rfl)
    (hline : (apos.endLine == cpos.line) = true := by rfl) (hs : starEach (e :: es) X.env = (false, eval e X.env) :: starEach es X.env := by rfl) (hplain : (backTo cpos (starEach es X.env)).any (·.1) = false := by rfl) :
    PE X (.Call (.Attribute o name apos) (e :: es) [] cpos) (tBM X.K T r to t) := by
  intro pins s σ H Q I h
  refine wpAny_Call_method_late hbase hfew hline rfl (thn (ho pins s σ H _ I h) fun v s1 ⟨x, H1, I1, r1, ty, q1⟩ => ?_)
  obtain ⟨h1, h2⟩ := tyV_is I1 r1 ty
  refine ⟨T, id, pa, slot, hty, h1, h2, ?_⟩
  have hA := ha cpos pins s1 σ H1 _ I1 q1
  rw [hs] at hA ⊢
  refine Calls.callWith_builtin (by show (false || (backTo cpos (starEach es X.env)).any (·.1)) = false; rw [hplain] <;> rfl) (Calls.evalArgs_plain ?_)
  exact thn hA fun us s2 ⟨vs, H2, I2, r2, q2⟩ => hm pins s2 σ H2 x vs v us Q I2 r1 r2 q2
end
end L2

namespace L2
open PySem PySem.Spec PyProof.Rows

def MtM (X : Cx) (id : String) (r : V → List V → Hp → VK → Prop) : Prop :=
  ∀ (pins : List (Addr × Obj)) (s : Shared) (σ : St) (H : Hp) (x : V) (xs : List V) (v : Value) (us : List Value) (Q : VK), Inv X pins σ H s → RelV x v → Vals xs us → r x xs H Q →
    wpAny (model X.prog X.w) X.A (call (.builtin id) (v :: us)) (EP X pins σ Q) X.xe s

theorem Vals.one : ∀ {x : V} {us : List Value}, Vals [x] us → ∃ u, us = [u] ∧ RelV x u
  | _, _, .cons r .nil => ⟨_, rfl, r⟩
theorem Vals.zero : ∀ {us : List Value}, Vals [] us → us = []
  | _, .nil => rfl
theorem Vals.dropLast {xs : List V} {us : List Value} (h : Vals xs us) : Vals xs.dropLast us.dropLast := by
  induction h with
  | nil => exact .nil
  | cons r t ih =>
    cases t with
    | nil => exact .nil
    | cons q t' => exact .cons r ih
theorem Vals.reverse {xs : List V} {us : List Value} (h : Vals xs us) : Vals xs.reverse us.reverse := by
  induction h with
  | nil => exact .nil
  | cons r t ih => rw [List.reverse_cons, List.reverse_cons]; exact Vals.append ih (.cons r .nil)
section
variable {X : Cx} {pins : List (Addr × Obj)} {σ : St} {H : Hp} {s : Shared} {l b : Addr} {xs ys zs : List V}

theorem Inv.lset {its its' : List Value} {n : Nat} {f : Array Value → Array Value} {t' : Nat} (I : Inv X pins σ H s) (hH : H l = some (.lst xs))
    (e : s.heap.get? l = some { cls := .type "list", data := .seq its.toArray n }) (hf : f its.toArray = its'.toArray) (hv : Vals ys its') (hz : ys.length ≤ sizeLine) :
    Inv X pins σ (upd H l (.lst ys)) { s with heap := s.heap.update l (Obj.mapSeq f), toks := t' } := by
  have q := PySem.IsL.update e f
  rw [hf] at q
  refine I.write (x := l) (e := l) (by rw [hH]; exact trivial) (.inl rfl) (fun b' u hb hu => (Heap.get?_update_other s.heap (Obj.mapSeq f) (Ne.symm hb)).trans hu) ⟨_, q⟩ ?_
  exact ⟨hz, its', _, hv, q⟩
theorem Inv.fresh (I : Inv X pins σ H s) : H s.heap.objs.size = none := I.hok.fresh (Nat.le_refl _)
theorem Inv.lstM (I : Inv X pins σ H s) (hH : H l = some (.lst xs)) : xs.length ≤ sizeLine ∧ ∃ (its : List Value) (n : Nat), Vals xs its ∧ xs.length = its.length ∧ s.heap.get? l = some { cls := .type "list", data := .seq its.toArray n } := by
  obtain ⟨z, its, n, r, e⟩ := I.hok l _ hH
  exact ⟨z, its, n, r, r.length, e⟩

end

section
variable {X : Cx}

def rAppend : V → List V → Hp → VK → Prop := fun x vs H Q => ∃ l xs y, x = .ref l ∧ vs = [y] ∧ H l = some (.lst xs) ∧ xs.length < sizeLine ∧ Q .non (upd H l (.lst (xs ++ [y])))
theorem mt_append : MtM X "list.append" rAppend := by
  intro pins s σ H x vs v us Q I rx rv h
  obtain ⟨l, xs, y, rfl, rfl, hH, hz, q⟩ := h
  cases rx
  obtain ⟨u, rfl, ru⟩ := rv.one
  obtain ⟨z, its, n, r, hl, e⟩ := I.lstM hH
  refine call_meets F.slot_list_append ⟨_, e, rfl⟩ F.entry_list_append (F.args_list_append_2 _ _) (PySem.list_append l its.toArray n u (by rw [List.size_toArray]; omega)) ⟨e, ?_⟩
  refine ⟨.non, _, I.lset (its' := its ++ [u]) hH e (by simp) (r.append (.cons ru .nil)) ?_, rfl, q⟩
  rw [List.length_append, List.length_singleton]
  omega

def rPop : V → List V → Hp → VK → Prop := fun x vs H Q => ∃ l xs y, x = .ref l ∧ vs = [] ∧ H l = some (.lst xs) ∧ xs[xs.length - 1]? = some y ∧ Q y (upd H l (.lst xs.dropLast))
def rReverse : V → List V → Hp → VK → Prop := fun x vs H Q => ∃ l xs, x = .ref l ∧ vs = [] ∧ H l = some (.lst xs) ∧ Q .non (upd H l (.lst xs.reverse))
def rRep : R2 := fun x y H Q => ∃ l k xs, x = .ref l ∧ y = .int k ∧ H l = some (.lst xs) ∧ -(2 ^ 63) ≤ k ∧ k < 2 ^ 63 ∧ xs.length * k.toNat ≤ sizeLine ∧
  ∀ p, H p = none → Q (.ref p) (upd H p (.lst (List.replicate k.toNat xs).flatten))
end

section
variable {prog : Program} {w : World} {A : Around} {E : Value → Shared → Prop} {s : Shared}
end

section
variable {X : Cx}
end
end L2

namespace Att
open PySem PySem.W PySem.Calls PyProof.Rows

theorem ints_of_wellAll {P : Params} {h : Heap} : ∀ (ns : List Int) (vs : List Value), WellAll P h vs (ns.map WData.int) → IntsAre vs ns := by
  intro ns
  induction ns with
  | nil =>
    intro vs w
    rw [List.map_nil] at w
    cases w
    exact .nil
  | cons n ns ih =>
    intro vs w
    rw [List.map_cons] at w
    cases w with
    | cons a b =>
      cases a
      exact .cons _ _ (ih _ b)

theorem script_of {l : OpenLaw} {n : Nat} (hn : l.most = some n) {P : Params} {h : Heap} {args : List WData} {vals : List Value}
    (hpre : l.row.toRowW.claim.pre args = true) (hwl : WellAll P h vals args) :
    ∃ a vs ns, vals = [Value.ref a] ∧ args = [WData.list (ns.map WData.int)] ∧ h.get? a = some { cls := .type "list", data := .seq vs.toArray } ∧ IntsAre vs ns ∧ ns.length ≤ n := by
  have hsh : WShape.hasAll [] args [.list .int] = true := (pre_splitW hpre).1
  have hc : l.pre.holds [] { args := args } = true := (pre_splitW hpre).2
  obtain ⟨d, r, rfl, h1, h2⟩ := hasAllW_cons hsh
  obtain rfl := hasAllW_nil h2
  obtain ⟨xs, rfl, h3⟩ := hasW_list h1
  obtain ⟨ns, rfl⟩ := items_int h3
  have hlen : ns.length ≤ n := by
    unfold OpenLaw.pre at hc
    have h4 : (WTm.not (.lt (.lit (.int (n : Int))) (.len (.arg 0)))).holds [] { args := [.list (ns.map .int)] } = true := by
      have h4 := (holds_andW hc).1
      rw [hn] at h4
      exact h4
    have h5 := condW_of h4 (w_not (w_lt w_lit (w_len_list (w_arg rfl))))
    rw [List.length_map] at h5
    refine Nat.le_of_not_lt fun q => ?_
    have q' : (n : Int) < ((ns.length : Nat) : Int) := by omega
    first
      | (rw [decide_eq_true q'] at h5; exact absurd h5 (by decide))
      | (simp at h5; omega)
  cases hwl with
  | cons w1 w2 =>
    cases w2
    cases w1 with
    | list ho hall => exact ⟨_, _, ns, rfl, rfl, ho, ints_of_wellAll ns _ hall, hlen⟩

theorem post_true (l : OpenLaw) (args : List WData) : l.row.toRowW.claim.post args (.bool true) args = true :=
  postW_of (r := l.row.toRowW) (X := (true == true))
    (show WShape.has [] (.bool true) .bool = true by first | rfl | decide | simp [WShape.has, WShape.arms, WShape.armsAll])
    (show (WTm.eq .res (.lit (.bool true))).value [] { args := args, res := some (.bool true), after := args } = some (.bool (true == true)) from w_eq_bool (w_res rfl) w_lit) rfl

theorem attach_call {l : OpenLaw} {n : Nat} {q : Program} {loose : List Str} {XP : (Str → Option Value) → Heap → Prop} {YP : World → Heap → Prop} {d : DefRec}
    (hn : l.most = some n) (hdf : d.params.defaults = [])
    (call : ∀ (w : World) (s₀ s₁ : Shared) (mg mb : Str → Option Value) (fa : Addr) (o : Obj) (pm cd doc : Value) (a : Addr) (vs : List Value) (ns : List Int),
      Ground q loose [] XP w s₀ mg mb s₁.heap → YP w s₁.heap →
      s₁.heap.get? fa = some o → o.data = .func (docDef d.name d.params d.body d.scope pm cd doc) → s₁.heap.CodeRec cd d.name → mg d.name = some (.ref fa) →
      s₁.heap.get? a = some { cls := .type "list", data := .seq vs.toArray } → IntsAre vs ns → ns.length ≤ n → s₁.gens = #[] →
      codeAny (model l.prog w) callerA (.call (.ref fa) ⟨[.ref a], []⟩) (fun r s' => r = .ok (.ret (.bool true)) ∧ OldK s₁.heap s'.heap ∧ s'.os = s₁.os ∧ AllBare s'.gens) s₁) :
    WalkO q loose XP YP l.row.toRowW d [] (fun f vs => PySem.call f vs) := by
  intro w s₀ s₁ mg mb G Y fa o pm cd doc dV kV ho hd hcd hD hmg hg args vals as hpre hlay hrd hwl hlo
  obtain rfl : dV = .none := Dflts.none hD hdf
  obtain rfl : kV = .none := Dflts.noKw hD
  obtain ⟨a, vs, ns, rfl, rfl, hobj, hints, hlen⟩ := script_of hn hpre hwl
  refine enter_call (codeAny_mono (call w s₀ s₁ mg mb fa o pm cd doc a vs ns G Y ho (fd_plain hd) hcd hmg hobj hints hlen hg) fun r s' hq => ?_)
  obtain ⟨rfl, h2, h3, h4⟩ := hq
  exact ⟨.inl ⟨.bool true, .bool true, [], rfl, fun _ => rfl, .bool true, post_true l _, fun _ => ⟨List.Pairwise.nil, fun _ hm => (nomatch hm)⟩⟩, h2, h3, h4⟩

section
variable {prog : Program} {w : World} {A : Around} {E : Value → Shared → Prop} {s : Shared} {K : Frag}

end
end Att

namespace L2
open PySem PySem.Spec PyProof.Rows

theorem vals_ints : ∀ {vs : List Value} {ns : List Int}, IntsAre vs ns → Vals (ns.map V.int) vs
  | _, _, .nil => .nil
  | _, _, .cons n t h => .cons ⟨t, rfl⟩ (vals_ints h)

def Only (H : Hp) : Prop := ∀ b, H b = none ∨ ∃ o xs, H b = some (.frz o (.lst xs))

theorem law_call {P : Program} {w : World} {K : PySem.W.Frag} {mg mb : Str → Option Value} {CX : CXT} {k : Nat} {fa a : Addr} {fd : FuncData} {x : Str} {sp : Sp} {s₁ : Shared} {vs : List Value} {ns : List Int}
    (KX : K.In s₁.heap) (hns : s₁.heap.Ns mainGlobals mg) (hb : s₁.heap.Ns builtinsNs mb) (hbb : ∀ x : Str, x ≠ "__name__" → mb x = bootBuiltins x) (hlim : s₁.heap.NoLimit) (hg : s₁.gens = #[])
    (ha : s₁.heap.get? a = some { cls := .type "list", data := .seq vs.toArray }) (hi : IntsAre vs ns) (hl : ns.length ≤ sizeLine) (hr : Room k callerA)
    (F : ∀ base : Heap, K.In base → base.Ns mainGlobals mg → FnOk P w K mg base CX k fa fd [x] sp) (hbind : ∀ (s : Shared) (u : Value), BindsTo s fd ⟨[u], []⟩ [(x, u)])
    (hsp : ∀ H : Hp, Only H → SqL K H a (ns.map V.int) → sp [.ref a] H (fun v _ => v = .bl true) fun _ _ _ => False)
    (hCX : ∀ H e s', CX [] H s₁ (fun _ _ _ => False) e s' → False) :
    codeAny (model P w) callerA (.call (.ref fa) ⟨[.ref a], []⟩) (fun r s' => r = .ok (.ret (.bool true)) ∧ OldK s₁.heap s'.heap ∧ s'.os = s₁.os ∧ AllBare s'.gens) s₁ := by
  have rv := vals_ints hi
  have lenV := hi.length
  -- from an abstract heap in which nothing but the script may be tracked
  have core : ∀ H : Hp, Only H → SqL K H a (ns.map V.int) → HOk P w H s₁.heap → (∀ b, H b ≠ none → b = a) → (H a ≠ none → K.lookup a = none) →
      codeAny (model P w) callerA (.call (.ref fa) ⟨[.ref a], []⟩) (fun r s' => r = .ok (.ret (.bool true)) ∧ OldK s₁.heap s'.heap ∧ s'.os = s₁.os ∧ AllBare s'.gens) s₁ := by
    intro H hO hS hok hA hK
    have base_of : ∀ {b : Addr} {o : Obj}, s₁.heap.get? b = some o → H b = none → (hidT s₁.heap H).get? b = some o := fun e n => hidT_get e n
    have noA : ∀ {b : Addr} {o : Obj} {es : Array DictEntry} {ep : Nat}, s₁.heap.get? b = some o → o.data = .dict es ep → H b = none := fun {b o es ep} e d => by
      cases q : H b with
      | none => rfl
      | some u =>
        have e' : b = a := hA b (by rw [q]; simp)
        subst e'
        rw [ha] at e; cases e
        have d' : Data.seq vs.toArray _ = Data.dict es ep := d
        cases d'
    have nsK : ∀ {b : Addr} {m : Str → Option Value}, s₁.heap.Ns b m → (hidT s₁.heap H).Ns b m := fun {b m} ⟨o, es, ep, e, d, r⟩ => ⟨o, es, ep, base_of e (noA e d), d, r⟩
    have hKb : K.In (hidT s₁.heap H) := fun b o e => base_of (KX b o e) (by
      cases q : H b with
      | none => rfl
      | some u =>
        have e' : b = a := hA b (by rw [q]; simp)
        subst e'
        rw [hK (by rw [q]; simp)] at e; cases e)
    have hM : Mod K mg (hidT s₁.heap H) := ⟨hKb, nsK hns, ⟨mb, nsK hb, hbb⟩, let ⟨mc, h1, h2⟩ := hlim; ⟨mc, nsK h1, h2⟩⟩
    have e0 : Env0 P w K mg (hidT s₁.heap H) callerA [] s₁ H := ⟨rfl, hM, fun b o e => of_hidT e, Nat.le_of_eq (hidT_size _ _), trivial, fun b hb => absurd (show b ∈ ([] : List Addr) from hb) (by simp), hok, .of_eq hg⟩
    refine codeAny_mono ((F _ hKb (nsK hns)).run callerA [] s₁ H ⟨[.ref a], []⟩ [.ref a] [.ref a] _ _ hr e0 (hbind s₁ (.ref a)) (.cons rfl .nil) (hsp H hO hS)) fun r s' h => ?_
    cases r with
    | error e => exact (hCX H e s' h).elim
    | ok fl =>
      cases fl with
      | next => exact False.elim h
      | brk => exact False.elim h
      | cont => exact False.elim h
      | ret u =>
        obtain ⟨v, H', os, bare, un, hok', r', q⟩ := h
        have q' : v = .bl true := q
        subst q'
        obtain rfl : u = Value.bool true := r'
        refine ⟨rfl, OldK.of_keep fun b o e => ?_, os, bare⟩
        cases q : H b with
        | none => exact un.keep b o e q (by intro z; exact absurd (show b ∈ ([] : List Addr) from z) (by simp)) (by simp)
        | some u =>
          rcases hO b with z | ⟨ob, xs, z⟩
          · rw [q] at z; cases z
          · have z2 := un.frzs b ob _ z
            obtain ⟨e1, _⟩ := hok b _ z
            obtain ⟨e2, _⟩ := hok' b _ z2
            rw [e] at e1; cases e1
            exact e2
  cases hk : K.lookup a with
  | some o =>
    -- the script is one of the module's own objects
    have e := KX a o hk
    rw [ha] at e
    cases e
    refine core (fun _ => none) (fun _ => .inl rfl) (.inr ⟨_, vs.toArray, _, hk, rfl, rfl, rfl, by rw [List.size_toArray, lenV]; exact hl, by simpa using rv⟩) (fun b u z => by have z' : (none : Option HO) = some u := z; cases z') (fun b z => absurd rfl z) fun z => absurd rfl z
  | none =>
    refine core (fun b => if b = a then some (.frz { cls := .type "list", data := .seq vs.toArray } (.lst (ns.map V.int))) else none) (fun b => ?_) (.inl (.inr ⟨{ cls := .type "list", data := .seq vs.toArray }, if_pos rfl⟩)) (fun b u z => ?_) (fun b z => ?_) fun _ => hk
    · by_cases hb : b = a
      · exact .inr ⟨_, _, if_pos hb⟩
      · exact .inl (if_neg hb)
    · by_cases hb : b = a
      · have z' := (if_pos hb).symm.trans z
        cases z'
        subst hb
        exact ⟨ha, by rw [List.length_map]; exact hl, vs, _, rv, ha⟩
      · have z' := (if_neg hb).symm.trans z
        cases z'
    · by_cases hb : b = a
      · exact hb
      · exact absurd (if_neg hb) z
end L2

namespace L2
open PySem PySem.Spec PyProof.Rows

theorem walk_of {l : PySem.W.OpenLaw} {n k : Nat} {q : Program} {loose : List Str} {XP : (Str → Option Value) → Heap → Prop} {YP : World → Heap → Prop} {d : DefRec} {K : Params → PySem.W.Frag} {CX : World → CXT} {sp : World → Sp} {x : Str}
    (hn : l.most = some n) (hn2 : n ≤ sizeLine) (hdf : d.params.defaults = []) (hr : Room k callerA)
    (hY : ∀ (w : World) (h : Heap), YP w h → (K w.params).In h)
    (F : ∀ (w : World) (mg : Str → Option Value) (fa : Addr) (h : Heap), (K w.params).In h → h.Ns mainGlobals mg → mg d.name = some (.ref fa) →
      ∃ fd : FuncData, (∀ (s : Shared) (u : Value), BindsTo s fd ⟨[u], []⟩ [(x, u)]) ∧
        ∀ base : Heap, (K w.params).In base → base.Ns mainGlobals mg → FnOk l.prog w (K w.params) mg base (CX w) k fa fd [x] (sp w))
    (hsp : ∀ (w : World) (H : Hp) (a : Addr) (ns : List Int), ns.length ≤ n → Only H → SqL (K w.params) H a (ns.map V.int) → sp w [.ref a] H (fun v _ => v = .bl true) fun _ _ _ => False)
    (hCX : ∀ (w : World) (H : Hp) (s : Shared) (e : Value) (s' : Shared), CX w [] H s (fun _ _ _ => False) e s' → False) :
    PySem.W.WalkO q loose XP YP l.row.toRowW d [] (fun f vs => PySem.call f vs) := by
  refine Att.attach_call hn hdf fun w s₀ s₁ mg mb fa o pm cd doc a vs ns G Y ho hd hcd hmg hobj hints hlen hg => ?_
  have KX := hY w _ Y
  obtain ⟨fd, hb, hF⟩ := F w mg fa _ KX G.T.g hmg
  exact law_call KX G.T.g G.T.b G.T.builtins G.T.nolimit hg hobj hints (Nat.le_trans hlen hn2) hr hF hb (fun H hO hS => hsp w H a ns hlen hO hS) fun H e s' => hCX w H s₁ e s'
end L2


namespace L2
open PySem PySem.Spec PyProof.Rows

def defArgs (s : Stmt) : Arguments := match s with
  | .FunctionDef _ a _ _ _ _ _ _ _ _ => a
  | _ => { posonlyargs := [], args := [], vararg := none, kwonlyargs := [], kw_defaults := [], kwarg := none, defaults := [] }
def defBody (s : Stmt) : List Stmt := match s with
  | .FunctionDef _ _ b _ _ _ _ _ _ _ => b
  | _ => []
def defScope (s : Stmt) : Scope := match s with
  | .FunctionDef _ _ _ _ _ _ sc _ _ _ => sc
  | _ => { kind := .function, names := [], isGenerator := false, isCoroutine := false }

abbrev CX0 : CXT := fun _ _ _ _ _ _ => False
abbrev E0 : XK := fun _ _ _ => False
theorem pass0 {X : Cx} : Passes CX0 X E0 := fun _ _ _ _ _ _ _ h => h.elim

structure Fun (K : PySem.W.Frag) (x qual : Str) (st : Stmt) (f : Addr) (fd : FuncData) : Prop where
  ex : ∃ (oc : Value) (od : Option Addr) (kV doc pm : Value) (an : Option Addr) (cdv ct : Value) (osl : Array (Option Value)),
    fd = PySem.W.fnOf x qual (defArgs st) (defBody st) (defScope st) .none kV doc pm an cdv ct ∧ K.lookup f = some ⟨oc, od, .func fd, osl⟩ ∧ PySem.W.codeIn K cdv qual = true
  kp : PySem.W.keepIn K (.ref f) = true
section
variable {P : Program} {w : World} {K : PySem.W.Frag} {mg : Str → Option Value} {base : Heap}
theorem Fun.ok {x qual : Str} {st : Stmt} {f : Addr} {fd : FuncData} {N ps : List Str} {k : Nat} {sp : Sp} (F : Fun K x qual st f fd) (S : FnScope N ps (defScope st)) (len : ∀ vs H Q E, sp vs H Q E → vs.length = ps.length)
    (hbody : ∀ (cdv : Value) (A : Around) (outer : List Env) (s : Shared) (H : Hp) (vs : List V) (Q : VK) (E : XK), Room k (A.deeper (envOfC qual (defScope st) s.heap.objs.size f cdv)) → sp vs H Q E →
      ∃ t, PSs (cxOf CX0 P w K mg base N qual (defScope st) f cdv A outer s H E).nox (defBody st) t ∧ t { nx := fun _ H' => Q .non H', rt := Q } (start N vs) H) : FnOk P w K mg base CX0 (k + 1) f fd ps sp := by
  obtain ⟨oc, od, kV, doc, pm, an, cdv, ct, osl, rfl, lk, hcd⟩ := F.ex
  refine fn_of lk hcd S len fun A outer s H vs Q E hr hsp => ?_
  obtain ⟨t, h, q⟩ := hbody cdv A outer s H vs Q E hr hsp
  exact ⟨t, h.nox, q⟩
theorem Fun.binds {x qual : Str} {st : Stmt} {f : Addr} {fd : FuncData} {ps : List Str} (F : Fun K x qual st f fd)
    (h : ∀ (kV doc pm : Value) (an : Option Addr) (cdv ct : Value) (us : List Value), us.length = ps.length → bindArgs (PySem.W.fnOf x qual (defArgs st) (defBody st) (defScope st) .none kV doc pm an cdv ct) ⟨us, []⟩ = pure (ps.zip us)) : Binds K fd ps [] := by
  obtain ⟨oc, od, kV, doc, pm, an, cdv, ct, osl, rfl, lk, hcd⟩ := F.ex
  exact .all (h kV doc pm an cdv ct)
theorem fun_mk {x qual : Str} {st : Stmt} {f : Addr} {oc : Value} {od an : Option Addr} {osl : Array (Option Value)} {kV doc pm cdv ct : Value} (l : K.lookup f = some ⟨oc, od, .func (PySem.W.fnOf x qual (defArgs st) (defBody st) (defScope st) .none kV doc pm an cdv ct), osl⟩)
    (c : PySem.W.codeIn K cdv qual = true) (k : PySem.W.keepIn K (.ref f) = true) : Fun K x qual st f (PySem.W.fnOf x qual (defArgs st) (defBody st) (defScope st) .none kV doc pm an cdv ct) := ⟨⟨oc, od, kV, doc, pm, an, cdv, ct, osl, rfl, l, c⟩, k⟩
end
theorem hu_of {A : Around} {k : Nat} (hr : Room k A) : A.units + 1 < cLine := Nat.lt_of_le_of_lt (Nat.add_le_add_left (by decide : 1 ≤ 64) _) hr.units
section
variable {X : Cx}
end

def Same (H H' : Hp) : Prop := ∀ b o, H b = some o → H' b = some o
theorem Same.refl (H : Hp) : Same H H := fun _ _ h => h
theorem Same.trans {H H1 H2 : Hp} (a : Same H H1) (b : Same H1 H2) : Same H H2 := fun c o h => b c o (a c o h)
theorem Same.free {H H' : Hp} (e : Same H H') {l : Addr} (h : H' l = Option.none) : H l = Option.none := by
  cases q : H l with
  | none => rfl
  | some o =>
    rw [e l o q] at h
    cases h
theorem Same.seq {K : PySem.W.Frag} {H H' : Hp} {a : Addr} {xs : List V} (e : Same H H') (h : SqL K H a xs) : SqL K H' a xs := by
  rcases h with (h | ⟨o, h⟩) | h
  · exact .inl (.inl (e _ _ h))
  · exact .inl (.inr ⟨o, e _ _ h⟩)
  · exact .inr h

end L2

set_option Elab.async false
set_option linter.all false
set_option maxRecDepth 100000
namespace L2
open PySem PySem.Spec PyProof.Rows

structure Cal (P : Program) (w : World) (K : PySem.W.Frag) (mg : Str → Option Value) (base : Heap) (CX : CXT) (x : Str) (k : Nat) (ps : List Str) (sp : Sp) : Prop where
  ex : ∃ f fd, FnOk P w K mg base CX k f fd ps sp ∧ Binds K fd ps [] ∧ PySem.W.keepIn K (.ref f) = true ∧ mg x = some (.ref f)

section
variable {X : Cx} {CX : CXT} {x : Str} {j k : Nat} {ps : List Str} {sp : Sp} {E : XK} {p pos : Pos} {e : Expr} {es : List Expr} {t : TA}
theorem pe_callX (C : Cal X.prog X.w X.K X.mg X.base CX x j ps sp) (hr : Room k X.A) (hg : Gl X x) (hx : Passes CX X E) (ha : PA X (e :: es) t) (hj : j ≤ k := by decide) (hdb : (x == ("__debug__" : Str)) = false := by decide)
    (he : starEach (e :: es) X.env = (false, eval e X.env) :: starEach es X.env := by rfl) (hpl : (backTo pos (starEach es X.env)).any (·.1) = false := by rfl) :
    PE X (.Call (.Name x p) (e :: es) [] pos) (tCall sp [] E t) := by
  obtain ⟨f, fd, F, b, kp, m⟩ := C.ex
  exact pe_call F (hr.mono hj) hg m kp b .nil hx ha hdb he hpl
theorem pe_callC (C : Cal X.prog X.w X.K X.mg X.base CX0 x j ps sp) (hr : Room k X.A) (hg : Gl X x) (ha : PA X (e :: es) t) (hj : j ≤ k := by decide) (hdb : (x == ("__debug__" : Str)) = false := by decide)
    (he : starEach (e :: es) X.env = (false, eval e X.env) :: starEach es X.env := by rfl) (hpl : (backTo pos (starEach es X.env)).any (·.1) = false := by rfl) :
    PE X (.Call (.Name x p) (e :: es) [] pos) (tCall sp [] E0 t) := pe_callX C hr hg pass0 ha hj hdb he hpl
end

inductive Kn where
  | non | bl | int | str | lst | tup | dct
def tyK (T : String) : Option Kn :=
  if T = "int" then some .int else if T = "bool" then some .bl else if T = "str" then some .str else if T = "list" then some .lst else if T = "tuple" then some .tup else none
theorem tyK_int : tyK "int" = some .int := rfl
theorem tyK_bool : tyK "bool" = some .bl := rfl
theorem tyK_str : tyK "str" = some .str := rfl
theorem tyK_list : tyK "list" = some .lst := rfl
theorem tyK_tuple : tyK "tuple" = some .tup := rfl
def isiB : Kn → Kn → Bool
  | .int, .int => true
  | .bl, .int => true
  | .bl, .bl => true
  | .str, .str => true
  | .lst, .lst => true
  | .tup, .tup => true
  | _, _ => false
def dctO (a : Addr) : HO := .ext fun h => ∃ o, h.get? a = some o ∧ o.cls = .type "dict"
def tDNewX : TE := fun _ H Q => ∀ p, H p = none → Q (.ref p) (upd H p (dctO p))
def Kd (K : PySem.W.Frag) (H : Hp) : V → Kn → Prop
  | .non, k => k = .non
  | .bl _, k => k = .bl
  | .int _, k => k = .int
  | .str _, k => k = .str
  | .ref a, k => (k = .lst ∧ ∃ xs, SqL K H a xs) ∨ (k = .tup ∧ ∃ xs, SqT K H a xs) ∨ (k = .dct ∧ H a = some (dctO a))
  | _, _ => False
def rIsi (K : PySem.W.Frag) : List V → Hp → VK → Prop := fun xs H Q => ∃ x T kt k, xs = [x, .ty T] ∧ tyK T = some kt ∧ Kd K H x k ∧ Q (.bl (isiB k kt)) H
theorem tyK_some {T : String} {kt : Kn} (h : tyK T = some kt) : (T = "int" ∧ kt = .int) ∨ (T = "bool" ∧ kt = .bl) ∨ (T = "str" ∧ kt = .str) ∨ (T = "list" ∧ kt = .lst) ∨ (T = "tuple" ∧ kt = .tup) := by
  unfold tyK at h
  split at h
  · next e => exact .inl ⟨e, (Option.some.inj h).symm⟩
  split at h
  · next e => exact .inr (.inl ⟨e, (Option.some.inj h).symm⟩)
  split at h
  · next e => exact .inr (.inr (.inl ⟨e, (Option.some.inj h).symm⟩))
  split at h
  · next e => exact .inr (.inr (.inr (.inl ⟨e, (Option.some.inj h).symm⟩)))
  split at h
  · next e => exact .inr (.inr (.inr (.inr ⟨e, (Option.some.inj h).symm⟩)))
  · cases h
section
variable {X : Cx}
theorem call_isi : CallR X (.builtin "isinstance") (rIsi X.K) := by
  intro pins s σ H xs us Q I r h
  obtain ⟨x, T, kt, k, rfl, ht, hk, q⟩ := h
  obtain ⟨u, w', rfl, rx, rt⟩ := vals2 r
  obtain rfl : w' = Value.type T := rt
  have f1 : EP X pins σ Q (.bool (isiB k kt)) s := ⟨.bl _, H, I, rfl, q⟩
  have f2 : EP X pins σ Q (.bool (isiB k kt)) { s with toks := s.toks + 1 } := ⟨.bl _, H, I.tok _, rfl, q⟩
  have hT := tyK_some ht
  clear ht q
  cases x with
  | non =>
    obtain rfl : u = Value.none := rx
    obtain rfl : k = .non := hk
    rcases hT with ⟨rfl, rfl⟩ | ⟨rfl, rfl⟩ | ⟨rfl, rfl⟩ | ⟨rfl, rfl⟩ | ⟨rfl, rfl⟩
    · exact IsiPair.NoneType_int f2
    · exact IsiPair.NoneType_bool f2
    · exact IsiPair.NoneType_str f2
    · exact IsiPair.NoneType_list f2
    · exact IsiPair.NoneType_tuple f2
  | bl b =>
    obtain rfl : u = Value.bool b := rx
    obtain rfl : k = .bl := hk
    rcases hT with ⟨rfl, rfl⟩ | ⟨rfl, rfl⟩ | ⟨rfl, rfl⟩ | ⟨rfl, rfl⟩ | ⟨rfl, rfl⟩
    · first | exact IsiPair.bool_int f1 | exact IsiPair.bool_int f2
    · exact IsiPair.bool_bool f1
    · exact IsiPair.bool_str f2
    · exact IsiPair.bool_list f2
    · exact IsiPair.bool_tuple f2
  | int i =>
    obtain ⟨t, rfl⟩ := rx
    obtain rfl : k = .int := hk
    rcases hT with ⟨rfl, rfl⟩ | ⟨rfl, rfl⟩ | ⟨rfl, rfl⟩ | ⟨rfl, rfl⟩ | ⟨rfl, rfl⟩
    · exact IsiPair.int_int f1
    · exact IsiPair.int_bool f2
    · exact IsiPair.int_str f2
    · exact IsiPair.int_list f2
    · exact IsiPair.int_tuple f2
  | str z =>
    obtain ⟨t, rfl⟩ := rx
    obtain rfl : k = .str := hk
    rcases hT with ⟨rfl, rfl⟩ | ⟨rfl, rfl⟩ | ⟨rfl, rfl⟩ | ⟨rfl, rfl⟩ | ⟨rfl, rfl⟩
    · exact IsiPair.str_int f2
    · exact IsiPair.str_bool f2
    · exact IsiPair.str_str f1
    · exact IsiPair.str_list f2
    · exact IsiPair.str_tuple f2
  | ref a =>
    obtain rfl : u = Value.ref a := rx
    rcases hk with ⟨rfl, xs, hq⟩ | ⟨rfl, xs, hq⟩ | ⟨rfl, hq⟩
    · obtain ⟨its, _, ⟨o, n, e, c, _, _⟩, _⟩ := I.list hq
      rcases hT with ⟨rfl, rfl⟩ | ⟨rfl, rfl⟩ | ⟨rfl, rfl⟩ | ⟨rfl, rfl⟩ | ⟨rfl, rfl⟩
      · exact IsiPair.list_int e c f2
      · exact IsiPair.list_bool e c f2
      · exact IsiPair.list_str e c f2
      · exact IsiPair.list_list e c f1
      · exact IsiPair.list_tuple e c f2
    · obtain ⟨its, _, ⟨o, e, c, _⟩, _⟩ := I.tuple hq
      rcases hT with ⟨rfl, rfl⟩ | ⟨rfl, rfl⟩ | ⟨rfl, rfl⟩ | ⟨rfl, rfl⟩ | ⟨rfl, rfl⟩
      · exact IsiPair.tuple_int e c f2
      · exact IsiPair.tuple_bool e c f2
      · exact IsiPair.tuple_str e c f2
      · exact IsiPair.tuple_list e c f2
      · exact IsiPair.tuple_tuple e c f1
    · obtain ⟨⟨o, e, c⟩, _⟩ := I.hok a _ hq
      rcases hT with ⟨rfl, rfl⟩ | ⟨rfl, rfl⟩ | ⟨rfl, rfl⟩ | ⟨rfl, rfl⟩ | ⟨rfl, rfl⟩
      · exact IsiPair.dict_int e c f2
      · exact IsiPair.dict_bool e c f2
      · exact IsiPair.dict_str e c f2
      · exact IsiPair.dict_list e c f2
      · exact IsiPair.dict_tuple e c f2
  | _ => exact False.elim hk
end

def Itr2 (lo : Int) (n : Nat) : It := ⟨fun i _ => i < n, fun i H x H' => H' = H ∧ x = .int (lo + i * 2), fun i _ => n ≤ i⟩
section
variable {X : Cx} {tg : Expr}
def iRng3 (ta : TA) : TI := fun σ H R => ta σ H fun vs H1 => ∃ i j : Int, vs = [.int i, .int j, .int 2] ∧ (-(2 ^ 60) ≤ i ∧ i < 2 ^ 60 ∧ -(2 ^ 60) ≤ j ∧ j < 2 ^ 60) ∧ R (Itr2 i ((j - i + 1) / 2).toNat) H1
end
def ForW (J : It) (g : TG) (tb : TS) (D : Ends) (σ : St) (H : Hp) : Prop := ∃ W : Nat → Nat → St → Hp → Prop, (∃ m, W 0 m σ H) ∧ ∀ i m σ H, W i m σ H →
  (J.stop i H ∧ D.nx σ H) ∨ (J.go i H ∧ ∃ N : St → Hp → Prop, (∀ σ' H', N σ' H' → ∃ m', m' < m ∧ W (i + 1) m' σ' H') ∧ ∀ x H', J.yld i H x H' → g x σ H' fun σ2 H2 => tb { D with nx := N, ct := N, bk := D.nx } σ2 H2)
theorem tFor_eq {wi : TI} {g : TG} {tb : TS} {D : Ends} {σ : St} {H : Hp} : tFor wi g tb D σ H = wi σ H fun J H1 => ForW J g tb D σ H1 := rfl
section
variable {K : PySem.W.Frag} {a : Addr} {xs : List V} {g : TG} {tb : TS} {D : Ends} {σ : St} {H : Hp} {lo : Int} {n : Nat}
theorem forW_range (Pv : Nat → St → Hp → Prop) (h0 : Pv 0 σ H)
    (hs : ∀ i σ H, i < n → Pv i σ H → g (.int (lo + i)) σ H fun σ2 H2 => tb { D with nx := Pv (i + 1), ct := Pv (i + 1), bk := D.nx } σ2 H2) (hd : ∀ σ H, Pv n σ H → D.nx σ H) : ForW (Itr lo n) g tb D σ H := for_range Pv h0 hs hd
end

structure Bits (n : Nat) (i : Int) : Prop where
  lt : i.natAbs < 2 ^ n
theorem Bits.mono {m n : Nat} {i : Int} (h : Bits m i) (le : m ≤ n) : Bits n i := ⟨Nat.lt_of_lt_of_le h.lt (Nat.pow_le_pow_right (by decide) le)⟩
theorem Bits.add {n : Nat} {i j : Int} (h : Bits n i) (h' : Bits n j) : Bits (n + 1) (i + j) := ⟨by
  have := Int.natAbs_add_le i j
  have := h.lt
  have := h'.lt
  rw [Nat.pow_succ]
  omega⟩
theorem Bits.neg {n : Nat} {i : Int} (h : Bits n i) : Bits n (-i) := ⟨by rw [Int.natAbs_neg]; exact h.lt⟩
theorem Bits.sub {n : Nat} {i j : Int} (h : Bits n i) (h' : Bits n j) : Bits (n + 1) (i - j) := by
  rw [Int.sub_eq_add_neg]
  exact h.add h'.neg
theorem Bits.of {n : Nat} {i b : Int} (lo : -b ≤ i) (hi : i ≤ b) (hb : b < ((2 ^ n : Nat) : Int)) : Bits n i := ⟨by omega⟩
theorem Bits.bits {n : Nat} {i : Int} (h : Bits n i) : Builtin.Int.intBits i ≤ n := by
  unfold Builtin.Int.intBits
  split
  · exact Nat.zero_le _
  · have q := h.lt
    rcases Nat.eq_zero_or_pos i.natAbs with h0 | hp
    · rw [h0] at q ⊢
      have : (0 : Nat).log2 = 0 := by decide
      rename_i hz
      exact absurd (by simp; omega) hz
    · have := (Nat.log2_lt (Nat.ne_of_gt hp)).mpr q
      omega
def CMulB (i j : Int) : Prop := Bits 100000 i ∧ Bits 100000 j
theorem CMulB.ok {i j : Int} (h : CMulB i j) : IntMulOk i j := IntMulOk.of_bits (Nat.le_trans h.1.bits (by decide)) (Nat.le_trans h.2.bits (by decide))
def CDivB (_ j : Int) : Prop := 0 < j ∧ Bits 8999 j
theorem CDivB.ok {i j : Int} (h : CDivB i j) : Builtin.divisionGoesByPylong i j = false := by
  refine PyProof.noPylong_of_log2 ?_
  have q := h.2.lt
  have := (Nat.log2_lt (n := j.natAbs) (k := 8999) (by have := h.1; omega)).mpr q
  omega
section
variable {X : Cx}
theorem op_mulB : OpR X (binaryOp .Mult) (rI CMulB fun i j => .int (i * j)) := opI fun _ _ _ _ _ _ _ hc q => mul_int q hc.ok
theorem op_fdivB : OpR X (binaryOp .FloorDiv) (rI CDivB fun i j => .int (i / j)) := opI fun i j _ _ _ _ _ hc q => by
  have h1 : (0 : Int) < j := hc.1
  exact floordiv_int (by omega) (by rw [Int.fdiv_eq_ediv_of_nonneg i (by omega)]; exact q) (.inl hc.ok)
def tMenu (t : TA) (ti : TE) : TE := fun σ H Q => t σ H fun xs H1 => xs.length ≤ sizeLine ∧ ti σ H1 fun y H2 => ∃ i v, y = .int i ∧ 0 ≤ i ∧ xs[i.toNat]? = some v ∧ Q v H2
end
section
variable {X : Cx} {es : List Expr} {b : Expr} {t : TA} {ti : TE} {pos p2 : Pos}
end
theorem isi_non_bl : isiB .non .bl = false := rfl
theorem isi_non_int : isiB .non .int = false := rfl
theorem isi_non_str : isiB .non .str = false := rfl
theorem isi_non_lst : isiB .non .lst = false := rfl
theorem isi_non_tup : isiB .non .tup = false := rfl
theorem isi_bl_bl : isiB .bl .bl = true := rfl
theorem isi_bl_int : isiB .bl .int = true := rfl
theorem isi_bl_str : isiB .bl .str = false := rfl
theorem isi_bl_lst : isiB .bl .lst = false := rfl
theorem isi_bl_tup : isiB .bl .tup = false := rfl
theorem isi_int_bl : isiB .int .bl = false := rfl
theorem isi_int_int : isiB .int .int = true := rfl
theorem isi_int_str : isiB .int .str = false := rfl
theorem isi_int_lst : isiB .int .lst = false := rfl
theorem isi_int_tup : isiB .int .tup = false := rfl
theorem isi_str_bl : isiB .str .bl = false := rfl
theorem isi_str_int : isiB .str .int = false := rfl
theorem isi_str_str : isiB .str .str = true := rfl
theorem isi_str_lst : isiB .str .lst = false := rfl
theorem isi_str_tup : isiB .str .tup = false := rfl
theorem isi_lst_bl : isiB .lst .bl = false := rfl
theorem isi_lst_int : isiB .lst .int = false := rfl
theorem isi_lst_str : isiB .lst .str = false := rfl
theorem isi_lst_lst : isiB .lst .lst = true := rfl
theorem isi_lst_tup : isiB .lst .tup = false := rfl
theorem isi_tup_bl : isiB .tup .bl = false := rfl
theorem isi_tup_int : isiB .tup .int = false := rfl
theorem isi_tup_str : isiB .tup .str = false := rfl
theorem isi_tup_lst : isiB .tup .lst = false := rfl
theorem isi_tup_tup : isiB .tup .tup = true := rfl
theorem isi_dct_bl : isiB .dct .bl = false := rfl
theorem isi_dct_int : isiB .dct .int = false := rfl
theorem isi_dct_str : isiB .dct .str = false := rfl
theorem isi_dct_lst : isiB .dct .lst = false := rfl
theorem isi_dct_tup : isiB .dct .tup = false := rfl
theorem Kd_non {K : PySem.W.Frag} {H : Hp} {k : Kn} : Kd K H .non k = (k = .non) := rfl
theorem Kd_bl {K : PySem.W.Frag} {H : Hp} {k : Kn} {b : Bool} : Kd K H (.bl b) k = (k = .bl) := rfl
theorem Kd_int {K : PySem.W.Frag} {H : Hp} {k : Kn} {i : Int} : Kd K H (.int i) k = (k = .int) := rfl
theorem Kd_str {K : PySem.W.Frag} {H : Hp} {k : Kn} {z : Str} : Kd K H (.str z) k = (k = .str) := rfl
theorem Kd.tup {K : PySem.W.Frag} {H : Hp} {a : Addr} {xs : List V} (h : SqT K H a xs) : Kd K H (.ref a) .tup := .inr (.inl ⟨rfl, xs, h⟩)
theorem Kd.lst {K : PySem.W.Frag} {H : Hp} {a : Addr} {xs : List V} (h : SqL K H a xs) : Kd K H (.ref a) .lst := .inl ⟨rfl, xs, h⟩
theorem Kd.dct {K : PySem.W.Frag} {H : Hp} {a : Addr} (h : H a = some (dctO a)) : Kd K H (.ref a) .dct := .inr (.inr ⟨rfl, h⟩)
theorem Kd.ref {K : PySem.W.Frag} {H : Hp} {a : Addr} {k : Kn} (h : Kd K H (.ref a) k) : k ≠ .int ∧ k ≠ .bl ∧ k ≠ .str ∧ k ≠ .non := by
  rcases h with ⟨rfl, _⟩ | ⟨rfl, _⟩ | ⟨rfl, _⟩ <;> exact ⟨(by intro z; cases z), (by intro z; cases z), (by intro z; cases z), (by intro z; cases z)⟩
theorem sc_non_non : scal .non .non = true := rfl
theorem sc_non_int {x2 : Int} : scal .non (.int x2) = true := rfl
theorem sc_int_non {x1 : Int} : scal (.int x1) .non = true := rfl
theorem sc_non_bl {x2 : Bool} : scal .non (.bl x2) = true := rfl
theorem sc_bl_non {x1 : Bool} : scal (.bl x1) .non = true := rfl
theorem sc_non_str {x2 : Str} : scal .non (.str x2) = true := rfl
theorem sc_str_non {x1 : Str} : scal (.str x1) .non = true := rfl
theorem sc_int_int {x1 : Int} {x2 : Int} : scal (.int x1) (.int x2) = true := rfl
theorem sc_bl_bl {x1 : Bool} {x2 : Bool} : scal (.bl x1) (.bl x2) = true := rfl
theorem sc_str_str {x1 : Str} {x2 : Str} : scal (.str x1) (.str x2) = true := rfl
theorem sc_int_str {x1 : Int} {x2 : Str} : scal (.int x1) (.str x2) = true := rfl
theorem sc_str_int {x1 : Str} {x2 : Int} : scal (.str x1) (.int x2) = true := rfl
theorem sc_bl_str {x1 : Bool} {x2 : Str} : scal (.bl x1) (.str x2) = true := rfl
theorem sc_str_bl {x1 : Str} {x2 : Bool} : scal (.str x1) (.bl x2) = true := rfl
theorem cxK {CX : CXT} {P : Program} {w : World} {K : PySem.W.Frag} {mg : Str → Option Value} {base : Heap} {N : List Str} {qual : Str} {scope : Scope} {f : Addr} {cd : Value} {A : Around} {outer : List Env} {s : Shared} {H : Hp} {E : XK} :
    (cxOf CX P w K mg base N qual scope f cd A outer s H E).K = K := rfl
theorem b_len : bootBuiltins "len" = some (.builtin "len") := by decide +kernel
theorem b_isinstance : bootBuiltins "isinstance" = some (.builtin "isinstance") := by decide +kernel
theorem b_list : bootBuiltins "list" = some (.type "list") := by decide +kernel
theorem b_tuple : bootBuiltins "tuple" = some (.type "tuple") := by decide +kernel
theorem b_ValueError : bootBuiltins "ValueError" = some (.type "ValueError") := by decide +kernel
structure Mg (mg : Str → Option Value) : Prop where
  m_len : mg "len" = none
  m_range : mg "range" = none
  m_abs : mg "abs" = none
  m_max : mg "max" = none
  m_min : mg "min" = none
  m_isinstance : mg "isinstance" = none
  m_int : mg "int" = none
  m_bool : mg "bool" = none
  m_str : mg "str" = none
  m_list : mg "list" = none
  m_tuple : mg "tuple" = none
  m_sum : mg "sum" = none
  m_all : mg "all" = none
  m_enumerate : mg "enumerate" = none
  m_zip : mg "zip" = none
  m_ValueError : mg "ValueError" = none
  m_any : mg "any" = none
  m_set : mg "set" = none
  m_sorted : mg "sorted" = none
end L2

set_option Elab.async false
set_option linter.all false
set_option maxRecDepth 100000
set_option maxHeartbeats 1000000
namespace L2
open PySem PySem.Spec PyProof.Rows
section
variable {prog : Program} {w : World} {A : Around} {R : Result → Shared → Prop} {s : Shared}
end

def tYes : TT := fun _ H Q => Q true H
def slots (ix : List Nat) (σ : St) : St := ix.map fun j => (σ[j]?).getD none
def compW (D : Addr) (J : It) (g : TG) (tt : TT) (te : TE) (Q : VK) (W : Nat → Nat → St → Hp → Prop) : Prop :=
  ∀ i m τ H2, W i m τ H2 → (J.stop i H2 ∧ Q (.ref D) H2) ∨ (J.go i H2 ∧ ∀ x H3, J.yld i H2 x H3 → g x τ H3 fun τ' H3' => tt τ' H3' fun b H4 =>
    if b = true then te τ' H4 fun v H5 => ∃ ys, H5 D = some (.lst ys) ∧ ys.length < sizeLine ∧ ∃ m', m' < m ∧ W (i + 1) m' τ' (upd H5 D (.lst (ys ++ [v]))) else ∃ m', m' < m ∧ W (i + 1) m' τ' H4)
def tComp (ix : List Nat) (nl : Nat) (wi : TI) (g : TG) (tt : TT) (te : TE) : TE := fun σ H Q => wi σ H fun J H1 => ∀ D, H1 D = none →
  ∃ W : Nat → Nat → St → Hp → Prop, (∃ m, W 0 m (slots ix σ ++ List.replicate nl none) (upd H1 D (.lst []))) ∧ compW D J g tt te Q W

structure CompOk (X : Cx) (scope : Scope) (cl : List (Str × Addr)) (N' : List Str) (ix : List Nat) (nl : Nat) : Prop where
  clos : closureFor scope X.env = pure cl
  sub : ∀ y c, cl.lookup y = some c → X.env.cells.lookup y = some c
  has : ∀ p ∈ (relabel scope X.env).names, (p.2 = .cell ∨ p.2 = .free) → (cl.lookup p.1).isSome = true
  cell : ∀ y ∈ scope.names, y.2 ≠ .cell
  kind : scope.kind = .function
  names : ∀ y ∈ scope.names, y.2 = .local → scope.names.lookup y.1 = some .local
  len : N'.length = ix.length + nl
  out : ∀ (i j : Nat) (y : Str), ix[i]? = some j → N'[i]? = some y → X.N[j]? = some y ∧ (X.env.kindOf y = some .cell ∨ X.env.kindOf y = some .free) ∧ ((relabel scope X.env).names.lookup y = some .cell ∨ (relabel scope X.env).names.lookup y = some .free)

def OutsOk (X : Cx) (scope : Scope) : List Nat → List Str → Prop
  | [], _ => True
  | j :: r, y :: t => (X.N[j]? = some y ∧ (X.env.kindOf y = some .cell ∨ X.env.kindOf y = some .free) ∧ ((relabel scope X.env).names.lookup y = some .cell ∨ (relabel scope X.env).names.lookup y = some .free)) ∧ OutsOk X scope r t
  | _ :: _, [] => False
theorem OutsOk.at {X : Cx} {scope : Scope} : ∀ {ix : List Nat} {N : List Str}, OutsOk X scope ix N → ∀ (i j : Nat) (y : Str), ix[i]? = some j → N[i]? = some y → X.N[j]? = some y ∧ (X.env.kindOf y = some .cell ∨ X.env.kindOf y = some .free) ∧ ((relabel scope X.env).names.lookup y = some .cell ∨ (relabel scope X.env).names.lookup y = some .free)
  | [], _, _, i, j, y, h1, _ => by simp at h1
  | _ :: _, [], h, _, _, _, _, _ => h.elim
  | _ :: _, _ :: _, h, 0, j, y, h1, h2 => by
    simp at h1 h2
    subst h1 h2
    exact h.1
  | _ :: _, _ :: _, h, i + 1, j, y, h1, h2 => OutsOk.at h.2 i j y (by simpa using h1) (by simpa using h2)
theorem CompOk.make {X : Cx} {scope : Scope} {cl : List (Str × Addr)} {N' : List Str} {ix : List Nat} {nl : Nat} (clos : closureFor scope X.env = pure cl) (sub : ∀ p ∈ cl, X.env.cells.lookup p.1 = some p.2)
    (has : ((relabel scope X.env).names.all fun p => !(p.2 == .cell || p.2 == .free) || (cl.lookup p.1).isSome) = true) (cell : ∀ y ∈ scope.names, y.2 ≠ .cell) (kind : scope.kind = .function)
    (names : ∀ y ∈ scope.names, y.2 = .local → scope.names.lookup y.1 = some .local) (len : N'.length = ix.length + nl) (out : OutsOk X scope ix N') : CompOk X scope cl N' ix nl :=
  ⟨clos, fun y c h => sub (y, c) (PySem.mem_of_lookup h), fun p hp hc => by
    have q := List.all_eq_true.mp has p hp
    rcases hc with e | e <;> (rw [e] at q; simpa using q), cell, kind, names, len, out.at⟩

section
variable {X : Cx} {pins : List (Addr × Obj)} {σ : St} {H : Hp} {s : Shared}
end

section
variable {X : Cx} {elt iter tg : Expr} {ifs : List Expr} {scope : Scope} {pos : Pos} {cl : List (Str × Addr)} {N' : List Str} {ix : List Nat} {nl : Nat} {wi : TI} {g : TG} {tt : TT} {te : TE}
structure Left (X : Cx) (pins : List (Addr × Obj)) (σ : St) (C : Addr) (H : Hp) (s : Shared) : Prop where
  inv : Inv X pins σ H s
  ns : ∃ m, s.heap.Ns C m
  sz : X.s₀.heap.objs.size ≤ C
  loc : C ≠ X.env.locals
  cel : ∀ x c, X.env.cells.lookup x = some c → c ≠ C
  pin : ∀ p ∈ X.pn ++ pins, p.1 ≠ C
  non : H C = none
end
end L2

set_option Elab.async false
set_option linter.all false
set_option maxRecDepth 100000
set_option maxHeartbeats 1000000
namespace L2
open PySem PySem.Spec PyProof.Rows
theorem all_range_eq (ns ms : List Int) : (((List.range (min ns.length ms.length)).all fun j => ns.getD j 0 == ms.getD j 0) && ns.length == ms.length) = decide (ns = ms) := by
  by_cases h : ns = ms
  · subst h
    simp
  · rw [decide_eq_false h]
    by_cases hl : ns.length = ms.length
    · have : ∃ j, j < ns.length ∧ ns.getD j 0 ≠ ms.getD j 0 := by
        apply Classical.byContradiction
        intro no
        apply h
        apply List.ext_getElem hl
        intro i h1 h2
        apply Classical.byContradiction
        intro ne
        apply no
        refine ⟨i, h1, ?_⟩
        simpa [List.getD, h1, h2] using ne
      obtain ⟨j, hj, ne⟩ := this
      have : ((List.range (min ns.length ms.length)).all fun j => ns.getD j 0 == ms.getD j 0) = false := by
        rw [List.all_eq_false]
        refine ⟨j, by simp; omega, by simpa using ne⟩
      rw [this]
      rfl
    · have : (ns.length == ms.length) = false := by simpa using hl
      rw [this, Bool.and_false]
def okV : V → Bool
  | .ref _ => true
  | x => flatV x
theorem eqV_self {x : V} (h : flatV x = true) : eqV x x = true := by
  cases x with
  | non => rfl
  | bl b => simp [eqV]
  | int i => simp [eqV]
  | str z => simp [eqV]
  | byt b => exact absurd (show false = true from h) Bool.false_ne_true
  | flt b => exact absurd (show false = true from h) Bool.false_ne_true
  | ref a => exact absurd (show false = true from h) Bool.false_ne_true
  | ty n => exact absurd (show false = true from h) Bool.false_ne_true
theorem eqAt_same {A : Around} {s : Shared} {x : V} {u v : Value} (ru : RelV x u) (rv : RelV x v) (h : okV x = true) : SeqAt.EqAt A s u v true := by
  cases x with
  | ref a =>
    obtain rfl : u = Value.ref a := ru
    obtain rfl : v = Value.ref a := rv
    exact SeqAt.EqAt.same _
  | non => have := eqAt_V (A := A) (s := s) ru rv rfl rfl; rwa [eqV_self rfl] at this
  | bl b => have := eqAt_V (A := A) (s := s) ru rv rfl rfl; rwa [eqV_self rfl] at this
  | int i => have := eqAt_V (A := A) (s := s) ru rv rfl rfl; rwa [eqV_self rfl] at this
  | str z => have := eqAt_V (A := A) (s := s) ru rv rfl rfl; rwa [eqV_self rfl] at this
  | byt b => exact absurd (show false = true from h) Bool.false_ne_true
  | flt b => exact absurd (show false = true from h) Bool.false_ne_true
  | ty n => exact absurd (show false = true from h) Bool.false_ne_true
def TwoSq (K : PySem.W.Frag) (H : Hp) (a b : Addr) (xs ys : List V) : Prop := (SqL K H a xs ∧ SqL K H b ys) ∨ (SqT K H a xs ∧ SqT K H b ys)
def rEqS (K : PySem.W.Frag) (neg : Bool) : R2 := fun x y H Q => ∃ a b, x = .ref a ∧ y = .ref b ∧
  ((∃ xs, TwoSq K H a b xs xs ∧ xs.all okV = true ∧ Q (.bl (!neg)) H) ∨ (∃ ns ms : List Int, TwoSq K H a b (ns.map V.int) (ms.map V.int) ∧ Q (.bl (if neg then !decide (ns = ms) else decide (ns = ms))) H))
theorem vals_at {xs : List V} {its : List Value} (r : Vals xs its) {j : Nat} (h : j < its.length) : ∃ x, xs[j]? = some x ∧ RelV x its[j] := by
  have hl := r.length
  have hj : j < xs.length := by omega
  obtain ⟨u, e, rv⟩ := r.get (i := j) (x := xs[j]) (by simp [hj])
  have e2 : its[j]? = some its[j] := by simp [h]
  rw [e2] at e
  cases e
  exact ⟨xs[j], by simp [hj], rv⟩
theorem eqAt_all {A : Around} {s : Shared} {xs : List V} {i1 i2 : List Value} (r1 : Vals xs i1) (r2 : Vals xs i2) (h : xs.all okV = true) : ∀ j (h1 : j < i1.toArray.size) (h2 : j < i2.toArray.size), SeqAt.EqAt A s i1.toArray[j] i2.toArray[j] true := by
  intro j h1 h2
  rw [List.size_toArray] at h1 h2
  obtain ⟨x, e1, v1⟩ := vals_at r1 h1
  obtain ⟨y, e2, v2⟩ := vals_at r2 h2
  rw [e1] at e2
  cases e2
  have ok := List.all_eq_true.mp h x (List.mem_of_getElem? e1)
  simpa using eqAt_same (A := A) (s := s) v1 v2 ok
theorem eqAt_ints {A : Around} {s : Shared} {ns ms : List Int} {i1 i2 : List Value} (r1 : Vals (ns.map V.int) i1) (r2 : Vals (ms.map V.int) i2) : ∀ j (h1 : j < i1.toArray.size) (h2 : j < i2.toArray.size), SeqAt.EqAt A s i1.toArray[j] i2.toArray[j] (ns.getD j 0 == ms.getD j 0) := by
  intro j h1 h2
  rw [List.size_toArray] at h1 h2
  obtain ⟨x, e1, v1⟩ := vals_at r1 h1
  obtain ⟨y, e2, v2⟩ := vals_at r2 h2
  have l1 : j < ns.length := by have := r1.length; rw [List.length_map] at this; omega
  have l2 : j < ms.length := by have := r2.length; rw [List.length_map] at this; omega
  rw [List.getElem?_map, List.getElem?_eq_getElem l1] at e1
  rw [List.getElem?_map, List.getElem?_eq_getElem l2] at e2
  cases e1
  cases e2
  have := eqAt_V (A := A) (s := s) v1 v2 rfl rfl
  simpa [List.getD, l1, l2, eqV] using this
section
variable {X : Cx}
theorem op_eqS (hu : X.A.units < cLine) : OpR X (compareOp .Eq) (rEqS X.K false) := by
  intro pins s σ H x y v u Q I rx ry h
  obtain ⟨a, b, rfl, rfl, h⟩ := h
  obtain rfl : v = Value.ref a := rx
  obtain rfl : u = Value.ref b := ry
  rcases h with ⟨xs, tw, ok, q⟩ | ⟨ns, ms, tw, q⟩
  · have fin : EP X pins σ Q (.bool true) s := ⟨.bl true, H, I, rfl, q⟩
    rcases tw with ⟨h1, h2⟩ | ⟨h1, h2⟩
    · obtain ⟨i1, r1, p1, _⟩ := I.list h1
      obtain ⟨i2, r2, p2, _⟩ := I.list h2
      have e : ((List.range i1.toArray.size).all fun _ => true) = true := by simp
      exact SeqAt.eq_listAt (e := fun _ => true) p1.isList p2.isList (by rw [List.size_toArray, List.size_toArray, ← r1.length, ← r2.length]) hu (eqAt_all r1 r2 ok) (by rw [e]; exact fin)
    · obtain ⟨i1, r1, p1, _⟩ := I.tuple h1
      obtain ⟨i2, r2, p2, _⟩ := I.tuple h2
      have e : (((List.range (min i1.toArray.size i2.toArray.size)).all fun _ => true) && i1.toArray.size == i2.toArray.size) = true := by
        rw [List.size_toArray, List.size_toArray, ← r1.length, ← r2.length]
        simp
      exact SeqAt.eq_tupleAt (e := fun _ => true) p1 p2 hu (eqAt_all r1 r2 ok) (by rw [e]; exact fin)
  · have fin : EP X pins σ Q (.bool (decide (ns = ms))) s := ⟨.bl _, H, I, rfl, q⟩
    rcases tw with ⟨h1, h2⟩ | ⟨h1, h2⟩
    · obtain ⟨i1, r1, p1, _⟩ := I.list h1
      obtain ⟨i2, r2, p2, _⟩ := I.list h2
      have n1 : i1.toArray.size = ns.length := by rw [List.size_toArray, ← r1.length, List.length_map]
      have n2 : i2.toArray.size = ms.length := by rw [List.size_toArray, ← r2.length, List.length_map]
      have key := all_range_eq ns ms
      by_cases hl : ns.length = ms.length
      · refine SeqAt.eq_listAt (e := fun j => ns.getD j 0 == ms.getD j 0) p1.isList p2.isList (by rw [n1, n2, hl]) hu (eqAt_ints r1 r2) ?_
        rw [n1]
        rw [hl, Nat.min_self, beq_self_eq_true, Bool.and_true] at key
        rw [hl, key]
        exact fin
      · refine SeqAt.eq_list_lengthsAt p1.isList p2.isList (by rw [n1, n2]; simpa using hl) hu ?_
        rw [decide_eq_false (fun e => hl (by rw [e]))] at fin
        exact fin
    · obtain ⟨i1, r1, p1, _⟩ := I.tuple h1
      obtain ⟨i2, r2, p2, _⟩ := I.tuple h2
      have n1 : i1.toArray.size = ns.length := by rw [List.size_toArray, ← r1.length, List.length_map]
      have n2 : i2.toArray.size = ms.length := by rw [List.size_toArray, ← r2.length, List.length_map]
      refine SeqAt.eq_tupleAt (e := fun j => ns.getD j 0 == ms.getD j 0) p1 p2 hu (eqAt_ints r1 r2) ?_
      rw [n1, n2, all_range_eq]
      exact fin
theorem op_neS (hu : X.A.units < cLine) : OpR X (compareOp .NotEq) (rEqS X.K true) := by
  intro pins s σ H x y v u Q I rx ry h
  obtain ⟨a, b, rfl, rfl, h⟩ := h
  obtain rfl : v = Value.ref a := rx
  obtain rfl : u = Value.ref b := ry
  rcases h with ⟨xs, tw, ok, q⟩ | ⟨ns, ms, tw, q⟩
  · have fin : EP X pins σ Q (.bool false) s := ⟨.bl false, H, I, rfl, q⟩
    rcases tw with ⟨h1, h2⟩ | ⟨h1, h2⟩
    · obtain ⟨i1, r1, p1, _⟩ := I.list h1
      obtain ⟨i2, r2, p2, _⟩ := I.list h2
      have e : (!(List.range i1.toArray.size).all fun _ => true) = false := by simp
      exact SeqAt.RcNeAt.lists (e := fun _ => true) p1.isList p2.isList (by rw [List.size_toArray, List.size_toArray, ← r1.length, ← r2.length]) hu (eqAt_all r1 r2 ok) _ _ _ _ (by rw [e]; exact fin)
    · obtain ⟨i1, r1, p1, _⟩ := I.tuple h1
      obtain ⟨i2, r2, p2, _⟩ := I.tuple h2
      have e : (!(((List.range (min i1.toArray.size i2.toArray.size)).all fun _ => true) && i1.toArray.size == i2.toArray.size)) = false := by
        rw [List.size_toArray, List.size_toArray, ← r1.length, ← r2.length]
        simp
      exact SeqAt.RcNeAt.tuples (e := fun _ => true) p1 p2 hu (eqAt_all r1 r2 ok) _ _ _ _ (by rw [e]; exact fin)
  · have fin : EP X pins σ Q (.bool (!decide (ns = ms))) s := ⟨.bl _, H, I, rfl, q⟩
    rcases tw with ⟨h1, h2⟩ | ⟨h1, h2⟩
    · obtain ⟨i1, r1, p1, _⟩ := I.list h1
      obtain ⟨i2, r2, p2, _⟩ := I.list h2
      have n1 : i1.toArray.size = ns.length := by rw [List.size_toArray, ← r1.length, List.length_map]
      have n2 : i2.toArray.size = ms.length := by rw [List.size_toArray, ← r2.length, List.length_map]
      have key := all_range_eq ns ms
      by_cases hl : ns.length = ms.length
      · refine SeqAt.RcNeAt.lists (e := fun j => ns.getD j 0 == ms.getD j 0) p1.isList p2.isList (by rw [n1, n2, hl]) hu (eqAt_ints r1 r2) _ _ _ _ ?_
        rw [n1]
        rw [hl, Nat.min_self, beq_self_eq_true, Bool.and_true] at key
        rw [hl, key]
        exact fin
      · refine SeqAt.RcNeAt.lists_lengths p1.isList p2.isList (by rw [n1, n2]; simpa using hl) hu _ _ _ _ ?_
        rw [decide_eq_false (fun e => hl (by rw [e]))] at fin
        exact fin
    · obtain ⟨i1, r1, p1, _⟩ := I.tuple h1
      obtain ⟨i2, r2, p2, _⟩ := I.tuple h2
      have n1 : i1.toArray.size = ns.length := by rw [List.size_toArray, ← r1.length, List.length_map]
      have n2 : i2.toArray.size = ms.length := by rw [List.size_toArray, ← r2.length, List.length_map]
      refine SeqAt.RcNeAt.tuples (e := fun j => ns.getD j 0 == ms.getD j 0) p1 p2 hu (eqAt_ints r1 r2) _ _ _ _ ?_
      rw [n1, n2, all_range_eq]
      exact fin
end
end L2

set_option Elab.async false
set_option linter.all false
set_option maxRecDepth 100000
set_option maxHeartbeats 1000000
namespace L2
open PySem PySem.Spec PyProof.Rows
def tComp1 (D : Addr) (g : TG) (tt : TT) (te : TE) (x : V) (τ : St) (H : Hp) (R : St → Hp → Prop) : Prop := g x τ H fun τ' H' => tt τ' H' fun b H4 =>
  if b = true then te τ' H4 fun v H5 => ∃ ys, H5 D = some (.lst ys) ∧ ys.length < sizeLine ∧ R τ' (upd H5 D (.lst (ys ++ [v]))) else R τ' H4
def CompS (D : Addr) (J : It) (g : TG) (tt : TT) (te : TE) (Q : VK) (τ : St) (H : Hp) : Prop := ∃ W : Nat → Nat → St → Hp → Prop, (∃ m, W 0 m τ H) ∧ compW D J g tt te Q W
theorem tComp_eq {ix : List Nat} {nl : Nat} {wi : TI} {g : TG} {tt : TT} {te : TE} {σ : St} {H : Hp} {Q : VK} :
    tComp ix nl wi g tt te σ H Q = wi σ H fun J H1 => ∀ D, H1 D = none → CompS D J g tt te Q (slots ix σ ++ List.replicate nl none) (upd H1 D (.lst [])) := rfl
section
variable {K : PySem.W.Frag} {D a : Addr} {g : TG} {tt : TT} {te : TE} {Q : VK} {τ : St} {H : Hp}
theorem SqT.lst {H : Hp} {p b : Addr} {xs ys zs : List V} (h : SqT K H b xs) (hp : H p = some (.lst ys)) : SqT K (upd H p (.lst zs)) b xs := by
  rcases h with (h | ⟨o, h⟩) | h
  · exact .inl (.inl (by rw [upd_ne (ne_of h hp (by intro z; cases z))]; exact h))
  · exact .inl (.inr ⟨o, by rw [upd_ne (ne_of h hp (by intro z; cases z))]; exact h⟩)
  · exact .inr h
end
theorem rEqS_same {K : PySem.W.Frag} {neg : Bool} {a b : Addr} {xs : List V} {H : Hp} {Q : VK} (t : TwoSq K H a b xs xs) (ok : xs.all okV = true) (q : Q (.bl (!neg)) H) : rEqS K neg (.ref a) (.ref b) H Q := ⟨a, b, rfl, rfl, .inl ⟨xs, t, ok, q⟩⟩
section
variable {X : Cx} {K : PySem.W.Frag}
theorem op_eqSK (h : X.K = K) (hu : X.A.units < cLine) : OpR X (compareOp .Eq) (rEqS K false) := by subst h; exact op_eqS hu
theorem op_neSK (h : X.K = K) (hu : X.A.units < cLine) : OpR X (compareOp .NotEq) (rEqS K true) := by subst h; exact op_neS hu
end
end L2

set_option Elab.async false
set_option linter.all false
set_option maxRecDepth 100000
set_option maxHeartbeats 1000000
namespace L2
open PySem PySem.Spec PyProof.Rows
section
variable {prog : Program} {w : World} {A : Around} {E : Value → Shared → Prop} {s : Shared}
theorem nextOf_tup_item {it l : Addr} {i : Nat} {items : Array Value} {x : Value} {Q : Value → Shared → Prop} (hit : s.heap.IsTupleIter it l i)
    (hl : s.heap.IsTuple l items) (hx : items[i]? = some x) (hQ : ∀ h', h'.IsTupleIter it l (i + 1) → Heap.SameBut it s.heap h' → Q x { s with heap := h' }) :
    wpAny (model prog w) A (Builtin.SmallTypes.nextOf (.ref it)) Q E s := by
  obtain ⟨o, ho, hc, hd⟩ := id hit
  obtain ⟨ol, hol, _, nl, hdl⟩ := hl
  unfold Builtin.SmallTypes.nextOf
  refine wpAny_bind (wpAny_callSpecial?_slot (name := Str.ofString "__next__") hit.typeIs F.slot_tuple_iterator_next
    (wpAny_call_entry F.slot_tuple_iterator_next hit.typeIs F.entry_tuple_iterator_next ?_ (F.args_tuple_iterator_next_1 _)))
  show wpAny _ _ (field (.ref it) 0 >>= _) _ _ s
  refine wpAny_bind (wpAny_field ho hd (x := .ref l) rfl ?_)
  show wpAny _ _ (if (Value.ref l == Value.none) = true then _ else _) _ _ s
  rw [if_neg (show ¬ ((Value.ref l == Value.none) = true) from Bool.false_ne_true)]
  show wpAny _ _ (field (.ref it) 1 >>= _) _ _ s
  refine wpAny_bind (wpAny_field ho hd (x := .int i 0) rfl ?_)
  show wpAny _ _ (seqItems? (.ref l) >>= _) _ _ s
  refine wpAny_bind (wpAny_seqItems hol hdl ?_)
  simp only [Int.toNat_natCast, hx]
  refine wpAny_bind (wpAny_setField ho hd (by simp) (wpAny_pure ⟨x, rfl, wpAny_pure (hQ _ ?_ (Heap.SameBut.update ..))⟩))
  exact ⟨_, Heap.get?_update_self _ ho (Obj.isFreed_of_fields (Obj.data_mapFields hd _)), (Obj.cls_mapFields ..).trans hc, by
    rw [Obj.data_mapFields hd]; simp [rawInt]⟩
theorem nextOf_tup_end {it l : Addr} {i : Nat} {items : Array Value} {Q : Value → Shared → Prop} (hh : A.handled = none) (hit : s.heap.IsTupleIter it l i) (hl : s.heap.IsTuple l items) (hx : items[i]? = none)
    (hE : ∀ h' e, Heap.ExtBut it s.heap h' → (∃ o, h'.get? e = some o ∧ o.cls = .type "StopIteration") → E (.ref e) { s with heap := h' }) :
    wpAny (model prog w) A (Builtin.SmallTypes.nextOf (.ref it)) Q E s := by
  obtain ⟨o, ho, hc, hd⟩ := id hit
  obtain ⟨ol, hol, _, nl, hdl⟩ := hl
  unfold Builtin.SmallTypes.nextOf
  refine wpAny_bind (wpAny_callSpecial?_slot (name := Str.ofString "__next__") hit.typeIs F.slot_tuple_iterator_next
    (wpAny_call_entry F.slot_tuple_iterator_next hit.typeIs F.entry_tuple_iterator_next ?_ (F.args_tuple_iterator_next_1 _)))
  show wpAny _ _ (field (.ref it) 0 >>= _) _ _ s
  refine wpAny_bind (wpAny_field ho hd (x := .ref l) rfl ?_)
  show wpAny _ _ (if (Value.ref l == Value.none) = true then _ else _) _ _ s
  rw [if_neg (show ¬ ((Value.ref l == Value.none) = true) from Bool.false_ne_true)]
  show wpAny _ _ (field (.ref it) 1 >>= _) _ _ s
  refine wpAny_bind (wpAny_field ho hd (x := .int i 0) rfl ?_)
  show wpAny _ _ (seqItems? (.ref l) >>= _) _ _ s
  refine wpAny_bind (wpAny_seqItems hol hdl ?_)
  simp only [Int.toNat_natCast, hx]
  refine wpAny_bind (wpAny_rule (wpAny_bind (wpAny_setField ho hd (by simp) ?_)))
  show wpAny _ _ (newExc (.type "StopIteration") [] >>= _) _ _ _
  refine wpAny_bind ?_
  simp only [newExc, newTuple]
  refine wpAny_bind (wpAny_newObj_type ?_ (by size_fits))
  refine wpAny_bind (m := firstArgMember _ _) (wpAny_of_eq (a := Value.none) (by first | rfl | (simp only [firstArgMember]; rfl)) ?_)
  refine wpAny_newObj_type ?_ (by size_fits)
  simp only [raiseNew]
  refine wpAny_bind (wpAny_handled ?_)
  first | rw [show A.in1.handled = none from hh] | rw [hh]
  refine wpAny_bind (wpAny_pure (wpAny_throw ?_))
  exact hE _ _ (((Heap.SameBut.update ..).extBut.push _).push _) ⟨_, Heap.get?_push_size _ rfl, rfl⟩
end
theorem Draws.tuple {prog : Program} {w : World} {A : Around} (hh : A.handled = none) (it l : Addr) (hne : l ≠ it) (items : Array Value) :
    Draws prog w A it [it, l] items.size (fun i v => items[i]? = some v) (fun i h => h.IsTupleIter it l i ∧ h.IsTuple l items) where
  live := fun _ _ st => let ⟨o, ho, _⟩ := st.1; ⟨o, ho⟩
  frame := fun _ _ _ st hk => ⟨st.1.at fun o e => hk it (by simp) o e, st.2.at fun o e => hk l (by simp) o e⟩
  item := fun i s Q E hi st hQ => by
    refine nextOf_tup_item st.1 st.2 (x := items[i]) (by simp [hi]) fun h' hit' hs' => ?_
    exact hQ _ h' s.toks (by simp [hi]) ⟨hit', st.2.extBut hs'.extBut hne⟩ hs'
  done := fun s Q E st hE => nextOf_tup_end hh st.1 st.2 (by simp) hE
section
variable {prog : Program} {w : World} {A : Around} {E : Value → Shared → Prop} {s : Shared}
end
def Ite (sq : Hp → List V → Prop) : It := ⟨fun i H => ∃ xs x, sq H xs ∧ xs[i]? = some x, fun i H x H' => ∃ T v, H T = none ∧ x = .ref T ∧ H' = upd H T (.tup [.int i, v]) ∧ ∀ xs, sq H xs → xs[i]? = some v, fun i H => ∃ xs, sq H xs ∧ xs.length ≤ i⟩
section
variable {X : Cx} {elts : List Expr} {kk : Nat} {tpos : Pos}
def iEnumL (K : PySem.W.Frag) (ta : TA) : TI := fun σ H R => ta σ H fun vs H1 => ∃ a, vs = [.ref a] ∧ (∃ xs, SqL K H1 a xs) ∧ R (Ite fun H xs => SqL K H a xs) H1
def iEnumT (K : PySem.W.Frag) (ta : TA) : TI := fun σ H R => ta σ H fun vs H1 => ∃ a, vs = [.ref a] ∧ (∃ xs, SqT K H1 a xs) ∧ R (Ite fun H xs => SqT K H a xs) H1
end
end L2

set_option Elab.async false
set_option linter.all false
set_option maxRecDepth 100000
set_option maxHeartbeats 1000000
namespace HT
open PySem PySem.Spec PyProof.Rows
section
variable {prog : Program} {w : World} {A : Around} {E : Value → Shared → Prop} {s : Shared}
end
end HT
namespace L2
open PySem PySem.Spec PyProof.Rows
section
variable {X : Cx}
def rSlTA (K : PySem.W.Frag) : V → Option Int → Option Int → Hp → VK → Prop := fun x lo hi H Q => ∃ a xs, x = .ref a ∧ SqT K H a xs ∧ (cutV xs lo hi = xs → Q (.ref a) H) ∧ ∀ p, H p = none → Q (.ref p) (upd H p (.tup (cutV xs lo hi)))
end
end L2

set_option Elab.async false
set_option linter.all false
set_option maxRecDepth 100000
set_option maxHeartbeats 1000000
namespace L2
open PySem PySem.Spec PyProof.Rows
open PySem.Builtin PySem.Builtin.ObjectAttr PySem.Builtin.Getset_descriptor
open PySem.W (Frag Looks looks_findIn looks_specialIn looks_takesIn looks_mroIn looks_subIn looks_typeIn)

def ExcAt (x D : Addr) (h : Heap) : Prop := ∃ o vs, h.get? x = some o ∧ o.cls = .ref D ∧ o.data = .fields vs
structure XCls (K : Frag) (D : Addr) : Prop where
  ga : PySem.W.findIn K (.ref D) "__getattribute__" = some (some (.builtin "BaseException.__getattribute__"))
  gt : PySem.W.findIn K (.ref D) "__getattr__" = some none
  ca : PySem.W.findIn K (.ref D) "__class__" = some (some (.builtin "object.__class__"))
  cn : PySem.W.specialIn K (.builtin "object.__class__") "__get__" = some (some (.builtin "getset_descriptor.__get__"))
  tk : PySem.W.takesIn K (.builtin "object.__class__") = some true
  mo : PySem.W.mroIn K D (.type "object") = some true
  mb : PySem.W.mroIn K D (.type "BaseException") = some true
  is : (PySem.W.clsIn K D).isSome = true
section
variable {prog : Program} {w : World} {A : Around} {E : Value → Shared → Prop} {s : Shared} {K : Frag} {x D : Addr}
theorem ExcAt.type {M : Model} {h : Heap} (I : ExcAt x D h) : Looks M h (typeOf (.ref x)) (.ref D) := by
  obtain ⟨o, vs, e, c, _⟩ := I
  exact c ▸ (Looks.ld e).andThen .now
theorem xcls_get {R : Result → Shared → Prop} {tp : Value} (X : K.In s.heap) (I : ExcAt x D s.heap) (hm : PySem.W.mroIn K D (.type "object") = some true)
    (h : R (.ok (.ret (.ref D))) s) : codeAny (model prog w) A (.call (.builtin "getset_descriptor.__get__") ⟨[.builtin "object.__class__", .ref x, tp], []⟩) R s := by
  obtain ⟨hh, g, dr, t, os⟩ := s
  have L0 := I.type (M := model prog w)
  have L1 := looks_mroIn (M := model prog w) X hm
  refine codeAny_call_builtin PySem.W.KF.slot_gs.plain PySem.W.KF.entry_gs (PySem.W.KF.slot_gs.check _ _ _ _ _ _ _ _ PySem.W.KF.type_class (PySem.W.KF.args_gs _ _ _) ?_)
  unfold Builtin.«getset_descriptor.__get__» descrGet
  rw [PySem.W.dga_obj]
  refine wpAny_bind (wpAny_pure ?_)
  unfold descrGetter descrCheckInstance descrNameAndClass isInstance
  simp only [PySem.W.KF.owner_class]
  repeat lk
  refine ⟨Code.quiet_builtin _ (by decide +kernel), codeAny_builtin PySem.W.KF.entry_class ?_⟩
  unfold Builtin.«object.__class__» shownTypeOf
  repeat lk
  exact h
theorem xcls_find {M : Model} {h : Heap} (X : K.In h) (c : XCls K D) : Looks M h (find (.ref x) (.ref D) "__class__") (.bind (.builtin "getset_descriptor.__get__") (.builtin "object.__class__")) := by
  have L1 := looks_findIn (M := M) X c.ca
  have L2 : Looks M h (getOf (some (.builtin "object.__class__"))) (some (.builtin "getset_descriptor.__get__")) := looks_specialIn X c.cn
  have L3 := looks_takesIn (M := M) X c.tk
  have L4 : Looks M h (dataDescriptor? (some (.builtin "object.__class__")) (some (.builtin "getset_descriptor.__get__"))) (some (.builtin "getset_descriptor.__get__", .builtin "object.__class__")) := L3.andThen .now
  unfold find
  exact L1.andThen (L2.andThen (L4.andThen (Looks.tag .now)))
theorem xcls_entry {tk : Tok} {Q : Fin → Shared → Prop} (X : K.In s.heap) (c : XCls K D) (I : ExcAt x D s.heap) (hq : Q (.done (.ret (.ref D))) s) :
    wpAny (model prog w) A (Builtin.«object.__getattribute__» ⟨[.ref x, .str "__class__" tk], []⟩) Q E s := by
  obtain ⟨hh, g, dr, t, os⟩ := s
  have L0 := I.type (M := model prog w)
  have L1 := xcls_find (M := model prog w) (x := x) X c
  unfold Builtin.«object.__getattribute__»
  refine wpAny_bind (wpAny_pure (wpAny_bind (wpAny_pure (wpAny_bind (L0.at (wpAny_bind (L1.at ?_)))))))
  show wpAny _ _ (holding [.builtin "object.__class__"] (call (.builtin "getset_descriptor.__get__") [.builtin "object.__class__", .ref x, .ref D]) >>= ret) _ _ _
  exact wpAny_bind (wpAny_holding (wpAny_call (xcls_get X I c.mo (wpAny_pure hq))))
theorem xcls_check {M : Model} {nameV : Value} {Q : Unit → Shared → Prop} (X : K.In s.heap) (c : XCls K D) (I : ExcAt x D s.heap) (hq : Q () s) : wpAny M A (checkBuiltinCall "BaseException.__getattribute__" ⟨[.ref x, nameV], []⟩) Q E s := by
  obtain ⟨hh, g, dr, t, os⟩ := s
  have hk : builtinKind "BaseException.__getattribute__" = some .slot := by decide +kernel
  have hsplit : splitId "BaseException.__getattribute__" = some ("BaseException", "__getattribute__") := by decide +kernel
  have ha := F.args_bexc_ga (.ref x) nameV
  have L0 := I.type (M := M)
  have L1 := looks_mroIn (M := M) X c.mb
  have L2 : Looks M hh (isInstance (.ref x) (.type "BaseException")) true := L0.andThen L1
  simp only [checkBuiltinCall, hk, hsplit]
  refine wpAny_bind (L2.at ?_)
  repeat (first | wp_step)
  exact hq
theorem xcls_attr {Q : Option Value → Shared → Prop} (X : K.In s.heap) (c : XCls K D) (I : ExcAt x D s.heap) (hq : Q (some (.ref D)) { s with toks := s.toks + 1 }) : wpAny (model prog w) A (getAttr? (.ref x) "__class__") Q E s := by
  obtain ⟨hh, g, dr, t, os⟩ := s
  have L0 := I.type (M := model prog w)
  have L1 := looks_findIn (M := model prog w) X c.ga
  have L2 := looks_findIn (M := model prog w) X c.gt
  have hb := F.excAttr_ValueError.ga.bind (.ref x)
  unfold getAttr? getAttrBy? getAttrBy
  refine wpAny_bind (wpAny_mkText (wpAny_bind (wpAny_attempt (wpAny_holding (wpAny_bind (L0.at (wpAny_bind (L1.at ?_))))))))
  show wpAny _ _ (getAttrByItsOwn _ _ _ _ _ _) _ _ _
  unfold getAttrByItsOwn
  refine wpAny_bind (show wpAny _ _ (typeLookup (.ref D) "__getattr__") _ _ _ from L2.at ?_)
  refine wpAny_bind (wpAny_attempt (wpAny_holding ?_))
  show wpAny _ _ (boundAndCalled _ _ _) _ _ _
  unfold boundAndCalled
  rw [hb]
  refine wpAny_bind (wpAny_pure (wpAny_call ?_))
  refine codeAny_call_builtin F.excAttr_ValueError.ga.plain F.entry_bexc_ga (xcls_check X c I (xcls_entry X c I ?_))
  show wpAny _ _ (handedOut (.ref D)) _ _ _
  exact PySem.W.handed_on rfl (wpAny_pure hq)
theorem kitx_exc (c : XCls K D) : PySem.W.KitX K (.ref x) (.ref D) (ExcAt x D) where
  ty := fun _ _ _ I => I.type
  it := fun _ _ X _ => by
    obtain ⟨cdD, hcD⟩ := Option.isSome_iff_exists.mp c.is
    unfold PySem.W.clsIn at hcD
    split at hcD
    · rename_i c' d' cd' sl' ho
      intro A' Q' E' s' k q
      unfold isType loadHead
      exact wpAny_bind (wpAny_loadPart (k _ _ (X _ _ ho)) (wpAny_pure q))
    · cases hcD
  ne := fun h tp dd its n sl X htp => by
    obtain ⟨cdD, hcD⟩ := Option.isSome_iff_exists.mp c.is
    refine Bool.eq_false_iff.mpr fun q => ?_
    have e : D = tp := Value.ref.inj (beq_iff_eq.mp q)
    subst e
    unfold PySem.W.clsIn at hcD
    split at hcD
    · rename_i c' d' cd' sl' ho
      have z := (X _ _ ho).symm.trans htp
      cases z
    · cases hcD
  ca := fun X I k => xcls_attr X c I k
theorem xcls_matches {M : Model} {C : Addr} {b : Bool} {Q : Bool → Shared → Prop} (X : K.In s.heap) (I : ExcAt x D s.heap) (hc : PySem.W.clsIn K C ≠ none) (ht : PySem.W.typeIn K (.ref C) = some (.type "type")) (hb : PySem.W.mroIn K C (.type "BaseException") = some true)
    (hs : PySem.W.subIn K (.ref D) (.ref C) = some b) (hq : Q b s) : wpAny M A (excMatches (.ref x) (.ref C)) Q E s := by
  obtain ⟨hh, g, dr, t, os⟩ := s
  have L0 := I.type (M := M)
  have L1 := looks_typeIn (M := M) X ht
  have L2 : Looks M hh (isSubtype (.type "type") (.type "tuple")) false := Looks.of_pure (by rw [isSubtype_type]; kernel_rfl)
  have L3 : Looks M hh (isInstance (.ref C) (.type "tuple")) false := L1.andThen L2
  have L4 := looks_mroIn (M := M) X hb
  have L5 := looks_subIn (M := M) X hs
  have L6 : Looks M hh (isType (.ref C)) true := by
    obtain ⟨cdD, hcD⟩ := Option.ne_none_iff_exists'.mp hc
    unfold PySem.W.clsIn at hcD
    split at hcD
    · rename_i c' d' cd' sl' ho
      intro A' Q' E' s' k q
      unfold isType loadHead
      exact wpAny_bind (wpAny_loadPart (k _ _ (X _ _ ho)) (wpAny_pure q))
    · cases hcD
  have L7 : Looks M hh (isExcClass (.ref C)) true := L6.andThen L4
  unfold excMatches
  refine wpAny_bind (L3.at ?_)
  rw [if_neg Bool.false_ne_true]
  refine wpAny_bind (wpAny_pure ?_)
  simp only [List.forIn_cons, List.forIn_nil]
  refine wpAny_bind (wpAny_bind (wpAny_bind (L7.at ?_)))
  rw [if_neg (by decide)]
  refine wpAny_pure (wpAny_pure (wpAny_bind (L0.at (wpAny_bind (wpAny_bind (wpAny_bind (L5.at ?_)))))))
  cases b with
  | true => exact wpAny_pure (wpAny_pure (wpAny_pure hq))
  | false => exact wpAny_pure (wpAny_pure (wpAny_pure hq))
end
end L2

set_option Elab.async false
set_option linter.all false
set_option maxRecDepth 100000
set_option maxHeartbeats 1000000
namespace L2
open PySem PySem.Spec PyProof.Rows
theorem ObjOk.here {P : Program} {w : World} {H : Hp} {h : Heap} {a : Addr} {o : HO} (x : ObjOk P w H h a o) : ∃ ob, h.get? a = some ob := by
  cases o with
  | lst xs => obtain ⟨_, _, _, _, e⟩ := x; exact ⟨_, e⟩
  | tup xs => obtain ⟨_, _, _, _, ob, e, _⟩ := x; exact ⟨_, e⟩
  | dK kvs => obtain ⟨_, _, _, _, o, _, _, e, _⟩ := x; exact ⟨_, e⟩
  | dT kvs => obtain ⟨_, _, _, _, o, _, _, e, _⟩ := x; exact ⟨_, e⟩
  | set S n => obtain ⟨o, _, _, _, e, _⟩ := x; exact ⟨_, e⟩
  | ins C dx fs => obtain ⟨_, _, _, e, _⟩ := x; exact ⟨_, e⟩
  | own y => exact x
  | xd fs => obtain ⟨_, ⟨_, _, _, e, _⟩, _⟩ := x; exact ⟨_, e⟩
  | rng lo hi => obtain ⟨_, _, _, e⟩ := x; exact ⟨_, e⟩
  | frz ob u => obtain ⟨e, _⟩ := x; exact ⟨_, e⟩
  | tbl ps => exact ⟨_, (show h.get? a = some _ from x)⟩
  | met f y => exact ⟨_, (show h.get? a = some _ from x)⟩
  | ext φ => obtain ⟨_, e, _⟩ := x; exact e
structure Fly (P : Program) (w : World) (outer : List Env) (H : Hp) (s : Shared) (B : Heap) (H' : Hp) (a C : Addr) (a0 : Value) (s' : Shared) : Prop where
  os : s'.os = s.os
  bare : AllBare s'.gens
  un : Un (frs outer) [] H H' s.heap s'.heap
  hok : HOk P w H' s'.heap
  fly : Heap.FlyingW B outer a (.ref C) a0 s'.heap
  old : ∀ b o, s'.heap.get? b = some o → (∃ o', s.heap.get? b = some o') → b ∉ frs outer → B.get? b = some o
  trk : ∀ b u o, H' b = some u → s'.heap.get? b = some o → B.get? b = some o
  new : H' a = none
  fresh : s.heap.get? a = none
section
variable {P : Program} {w : World} {outer : List Env} {H H' : Hp} {s s' : Shared} {B : Heap} {a C : Addr} {a0 : Value} {h6 : Heap}
end
section
variable {X : Cx} {pins : List (Addr × Obj)} {σ : St} {H H' : Hp} {s s' : Shared} {B : Heap} {a C : Addr} {a0 : Value}
end
section
variable {P : Program} {w : World} {K : PySem.W.Frag} {mg : Str → Option Value} {base : Heap} {N : List Str} {qual : Str} {scope : Scope} {f : Addr} {cd : Value} {A : Around} {outer : List Env} {s : Shared} {H : Hp} {E : XK}
end
abbrev bmVE : List Value := [.type "ValueError", .type "Exception", .type "BaseException", .type "object"]
structure XRaise (K : PySem.W.Frag) (mg : Str → Option Value) (x : Str) (C : Addr) : Prop where
  at_ : mg x = some (.ref C)
  ex : PySem.W.excIn K C bmVE "ValueError.__new__" = true
theorem XRaise.own {K : PySem.W.Frag} {mg : Str → Option Value} {x : Str} {C : Addr} {h : Heap} (R : XRaise K mg x C) (X : K.In h) : OwnCls x C bmVE "ValueError.__new__" mg h := by
  refine ⟨R.at_, ?_⟩
  have q := R.ex
  unfold PySem.W.excIn at q
  split at q
  · rename_i dd cd sl ho
    split at q
    · rename_i C' bm k0 k1 k2 k3 n k5 hm hs
      simp only [Bool.and_eq_true, beq_iff_eq, Bool.not_eq_true'] at q
      obtain ⟨⟨⟨⟨⟨rfl, rfl⟩, hdel⟩, ht⟩, hok⟩, hni⟩ := q
      obtain ⟨nm, bs, mro, ns, qn, hd, sn, sub, ab, col, del⟩ := cd
      dsimp only at hm hdel hok hni
      subst hm hdel
      have hsl : sl = #[k0, k1, k2, k3, some (.builtin "ValueError.__new__"), k5] := by
        obtain ⟨l⟩ := sl
        simp only at hs
        rw [hs]
      subst hsl
      exact ⟨bm, ns, nm, qn, bs, hd, sn, sub, ab, col, dd, k0, k1, k2, k3, k5, _, X _ _ ho, .of_isNs (PySem.W.isNs_of_in X hok), PySem.W.nsMap_none_of_in X hok hni, PySem.W.tail_of_in X ht⟩
    · cases q
  · cases q
def tRaise (E : XK) (C : Addr) (t : TA) : TS := fun _ σ H => t σ H fun vs H1 => vs.length ≤ sizeLine ∧ E (.ref C) none H1
abbrev Cx.suite (X : Cx) (a : Addr) : Cx := { X with A := X.A.mark (some (.ref a)), calm := false }
theorem Cx.Ok.suite {X : Cx} (ok : X.Ok) (a : Addr) : (X.suite a).Ok :=
  ⟨ok.mod, ok.kind, ok.glob, ok.blt, ok.above, ok.inj, ok.has, ok.cab, (fun z => nomatch z), ok.frames, ok.stk, ok.exf, ok.bs, ok.bsz, ok.noex, ok.exfs, ok.funs, ok.frf⟩
section
variable {X : Cx} {pins : List (Addr × Obj)} {σ : St} {H : Hp} {s : Shared} {a : Addr}
theorem Inv.suite (I : Inv X pins σ H s) (a : Addr) : Inv (X.suite a) pins σ H s := ⟨I.ok.suite a, I.os, I.bare, I.base, I.loc, I.cell, I.free, I.freeC, I.pin, I.hok, I.len⟩
theorem Inv.unsuite (ok : X.Ok) (I : Inv (X.suite a) pins σ H s) : Inv X pins σ H s := ⟨ok, I.os, I.bare, I.base, I.loc, I.cell, I.free, I.freeC, I.pin, I.hok, I.len⟩
theorem Inv.blank {h' : Heap} {m' : Str → Option Value} {t' : Nat} (I : Inv X pins σ H s) (hn' : h'.Ns X.env.locals m') (hs : Heap.SameBut X.env.locals s.heap h') : Inv X pins (List.replicate X.N.length none) H { s with heap := h', toks := t' } := by
  obtain ⟨m, hn, _⟩ := I.loc
  obtain ⟨oL, _, _, hoL, _⟩ := id hn
  refine ⟨I.ok, I.os, I.bare, ⟨fun b o e n hb hx => ?_, fun b o e n hb hx => ?_, I.base.free, fun b o e hx => ?_, I.base.tups, I.base.frzs, I.base.tbls⟩, ⟨_, hn', fun j y v' e1 e2 e3 => ?_⟩, fun y c e => ?_, I.free, I.freeC, fun p hp => ?_, fun b ob e => ?_, by simp⟩
  · exact (hs.2 b (Nat.ne_of_lt (Nat.lt_of_lt_of_le (Heap.lt_size e) I.ok.above))).trans (I.base.keep b o e n hb hx)
  · obtain ⟨sl, e1⟩ := I.base.slot b o e n hb hx
    exact ⟨sl, (hs.2 b (Nat.ne_of_lt (Nat.lt_of_lt_of_le (Heap.lt_size e) I.ok.above))).trans e1⟩
  · obtain ⟨o', e1⟩ := I.base.there b o e hx
    exact ⟨o', (hs.2 b (Nat.ne_of_lt (Nat.lt_of_lt_of_le (Heap.lt_size e) I.ok.above))).trans e1⟩
  · rw [List.getElem?_replicate] at e2
    split at e2 <;> cases e2
  · obtain ⟨w', z⟩ := I.cell y c e
    exact ⟨w', z.sameBut hs (I.cne y c e)⟩
  · obtain ⟨e, n, ne, nf, d⟩ := I.pin p hp
    exact ⟨(hs.2 p.1 ne).trans e, n, ne, nf, d⟩
  · refine (I.hok b ob e).stay (fun c w' hc q => (hs.2 c ?_).trans q) (fun _ q => q) fun _ _ q => q
    rintro rfl
    rcases hc with rfl | hc
    · rw [I.free] at e; cases e
    · rw [I.free] at hc; cases hc
end
def excO (a D : Addr) : HO := .ext (ExcAt a D)
structure XCatch (K : PySem.W.Frag) (mg : Str → Option Value) (x : Str) (C : Addr) : Prop where
  at_ : mg x = some (.ref C)
  is : PySem.W.clsIn K C ≠ none
  ty : PySem.W.typeIn K (.ref C) = some (.type "type")
  mb : PySem.W.mroIn K C (.type "BaseException") = some true
def tTry (sp : Sp) (t : TA) (i : Nat) (K : PySem.W.Frag) (C : Addr) (ts : TS) : TS := fun D σ H => t σ H fun vs H1 => sp vs H1 (fun _ H2 => D.nx σ H2) fun c _ H2 =>
  ∃ D', c = .ref D' ∧ PySem.W.subIn K (.ref D') (.ref C) = some true ∧ ∀ a, H2 a = none → ts { nx := fun _ _ => False, rt := D.rt } (σ.set i (some (.ref a))) (upd H2 a (excO a D'))
section
variable {X : Cx} {CX : CXT} {x y n : Str} {j k i : Nat} {ps : List Str} {sp : Sp} {p pos tpos hpos np epos : Pos} {e : Expr} {es : List Expr} {t : TA} {C : Addr} {b₀ : Stmt} {suite : List Stmt} {ts : TS}
end
end L2

set_option Elab.async false
set_option linter.all false
set_option maxRecDepth 100000
set_option maxHeartbeats 1000000
namespace L2
open PySem PySem.Spec PyProof.Rows
theorem vals_refs : ∀ {cs : List Addr} {us : List Value}, Vals (cs.map V.ref) us → us = cs.map Value.ref
  | [], _, .nil => rfl
  | c :: cs, _, .cons r t => by
    cases r
    rw [List.map_cons, vals_refs t]
section
variable {X : Cx} {K : PySem.W.Frag}
end
structure RoomS (k : Nat) (A : Around) : Prop where
  dp : A.depth + 3 * k + 5 < recursionLimit
  un : A.units + 16 * k + 200 < cLine
theorem Room.toS {k : Nat} {A : Around} (r : Room k A) : RoomS k A := ⟨r.dp, r.un⟩
theorem Room.suite {k : Nat} {A : Around} (r : Room k A) (v : Option Value) : RoomS k (A.mark v) := ⟨r.dp, r.un⟩
theorem RoomS.mono {j k : Nat} {A : Around} (r : RoomS k A) (h : j ≤ k) : RoomS j A := ⟨by have := r.dp; omega, by have := r.un; omega⟩
theorem RoomS.deeper {k : Nat} {A : Around} (r : RoomS (k + 1) A) (env : Env) : RoomS k (A.deeper env) :=
  ⟨by have := r.dp; show A.depth + 1 + 3 * k + 5 < _; omega, by have := r.un; show A.units + 3 + 16 * k + 200 < _; omega⟩
structure FnOkS (P : Program) (w : World) (K : PySem.W.Frag) (mg : Str → Option Value) (base : Heap) (CX : CXT) (k : Nat) (f : Addr) (fd : FuncData) (ps : List Str) (sp : Sp) : Prop where
  len : ∀ vs H Q E, sp vs H Q E → vs.length = ps.length
  run : ∀ (A : Around) (outer : List Env) (s : Shared) (H : Hp) (args : Args) (us : List Value) (vs : List V) (Q : VK) (E : XK), RoomS k A → Env0 P w K mg base A outer s H → BindsTo s fd args (ps.zip us) → Vals vs us → sp vs H Q E →
    codeAny (model P w) A (.call (.ref f) args) (CR CX outer P w H s Q E) s
theorem FnOkS.fn {P : Program} {w : World} {K : PySem.W.Frag} {mg : Str → Option Value} {base : Heap} {CX : CXT} {k : Nat} {f : Addr} {fd : FuncData} {ps : List Str} {sp : Sp} (F : FnOkS P w K mg base CX k f fd ps sp) : FnOk P w K mg base CX k f fd ps sp :=
  ⟨F.len, fun A outer s H args us vs Q E hr => F.run A outer s H args us vs Q E hr.toS⟩
structure CalS (P : Program) (w : World) (K : PySem.W.Frag) (mg : Str → Option Value) (base : Heap) (CX : CXT) (x : Str) (k : Nat) (ps : List Str) (sp : Sp) : Prop where
  ex : ∃ f fd, FnOkS P w K mg base CX k f fd ps sp ∧ Binds K fd ps [] ∧ PySem.W.keepIn K (.ref f) = true ∧ mg x = some (.ref f)
abbrev Cx.any (X : Cx) (A : Around) : Cx := { X with A := A, calm := false }
theorem Inv.any {X : Cx} {pins : List (Addr × Obj)} {σ : St} {H : Hp} {s : Shared} (I : Inv X pins σ H s) {A : Around} (hf : A.frames = some X.stack) : Inv (X.any A) pins σ H s :=
  ⟨⟨I.ok.mod, I.ok.kind, I.ok.glob, I.ok.blt, I.ok.above, I.ok.inj, I.ok.has, I.ok.cab, (fun z => nomatch z), hf, I.ok.stk, I.ok.exf, I.ok.bs, I.ok.bsz, I.ok.noex, I.ok.exfs, I.ok.funs, I.ok.frf⟩, I.os, I.bare, I.base, I.loc, I.cell, I.free, I.freeC, I.pin, I.hok, I.len⟩
theorem Fun.okS {P : Program} {w : World} {K : PySem.W.Frag} {mg : Str → Option Value} {base : Heap} {x qual : Str} {st : Stmt} {f : Addr} {fd : FuncData} {N ps : List Str} {k : Nat} {sp : Sp} (F : Fun K x qual st f fd) (S : FnScope N ps (defScope st)) (len : ∀ vs H Q E, sp vs H Q E → vs.length = ps.length)
    (hbody : ∀ (cdv : Value) (A : Around) (outer : List Env) (s : Shared) (H : Hp) (vs : List V) (Q : VK) (E : XK), RoomS k (A.deeper (envOfC qual (defScope st) s.heap.objs.size f cdv)) → sp vs H Q E →
      ∃ t, PSs ((cxOf CX0 P w K mg base N qual (defScope st) f cdv { A with handled := none } outer s H E).nox.any (A.deeper (envOfC qual (defScope st) s.heap.objs.size f cdv))) (defBody st) t ∧ t { nx := fun _ H' => Q .non H', rt := Q } (start N vs) H) : FnOkS P w K mg base CX0 (k + 1) f fd ps sp := by
  obtain ⟨oc, od, kV, doc, pm, an, cdv, ct, osl, rfl, lk, hcd⟩ := F.ex
  refine ⟨len, fun A outer s H args us vs Q E hr e0 hb r hsp => ?_⟩
  have hl := len _ _ _ _ hsp
  have KX : K.In s.heap := e0.mod.kin.keeps fun b o e => (e0.bs b o e).1
  have lim : s.heap.NoLimit := e0.mod.nolimit.keeps fun b o e => (e0.bs b o e).1
  have hkind : ∀ y ∈ ps.zip us, (defScope st).names.lookup y.1 = some .local ∨ ((defScope st).names.lookup y.1 = some .cell ∧ ((cellsFrom (s.heap.objs.size + 1) (defScope st).names []).lookup y.1).isSome = true) := fun ⟨n, v⟩ hy => by
    rcases S.par n (List.of_mem_zip hy).1 with q | q
    · exact .inl q
    · exact .inr ⟨q, PySem.W.cellsFrom_some _ _ _ (.inl q)⟩
  refine codeAny_call_function (by have := hr.dp; omega) (KX _ _ lk) rfl S.co S.gen rfl (PySem.W.codeRec_of KX hcd) (hb _ _ _ _ ?_)
  refine wpAny_newFunctionEnv_cells S.kind hkind fun env he s1 x => ?_
  subst he
  refine ⟨lim.keeps x.toInCall.keep, codeAny_func ?_⟩
  obtain ⟨t, ht, hq⟩ := hbody cdv A outer s H vs Q E (hr.deeper _) hsp
  have I0 : Inv (cxOf CX0 P w K mg base N qual (defScope st) f cdv { A with handled := none } outer s H E) [] (start N vs) H s1 := inv_start S rfl ⟨e0.frames, e0.mod, e0.bs, e0.bsz, e0.funs, e0.frf, e0.hok, e0.bare⟩ hl r x
  have I := (I0.wish (fun _ _ => False)).any (A := A.deeper (envOfC qual (defScope st) s.heap.objs.size f cdv)) (Around.frames_deeper e0.frames)
  refine wpAny_mono (ht [] s1 (start N vs) H _ I hq) (fun fl s' hs => ?_) fun e s' hs => False.elim hs
  have fin : ∀ {σ' : St} {H' : Hp} {v : V} {u : Value}, Inv ((cxOf CX0 P w K mg base N qual (defScope st) f cdv { A with handled := none } outer s H E).nox.any (A.deeper (envOfC qual (defScope st) s.heap.objs.size f cdv))) [] σ' H' s' → RelV v u → Q v H' → CE outer P w H s Q u s' :=
    fun {σ' H' v u} J rv q => ⟨v, H', J.os, J.bare, J.base, J.hok, rv, q⟩
  cases fl with
  | ret u =>
    obtain ⟨v, σ', H', J, rv, q⟩ := hs
    exact fin J rv q
  | next =>
    obtain ⟨σ', H', J, q⟩ := hs
    exact fin (v := V.non) (u := Value.none) J rfl q
  | brk =>
    obtain ⟨_, _, _, q⟩ := hs
    exact False.elim q
  | cont =>
    obtain ⟨_, _, _, q⟩ := hs
    exact False.elim q
theorem pe_callS {X : Cx} {x : Str} {j k : Nat} {ps : List Str} {sp : Sp} {p pos : Pos} {e : Expr} {es : List Expr} {t : TA} (C : CalS X.prog X.w X.K X.mg X.base CX0 x j ps sp) (hr : RoomS k X.A) (hg : Gl X x) (ha : PA X (e :: es) t) (hj : j ≤ k := by decide) (hdb : (x == ("__debug__" : Str)) = false := by decide)
    (he : starEach (e :: es) X.env = (false, eval e X.env) :: starEach es X.env := by rfl) (hpl : (backTo pos (starEach es X.env)).any (·.1) = false := by rfl) :
    PE X (.Call (.Name x p) (e :: es) [] pos) (tCall sp [] E0 t) := by
  obtain ⟨f, fd, F, b, kp, m⟩ := C.ex
  intro pins s σ H Q I h
  refine wpAny_Call_Name_kw (ld_glob I hg m ?_ hdb)
  refine PySem.W.callWith_K (h₀ := X.base) I.ok.mod.kin kp (thn (ha pos pins s σ H _ I h) fun us s1 ⟨vs, H1, I1, r, q⟩ => ⟨I1.kIn, ?_⟩) he hpl
  have q : sp vs H1 Q E0 := by
    have z : sp (vs ++ []) H1 Q E0 := q
    rwa [List.append_nil] at z
  have hl : us.length = ps.length := by rw [← r.length]; exact F.len _ _ _ _ q
  have hb' := b s1 us I1.kIn (by rw [List.append_nil]; exact hl)
  rw [List.append_nil] at hb'
  refine wpAny_call (codeAny_mono (F.run X.A X.stack s1 H1 ⟨us, []⟩ us vs Q E0 (hr.mono hj) I1.env0 hb' r q) fun res s' hq => ?_)
  cases res with
  | error e => exact False.elim hq
  | ok fl =>
    cases fl with
    | ret u => exact I1.after hq
    | next => exact False.elim hq
    | brk => exact False.elim hq
    | cont => exact False.elim hq
end L2

set_option Elab.async false
set_option linter.all false
set_option maxRecDepth 100000
namespace L2
open PySem PySem.Spec PyProof.Rows
def noStar : Expr → Bool
  | .Starred _ _ => false
  | _ => true
theorem star1 {e : Expr} {es : List Expr} {env : Env} (h : noStar e = true) : starEach (e :: es) env = (false, eval e env) :: starEach es env := by
  cases e <;> first | rfl | cases h
theorem star1' {e : Expr} {env : Env} (h : noStar e = true) : starEach [e] env = [(false, eval e env)] := by rw [star1 h]; rfl
theorem nost0 {env : Env} {pos : Pos} : (backTo pos (starEach [] env)).any (·.1) = false := rfl
theorem nost1 {e : Expr} {es : List Expr} {env : Env} {pos : Pos} (h : noStar e = true) (r : (backTo pos (starEach es env)).any (·.1) = false) : (backTo pos (starEach (e :: es) env)).any (·.1) = false := by
  rw [star1 h]
  show (false || (backTo pos (starEach es env)).any (·.1)) = false
  rw [r]
  rfl
def plainT : Expr → Bool
  | .UnaryOp _ _ _ => false
  | .BoolOp _ _ _ => false
  | .IfExp _ _ _ _ => false
  | .Compare _ _ _ _ => false
  | _ => true
theorem test1 {e : Expr} {env : Env} (h : plainT e = true) : ∀ whole, isTrue e env whole = (do let v ← whole; standAt e.pos; holding [v] (truthy v)) := by
  intro whole
  cases e <;> first | rfl | cases h
def noComp : Expr → Bool
  | .ListComp _ _ _ _ => false
  | .SetComp _ _ _ _ => false
  | .DictComp _ _ _ _ _ => false
  | _ => true
theorem swap1 {e : Expr} {tg : Option Expr} {n : Nat} {env : Env} (h : noComp e = true) : swapsWith e tg n env = pure false := by
  cases e <;> first | rfl | cases h
end L2

set_option Elab.async false
set_option linter.all false
set_option maxRecDepth 100000
set_option maxHeartbeats 1000000
namespace L2
open PySem PySem.Spec PyProof.Rows
end L2

set_option Elab.async false
set_option linter.all false
set_option maxRecDepth 100000
set_option maxHeartbeats 1000000
namespace L2
open PySem PySem.Spec PyProof.Rows
theorem ints_are : ∀ {ns : List Int} {its : List Value}, Vals (ns.map V.int) its → IntsAre its ns
  | [], _, .nil => .nil
  | n :: ns, _, .cons ⟨t, e⟩ r => by subst e; exact .cons n t (ints_are r)
section
variable {X : Cx}
end
end L2

set_option Elab.async false
set_option linter.all false
set_option maxRecDepth 100000
set_option maxHeartbeats 1000000
namespace L2
open PySem PySem.Spec PyProof.Rows
structure Apart (z TI TO i1 i2 : Addr) (f1 f2 : List Addr) : Prop where
  zTI : z ≠ TI
  zTO : z ≠ TO
  TITO : TI ≠ TO
  TI1 : TI ≠ i1
  TI2 : TI ≠ i2
  m1 : i1 ∈ f1
  m2 : i2 ∈ f2
  z1 : z ∉ f1
  z2 : z ∉ f2
  t1 : TO ∉ f1
  t2 : TO ∉ f2
  i12 : i1 ∉ f2
  i21 : i2 ∉ f1
section
variable {prog : Program} {w : World} {A : Around} {E : Value → Shared → Prop} {s : Shared} {z TI TO i1 i2 : Addr} {f1 f2 : List Addr} {n1 n2 k : Nat} {P1 P2 : Nat → Value → Prop} {S1 S2 : Nat → Heap → Prop}
end
def Itz (K : PySem.W.Frag) (a b : Addr) : It := ⟨fun i H => ∃ xs ys x y, SqL K H a xs ∧ SqT K H b ys ∧ xs[i]? = some x ∧ ys[i]? = some y,
  fun i H x H' => ∃ T u v, H T = none ∧ x = .ref T ∧ H' = upd H T (.tup [u, v]) ∧ (∀ xs, SqL K H a xs → xs[i]? = some u) ∧ ∀ ys, SqT K H b ys → ys[i]? = some v,
  fun i H => ∃ xs ys, SqL K H a xs ∧ SqT K H b ys ∧ xs.length = ys.length ∧ xs.length = i⟩
end L2

set_option Elab.async false
set_option linter.all false
set_option maxRecDepth 100000
set_option maxHeartbeats 1000000
namespace L2
open PySem PySem.Spec PyProof.Rows
def iZip (K : PySem.W.Frag) (ta : TA) : TI := fun σ H R => ta σ H fun vs H1 => ∃ a b, vs = [.ref a, .ref b] ∧ (∃ xs, SqL K H1 a xs) ∧ (∃ ys, SqT K H1 b ys) ∧ R (Itz K a b) H1
end L2

set_option Elab.async false
set_option linter.all false
set_option maxRecDepth 100000
set_option maxHeartbeats 1000000
namespace L2
open PySem PySem.Spec PyProof.Rows
section
variable {X : Cx}
def rIndexT (K : PySem.W.Frag) : V → List V → Hp → VK → Prop := fun x vs H Q => ∃ (p : Addr) (xs : List V) (y : V) (j : Nat), x = .ref p ∧ vs = [y] ∧ SqT K H p xs ∧ flatV y = true ∧ xs.all flatV = true ∧ (∃ z, xs[j]? = some z ∧ eqV z y = true) ∧ (∀ m z, m < j → xs[m]? = some z → eqV z y = false) ∧ Q (.int j) H
def tBMT (K : PySem.W.Frag) (r : V → List V → Hp → VK → Prop) (to : TE) (t : TA) : TE := fun σ H Q => to σ H fun x H1 => (∃ p xs, x = .ref p ∧ H1 p = some (.tup xs)) ∧ t σ H1 fun xs H2 => r x xs H2 Q
def iSeq (K : PySem.W.Frag) (tl : TE) : TI := fun σ H R => tl σ H fun x H1 => ∃ a, x = .ref a ∧ (((∃ xs, SqL K H1 a xs) ∧ R (Itl K a) H1) ∨ ((∃ xs, SqT K H1 a xs) ∧ R (Itt K a) H1))
section
variable {K : PySem.W.Frag} {D : Ends} {g : TG} {tb : TS} {σ : St} {H : Hp} {a : Addr}
end
section
variable {K : PySem.W.Frag} {D a : Addr} {g : TG} {tt : TT} {te : TE} {Q : VK} {τ : St} {H : Hp}
end
end
end L2

set_option Elab.async false
set_option linter.all false
set_option maxRecDepth 100000
set_option maxHeartbeats 1000000
namespace L2
open PySem PySem.Spec PyProof.Rows
abbrev sgn (c : Nat) : V := .str ⟨#[c]⟩
abbrev txt (cs : List Nat) : Str := ⟨cs.toArray⟩
def Its (cs : List Nat) : It := ⟨fun i _ => i < cs.length, fun i H v H' => H' = H ∧ ∃ c, cs[i]? = some c ∧ v = sgn c, fun i _ => cs.length ≤ i⟩
section
variable {X : Cx} {tg : Expr}
def iStr (tl : TE) : TI := fun σ H R => tl σ H fun x H1 => ∃ cs, x = .str (txt cs) ∧ cs.all (fun c => decide (c < 128)) = true ∧ R (Its cs) H1
end
section
variable {g : TG} {tb : TS} {D : Ends} {σ : St} {H : Hp}
end
section
variable {D : Addr} {g : TG} {tt : TT} {te : TE} {Q : VK} {τ : St} {H : Hp}
end
section
variable {X : Cx}
def rLeS : R2 := fun x y H Q => ∃ c d : Nat, x = sgn c ∧ y = sgn d ∧ Q (.bl (decide (c ≤ d))) H
def rJoin (K : PySem.W.Frag) : V → List V → Hp → VK → Prop := fun x vs H Q => ∃ (p : Addr) (cs : List Nat), x = .str "" ∧ vs = [.ref p] ∧ SqL K H p (cs.map sgn) ∧ cs.length ≤ 1000 ∧ Q (.str (txt cs)) H
end
end L2

set_option Elab.async false
set_option linter.all false
set_option maxRecDepth 100000
set_option maxHeartbeats 1000000
namespace L2
open PySem PySem.Spec PyProof.Rows
deriving instance DecidableEq for Kn
section
variable {X : Cx}
theorem call_tupleL : CallR X (.type "tuple") (fun xs H Q => ∃ p ys, xs = [.ref p] ∧ SqL X.K H p ys ∧ ∀ l, H l = none → Q (.ref l) (upd H l (.tup ys))) := by
  intro pins s σ H xs us Q I r h
  obtain ⟨p, ys, rfl, hq, q⟩ := h
  exact call_tuple_of pins s σ H _ us Q I r ⟨p, ys, rfl, .inl ⟨hq, q⟩⟩
theorem call_listL : CallR X (.type "list") (fun xs H Q => ∃ p ys, xs = [.ref p] ∧ SqL X.K H p ys ∧ ∀ l, H l = none → Q (.ref l) (upd H l (.lst ys))) := by
  intro pins s σ H xs us Q I r h
  obtain ⟨p, ys, rfl, hq, q⟩ := h
  exact call_list_of pins s σ H _ us Q I r ⟨p, ys, rfl, .inl hq, q⟩
end
end L2

set_option Elab.async false
set_option linter.all false
set_option maxRecDepth 100000
set_option maxHeartbeats 1000000
namespace PySem
open Sem (wp)
namespace SetL
section
variable {prog : Program} {w : World} {A : Around} {R : Result → Shared → Prop} {I : Addr} {fp wr : List Addr} {n : Nat} {P : Nat → Value → Prop} {St : Nat → Heap → Prop}
end
section
variable {prog : Program} {w : World} {A : Around} {E : Value → Shared → Prop} {s : Shared}
end
end SetL
end PySem
namespace L2
open PySem PySem.Spec PyProof.Rows
section
variable {X : Cx}
end
end L2

set_option Elab.async false
set_option linter.all false
set_option maxRecDepth 100000
set_option maxHeartbeats 1000000
namespace L2
open PySem PySem.Spec PyProof.Rows
mutual
inductive Rep (K : PySem.W.Frag) (H : Hp) : V → PyData → Prop
  | non : Rep K H .non .none
  | bl (b : Bool) : Rep K H (.bl b) (.bool b)
  | int (i : Int) : Rep K H (.int i) (.int i)
  | str (z : Str) : Rep K H (.str z) (.str z)
  | lst {a : Addr} {xs : List V} {ds : List PyData} : SqL K H a xs → RepAll K H xs ds → Rep K H (.ref a) (.list ds)
  | tup {a : Addr} {xs : List V} {ds : List PyData} : SqT K H a xs → RepAll K H xs ds → Rep K H (.ref a) (.tuple ds)
inductive RepAll (K : PySem.W.Frag) (H : Hp) : List V → List PyData → Prop
  | nil : RepAll K H [] []
  | cons {x : V} {d : PyData} {xs : List V} {ds : List PyData} : Rep K H x d → RepAll K H xs ds → RepAll K H (x :: xs) (d :: ds)
end
theorem sqT_same {K : PySem.W.Frag} {H H' : Hp} {a : Addr} {xs : List V} (e : Same H H') (h : SqT K H a xs) : SqT K H' a xs := by
  rcases h with (h | ⟨o, h⟩) | h
  · exact .inl (.inl (e _ _ h))
  · exact .inl (.inr ⟨o, e _ _ h⟩)
  · exact .inr h
mutual
theorem Rep.same {K : PySem.W.Frag} {H H' : Hp} (e : Same H H') : ∀ {v : V} {d : PyData}, Rep K H v d → Rep K H' v d
  | _, _, .non => .non
  | _, _, .bl b => .bl b
  | _, _, .int i => .int i
  | _, _, .str z => .str z
  | _, _, .lst h r => .lst (e.seq h) (RepAll.same e r)
  | _, _, .tup h r => .tup (sqT_same e h) (RepAll.same e r)
theorem RepAll.same {K : PySem.W.Frag} {H H' : Hp} (e : Same H H') : ∀ {xs : List V} {ds : List PyData}, RepAll K H xs ds → RepAll K H' xs ds
  | _, _, .nil => .nil
  | _, _, .cons h r => .cons (Rep.same e h) (RepAll.same e r)
end
section
variable {X : Cx} {pins : List (Addr × Obj)} {σ : St} {H : Hp} {s : Shared}
end
section
variable {X : Cx}
end
end L2

set_option Elab.async false
set_option linter.all false
set_option maxRecDepth 100000
set_option maxHeartbeats 1000000
namespace HT
open PySem PyProof.Rows
section
open PySem.SeqAt
open PySem.AutoSeq1 (wpAny_loadPart')
open PySem.MeetsSeq PySem.MeetsSeq2 PySem.MeetsSeq3

end
end HT

set_option Elab.async false
set_option linter.all false
set_option maxRecDepth 100000
set_option maxHeartbeats 1000000
namespace HT
open PySem PyProof.Rows PySem.SeqAt
section
variable {l b : Addr}
theorem vals_ints {ns : List Int} {its : List Value} (r : L2.Vals (ns.map L2.V.int) its) : IntsAre its ns := L2.ints_are r
end
end HT
namespace L2
open PySem PySem.Spec PyProof.Rows
end L2

set_option Elab.async false
set_option linter.all false
set_option maxRecDepth 100000
set_option maxHeartbeats 1000000
namespace L2
open PySem PySem.Spec PyProof.Rows
def iOr (w1 w2 : TI) : TI := fun σ H R => w1 σ H R ∨ w2 σ H R
section
variable {K : PySem.W.Frag} {a : Addr} {g : TG} {tt : TT} {te : TE} {Q : VK} {H : Hp}
end
end L2

set_option Elab.async false
set_option linter.all false
set_option maxRecDepth 100000
set_option maxHeartbeats 1000000
namespace L2
open PySem PySem.Spec PyProof.Rows
section
variable {prog : Program} {w : World} {A : Around} {E : Value → Shared → Prop} {s : Shared} {z TI TO i1 i2 : Addr}
end
def ItzL (K : PySem.W.Frag) (a b : Addr) : It := ⟨fun i H => ∃ xs ys x y, SqL K H a xs ∧ SqL K H b ys ∧ xs[i]? = some x ∧ ys[i]? = some y,
  fun i H x H' => ∃ T u v, H T = none ∧ x = .ref T ∧ H' = upd H T (.tup [u, v]) ∧ (∀ xs, SqL K H a xs → xs[i]? = some u) ∧ ∀ ys, SqL K H b ys → ys[i]? = some v,
  fun i H => ∃ xs ys, SqL K H a xs ∧ SqL K H b ys ∧ xs.length = ys.length ∧ xs.length = i⟩
def iZipL (K : PySem.W.Frag) (ta : TA) : TI := fun σ H R => ta σ H fun vs H1 => ∃ a b, vs = [.ref a, .ref b] ∧ (∃ xs, SqL K H1 a xs) ∧ (∃ ys, SqL K H1 b ys) ∧ R (ItzL K a b) H1
end L2

set_option Elab.async false
set_option linter.all false
set_option maxRecDepth 100000
set_option maxHeartbeats 1000000
namespace L2
open PySem PySem.Spec PyProof.Rows
section
variable {X : Cx}
def rInsert : V → List V → Hp → VK → Prop := fun x vs H Q => ∃ (l : Addr) (xs : List V) (k : Nat) (y : V), x = .ref l ∧ vs = [.int k, y] ∧ H l = some (.lst xs) ∧ k ≤ xs.length ∧ xs.length < sizeLine ∧ Q .non (upd H l (.lst (xs.take k ++ y :: xs.drop k)))
end
section
variable {K : PySem.W.Frag} {a b : Addr} {g : TG} {tt : TT} {te : TE} {Q : VK} {H : Hp}
end
end L2

set_option Elab.async false
set_option linter.all false
set_option maxRecDepth 100000
set_option maxHeartbeats 1000000
namespace L2
open PySem PySem.Spec PyProof.Rows
section
variable {X : Cx}
def cutN (cs : List Nat) (lo hi : Option Int) : List Nat := (cs.drop (HT.sIx cs.length 0 lo)).take (HT.sIx cs.length cs.length hi - HT.sIx cs.length 0 lo)
def rSlS : V → Option Int → Option Int → Hp → VK → Prop := fun x lo hi H Q => ∃ cs : List Nat, x = .str (txt cs) ∧ cs.length ≤ 1000 ∧ Q (.str (txt (cutN cs lo hi))) H
def rMulS : R2 := fun x y H Q => ∃ (c : Nat) (n : Nat), x = .str (txt [c]) ∧ y = .int n ∧ 1 ≤ n ∧ n ≤ 1000 ∧ Q (.str (txt (List.replicate n c))) H
def rCatS : R2 := fun x y H Q => ∃ cs ds : List Nat, x = .str (txt cs) ∧ y = .str (txt ds) ∧ cs.length + ds.length ≤ 1000 ∧ Q (.str (txt (cs ++ ds))) H
theorem op_catS : OpR X (binaryOp .Add) rCatS := by
  intro pins s σ H x y v u Q I rx ry h
  obtain ⟨cs, ds, rfl, rfl, hz, q⟩ := h
  refine op_add_str pins s σ H _ _ v u Q I rx ry ⟨_, _, rfl, rfl, Nat.le_trans (show cs.toArray.size + ds.toArray.size ≤ 1000 by rw [List.size_toArray, List.size_toArray]; omega) (by decide), ?_⟩
  have : (txt cs ++ txt ds : Str) = txt (cs ++ ds) := by
    apply Str.ext'
    simp [Str.cps_append]
  rw [this]
  exact q
end
def tTryN (sp : Sp) (t : TA) (K : PySem.W.Frag) (C : Addr) (ts : TS) : TS := fun D σ H => t σ H fun vs H1 => sp vs H1 (fun _ H2 => D.nx σ H2) fun c _ H2 =>
  ∃ D', c = .ref D' ∧ PySem.W.subIn K (.ref D') (.ref C) = some true ∧ ∀ a, H2 a = none → ts { nx := fun _ _ => False, rt := D.rt } σ (upd H2 a (excO a D'))
section
variable {X : Cx} {CX : CXT} {x y : Str} {j k : Nat} {ps : List Str} {sp : Sp} {p pos tpos hpos np epos : Pos} {e : Expr} {es : List Expr} {t : TA} {C : Addr} {b₀ : Stmt} {suite : List Stmt} {ts : TS}
end
def tDict1T (K : PySem.W.Frag) (te : TE) : TE := fun σ H Q => te σ H fun x H1 => ∃ (p : Addr) (zs : List Str), x = .ref p ∧ SqT K H1 p (zs.map V.str) ∧ ∀ d, H1 d = none → Q (.ref d) (upd H1 d (dctO d))
def rUpper : V → List V → Hp → VK → Prop := fun x vs H Q => ∃ cs : List Nat, x = .str (txt cs) ∧ vs = [] ∧ (∀ c ∈ cs, 97 ≤ c ∧ c ≤ 122) ∧ cs.length ≤ 1000 ∧ Q (.str (txt (cs.map (· - 32)))) H
end L2

set_option Elab.async false
set_option linter.all false
set_option maxRecDepth 100000
set_option maxHeartbeats 1000000
namespace L2
open PySem PySem.Spec PyProof.Rows
structure Mk0 (K : PySem.W.Frag) (C : Addr) : Prop where
  makes : PySem.W.makesIn K C = true
  init : PySem.W.findIn K (.ref C) "__init__" = some (some (.builtin "object.__init__"))
  kp : PySem.W.keepIn K (.ref C) = true
def tMake0 (C : Addr) : TE := fun _ H Q => ∀ x dx, H x = none → H dx = none → dx ≠ x → Q (.ref x) (upd (upd H dx (.own x)) x (.ins C dx []))
section
variable {X : Cx} {C : Addr} {x : Str} {p pos apos : Pos}
end
structure MkC (P : Program) (w : World) (K : PySem.W.Frag) (mg : Str → Option Value) (base : Heap) (x : Str) (C : Addr) (k : Nat) (ps : List Str) (sp : Sp) : Prop where
  ex : ∃ f fd, Mk K C f ∧ FnOk P w K mg base CX0 k f fd ps sp ∧ Binds K fd ps []
  at_ : mg x = some (.ref C)
section
variable {X : Cx} {C : Addr} {x : Str} {j k : Nat} {ps : List Str} {sp : Sp} {p pos apos : Pos} {e o : Expr} {es : List Expr} {t : TA} {ta : TE} {m : Str}
structure Disp (P : Program) (w : World) (K : PySem.W.Frag) (mg : Str → Option Value) (base : Heap) (m : Str) (k : Nat) (ps : List Str) (C : Addr) (sp : Sp) : Prop where
  cls : Cls K C
  ex : ∃ f fd, Meth K C m f ∧ FnOk P w K mg base CX0 k f fd ps sp ∧ Binds K fd ps []
def tMethD (D : Addr → Sp → Prop) (m : Str) (ta : TE) (t : TA) : TE := fun σ H Q => ta σ H fun x H1 => ∃ a C dx fs sp, x = .ref a ∧ H1 a = some (.ins C dx fs) ∧ fs.lookup m = none ∧ D C sp ∧ t σ H1 fun vs H2 => sp (.ref a :: vs) H2 Q E0
end
structure ICls (K : PySem.W.Frag) (C : Addr) : Prop where
  cl : Cls K C
  ha : PySem.W.findIn K (.ref C) "__class__" = some (some (.builtin "object.__class__"))
  hn : PySem.W.specialIn K (.builtin "object.__class__") "__get__" = some (some (.builtin "getset_descriptor.__get__"))
  htk : PySem.W.takesIn K (.builtin "object.__class__") = some true
  hm : PySem.W.mroIn K C (.type "object") = some true
def tChain3 (r r' r'' : R2) (ta tb tc td : TE) : TE := fun σ H Q => ta σ H fun x H1 => tb σ H1 fun y H2 => r x y H2 fun z H3 => ∃ k, z = .bl k ∧
  (if k = true then tc σ H3 fun w' H4 => r' y w' H4 fun z' H5 => ∃ k', z' = .bl k' ∧ (if k' = true then td σ H5 fun v' H6 => r'' w' v' H6 Q else Q (.bl false) H5) else Q (.bl false) H3)
section
variable {X : Cx} {a b c d : Expr} {ta tb tc td : TE} {pos : Pos}
end
def rCatTQ (K : PySem.W.Frag) : R2 := fun x y H Q => ∃ a b xs ys, x = .ref a ∧ y = .ref b ∧ SqT K H a xs ∧ SqT K H b ys ∧ xs.length + ys.length ≤ sizeLine ∧ ∀ p H', Same H H' → SqT K H' p (xs ++ ys) → Q (.ref p) H'
theorem op_catTQ {X : Cx} : OpR X (binaryOp .Add) (rCatTQ X.K) := by
  intro pins s σ H x y v u Q I rx ry h
  obtain ⟨a, b, xs, ys, rfl, rfl, ha, hb, hz, q⟩ := h
  have sn : ∀ p, H p = none → Same H (upd H p (.tup (xs ++ ys))) := fun p hp b u z => by rw [upd_ne (ne_of_none z hp)]; exact z
  by_cases hx : xs = []
  · subst hx
    cases rx
    cases ry
    obtain ⟨its, r1, p1, _⟩ := I.tuple ha
    obtain ⟨its2, r2, p2, _⟩ := I.tuple hb
    have e0 := r1.nil_iff.mpr rfl
    obtain ⟨⟨cls, dd, data, sl⟩, ho, hc, n, hd⟩ := id p1
    obtain ⟨⟨cls2, dd2, data2, sl2⟩, ho2, hc2, n2, hd2⟩ := id p2
    simp only at hc hd hc2 hd2
    subst hc hd hc2 hd2
    exact concat_meets ⟨_, ho, rfl⟩ ⟨_, ho2, rfl⟩ noFill_tuple_add seq_tuple_add PySem.F.slot_tuple_add PySem.F.entry_tuple_add (PySem.F.args_tuple_add_2 _ _)
      (tuple_addW0 a b its.toArray its2.toArray n n2 dd dd2 sl sl2 (by simp [e0])) ⟨ho, ho2, ⟨.ref b, H, I, rfl, q _ _ (Same.refl _) hb⟩⟩
  · refine op_catT pins s σ H _ _ v u Q I rx ry ⟨a, b, xs, ys, rfl, rfl, ha, hb, hx, hz, fun e => q _ _ (Same.refl _) (by rw [e, List.append_nil]; exact ha), fun _ p hp => q _ _ (sn p hp) (SqT.of upd_same)⟩
end L2

set_option Elab.async false
set_option linter.all false
set_option maxRecDepth 100000
set_option maxHeartbeats 1000000
namespace L2
open PySem PySem.Spec PyProof.Rows
section
variable {prog : Program} {w : World} {A : Around} {E : Value → Shared → Prop} {s : Shared} {z TI TO i1 i2 : Addr}
end
def ItzT (K : PySem.W.Frag) (a b : Addr) : It := ⟨fun i H => ∃ xs ys x y, SqT K H a xs ∧ SqT K H b ys ∧ xs[i]? = some x ∧ ys[i]? = some y,
  fun i H x H' => ∃ T u v, H T = none ∧ x = .ref T ∧ H' = upd H T (.tup [u, v]) ∧ (∀ xs, SqT K H a xs → xs[i]? = some u) ∧ ∀ ys, SqT K H b ys → ys[i]? = some v,
  fun i H => ∃ xs ys, SqT K H a xs ∧ SqT K H b ys ∧ xs.length = ys.length ∧ xs.length = i⟩
def iZipT (K : PySem.W.Frag) (ta : TA) : TI := fun σ H R => ta σ H fun vs H1 => ∃ a b, vs = [.ref a, .ref b] ∧ (∃ xs, SqT K H1 a xs) ∧ (∃ ys, SqT K H1 b ys) ∧ R (ItzT K a b) H1
end L2

set_option Elab.async false
set_option linter.all false
set_option maxRecDepth 100000
set_option maxHeartbeats 1000000
namespace HT
open PySem PySem.Spec PyProof.Rows
section
variable {prog : Program} {w : World} {A : Around} {E : Value → Shared → Prop} {s : Shared}
end
end HT
namespace L2
open PySem PySem.Spec PyProof.Rows
def rTurnT (K : PySem.W.Frag) : V → Hp → VK → Prop := fun x H Q => ∃ a xs, x = .ref a ∧ SqT K H a xs ∧ ∀ p, H p = none → Q (.ref p) (upd H p (.tup xs.reverse))
def tTurn (K : PySem.W.Frag) (te : TE) (ts : TO) : TE := fun σ H Q => te σ H fun x H1 => ts σ H1 fun o H2 => o = some (-1) ∧ rTurnT K x H2 Q
end L2

set_option Elab.async false
set_option linter.all false
set_option maxRecDepth 100000
set_option maxHeartbeats 1000000
namespace L2
open PySem PySem.Spec PyProof.Rows
def tTryS (sp : Sp) (t : TA) (i iz : Nat) (K : PySem.W.Frag) (C : Addr) (ts : TS) : TS := fun D σ H => t σ H fun vs H1 => sp vs H1 (fun v H2 => D.nx (σ.set iz (some v)) H2) fun c _ H2 =>
  ∃ D', c = .ref D' ∧ PySem.W.subIn K (.ref D') (.ref C) = some true ∧ ∀ a, H2 a = none → ts { nx := fun _ _ => False, rt := D.rt } (σ.set i (some (.ref a))) (upd H2 a (excO a D'))
section
variable {X : Cx} {CX : CXT} {x y n z : Str} {j k i iz : Nat} {ps : List Str} {sp : Sp} {p zpos pos tpos hpos np epos : Pos} {e : Expr} {es : List Expr} {t : TA} {C : Addr} {b₀ : Stmt} {suite : List Stmt} {ts : TS}
end
end L2

set_option Elab.async false
set_option linter.all false
set_option maxRecDepth 100000
set_option maxHeartbeats 1000000
namespace L2
open PySem PySem.Spec PyProof.Rows
def rCountT : V → List V → Hp → VK → Prop := fun x vs H Q => ∃ (p : Addr) (ns : List Int) (j : Int), x = .ref p ∧ vs = [.int j] ∧ H p = some (.tup (ns.map V.int)) ∧ Q (.int (ns.count j)) H
end L2

set_option Elab.async false
set_option linter.all false
set_option maxRecDepth 100000
set_option maxHeartbeats 1000000
namespace L2
open PySem PySem.Spec PyProof.Rows
structure CompOkC (X : Cx) (scope : Scope) (y : Str) (cl : List (Str × Addr)) (N' : List Str) (ix : List Nat) (nl : Nat) : Prop where
  clos : closureFor scope X.env = pure cl
  sub : ∀ z c, cl.lookup z = some c → X.env.cells.lookup z = some c
  has : ∀ p ∈ (relabel scope X.env).names, (p.2 = .cell ∨ p.2 = .free) → (((y, 0) :: cl).lookup p.1).isSome = true
  lay : ∀ n, cellsFrom n scope.names cl = (y, n) :: cl
  push : ∀ h : Heap, pushCells h scope.names = h.push { cls := .type "cell", data := .cell none }
  kind : scope.kind = .function
  names : ∀ z ∈ scope.names, z.2 = .local → scope.names.lookup z.1 = some .local
  len : N'.length = ix.length + nl
  out : ∀ (i j : Nat) (x : Str), ix[i]? = some j → N'[i]? = some x → (x == y) = false ∧ X.N[j]? = some x ∧ (X.env.kindOf x = some .cell ∨ X.env.kindOf x = some .free) ∧ ((relabel scope X.env).names.lookup x = some .cell ∨ (relabel scope X.env).names.lookup x = some .free)
def OutsOkC (X : Cx) (scope : Scope) (y : Str) : List Nat → List Str → Prop
  | [], _ => True
  | j :: r, x :: t => ((x == y) = false ∧ X.N[j]? = some x ∧ (X.env.kindOf x = some .cell ∨ X.env.kindOf x = some .free) ∧ ((relabel scope X.env).names.lookup x = some .cell ∨ (relabel scope X.env).names.lookup x = some .free)) ∧ OutsOkC X scope y r t
  | _ :: _, [] => False
theorem OutsOkC.at {X : Cx} {scope : Scope} {y : Str} : ∀ {ix : List Nat} {N : List Str}, OutsOkC X scope y ix N → ∀ (i j : Nat) (x : Str), ix[i]? = some j → N[i]? = some x → (x == y) = false ∧ X.N[j]? = some x ∧ (X.env.kindOf x = some .cell ∨ X.env.kindOf x = some .free) ∧ ((relabel scope X.env).names.lookup x = some .cell ∨ (relabel scope X.env).names.lookup x = some .free)
  | [], _, _, i, j, y, h1, _ => by simp at h1
  | _ :: _, [], h, _, _, _, _, _ => h.elim
  | _ :: _, _ :: _, h, 0, j, y, h1, h2 => by
    simp at h1 h2
    subst h1 h2
    exact h.1
  | _ :: _, _ :: _, h, i + 1, j, y, h1, h2 => OutsOkC.at h.2 i j y (by simpa using h1) (by simpa using h2)
theorem CompOkC.make {X : Cx} {scope : Scope} {y : Str} {cl : List (Str × Addr)} {N' : List Str} {ix : List Nat} {nl : Nat} (clos : closureFor scope X.env = pure cl) (sub : ∀ p ∈ cl, X.env.cells.lookup p.1 = some p.2)
    (has : ((relabel scope X.env).names.all fun p => !(p.2 == .cell || p.2 == .free) || (((y, 0) :: cl).lookup p.1).isSome) = true) (lay : ∀ n, cellsFrom n scope.names cl = (y, n) :: cl) (push : ∀ h : Heap, pushCells h scope.names = h.push { cls := .type "cell", data := .cell none }) (kind : scope.kind = .function)
    (names : ∀ z ∈ scope.names, z.2 = .local → scope.names.lookup z.1 = some .local) (len : N'.length = ix.length + nl) (out : OutsOkC X scope y ix N') : CompOkC X scope y cl N' ix nl :=
  ⟨clos, fun z c h => sub (z, c) (PySem.mem_of_lookup h), fun p hp hc => by
    have q := List.all_eq_true.mp has p hp
    rcases hc with e | e <;> (rw [e] at q; simpa using q), lay, push, kind, names, len, out.at⟩
section
variable {X : Cx} {pins : List (Addr × Obj)} {σ : St} {H : Hp} {s : Shared}
end

section
variable {X : Cx} {elt iter tg : Expr} {ifs : List Expr} {scope : Scope} {pos : Pos} {y : Str} {cl : List (Str × Addr)} {N' : List Str} {ix : List Nat} {nl : Nat} {wi : TI} {g : TG} {tt : TT} {te : TE}
end
end L2

set_option Elab.async false
set_option linter.all false
set_option maxRecDepth 100000
set_option maxHeartbeats 1000000
namespace L2
open PySem PySem.Spec PyProof.Rows
section
variable {prog : Program} {w : World} {A : Around} {s : Shared} {R : Result → Shared → Prop}
variable {I : Addr} {fp wr : List Addr} {G : Array GenState → Array GenState → Prop} {n : Nat} {P : Nat → Value → Prop} {St : Nat → Shared → Prop} {T : String}
end
section
variable {prog : Program} {w : World} {A : Around} {E : Value → Shared → Prop} {s : Shared}
variable {I : Addr} {fp wr : List Addr} {G : Array GenState → Array GenState → Prop} {n : Nat} {P : Nat → Value → Prop} {St : Nat → Shared → Prop} {T : String}
end
section
variable {X : Cx} {pins : List (Addr × Obj)} {σ : St} {H : Hp} {s : Shared}
end
def tRev (K : PySem.W.Frag) (t : TA) : TE := fun σ H Q => t σ H fun vs H1 => ∃ (p : Addr) (ys : List V), vs = [.ref p] ∧ (SqL K H1 p ys ∨ SqT K H1 p ys) ∧ ∀ l, H1 l = none → Q (.ref l) (upd H1 l (.lst ys.reverse))
section
variable {X : Cx} {e : Expr} {t : TA} {p1 p2 pos1 pos2 : Pos}
end
def IsRvd (h : Heap) (a l : Addr) (i : Int) : Prop := ∃ o, h.get? a = some o ∧ o.cls = .type "reversed" ∧ o.data = .fields #[.ref l, rawInt i]
end L2

set_option Elab.async false
set_option linter.all false
set_option maxRecDepth 100000
set_option maxHeartbeats 1000000
namespace L2
open PySem PySem.Spec PyProof.Rows
section
variable {prog : Program} {w : World} {A : Around} {E : Value → Shared → Prop} {s : Shared}
theorem IsRvd.typeIs {a l : Addr} {i : Int} (x : IsRvd s.heap a l i) : s.TypeIs (.ref a) "reversed" := let ⟨o, ho, hc, _⟩ := x; ⟨o, ho, hc⟩
theorem IsRvd.at {h h' : Heap} {a l : Addr} {i : Int} (x : IsRvd h a l i) (e : ∀ o, h.get? a = some o → h'.get? a = some o) : IsRvd h' a l i := let ⟨o, ho, r⟩ := x; ⟨o, e _ ho, r⟩
end
section
variable {X : Cx} {e : Expr} {t : TA} {p1 p2 pos1 pos2 : Pos}
end
end L2

set_option Elab.async false
set_option linter.all false
set_option maxRecDepth 100000
set_option maxHeartbeats 1000000
namespace L2
open PySem PySem.Spec PyProof.Rows
end L2

set_option Elab.async false
set_option linter.all false
set_option maxRecDepth 100000
set_option maxHeartbeats 1000000
namespace L2
open PySem PySem.Spec PyProof.Rows
section
variable {κ : Type} [DecidableEq κ]
def valV (kvs : List (κ × V)) (k : κ) : Option V := (kvs.find? fun kv => decide (kv.1 = k)).map (·.2)
def putK (kvs : List (κ × V)) (k : κ) (v : V) : List (κ × V) :=
  if (kvs.any fun kv => decide (kv.1 = k)) = true then kvs.map (fun kv => if kv.1 = k then (kv.1, v) else kv) else kvs ++ [(k, v)]
def dropK (kvs : List (κ × V)) (k : κ) : List (κ × V) := kvs.filter fun kv => decide (kv.1 ≠ k)

theorem valV_pos {p : κ × V} {r : List (κ × V)} {k : κ} (e : p.1 = k) : valV (p :: r) k = some p.2 := by simp [valV, List.find?_cons, e]
theorem valV_neg {p : κ × V} {r : List (κ × V)} {k : κ} (e : ¬ p.1 = k) : valV (p :: r) k = valV r k := by simp [valV, List.find?_cons, e]
theorem RelO.getD {o : Option V} {u : Option Value} {d : V} {d' : Value} (r : RelO o u) (rd : RelV d d') : RelV (o.getD d) (u.getD d') := by
  cases o with
  | none => cases u with
    | none => exact rd
    | some _ => exact (show False from r).elim
  | some _ => cases u with
    | none => exact (show False from r).elim
    | some _ => exact r

theorem KV.val {kvs : List (κ × V)} {vs : List (κ × Value)} (r : KV kvs vs) (k : κ) : RelO (valV kvs k) (valueAt vs k) := by
  unfold KV at r
  induction r with
  | nil => exact True.intro
  | @cons p q ps qs h t ih =>
    obtain ⟨h1, h2⟩ := h
    by_cases e : p.1 = k
    · have e' : q.1 = k := h1.symm.trans e
      have b : valueAt (q :: qs) k = some q.2 := by simp [valueAt, List.find?_cons, e']
      rw [valV_pos e, b]; exact h2
    · have e' : ¬ q.1 = k := fun z => e (h1.trans z)
      have b : valueAt (q :: qs) k = valueAt qs k := by simp [valueAt, List.find?_cons, e']
      rw [valV_neg e, b]; exact ih
theorem KV.any {kvs : List (κ × V)} {vs : List (κ × Value)} (r : KV kvs vs) (k : κ) : (kvs.any fun kv => decide (kv.1 = k)) = vs.any fun kv => decide (kv.1 = k) := by
  unfold KV at r
  induction r with
  | nil => rfl
  | cons h t ih => rw [List.any_cons, List.any_cons, ih, h.1]
theorem KV.drop {kvs : List (κ × V)} {vs : List (κ × Value)} (r : KV kvs vs) (k : κ) : KV (dropK kvs k) (without vs k) := by
  unfold KV at r ⊢
  unfold dropK without
  induction r with
  | nil => exact .nil
  | @cons p q ps qs h t ih =>
    obtain ⟨h1, h2⟩ := h
    rw [List.filter_cons, List.filter_cons]
    by_cases e : p.1 = k
    · have a : ¬ decide (p.1 ≠ k) = true := by simp [e]
      have b : ¬ decide (q.1 ≠ k) = true := by simp [h1.symm.trans e]
      rw [if_neg a, if_neg b]; exact ih
    · have e' : ¬ q.1 = k := fun z => e (h1.trans z)
      have a : decide (p.1 ≠ k) = true := by simp [e]
      have b : decide (q.1 ≠ k) = true := by simp [e']
      rw [if_pos a, if_pos b]; exact .cons ⟨h1, h2⟩ ih
theorem KV.keys {kvs : List (κ × V)} {vs : List (κ × Value)} (r : KV kvs vs) : kvs.map (·.1) = vs.map (·.1) := by
  unfold KV at r
  induction r with
  | nil => rfl
  | cons h t ih => rw [List.map_cons, List.map_cons, ih, h.1]
theorem KV.length {kvs : List (κ × V)} {vs : List (κ × Value)} (r : KV kvs vs) : kvs.length = vs.length := Paired.length r
end


theorem kV_is {P : Program} {w : World} {k : Key} {u : Value} (r : RelV (kV k) u) : (mixKind P w).is k u = true := by
  cases k with
  | inl i => obtain ⟨t, e⟩ := (show ∃ t, u = Value.int i t from r); subst e; exact mixKind_int P w i t
  | inr x => obtain ⟨t, e⟩ := (show ∃ t, u = Value.str x t from r); subst e; exact mixKind_str P w x t
abbrev KT (H : Hp) : List (List Key × V) → List (List Key × Addr × Value) → Prop := Paired fun p q => p.1 = q.1 ∧ H q.2.1 = some (.tup (p.1.map kV)) ∧ RelV p.2 q.2.2
theorem KT.val {H : Hp} {kvs : List (List Key × V)} {xs : List (List Key × Addr × Value)} (r : KT H kvs xs) (k : List Key) : RelO (valV kvs k) ((atKey xs k).map (·.2)) := by
  induction r with
  | nil => exact True.intro
  | @cons p q ps qs h t ih =>
    obtain ⟨h1, _, h2⟩ := h
    by_cases e : p.1 = k
    · have e' : q.1 = k := h1.symm.trans e
      have b : atKey (q :: qs) k = some q.2 := by simp [atKey, List.find?_cons, e']
      rw [valV_pos e, b]; exact h2
    · have e' : ¬ q.1 = k := fun z => e (h1.trans z)
      have b : atKey (q :: qs) k = atKey qs k := by simp [atKey, List.find?_cons, e']
      rw [valV_neg e, b]; exact ih
theorem KT.keeps {H H' : Hp} {kvs : List (List Key × V)} {xs : List (List Key × Addr × Value)} (r : KT H kvs xs) (ht : ∀ b ys, H b = some (.tup ys) → H' b = some (.tup ys)) : KT H' kvs xs :=
  Paired.mapP r fun _ _ z => ⟨z.1, ht _ _ z.2.1, z.2.2⟩

section
variable {P : Program} {w : World} {H : Hp} {h : Heap} {a : Addr}
end

def DGet (H : Hp) (a : Addr) (y : V) (r : Option V) : Prop :=
  (∃ kvs k, Rd H a (.dK kvs) ∧ y = kV k ∧ r = valV kvs k) ∨ ∃ kvs k b, Rd H a (.dT kvs) ∧ y = .ref b ∧ H b = some (.tup (k.map kV)) ∧ r = valV kvs k
def DPut (H : Hp) (a : Addr) (y v : V) (H' : Hp) : Prop :=
  (∃ kvs k, H a = some (.dK kvs) ∧ y = kV k ∧ kvs.length < sizeLine ∧ H' = upd H a (.dK (putK kvs k v))) ∨
  ∃ kvs k b, H a = some (.dT kvs) ∧ y = .ref b ∧ H b = some (.tup (k.map kV)) ∧ kvs.length < sizeLine ∧ H' = upd H a (.dT (putK kvs k v))
theorem DGet.k {H : Hp} {a : Addr} {kvs : List (Key × V)} {k : Key} (e : H a = some (.dK kvs)) : DGet H a (kV k) (valV kvs k) := .inl ⟨kvs, k, .inl e, rfl, rfl⟩
theorem DGet.t {H : Hp} {a b : Addr} {kvs : List (List Key × V)} {k : List Key} (e : H a = some (.dT kvs)) (eb : H b = some (.tup (k.map kV))) : DGet H a (.ref b) (valV kvs k) := .inr ⟨kvs, k, b, .inl e, rfl, eb, rfl⟩
theorem DPut.k {H : Hp} {a : Addr} {kvs : List (Key × V)} {k : Key} {v : V} (e : H a = some (.dK kvs)) (hl : kvs.length < sizeLine) : DPut H a (kV k) v (upd H a (.dK (putK kvs k v))) := .inl ⟨kvs, k, e, rfl, hl, rfl⟩
theorem DPut.t {H : Hp} {a b : Addr} {kvs : List (List Key × V)} {k : List Key} {v : V} (e : H a = some (.dT kvs)) (eb : H b = some (.tup (k.map kV))) (hl : kvs.length < sizeLine) :
    DPut H a (.ref b) v (upd H a (.dT (putK kvs k v))) := .inr ⟨kvs, k, b, e, rfl, eb, hl, rfl⟩


section
variable {X : Cx} {pins : List (Addr × Obj)} {σ : St} {H : Hp} {s : Shared} {a : Addr} {y v : V} {u r : Value} {o : Option V} {A : Around} {E : Value → Shared → Prop}

end

section
variable {X : Cx} {pins : List (Addr × Obj)} {σ : St} {H : Hp} {s : Shared} {a : Addr} {kvs : List (Key × V)} {k : Key} {u : Value} {A : Around} {E : Value → Shared → Prop}
end


section
variable {X : Cx} {o i e value : Expr} {pos pos' tpos : Pos} {td ty tv : TE}
end


section
variable {X : Cx} {pos : Pos}
end

structure M1 (X : Cx) (o : Expr) (m : Str) (apos : Pos) (e : Expr) (cpos : Pos) : Prop where
  base : attributeBase o m X.env (eval o X.env) = eval o X.env
  few : ((backTo cpos (starEach [e] X.env)).all (fun x => !x.1) && (backToKw cpos (keywordEach [] X.env)).all (fun x => x.1.isSome)
    && decide (([e] : List Expr).length + ([] : List Keyword).length + (if ([] : List Keyword).isEmpty then 0 else 1) < 30)) = true
  line : (apos.endLine == cpos.line) = true
  trees : backTo cpos (starEach [e] X.env) = [(false, eval e X.env)]
structure M2 (X : Cx) (o : Expr) (m : Str) (apos : Pos) (e f : Expr) (cpos : Pos) : Prop where
  base : attributeBase o m X.env (eval o X.env) = eval o X.env
  few : ((backTo cpos (starEach [e, f] X.env)).all (fun x => !x.1) && (backToKw cpos (keywordEach [] X.env)).all (fun x => x.1.isSome)
    && decide (([e, f] : List Expr).length + ([] : List Keyword).length + (if ([] : List Keyword).isEmpty then 0 else 1) < 30)) = true
  line : (apos.endLine == cpos.line) = true
  trees : backTo cpos (starEach [e, f] X.env) = [(false, eval e X.env), (false, eval f X.env)]

section
variable {X : Cx} {pins : List (Addr × Obj)} {σ : St} {H : Hp} {s : Shared} {a : Addr} {y d : V} {u r : Value} {o : Option V} {A : Around} {E : Value → Shared → Prop}
end

section
variable {X : Cx} {o e f : Expr} {apos cpos : Pos} {td ty tx : TE}
end

section
variable {X : Cx} {pins : List (Addr × Obj)} {σ : St} {H : Hp} {s : Shared} {a : Addr} {kvs : List (Key × V)} {A : Around} {E : Value → Shared → Prop}
end


section
variable {X : Cx} {pins : List (Addr × Obj)} {σ : St} {H : Hp} {s : Shared} {a : Addr} {y : V} {u : Value} {A : Around} {E : Value → Shared → Prop}
end
end L2
namespace L2
open PySem PySem.Spec PyProof.Rows
section
variable {κ : Type} [DecidableEq κ]
end
end L2

set_option Elab.async false
set_option linter.all false
set_option maxRecDepth 100000
set_option maxHeartbeats 1000000
namespace L2
open PySem PySem.Spec PyProof.Rows
def KEnt (P : Params) : List DictEntry → List (Str × V) → Prop
  | [], [] => True
  | e :: es, kv :: r => (∃ t, e.key = .str kv.1 t) ∧ e.hash = PyData.keyHash P kv.1 ∧ RelV kv.2 e.val ∧ KEnt P es r
  | _, _ => False
structure KDct (P : Params) (K : PySem.W.Frag) (a : Addr) (kvs : List (Str × V)) : Prop where
  sm : (a == sysModules) = false
  nd : (kvs.map (·.1)).Nodup
  ob : ∃ es ep, K.lookup a = some ⟨.type "dict", none, .dict es ep, #[]⟩ ∧ KEnt P es.toList kvs
def kvK (kvs : List (Str × V)) : List (Key × V) := kvs.map fun kv => (.inr kv.1, kv.2)
theorem KEnt.pairs {prog : Program} {w : World} : ∀ {es : List DictEntry} {kvs : List (Str × V)}, KEnt w.params es kvs → ∃ vs : List (Key × Value), KV (kvK kvs) vs ∧ Pairs (mixKind prog w) es vs ∧ ∀ e ∈ es, ∃ k, (mixKind prog w).is k e.key = true ∧ e.hash = (mixKind prog w).hash k
  | [], [], _ => ⟨[], .nil, .nil, fun e h => by cases h⟩
  | e :: es, kv :: r, ⟨⟨t, hk⟩, hh, rv, t2⟩ => by
    obtain ⟨vs, h1, h2, h3⟩ := KEnt.pairs (prog := prog) t2
    have is : (mixKind prog w).is (.inr kv.1) e.key = true := by rw [hk]; exact kV_is (k := .inr kv.1) (u := .str kv.1 t) ⟨t, rfl⟩
    refine ⟨(.inr kv.1, e.val) :: vs, .cons ⟨rfl, rv⟩ h1, .cons is rfl h2, fun e' he => ?_⟩
    rcases List.mem_cons.mp he with rfl | he
    · exact ⟨_, is, hh⟩
    · exact h3 e' he
  | [], _ :: _, h => h.elim
  | _ :: _, [], h => h.elim
theorem nodup_inr : ∀ {l : List Str}, l.Nodup → (l.map (Sum.inr : Str → Key)).Nodup
  | [], _ => .nil
  | a :: l, h => by
    rw [List.nodup_cons] at h
    rw [List.map_cons, List.nodup_cons]
    refine ⟨fun m => ?_, nodup_inr h.2⟩
    obtain ⟨b, hb, e⟩ := List.mem_map.mp m
    injection e with e
    exact h.1 (e ▸ hb)
section
variable {X : Cx} {pins : List (Addr × Obj)} {σ : St} {H : Hp} {s : Shared} {a : Addr} {k : Str} {v : V} {u : Value} {A : Around} {E : Value → Shared → Prop} {kvs : List (Str × V)}
theorem KDct.dict (I : Inv X pins σ H s) (D : KDct X.w.params X.K a kvs) : ∃ vs : List (Key × Value), KV (kvK kvs) vs ∧ s.heap.DictOf (mixKind X.prog X.w) a vs := by
  obtain ⟨sm, nd, es, ep, hl, he⟩ := D
  obtain ⟨vs, h1, h2, h3⟩ := he.pairs (prog := X.prog) (w := X.w)
  refine ⟨vs, h1, _, es, ep, I.kIn a _ hl, ⟨rfl, rfl, rfl⟩, rfl, fun e m => h3 e (by simpa using m), h2, ?_⟩
  rw [← h1.keys]
  have : (kvK kvs).map (·.1) = (kvs.map (·.1)).map (Sum.inr : Str → Key) := by
    unfold kvK
    rw [List.map_map, List.map_map]
    rfl
  rw [this]
  exact nodup_inr nd
end
section
variable {X : Cx} {o i : Expr} {pos : Pos} {td ty : TE}
end
end L2

set_option Elab.async false
set_option linter.all false
set_option maxRecDepth 100000
set_option maxHeartbeats 1000000
namespace PySem
open Sem (wp)
namespace DictL
section
variable {prog : Program} {w : World} {A : Around} {E : Value → Shared → Prop} {s : Shared}
end
section
variable {prog : Program} {w : World} {A : Around} {R : Result → Shared → Prop} {I : Addr} {fp wr : List Addr} {n : Nat} {P : Nat → Value → Prop} {St : Nat → Heap → Prop} {K : Type} [DecidableEq K] {knd : KeyKind prog w K}
end
section
variable {prog : Program} {w : World} {A : Around} {E : Value → Shared → Prop} {s : Shared} {K : Type} [DecidableEq K] {knd : KeyKind prog w K}
end
end DictL
end PySem

set_option Elab.async false
set_option linter.all false
set_option maxRecDepth 100000
set_option maxHeartbeats 1000000
namespace L2
open PySem PySem.Spec PyProof.Rows
section
variable {X : Cx}
end
end L2

set_option Elab.async false
set_option linter.all false
set_option maxRecDepth 100000
set_option maxHeartbeats 1000000
namespace PySem
open Sem (wp)
namespace DictE
section
variable {prog : Program} {w : World} {A : Around} {E : Value → Shared → Prop} {s : Shared} {K : Type} [DecidableEq K] {knd : KeyKind prog w K}
end
end DictE
end PySem

set_option Elab.async false
set_option linter.all false
set_option maxRecDepth 100000
set_option maxHeartbeats 1000000
namespace L2
open PySem PySem.Spec PyProof.Rows
theorem KV.mem {κ : Type} : ∀ {kvs : List (κ × V)} {vs : List (κ × Value)}, KV kvs vs → ∀ {k : κ} {v : Value}, (k, v) ∈ vs → ∃ x, (k, x) ∈ kvs ∧ RelV x v
  | _, _, .nil, k, v, h => by cases h
  | _, _, .cons (a := p) (b := q) a t, k, v, h => by
    rcases List.mem_cons.mp h with e | h
    · subst e
      exact ⟨p.2, by rw [show k = p.1 from a.1.symm]; exact List.mem_cons_self, a.2⟩
    · obtain ⟨x, m, r⟩ := KV.mem t h
      exact ⟨x, List.mem_cons_of_mem _ m, r⟩
section
variable {X : Cx}
end
end L2

set_option Elab.async false
set_option linter.all false
set_option maxRecDepth 100000
set_option maxHeartbeats 1000000
namespace PySem
open Sem (wp)
open PyProof.Rows
namespace SortD
section
variable {prog : Program} {w : World} {A : Around} {E : Value → Shared → Prop} {s : Shared} {K : Type} [DecidableEq K] {knd : KeyKind prog w K}
end
end SortD
end PySem
namespace L2
open PySem PySem.Spec PyProof.Rows
section
variable {X : Cx}
end
end L2

set_option Elab.async false
set_option linter.all false
set_option maxRecDepth 100000
set_option maxHeartbeats 1000000
namespace L2
open PySem PySem.Spec PyProof.Rows
open PySem.Builtin PySem.Builtin.ObjectAttr PySem.Builtin.Getset_descriptor
open PySem.W (Frag Looks InstAt looks_findIn looks_specialIn looks_takesIn looks_mroIn looks_subIn looks_typeIn looks_clsIn)
def onlyVE : List Value → Bool
  | .ref _ :: r => onlyVE r
  | l => l == bmVE
theorem refuse_ve (self : Value) : ∀ {l : List Value}, onlyVE l = true → refuseLoop self "__setattr__" l = pure ()
  | .ref c :: r, e => by rw [refuseLoop_ref]; exact refuse_ve self (l := r) (by exact e)
  | [], e => by cases e
  | .type n :: r, e => by
    have z : (Value.type n :: r) = bmVE := beq_iff_eq.mp (show ((Value.type n :: r) == bmVE) = true from e)
    rw [z]
    exact PySem.F.store_ValueError.passes self
  | .none :: r, e => by cases (beq_iff_eq.mp (show (_ == bmVE) = true from e))
  | .bool _ :: r, e => by cases (beq_iff_eq.mp (show (_ == bmVE) = true from e))
  | .int _ _ :: r, e => by cases (beq_iff_eq.mp (show (_ == bmVE) = true from e))
  | .float _ _ :: r, e => by cases (beq_iff_eq.mp (show (_ == bmVE) = true from e))
  | .str _ _ :: r, e => by cases (beq_iff_eq.mp (show (_ == bmVE) = true from e))
  | .bytes _ _ :: r, e => by cases (beq_iff_eq.mp (show (_ == bmVE) = true from e))
  | .builtin _ :: r, e => by cases (beq_iff_eq.mp (show (_ == bmVE) = true from e))
  | .notImplemented :: r, e => by cases (beq_iff_eq.mp (show (_ == bmVE) = true from e))
theorem ve_has {T : String} (h : bmVE.contains (.type T) = true) : ∀ {l : List Value}, onlyVE l = true → l.contains (.type T) = true
  | .ref c :: r, e => by rw [List.contains_cons, ve_has h (l := r) (by exact e), Bool.or_true]
  | [], e => by cases e
  | .type n :: r, e => by
    have z : (Value.type n :: r) = bmVE := beq_iff_eq.mp (show ((Value.type n :: r) == bmVE) = true from e)
    rw [z]
    exact h
  | .none :: r, e => by cases (beq_iff_eq.mp (show (_ == bmVE) = true from e))
  | .bool _ :: r, e => by cases (beq_iff_eq.mp (show (_ == bmVE) = true from e))
  | .int _ _ :: r, e => by cases (beq_iff_eq.mp (show (_ == bmVE) = true from e))
  | .float _ _ :: r, e => by cases (beq_iff_eq.mp (show (_ == bmVE) = true from e))
  | .str _ _ :: r, e => by cases (beq_iff_eq.mp (show (_ == bmVE) = true from e))
  | .bytes _ _ :: r, e => by cases (beq_iff_eq.mp (show (_ == bmVE) = true from e))
  | .builtin _ :: r, e => by cases (beq_iff_eq.mp (show (_ == bmVE) = true from e))
  | .notImplemented :: r, e => by cases (beq_iff_eq.mp (show (_ == bmVE) = true from e))
def xOver (K : Frag) (C : Addr) : Bool := (PySem.W.clsIn K C).any fun cd => onlyVE cd.mro && cd.hasDict
structure XFld (K : Frag) (C : Addr) : Prop where
  sa : PySem.W.findIn K (.ref C) "__setattr__" = some (some (.builtin "object.__setattr__"))
  ov : xOver K C = true
  xc : XCls K C
section
variable {prog : Program} {w : World} {A : Around} {E : Value → Shared → Prop} {s : Shared} {K : Frag} {x C : Addr} {o : Obj} {vs : Array Value} {name : Str} {v : Value} {R : Result → Shared → Prop}
theorem xosa_open {ox : Obj} {od : Option Obj} {tk : Tok} (X : K.In s.heap) (I : InstAt s.heap x ox C od) (c : XFld K C) (n : NoAttr K C name)
    (h : wpAny (model prog w) A.in1 (storeInOwnDict (.ref x) (.ref C) (.str name tk) name v false)
      (fun fin s' => match fin with | .done f => R (.ok f) s' | .again c' => c'.quiet = true ∧ codeAny (model prog w) A c' R s') (fun e s' => R (.error e) s') s) :
    codeAny (model prog w) A (.call (.builtin "object.__setattr__") ⟨[.ref x, .str name tk, v], []⟩) R s := by
  have SF := PySem.F.store_object
  obtain ⟨cd, hc, ho⟩ := PySem.W.any_some c.ov
  rw [Bool.and_eq_true] at ho
  have ne : cd.mro.isEmpty = false := by
    cases q : cd.mro with
    | nil => rw [q] at ho; cases ho.1
    | cons _ _ => rfl
  have sub : Looks (model prog w) s.heap (isInstance (.ref x) (.type "object")) true := I.type.andThen (looks_mroIn X (by unfold PySem.W.mroIn; rw [hc, Option.bind_some, if_neg (by rw [ne]; decide), ve_has (by decide) ho.1]))
  refine codeAny_call_builtin SF.slot.plain SF.entry (@PySem.W.check_slot (model prog w) _ _ s "object.__setattr__" "object" "__setattr__" (.ref x) [.str name tk, v] [] _ SF.kind SF.split sub (SF.args (.ref x) (.str name tk) v) ?_)
  have hm : Looks (model prog w) s.heap (mroOf (.ref C)) cd.mro := (looks_clsIn X hc).andThen .now
  rw [PySem.W.osa_eq, refuse_eq]
  refine wpAny_bind (wpAny_bind (I.type.here (wpAny_bind (hm.here ?_))))
  rw [refuse_ve _ ho.1]
  exact wpAny_pure (wpAny_bind (I.type.here (wpAny_bind ((looks_findIn X n).here (wpAny_bind (wpAny_pure h))))))
theorem xinst {h : Heap} (hx : h.get? x = some o) (hc : o.cls = .ref C) (hd : o.data = .fields vs) (hdn : o.dict = none) : InstAt h x o C none :=
  ⟨hx, hc, by unfold PySem.W.notCls; rw [hd], by rw [hdn]; trivial⟩
theorem xinst' {h : Heap} {dx : Addr} {od : Obj} (hx : h.get? x = some o) (hc : o.cls = .ref C) (hd : o.data = .fields vs) (hdn : o.dict = some dx) (e : h.get? dx = some od) : InstAt h x o C (some od) :=
  ⟨hx, hc, by unfold PySem.W.notCls; rw [hd], by rw [hdn]; exact e⟩
theorem xset_new {Q : Unit → Shared → Prop} (X : K.In s.heap) (c : XFld K C) (n : NoAttr K C name) (hx : s.heap.get? x = some o) (hc : o.cls = .ref C) (hd : o.data = .fields vs) (hdn : o.dict = none)
    (h : ∀ h' tk, h'.get? x = some { o with dict := some s.heap.objs.size } → h'.Ns1 s.heap.objs.size (fun y => if y = name then some v else none) → (∀ b ob, b ≠ x → s.heap.get? b = some ob → h'.get? b = some ob) → Q () { s with heap := h', toks := tk }) :
    wpAny (model prog w) A (setAttr (.ref x) name v) Q E s := by
  have J := xinst hx hc hd hdn
  refine PySem.W.set_plain X J c.sa (xosa_open (s := { s with toks := s.toks + 1 }) X J c n ?_)
  obtain ⟨cd, hcd, ho⟩ := PySem.W.any_some c.ov
  rw [Bool.and_eq_true] at ho
  obtain ⟨oc, od, oda, osl⟩ := o
  dsimp only at hc hd hdn
  subst hc hd hdn
  have hx₁ : (s.heap.push { cls := .type "dict", data := .dict #[] }).get? x = some ⟨.ref C, none, .fields vs, osl⟩ := Heap.get?_push_of_some _ hx
  have hxs : x ≠ s.heap.objs.size := Nat.ne_of_lt (Heap.lt_size hx)
  refine wpAny_bind (wpAny_pure (wpAny_bind (wpAny_bind (wpAny_loadPart hx (wpAny_bind (PySem.W.Looks.here (s := { s with toks := s.toks + 1 }) (PySem.W.looks_clsIn X hcd) ?_))))))
  rw [ho.2]
  rw [if_neg (by decide)]
  dsimp only
  rw [if_neg (by simp [typeHasDict])]
  refine wpAny_bind (wpAny_alloc' ?_)
  refine wpAny_bind (wpAny_update' hx₁ ?_)
  refine wpAny_pure ?_
  have hgd : ((s.heap.push { cls := .type "dict", data := .dict #[] }).update x fun o => { cls := o.cls, dict := some s.heap.objs.size, data := o.data, slots := o.slots }).get? s.heap.objs.size
      = some { cls := .type "dict", data := .dict #[] } :=
    (Heap.get?_update_ne _ _ _ _ hxs.symm).trans (Heap.get?_push_at rfl rfl)
  have hnd : ((s.heap.push { cls := .type "dict", data := .dict #[] }).update x fun o => { cls := o.cls, dict := some s.heap.objs.size, data := o.data, slots := o.slots }).Ns s.heap.objs.size (fun _ => none) :=
    ⟨_, #[], _, hgd, rfl, fun e he => absurd he (by simp), fun _ => rfl⟩
  show wpAny _ _ (storeInDict s.heap.objs.size (.str name s.toks) name v) _ _ _
  unfold storeInDict newKeyGuard
  refine wpAny_bind (wpAny_pure (wpAny_bind (wpAny_nsSet1 (Heap.Ns1.of_empty hnd) fun h' hn' hs => ?_)))
  obtain ⟨oD, esD, epD, hoD, hdD, hcD⟩ := hn'.count (Within.cons name v Within.nil)
  refine wpAny_bind (wpAny_lookBehind hoD (by rw [hdD]; exact pastItsLine_dict (Nat.le_trans hcD (by rw [List.length_cons, List.length_nil, sizeLine_eq]; omega))) ?_)
  refine wpAny_pure ?_
  refine h h' _ ?_ hn' fun b ob hbx hb => ?_
  · exact (hs.2 x hxs).trans (Heap.get?_update_self _ hx₁ rfl)
  · exact (hs.2 b (Nat.ne_of_lt (Heap.lt_size hb))).trans ((Heap.get?_update_ne _ _ _ _ hbx).trans (Heap.get?_push_of_some _ hb))
theorem xset_old {Q : Unit → Shared → Prop} {dx : Addr} {mA : Str → Option Value} {ns : List Str} (X : K.In s.heap) (c : XFld K C) (n : NoAttr K C name) (hx : s.heap.get? x = some o) (hc : o.cls = .ref C) (hd : o.data = .fields vs) (hdn : o.dict = some dx) (hns : s.heap.Ns1 dx mA)
    (hw : PySem.Within mA ns) (hsz : ns.length ≤ 1000)
    (h : ∀ h', h'.Ns1 dx (fun y => if y = name then some v else mA y) → Heap.SameBut dx s.heap h' → Q () { s with heap := h', toks := s.toks + 2 }) :
    wpAny (model prog w) A (setAttr (.ref x) name v) Q E s := by
  obtain ⟨od, es, ep, e, c'⟩ := id hns
  have J := xinst' hx hc hd hdn e
  refine PySem.W.set_plain X J c.sa (xosa_open (s := { s with toks := s.toks + 1 }) X J c n ?_)
  obtain ⟨cd, hcd, ho⟩ := PySem.W.any_some c.ov
  rw [Bool.and_eq_true] at ho
  obtain ⟨oc, od, oda, osl⟩ := o
  dsimp only at hc hd hdn
  subst hc hd hdn
  refine wpAny_bind (wpAny_pure (wpAny_bind (wpAny_bind (wpAny_loadPart hx (wpAny_bind (PySem.W.Looks.here (s := { s with toks := s.toks + 1 }) (PySem.W.looks_clsIn X hcd) ?_))))))
  rw [ho.2]
  refine wpAny_pure (a := some dx) (wpAny_bind (wpAny_pure (wpAny_bind ?_)))
  refine wpAny_nsSet1 (s := { s with toks := s.toks + 1 }) hns fun h' hn2 hs2 => ?_
  obtain ⟨oD, esD, epD, hoD, hdD, hcD⟩ := hn2.count (PySem.Within.cons name v hw)
  refine wpAny_bind (wpAny_lookBehind hoD (by rw [hdD]; exact pastItsLine_dict (Nat.le_trans hcD (by rw [List.length_cons, sizeLine_eq]; omega))) ?_)
  exact wpAny_pure (h _ hn2 hs2)
theorem xget {Q : Value → Shared → Prop} {dx : Addr} {mA : Str → Option Value} {b : Bool} (X : K.In s.heap) (c : XFld K C) (n : NoAttr K C name) (hx : s.heap.get? x = some o) (hc : o.cls = .ref C) (hd : o.data = .fields vs) (hdn : o.dict = some dx) (hns : s.heap.Ns1 dx mA)
    (hv : mA name = some v) (hv' : PySem.W.handedIn v = true) (h : ∀ tk, Q v { s with toks := tk }) : wpAny (model prog w) A (getAttr (.ref x) name b) Q E s := by
  obtain ⟨od, e, hl⟩ := lookIn_ns hns
  have J := xinst' hx hc hd hdn e
  have hD : PySem.W.hasDictIn K C = true := by
    obtain ⟨cd, hcd, ho⟩ := PySem.W.any_some c.ov
    rw [Bool.and_eq_true] at ho
    unfold PySem.W.hasDictIn
    rw [hcd]
    exact ho.2
  have hf := PySem.W.findObj_own (v := v) hD n rfl (by rw [hl, hv])
  have I : ExcAt x C s.heap := ⟨o, vs, hx, hc, hd⟩
  have L0 := J.type (M := model prog w)
  have L1 := looks_findIn (M := model prog w) X c.xc.ga
  have L2 := looks_findIn (M := model prog w) X c.xc.gt
  have L3 := PySem.W.looks_find (M := model prog w) X J hf
  have hb := F.excAttr_ValueError.ga.bind (.ref x)
  obtain ⟨hh, g, dr, t, os⟩ := s
  unfold getAttr getAttrBy
  refine wpAny_bind (wpAny_mkText (wpAny_holding (wpAny_bind (L0.at (wpAny_bind (L1.at ?_))))))
  show wpAny _ _ (getAttrByItsOwn _ _ _ _ _ _) _ _ _
  unfold getAttrByItsOwn
  refine wpAny_bind (show wpAny _ _ (typeLookup (.ref C) "__getattr__") _ _ _ from L2.at ?_)
  refine wpAny_bind (wpAny_attempt (wpAny_holding ?_))
  unfold callGetattribute
  rw [if_neg (by simp [onTheHeap])]
  unfold boundAndCalled
  rw [hb]
  refine wpAny_bind (wpAny_pure (wpAny_call ?_))
  refine codeAny_call_builtin F.excAttr_ValueError.ga.plain F.entry_bexc_ga (xcls_check X c.xc I ?_)
  unfold Builtin.«object.__getattribute__»
  refine wpAny_bind (wpAny_pure (wpAny_bind (wpAny_pure (wpAny_bind (L0.at (wpAny_bind (L3.at ?_)))))))
  refine wpAny_pure ?_
  show wpAny _ _ (handedOut v) _ _ _
  exact PySem.W.handed_on hv' (h _)
end
end L2

set_option Elab.async false
set_option linter.all false
set_option maxRecDepth 100000
set_option maxHeartbeats 1000000
namespace L2
open PySem PySem.Spec PyProof.Rows
open PySem.W (Frag Looks InstAt looks_findIn looks_specialIn looks_takesIn looks_mroIn looks_subIn looks_typeIn looks_clsIn tailIn nsOkIn nsIn)
def excInI (K : Frag) (C fI : Addr) : Bool := match K.lookup C with
  | some ⟨.type "type", _, .cls cd, sl⟩ => (match cd.mro, sl.toList with
    | .ref C' :: bm, [_, _, _, _, some (.builtin n), _] => C' == C && n == "ValueError.__new__" && !cd.hasDel && tailIn K bmVE bm && nsOkIn K cd.ns && nsIn K cd.ns "__init__" == some (some (.ref fI))
    | _, _ => false)
  | _ => false
theorem ns_some_of {K : Frag} {h : Heap} {N : Addr} {mg : Str → Option Value} {n : Str} {v : Value} (X : K.In h) (G : h.Ns N mg) (e : nsIn K N n = some (some v)) : mg n = some v := by
  obtain ⟨o, es, ep, ho, hd, _, hf⟩ := G
  unfold nsIn at e
  split at e
  · rename_i c d es' n' sl q
    have := X _ _ q
    rw [ho] at this
    cases this
    cases hd
    split at e
    · rename_i en he
      cases e
      rw [← hf]
      unfold nsFind findBy
      rw [← Array.find?_toList, he]
      rfl
    · split at e <;> cases e
  · cases e
theorem excI_obj {K : Frag} {C fI : Addr} {h : Heap} (X : K.In h) (q : excInI K C fI = true) : ∃ nm qn N bs bm hdct sn sub ab col dd k0 k1 k2 k3 k5 mN,
    h.get? C = some (excClassObj nm qn C N bs bm hdct sn sub ab col dd k0 k1 k2 k3 k5 "ValueError.__new__") ∧ h.Ns N mN ∧ mN "__init__" = some (.ref fI) ∧ OwnTail h bmVE bm := by
  unfold excInI at q
  split at q
  · rename_i dd cd sl ho
    split at q
    · rename_i C' bm k0 k1 k2 k3 n k5 hm hs
      simp only [Bool.and_eq_true, beq_iff_eq, Bool.not_eq_true'] at q
      obtain ⟨⟨⟨⟨⟨rfl, rfl⟩, hdel⟩, ht⟩, hok⟩, hni⟩ := q
      obtain ⟨nm, bs, mro, ns, qn, hd, sn, sub, ab, col, del⟩ := cd
      dsimp only at hm hdel hok hni
      subst hm hdel
      have hsl : sl = #[k0, k1, k2, k3, some (.builtin "ValueError.__new__"), k5] := by
        obtain ⟨l⟩ := sl
        simp only at hs
        rw [hs]
      subst hsl
      have hN : h.Ns ns (h.nsMap ns) := .of_isNs (PySem.W.isNs_of_in X hok)
      exact ⟨nm, qn, ns, bs, bm, hd, sn, sub, ab, col, dd, k0, k1, k2, k3, k5, h.nsMap ns, X _ _ ho, hN, ns_some_of X hN hni, PySem.W.tail_of_in X ht⟩
    · cases q
  · cases q
section
variable {prog : Program} {w : World} {A : Around} {E : Value → Shared → Prop} {h : Heap} {g : Array GenState} {d : Drawn} {t : Nat} {os : OsState}
variable {nm q : Str} {C N : Addr} {bs bm bmB : List Value} {hdct : Bool} {sn : List Str} {sub : List Value} {ab : Bool} {col : Option Bool} {dd : Option Addr} {k0 k1 k2 k3 k5 : Option Value} {B newId initId : String}
theorem wpAny_type_call_exc_initT (F : ExcBaseFacts B newId initId bmB) (T : OwnTail h bmB bm) {mN : Str → Option Value} {rest : List Value} {fI : Addr} {oI : Obj} {Q : Fin → Shared → Prop}
    (hC : h.get? C = some (excClassObj nm q C N bs bm hdct sn sub ab col dd k0 k1 k2 k3 k5 newId)) (hn : h.Ns N mN) (hi : mN "__init__" = some (.ref fI))
    (hfI : h.get? fI = some oI) (hfc : oI.cls = .type "function")
    (hq : ∀ h' e, Heap.MadeExcOf h h' e (.ref C) rest →
      wpAny (model prog w) A (call (.ref fI) (.ref e :: rest)) (fun r s' => r = .none ∧ Q (.done (.ret (.ref e))) s') E ⟨h', g, d, t, os⟩) (hrest : rest.length ≤ sizeLine := by size_fits) :
    wpAny (model prog w) A (Builtin.«type.__call__» ⟨.ref C :: rest, []⟩) Q E ⟨h, g, d, t, os⟩ := by
  repeat (first | with_reducible refine wpAny_loadPart_at hC ?_ | with_reducible refine wpAny_madeBy_exc hC ?_ | wp_step)
  refine codeAny_call_builtin_code (Code.quiet_builtin _ F.quiet) (wpAny_check_new_subT F T hC ?_)
  refine codeAny_exc_new_subT F T hC ?_ hrest
  show wpAny _ _ _ _ _ _
  have hC₁ := Heap.get?_push_of_some { cls := .ref C, data := .fields #[.ref h.objs.size, .none, .none, .none, .bool false, .none] }
    (Heap.get?_push_of_some { cls := .type "tuple", data := .seq rest.toArray } hC)
  have hfI₁ := Heap.get?_push_of_some { cls := .ref C, data := .fields #[.ref h.objs.size, .none, .none, .none, .bool false, .none] }
    (Heap.get?_push_of_some { cls := .type "tuple", data := .seq rest.toArray } hfI)
  have hn₁ : ((h.push { cls := .type "tuple", data := .seq rest.toArray }).push { cls := .ref C, data := .fields #[.ref h.objs.size, .none, .none, .none, .bool false, .none] }).Ns N mN :=
    let ⟨o, es, ep, e, r⟩ := hn; ⟨o, es, ep, Heap.get?_push_of_some _ (Heap.get?_push_of_some _ e), r⟩
  have hget : ((h.push { cls := .type "tuple", data := .seq rest.toArray }).push
      { cls := .ref C, data := .fields #[.ref h.objs.size, .none, .none, .none, .bool false, .none] }).get? (h.objs.size + 1) = some
      { cls := .ref C, data := .fields #[.ref h.objs.size, .none, .none, .none, .bool false, .none] } := by heap_get
  have hcC : (Value.ref C :: bm).contains (.ref C) = true := by simp
  have T₁ := T.keeps (h' := (h.push { cls := .type "tuple", data := .seq rest.toArray }).push { cls := .ref C, data := .fields #[.ref h.objs.size, .none, .none, .none, .bool false, .none] })
    fun b o e => Heap.get?_push_of_some _ (Heap.get?_push_of_some _ e)
  unfold isInstance
  repeat (first | with_reducible refine wpAny_loadPart_at hget ?_ | (with_reducible refine wpAny_isSubtype_exc hC₁ ?_; rw [hcC]) | wp_step)
  show wpAny _ _ (typeLookup (.ref C) _) _ _ _
  refine wpAny_typeLookup_tail hC₁ hn₁ T₁ F.mroIs F.init.lookup ?_
  rw [hi]
  refine wpAny_holding (wpAny_bind ?_)
  unfold bindSpecial
  refine wpAny_bind (wpAny_typeOf (T := "function") ⟨_, hfI₁, hfc⟩ ?_)
  rw [if_pos (by decide)]
  refine wpAny_pure (wpAny_bind (wpAny_mono (hq _ (h.objs.size + 1) ⟨fun b o hb => Heap.get?_push_of_some _ (Heap.get?_push_of_some _ hb), Heap.get?_none_of_le (Nat.le_succ _), h.objs.size, hget, Heap.get?_none_of_le (Nat.le_refl _), ?_⟩) (fun r s' hr => ?_) fun _ _ x => x))
  · exact Heap.get?_push_of_some _ (Heap.get?_push_at rfl rfl)
  · obtain ⟨rfl, hQ⟩ := hr
    wp_walk
    exact hQ
theorem wpAny_call_exc_initT (F : ExcBaseFacts B newId initId bmB) (T : OwnTail h bmB bm) {mN : Str → Option Value} {rest : List Value} {fI : Addr} {oI : Obj} {Q : Value → Shared → Prop}
    (hC : h.get? C = some (excClassObj nm q C N bs bm hdct sn sub ab col dd k0 k1 k2 k3 k5 newId)) (hn : h.Ns N mN) (hi : mN "__init__" = some (.ref fI))
    (hfI : h.get? fI = some oI) (hfc : oI.cls = .type "function")
    (hq : ∀ h' e, Heap.MadeExcOf h h' e (.ref C) rest →
      wpAny (model prog w) (A.under (.builtin "type.__call__" ⟨.ref C :: rest, []⟩)) (call (.ref fI) (.ref e :: rest)) (fun r s' => r = .none ∧ Q (.ref e) s') E ⟨h', g, d, t, os⟩) (hrest : rest.length ≤ sizeLine := by size_fits) :
    wpAny (model prog w) A (call (.ref C) rest) Q E ⟨h, g, d, t, os⟩ := by
  have f1 := tc_lookup
  have f2 := tc_bind (.ref C)
  have hT : (⟨h, g, d, t, os⟩ : Shared).TypeIs (.ref C) "type" := ⟨_, hC, rfl⟩
  refine wpAny_call (codeAny_of_tree ?_)
  show wpAny _ _ (callAny (.ref C) _) _ _ _
  repeat (any_goals (first | assumption | with_reducible refine wpAny_loadPart_at hC ?_ | wp_step))
  refine ⟨rfl, ?_⟩
  refine codeAny_call_builtin_at (Code.quiet_builtin _ (by decide +kernel)) entry_typeCall (wpAny_check_type_call_sub hC (wpAny_type_call_exc_initT (hrest := hrest) F T hC hn hi hfI hfc fun h' e hm => ?_))
  exact hq h' e hm
theorem wpAny_ve_init (F : ExcBaseFacts B newId initId bmB) (T : OwnTail h bmB bm) {e : Addr} {oe : Obj} {vs : Array Value} {rest : List Value} {Q : Value → Shared → Prop}
    (hC : h.get? C = some (excClassObj nm q C N bs bm hdct sn sub ab col dd k0 k1 k2 k3 k5 newId)) (he : h.get? e = some oe) (hcls : oe.cls = .ref C) (hd : oe.data = .fields vs) (h0 : 0 < vs.size)
    (hq : ∀ h' T, h'.get? e = some (Obj.mapFields (·.setIfInBounds 0 (.ref T)) oe) → (∀ b o, b ≠ e → h.get? b = some o → h'.get? b = some o) → Q .none ⟨h', g, d, t, os⟩) (hrest : rest.length ≤ sizeLine := by size_fits) :
    wpAny (model prog w) A (call (.builtin initId) (.ref e :: rest)) Q E ⟨h, g, d, t, os⟩ := by
  refine wpAny_call (codeAny_call_builtin F.init.plain F.initEntry (wpAny_check_init_subT F T hC he hcls ?_))
  obtain ⟨v0, hv0⟩ : ∃ v0, vs[0]? = some v0 := ⟨_, Array.getElem?_eq_getElem h0⟩
  unfold Builtin.«BaseException.__init__»
  refine wpAny_bind ?_
  refine wpAny_newTuple ?_ (by simpa using hrest)
  have he₁ := Heap.get?_push_of_some { cls := .type "tuple", data := .seq rest.toArray } he
  unfold Builtin.BaseException.bexcPut
  refine wpAny_bind (wpAny_bind (wpAny_field he₁ hd hv0 (wpAny_bind (wpAny_setField he₁ hd h0 ?_))))
  have fin : wpAny (model prog w) A.in1 (ret Value.none) (fun fin s' => match fin with
      | Fin.done f => (match Except.ok f with | Except.ok (Flow.ret v) => Q v s' | Except.ok a => False | Except.error e => E e s')
      | Fin.again c' => c'.quiet = true ∧ codeAny (model prog w) A c' (fun r s' => match r with | Except.ok (Flow.ret v) => Q v s' | Except.ok a => False | Except.error e => E e s') s')
      (fun e s' => match Except.error e with | Except.ok (Flow.ret v) => Q v s' | Except.ok a => False | Except.error e => E e s')
      ⟨(h.push { cls := .type "tuple", data := .seq rest.toArray }).update e (Obj.mapFields (·.setIfInBounds 0 (Value.ref h.objs.size))), g, d, t, os⟩ := by
    refine wpAny_pure (hq _ h.objs.size (Heap.get?_update_self _ he₁ (Obj.isFreed_of_fields (Obj.data_mapFields hd _))) fun b o hb hbo => ?_)
    rw [Heap.get?_update_other _ _ hb.symm]
    exact Heap.get?_push_of_some _ hbo
  cases v0 with
  | ref a => exact wpAny_letGo fin
  | _ => exact wpAny_pure fin
end
end L2

set_option Elab.async false
set_option linter.all false
set_option maxRecDepth 100000
set_option maxHeartbeats 1000000
namespace L2
open PySem PySem.Spec PyProof.Rows
open PySem.W (Frag)
def ExcN (a D : Addr) (dd : Option Addr) (h : Heap) : Prop := ∃ o vs, h.get? a = some o ∧ o.cls = .ref D ∧ o.data = .fields vs ∧ o.dict = dd ∧ vs.size = 6 ∧ vs[1]? = some .none
def excN (a D : Addr) (dd : Option Addr) : HO := .ext (ExcN a D dd)
def ExcF (a D dx : Addr) (h : Heap) : Prop := ∃ o vs, h.get? a = some o ∧ o.cls = .ref D ∧ o.data = .fields vs ∧ o.dict = some dx
def excF (a D dx : Addr) : HO := .ext (ExcF a D dx)
section
variable {P : Program} {w : World} {H : Hp} {h : Heap} {a D dx : Addr} {dd : Option Addr}
theorem excN_ok (x : ExcN a D dd h) : ObjOk P w H h a (excN a D dd) := by
  obtain ⟨o, vs, e, r⟩ := x
  exact ⟨⟨o, vs, e, r⟩, ⟨o, e⟩, fun h1 h2 ⟨o1, vs1, e1, r1⟩ k => ⟨o1, vs1, k _ e1, r1⟩⟩
theorem excF_ok (x : ExcF a D dx h) : ObjOk P w H h a (excF a D dx) := by
  obtain ⟨o, vs, e, r⟩ := x
  exact ⟨⟨o, vs, e, r⟩, ⟨o, e⟩, fun h1 h2 ⟨o1, vs1, e1, r1⟩ k => ⟨o1, vs1, k _ e1, r1⟩⟩
end
def loose : HO → Prop
  | .ext _ => True
  | .xd _ => True
  | _ => False
section
variable {X : Cx} {pins : List (Addr × Obj)} {σ : St} {H H' : Hp} {s : Shared} {h' : Heap} {a C dx : Addr} {f : Str} {y : V} {u : Value} {fs : List (Str × V)}
theorem Inv.retrack {t' : Nat} (I : Inv X pins σ H s) (ch : Addr → Prop) (tr : ∀ b, ch b → (∃ u, H b = some u ∧ loose u) ∨ s.heap.get? b = none) (keep : ∀ b o, ¬ ch b → s.heap.get? b = some o → h'.get? b = some o)
    (there : ∀ b o, ch b → s.heap.get? b = some o → ∃ o', h'.get? b = some o') (same : ∀ b, ¬ ch b → H' b = H b) (ok : ∀ b u, ch b → H' b = some u → ObjOk X.prog X.w H' h' b u) : Inv X pins σ H' { s with heap := h', toks := t' } := by
  have nch : ∀ b o, s.heap.get? b = some o → H b = none → ¬ ch b := fun b o e n z => by
    rcases tr b z with ⟨u, q, _⟩ | q
    · rw [n] at q; cases q
    · rw [e] at q; cases q
  have nch2 : ∀ b u, H b = some u → ¬ loose u → ¬ ch b := fun b u e n z => by
    rcases tr b z with ⟨u', q, l⟩ | q
    · rw [e] at q; cases q; exact n l
    · obtain ⟨ob, e'⟩ := (I.hok b u e).here
      rw [e'] at q; cases q
  refine I.un ⟨fun b o e n _ _ => keep b o (nch b o e n) e, fun b o e n _ _ => ⟨o.slots, keep b o (nch b o e n) e⟩, fun b o e n _ => by rw [same b (nch b o e n)]; exact n, fun b o e _ => ?_, fun b xs e => ?_, fun b o u e => ?_, fun b ps e => ⟨#[], ?_⟩⟩ fun b u e => ?_
  · by_cases z : ch b
    · exact there b o z e
    · exact ⟨o, keep b o z e⟩
  · rw [same b (nch2 b _ e fun z => z)]; exact e
  · rw [same b (nch2 b _ e fun z => z)]; exact e
  · rw [same b (nch2 b _ e fun z => z), e]; simp
  · by_cases z : ch b
    · exact ok b u z e
    · rw [same b z] at e
      refine (I.hok b u e).stay (fun c v hc q => keep c v ?_ q) (fun c q => by rw [same c (nch2 c _ q fun z => z)]; exact q) fun c xs q => by rw [same c (nch2 c _ q fun z => z)]; exact q
      rcases hc with rfl | hc
      · exact z
      · exact nch2 c _ hc fun z => z
theorem setX_new {A : Around} {E : Value → Shared → Prop} {Q : Unit → Shared → Prop} (I : Inv X pins σ H s) (e : H a = some (excN a C none)) (c : XFld X.K C) (n : NoAttr X.K C f) (ry : RelV y u)
    (h : ∀ dx s', H dx = none → dx ≠ a → Inv X pins σ (upd (upd H a (excN a C (some dx))) dx (.xd [(f, y)])) s' → Q () s') : wpAny (model X.prog X.w) A (setAttr (.ref a) f u) Q E s := by
  obtain ⟨o, vs, hx, hc, hd, hdn, sz, h1⟩ := (I.hok a _ e).1
  have fr : H s.heap.objs.size = none := I.hok.fresh (Nat.le_refl _)
  have ne : s.heap.objs.size ≠ a := fun z => by rw [z, e] at fr; cases fr
  refine xset_new I.kIn c n hx hc hd hdn fun h' tk e1 hns k => h s.heap.objs.size _ fr ne ?_
  refine I.retrack (fun b => b = a ∨ b = s.heap.objs.size) (fun b z => ?_) (fun b o z q => k b o (fun z' => z (.inl z')) q) (fun b o z q => ?_) (fun b z => ?_) (fun b u z q => ?_)
  · rcases z with rfl | rfl
    · exact .inl ⟨_, e, trivial⟩
    · exact .inr (Heap.get?_none_of_le (Nat.le_refl _))
  · rcases z with rfl | rfl
    · exact ⟨_, e1⟩
    · rw [Heap.get?_none_of_le (Nat.le_refl _)] at q; cases q
  · rw [upd_ne (fun z' => z (.inr z')), upd_ne (fun z' => z (.inl z'))]
  · rcases z with rfl | rfl
    · rw [upd_ne ne.symm, upd_same] at q
      cases q
      exact excN_ok ⟨_, vs, e1, hc, hd, rfl, sz, h1⟩
    · rw [upd_same] at q
      cases q
      refine ⟨_, hns, fun g => ?_⟩
      by_cases hg : g = f
      · subst hg
        rw [if_pos rfl, List.lookup_cons, beq_self_eq_true]
        exact ry
      · rw [if_neg hg, List.lookup_cons, beq_false_of_ne hg]
        trivial
theorem within_xd {mA : Str → Option Value} (r : ∀ f, RelO (fs.lookup f) (mA f)) : PySem.Within mA (fs.map (·.1)) := by
  intro g hg
  cases e : fs.lookup g with
  | none => exact absurd (RelO.none_of (by rw [← e]; exact r g)) hg
  | some v =>
    clear r hg
    induction fs with
    | nil => cases e
    | cons p q ih =>
      rw [List.lookup_cons] at e
      rw [List.map_cons]
      by_cases z : g = p.1
      · exact List.mem_cons.mpr (.inl z)
      · rw [beq_false_of_ne z] at e
        exact List.mem_cons_of_mem _ (ih e)
theorem setX_old {A : Around} {E : Value → Shared → Prop} {Q : Unit → Shared → Prop} (I : Inv X pins σ H s) (e : H a = some (excN a C (some dx))) (ex : H dx = some (.xd fs)) (c : XFld X.K C) (n : NoAttr X.K C f) (hl : fs.length ≤ 1000) (ry : RelV y u)
    (h : ∀ s', Inv X pins σ (upd H dx (.xd (putF f y fs))) s' → Q () s') : wpAny (model X.prog X.w) A (setAttr (.ref a) f u) Q E s := by
  obtain ⟨o, vs, hx, hc, hd, hdn, sz, h1⟩ := (I.hok a _ e).1
  obtain ⟨mA, hns, r⟩ := (show ObjOk X.prog X.w H s.heap dx (.xd fs) from I.hok dx _ ex)
  refine xset_old I.kIn c n hx hc hd hdn hns (within_xd r) (by rw [List.length_map]; exact hl) fun h' hn sb => h _ ?_
  refine I.retrack (fun b => b = dx) (fun b z => .inl ⟨.xd fs, by rw [z]; exact ex, trivial⟩) (fun b o z q => (sb.2 b z).trans q) (fun b o z q => ?_) (fun b z => by rw [upd_ne z]) (fun b u z q => ?_)
  · obtain ⟨od, es, ep, e', _⟩ := hn
    rw [z]
    exact ⟨_, e'⟩
  · subst z
    rw [upd_same] at q
    cases q
    refine ⟨_, hn, fun g => ?_⟩
    rw [lookup_putF]
    by_cases hg : g = f
    · rw [if_pos hg, if_pos hg]; exact ry
    · rw [if_neg hg, if_neg hg]; exact r g
theorem getX {A : Around} {E : Value → Shared → Prop} {Q : Value → Shared → Prop} {b : Bool} {v : V} (I : Inv X pins σ H s) (e : H a = some (excF a C dx)) (ex : H dx = some (.xd fs)) (c : XFld X.K C) (n : NoAttr X.K C f) (l : fs.lookup f = some v)
    (h : ∀ u s', Inv X pins σ H s' → RelV v u → Q u s') : wpAny (model X.prog X.w) A (getAttr (.ref a) f b) Q E s := by
  obtain ⟨o, vs, hx, hc, hd, hdn⟩ := (I.hok a _ e).1
  obtain ⟨mA, hns, r⟩ := (show ObjOk X.prog X.w H s.heap dx (.xd fs) from I.hok dx _ ex)
  obtain ⟨u, hu, ru⟩ := RelO.some_of (v := v) (o := mA f) (by rw [← l]; exact r f)
  exact xget I.kIn c n hx hc hd hdn hns hu (handed_of ru) fun tk => h u _ (I.tok _) ru
theorem Inv.newX {h' : Heap} {args : List Value} (I : Inv X pins σ H s) (hm : Heap.MadeExcOf s.heap h' a (.ref C) args) : H a = none ∧ Inv X pins σ (upd H a (excN a C none)) { s with heap := h' } := by
  obtain ⟨t, he, htn, ht⟩ := hm.there
  have ha : H a = none := by
    cases q : H a with
    | none => rfl
    | some u =>
      obtain ⟨o, e⟩ := (I.hok a u q).here
      rw [hm.new] at e
      cases e
  refine ⟨ha, I.retrack (t' := s.toks) (fun b => b = a) (fun b z => .inr (by rw [z]; exact hm.new)) (fun b o _ q => hm.keeps b o q) (fun b o _ q => ⟨o, hm.keeps b o q⟩) (fun b z => by rw [upd_ne z]) fun b u z q => ?_⟩
  subst z
  rw [upd_same] at q
  cases q
  exact excN_ok ⟨_, _, he, rfl, rfl, rfl, rfl, rfl⟩
end
def sFldX (K : Frag) (ta tv : TE) (f : Str) : TS := fun D σ H => tv σ H fun y H1 => ta σ H1 fun x H2 => ∃ a C, x = .ref a ∧ XFld K C ∧ NoAttr K C f ∧
  ((H2 a = some (excN a C none) ∧ ∀ dx, H2 dx = none → dx ≠ a → D.nx σ (upd (upd H2 a (excN a C (some dx))) dx (.xd [(f, y)]))) ∨
   (∃ dx fs, H2 a = some (excN a C (some dx)) ∧ H2 dx = some (.xd fs) ∧ fs.length ≤ 1000 ∧ D.nx σ (upd H2 dx (.xd (putF f y fs)))))
def tFldX (K : Frag) (ta : TE) (f : Str) : TE := fun σ H Q => ta σ H fun x H1 => ∃ a C dx fs v, x = .ref a ∧ H1 a = some (excF a C dx) ∧ H1 dx = some (.xd fs) ∧ XFld K C ∧ NoAttr K C f ∧ fs.lookup f = some v ∧ Q v H1
def tXInit (K : Frag) (t : TA) : TE := fun σ H Q => t σ H fun vs H1 => ∃ a C dd fI rest, vs = .ref a :: rest ∧ H1 a = some (excN a C dd) ∧ excInI K C fI = true ∧ rest.length ≤ sizeLine ∧ Q .non H1
structure XUp (K : Frag) (mg : Str → Option Value) (x : Str) (T : Addr) : Prop where
  at_ : mg x = some (.ref T)
  ga : PySem.W.specialIn K (.ref T) "__getattribute__" = some (some (.builtin "type.__getattribute__"))
  rd : PySem.W.readsIn K T (.type "type") = true
  fi : PySem.W.findCls K (.ref T) (.type "type") "__init__" = some (.val (.builtin "ValueError.__init__"))
section
variable {X : Cx} {o e value : Expr} {es : List Expr} {f x : Str} {pos pos' tpos p apos : Pos} {ta tv : TE} {t : TA} {T : Addr}
theorem ps_fldX (ha : PE X o ta) (hv : PE X value tv) (hs : swapsWith value (some (.Attribute o f pos')) pos.line X.env = pure false) : PS X (.Assign [.Attribute o f pos'] value pos) (sFldX X.K ta tv f) := by
  intro pins s σ H D I h
  refine plainObj_wpAny_Assign_Attribute (thn (hv pins s σ H _ I h) fun u s1 ⟨y, H1, I1, ry, q⟩ => thn (ha pins s1 σ H1 _ I1 q) fun ov s2 ⟨x, H2, I2, rx, a, C, ex, c, n, q2⟩ => ?_) hs
  subst ex
  obtain rfl : ov = Value.ref a := rx
  rcases q2 with ⟨e1, q2⟩ | ⟨dx, fs, e1, e2, l, q2⟩
  · exact setX_new I2 e1 c n ry fun dx s3 n1 n2 I3 => ⟨σ, _, I3, q2 dx n1 n2⟩
  · exact setX_old I2 e1 e2 c n l ry fun s3 I3 => ⟨σ, _, I3, q2⟩
theorem pe_fldX (he : PE X e ta) (hb : attributeBase e f X.env (eval e X.env) = eval e X.env) : PE X (.Attribute e f pos) (tFldX X.K ta f) := by
  intro pins s σ H Q I h
  refine attr_of hb (thn (he pins s σ H _ I h) fun u s1 ⟨x, H1, I1, rx, a, C, dx, fs, v, ex, e1, e2, c, n, l, q⟩ => ?_)
  subst ex
  obtain rfl : u = Value.ref a := rx
  exact getX I1 e1 e2 c n l fun u' s2 I2 ru => ⟨v, H1, I2, ru, q⟩
theorem pe_xinit {pl : Sem Bool} (hg : Gl X x) (U : XUp X.K X.mg x T) (ha : PA X (e :: es) t) (hdb : (x == ("__debug__" : Str)) = false := by decide)
    (hst : starEach (e :: es) X.env = (false, eval e X.env) :: starEach es X.env := by rfl) (hpl : (backTo pos (starEach es X.env)).any (·.1) = false := by rfl)
    (ht : eval (.Call (.Attribute (.Name x p) "__init__" apos) (e :: es) [] pos) X.env = (do
      let ov ← eval (.Name x p) X.env
      standAt apos.atName
      let (f, first) ← holding [ov] (getMethod ov "__init__" pl)
      callWith pos f first (backTo pos (starEach (e :: es) X.env)) (backToKw pos (keywordEach [] X.env))) := by rfl) :
    PE X (.Call (.Attribute (.Name x p) "__init__" apos) (e :: es) [] pos) (tXInit X.K t) := by
  intro pins s σ H Q I h
  refine PySem.W.methodCall_KW (pl := pl) (ld_glob I hg U.at_ ?_ hdb) ht
  refine PySem.W.method_cls I.kIn U.ga (PySem.W.cls_value I.kIn U.rd U.fi rfl ?_)
  refine PyProof.Rows.callWith_builtin1 (thn (ha pos pins _ σ H _ (I.tok _) h) fun us s1 ⟨vs, H1, I1, r1, a, C, dd, fI, rest, ev, e1, ei, lr, q⟩ => ?_) hst hpl
  subst ev
  obtain ⟨u, us', rfl, ra, rr⟩ : ∃ u us', us = u :: us' ∧ RelV (.ref a) u ∧ Vals rest us' := by
    cases r1 with
    | cons ra rr => exact ⟨_, _, rfl, ra, rr⟩
  obtain rfl : u = Value.ref a := ra
  obtain ⟨nm, qn, N, bs, bm, hdct, sn, sub, ab, col, dd', k0, k1, k2, k3, k5, mN, hC, hN, hi, TL⟩ := excI_obj I1.kIn ei
  obtain ⟨oe, vs, he, hc, hd, hdn, sz, h1⟩ := (I1.hok a _ e1).1
  obtain ⟨hh, g, dr, tk, os⟩ := s1
  refine wpAny_ve_init PySem.F.excBase_ValueError TL hC he hc hd (by rw [sz]; decide) (fun h' T' e' k => ?_) (by rw [← rr.length]; exact lr)
  refine ⟨.non, H1, I1.retrack (t' := tk) (fun b => b = a) (fun b z => .inl ⟨excN a C dd, by rw [z]; exact e1, trivial⟩) (fun b o z q => k b o z q) (fun b o z _ => z ▸ ⟨_, e'⟩) (fun b z => rfl) (fun b u z q2 => ?_), rfl, q⟩
  subst z
  rw [e1] at q2
  cases q2
  refine excN_ok ⟨_, _, e', (Obj.cls_mapFields _ _).trans hc, Obj.data_mapFields hd _, ?_, by rw [Array.size_setIfInBounds]; exact sz, by rw [Array.getElem?_setIfInBounds_ne (by decide)]; exact h1⟩
  unfold Obj.mapFields
  split <;> exact hdn
end
def rIsiF (K : PySem.W.Frag) : List V → Hp → VK → Prop := fun xs H Q => ∃ a D dx b, H a = some (excF a D dx) ∧ XCls K D ∧ ((∃ C, xs = [.ref a, .ref C] ∧ PySem.W.kitOne K (.ref D) (.ref C) = some b) ∨ (∃ T, xs = [.ref a, .ty T] ∧ PySem.W.kitOne K (.ref D) (.type T) = some b) ∨
  ∃ (p : Addr) (cs : List Addr), xs = [.ref a, .ref p] ∧ H p = some (.tup (cs.map V.ref)) ∧ PySem.W.kitAny K (.ref D) (cs.map Value.ref) = some b) ∧ Q (.bl b) H
theorem call_isiF {X : Cx} {K : PySem.W.Frag} (hK : X.K = K) : CallR X (.builtin "isinstance") (rIsiF K) := by
  subst hK
  intro pins s σ H xs us Q I r h
  obtain ⟨a, D, dx, b, ha, c, h, q⟩ := h
  have ok : ExcAt a D s.heap := by
    obtain ⟨o, vs, e, hc, hd, _⟩ := (I.hok a _ ha).1
    exact ⟨o, vs, e, hc, hd⟩
  have fin : ∀ tk, EP X pins σ Q (.bool b) { s with toks := tk } := fun tk => ⟨.bl b, H, I.tok tk, rfl, q⟩
  rcases h with ⟨C, rfl, e⟩ | ⟨T, rfl, e⟩ | ⟨p, cs, rfl, hp, e⟩
  · obtain ⟨u, u', rfl, r1, r2⟩ := vals2 r
    cases r1
    cases r2
    exact PySem.W.kia_one (kitx_exc c) I.kIn ok e (fun z => nomatch z) fin
  · obtain ⟨u, u', rfl, r1, r2⟩ := vals2 r
    cases r1
    obtain rfl : u' = Value.type T := r2
    exact PySem.W.kia_one (kitx_exc c) I.kIn ok e (fun z => nomatch z) fin
  · obtain ⟨u, u', rfl, r1, r2⟩ := vals2 r
    cases r1
    cases r2
    obtain ⟨_, its, rv, ⟨⟨cl, dd, dt, sl⟩, ho, hc, n, hd⟩, _⟩ := (show ObjOk X.prog X.w H s.heap p (.tup (cs.map V.ref)) from I.hok p _ hp)
    have hc' : cl = .type "tuple" := hc
    have hd' : dt = .seq its.toArray n := hd
    subst hc' hd'
    rw [vals_refs rv] at ho
    exact PySem.W.kia_tup (kitx_exc c) I.kIn ok ho e (fun z => nomatch z) fin
end L2

set_option Elab.async false
set_option linter.all false
set_option maxRecDepth 100000
set_option maxHeartbeats 1000000
namespace L2
open PySem PySem.Spec PyProof.Rows
open PySem.W (Frag)
section
variable {M : Model} {A : Around} {E : Value → Shared → Prop} {s : Shared}
theorem note_first {base : Heap} {env : Env} {outer : List Env} {L e : Addr} {oe : Obj} {vs : Array Value} {Q : Unit → Shared → Prop}
    (hfr : A.frames = some (env :: outer)) (hl : s.heap.FunFrames base (env :: outer)) (hf : env.frame = some L)
    (he : s.heap.get? e = some oe) (hd : oe.data = .fields vs) (h1 : vs[1]? = some .none)
    (h : ∀ h' T oT ts, h'.get? e = some (Obj.mapFields (·.setIfInBounds 1 (.ref T)) oe) → s.heap.objs.size ≤ T → h'.get? T = some oT → oT.data = .fields ts → 3 < ts.size →
      (∀ b o, b ≠ e → b ∉ (env :: outer).filterMap (·.frame) → s.heap.get? b = some o → h'.get? b = some o) → (∀ b o, b ≠ e → s.heap.get? b = some o → ∃ sl, h'.get? b = some { o with slots := sl }) → Q () { s with heap := h' }) :
    wpAny M A (noteFrame (.ref e) env) Q E s := by
  have hsz : 1 < vs.size := (Array.getElem?_eq_some_iff.mp h1).1
  have hene : e ∉ (env :: outer).filterMap (·.frame) := fun hm => by
    obtain ⟨_, o, ho, hnf⟩ := hl.mem hm
    rw [he] at ho; injection ho with ho; subst ho; exact hnf vs hd
  unfold noteFrame
  simp only [hf]
  refine wpAny_bind (wpAny_field he hd h1 ?_)
  rw [if_neg (by decide)]
  refine wpAny_bind (wpAny_frameOf_fun hfr hl hf fun h₁ hs₁ => ?_)
  refine wpAny_bind (wpAny_entryPlaceOf fun pl hpl => ?_)
  unfold EntryCells.newEntry newFields
  refine wpAny_bind (wpAny_newObj_type ?_ (hpl.sizeOk5 _ _ _ _ _))
  have he₁ : h₁.get? e = some oe := (hs₁.2.1 e hene).trans he
  have he₂ := Heap.get?_push_of_some (h := h₁) { cls := .type "traceback", dict := none, data := .fields ([Value.none, .ref L, .none, rawInt L, .none] ++ (if pl.isEmpty then List.replicate 6 Value.none else pl)).toArray } he₁
  refine wpAny_setField he₂ hd hsz ?_
  have hTe : h₁.objs.size ≠ e := Nat.ne_of_gt (Heap.lt_size he₁)
  have hd₃ := Obj.data_mapFields hd (·.setIfInBounds 1 (Value.ref h₁.objs.size))
  have he₃ := Heap.get?_update_self (Obj.mapFields (·.setIfInBounds 1 (Value.ref h₁.objs.size))) he₂ (Obj.isFreed_of_fields hd₃)
  have hT₃ := (Heap.get?_update_other (h₁.push { cls := .type "traceback", dict := none, data := .fields ([Value.none, .ref L, .none, rawInt L, .none] ++ (if pl.isEmpty then List.replicate 6 Value.none else pl)).toArray })
    (Obj.mapFields (·.setIfInBounds 1 (Value.ref h₁.objs.size))) (Ne.symm hTe)).trans (Heap.get?_push_size h₁ rfl)
  have keep : ∀ b o, b ≠ e → h₁.get? b = some o →
      ((h₁.push { cls := .type "traceback", dict := none, data := .fields ([Value.none, .ref L, .none, rawInt L, .none] ++ (if pl.isEmpty then List.replicate 6 Value.none else pl)).toArray }).update e (Obj.mapFields (·.setIfInBounds 1 (Value.ref h₁.objs.size)))).get? b = some o :=
    fun b o hbe hb => by
      rw [Heap.get?_update_other _ _ (Ne.symm hbe)]
      exact Heap.get?_push_of_some _ hb
  refine h _ h₁.objs.size _ _ he₃ ?_ hT₃ rfl ?_ (fun b o hb hn q => keep b o hb ((hs₁.2.1 b hn).trans q)) fun b o hb q => ?_
  · have := hs₁.1
    omega
  · simp only [List.size_toArray, List.length_append, List.length_cons, List.length_nil]
    omega
  · obtain ⟨sl, z⟩ := hs₁.2.2 b o q
    exact ⟨sl, keep b _ hb z⟩
theorem flight_none {e T : Addr} {oe oT : Obj} {vs ts : Array Value} {Q : Unit → Shared → Prop} (he : s.heap.get? e = some oe) (hd : oe.data = .fields vs) (h1 : vs[1]? = some (.ref T)) (hT : s.heap.get? T = some oT) (hdT : oT.data = .fields ts) (h3 : 3 < ts.size)
    (h : ∀ h' oT' ts', (∀ b, b ≠ T → h'.get? b = s.heap.get? b) → h'.get? T = some oT' → oT'.data = .fields ts' → 3 < ts'.size → Q () { s with heap := h' }) : wpAny M A (setFlight (.ref e) none) Q E s := by
  unfold setFlight
  refine wpAny_bind (wpAny_field he hd h1 ?_)
  rw [if_pos (show (Value.ref T != Value.none) = true from by simp)]
  refine wpAny_setField hT hdT h3 (h _ _ _ (fun b hb => Heap.get?_update_other _ _ (Ne.symm hb)) (Heap.get?_update_self _ hT (Obj.isFreed_of_fields (Obj.data_mapFields hdT _))) (Obj.data_mapFields hdT _) (by rw [Array.size_setIfInBounds]; exact h3))
end
section
variable {M : Model} {A : Around} {E : Value → Shared → Prop} {env : Env}
variable {nm q : Str} {C N : Addr} {bs bm : List Value} {hdct : Bool} {sn : List Str} {sub : List Value} {ab : Bool} {col : Option Bool} {dd : Option Addr} {k0 k1 k2 k3 k5 : Option Value} {newId : String}
theorem raiseStmt_x {s : Shared} {x : Sem Value} {Q : Flow → Shared → Prop} (hbase : bm.contains (.type "BaseException") = true) (hh : A.handled = none)
    (h : wpAny M A x (fun v s₁ => ∃ e oe, v = .ref e ∧ s₁.heap.get? C = some (excClassObj nm q C N bs bm hdct sn sub ab col dd k0 k1 k2 k3 k5 newId) ∧
      s₁.heap.get? e = some oe ∧ oe.cls = .ref C ∧ (∃ vs, oe.data = .fields vs ∧ vs[1]? = some .none) ∧ E (.ref e) s₁) E s) :
    wpAny M A (raiseStmt env (some x) none) Q E s := by
  have hcB : (Value.ref C :: bm).contains (.type "BaseException") = true := by rw [List.contains_cons, hbase, Bool.or_true]
  unfold raiseStmt
  refine wpAny_bind (wpAny_mono h (fun v s₁ h₁ => ?_) fun _ _ x => x)
  obtain ⟨e, oe, rfl, hC, he, hc, ⟨vs, hd, h1⟩, hE⟩ := h₁
  obtain ⟨hp, g, d, tk, os⟩ := s₁
  obtain ⟨oc, od, oda, osl⟩ := oe
  dsimp only at hc hd
  subst hc hd
  repeat (first | with_reducible refine wpAny_loadPart_at he ?_ | with_reducible refine wpAny_loadPart_at hC ?_ | (with_reducible refine wpAny_isSubtype_exc hC ?_; rw [hcB]) | wp_step)
  rw [h1]
  refine wpAny_pure ?_
  rw [if_neg (by decide)]
  exact wpAny_pure (wpAny_raiseNew_none hh hE)
end
structure XMk (P : Program) (w : World) (K : Frag) (mg : Str → Option Value) (base : Heap) (x : Str) (C : Addr) (k : Nat) (ps : List Str) (sp : Sp) : Prop where
  ex : ∃ f fd, excInI K C f = true ∧ PySem.W.isFn K (.ref f) = true ∧ FnOk P w K mg base CX0 k f fd ps sp ∧ Binds K fd ps []
  at_ : mg x = some (.ref C)
  kp : PySem.W.keepIn K (.ref C) = true
def tTryR (K : Frag) (C CT : Addr) (sp : Sp) (t : TA) (i : Nat) (ts : TS) : TS := fun D σ H => t σ H fun vs H1 => vs.length ≤ sizeLine ∧ ∀ a, H1 a = none → sp (.ref a :: vs) (upd H1 a (excN a C none)) (fun r H2 => r = .non ∧ ∃ dx, H2 a = some (excN a C (some dx)) ∧
  PySem.W.subIn K (.ref C) (.ref CT) = some true ∧ ts { nx := fun _ _ => False, rt := D.rt } (σ.set i (some (.ref a))) (upd H2 a (excF a C dx))) E0
section
variable {X : Cx} {x y n : Str} {j k i : Nat} {ps : List Str} {sp : Sp} {np cpos pos tpos hpos yp : Pos} {e₀ : Expr} {rest : List Expr} {t : TA} {C CT : Addr} {b₀ : Stmt} {suite : List Stmt} {ts : TS}
theorem run_makeX {pins : List (Addr × Obj)} {σ : St} {H : Hp} {s : Shared} {us : List Value} {vs : List V} {Q : Value → Shared → Prop} (F : XMk X.prog X.w X.K X.mg X.base x C j ps sp) (hr : Room (j + 1) X.A) (I : Inv X pins σ H s) (r : Vals vs us) (hl : vs.length ≤ sizeLine) {Z : Addr → Hp → Prop}
    (h : ∀ a, H a = none → sp (.ref a :: vs) (upd H a (excN a C none)) (fun r H2 => r = .non ∧ Z a H2) E0) (hq : ∀ a H2 s2, Inv X pins σ H2 s2 → Z a H2 → Q (.ref a) s2) : wpAny (model X.prog X.w) X.A (call (.ref C) us) Q X.xe s := by
  obtain ⟨f, fd, ei, fn, Fk, hb⟩ := F.ex
  obtain ⟨nm, qn, N, bs, bm, hdct, sn, sub, ab, col, dd', k0, k1, k2, k3, k5, mN, hC, hN, hi, TL⟩ := excI_obj I.kIn ei
  obtain ⟨oI, ho, hfc⟩ := Option.map_eq_some_iff.mp (beq_iff_eq.mp fn)
  have hfI := I.kIn _ _ ho
  obtain ⟨hh, g, dr, tk, os⟩ := s
  refine wpAny_call_exc_initT PySem.F.excBase_ValueError TL hC hN hi hfI hfc (fun h' e hm => ?_) (by rw [← r.length]; exact hl)
  obtain ⟨ha, I2⟩ := I.newX hm
  have hq0 := h e ha
  have r2 : Vals (V.ref e :: vs) (Value.ref e :: us) := .cons rfl r
  have hlen : (Value.ref e :: us).length = ps.length := by
    rw [← r2.length]
    exact Fk.len _ _ _ _ hq0
  have hb' := hb { heap := h', gens := g, drawn := dr, toks := tk, os := os } (Value.ref e :: us) I2.kIn (by rw [List.append_nil]; exact hlen)
  rw [List.append_nil] at hb'
  refine wpAny_call (codeAny_mono (Fk.run _ X.stack _ _ ⟨Value.ref e :: us, []⟩ (Value.ref e :: us) _ _ E0 (hr.make C us []) (I2.env0.make C us []) hb' r2 hq0) fun res s' hq' => ?_)
  cases res with
  | error e => exact False.elim hq'
  | ok fl =>
    cases fl with
    | ret u =>
      obtain ⟨v, H', I3, rv, ev, q3⟩ := I2.after hq'
      subst ev
      exact ⟨rv, hq e H' _ I3 q3⟩
    | next => exact False.elim hq'
    | brk => exact False.elim hq'
    | cont => exact False.elim hq'
theorem Inv.noted {pins : List (Addr × Obj)} {σ : St} {H : Hp} {s : Shared} {h' : Heap} {a T : Addr} {dx : Addr} {oe : Obj} {vs : Array Value} (I : Inv X pins σ H s) (e : H a = some (excN a C (some dx))) (he : s.heap.get? a = some oe) (hc : oe.cls = .ref C) (hd : oe.data = .fields vs) (hdn : oe.dict = some dx)
    (e1 : h'.get? a = some (Obj.mapFields (·.setIfInBounds 1 (.ref T)) oe)) (k1 : ∀ b o, b ≠ a → b ∉ frs X.stack → s.heap.get? b = some o → h'.get? b = some o) (k2 : ∀ b o, b ≠ a → s.heap.get? b = some o → ∃ sl, h'.get? b = some { o with slots := sl }) :
    Inv X pins σ (upd H a (excF a C dx)) { s with heap := h' } := by
  have na : ∀ b, H b = none → b ≠ a := fun b n z => by rw [z, e] at n; cases n
  have nt : ∀ b u, H b = some u → b ∉ frs X.stack := fun b u q hb => by rw [I.stkFree b hb] at q; cases q
  refine I.call (g' := s.gens) (d' := s.drawn) (t' := s.toks) (ch := []) ⟨fun b o q n hb _ => k1 b o (na b n) hb q, fun b o q n _ _ => k2 b o (na b n) q, fun b o q n _ => by rw [upd_ne (na b n)]; exact n, fun b o q _ => ?_, fun b xs q => ?_, fun b o u q => ?_, fun b ps q => ⟨#[], ?_⟩⟩ (fun b u q => ?_) I.bare fun b z => absurd z (by simp)
  · by_cases z : b = a
    · rw [z]; exact ⟨_, e1⟩
    · obtain ⟨sl, q'⟩ := k2 b o z q
      exact ⟨_, q'⟩
  · rw [upd_ne (fun z => by rw [z, e] at q; cases q)]; exact q
  · rw [upd_ne (fun z => by rw [z, e] at q; cases q)]; exact q
  · rw [upd_ne (fun z => by rw [z, e] at q; cases q), q]; simp
  · by_cases z : b = a
    · subst z
      rw [upd_same] at q
      cases q
      refine excF_ok ⟨_, _, e1, (Obj.cls_mapFields _ _).trans hc, Obj.data_mapFields hd _, ?_⟩
      unfold Obj.mapFields
      split <;> exact hdn
    · rw [upd_ne z] at q
      refine (I.hok b u q).stay (fun c v hcc q' => k1 c v ?_ ?_ q') (fun c q' => by rw [upd_ne (fun z => by rw [z, e] at q'; cases q')]; exact q') fun c xs q' => by rw [upd_ne (fun z => by rw [z, e] at q'; cases q')]; exact q'
      · rcases hcc with rfl | hcc
        · exact z
        · intro z'
          rw [z', e] at hcc
          cases hcc
      · rcases hcc with rfl | hcc
        · exact nt _ _ q
        · exact nt _ _ hcc
theorem ps_tryR (hcalm : X.calm = true) (hxe : X.xe = fun _ _ => False) (hstk : X.stack = X.env :: X.outer) (hfr : X.env.frame = some X.env.locals)
    (F : XMk X.prog X.w X.K X.mg X.base x C j ps sp) (hr : Room k X.A) (hg : Gl X x) (ha : PA X (e₀ :: rest) t) (hgy : Gl X y) (c : XCatch X.K X.mg y CT) (hN : X.N.Nodup) (hi : X.N[i]? = some n) (hlo : X.env.scope.names.lookup n = some .local)
    (hsu : ∀ a, PSs (X.suite a) (b₀ :: suite) ts) (hj : j + 1 ≤ k := by decide) (hdb : (x == ("__debug__" : Str)) = false := by decide) (hdy : (y == ("__debug__" : Str)) = false := by decide)
    (he : starEach (e₀ :: rest) X.env = (false, eval e₀ X.env) :: starEach rest X.env := by rfl) (hpl : (backTo cpos (starEach rest X.env)).any (·.1) = false := by rfl) :
    PS X (.Try [.Raise (some (.Call (.Name x np) (e₀ :: rest) [] cpos)) none pos] [.ExceptHandler (some (.Name y yp)) (some n) (b₀ :: suite) hpos] [] [] tpos) (tTryR X.K C CT sp t i ts) := by
  intro pins s σ H D I h
  refine wpAny_Try_except (wpAny_execs_cons ?_)
  rw [arm_exec_Raise]
  simp only [evalOpt, Option.map]
  obtain ⟨f, fd, ei, fn, Fk, hb⟩ := id F.ex
  obtain ⟨nm, qn, N, bs, bm, hdct, sn, sub, ab, col, dd', k0, k1, k2, k3, k5, mN, hC, hN', hi', TL⟩ := excI_obj I.ok.mod.kin ei
  refine wpAny_bind (wpAny_standAt ?_)
  refine raiseStmt_x (C := C) (nm := nm) (q := qn) (N := N) (bs := bs) (bm := bm) (hdct := hdct) (sn := sn) (sub := sub) (ab := ab) (col := col) (dd := dd') (k0 := k0) (k1 := k1) (k2 := k2) (k3 := k3) (k5 := k5) (newId := "ValueError.__new__") (TL.hasType PySem.F.excBase_ValueError.hasBase) hr.hd ?_
  refine wpAny_bind (wpAny_mono (Q := fun v s₁ => ∃ a H2 dx, v = .ref a ∧ Inv X pins σ H2 s₁ ∧ H2 a = some (excN a C (some dx)) ∧
    PySem.W.subIn X.K (.ref C) (.ref CT) = some true ∧ ts { nx := fun _ _ => False, rt := D.rt } (σ.set i (some (.ref a))) (upd H2 a (excF a C dx))) (E := X.xe) ?_ (fun v s1 z => wpAny_bind (wpAny_standAt (wpAny_pure ?_))) fun _ _ z => by rw [hxe] at z; exact z.elim)
  · refine wpAny_Call_Name_kw (ld_glob I hg F.at_ ?_ hdb)
    refine PySem.W.callWith_K (h₀ := X.base) I.ok.mod.kin F.kp (thn (ha cpos pins s σ H _ I h) fun us s1 ⟨vs, H1, I1, r, hl, q⟩ => ⟨I1.kIn, ?_⟩) he hpl
    exact run_makeX F (hr.mono hj) I1 r hl q fun a H2 s2 I2 ⟨dx, e2, su, q2⟩ => ⟨a, H2, dx, rfl, I2, e2, su, q2⟩
  obtain ⟨a, H2, dx, rfl, I2, e2, hsub, q2⟩ := z
  obtain ⟨oe, vs, he', hc, hd, hdn, sz, h1⟩ := (I2.hok a _ e2).1
  refine ⟨a, oe, rfl, I2.bk _ _ hC, he', hc, ⟨vs, hd, h1⟩, ?_⟩
  have hfr2 : X.A.frames = some (X.env :: X.outer) := by rw [← hstk]; exact I.ok.frames
  have fr := I2.stack
  rw [hstk] at fr
  refine note_first hfr2 fr hfr he' hd h1 fun h4 T oT ts4 e4 sT hT hdT h3 kA kB => ?_
  have I4 := I2.noted (T := T) e2 he' hc hd hdn e4 (fun b o hb hn q => kA b o hb (by rw [hstk] at hn; exact hn) q) kB
  have v4 : (vs.setIfInBounds 1 (.ref T))[1]? = some (.ref T) := by simp [sz]
  have d4 := Obj.data_mapFields hd (·.setIfInBounds 1 (.ref T))
  have lt2 : ∀ b o, s1.heap.get? b = some o → b ≠ T := fun b o q => Nat.ne_of_lt (Nat.lt_of_lt_of_le (Heap.lt_size q) sT)
  have hTa : T ≠ a := (lt2 a oe he').symm
  have HT : (upd H2 a (excF a C dx)) T = none := by rw [upd_ne hTa]; exact I2.hok.fresh sT
  have TL2 : T ≠ X.env.locals := Nat.ne_of_gt (Nat.lt_of_lt_of_le I2.lt sT)
  have Tcell : ∀ x c, X.env.cells.lookup x = some c → c ≠ T := fun x c e => by
    obtain ⟨v, o, ho, _⟩ := I2.cell x c e
    exact lt2 _ _ ho
  have Tpin : ∀ p ∈ X.pn ++ pins, p.1 ≠ T := fun p hp => lt2 _ _ (I2.pin p hp).1
  refine flight_none e4 d4 v4 hT hdT h3 fun h5 oT5 ts5 k5 hT5 dT5 s5 => ?_
  have I5 := I4.turned (t' := s1.toks) (it := T) (h' := h5) (fun b o hb q => (k5 b hb).trans q) HT TL2 (.inr (Nat.le_trans I2.sz sT)) Tcell Tpin
  have e5 := (k5 a hTa.symm).trans e4
  refine wpAny_handleBy_cons (codeAny_handlers_test (ld_glob (X := X.suite a) (I5.suite a) hgy c.at_ ?_ hdy)) (by intro z; cases z)
  refine xcls_matches I5.kIn ⟨_, _, e5, (Obj.cls_mapFields _ _).trans hc, d4⟩ c.is c.ty c.mb hsub ?_
  refine codeAny_handlers_suite_as ?_
  refine flight_none e5 d4 v4 hT5 dT5 s5 fun h6 oT6 ts6 k6 hT6 dT6 s6 => ?_
  have I6 := I5.turned (t' := s1.toks) (it := T) (h' := h6) (fun b o hb q => (k6 b hb).trans q) HT TL2 (.inr (Nat.le_trans I2.sz sT)) Tcell Tpin
  refine store_ok I6 hN hi (.inl hlo) (v := .ref a) rfl (fun s7 I7 => ?_) (.inr hlo)
  refine wpAny_mono (hsu a pins s7 _ _ { nx := fun _ _ => False, rt := D.rt } (I7.suite a) q2) (fun fl s8 hq8 => ?_) (fun _ _ z => by
    have z' : X.xe _ _ := z
    rw [hxe] at z'
    exact z'.elim)
  cases fl with
  | ret u =>
    obtain ⟨v, σ8, H8, I8, r8, q8⟩ := hq8
    have I9 := I8.unsuite I.ok
    obtain ⟨m8, hn8, _⟩ := id I9.loc
    exact wpAny_nameGoes hlo hn8 (by rw [I.ok.kind]; rfl) fun h9 m9 hn9 hs9 => ⟨v, _, H8, I9.blank hn9 hs9, r8, q8⟩
  | next => obtain ⟨_, _, _, z⟩ := hq8; exact z.elim
  | brk => obtain ⟨_, _, _, z⟩ := hq8; exact z.elim
  | cont => obtain ⟨_, _, _, z⟩ := hq8; exact z.elim
end
theorem pe_fldXK {X : Cx} {K : Frag} {e : Expr} {f : Str} {pos : Pos} {ta : TE} (hK : X.K = K) (he : PE X e ta) (hb : attributeBase e f X.env (eval e X.env) = eval e X.env) : PE X (.Attribute e f pos) (tFldX K ta f) := by
  subst hK
  exact pe_fldX he hb
theorem hu_mark {k : Nat} {A : Around} {v : Option Value} (r : Room k A) : (A.mark v).units < cLine := by
  have := Nat.lt_of_succ_lt (hu_of r)
  exact this
end L2

set_option linter.all false
namespace MthL
theorem first {ws : List Int} {w : Int} (h : w ∈ ws) : ∃ i, i < ws.length ∧ ws.getD i 0 = w ∧ ∀ j, j < i → ws.getD j 0 ≠ w := by
  induction ws with
  | nil => cases h
  | cons a ws ih =>
    by_cases e : a = w
    · exact ⟨0, Nat.zero_lt_succ _, e, fun j hj => absurd hj (Nat.not_lt_zero _)⟩
    · obtain ⟨i, h1, h2, h3⟩ := ih ((List.mem_cons.mp h).resolve_left fun z => e z.symm)
      refine ⟨i + 1, Nat.succ_lt_succ h1, h2, fun j hj => ?_⟩
      cases j with
      | zero => exact e
      | succ j => exact h3 j (Nat.lt_of_succ_lt_succ hj)
theorem below {ws : List Int} (w : Int) : (∀ o ∈ ws, 0 < o → w ≤ o) ∨ ∃ v ∈ ws, 0 < v ∧ v < w ∧ ∀ o ∈ ws, o < w → o ≤ v := by
  induction ws with
  | nil => exact .inl fun o ho => by cases ho
  | cons a ws ih =>
    by_cases ha : 0 < a ∧ a < w
    · rcases ih with ih | ⟨v, h1, h2, h3, h4⟩
      · refine .inr ⟨a, List.mem_cons_self .., ha.1, ha.2, fun o ho hl => ?_⟩
        rcases List.mem_cons.mp ho with rfl | ho
        · exact Int.le_refl _
        · by_cases h0 : 0 < o
          · have := ih o ho h0
            omega
          · omega
      · by_cases hv : a ≤ v
        · refine .inr ⟨v, List.mem_cons_of_mem _ h1, h2, h3, fun o ho hl => ?_⟩
          rcases List.mem_cons.mp ho with rfl | ho
          · exact hv
          · exact h4 o ho hl
        · refine .inr ⟨a, List.mem_cons_self .., ha.1, ha.2, fun o ho hl => ?_⟩
          rcases List.mem_cons.mp ho with rfl | ho
          · exact Int.le_refl _
          · have := h4 o ho hl
            omega
    · rcases ih with ih | ⟨v, h1, h2, h3, h4⟩
      · refine .inl fun o ho h0 => ?_
        rcases List.mem_cons.mp ho with rfl | ho
        · omega
        · exact ih o ho h0
      · refine .inr ⟨v, List.mem_cons_of_mem _ h1, h2, h3, fun o ho hl => ?_⟩
        rcases List.mem_cons.mp ho with rfl | ho
        · omega
        · exact h4 o ho hl
end MthL

set_option linter.all false
namespace Mth
def cell (ns : List Int) (k : Int) : Int :=
  if k < (ns.length : Int) then ns.getD k.toNat 0 % 10 ^ 60
  else (if 0 < (ns.length : Int) then ns.getD (k * 7 % (ns.length : Int)).toNat 0 % 10 ^ 60 * 48271 + k * k * 69621 else 7919 * k + 5) % 2147483647 * 16807 % 2147483629
theorem cell_in (ns : List Int) (k : Int) : 0 ≤ cell ns k ∧ cell ns k < 10 ^ 60 := by
  unfold cell
  split
  · have h1 := Int.emod_nonneg (ns.getD k.toNat 0) (show (10 ^ 60 : Int) ≠ 0 by decide)
    have h2 := Int.emod_lt_of_pos (ns.getD k.toNat 0) (show (0 : Int) < 10 ^ 60 by decide)
    exact ⟨h1, h2⟩
  · generalize (if 0 < (ns.length : Int) then ns.getD (k * 7 % (ns.length : Int)).toNat 0 % 10 ^ 60 * 48271 + k * k * 69621 else 7919 * k + 5) % 2147483647 * 16807 = z
    have h1 := Int.emod_nonneg z (show (2147483629 : Int) ≠ 0 by decide)
    have h2 := Int.emod_lt_of_pos z (show (0 : Int) < 2147483629 by decide)
    have h3 : (2147483629 : Int) ≤ 10 ^ 60 := by decide
    exact ⟨h1, by omega⟩

def gcd (a b : Int) : Int := (Int.gcd a b : Nat)
structure IsShare (t b x y : Int) : Prop where
  pos : 0 < y
  low : gcd x y = 1
  eq : x * b = t * y
  le1 : x.natAbs ≤ t.natAbs
  le2 : y.natAbs ≤ b.natAbs
structure Low (T : Int × Int) (x y : Int) : Prop where
  pos : 0 < y
  low : gcd x y = 1
  eq : x * T.2 = T.1 * y
end Mth

set_option Elab.async false
set_option linter.all false
set_option maxRecDepth 100000
set_option maxHeartbeats 4000000
namespace My
open PySem L2
def spLaw (K : PySem.W.Frag) : Sp := fun vs H Q _ => ∃ (a : Addr) (ns : List Int), vs = [.ref a] ∧ SqL K H a (ns.map V.int) ∧ ns.length ≤ 63 ∧ ∀ H', Q (.bl true) H'
theorem atI_map {ns : List Int} {k : Int} (h0 : 0 ≤ k) (h1 : k < ns.length) : atI (ns.map V.int) k = some (.int (ns.getD k.toNat 0)) := by
  have e : k = ((k.toNat : Nat) : Int) := by omega
  have h2 : k.toNat < ns.length := by omega
  have q : (ns.map V.int)[k.toNat]? = some (.int (ns.getD k.toNat 0)) := by
    rw [List.getElem?_map, List.getElem?_eq_getElem h2]
    simp [List.getD, h2]
  have := atI_nat q
  rw [← e] at this
  exact this
theorem bitsN {n : Nat} {i : Int} (lo : -(10 ^ 61) ≤ i) (hi : i ≤ 10 ^ 61) (hn : 204 ≤ n := by decide) : Bits n i := (Bits.of (n := 204) (b := 10 ^ 61) lo hi (by decide)).mono hn
theorem same_new {H : Hp} {p : Addr} (h : H p = none) (o : HO) : Same H (upd H p o) := fun b u q => by rw [upd_ne (ne_of_none q h)]; exact q
theorem Same.tup {K : PySem.W.Frag} {H H' : Hp} {a : Addr} {xs : List V} (e : Same H H') (h : SqT K H a xs) : SqT K H' a xs := by
  rcases h with (h | ⟨o, h⟩) | h
  · exact .inl (.inl (e _ _ h))
  · exact .inl (.inr ⟨o, e _ _ h⟩)
  · exact .inr h
theorem cpow {n : Int} (h0 : 0 ≤ n := by decide) (h1 : n ≤ 1000000 := by decide) : CPow 10 n := ⟨h0, h1, by decide⟩
theorem ten_pos (n : Nat) : (0 : Int) < 10 ^ n := Int.pow_pos (by decide)
theorem cmul {i j : Int} (a : -(10 ^ 61) ≤ i) (b : i ≤ 10 ^ 61) (c : -(10 ^ 61) ≤ j) (d : j ≤ 10 ^ 61) : CMulB i j := ⟨bitsN a b, bitsN c d⟩
theorem same_upd {H H' : Hp} {l : Addr} (e : Same H H') (h : H l = none) (o : HO) : Same H (upd H' l o) := fun b u hb => by rw [upd_ne (ne_of_none hb h)]; exact e _ _ hb

def top (i : Nat) : Stmt := PySem.Challenge.pw_tariffgate_k19_refusals_apart.main.body.getD i (.Pass ⟨0, 0, 0, 0⟩)
def inner : Stmt → Nat → Stmt
  | .ClassDef _ _ _ b _ _ _ _ _ _ _, j => b.getD j (.Pass ⟨0, 0, 0, 0⟩)
  | st, _ => st
theorem dn_parcel : (("parcel" : Str) == ("__debug__" : Str)) = false := by decide
theorem dc_parcel : (("parcel" : Str) == ("__classdict__" : Str)) = false := by decide
theorem dn_isinstance : (("isinstance" : Str) == ("__debug__" : Str)) = false := by decide
theorem nn_isinstance : ("isinstance" : Str) ≠ "__name__" := by decide
theorem dn_list : (("list" : Str) == ("__debug__" : Str)) = false := by decide
theorem nn_list : ("list" : Str) ≠ "__name__" := by decide
theorem dn_self : (("self" : Str) == ("__debug__" : Str)) = false := by decide
theorem dc_self : (("self" : Str) == ("__classdict__" : Str)) = false := by decide
theorem dn_at : (("at" : Str) == ("__debug__" : Str)) = false := by decide
theorem dc_at : (("at" : Str) == ("__classdict__" : Str)) = false := by decide
theorem dn_parcel_kept : (("parcel_kept" : Str) == ("__debug__" : Str)) = false := by decide
theorem dn_TariffError : (("TariffError" : Str) == ("__debug__" : Str)) = false := by decide
theorem dn_one : (("one" : Str) == ("__debug__" : Str)) = false := by decide
theorem dc_one : (("one" : Str) == ("__classdict__" : Str)) = false := by decide
theorem dn_other : (("other" : Str) == ("__debug__" : Str)) = false := by decide
theorem dc_other : (("other" : Str) == ("__classdict__" : Str)) = false := by decide
theorem dn__law_script : (("_law_script" : Str) == ("__debug__" : Str)) = false := by decide
theorem dc__law_script : (("_law_script" : Str) == ("__classdict__" : Str)) = false := by decide
theorem dn__law_k : (("_law_k" : Str) == ("__debug__" : Str)) = false := by decide
theorem dc__law_k : (("_law_k" : Str) == ("__classdict__" : Str)) = false := by decide
theorem dn__law_number_here : (("_law_number_here" : Str) == ("__debug__" : Str)) = false := by decide
theorem dc__law_number_here : (("_law_number_here" : Str) == ("__classdict__" : Str)) = false := by decide
theorem dn_len : (("len" : Str) == ("__debug__" : Str)) = false := by decide
theorem nn_len : ("len" : Str) ≠ "__name__" := by decide
theorem dn__law_cell_here : (("_law_cell_here" : Str) == ("__debug__" : Str)) = false := by decide
theorem dc__law_cell_here : (("_law_cell_here" : Str) == ("__classdict__" : Str)) = false := by decide
theorem dn__law_word_here : (("_law_word_here" : Str) == ("__debug__" : Str)) = false := by decide
theorem dc__law_word_here : (("_law_word_here" : Str) == ("__classdict__" : Str)) = false := by decide
theorem dn__law_found : (("_law_found" : Str) == ("__debug__" : Str)) = false := by decide
theorem dc__law_found : (("_law_found" : Str) == ("__classdict__" : Str)) = false := by decide
theorem dn_tuple : (("tuple" : Str) == ("__debug__" : Str)) = false := by decide
theorem nn_tuple : ("tuple" : Str) ≠ "__name__" := by decide
theorem dn__law_e : (("_law_e" : Str) == ("__debug__" : Str)) = false := by decide
theorem dc__law_e : (("_law_e" : Str) == ("__classdict__" : Str)) = false := by decide
theorem dn_NoBands : (("NoBands" : Str) == ("__debug__" : Str)) = false := by decide
theorem dn_NoDeed : (("NoDeed" : Str) == ("__debug__" : Str)) = false := by decide
theorem dn_NoEntry : (("NoEntry" : Str) == ("__debug__" : Str)) = false := by decide
theorem dn_NoGoods : (("NoGoods" : Str) == ("__debug__" : Str)) = false := by decide
theorem dn_NoKinds : (("NoKinds" : Str) == ("__debug__" : Str)) = false := by decide
theorem dn_NoLot : (("NoLot" : Str) == ("__debug__" : Str)) = false := by decide
theorem dn_NoNote : (("NoNote" : Str) == ("__debug__" : Str)) = false := by decide
theorem dn_NoNumber : (("NoNumber" : Str) == ("__debug__" : Str)) = false := by decide
theorem dn_NoQuota : (("NoQuota" : Str) == ("__debug__" : Str)) = false := by decide
theorem dn_NoRate : (("NoRate" : Str) == ("__debug__" : Str)) = false := by decide
theorem dn_NoRow : (("NoRow" : Str) == ("__debug__" : Str)) = false := by decide
theorem dn_NoRule : (("NoRule" : Str) == ("__debug__" : Str)) = false := by decide
theorem dn_NoTree : (("NoTree" : Str) == ("__debug__" : Str)) = false := by decide
theorem dn_ValueError : (("ValueError" : Str) == ("__debug__" : Str)) = false := by decide
theorem nn_ValueError : ("ValueError" : Str) ≠ "__name__" := by decide
theorem dn__law_parcel : (("_law_parcel" : Str) == ("__debug__" : Str)) = false := by decide
theorem dc__law_parcel : (("_law_parcel" : Str) == ("__classdict__" : Str)) = false := by decide
theorem dn__law_at : (("_law_at" : Str) == ("__debug__" : Str)) = false := by decide
theorem dc__law_at : (("_law_at" : Str) == ("__classdict__" : Str)) = false := by decide
theorem dn_NoneClaims : (("NoneClaims" : Str) == ("__debug__" : Str)) = false := by decide
theorem dn__law_other : (("_law_other" : Str) == ("__debug__" : Str)) = false := by decide
theorem dn_TwoClaim : (("TwoClaim" : Str) == ("__debug__" : Str)) = false := by decide
theorem dn__law_one : (("_law_one" : Str) == ("__debug__" : Str)) = false := by decide
theorem dc__law_one : (("_law_one" : Str) == ("__classdict__" : Str)) = false := by decide
theorem dn__law_other_here : (("_law_other_here" : Str) == ("__debug__" : Str)) = false := by decide
theorem dc__law_other_here : (("_law_other_here" : Str) == ("__classdict__" : Str)) = false := by decide
theorem dn__law_number : (("_law_number" : Str) == ("__debug__" : Str)) = false := by decide
theorem dn__law_cell : (("_law_cell" : Str) == ("__debug__" : Str)) = false := by decide
theorem dn__law_none : (("_law_none" : Str) == ("__debug__" : Str)) = false := by decide
theorem dn__law_two : (("_law_two" : Str) == ("__debug__" : Str)) = false := by decide
theorem dn__law_word : (("_law_word" : Str) == ("__debug__" : Str)) = false := by decide
abbrev s_parcel_kept : Stmt := top 8
theorem sc_parcel_kept : FnScope ["parcel"] ["parcel"] (defScope s_parcel_kept) := ⟨rfl, rfl, rfl, by decide +kernel, rfl, by decide +kernel, by decide +kernel⟩
theorem v_parcel_kept_0 : Vis (defScope s_parcel_kept) "parcel" := by first | exact Or.inl rfl | exact Or.inr (Or.inl rfl) | exact Or.inr (Or.inr rfl)
theorem g_parcel_kept_isinstance : (defScope s_parcel_kept).names.lookup ("isinstance" : Str) = some .globalImplicit := by rfl
theorem g_parcel_kept_list : (defScope s_parcel_kept).names.lookup ("list" : Str) = some .globalImplicit := by rfl
abbrev s_NoneClaims_init : Stmt := inner (top 9) 0
theorem sc_NoneClaims_init : FnScope ["self", "parcel", "at"] ["self", "parcel", "at"] (defScope s_NoneClaims_init) := ⟨rfl, rfl, rfl, by decide +kernel, rfl, by decide +kernel, by decide +kernel⟩
theorem v_NoneClaims_init_0 : Vis (defScope s_NoneClaims_init) "self" := by first | exact Or.inl rfl | exact Or.inr (Or.inl rfl) | exact Or.inr (Or.inr rfl)
theorem v_NoneClaims_init_1 : Vis (defScope s_NoneClaims_init) "parcel" := by first | exact Or.inl rfl | exact Or.inr (Or.inl rfl) | exact Or.inr (Or.inr rfl)
theorem v_NoneClaims_init_2 : Vis (defScope s_NoneClaims_init) "at" := by first | exact Or.inl rfl | exact Or.inr (Or.inl rfl) | exact Or.inr (Or.inr rfl)
theorem g_NoneClaims_init_TariffError : (defScope s_NoneClaims_init).names.lookup ("TariffError" : Str) = some .globalImplicit := by rfl
theorem g_NoneClaims_init_parcel_kept : (defScope s_NoneClaims_init).names.lookup ("parcel_kept" : Str) = some .globalImplicit := by rfl
abbrev s_TwoClaim_init : Stmt := inner (top 10) 0
theorem sc_TwoClaim_init : FnScope ["self", "parcel", "at", "one", "other"] ["self", "parcel", "at", "one", "other"] (defScope s_TwoClaim_init) := ⟨rfl, rfl, rfl, by decide +kernel, rfl, by decide +kernel, by decide +kernel⟩
theorem v_TwoClaim_init_0 : Vis (defScope s_TwoClaim_init) "self" := by first | exact Or.inl rfl | exact Or.inr (Or.inl rfl) | exact Or.inr (Or.inr rfl)
theorem v_TwoClaim_init_1 : Vis (defScope s_TwoClaim_init) "parcel" := by first | exact Or.inl rfl | exact Or.inr (Or.inl rfl) | exact Or.inr (Or.inr rfl)
theorem v_TwoClaim_init_2 : Vis (defScope s_TwoClaim_init) "at" := by first | exact Or.inl rfl | exact Or.inr (Or.inl rfl) | exact Or.inr (Or.inr rfl)
theorem v_TwoClaim_init_3 : Vis (defScope s_TwoClaim_init) "one" := by first | exact Or.inl rfl | exact Or.inr (Or.inl rfl) | exact Or.inr (Or.inr rfl)
theorem v_TwoClaim_init_4 : Vis (defScope s_TwoClaim_init) "other" := by first | exact Or.inl rfl | exact Or.inr (Or.inl rfl) | exact Or.inr (Or.inr rfl)
theorem g_TwoClaim_init_TariffError : (defScope s_TwoClaim_init).names.lookup ("TariffError" : Str) = some .globalImplicit := by rfl
theorem g_TwoClaim_init_parcel_kept : (defScope s_TwoClaim_init).names.lookup ("parcel_kept" : Str) = some .globalImplicit := by rfl
abbrev s_law_cell : Stmt := top 19
theorem sc_law_cell : FnScope ["_law_script", "_law_k", "_law_number_here"] ["_law_script", "_law_k"] (defScope s_law_cell) := ⟨rfl, rfl, rfl, by decide +kernel, rfl, by decide +kernel, by decide +kernel⟩
theorem v_law_cell_0 : Vis (defScope s_law_cell) "_law_script" := by first | exact Or.inl rfl | exact Or.inr (Or.inl rfl) | exact Or.inr (Or.inr rfl)
theorem v_law_cell_1 : Vis (defScope s_law_cell) "_law_k" := by first | exact Or.inl rfl | exact Or.inr (Or.inl rfl) | exact Or.inr (Or.inr rfl)
theorem v_law_cell_2 : Vis (defScope s_law_cell) "_law_number_here" := by first | exact Or.inl rfl | exact Or.inr (Or.inl rfl) | exact Or.inr (Or.inr rfl)
theorem l_law_cell_2 : Loc (defScope s_law_cell) "_law_number_here" := by first | exact Or.inl rfl | exact Or.inr rfl
theorem g_law_cell_len : (defScope s_law_cell).names.lookup ("len" : Str) = some .globalImplicit := by rfl
abbrev s_law_word : Stmt := top 20
theorem sc_law_word : FnScope ["_law_cell_here", "_law_word_here", "_law_k"] ["_law_cell_here"] (defScope s_law_word) := ⟨rfl, rfl, rfl, by decide +kernel, rfl, by decide +kernel, by decide +kernel⟩
theorem v_law_word_0 : Vis (defScope s_law_word) "_law_cell_here" := by first | exact Or.inl rfl | exact Or.inr (Or.inl rfl) | exact Or.inr (Or.inr rfl)
theorem v_law_word_1 : Vis (defScope s_law_word) "_law_word_here" := by first | exact Or.inl rfl | exact Or.inr (Or.inl rfl) | exact Or.inr (Or.inr rfl)
theorem l_law_word_1 : Loc (defScope s_law_word) "_law_word_here" := by first | exact Or.inl rfl | exact Or.inr rfl
theorem v_law_word_2 : Vis (defScope s_law_word) "_law_k" := by first | exact Or.inl rfl | exact Or.inr (Or.inl rfl) | exact Or.inr (Or.inr rfl)
theorem l_law_word_2 : Loc (defScope s_law_word) "_law_k" := by first | exact Or.inl rfl | exact Or.inr rfl
theorem g_law_word_range : (defScope s_law_word).names.lookup ("range" : Str) = some .globalImplicit := by rfl
abbrev s_law_number : Stmt := top 21
theorem sc_law_number : FnScope ["_law_cell_here", "_law_found", "_law_k"] ["_law_cell_here"] (defScope s_law_number) := ⟨rfl, rfl, rfl, by decide +kernel, rfl, by decide +kernel, by decide +kernel⟩
theorem v_law_number_0 : Vis (defScope s_law_number) "_law_cell_here" := by first | exact Or.inl rfl | exact Or.inr (Or.inl rfl) | exact Or.inr (Or.inr rfl)
theorem v_law_number_1 : Vis (defScope s_law_number) "_law_found" := by first | exact Or.inl rfl | exact Or.inr (Or.inl rfl) | exact Or.inr (Or.inr rfl)
theorem l_law_number_1 : Loc (defScope s_law_number) "_law_found" := by first | exact Or.inl rfl | exact Or.inr rfl
theorem v_law_number_2 : Vis (defScope s_law_number) "_law_k" := by first | exact Or.inl rfl | exact Or.inr (Or.inl rfl) | exact Or.inr (Or.inr rfl)
theorem l_law_number_2 : Loc (defScope s_law_number) "_law_k" := by first | exact Or.inl rfl | exact Or.inr rfl
theorem g_law_number_range : (defScope s_law_number).names.lookup ("range" : Str) = some .globalImplicit := by rfl
theorem g_law_number_tuple : (defScope s_law_number).names.lookup ("tuple" : Str) = some .globalImplicit := by rfl
abbrev s_law_other : Stmt := top 22
theorem sc_law_other : FnScope ["_law_e"] ["_law_e"] (defScope s_law_other) := ⟨rfl, rfl, rfl, by decide +kernel, rfl, by decide +kernel, by decide +kernel⟩
theorem v_law_other_0 : Vis (defScope s_law_other) "_law_e" := by first | exact Or.inl rfl | exact Or.inr (Or.inl rfl) | exact Or.inr (Or.inr rfl)
theorem g_law_other_isinstance : (defScope s_law_other).names.lookup ("isinstance" : Str) = some .globalImplicit := by rfl
theorem g_law_other_NoBands : (defScope s_law_other).names.lookup ("NoBands" : Str) = some .globalImplicit := by rfl
theorem g_law_other_NoDeed : (defScope s_law_other).names.lookup ("NoDeed" : Str) = some .globalImplicit := by rfl
theorem g_law_other_NoEntry : (defScope s_law_other).names.lookup ("NoEntry" : Str) = some .globalImplicit := by rfl
theorem g_law_other_NoGoods : (defScope s_law_other).names.lookup ("NoGoods" : Str) = some .globalImplicit := by rfl
theorem g_law_other_NoKinds : (defScope s_law_other).names.lookup ("NoKinds" : Str) = some .globalImplicit := by rfl
theorem g_law_other_NoLot : (defScope s_law_other).names.lookup ("NoLot" : Str) = some .globalImplicit := by rfl
theorem g_law_other_NoNote : (defScope s_law_other).names.lookup ("NoNote" : Str) = some .globalImplicit := by rfl
theorem g_law_other_NoNumber : (defScope s_law_other).names.lookup ("NoNumber" : Str) = some .globalImplicit := by rfl
theorem g_law_other_NoQuota : (defScope s_law_other).names.lookup ("NoQuota" : Str) = some .globalImplicit := by rfl
theorem g_law_other_NoRate : (defScope s_law_other).names.lookup ("NoRate" : Str) = some .globalImplicit := by rfl
theorem g_law_other_NoRow : (defScope s_law_other).names.lookup ("NoRow" : Str) = some .globalImplicit := by rfl
theorem g_law_other_NoRule : (defScope s_law_other).names.lookup ("NoRule" : Str) = some .globalImplicit := by rfl
theorem g_law_other_NoTree : (defScope s_law_other).names.lookup ("NoTree" : Str) = some .globalImplicit := by rfl
theorem g_law_other_TariffError : (defScope s_law_other).names.lookup ("TariffError" : Str) = some .globalImplicit := by rfl
theorem g_law_other_ValueError : (defScope s_law_other).names.lookup ("ValueError" : Str) = some .globalImplicit := by rfl
abbrev s_law_none : Stmt := top 23
theorem sc_law_none : FnScope ["_law_parcel", "_law_at", "_law_e"] ["_law_parcel", "_law_at"] (defScope s_law_none) := ⟨rfl, rfl, rfl, by decide +kernel, rfl, by decide +kernel, by decide +kernel⟩
theorem v_law_none_0 : Vis (defScope s_law_none) "_law_parcel" := by first | exact Or.inl rfl | exact Or.inr (Or.inl rfl) | exact Or.inr (Or.inr rfl)
theorem v_law_none_1 : Vis (defScope s_law_none) "_law_at" := by first | exact Or.inl rfl | exact Or.inr (Or.inl rfl) | exact Or.inr (Or.inr rfl)
theorem v_law_none_2 : Vis (defScope s_law_none) "_law_e" := by first | exact Or.inl rfl | exact Or.inr (Or.inl rfl) | exact Or.inr (Or.inr rfl)
theorem g_law_none_NoneClaims : (defScope s_law_none).names.lookup ("NoneClaims" : Str) = some .globalImplicit := by rfl
theorem g_law_none_TariffError : (defScope s_law_none).names.lookup ("TariffError" : Str) = some .globalImplicit := by rfl
theorem g_law_none__law_other : (defScope s_law_none).names.lookup ("_law_other" : Str) = some .globalImplicit := by rfl
theorem g_law_none_isinstance : (defScope s_law_none).names.lookup ("isinstance" : Str) = some .globalImplicit := by rfl
theorem g_law_none_TwoClaim : (defScope s_law_none).names.lookup ("TwoClaim" : Str) = some .globalImplicit := by rfl
abbrev s_law_two : Stmt := top 24
theorem sc_law_two : FnScope ["_law_parcel", "_law_at", "_law_one", "_law_other_here", "_law_e"] ["_law_parcel", "_law_at", "_law_one", "_law_other_here"] (defScope s_law_two) := ⟨rfl, rfl, rfl, by decide +kernel, rfl, by decide +kernel, by decide +kernel⟩
theorem v_law_two_0 : Vis (defScope s_law_two) "_law_parcel" := by first | exact Or.inl rfl | exact Or.inr (Or.inl rfl) | exact Or.inr (Or.inr rfl)
theorem v_law_two_1 : Vis (defScope s_law_two) "_law_at" := by first | exact Or.inl rfl | exact Or.inr (Or.inl rfl) | exact Or.inr (Or.inr rfl)
theorem v_law_two_2 : Vis (defScope s_law_two) "_law_one" := by first | exact Or.inl rfl | exact Or.inr (Or.inl rfl) | exact Or.inr (Or.inr rfl)
theorem v_law_two_3 : Vis (defScope s_law_two) "_law_other_here" := by first | exact Or.inl rfl | exact Or.inr (Or.inl rfl) | exact Or.inr (Or.inr rfl)
theorem v_law_two_4 : Vis (defScope s_law_two) "_law_e" := by first | exact Or.inl rfl | exact Or.inr (Or.inl rfl) | exact Or.inr (Or.inr rfl)
theorem g_law_two_TwoClaim : (defScope s_law_two).names.lookup ("TwoClaim" : Str) = some .globalImplicit := by rfl
theorem g_law_two_TariffError : (defScope s_law_two).names.lookup ("TariffError" : Str) = some .globalImplicit := by rfl
theorem g_law_two__law_other : (defScope s_law_two).names.lookup ("_law_other" : Str) = some .globalImplicit := by rfl
theorem g_law_two_isinstance : (defScope s_law_two).names.lookup ("isinstance" : Str) = some .globalImplicit := by rfl
theorem g_law_two_NoneClaims : (defScope s_law_two).names.lookup ("NoneClaims" : Str) = some .globalImplicit := by rfl
abbrev s_law : Stmt := top 25
theorem sc_law : FnScope ["_law_script", "_law_parcel", "_law_at", "_law_one", "_law_other_here"] ["_law_script"] (defScope s_law) := ⟨rfl, rfl, rfl, by decide +kernel, rfl, by decide +kernel, by decide +kernel⟩
theorem v_law_0 : Vis (defScope s_law) "_law_script" := by first | exact Or.inl rfl | exact Or.inr (Or.inl rfl) | exact Or.inr (Or.inr rfl)
theorem v_law_1 : Vis (defScope s_law) "_law_parcel" := by first | exact Or.inl rfl | exact Or.inr (Or.inl rfl) | exact Or.inr (Or.inr rfl)
theorem l_law_1 : Loc (defScope s_law) "_law_parcel" := by first | exact Or.inl rfl | exact Or.inr rfl
theorem v_law_2 : Vis (defScope s_law) "_law_at" := by first | exact Or.inl rfl | exact Or.inr (Or.inl rfl) | exact Or.inr (Or.inr rfl)
theorem l_law_2 : Loc (defScope s_law) "_law_at" := by first | exact Or.inl rfl | exact Or.inr rfl
theorem v_law_3 : Vis (defScope s_law) "_law_one" := by first | exact Or.inl rfl | exact Or.inr (Or.inl rfl) | exact Or.inr (Or.inr rfl)
theorem l_law_3 : Loc (defScope s_law) "_law_one" := by first | exact Or.inl rfl | exact Or.inr rfl
theorem v_law_4 : Vis (defScope s_law) "_law_other_here" := by first | exact Or.inl rfl | exact Or.inr (Or.inl rfl) | exact Or.inr (Or.inr rfl)
theorem l_law_4 : Loc (defScope s_law) "_law_other_here" := by first | exact Or.inl rfl | exact Or.inr rfl
theorem g_law__law_word : (defScope s_law).names.lookup ("_law_word" : Str) = some .globalImplicit := by rfl
theorem g_law__law_cell : (defScope s_law).names.lookup ("_law_cell" : Str) = some .globalImplicit := by rfl
theorem g_law__law_number : (defScope s_law).names.lookup ("_law_number" : Str) = some .globalImplicit := by rfl
theorem g_law__law_none : (defScope s_law).names.lookup ("_law_none" : Str) = some .globalImplicit := by rfl
theorem g_law__law_two : (defScope s_law).names.lookup ("_law_two" : Str) = some .globalImplicit := by rfl

def spCell (K : PySem.W.Frag) : Sp := fun vs H Q _ => ∃ (a : Addr) (ns : List Int) (k : Int), vs = [.ref a, .int k] ∧ SqL K H a (ns.map V.int) ∧ ns.length ≤ 63 ∧ 0 ≤ k ∧ k ≤ 1000 ∧ Q (.int (Mth.cell ns k)) H
theorem spCell_of {K : PySem.W.Frag} {H : Hp} {a : Addr} {ns : List Int} {k : Int} {Q : VK} {E : XK} (h : SqL K H a (ns.map V.int)) (hl : ns.length ≤ 63) (h0 : 0 ≤ k) (h1 : k ≤ 1000) (q : Q (.int (Mth.cell ns k)) H) : spCell K [.ref a, .int k] H Q E := ⟨a, ns, k, rfl, h, hl, h0, h1, q⟩
section
variable {P : Program} {w : World} {K : PySem.W.Frag} {mg : Str → Option Value} {base : Heap} {f : Addr} {fd : FuncData}
theorem ok_law_cell (F : Fun K "_law_cell" "_law_cell" s_law_cell f fd) (M : Mg mg) : FnOk P w K mg base CX0 1 f fd ["_law_script", "_law_k"] (spCell K) := by
  refine F.ok sc_law_cell (fun vs H Q E h => ?_) (fun cdv A outer s H vs Q E hr h => ?_)
  · obtain ⟨a, ns, k, rfl, _⟩ := h
    rfl
  obtain ⟨a, ns, k, rfl, hS, hl, h0, h1, q⟩ := h
  refine ⟨_, (@pss_cons _ _ _ _ _ (@ps_if _ _ _ _ _ _ _ _ (@pt_cmpR _ _ _ _ _ _ _ _ (@op_lt _) (@pe_var _ 1 _ _ rfl v_law_cell_1 dn__law_k dc__law_k) (@pe_callB _ _ _ _ _ _ _ _ _ call_len_seq g_law_cell_len M.m_len b_len (@pa_cons _ _ _ _ _ (@pe_var _ 0 _ _ rfl v_law_cell_0 dn__law_script dc__law_script) (@pa_nil _) (star1 rfl)) nn_len dn_len (star1 rfl) nost0) (nomark _)) (@pss_one _ _ _ (@ps_ret _ _ _ _ (@pe_op _ _ _ _ _ _ _ _ (@op_mod _) (@pe_ix _ _ _ _ _ _ _ (@ix_list _) (@pe_var _ 0 _ _ rfl v_law_cell_0 dn__law_script dc__law_script) (@pe_var _ 1 _ _ rfl v_law_cell_1 dn__law_k dc__law_k) (fun _ _ => rfl)) (@pe_op _ _ _ _ _ _ _ _ (@op_pow _) (@pe_int _ _ _ _) (@pe_int _ _ _ _))))) (@pss_nil _)) (@pss_cons _ _ _ _ _ (@ps_set _ _ 2 _ _ _ _ sc_law_cell.nd rfl l_law_cell_2 (@pe_op _ _ _ _ _ _ _ _ (@op_add _) (@pe_op _ _ _ _ _ _ _ _ (@op_mulB _) (@pe_int _ _ _ _) (@pe_var _ 1 _ _ rfl v_law_cell_1 dn__law_k dc__law_k)) (@pe_int _ _ _ _)) (swap1 rfl) (.inl rfl)) (@pss_cons _ _ _ _ _ (@ps_if _ _ _ _ _ _ _ _ (@pt_cmpR _ _ _ _ _ _ _ _ (@op_gt _) (@pe_callB _ _ _ _ _ _ _ _ _ call_len_seq g_law_cell_len M.m_len b_len (@pa_cons _ _ _ _ _ (@pe_var _ 0 _ _ rfl v_law_cell_0 dn__law_script dc__law_script) (@pa_nil _) (star1 rfl)) nn_len dn_len (star1 rfl) nost0) (@pe_int _ _ _ _) (nomark _)) (@pss_one _ _ _ (@ps_set _ _ 2 _ _ _ _ sc_law_cell.nd rfl l_law_cell_2 (@pe_op _ _ _ _ _ _ _ _ (@op_add _) (@pe_op _ _ _ _ _ _ _ _ (@op_mulB _) (@pe_op _ _ _ _ _ _ _ _ (@op_mod _) (@pe_ix _ _ _ _ _ _ _ (@ix_list _) (@pe_var _ 0 _ _ rfl v_law_cell_0 dn__law_script dc__law_script) (@pe_op _ _ _ _ _ _ _ _ (@op_mod _) (@pe_op _ _ _ _ _ _ _ _ (@op_mulB _) (@pe_var _ 1 _ _ rfl v_law_cell_1 dn__law_k dc__law_k) (@pe_int _ _ _ _)) (@pe_callB _ _ _ _ _ _ _ _ _ call_len_seq g_law_cell_len M.m_len b_len (@pa_cons _ _ _ _ _ (@pe_var _ 0 _ _ rfl v_law_cell_0 dn__law_script dc__law_script) (@pa_nil _) (star1 rfl)) nn_len dn_len (star1 rfl) nost0)) (fun _ _ => rfl)) (@pe_op _ _ _ _ _ _ _ _ (@op_pow _) (@pe_int _ _ _ _) (@pe_int _ _ _ _))) (@pe_int _ _ _ _)) (@pe_op _ _ _ _ _ _ _ _ (@op_mulB _) (@pe_op _ _ _ _ _ _ _ _ (@op_mulB _) (@pe_var _ 1 _ _ rfl v_law_cell_1 dn__law_k dc__law_k) (@pe_var _ 1 _ _ rfl v_law_cell_1 dn__law_k dc__law_k)) (@pe_int _ _ _ _))) (swap1 rfl) (.inl rfl))) (@pss_nil _)) (@pss_one _ _ _ (@ps_ret _ _ _ _ (@pe_op _ _ _ _ _ _ _ _ (@op_mod _) (@pe_op _ _ _ _ _ _ _ _ (@op_mulB _) (@pe_op _ _ _ _ _ _ _ _ (@op_mod _) (@pe_var _ 2 _ _ rfl v_law_cell_2 dn__law_number_here dc__law_number_here) (@pe_int _ _ _ _)) (@pe_int _ _ _ _)) (@pe_int _ _ _ _))))))), ?_⟩
  unfold Mth.cell at q
  simp only [sFldX, tFldX, tXInit, tTryR, tRev, tTurn, rTurnT, tTryS, rCountT, rPop, rRep, tCont, iZipT, tChain3, tFld, sFld, tMake, tMake0, tMethD, tBM0, rUpper, tDict1T, tTryN, rSlS, rMulS, rCatS, iZipL, rInsert, rReverse, tDNewX, tTry, tRaise, iEnumL, iEnumT, iZip, iSeq, iOr, rIx, iStr, rLeS, rJoin, rSlTA, tComp_eq, tComp1, slots, Option.getD_some, Option.getD_none, tYes, tSeq, tAsg, gName, tOp, tUn, tC, tVar, tCB, tCons, tNil, tCall, rI, rI0, rU, tRet, tRetN, tIfS, tTest, tB, tAnd, tOr, tNot, tAndV, tOrV, tNotV, tIf, tChain, tMenu, tPar, tDrop, tTup, tLst, tNext, tSl, tPart, tNoPart, tNever, gTup, gCons, gNil, gSub, rSetL, tBM, rAppend, rEq, rNe, rIsi, rIxL, rIxT, rIxS, rSlL, isi_non_bl, isi_non_int, isi_non_str, isi_non_lst, isi_non_tup, isi_bl_bl, isi_bl_int, isi_bl_str, isi_bl_lst, isi_bl_tup, isi_int_bl, isi_int_int, isi_int_str, isi_int_lst, isi_int_tup, isi_str_bl, isi_str_int, isi_str_str, isi_str_lst, isi_str_tup, isi_lst_bl, isi_lst_int, isi_lst_str, isi_lst_lst, isi_lst_tup, isi_tup_bl, isi_tup_int, isi_tup_str, isi_tup_lst, isi_tup_tup, isi_dct_bl, isi_dct_int, isi_dct_str, isi_dct_lst, isi_dct_tup, Kd_non, Kd_bl, Kd_int, Kd_str, sc_non_non, sc_non_int, sc_int_non, sc_non_bl, sc_bl_non, sc_non_str, sc_str_non, sc_int_int, sc_bl_bl, sc_str_str, sc_int_str, sc_str_int, sc_bl_str, sc_str_bl, decide_true, decide_false, tFor_eq, iList, iTup, iRng1, iRng2, iRng3, rIndexT, tBM0, tBMT, tyK_int, tyK_bool, tyK_str, tyK_list, tyK_tuple, L2.start, cxK, Int.reduceToNat, List.map_cons, List.map_nil, List.length_cons, List.length_nil, Nat.reduceAdd, Nat.reduceSub, Nat.zero_add, List.replicate_succ, List.replicate_zero, List.cons_append, List.nil_append, List.append_nil, List.getElem?_cons_zero, List.getElem?_cons_succ, List.set_cons_zero, List.set_cons_succ, Option.some.injEq, V.int.injEq, V.bl.injEq, V.ref.injEq, V.str.injEq, V.ty.injEq, List.cons.injEq, exists_eq_left', exists_eq_left, exists_eq_right, exists_and_left, exists_and_right, and_true, true_and, and_assoc, exists_const, decide_eq_true_eq, Bool.not_eq_true', Bool.not_true, Bool.not_false, Bool.not_not, decide_eq_false_iff_not, ite_not, Bool.false_eq_true, if_true, if_false, reduceCtorEq, and_false, false_and, exists_false, or_false, false_or, ↓reduceIte, eq_self, reduceIte]
  refine ⟨_, .inl hS, ?_⟩
  rw [List.length_map]
  by_cases hk : k < (ns.length : Int)
  · rw [if_pos hk]
    rw [if_pos hk] at q
    refine ⟨_, hS, _, atI_map h0 hk, cpow, _, rfl, ten_pos _, q⟩
  · rw [if_neg hk]
    rw [if_neg hk] at q
    have kk : 0 ≤ k * k ∧ k * k ≤ 1000 * 1000 := ⟨Int.mul_nonneg h0 h0, Int.mul_le_mul h1 h1 h0 (by decide)⟩
    refine ⟨cmul (by decide) (by decide) (by omega) (by omega), _, .inl hS, ?_⟩
    rw [List.length_map]
    by_cases hp : 0 < (ns.length : Int)
    · rw [if_pos hp]
      rw [if_pos hp] at q
      have hm := Int.emod_nonneg (k * 7) (show (ns.length : Int) ≠ 0 by omega)
      have hm2 := Int.emod_lt_of_pos (k * 7) hp
      have e1 := Int.emod_nonneg (ns.getD (k * 7 % (ns.length : Int)).toNat 0) (show (10 ^ 60 : Int) ≠ 0 by decide)
      have e2 := Int.emod_lt_of_pos (ns.getD (k * 7 % (ns.length : Int)).toNat 0) (show (0 : Int) < 10 ^ 60 by decide)
      have f1 := Int.emod_nonneg (ns.getD (k * 7 % (ns.length : Int)).toNat 0 % 10 ^ 60 * 48271 + k * k * 69621) (show (2147483647 : Int) ≠ 0 by decide)
      have f2 := Int.emod_lt_of_pos (ns.getD (k * 7 % (ns.length : Int)).toNat 0 % 10 ^ 60 * 48271 + k * k * 69621) (show (0 : Int) < 2147483647 by decide)
      refine ⟨cmul (by omega) (by omega) (by decide) (by decide), _, .inl hS, by rw [List.length_map]; exact hp, _, hS, _, by rw [List.length_map]; exact atI_map hm hm2, cpow, _, rfl, ten_pos _, cmul (by omega) (by omega) (by decide) (by decide), cmul (by omega) (by omega) (by omega) (by omega), cmul (by omega) (by omega) (by decide) (by decide), by decide, cmul (by omega) (by omega) (by decide) (by decide), by decide, q⟩
    · rw [if_neg hp]
      rw [if_neg hp] at q
      have e1 := Int.emod_nonneg (7919 * k + 5) (show (2147483647 : Int) ≠ 0 by decide)
      have e2 := Int.emod_lt_of_pos (7919 * k + 5) (show (0 : Int) < 2147483647 by decide)
      exact ⟨by decide, cmul (by omega) (by omega) (by decide) (by decide), by decide, q⟩
end

abbrev lettersS : Str := "abcdefghijklmnopqrstuvwxyz"
theorem letters_at : ∀ r : Nat, r < 26 → lettersS.cps.toList[r]? = some (97 + r) := by decide +kernel
def spKept (K : PySem.W.Frag) : Sp := fun vs H Q _ => ∃ (p : Addr) (xs : List V), vs = [.ref p] ∧ SqL K H p xs ∧ ∀ l, H l = none → Q (.ref l) (upd H l (.lst xs))
def But (a : Addr) (H H' : Hp) : Prop := ∀ b u, b ≠ a → H b = some u → H' b = some u
def spInitN (K : PySem.W.Frag) (C : Addr) : Sp := fun vs H Q _ => ∃ (a p : Addr) (xs : List V) (v : V), vs = [.ref a, .ref p, v] ∧ H a = some (excN a C none) ∧ SqL K H p xs ∧
  ∀ l dx H', H' a = some (excN a C (some dx)) → H' dx = some (.xd [("parcel", .ref l), ("at", v)]) → H' l = some (.lst xs) → But a H H' → Q .non H'
def spInitT (K : PySem.W.Frag) (C : Addr) : Sp := fun vs H Q _ => ∃ (a p : Addr) (xs : List V) (v v1 v2 : V), vs = [.ref a, .ref p, v, v1, v2] ∧ H a = some (excN a C none) ∧ SqL K H p xs ∧
  ∀ l dx H', H' a = some (excN a C (some dx)) → H' dx = some (.xd [("parcel", .ref l), ("at", v), ("one", v1), ("other", v2)]) → H' l = some (.lst xs) → But a H H' → Q .non H'
def spWord : Sp := fun vs H Q _ => ∃ i : Int, vs = [.int i] ∧ 0 ≤ i ∧ ∀ s : Str, Q (.str s) H
def spNumber : Sp := fun vs H Q _ => ∃ i : Int, vs = [.int i] ∧ 0 ≤ i ∧ ∀ (p : Addr) (ns : List Int) H', Same H H' → H' p = some (.tup (ns.map V.int)) → ns.length ≤ 3 → Q (.ref p) H'
def spOther (D1 D2 : Addr) : Sp := fun vs H Q _ => ∃ (a D dx : Addr), vs = [.ref a] ∧ H a = some (excF a D dx) ∧ (D = D1 ∨ D = D2) ∧ ∀ H', Same H H' → Q (.bl true) H'
def spNone (K : PySem.W.Frag) : Sp := fun vs H Q _ => ∃ (p t u : Addr) (ns : List Int), vs = [.ref p, .ref t] ∧ SqL K H p [.ref u] ∧ SqT K H t (ns.map V.int) ∧ ∀ H', Same H H' → Q (.bl true) H'
def spTwo (K : PySem.W.Frag) : Sp := fun vs H Q _ => ∃ (p t t1 t2 u : Addr) (ns n1 n2 : List Int), vs = [.ref p, .ref t, .ref t1, .ref t2] ∧ SqL K H p [.ref u] ∧ SqT K H t (ns.map V.int) ∧ SqT K H t1 (n1.map V.int) ∧ SqT K H t2 (n2.map V.int) ∧ ∀ H', Same H H' → Q (.bl true) H'
theorem eqT {K : PySem.W.Frag} {H : Hp} {t : Addr} {ns : List Int} {Q : VK} {b : Bool} (h : SqT K H t (ns.map V.int)) (q : Q (.bl (!b)) H) : rEqS K b (.ref t) (.ref t) H Q := by
  refine ⟨t, t, rfl, rfl, .inr ⟨ns, ns, .inr ⟨h, h⟩, ?_⟩⟩
  rw [decide_eq_true rfl]
  cases b <;> exact q
section
variable {P : Program} {w : World} {K : PySem.W.Frag} {mg : Str → Option Value} {base : Heap} {f : Addr} {fd : FuncData}
theorem ok_parcel_kept (F : Fun K "parcel_kept" "parcel_kept" s_parcel_kept f fd) (M : Mg mg) : FnOk P w K mg base CX0 1 f fd ["parcel"] (spKept K) := by
  refine F.ok sc_parcel_kept (fun vs H Q E h => ?_) (fun cdv A outer s H vs Q E hr h => ?_)
  · obtain ⟨p, xs, rfl, _⟩ := h
    rfl
  obtain ⟨p, xs, rfl, hS, q⟩ := h
  refine ⟨_, (@pss_cons _ _ _ _ _ (@ps_if _ _ _ _ _ _ _ _ (@pt_val _ _ _ (@pe_callB _ _ _ _ _ _ _ _ _ call_isi g_parcel_kept_isinstance M.m_isinstance b_isinstance (@pa_cons _ _ _ _ _ (@pe_var _ 0 _ _ rfl v_parcel_kept_0 dn_parcel dc_parcel) (@pa_cons _ _ _ _ _ (@pe_bltn _ _ (.ty "list") _ _ g_parcel_kept_list M.m_list b_list rfl nn_list dn_list) (@pa_nil _) (star1 rfl)) (star1 rfl)) nn_isinstance dn_isinstance (star1 rfl) (nost1 rfl nost0)) (test1 rfl)) (@pss_one _ _ _ (@ps_ret _ _ _ _ (@pe_callTy _ _ _ _ _ _ _ _ _ call_listL g_parcel_kept_list M.m_list b_list (@pa_cons _ _ _ _ _ (@pe_var _ 0 _ _ rfl v_parcel_kept_0 dn_parcel dc_parcel) (@pa_nil _) (star1 rfl)) nn_list dn_list (star1 rfl) nost0))) (@pss_nil _)) (@pss_one _ _ _ (@ps_ret _ _ _ _ (@pe_var _ 0 _ _ rfl v_parcel_kept_0 dn_parcel dc_parcel)))), ?_⟩
  simp only [sFldX, tFldX, tXInit, tTryR, tRev, tTurn, rTurnT, tTryS, rCountT, rPop, rRep, tCont, iZipT, tChain3, tFld, sFld, tMake, tMake0, tMethD, tBM0, rUpper, tDict1T, tTryN, rSlS, rMulS, rCatS, iZipL, rInsert, rReverse, tDNewX, tTry, tRaise, iEnumL, iEnumT, iZip, iSeq, iOr, rIx, iStr, rLeS, rJoin, rSlTA, tComp_eq, tComp1, slots, Option.getD_some, Option.getD_none, tYes, tSeq, tAsg, gName, tOp, tUn, tC, tVar, tCB, tCons, tNil, tCall, rI, rI0, rU, tRet, tRetN, tIfS, tTest, tB, tAnd, tOr, tNot, tAndV, tOrV, tNotV, tIf, tChain, tMenu, tPar, tDrop, tTup, tLst, tNext, tSl, tPart, tNoPart, tNever, gTup, gCons, gNil, gSub, rSetL, tBM, rAppend, rEq, rNe, rIsi, rIxL, rIxT, rIxS, rSlL, isi_non_bl, isi_non_int, isi_non_str, isi_non_lst, isi_non_tup, isi_bl_bl, isi_bl_int, isi_bl_str, isi_bl_lst, isi_bl_tup, isi_int_bl, isi_int_int, isi_int_str, isi_int_lst, isi_int_tup, isi_str_bl, isi_str_int, isi_str_str, isi_str_lst, isi_str_tup, isi_lst_bl, isi_lst_int, isi_lst_str, isi_lst_lst, isi_lst_tup, isi_tup_bl, isi_tup_int, isi_tup_str, isi_tup_lst, isi_tup_tup, isi_dct_bl, isi_dct_int, isi_dct_str, isi_dct_lst, isi_dct_tup, Kd_non, Kd_bl, Kd_int, Kd_str, sc_non_non, sc_non_int, sc_int_non, sc_non_bl, sc_bl_non, sc_non_str, sc_str_non, sc_int_int, sc_bl_bl, sc_str_str, sc_int_str, sc_str_int, sc_bl_str, sc_str_bl, decide_true, decide_false, tFor_eq, iList, iTup, iRng1, iRng2, iRng3, rIndexT, tBM0, tBMT, tyK_int, tyK_bool, tyK_str, tyK_list, tyK_tuple, L2.start, cxK, Int.reduceToNat, List.map_cons, List.map_nil, List.length_cons, List.length_nil, Nat.reduceAdd, Nat.reduceSub, Nat.zero_add, List.replicate_succ, List.replicate_zero, List.cons_append, List.nil_append, List.append_nil, List.getElem?_cons_zero, List.getElem?_cons_succ, List.set_cons_zero, List.set_cons_succ, Option.some.injEq, V.int.injEq, V.bl.injEq, V.ref.injEq, V.str.injEq, V.ty.injEq, List.cons.injEq, exists_eq_left', exists_eq_left, exists_eq_right, exists_and_left, exists_and_right, and_true, true_and, and_assoc, exists_const, decide_eq_true_eq, Bool.not_eq_true', Bool.not_true, Bool.not_false, Bool.not_not, decide_eq_false_iff_not, ite_not, Bool.false_eq_true, if_true, if_false, reduceCtorEq, and_false, false_and, exists_false, or_false, false_or, ↓reduceIte, eq_self, reduceIte]
  refine ⟨.lst, .inl ⟨rfl, _, hS⟩, ?_⟩
  rw [if_pos (by decide)]
  exact ⟨_, hS, q⟩
theorem ok_law_word (F : Fun K "_law_word" "_law_word" s_law_word f fd) (M : Mg mg) : FnOk P w K mg base CX0 1 f fd ["_law_cell_here"] spWord := by
  refine F.ok sc_law_word (fun vs H Q E h => ?_) (fun cdv A outer s H vs Q E hr h => ?_)
  · obtain ⟨i, rfl, _⟩ := h
    rfl
  obtain ⟨c, rfl, c0, q⟩ := h
  refine ⟨_, (@pss_cons _ _ _ _ _ (@ps_set _ _ 1 _ _ _ _ sc_law_word.nd rfl l_law_word_1 (@pe_str _ _ _ _) (swap1 rfl) (.inl rfl)) (@pss_cons _ _ _ _ _ (@ps_for _ _ _ _ _ _ _ _ PassesOwn.never rfl (@pi_range1 _ _ _ _ _ _ g_law_word_range M.m_range (@pa_cons _ _ _ _ _ (@pe_op _ _ _ _ _ _ _ _ (@op_add _) (@pe_int _ _ _ _) (@pe_op _ _ _ _ _ _ _ _ (@op_mod _) (@pe_var _ 0 _ _ rfl v_law_word_0 dn__law_cell_here dc__law_cell_here) (@pe_int _ _ _ _))) (@pa_nil _) (star1 rfl)) (star1' rfl)) (@pg_name _ _ 2 _ sc_law_word.nd rfl l_law_word_2 (.inl rfl)) (@pss_one _ _ _ (@ps_set _ _ 1 _ _ _ _ sc_law_word.nd rfl l_law_word_1 (@pe_op _ _ _ _ _ _ _ _ op_catS (@pe_var _ 1 _ _ rfl v_law_word_1 dn__law_word_here dc__law_word_here) (@pe_ix _ _ _ _ _ _ _ ix_str (@pe_str _ _ _ _) (@pe_op _ _ _ _ _ _ _ _ (@op_mod _) (@pe_op _ _ _ _ _ _ _ _ (@op_fdivB _) (@pe_op _ _ _ _ _ _ _ _ (@op_fdivB _) (@pe_var _ 0 _ _ rfl v_law_word_0 dn__law_cell_here dc__law_cell_here) (@pe_int _ _ _ _)) (@pe_op _ _ _ _ _ _ _ _ (@op_add _) (@pe_var _ 2 _ _ rfl v_law_word_2 dn__law_k dc__law_k) (@pe_int _ _ _ _))) (@pe_int _ _ _ _)) (fun _ _ => rfl))) (swap1 rfl) (.inl rfl))) (by intro _; rfl)) (@pss_one _ _ _ (@ps_ret _ _ _ _ (@pe_var _ 1 _ _ rfl v_law_word_1 dn__law_word_here dc__law_word_here))))), ?_⟩
  simp only [sFldX, tFldX, tXInit, tTryR, tRev, tTurn, rTurnT, tTryS, rCountT, rPop, rRep, tCont, iZipT, tChain3, tFld, sFld, tMake, tMake0, tMethD, tBM0, rUpper, tDict1T, tTryN, rSlS, rMulS, rCatS, iZipL, rInsert, rReverse, tDNewX, tTry, tRaise, iEnumL, iEnumT, iZip, iSeq, iOr, rIx, iStr, rLeS, rJoin, rSlTA, tComp_eq, tComp1, slots, Option.getD_some, Option.getD_none, tYes, tSeq, tAsg, gName, tOp, tUn, tC, tVar, tCB, tCons, tNil, tCall, rI, rI0, rU, tRet, tRetN, tIfS, tTest, tB, tAnd, tOr, tNot, tAndV, tOrV, tNotV, tIf, tChain, tMenu, tPar, tDrop, tTup, tLst, tNext, tSl, tPart, tNoPart, tNever, gTup, gCons, gNil, gSub, rSetL, tBM, rAppend, rEq, rNe, rIsi, rIxL, rIxT, rIxS, rSlL, isi_non_bl, isi_non_int, isi_non_str, isi_non_lst, isi_non_tup, isi_bl_bl, isi_bl_int, isi_bl_str, isi_bl_lst, isi_bl_tup, isi_int_bl, isi_int_int, isi_int_str, isi_int_lst, isi_int_tup, isi_str_bl, isi_str_int, isi_str_str, isi_str_lst, isi_str_tup, isi_lst_bl, isi_lst_int, isi_lst_str, isi_lst_lst, isi_lst_tup, isi_tup_bl, isi_tup_int, isi_tup_str, isi_tup_lst, isi_tup_tup, isi_dct_bl, isi_dct_int, isi_dct_str, isi_dct_lst, isi_dct_tup, Kd_non, Kd_bl, Kd_int, Kd_str, sc_non_non, sc_non_int, sc_int_non, sc_non_bl, sc_bl_non, sc_non_str, sc_str_non, sc_int_int, sc_bl_bl, sc_str_str, sc_int_str, sc_str_int, sc_bl_str, sc_str_bl, decide_true, decide_false, tFor_eq, iList, iTup, iRng1, iRng2, iRng3, rIndexT, tBM0, tBMT, tyK_int, tyK_bool, tyK_str, tyK_list, tyK_tuple, L2.start, cxK, Int.reduceToNat, List.map_cons, List.map_nil, List.length_cons, List.length_nil, Nat.reduceAdd, Nat.reduceSub, Nat.zero_add, List.replicate_succ, List.replicate_zero, List.cons_append, List.nil_append, List.append_nil, List.getElem?_cons_zero, List.getElem?_cons_succ, List.set_cons_zero, List.set_cons_succ, Option.some.injEq, V.int.injEq, V.bl.injEq, V.ref.injEq, V.str.injEq, V.ty.injEq, List.cons.injEq, exists_eq_left', exists_eq_left, exists_eq_right, exists_and_left, exists_and_right, and_true, true_and, and_assoc, exists_const, decide_eq_true_eq, Bool.not_eq_true', Bool.not_true, Bool.not_false, Bool.not_not, decide_eq_false_iff_not, ite_not, Bool.false_eq_true, if_true, if_false, reduceCtorEq, and_false, false_and, exists_false, or_false, false_or, ↓reduceIte, eq_self, reduceIte]
  have m0 := Int.emod_nonneg c (show (8 : Int) ≠ 0 by decide)
  have m1 := Int.emod_lt_of_pos c (show (0 : Int) < 8 by decide)
  refine ⟨by decide, by omega, by omega, ?_⟩
  obtain ⟨Pv, hP⟩ : ∃ Pv : Nat → St → Hp → Prop, Pv = fun i σ H' => ∃ (cs : List Nat) (y : Option V), cs.length = i ∧ H' = H ∧ σ = [some (V.int c), some (V.str (txt cs)), y] := ⟨_, rfl⟩
  refine forW_range Pv ?_ ?_ ?_
  · rw [hP]
    exact ⟨[], _, rfl, rfl, rfl⟩
  · intro i σ H' hi h
    rw [hP] at h
    obtain ⟨cs, y, lc, rfl, rfl⟩ := h
    rw [Int.zero_add]
    simp only [sFldX, tFldX, tXInit, tTryR, tRev, tTurn, rTurnT, tTryS, rCountT, rPop, rRep, tCont, iZipT, tChain3, tFld, sFld, tMake, tMake0, tMethD, tBM0, rUpper, tDict1T, tTryN, rSlS, rMulS, rCatS, iZipL, rInsert, rReverse, tDNewX, tTry, tRaise, iEnumL, iEnumT, iZip, iSeq, iOr, rIx, iStr, rLeS, rJoin, rSlTA, tComp_eq, tComp1, slots, Option.getD_some, Option.getD_none, tYes, tSeq, tAsg, gName, tOp, tUn, tC, tVar, tCB, tCons, tNil, tCall, rI, rI0, rU, tRet, tRetN, tIfS, tTest, tB, tAnd, tOr, tNot, tAndV, tOrV, tNotV, tIf, tChain, tMenu, tPar, tDrop, tTup, tLst, tNext, tSl, tPart, tNoPart, tNever, gTup, gCons, gNil, gSub, rSetL, tBM, rAppend, rEq, rNe, rIsi, rIxL, rIxT, rIxS, rSlL, isi_non_bl, isi_non_int, isi_non_str, isi_non_lst, isi_non_tup, isi_bl_bl, isi_bl_int, isi_bl_str, isi_bl_lst, isi_bl_tup, isi_int_bl, isi_int_int, isi_int_str, isi_int_lst, isi_int_tup, isi_str_bl, isi_str_int, isi_str_str, isi_str_lst, isi_str_tup, isi_lst_bl, isi_lst_int, isi_lst_str, isi_lst_lst, isi_lst_tup, isi_tup_bl, isi_tup_int, isi_tup_str, isi_tup_lst, isi_tup_tup, isi_dct_bl, isi_dct_int, isi_dct_str, isi_dct_lst, isi_dct_tup, Kd_non, Kd_bl, Kd_int, Kd_str, sc_non_non, sc_non_int, sc_int_non, sc_non_bl, sc_bl_non, sc_non_str, sc_str_non, sc_int_int, sc_bl_bl, sc_str_str, sc_int_str, sc_str_int, sc_bl_str, sc_str_bl, decide_true, decide_false, tFor_eq, iList, iTup, iRng1, iRng2, iRng3, rIndexT, tBM0, tBMT, tyK_int, tyK_bool, tyK_str, tyK_list, tyK_tuple, L2.start, cxK, Int.reduceToNat, List.map_cons, List.map_nil, List.length_cons, List.length_nil, Nat.reduceAdd, Nat.reduceSub, Nat.zero_add, List.replicate_succ, List.replicate_zero, List.cons_append, List.nil_append, List.append_nil, List.getElem?_cons_zero, List.getElem?_cons_succ, List.set_cons_zero, List.set_cons_succ, Option.some.injEq, V.int.injEq, V.bl.injEq, V.ref.injEq, V.str.injEq, V.ty.injEq, List.cons.injEq, exists_eq_left', exists_eq_left, exists_eq_right, exists_and_left, exists_and_right, and_true, true_and, and_assoc, exists_const, decide_eq_true_eq, Bool.not_eq_true', Bool.not_true, Bool.not_false, Bool.not_not, decide_eq_false_iff_not, ite_not, Bool.false_eq_true, if_true, if_false, reduceCtorEq, and_false, false_and, exists_false, or_false, false_or, ↓reduceIte, eq_self, reduceIte]
    have e0 := Int.emod_nonneg (c / 8 / ((i : Int) + 1)) (show (26 : Int) ≠ 0 by decide)
    have e1 := Int.emod_lt_of_pos (c / 8 / ((i : Int) + 1)) (show (0 : Int) < 26 by decide)
    obtain ⟨r, hr'⟩ : ∃ r : Nat, c / 8 / ((i : Int) + 1) % 26 = r := ⟨(c / 8 / ((i : Int) + 1) % 26).toNat, by omega⟩
    refine ⟨⟨by decide, bitsN (by decide) (by decide)⟩, ⟨by omega, bitsN (by omega) (by omega)⟩, by decide, ?_⟩
    rw [hr']
    refine ⟨by decide, 97 + r, atI_nat (letters_at r (by omega)), cs, rfl, [97 + r], rfl, by rw [lc]; simp; omega, ?_⟩
    rw [hP]
    exact ⟨cs ++ [97 + r], _, by rw [List.length_append, lc]; rfl, rfl, rfl⟩
  · intro σ H' h
    rw [hP] at h
    obtain ⟨cs, y, lc, rfl, rfl⟩ := h
    simp only [sFldX, tFldX, tXInit, tTryR, tRev, tTurn, rTurnT, tTryS, rCountT, rPop, rRep, tCont, iZipT, tChain3, tFld, sFld, tMake, tMake0, tMethD, tBM0, rUpper, tDict1T, tTryN, rSlS, rMulS, rCatS, iZipL, rInsert, rReverse, tDNewX, tTry, tRaise, iEnumL, iEnumT, iZip, iSeq, iOr, rIx, iStr, rLeS, rJoin, rSlTA, tComp_eq, tComp1, slots, Option.getD_some, Option.getD_none, tYes, tSeq, tAsg, gName, tOp, tUn, tC, tVar, tCB, tCons, tNil, tCall, rI, rI0, rU, tRet, tRetN, tIfS, tTest, tB, tAnd, tOr, tNot, tAndV, tOrV, tNotV, tIf, tChain, tMenu, tPar, tDrop, tTup, tLst, tNext, tSl, tPart, tNoPart, tNever, gTup, gCons, gNil, gSub, rSetL, tBM, rAppend, rEq, rNe, rIsi, rIxL, rIxT, rIxS, rSlL, isi_non_bl, isi_non_int, isi_non_str, isi_non_lst, isi_non_tup, isi_bl_bl, isi_bl_int, isi_bl_str, isi_bl_lst, isi_bl_tup, isi_int_bl, isi_int_int, isi_int_str, isi_int_lst, isi_int_tup, isi_str_bl, isi_str_int, isi_str_str, isi_str_lst, isi_str_tup, isi_lst_bl, isi_lst_int, isi_lst_str, isi_lst_lst, isi_lst_tup, isi_tup_bl, isi_tup_int, isi_tup_str, isi_tup_lst, isi_tup_tup, isi_dct_bl, isi_dct_int, isi_dct_str, isi_dct_lst, isi_dct_tup, Kd_non, Kd_bl, Kd_int, Kd_str, sc_non_non, sc_non_int, sc_int_non, sc_non_bl, sc_bl_non, sc_non_str, sc_str_non, sc_int_int, sc_bl_bl, sc_str_str, sc_int_str, sc_str_int, sc_bl_str, sc_str_bl, decide_true, decide_false, tFor_eq, iList, iTup, iRng1, iRng2, iRng3, rIndexT, tBM0, tBMT, tyK_int, tyK_bool, tyK_str, tyK_list, tyK_tuple, L2.start, cxK, Int.reduceToNat, List.map_cons, List.map_nil, List.length_cons, List.length_nil, Nat.reduceAdd, Nat.reduceSub, Nat.zero_add, List.replicate_succ, List.replicate_zero, List.cons_append, List.nil_append, List.append_nil, List.getElem?_cons_zero, List.getElem?_cons_succ, List.set_cons_zero, List.set_cons_succ, Option.some.injEq, V.int.injEq, V.bl.injEq, V.ref.injEq, V.str.injEq, V.ty.injEq, List.cons.injEq, exists_eq_left', exists_eq_left, exists_eq_right, exists_and_left, exists_and_right, and_true, true_and, and_assoc, exists_const, decide_eq_true_eq, Bool.not_eq_true', Bool.not_true, Bool.not_false, Bool.not_not, decide_eq_false_iff_not, ite_not, Bool.false_eq_true, if_true, if_false, reduceCtorEq, and_false, false_and, exists_false, or_false, false_or, ↓reduceIte, eq_self, reduceIte]
    exact q _
theorem ok_law_number (F : Fun K "_law_number" "_law_number" s_law_number f fd) (M : Mg mg) : FnOk P w K mg base CX0 1 f fd ["_law_cell_here"] spNumber := by
  refine F.ok sc_law_number (fun vs H Q E h => ?_) (fun cdv A outer s H vs Q E hr h => ?_)
  · obtain ⟨i, rfl, _⟩ := h
    rfl
  obtain ⟨c, rfl, c0, q⟩ := h
  refine ⟨_, (@pss_cons _ _ _ _ _ (@ps_set _ _ 1 _ _ _ _ sc_law_number.nd rfl l_law_number_1 (@pe_lst _ _ _ _ (@pa_nil _)) (swap1 rfl) (.inl rfl)) (@pss_cons _ _ _ _ _ (@ps_for _ _ _ _ _ _ _ _ PassesOwn.never rfl (@pi_range1 _ _ _ _ _ _ g_law_number_range M.m_range (@pa_cons _ _ _ _ _ (@pe_op _ _ _ _ _ _ _ _ (@op_mod _) (@pe_var _ 0 _ _ rfl v_law_number_0 dn__law_cell_here dc__law_cell_here) (@pe_int _ _ _ _)) (@pa_nil _) (star1 rfl)) (star1' rfl)) (@pg_name _ _ 2 _ sc_law_number.nd rfl l_law_number_2 (.inl rfl)) (@pss_one _ _ _ (@ps_expr _ _ _ _ (@pe_bm _ _ _ _ _ _ _ _ _ _ _ _ PySem.F.plainAttrs_list PySem.F.slot_list_append PySem.F.type_list_append mt_append (@pe_var _ 1 _ _ rfl v_law_number_1 dn__law_found dc__law_found) (@pa_cons _ _ _ _ _ (@pe_op _ _ _ _ _ _ _ _ (@op_add _) (@pe_int _ _ _ _) (@pe_op _ _ _ _ _ _ _ _ (@op_mod _) (@pe_op _ _ _ _ _ _ _ _ (@op_fdivB _) (@pe_op _ _ _ _ _ _ _ _ (@op_fdivB _) (@pe_var _ 0 _ _ rfl v_law_number_0 dn__law_cell_here dc__law_cell_here) (@pe_int _ _ _ _)) (@pe_op _ _ _ _ _ _ _ _ (@op_add _) (@pe_var _ 2 _ _ rfl v_law_number_2 dn__law_k dc__law_k) (@pe_int _ _ _ _))) (@pe_int _ _ _ _))) (@pa_nil _) (star1 rfl)) (by rfl) (by rfl) (by rfl) (by rfl) (by rfl)) (swap1 rfl))) (by intro _; rfl)) (@pss_one _ _ _ (@ps_ret _ _ _ _ (@pe_callTy _ _ _ _ _ _ _ _ _ call_tupleL g_law_number_tuple M.m_tuple b_tuple (@pa_cons _ _ _ _ _ (@pe_var _ 1 _ _ rfl v_law_number_1 dn__law_found dc__law_found) (@pa_nil _) (star1 rfl)) nn_tuple dn_tuple (star1 rfl) nost0))))), ?_⟩
  simp only [sFldX, tFldX, tXInit, tTryR, tRev, tTurn, rTurnT, tTryS, rCountT, rPop, rRep, tCont, iZipT, tChain3, tFld, sFld, tMake, tMake0, tMethD, tBM0, rUpper, tDict1T, tTryN, rSlS, rMulS, rCatS, iZipL, rInsert, rReverse, tDNewX, tTry, tRaise, iEnumL, iEnumT, iZip, iSeq, iOr, rIx, iStr, rLeS, rJoin, rSlTA, tComp_eq, tComp1, slots, Option.getD_some, Option.getD_none, tYes, tSeq, tAsg, gName, tOp, tUn, tC, tVar, tCB, tCons, tNil, tCall, rI, rI0, rU, tRet, tRetN, tIfS, tTest, tB, tAnd, tOr, tNot, tAndV, tOrV, tNotV, tIf, tChain, tMenu, tPar, tDrop, tTup, tLst, tNext, tSl, tPart, tNoPart, tNever, gTup, gCons, gNil, gSub, rSetL, tBM, rAppend, rEq, rNe, rIsi, rIxL, rIxT, rIxS, rSlL, isi_non_bl, isi_non_int, isi_non_str, isi_non_lst, isi_non_tup, isi_bl_bl, isi_bl_int, isi_bl_str, isi_bl_lst, isi_bl_tup, isi_int_bl, isi_int_int, isi_int_str, isi_int_lst, isi_int_tup, isi_str_bl, isi_str_int, isi_str_str, isi_str_lst, isi_str_tup, isi_lst_bl, isi_lst_int, isi_lst_str, isi_lst_lst, isi_lst_tup, isi_tup_bl, isi_tup_int, isi_tup_str, isi_tup_lst, isi_tup_tup, isi_dct_bl, isi_dct_int, isi_dct_str, isi_dct_lst, isi_dct_tup, Kd_non, Kd_bl, Kd_int, Kd_str, sc_non_non, sc_non_int, sc_int_non, sc_non_bl, sc_bl_non, sc_non_str, sc_str_non, sc_int_int, sc_bl_bl, sc_str_str, sc_int_str, sc_str_int, sc_bl_str, sc_str_bl, decide_true, decide_false, tFor_eq, iList, iTup, iRng1, iRng2, iRng3, rIndexT, tBM0, tBMT, tyK_int, tyK_bool, tyK_str, tyK_list, tyK_tuple, L2.start, cxK, Int.reduceToNat, List.map_cons, List.map_nil, List.length_cons, List.length_nil, Nat.reduceAdd, Nat.reduceSub, Nat.zero_add, List.replicate_succ, List.replicate_zero, List.cons_append, List.nil_append, List.append_nil, List.getElem?_cons_zero, List.getElem?_cons_succ, List.set_cons_zero, List.set_cons_succ, Option.some.injEq, V.int.injEq, V.bl.injEq, V.ref.injEq, V.str.injEq, V.ty.injEq, List.cons.injEq, exists_eq_left', exists_eq_left, exists_eq_right, exists_and_left, exists_and_right, and_true, true_and, and_assoc, exists_const, decide_eq_true_eq, Bool.not_eq_true', Bool.not_true, Bool.not_false, Bool.not_not, decide_eq_false_iff_not, ite_not, Bool.false_eq_true, if_true, if_false, reduceCtorEq, and_false, false_and, exists_false, or_false, false_or, ↓reduceIte, eq_self, reduceIte]
  have m0 := Int.emod_nonneg c (show (4 : Int) ≠ 0 by decide)
  have m1 := Int.emod_lt_of_pos c (show (0 : Int) < 4 by decide)
  refine ⟨by decide, fun p hp => ⟨by decide, by omega, by omega, ?_⟩⟩
  obtain ⟨Pv, hP⟩ : ∃ Pv : Nat → St → Hp → Prop, Pv = fun i σ H' => ∃ (ns : List Int) (y : Option V), ns.length = i ∧ H' p = some (.lst (ns.map V.int)) ∧ Same H H' ∧ σ = [some (V.int c), some (V.ref p), y] := ⟨_, rfl⟩
  refine forW_range Pv ?_ ?_ ?_
  · rw [hP]
    exact ⟨[], _, rfl, upd_same, same_new hp _, rfl⟩
  · intro i σ H' hi h
    rw [hP] at h
    obtain ⟨ns, y, lc, d, e, rfl⟩ := h
    rw [Int.zero_add]
    simp only [sFldX, tFldX, tXInit, tTryR, tRev, tTurn, rTurnT, tTryS, rCountT, rPop, rRep, tCont, iZipT, tChain3, tFld, sFld, tMake, tMake0, tMethD, tBM0, rUpper, tDict1T, tTryN, rSlS, rMulS, rCatS, iZipL, rInsert, rReverse, tDNewX, tTry, tRaise, iEnumL, iEnumT, iZip, iSeq, iOr, rIx, iStr, rLeS, rJoin, rSlTA, tComp_eq, tComp1, slots, Option.getD_some, Option.getD_none, tYes, tSeq, tAsg, gName, tOp, tUn, tC, tVar, tCB, tCons, tNil, tCall, rI, rI0, rU, tRet, tRetN, tIfS, tTest, tB, tAnd, tOr, tNot, tAndV, tOrV, tNotV, tIf, tChain, tMenu, tPar, tDrop, tTup, tLst, tNext, tSl, tPart, tNoPart, tNever, gTup, gCons, gNil, gSub, rSetL, tBM, rAppend, rEq, rNe, rIsi, rIxL, rIxT, rIxS, rSlL, isi_non_bl, isi_non_int, isi_non_str, isi_non_lst, isi_non_tup, isi_bl_bl, isi_bl_int, isi_bl_str, isi_bl_lst, isi_bl_tup, isi_int_bl, isi_int_int, isi_int_str, isi_int_lst, isi_int_tup, isi_str_bl, isi_str_int, isi_str_str, isi_str_lst, isi_str_tup, isi_lst_bl, isi_lst_int, isi_lst_str, isi_lst_lst, isi_lst_tup, isi_tup_bl, isi_tup_int, isi_tup_str, isi_tup_lst, isi_tup_tup, isi_dct_bl, isi_dct_int, isi_dct_str, isi_dct_lst, isi_dct_tup, Kd_non, Kd_bl, Kd_int, Kd_str, sc_non_non, sc_non_int, sc_int_non, sc_non_bl, sc_bl_non, sc_non_str, sc_str_non, sc_int_int, sc_bl_bl, sc_str_str, sc_int_str, sc_str_int, sc_bl_str, sc_str_bl, decide_true, decide_false, tFor_eq, iList, iTup, iRng1, iRng2, iRng3, rIndexT, tBM0, tBMT, tyK_int, tyK_bool, tyK_str, tyK_list, tyK_tuple, L2.start, cxK, Int.reduceToNat, List.map_cons, List.map_nil, List.length_cons, List.length_nil, Nat.reduceAdd, Nat.reduceSub, Nat.zero_add, List.replicate_succ, List.replicate_zero, List.cons_append, List.nil_append, List.append_nil, List.getElem?_cons_zero, List.getElem?_cons_succ, List.set_cons_zero, List.set_cons_succ, Option.some.injEq, V.int.injEq, V.bl.injEq, V.ref.injEq, V.str.injEq, V.ty.injEq, List.cons.injEq, exists_eq_left', exists_eq_left, exists_eq_right, exists_and_left, exists_and_right, and_true, true_and, and_assoc, exists_const, decide_eq_true_eq, Bool.not_eq_true', Bool.not_true, Bool.not_false, Bool.not_not, decide_eq_false_iff_not, ite_not, Bool.false_eq_true, if_true, if_false, reduceCtorEq, and_false, false_and, exists_false, or_false, false_or, ↓reduceIte, eq_self, reduceIte]
    refine ⟨.inl ⟨rfl, _, SqL.of d⟩, ⟨by decide, bitsN (by decide) (by decide)⟩, ⟨by omega, bitsN (by omega) (by omega)⟩, by decide, _, d, by rw [List.length_map, lc]; exact Nat.lt_of_lt_of_le (m := 64) (by omega) (by decide), ?_⟩
    rw [hP]
    exact ⟨ns ++ [_], _, by rw [List.length_append, lc]; rfl, by rw [upd_same, List.map_append]; rfl, same_upd e hp _, rfl⟩
  · intro σ H' h
    rw [hP] at h
    obtain ⟨ns, y, lc, d, e, rfl⟩ := h
    simp only [sFldX, tFldX, tXInit, tTryR, tRev, tTurn, rTurnT, tTryS, rCountT, rPop, rRep, tCont, iZipT, tChain3, tFld, sFld, tMake, tMake0, tMethD, tBM0, rUpper, tDict1T, tTryN, rSlS, rMulS, rCatS, iZipL, rInsert, rReverse, tDNewX, tTry, tRaise, iEnumL, iEnumT, iZip, iSeq, iOr, rIx, iStr, rLeS, rJoin, rSlTA, tComp_eq, tComp1, slots, Option.getD_some, Option.getD_none, tYes, tSeq, tAsg, gName, tOp, tUn, tC, tVar, tCB, tCons, tNil, tCall, rI, rI0, rU, tRet, tRetN, tIfS, tTest, tB, tAnd, tOr, tNot, tAndV, tOrV, tNotV, tIf, tChain, tMenu, tPar, tDrop, tTup, tLst, tNext, tSl, tPart, tNoPart, tNever, gTup, gCons, gNil, gSub, rSetL, tBM, rAppend, rEq, rNe, rIsi, rIxL, rIxT, rIxS, rSlL, isi_non_bl, isi_non_int, isi_non_str, isi_non_lst, isi_non_tup, isi_bl_bl, isi_bl_int, isi_bl_str, isi_bl_lst, isi_bl_tup, isi_int_bl, isi_int_int, isi_int_str, isi_int_lst, isi_int_tup, isi_str_bl, isi_str_int, isi_str_str, isi_str_lst, isi_str_tup, isi_lst_bl, isi_lst_int, isi_lst_str, isi_lst_lst, isi_lst_tup, isi_tup_bl, isi_tup_int, isi_tup_str, isi_tup_lst, isi_tup_tup, isi_dct_bl, isi_dct_int, isi_dct_str, isi_dct_lst, isi_dct_tup, Kd_non, Kd_bl, Kd_int, Kd_str, sc_non_non, sc_non_int, sc_int_non, sc_non_bl, sc_bl_non, sc_non_str, sc_str_non, sc_int_int, sc_bl_bl, sc_str_str, sc_int_str, sc_str_int, sc_bl_str, sc_str_bl, decide_true, decide_false, tFor_eq, iList, iTup, iRng1, iRng2, iRng3, rIndexT, tBM0, tBMT, tyK_int, tyK_bool, tyK_str, tyK_list, tyK_tuple, L2.start, cxK, Int.reduceToNat, List.map_cons, List.map_nil, List.length_cons, List.length_nil, Nat.reduceAdd, Nat.reduceSub, Nat.zero_add, List.replicate_succ, List.replicate_zero, List.cons_append, List.nil_append, List.append_nil, List.getElem?_cons_zero, List.getElem?_cons_succ, List.set_cons_zero, List.set_cons_succ, Option.some.injEq, V.int.injEq, V.bl.injEq, V.ref.injEq, V.str.injEq, V.ty.injEq, List.cons.injEq, exists_eq_left', exists_eq_left, exists_eq_right, exists_and_left, exists_and_right, and_true, true_and, and_assoc, exists_const, decide_eq_true_eq, Bool.not_eq_true', Bool.not_true, Bool.not_false, Bool.not_not, decide_eq_false_iff_not, ite_not, Bool.false_eq_true, if_true, if_false, reduceCtorEq, and_false, false_and, exists_false, or_false, false_or, ↓reduceIte, eq_self, reduceIte]
    exact ⟨_, SqL.of d, fun l hl => q l ns _ (e.trans (same_new hl _)) upd_same (by omega)⟩
theorem ok_NoneClaims_init {c_NoneClaims c_TariffError : Addr} (F : Fun K "__init__" "NoneClaims.__init__" s_NoneClaims_init f fd) (M : Mg mg) (C_parcel_kept : Cal P w K mg base CX0 "parcel_kept" 1 ["parcel"] (spKept K)) (U_TariffError : XUp K mg "TariffError" c_TariffError) {fI : Addr} (xi : excInI K c_NoneClaims fI = true) (xf : XFld K c_NoneClaims) (n1 : NoAttr K c_NoneClaims "parcel") (n2 : NoAttr K c_NoneClaims "at") : FnOk P w K mg base CX0 2 f fd ["self", "parcel", "at"] (spInitN K c_NoneClaims) := by
  refine F.ok sc_NoneClaims_init (fun vs H Q E h => ?_) (fun cdv A outer s H vs Q E hr h => ?_)
  · obtain ⟨a, p, xs, v, rfl, _⟩ := h
    rfl
  obtain ⟨a, p, xs, v, rfl, ha, hS, q⟩ := h
  refine ⟨_, (@pss_cons _ _ _ _ _ (@ps_expr _ _ _ _ (@pe_xinit _ _ _ _ _ _ _ _ _ _ g_NoneClaims_init_TariffError U_TariffError (@pa_cons _ _ _ _ _ (@pe_var _ 0 _ _ rfl v_NoneClaims_init_0 dn_self dc_self) (@pa_cons _ _ _ _ _ (@pe_str _ _ _ _) (@pa_nil _) (star1 rfl)) (star1 rfl)) dn_TariffError (star1 rfl) (nost1 rfl nost0) (by rfl)) (swap1 rfl)) (@pss_cons _ _ _ _ _ (@ps_fldX _ _ _ _ _ _ _ _ (@pe_var _ 0 _ _ rfl v_NoneClaims_init_0 dn_self dc_self) (@pe_callC _ _ _ _ _ _ _ _ _ _ _ C_parcel_kept hr g_NoneClaims_init_parcel_kept (@pa_cons _ _ _ _ _ (@pe_var _ 1 _ _ rfl v_NoneClaims_init_1 dn_parcel dc_parcel) (@pa_nil _) (star1 rfl)) (by decide) dn_parcel_kept (star1 rfl) nost0) (swap1 rfl)) (@pss_one _ _ _ (@ps_fldX _ _ _ _ _ _ _ _ (@pe_var _ 0 _ _ rfl v_NoneClaims_init_0 dn_self dc_self) (@pe_var _ 2 _ _ rfl v_NoneClaims_init_2 dn_at dc_at) (swap1 rfl))))), ?_⟩
  simp only [sFldX, tFldX, tXInit, tTryR, tRev, tTurn, rTurnT, tTryS, rCountT, rPop, rRep, tCont, iZipT, tChain3, tFld, sFld, tMake, tMake0, tMethD, tBM0, rUpper, tDict1T, tTryN, rSlS, rMulS, rCatS, iZipL, rInsert, rReverse, tDNewX, tTry, tRaise, iEnumL, iEnumT, iZip, iSeq, iOr, rIx, iStr, rLeS, rJoin, rSlTA, tComp_eq, tComp1, slots, Option.getD_some, Option.getD_none, tYes, tSeq, tAsg, gName, tOp, tUn, tC, tVar, tCB, tCons, tNil, tCall, rI, rI0, rU, tRet, tRetN, tIfS, tTest, tB, tAnd, tOr, tNot, tAndV, tOrV, tNotV, tIf, tChain, tMenu, tPar, tDrop, tTup, tLst, tNext, tSl, tPart, tNoPart, tNever, gTup, gCons, gNil, gSub, rSetL, tBM, rAppend, rEq, rNe, rIsi, rIxL, rIxT, rIxS, rSlL, isi_non_bl, isi_non_int, isi_non_str, isi_non_lst, isi_non_tup, isi_bl_bl, isi_bl_int, isi_bl_str, isi_bl_lst, isi_bl_tup, isi_int_bl, isi_int_int, isi_int_str, isi_int_lst, isi_int_tup, isi_str_bl, isi_str_int, isi_str_str, isi_str_lst, isi_str_tup, isi_lst_bl, isi_lst_int, isi_lst_str, isi_lst_lst, isi_lst_tup, isi_tup_bl, isi_tup_int, isi_tup_str, isi_tup_lst, isi_tup_tup, isi_dct_bl, isi_dct_int, isi_dct_str, isi_dct_lst, isi_dct_tup, Kd_non, Kd_bl, Kd_int, Kd_str, sc_non_non, sc_non_int, sc_int_non, sc_non_bl, sc_bl_non, sc_non_str, sc_str_non, sc_int_int, sc_bl_bl, sc_str_str, sc_int_str, sc_str_int, sc_bl_str, sc_str_bl, decide_true, decide_false, tFor_eq, iList, iTup, iRng1, iRng2, iRng3, rIndexT, tBM0, tBMT, tyK_int, tyK_bool, tyK_str, tyK_list, tyK_tuple, L2.start, cxK, Int.reduceToNat, List.map_cons, List.map_nil, List.length_cons, List.length_nil, Nat.reduceAdd, Nat.reduceSub, Nat.zero_add, List.replicate_succ, List.replicate_zero, List.cons_append, List.nil_append, List.append_nil, List.getElem?_cons_zero, List.getElem?_cons_succ, List.set_cons_zero, List.set_cons_succ, Option.some.injEq, V.int.injEq, V.bl.injEq, V.ref.injEq, V.str.injEq, V.ty.injEq, List.cons.injEq, exists_eq_left', exists_eq_left, exists_eq_right, exists_and_left, exists_and_right, and_true, true_and, and_assoc, exists_const, decide_eq_true_eq, Bool.not_eq_true', Bool.not_true, Bool.not_false, Bool.not_not, decide_eq_false_iff_not, ite_not, Bool.false_eq_true, if_true, if_false, reduceCtorEq, and_false, false_and, exists_false, or_false, false_or, ↓reduceIte, eq_self, reduceIte]
  refine ⟨_, ⟨_, ha⟩, ⟨_, xi⟩, by decide, p, xs, rfl, hS, fun l hl => ?_⟩
  have S1 := same_new hl (.lst xs)
  have e1 : upd H l (.lst xs) l = some (.lst xs) := upd_same
  have a1 := S1 _ _ ha
  generalize upd H l (.lst xs) = H1 at S1 e1 a1 ⊢
  refine ⟨_, xf, n1, .inl ⟨a1, fun dx hdx ne => ?_⟩⟩
  have la : l ≠ a := fun z => by rw [z, ha] at hl; cases hl
  have ld : l ≠ dx := fun z => by rw [z, hdx] at e1; cases e1
  obtain ⟨H2, g2, a2, d2, l2, B2⟩ : ∃ H2, H2 = upd (upd H1 a (excN a c_NoneClaims (some dx))) dx (.xd [("parcel", .ref l)]) ∧ H2 a = some (excN a c_NoneClaims (some dx)) ∧ H2 dx = some (.xd [("parcel", .ref l)]) ∧ H2 l = some (.lst xs) ∧ But a H H2 :=
    ⟨_, rfl, by rw [upd_ne ne.symm, upd_same], upd_same, by rw [upd_ne ld, upd_ne la]; exact e1, fun b u nb e => by
      have z := S1 _ _ e
      rw [upd_ne (fun z' => by rw [z', hdx] at z; cases z), upd_ne nb]
      exact z⟩
  rw [← g2]
  refine ⟨_, xf, n2, .inr ⟨dx, a2, _, d2, (show 1 ≤ 1000 by decide), ?_⟩⟩
  refine q l dx _ (by rw [upd_ne ne.symm]; exact a2) (by rw [upd_same]; rfl) (by rw [upd_ne ld]; exact l2) fun b u nb e => ?_
  rw [upd_ne (fun z' => ?_)]
  · exact B2 b u nb e
  · have z := S1 _ _ e
    rw [z', hdx] at z
    cases z
theorem ok_TwoClaim_init {c_TwoClaim c_TariffError : Addr} (F : Fun K "__init__" "TwoClaim.__init__" s_TwoClaim_init f fd) (M : Mg mg) (C_parcel_kept : Cal P w K mg base CX0 "parcel_kept" 1 ["parcel"] (spKept K)) (U_TariffError : XUp K mg "TariffError" c_TariffError) {fI : Addr} (xi : excInI K c_TwoClaim fI = true) (xf : XFld K c_TwoClaim) (n1 : NoAttr K c_TwoClaim "parcel") (n2 : NoAttr K c_TwoClaim "at") (n3 : NoAttr K c_TwoClaim "one") (n4 : NoAttr K c_TwoClaim "other") : FnOk P w K mg base CX0 2 f fd ["self", "parcel", "at", "one", "other"] (spInitT K c_TwoClaim) := by
  refine F.ok sc_TwoClaim_init (fun vs H Q E h => ?_) (fun cdv A outer s H vs Q E hr h => ?_)
  · obtain ⟨a, p, xs, v, v1, v2, rfl, _⟩ := h
    rfl
  obtain ⟨a, p, xs, v, v1, v2, rfl, ha, hS, q⟩ := h
  refine ⟨_, (@pss_cons _ _ _ _ _ (@ps_expr _ _ _ _ (@pe_xinit _ _ _ _ _ _ _ _ _ _ g_TwoClaim_init_TariffError U_TariffError (@pa_cons _ _ _ _ _ (@pe_var _ 0 _ _ rfl v_TwoClaim_init_0 dn_self dc_self) (@pa_cons _ _ _ _ _ (@pe_str _ _ _ _) (@pa_nil _) (star1 rfl)) (star1 rfl)) dn_TariffError (star1 rfl) (nost1 rfl nost0) (by rfl)) (swap1 rfl)) (@pss_cons _ _ _ _ _ (@ps_fldX _ _ _ _ _ _ _ _ (@pe_var _ 0 _ _ rfl v_TwoClaim_init_0 dn_self dc_self) (@pe_callC _ _ _ _ _ _ _ _ _ _ _ C_parcel_kept hr g_TwoClaim_init_parcel_kept (@pa_cons _ _ _ _ _ (@pe_var _ 1 _ _ rfl v_TwoClaim_init_1 dn_parcel dc_parcel) (@pa_nil _) (star1 rfl)) (by decide) dn_parcel_kept (star1 rfl) nost0) (swap1 rfl)) (@pss_cons _ _ _ _ _ (@ps_fldX _ _ _ _ _ _ _ _ (@pe_var _ 0 _ _ rfl v_TwoClaim_init_0 dn_self dc_self) (@pe_var _ 2 _ _ rfl v_TwoClaim_init_2 dn_at dc_at) (swap1 rfl)) (@pss_cons _ _ _ _ _ (@ps_fldX _ _ _ _ _ _ _ _ (@pe_var _ 0 _ _ rfl v_TwoClaim_init_0 dn_self dc_self) (@pe_var _ 3 _ _ rfl v_TwoClaim_init_3 dn_one dc_one) (swap1 rfl)) (@pss_one _ _ _ (@ps_fldX _ _ _ _ _ _ _ _ (@pe_var _ 0 _ _ rfl v_TwoClaim_init_0 dn_self dc_self) (@pe_var _ 4 _ _ rfl v_TwoClaim_init_4 dn_other dc_other) (swap1 rfl))))))), ?_⟩
  simp only [sFldX, tFldX, tXInit, tTryR, tRev, tTurn, rTurnT, tTryS, rCountT, rPop, rRep, tCont, iZipT, tChain3, tFld, sFld, tMake, tMake0, tMethD, tBM0, rUpper, tDict1T, tTryN, rSlS, rMulS, rCatS, iZipL, rInsert, rReverse, tDNewX, tTry, tRaise, iEnumL, iEnumT, iZip, iSeq, iOr, rIx, iStr, rLeS, rJoin, rSlTA, tComp_eq, tComp1, slots, Option.getD_some, Option.getD_none, tYes, tSeq, tAsg, gName, tOp, tUn, tC, tVar, tCB, tCons, tNil, tCall, rI, rI0, rU, tRet, tRetN, tIfS, tTest, tB, tAnd, tOr, tNot, tAndV, tOrV, tNotV, tIf, tChain, tMenu, tPar, tDrop, tTup, tLst, tNext, tSl, tPart, tNoPart, tNever, gTup, gCons, gNil, gSub, rSetL, tBM, rAppend, rEq, rNe, rIsi, rIxL, rIxT, rIxS, rSlL, isi_non_bl, isi_non_int, isi_non_str, isi_non_lst, isi_non_tup, isi_bl_bl, isi_bl_int, isi_bl_str, isi_bl_lst, isi_bl_tup, isi_int_bl, isi_int_int, isi_int_str, isi_int_lst, isi_int_tup, isi_str_bl, isi_str_int, isi_str_str, isi_str_lst, isi_str_tup, isi_lst_bl, isi_lst_int, isi_lst_str, isi_lst_lst, isi_lst_tup, isi_tup_bl, isi_tup_int, isi_tup_str, isi_tup_lst, isi_tup_tup, isi_dct_bl, isi_dct_int, isi_dct_str, isi_dct_lst, isi_dct_tup, Kd_non, Kd_bl, Kd_int, Kd_str, sc_non_non, sc_non_int, sc_int_non, sc_non_bl, sc_bl_non, sc_non_str, sc_str_non, sc_int_int, sc_bl_bl, sc_str_str, sc_int_str, sc_str_int, sc_bl_str, sc_str_bl, decide_true, decide_false, tFor_eq, iList, iTup, iRng1, iRng2, iRng3, rIndexT, tBM0, tBMT, tyK_int, tyK_bool, tyK_str, tyK_list, tyK_tuple, L2.start, cxK, Int.reduceToNat, List.map_cons, List.map_nil, List.length_cons, List.length_nil, Nat.reduceAdd, Nat.reduceSub, Nat.zero_add, List.replicate_succ, List.replicate_zero, List.cons_append, List.nil_append, List.append_nil, List.getElem?_cons_zero, List.getElem?_cons_succ, List.set_cons_zero, List.set_cons_succ, Option.some.injEq, V.int.injEq, V.bl.injEq, V.ref.injEq, V.str.injEq, V.ty.injEq, List.cons.injEq, exists_eq_left', exists_eq_left, exists_eq_right, exists_and_left, exists_and_right, and_true, true_and, and_assoc, exists_const, decide_eq_true_eq, Bool.not_eq_true', Bool.not_true, Bool.not_false, Bool.not_not, decide_eq_false_iff_not, ite_not, Bool.false_eq_true, if_true, if_false, reduceCtorEq, and_false, false_and, exists_false, or_false, false_or, ↓reduceIte, eq_self, reduceIte]
  refine ⟨_, ⟨_, ha⟩, ⟨_, xi⟩, by decide, p, xs, rfl, hS, fun l hl => ?_⟩
  have S1 := same_new hl (.lst xs)
  have e1 : upd H l (.lst xs) l = some (.lst xs) := upd_same
  have a1 := S1 _ _ ha
  generalize upd H l (.lst xs) = H1 at S1 e1 a1 ⊢
  refine ⟨_, xf, n1, .inl ⟨a1, fun dx hdx ne => ?_⟩⟩
  have la : l ≠ a := fun z => by rw [z, ha] at hl; cases hl
  have ld : l ≠ dx := fun z => by rw [z, hdx] at e1; cases e1
  have nd : ∀ b u, H b = some u → b ≠ dx := fun b u e z' => by
    have z := S1 _ _ e
    rw [z', hdx] at z
    cases z
  obtain ⟨H2, g2, a2, d2, l2, B2⟩ : ∃ H2, H2 = upd (upd H1 a (excN a c_TwoClaim (some dx))) dx (.xd [("parcel", .ref l)]) ∧ H2 a = some (excN a c_TwoClaim (some dx)) ∧ H2 dx = some (.xd [("parcel", .ref l)]) ∧ H2 l = some (.lst xs) ∧ But a H H2 :=
    ⟨_, rfl, by rw [upd_ne ne.symm, upd_same], upd_same, by rw [upd_ne ld, upd_ne la]; exact e1, fun b u nb e => by
      rw [upd_ne (nd b u e), upd_ne nb]
      exact S1 _ _ e⟩
  rw [← g2]
  clear g2
  refine ⟨_, xf, n2, .inr ⟨dx, a2, _, d2, (show 1 ≤ 1000 by decide), ?_⟩⟩
  obtain ⟨H3, g3, a3, d3, l3, B3⟩ : ∃ H3, H3 = upd H2 dx (.xd (putF "at" v [("parcel", .ref l)])) ∧ H3 a = some (excN a c_TwoClaim (some dx)) ∧ H3 dx = some (.xd [("parcel", .ref l), ("at", v)]) ∧ H3 l = some (.lst xs) ∧ But a H H3 :=
    ⟨_, rfl, by rw [upd_ne ne.symm]; exact a2, by rw [upd_same]; rfl, by rw [upd_ne ld]; exact l2, fun b u nb e => by rw [upd_ne (nd b u e)]; exact B2 b u nb e⟩
  rw [← g3]
  clear g3
  refine ⟨_, xf, n3, .inr ⟨dx, a3, _, d3, (show 2 ≤ 1000 by decide), ?_⟩⟩
  obtain ⟨H4, g4, a4, d4, l4, B4⟩ : ∃ H4, H4 = upd H3 dx (.xd (putF "one" v1 [("parcel", .ref l), ("at", v)])) ∧ H4 a = some (excN a c_TwoClaim (some dx)) ∧ H4 dx = some (.xd [("parcel", .ref l), ("at", v), ("one", v1)]) ∧ H4 l = some (.lst xs) ∧ But a H H4 :=
    ⟨_, rfl, by rw [upd_ne ne.symm]; exact a3, by rw [upd_same]; rfl, by rw [upd_ne ld]; exact l3, fun b u nb e => by rw [upd_ne (nd b u e)]; exact B3 b u nb e⟩
  rw [← g4]
  clear g4
  refine ⟨_, xf, n4, .inr ⟨dx, a4, _, d4, (show 3 ≤ 1000 by decide), ?_⟩⟩
  exact q l dx _ (by rw [upd_ne ne.symm]; exact a4) (by rw [upd_same]; rfl) (by rw [upd_ne ld]; exact l4) fun b u nb e => by rw [upd_ne (nd b u e)]; exact B4 b u nb e
theorem ok_law_other {c_NoBands c_NoDeed c_NoEntry c_NoGoods c_NoKinds c_NoLot c_NoNote c_NoNumber c_NoQuota c_NoRate c_NoRow c_NoRule c_NoTree c_TariffError D1 D2 : Addr} (F : Fun K "_law_other" "_law_other" s_law_other f fd) (M : Mg mg) (A_NoBands : mg "NoBands" = some (.ref c_NoBands)) (A_NoDeed : mg "NoDeed" = some (.ref c_NoDeed)) (A_NoEntry : mg "NoEntry" = some (.ref c_NoEntry)) (A_NoGoods : mg "NoGoods" = some (.ref c_NoGoods)) (A_NoKinds : mg "NoKinds" = some (.ref c_NoKinds)) (A_NoLot : mg "NoLot" = some (.ref c_NoLot)) (A_NoNote : mg "NoNote" = some (.ref c_NoNote)) (A_NoNumber : mg "NoNumber" = some (.ref c_NoNumber))
    (A_NoQuota : mg "NoQuota" = some (.ref c_NoQuota)) (A_NoRate : mg "NoRate" = some (.ref c_NoRate)) (A_NoRow : mg "NoRow" = some (.ref c_NoRow)) (A_NoRule : mg "NoRule" = some (.ref c_NoRule)) (A_NoTree : mg "NoTree" = some (.ref c_NoTree)) (A_TariffError : mg "TariffError" = some (.ref c_TariffError)) (K1 : XCls K D1) (K2 : XCls K D2)
    (g1 : PySem.W.kitAny K (.ref D1) ([c_NoBands, c_NoDeed, c_NoEntry, c_NoGoods, c_NoKinds, c_NoLot, c_NoNote, c_NoNumber].map Value.ref) = some false) (g2 : PySem.W.kitAny K (.ref D1) ([c_NoQuota, c_NoRate, c_NoRow, c_NoRule, c_NoTree].map Value.ref) = some false) (g3 : PySem.W.kitOne K (.ref D1) (.ref c_TariffError) = some true) (g4 : PySem.W.kitOne K (.ref D1) (.type "ValueError") = some true)
    (r1 : PySem.W.kitAny K (.ref D2) ([c_NoBands, c_NoDeed, c_NoEntry, c_NoGoods, c_NoKinds, c_NoLot, c_NoNote, c_NoNumber].map Value.ref) = some false) (r2 : PySem.W.kitAny K (.ref D2) ([c_NoQuota, c_NoRate, c_NoRow, c_NoRule, c_NoTree].map Value.ref) = some false) (r3 : PySem.W.kitOne K (.ref D2) (.ref c_TariffError) = some true) (r4 : PySem.W.kitOne K (.ref D2) (.type "ValueError") = some true) :
    FnOkS P w K mg base CX0 1 f fd ["_law_e"] (spOther D1 D2) := by
  refine F.okS sc_law_other (fun vs H Q E h => ?_) (fun cdv A outer s H vs Q E hr h => ?_)
  · obtain ⟨a, D, dx, rfl, _⟩ := h
    rfl
  obtain ⟨a, D, dx, rfl, ha, hD, q⟩ := h
  obtain ⟨c, k1, k2, k3, k4⟩ : XCls K D ∧ PySem.W.kitAny K (.ref D) ([c_NoBands, c_NoDeed, c_NoEntry, c_NoGoods, c_NoKinds, c_NoLot, c_NoNote, c_NoNumber].map Value.ref) = some false ∧ PySem.W.kitAny K (.ref D) ([c_NoQuota, c_NoRate, c_NoRow, c_NoRule, c_NoTree].map Value.ref) = some false ∧ PySem.W.kitOne K (.ref D) (.ref c_TariffError) = some true ∧ PySem.W.kitOne K (.ref D) (.type "ValueError") = some true := by
    rcases hD with rfl | rfl
    · exact ⟨K1, g1, g2, g3, g4⟩
    · exact ⟨K2, r1, r2, r3, r4⟩
  refine ⟨_, (@pss_cons _ _ _ _ _ (@ps_if _ _ _ _ _ _ _ _ (@pt_val _ _ _ (@pe_callB _ _ _ _ _ _ _ _ _ (call_isiF (K := K) rfl) g_law_other_isinstance M.m_isinstance b_isinstance (@pa_cons _ _ _ _ _ (@pe_var _ 0 _ _ rfl v_law_other_0 dn__law_e dc__law_e) (@pa_cons _ _ _ _ _ (@pe_tup _ _ _ _ _ (@pa_cons _ _ _ _ _ (@pe_glob _ _ _ _ _ g_law_other_NoBands A_NoBands (show RelV (.ref c_NoBands) _ from rfl) dn_NoBands) (@pa_cons _ _ _ _ _ (@pe_glob _ _ _ _ _ g_law_other_NoDeed A_NoDeed (show RelV (.ref c_NoDeed) _ from rfl) dn_NoDeed) (@pa_cons _ _ _ _ _ (@pe_glob _ _ _ _ _ g_law_other_NoEntry A_NoEntry (show RelV (.ref c_NoEntry) _ from rfl) dn_NoEntry) (@pa_cons _ _ _ _ _ (@pe_glob _ _ _ _ _ g_law_other_NoGoods A_NoGoods (show RelV (.ref c_NoGoods) _ from rfl) dn_NoGoods) (@pa_cons _ _ _ _ _ (@pe_glob _ _ _ _ _ g_law_other_NoKinds A_NoKinds (show RelV (.ref c_NoKinds) _ from rfl) dn_NoKinds) (@pa_cons _ _ _ _ _ (@pe_glob _ _ _ _ _ g_law_other_NoLot A_NoLot (show RelV (.ref c_NoLot) _ from rfl) dn_NoLot) (@pa_cons _ _ _ _ _ (@pe_glob _ _ _ _ _ g_law_other_NoNote A_NoNote (show RelV (.ref c_NoNote) _ from rfl) dn_NoNote) (@pa_cons _ _ _ _ _ (@pe_glob _ _ _ _ _ g_law_other_NoNumber A_NoNumber (show RelV (.ref c_NoNumber) _ from rfl) dn_NoNumber) (@pa_nil _) (star1 rfl)) (star1 rfl)) (star1 rfl)) (star1 rfl)) (star1 rfl)) (star1 rfl)) (star1 rfl)) (star1 rfl))) (@pa_nil _) (star1 rfl)) (star1 rfl)) nn_isinstance dn_isinstance (star1 rfl) (nost1 rfl nost0)) (test1 rfl)) (@pss_one _ _ _ (@ps_ret _ _ _ _ (@pe_bl _ _ _ _))) (@pss_nil _)) (@pss_cons _ _ _ _ _ (@ps_if _ _ _ _ _ _ _ _ (@pt_val _ _ _ (@pe_callB _ _ _ _ _ _ _ _ _ (call_isiF (K := K) rfl) g_law_other_isinstance M.m_isinstance b_isinstance (@pa_cons _ _ _ _ _ (@pe_var _ 0 _ _ rfl v_law_other_0 dn__law_e dc__law_e) (@pa_cons _ _ _ _ _ (@pe_tup _ _ _ _ _ (@pa_cons _ _ _ _ _ (@pe_glob _ _ _ _ _ g_law_other_NoQuota A_NoQuota (show RelV (.ref c_NoQuota) _ from rfl) dn_NoQuota) (@pa_cons _ _ _ _ _ (@pe_glob _ _ _ _ _ g_law_other_NoRate A_NoRate (show RelV (.ref c_NoRate) _ from rfl) dn_NoRate) (@pa_cons _ _ _ _ _ (@pe_glob _ _ _ _ _ g_law_other_NoRow A_NoRow (show RelV (.ref c_NoRow) _ from rfl) dn_NoRow) (@pa_cons _ _ _ _ _ (@pe_glob _ _ _ _ _ g_law_other_NoRule A_NoRule (show RelV (.ref c_NoRule) _ from rfl) dn_NoRule) (@pa_cons _ _ _ _ _ (@pe_glob _ _ _ _ _ g_law_other_NoTree A_NoTree (show RelV (.ref c_NoTree) _ from rfl) dn_NoTree) (@pa_nil _) (star1 rfl)) (star1 rfl)) (star1 rfl)) (star1 rfl)) (star1 rfl))) (@pa_nil _) (star1 rfl)) (star1 rfl)) nn_isinstance dn_isinstance (star1 rfl) (nost1 rfl nost0)) (test1 rfl)) (@pss_one _ _ _ (@ps_ret _ _ _ _ (@pe_bl _ _ _ _))) (@pss_nil _)) (@pss_one _ _ _ (@ps_ret _ _ _ _ (@pe_and _ _ _ _ _ _ _ (@pe_callB _ _ _ _ _ _ _ _ _ (call_isiF (K := K) rfl) g_law_other_isinstance M.m_isinstance b_isinstance (@pa_cons _ _ _ _ _ (@pe_var _ 0 _ _ rfl v_law_other_0 dn__law_e dc__law_e) (@pa_cons _ _ _ _ _ (@pe_glob _ _ _ _ _ g_law_other_TariffError A_TariffError (show RelV (.ref c_TariffError) _ from rfl) dn_TariffError) (@pa_nil _) (star1 rfl)) (star1 rfl)) nn_isinstance dn_isinstance (star1 rfl) (nost1 rfl nost0)) (@pe_one _ _ _ _ _ (@pe_callB _ _ _ _ _ _ _ _ _ (call_isiF (K := K) rfl) g_law_other_isinstance M.m_isinstance b_isinstance (@pa_cons _ _ _ _ _ (@pe_var _ 0 _ _ rfl v_law_other_0 dn__law_e dc__law_e) (@pa_cons _ _ _ _ _ (@pe_bltn _ _ (.ty "ValueError") _ _ g_law_other_ValueError M.m_ValueError b_ValueError rfl nn_ValueError dn_ValueError) (@pa_nil _) (star1 rfl)) (star1 rfl)) nn_isinstance dn_isinstance (star1 rfl) (nost1 rfl nost0)))))))), ?_⟩
  simp only [sFldX, tFldX, tXInit, tTryR, tRev, tTurn, rTurnT, tTryS, rCountT, rPop, rRep, tCont, iZipT, tChain3, tFld, sFld, tMake, tMake0, tMethD, tBM0, rUpper, tDict1T, tTryN, rSlS, rMulS, rCatS, iZipL, rInsert, rReverse, tDNewX, tTry, tRaise, iEnumL, iEnumT, iZip, iSeq, iOr, rIx, iStr, rLeS, rJoin, rSlTA, tComp_eq, tComp1, slots, Option.getD_some, Option.getD_none, tYes, tSeq, tAsg, gName, tOp, tUn, tC, tVar, tCB, tCons, tNil, tCall, rI, rI0, rU, tRet, tRetN, tIfS, tTest, tB, tAnd, tOr, tNot, tAndV, tOrV, tNotV, tIf, tChain, tMenu, tPar, tDrop, tTup, tLst, tNext, tSl, tPart, tNoPart, tNever, gTup, gCons, gNil, gSub, rSetL, tBM, rAppend, rEq, rNe, rIsi, rIxL, rIxT, rIxS, rSlL, isi_non_bl, isi_non_int, isi_non_str, isi_non_lst, isi_non_tup, isi_bl_bl, isi_bl_int, isi_bl_str, isi_bl_lst, isi_bl_tup, isi_int_bl, isi_int_int, isi_int_str, isi_int_lst, isi_int_tup, isi_str_bl, isi_str_int, isi_str_str, isi_str_lst, isi_str_tup, isi_lst_bl, isi_lst_int, isi_lst_str, isi_lst_lst, isi_lst_tup, isi_tup_bl, isi_tup_int, isi_tup_str, isi_tup_lst, isi_tup_tup, isi_dct_bl, isi_dct_int, isi_dct_str, isi_dct_lst, isi_dct_tup, Kd_non, Kd_bl, Kd_int, Kd_str, sc_non_non, sc_non_int, sc_int_non, sc_non_bl, sc_bl_non, sc_non_str, sc_str_non, sc_int_int, sc_bl_bl, sc_str_str, sc_int_str, sc_str_int, sc_bl_str, sc_str_bl, decide_true, decide_false, tFor_eq, iList, iTup, iRng1, iRng2, iRng3, rIndexT, tBM0, tBMT, tyK_int, tyK_bool, tyK_str, tyK_list, tyK_tuple, L2.start, cxK, Int.reduceToNat, List.map_cons, List.map_nil, List.length_cons, List.length_nil, Nat.reduceAdd, Nat.reduceSub, Nat.zero_add, List.replicate_succ, List.replicate_zero, List.cons_append, List.nil_append, List.append_nil, List.getElem?_cons_zero, List.getElem?_cons_succ, List.set_cons_zero, List.set_cons_succ, Option.some.injEq, V.int.injEq, V.bl.injEq, V.ref.injEq, V.str.injEq, V.ty.injEq, List.cons.injEq, exists_eq_left', exists_eq_left, exists_eq_right, exists_and_left, exists_and_right, and_true, true_and, and_assoc, exists_const, decide_eq_true_eq, Bool.not_eq_true', Bool.not_true, Bool.not_false, Bool.not_not, decide_eq_false_iff_not, ite_not, Bool.false_eq_true, if_true, if_false, reduceCtorEq, and_false, false_and, exists_false, or_false, false_or, ↓reduceIte, eq_self, reduceIte]
  refine ⟨by decide, fun p hp => ?_⟩
  have S1 := same_new hp (.tup ([c_NoBands, c_NoDeed, c_NoEntry, c_NoGoods, c_NoKinds, c_NoLot, c_NoNote, c_NoNumber].map V.ref))
  refine ⟨a, D, dx, false, S1 _ _ ha, c, .inr (.inr ⟨p, _, rfl, upd_same, k1⟩), _, rfl, ?_⟩
  rw [if_neg (by decide)]
  refine ⟨by decide, fun p2 hp2 => ?_⟩
  have S2 := S1.trans (same_new hp2 (.tup ([c_NoQuota, c_NoRate, c_NoRow, c_NoRule, c_NoTree].map V.ref)))
  refine ⟨a, D, dx, false, S2 _ _ ha, c, .inr (.inr ⟨p2, _, rfl, upd_same, k2⟩), _, rfl, ?_⟩
  rw [if_neg (by decide)]
  refine ⟨a, D, dx, true, S2 _ _ ha, c, .inl ⟨_, rfl, k3⟩, _, rfl, ?_⟩
  rw [if_pos rfl]
  exact ⟨a, D, dx, true, S2 _ _ ha, c, .inr (.inl ⟨_, rfl, k4⟩), q _ S2⟩
theorem ok_law_none {c_NoneClaims c_TwoClaim c_TariffError : Addr} (F : Fun K "_law_none" "_law_none" s_law_none f fd) (M : Mg mg) (C_law_other : CalS P w K mg base CX0 "_law_other" 1 ["_law_e"] (spOther c_NoneClaims c_TwoClaim)) (Z_NoneClaims : XMk P w K mg base "NoneClaims" c_NoneClaims 2 ["self", "parcel", "at"] (spInitN K c_NoneClaims)) (X_TariffError : XCatch K mg "TariffError" c_TariffError) (A_TwoClaim : mg "TwoClaim" = some (.ref c_TwoClaim))
    (sub : PySem.W.subIn K (.ref c_NoneClaims) (.ref c_TariffError) = some true) (xf : XFld K c_NoneClaims) (n1 : NoAttr K c_NoneClaims "parcel") (n2 : NoAttr K c_NoneClaims "at") (k0 : PySem.W.kitOne K (.ref c_NoneClaims) (.ref c_TwoClaim) = some false) : FnOk P w K mg base CX0 4 f fd ["_law_parcel", "_law_at"] (spNone K) := by
  refine F.ok sc_law_none (fun vs H Q E h => ?_) (fun cdv A outer s H vs Q E hr h => ?_)
  · obtain ⟨p, t, u, ns, rfl, _⟩ := h
    rfl
  obtain ⟨p, t, u, ns, rfl, hp, ht, q⟩ := h
  refine ⟨_, (@pss_one _ _ _ (@ps_tryR _ _ _ _ _ _ 2 _ _ _ _ _ _ _ _ _ _ _ _ _ _ _ _ rfl rfl rfl rfl Z_NoneClaims hr g_law_none_NoneClaims (@pa_cons _ _ _ _ _ (@pe_var _ 0 _ _ rfl v_law_none_0 dn__law_parcel dc__law_parcel) (@pa_cons _ _ _ _ _ (@pe_var _ 1 _ _ rfl v_law_none_1 dn__law_at dc__law_at) (@pa_nil _) (star1 rfl)) (star1 rfl)) g_law_none_TariffError X_TariffError sc_law_none.nd rfl rfl (fun _ => (@pss_one _ _ _ (@ps_ret _ _ _ _ (@pe_and _ _ _ _ _ _ _ (@pe_callS _ _ _ _ _ _ _ _ _ _ _ C_law_other (Room.suite hr _) g_law_none__law_other (@pa_cons _ _ _ _ _ (@pe_var _ 2 _ _ rfl v_law_none_2 dn__law_e dc__law_e) (@pa_nil _) (star1 rfl)) (by decide) dn__law_other (star1 rfl) nost0) (@pe_and _ _ _ _ _ _ _ (@pe_not _ _ _ _ (@pe_callB _ _ _ _ _ _ _ _ _ (call_isiF (K := K) rfl) g_law_none_isinstance M.m_isinstance b_isinstance (@pa_cons _ _ _ _ _ (@pe_var _ 2 _ _ rfl v_law_none_2 dn__law_e dc__law_e) (@pa_cons _ _ _ _ _ (@pe_glob _ _ _ _ _ g_law_none_TwoClaim A_TwoClaim (show RelV (.ref c_TwoClaim) _ from rfl) dn_TwoClaim) (@pa_nil _) (star1 rfl)) (star1 rfl)) nn_isinstance dn_isinstance (star1 rfl) (nost1 rfl nost0))) (@pe_and _ _ _ _ _ _ _ (@pe_cmpR _ _ _ _ _ _ _ _ (op_eqSK (K := K) rfl (hu_mark hr)) (@pe_fldXK _ K _ _ _ _ rfl (@pe_var _ 2 _ _ rfl v_law_none_2 dn__law_e dc__law_e) (by rfl)) (@pe_var _ 0 _ _ rfl v_law_none_0 dn__law_parcel dc__law_parcel) (nomark _)) (@pe_one _ _ _ _ _ (@pe_cmpR _ _ _ _ _ _ _ _ (op_eqSK (K := K) rfl (hu_mark hr)) (@pe_fldXK _ K _ _ _ _ rfl (@pe_var _ 2 _ _ rfl v_law_none_2 dn__law_e dc__law_e) (by rfl)) (@pe_var _ 1 _ _ rfl v_law_none_1 dn__law_at dc__law_at) (nomark _))))))))) (by decide) dn_NoneClaims dn_TariffError (star1 rfl) (nost1 rfl nost0))), ?_⟩
  simp only [sFldX, tFldX, tXInit, tTryR, tRev, tTurn, rTurnT, tTryS, rCountT, rPop, rRep, tCont, iZipT, tChain3, tFld, sFld, tMake, tMake0, tMethD, tBM0, rUpper, tDict1T, tTryN, rSlS, rMulS, rCatS, iZipL, rInsert, rReverse, tDNewX, tTry, tRaise, iEnumL, iEnumT, iZip, iSeq, iOr, rIx, iStr, rLeS, rJoin, rSlTA, tComp_eq, tComp1, slots, Option.getD_some, Option.getD_none, tYes, tSeq, tAsg, gName, tOp, tUn, tC, tVar, tCB, tCons, tNil, tCall, rI, rI0, rU, tRet, tRetN, tIfS, tTest, tB, tAnd, tOr, tNot, tAndV, tOrV, tNotV, tIf, tChain, tMenu, tPar, tDrop, tTup, tLst, tNext, tSl, tPart, tNoPart, tNever, gTup, gCons, gNil, gSub, rSetL, tBM, rAppend, rEq, rNe, rIsi, rIxL, rIxT, rIxS, rSlL, isi_non_bl, isi_non_int, isi_non_str, isi_non_lst, isi_non_tup, isi_bl_bl, isi_bl_int, isi_bl_str, isi_bl_lst, isi_bl_tup, isi_int_bl, isi_int_int, isi_int_str, isi_int_lst, isi_int_tup, isi_str_bl, isi_str_int, isi_str_str, isi_str_lst, isi_str_tup, isi_lst_bl, isi_lst_int, isi_lst_str, isi_lst_lst, isi_lst_tup, isi_tup_bl, isi_tup_int, isi_tup_str, isi_tup_lst, isi_tup_tup, isi_dct_bl, isi_dct_int, isi_dct_str, isi_dct_lst, isi_dct_tup, Kd_non, Kd_bl, Kd_int, Kd_str, sc_non_non, sc_non_int, sc_int_non, sc_non_bl, sc_bl_non, sc_non_str, sc_str_non, sc_int_int, sc_bl_bl, sc_str_str, sc_int_str, sc_str_int, sc_bl_str, sc_str_bl, decide_true, decide_false, tFor_eq, iList, iTup, iRng1, iRng2, iRng3, rIndexT, tBM0, tBMT, tyK_int, tyK_bool, tyK_str, tyK_list, tyK_tuple, L2.start, cxK, Int.reduceToNat, List.map_cons, List.map_nil, List.length_cons, List.length_nil, Nat.reduceAdd, Nat.reduceSub, Nat.zero_add, List.replicate_succ, List.replicate_zero, List.cons_append, List.nil_append, List.append_nil, List.getElem?_cons_zero, List.getElem?_cons_succ, List.set_cons_zero, List.set_cons_succ, Option.some.injEq, V.int.injEq, V.bl.injEq, V.ref.injEq, V.str.injEq, V.ty.injEq, List.cons.injEq, exists_eq_left', exists_eq_left, exists_eq_right, exists_and_left, exists_and_right, and_true, true_and, and_assoc, exists_const, decide_eq_true_eq, Bool.not_eq_true', Bool.not_true, Bool.not_false, Bool.not_not, decide_eq_false_iff_not, ite_not, Bool.false_eq_true, if_true, if_false, reduceCtorEq, and_false, false_and, exists_false, or_false, false_or, ↓reduceIte, eq_self, reduceIte]
  refine ⟨by decide, fun a ha => ?_⟩
  have S0 := same_new ha (excN a c_NoneClaims none)
  refine ⟨a, p, _, _, rfl, upd_same, S0.seq hp, fun l dx H2 a2 d2 l2 B2 => ⟨rfl, dx, a2, sub, ?_⟩⟩
  have S3 : Same H (upd H2 a (excF a c_NoneClaims dx)) := fun b u e => by
    have nb : b ≠ a := ne_of_none e ha
    rw [upd_ne nb]
    exact B2 b u nb (S0 _ _ e)
  have a3 : upd H2 a (excF a c_NoneClaims dx) a = some (excF a c_NoneClaims dx) := upd_same
  have d3 : upd H2 a (excF a c_NoneClaims dx) dx = some (.xd [("parcel", .ref l), ("at", .ref t)]) := by rw [upd_ne (fun z => by rw [z, a2] at d2; cases d2)]; exact d2
  have l3 : upd H2 a (excF a c_NoneClaims dx) l = some (.lst [.ref u]) := by rw [upd_ne (fun z => by rw [z, a2] at l2; cases l2)]; exact l2
  generalize upd H2 a (excF a c_NoneClaims dx) = H3 at S3 a3 d3 l3 ⊢
  refine ⟨a, _, dx, rfl, a3, .inl rfl, fun H4 S4 => ⟨_, rfl, ?_⟩⟩
  rw [if_pos rfl]
  refine ⟨a, _, dx, false, S4 _ _ a3, xf.xc, .inl ⟨_, rfl, k0⟩, _, rfl, ?_⟩
  rw [if_pos rfl]
  refine ⟨_, dx, S4 _ _ a3, _, S4 _ _ d3, xf, n1, .ref l, rfl, ?_⟩
  have S := S3.trans S4
  refine rEqS_same (.inl ⟨SqL.of (S4 _ _ l3), S.seq hp⟩) rfl ⟨_, rfl, ?_⟩
  rw [if_pos (by decide)]
  exact ⟨_, dx, S4 _ _ a3, _, S4 _ _ d3, xf, n2, .ref t, rfl, eqT (Same.tup S ht) (q _ S)⟩
theorem ok_law_two {c_NoneClaims c_TwoClaim c_TariffError : Addr} (F : Fun K "_law_two" "_law_two" s_law_two f fd) (M : Mg mg) (C_law_other : CalS P w K mg base CX0 "_law_other" 1 ["_law_e"] (spOther c_NoneClaims c_TwoClaim)) (Z_TwoClaim : XMk P w K mg base "TwoClaim" c_TwoClaim 2 ["self", "parcel", "at", "one", "other"] (spInitT K c_TwoClaim)) (X_TariffError : XCatch K mg "TariffError" c_TariffError) (A_NoneClaims : mg "NoneClaims" = some (.ref c_NoneClaims))
    (sub : PySem.W.subIn K (.ref c_TwoClaim) (.ref c_TariffError) = some true) (xf : XFld K c_TwoClaim) (n1 : NoAttr K c_TwoClaim "parcel") (n2 : NoAttr K c_TwoClaim "at") (n3 : NoAttr K c_TwoClaim "one") (n4 : NoAttr K c_TwoClaim "other") (k0 : PySem.W.kitOne K (.ref c_TwoClaim) (.ref c_NoneClaims) = some false) : FnOk P w K mg base CX0 4 f fd ["_law_parcel", "_law_at", "_law_one", "_law_other_here"] (spTwo K) := by
  refine F.ok sc_law_two (fun vs H Q E h => ?_) (fun cdv A outer s H vs Q E hr h => ?_)
  · obtain ⟨p, t, t1, t2, u, ns, n1, n2, rfl, _⟩ := h
    rfl
  obtain ⟨p, t, t1, t2, u, ns, m1, m2, rfl, hp, ht, ht1, ht2, q⟩ := h
  refine ⟨_, (@pss_one _ _ _ (@ps_tryR _ _ _ _ _ _ 4 _ _ _ _ _ _ _ _ _ _ _ _ _ _ _ _ rfl rfl rfl rfl Z_TwoClaim hr g_law_two_TwoClaim (@pa_cons _ _ _ _ _ (@pe_var _ 0 _ _ rfl v_law_two_0 dn__law_parcel dc__law_parcel) (@pa_cons _ _ _ _ _ (@pe_var _ 1 _ _ rfl v_law_two_1 dn__law_at dc__law_at) (@pa_cons _ _ _ _ _ (@pe_var _ 2 _ _ rfl v_law_two_2 dn__law_one dc__law_one) (@pa_cons _ _ _ _ _ (@pe_var _ 3 _ _ rfl v_law_two_3 dn__law_other_here dc__law_other_here) (@pa_nil _) (star1 rfl)) (star1 rfl)) (star1 rfl)) (star1 rfl)) g_law_two_TariffError X_TariffError sc_law_two.nd rfl rfl (fun _ => (@pss_cons _ _ _ _ _ (@ps_if _ _ _ _ _ _ _ _ (@PW.pt _ _ _ (@pw_or _ _ _ _ _ _ _ (@pt_not _ _ _ _ (@pt_val _ _ _ (@pe_callS _ _ _ _ _ _ _ _ _ _ _ C_law_other (Room.suite hr _) g_law_two__law_other (@pa_cons _ _ _ _ _ (@pe_var _ 4 _ _ rfl v_law_two_4 dn__law_e dc__law_e) (@pa_nil _) (star1 rfl)) (by decide) dn__law_other (star1 rfl) nost0) (test1 rfl))) (@pw_or _ _ _ _ _ _ _ (@pt_val _ _ _ (@pe_callB _ _ _ _ _ _ _ _ _ (call_isiF (K := K) rfl) g_law_two_isinstance M.m_isinstance b_isinstance (@pa_cons _ _ _ _ _ (@pe_var _ 4 _ _ rfl v_law_two_4 dn__law_e dc__law_e) (@pa_cons _ _ _ _ _ (@pe_glob _ _ _ _ _ g_law_two_NoneClaims A_NoneClaims (show RelV (.ref c_NoneClaims) _ from rfl) dn_NoneClaims) (@pa_nil _) (star1 rfl)) (star1 rfl)) nn_isinstance dn_isinstance (star1 rfl) (nost1 rfl nost0)) (test1 rfl)) (@pw_or _ _ _ _ _ _ _ (@pt_cmpR _ _ _ _ _ _ _ _ (op_neSK (K := K) rfl (hu_mark hr)) (@pe_fldXK _ K _ _ _ _ rfl (@pe_var _ 4 _ _ rfl v_law_two_4 dn__law_e dc__law_e) (by rfl)) (@pe_var _ 0 _ _ rfl v_law_two_0 dn__law_parcel dc__law_parcel) (nomark _)) (@pw_or1 _ _ _ _ (@pt_cmpR _ _ _ _ _ _ _ _ (op_neSK (K := K) rfl (hu_mark hr)) (@pe_fldXK _ K _ _ _ _ rfl (@pe_var _ 4 _ _ rfl v_law_two_4 dn__law_e dc__law_e) (by rfl)) (@pe_var _ 1 _ _ rfl v_law_two_1 dn__law_at dc__law_at) (nomark _))))))) (@pss_one _ _ _ (@ps_ret _ _ _ _ (@pe_bl _ _ _ _))) (@pss_nil _)) (@pss_one _ _ _ (@ps_ret _ _ _ _ (@pe_and _ _ _ _ _ _ _ (@pe_cmpR _ _ _ _ _ _ _ _ (op_eqSK (K := K) rfl (hu_mark hr)) (@pe_fldXK _ K _ _ _ _ rfl (@pe_var _ 4 _ _ rfl v_law_two_4 dn__law_e dc__law_e) (by rfl)) (@pe_var _ 2 _ _ rfl v_law_two_2 dn__law_one dc__law_one) (nomark _)) (@pe_one _ _ _ _ _ (@pe_cmpR _ _ _ _ _ _ _ _ (op_eqSK (K := K) rfl (hu_mark hr)) (@pe_fldXK _ K _ _ _ _ rfl (@pe_var _ 4 _ _ rfl v_law_two_4 dn__law_e dc__law_e) (by rfl)) (@pe_var _ 3 _ _ rfl v_law_two_3 dn__law_other_here dc__law_other_here) (nomark _)))))))) (by decide) dn_TwoClaim dn_TariffError (star1 rfl) (nost1 rfl (nost1 rfl (nost1 rfl nost0))))), ?_⟩
  simp only [sFldX, tFldX, tXInit, tTryR, tRev, tTurn, rTurnT, tTryS, rCountT, rPop, rRep, tCont, iZipT, tChain3, tFld, sFld, tMake, tMake0, tMethD, tBM0, rUpper, tDict1T, tTryN, rSlS, rMulS, rCatS, iZipL, rInsert, rReverse, tDNewX, tTry, tRaise, iEnumL, iEnumT, iZip, iSeq, iOr, rIx, iStr, rLeS, rJoin, rSlTA, tComp_eq, tComp1, slots, Option.getD_some, Option.getD_none, tYes, tSeq, tAsg, gName, tOp, tUn, tC, tVar, tCB, tCons, tNil, tCall, rI, rI0, rU, tRet, tRetN, tIfS, tTest, tB, tAnd, tOr, tNot, tAndV, tOrV, tNotV, tIf, tChain, tMenu, tPar, tDrop, tTup, tLst, tNext, tSl, tPart, tNoPart, tNever, gTup, gCons, gNil, gSub, rSetL, tBM, rAppend, rEq, rNe, rIsi, rIxL, rIxT, rIxS, rSlL, isi_non_bl, isi_non_int, isi_non_str, isi_non_lst, isi_non_tup, isi_bl_bl, isi_bl_int, isi_bl_str, isi_bl_lst, isi_bl_tup, isi_int_bl, isi_int_int, isi_int_str, isi_int_lst, isi_int_tup, isi_str_bl, isi_str_int, isi_str_str, isi_str_lst, isi_str_tup, isi_lst_bl, isi_lst_int, isi_lst_str, isi_lst_lst, isi_lst_tup, isi_tup_bl, isi_tup_int, isi_tup_str, isi_tup_lst, isi_tup_tup, isi_dct_bl, isi_dct_int, isi_dct_str, isi_dct_lst, isi_dct_tup, Kd_non, Kd_bl, Kd_int, Kd_str, sc_non_non, sc_non_int, sc_int_non, sc_non_bl, sc_bl_non, sc_non_str, sc_str_non, sc_int_int, sc_bl_bl, sc_str_str, sc_int_str, sc_str_int, sc_bl_str, sc_str_bl, decide_true, decide_false, tFor_eq, iList, iTup, iRng1, iRng2, iRng3, rIndexT, tBM0, tBMT, tyK_int, tyK_bool, tyK_str, tyK_list, tyK_tuple, L2.start, cxK, Int.reduceToNat, List.map_cons, List.map_nil, List.length_cons, List.length_nil, Nat.reduceAdd, Nat.reduceSub, Nat.zero_add, List.replicate_succ, List.replicate_zero, List.cons_append, List.nil_append, List.append_nil, List.getElem?_cons_zero, List.getElem?_cons_succ, List.set_cons_zero, List.set_cons_succ, Option.some.injEq, V.int.injEq, V.bl.injEq, V.ref.injEq, V.str.injEq, V.ty.injEq, List.cons.injEq, exists_eq_left', exists_eq_left, exists_eq_right, exists_and_left, exists_and_right, and_true, true_and, and_assoc, exists_const, decide_eq_true_eq, Bool.not_eq_true', Bool.not_true, Bool.not_false, Bool.not_not, decide_eq_false_iff_not, ite_not, Bool.false_eq_true, if_true, if_false, reduceCtorEq, and_false, false_and, exists_false, or_false, false_or, ↓reduceIte, eq_self, reduceIte]
  refine ⟨by decide, fun a ha => ?_⟩
  have S0 := same_new ha (excN a c_TwoClaim none)
  refine ⟨a, p, _, _, _, _, rfl, upd_same, S0.seq hp, fun l dx H2 a2 d2 l2 B2 => ⟨rfl, dx, a2, sub, ?_⟩⟩
  have S3 : Same H (upd H2 a (excF a c_TwoClaim dx)) := fun b u e => by
    have nb : b ≠ a := ne_of_none e ha
    rw [upd_ne nb]
    exact B2 b u nb (S0 _ _ e)
  have a3 : upd H2 a (excF a c_TwoClaim dx) a = some (excF a c_TwoClaim dx) := upd_same
  have d3 : upd H2 a (excF a c_TwoClaim dx) dx = some (.xd [("parcel", .ref l), ("at", .ref t), ("one", .ref t1), ("other", .ref t2)]) := by rw [upd_ne (fun z => by rw [z, a2] at d2; cases d2)]; exact d2
  have l3 : upd H2 a (excF a c_TwoClaim dx) l = some (.lst [.ref u]) := by rw [upd_ne (fun z => by rw [z, a2] at l2; cases l2)]; exact l2
  generalize upd H2 a (excF a c_TwoClaim dx) = H3 at S3 a3 d3 l3 ⊢
  refine ⟨a, _, dx, rfl, a3, .inr rfl, fun H4 S4 => ⟨_, rfl, ?_⟩⟩
  rw [if_neg (by decide)]
  refine ⟨a, _, dx, false, S4 _ _ a3, xf.xc, .inl ⟨_, rfl, k0⟩, _, rfl, ?_⟩
  rw [if_neg (by decide)]
  have S := S3.trans S4
  refine ⟨_, dx, S4 _ _ a3, _, S4 _ _ d3, xf, n1, .ref l, rfl, ?_⟩
  refine rEqS_same (.inl ⟨SqL.of (S4 _ _ l3), S.seq hp⟩) rfl ⟨_, rfl, ?_⟩
  rw [if_neg (by decide)]
  refine ⟨_, dx, S4 _ _ a3, _, S4 _ _ d3, xf, n2, .ref t, rfl, eqT (Same.tup S ht) ⟨_, rfl, ?_⟩⟩
  rw [if_neg (by decide)]
  refine ⟨_, dx, S4 _ _ a3, _, S4 _ _ d3, xf, n3, .ref t1, rfl, eqT (Same.tup S ht1) ⟨_, rfl, ?_⟩⟩
  rw [if_pos (by decide)]
  exact ⟨_, dx, S4 _ _ a3, _, S4 _ _ d3, xf, n4, .ref t2, rfl, eqT (Same.tup S ht2) (q _ S)⟩
theorem ok_law (F : Fun K "law" "law" s_law f fd) (M : Mg mg) (C_law_cell : Cal P w K mg base CX0 "_law_cell" 1 ["_law_script", "_law_k"] (spCell K)) (C_law_word : Cal P w K mg base CX0 "_law_word" 1 ["_law_cell_here"] spWord) (C_law_number : Cal P w K mg base CX0 "_law_number" 1 ["_law_cell_here"] spNumber) (C_law_none : Cal P w K mg base CX0 "_law_none" 4 ["_law_parcel", "_law_at"] (spNone K)) (C_law_two : Cal P w K mg base CX0 "_law_two" 4 ["_law_parcel", "_law_at", "_law_one", "_law_other_here"] (spTwo K)) : FnOk P w K mg base CX0 5 f fd ["_law_script"] (spLaw K) := by
  refine F.ok sc_law (fun vs H Q E h => ?_) (fun cdv A outer s H vs Q E hr h => ?_)
  · obtain ⟨a, ns, rfl, _⟩ := h
    rfl
  obtain ⟨a, ns, rfl, hS, hl, q⟩ := h
  refine ⟨_, (@pss_cons _ _ _ _ _ (@ps_set _ _ 1 _ _ _ _ sc_law.nd rfl l_law_1 (@pe_lst _ _ _ _ (@pa_cons _ _ _ _ _ (@pe_tup _ _ _ _ _ (@pa_cons _ _ _ _ _ (@pe_callC _ _ _ _ _ _ _ _ _ _ _ C_law_word hr g_law__law_word (@pa_cons _ _ _ _ _ (@pe_callC _ _ _ _ _ _ _ _ _ _ _ C_law_cell hr g_law__law_cell (@pa_cons _ _ _ _ _ (@pe_var _ 0 _ _ rfl v_law_0 dn__law_script dc__law_script) (@pa_cons _ _ _ _ _ (@pe_int _ _ _ _) (@pa_nil _) (star1 rfl)) (star1 rfl)) (by decide) dn__law_cell (star1 rfl) (nost1 rfl nost0)) (@pa_nil _) (star1 rfl)) (by decide) dn__law_word (star1 rfl) nost0) (@pa_cons _ _ _ _ _ (@pe_callC _ _ _ _ _ _ _ _ _ _ _ C_law_word hr g_law__law_word (@pa_cons _ _ _ _ _ (@pe_callC _ _ _ _ _ _ _ _ _ _ _ C_law_cell hr g_law__law_cell (@pa_cons _ _ _ _ _ (@pe_var _ 0 _ _ rfl v_law_0 dn__law_script dc__law_script) (@pa_cons _ _ _ _ _ (@pe_int _ _ _ _) (@pa_nil _) (star1 rfl)) (star1 rfl)) (by decide) dn__law_cell (star1 rfl) (nost1 rfl nost0)) (@pa_nil _) (star1 rfl)) (by decide) dn__law_word (star1 rfl) nost0) (@pa_cons _ _ _ _ _ (@pe_op _ _ _ _ _ _ _ _ (@op_add _) (@pe_int _ _ _ _) (@pe_op _ _ _ _ _ _ _ _ (@op_mod _) (@pe_callC _ _ _ _ _ _ _ _ _ _ _ C_law_cell hr g_law__law_cell (@pa_cons _ _ _ _ _ (@pe_var _ 0 _ _ rfl v_law_0 dn__law_script dc__law_script) (@pa_cons _ _ _ _ _ (@pe_int _ _ _ _) (@pa_nil _) (star1 rfl)) (star1 rfl)) (by decide) dn__law_cell (star1 rfl) (nost1 rfl nost0)) (@pe_op _ _ _ _ _ _ _ _ (@op_pow _) (@pe_int _ _ _ _) (@pe_int _ _ _ _)))) (@pa_nil _) (star1 rfl)) (star1 rfl)) (star1 rfl))) (@pa_nil _) (star1 rfl))) (swap1 rfl) (.inl rfl)) (@pss_cons _ _ _ _ _ (@ps_set _ _ 2 _ _ _ _ sc_law.nd rfl l_law_2 (@pe_callC _ _ _ _ _ _ _ _ _ _ _ C_law_number hr g_law__law_number (@pa_cons _ _ _ _ _ (@pe_callC _ _ _ _ _ _ _ _ _ _ _ C_law_cell hr g_law__law_cell (@pa_cons _ _ _ _ _ (@pe_var _ 0 _ _ rfl v_law_0 dn__law_script dc__law_script) (@pa_cons _ _ _ _ _ (@pe_int _ _ _ _) (@pa_nil _) (star1 rfl)) (star1 rfl)) (by decide) dn__law_cell (star1 rfl) (nost1 rfl nost0)) (@pa_nil _) (star1 rfl)) (by decide) dn__law_number (star1 rfl) nost0) (swap1 rfl) (.inl rfl)) (@pss_cons _ _ _ _ _ (@ps_set _ _ 3 _ _ _ _ sc_law.nd rfl l_law_3 (@pe_op _ _ _ _ _ _ _ _ op_catTQ (@pe_var _ 2 _ _ rfl v_law_2 dn__law_at dc__law_at) (@pe_tup _ _ _ _ _ (@pa_cons _ _ _ _ _ (@pe_op _ _ _ _ _ _ _ _ (@op_add _) (@pe_int _ _ _ _) (@pe_op _ _ _ _ _ _ _ _ (@op_mod _) (@pe_callC _ _ _ _ _ _ _ _ _ _ _ C_law_cell hr g_law__law_cell (@pa_cons _ _ _ _ _ (@pe_var _ 0 _ _ rfl v_law_0 dn__law_script dc__law_script) (@pa_cons _ _ _ _ _ (@pe_int _ _ _ _) (@pa_nil _) (star1 rfl)) (star1 rfl)) (by decide) dn__law_cell (star1 rfl) (nost1 rfl nost0)) (@pe_int _ _ _ _))) (@pa_nil _) (star1 rfl)))) (swap1 rfl) (.inl rfl)) (@pss_cons _ _ _ _ _ (@ps_set _ _ 4 _ _ _ _ sc_law.nd rfl l_law_4 (@pe_op _ _ _ _ _ _ _ _ op_catTQ (@pe_var _ 2 _ _ rfl v_law_2 dn__law_at dc__law_at) (@pe_tup _ _ _ _ _ (@pa_cons _ _ _ _ _ (@pe_op _ _ _ _ _ _ _ _ (@op_add _) (@pe_int _ _ _ _) (@pe_op _ _ _ _ _ _ _ _ (@op_mod _) (@pe_callC _ _ _ _ _ _ _ _ _ _ _ C_law_cell hr g_law__law_cell (@pa_cons _ _ _ _ _ (@pe_var _ 0 _ _ rfl v_law_0 dn__law_script dc__law_script) (@pa_cons _ _ _ _ _ (@pe_int _ _ _ _) (@pa_nil _) (star1 rfl)) (star1 rfl)) (by decide) dn__law_cell (star1 rfl) (nost1 rfl nost0)) (@pe_int _ _ _ _))) (@pa_nil _) (star1 rfl)))) (swap1 rfl) (.inl rfl)) (@pss_one _ _ _ (@ps_ret _ _ _ _ (@pe_and _ _ _ _ _ _ _ (@pe_callC _ _ _ _ _ _ _ _ _ _ _ C_law_none hr g_law__law_none (@pa_cons _ _ _ _ _ (@pe_var _ 1 _ _ rfl v_law_1 dn__law_parcel dc__law_parcel) (@pa_cons _ _ _ _ _ (@pe_var _ 2 _ _ rfl v_law_2 dn__law_at dc__law_at) (@pa_nil _) (star1 rfl)) (star1 rfl)) (by decide) dn__law_none (star1 rfl) (nost1 rfl nost0)) (@pe_and _ _ _ _ _ _ _ (@pe_callC _ _ _ _ _ _ _ _ _ _ _ C_law_two hr g_law__law_two (@pa_cons _ _ _ _ _ (@pe_var _ 1 _ _ rfl v_law_1 dn__law_parcel dc__law_parcel) (@pa_cons _ _ _ _ _ (@pe_var _ 2 _ _ rfl v_law_2 dn__law_at dc__law_at) (@pa_cons _ _ _ _ _ (@pe_var _ 3 _ _ rfl v_law_3 dn__law_one dc__law_one) (@pa_cons _ _ _ _ _ (@pe_var _ 4 _ _ rfl v_law_4 dn__law_other_here dc__law_other_here) (@pa_nil _) (star1 rfl)) (star1 rfl)) (star1 rfl)) (star1 rfl)) (by decide) dn__law_two (star1 rfl) (nost1 rfl (nost1 rfl (nost1 rfl nost0)))) (@pe_one _ _ _ _ _ (@pe_callC _ _ _ _ _ _ _ _ _ _ _ C_law_two hr g_law__law_two (@pa_cons _ _ _ _ _ (@pe_var _ 1 _ _ rfl v_law_1 dn__law_parcel dc__law_parcel) (@pa_cons _ _ _ _ _ (@pe_var _ 2 _ _ rfl v_law_2 dn__law_at dc__law_at) (@pa_cons _ _ _ _ _ (@pe_var _ 4 _ _ rfl v_law_4 dn__law_other_here dc__law_other_here) (@pa_cons _ _ _ _ _ (@pe_var _ 3 _ _ rfl v_law_3 dn__law_one dc__law_one) (@pa_nil _) (star1 rfl)) (star1 rfl)) (star1 rfl)) (star1 rfl)) (by decide) dn__law_two (star1 rfl) (nost1 rfl (nost1 rfl (nost1 rfl nost0))))))))))))), ?_⟩
  simp only [sFldX, tFldX, tXInit, tTryR, tRev, tTurn, rTurnT, tTryS, rCountT, rPop, rRep, tCont, iZipT, tChain3, tFld, sFld, tMake, tMake0, tMethD, tBM0, rUpper, tDict1T, tTryN, rSlS, rMulS, rCatS, iZipL, rInsert, rReverse, tDNewX, tTry, tRaise, iEnumL, iEnumT, iZip, iSeq, iOr, rIx, iStr, rLeS, rJoin, rSlTA, tComp_eq, tComp1, slots, Option.getD_some, Option.getD_none, tYes, tSeq, tAsg, gName, tOp, tUn, tC, tVar, tCB, tCons, tNil, tCall, rI, rI0, rU, tRet, tRetN, tIfS, tTest, tB, tAnd, tOr, tNot, tAndV, tOrV, tNotV, tIf, tChain, tMenu, tPar, tDrop, tTup, tLst, tNext, tSl, tPart, tNoPart, tNever, gTup, gCons, gNil, gSub, rSetL, tBM, rAppend, rEq, rNe, rIsi, rIxL, rIxT, rIxS, rSlL, isi_non_bl, isi_non_int, isi_non_str, isi_non_lst, isi_non_tup, isi_bl_bl, isi_bl_int, isi_bl_str, isi_bl_lst, isi_bl_tup, isi_int_bl, isi_int_int, isi_int_str, isi_int_lst, isi_int_tup, isi_str_bl, isi_str_int, isi_str_str, isi_str_lst, isi_str_tup, isi_lst_bl, isi_lst_int, isi_lst_str, isi_lst_lst, isi_lst_tup, isi_tup_bl, isi_tup_int, isi_tup_str, isi_tup_lst, isi_tup_tup, isi_dct_bl, isi_dct_int, isi_dct_str, isi_dct_lst, isi_dct_tup, Kd_non, Kd_bl, Kd_int, Kd_str, sc_non_non, sc_non_int, sc_int_non, sc_non_bl, sc_bl_non, sc_non_str, sc_str_non, sc_int_int, sc_bl_bl, sc_str_str, sc_int_str, sc_str_int, sc_bl_str, sc_str_bl, decide_true, decide_false, tFor_eq, iList, iTup, iRng1, iRng2, iRng3, rIndexT, tBM0, tBMT, tyK_int, tyK_bool, tyK_str, tyK_list, tyK_tuple, L2.start, cxK, Int.reduceToNat, List.map_cons, List.map_nil, List.length_cons, List.length_nil, Nat.reduceAdd, Nat.reduceSub, Nat.zero_add, List.replicate_succ, List.replicate_zero, List.cons_append, List.nil_append, List.append_nil, List.getElem?_cons_zero, List.getElem?_cons_succ, List.set_cons_zero, List.set_cons_succ, Option.some.injEq, V.int.injEq, V.bl.injEq, V.ref.injEq, V.str.injEq, V.ty.injEq, List.cons.injEq, exists_eq_left', exists_eq_left, exists_eq_right, exists_and_left, exists_and_right, and_true, true_and, and_assoc, exists_const, decide_eq_true_eq, Bool.not_eq_true', Bool.not_true, Bool.not_false, Bool.not_not, decide_eq_false_iff_not, ite_not, Bool.false_eq_true, if_true, if_false, reduceCtorEq, and_false, false_and, exists_false, or_false, false_or, ↓reduceIte, eq_self, reduceIte]
  have cn : ∀ k, 0 ≤ Mth.cell ns k := fun k => (Mth.cell_in ns k).1
  refine spCell_of hS hl (by decide) (by decide) ⟨_, rfl, cn _, fun w0 => ?_⟩
  refine spCell_of hS hl (by decide) (by decide) ⟨_, rfl, cn _, fun w1 => ?_⟩
  refine spCell_of hS hl (by decide) (by decide) ⟨cpow, _, rfl, by decide, by decide, fun u hu => ⟨by decide, fun p hp => ?_⟩⟩
  have S1 := same_new hu (.tup [.str w0, .str w1, .int (1 + Mth.cell ns 2 % 10 ^ 12)])
  generalize upd H u (.tup [.str w0, .str w1, .int (1 + Mth.cell ns 2 % 10 ^ 12)]) = H1 at S1 hp ⊢
  have S2 := S1.trans (same_new hp (.lst [.ref u]))
  have p2 : upd H1 p (.lst [.ref u]) p = some (.lst [.ref u]) := upd_same
  generalize upd H1 p (.lst [.ref u]) = H2 at S2 p2 ⊢
  refine spCell_of (S2.seq hS) hl (by decide) (by decide) ⟨_, rfl, cn _, fun t ms H3 S3 t3 l3 => ?_⟩
  have S03 := S2.trans S3
  refine spCell_of (S03.seq hS) hl (by decide) (by decide) ⟨_, rfl, by decide, by decide, fun q1 h1 => ?_⟩
  have Sq1 := same_new h1 (.tup ([1 + Mth.cell ns 4 % 49].map V.int))
  refine ⟨t, q1, _, _, rfl, rfl, SqT.of (Sq1 _ _ t3), SqT.of upd_same, Nat.le_trans (show _ ≤ 4 by rw [List.length_map]; simp; omega) (by decide), fun t1 H4 S4 e4 => ?_⟩
  have S04 := S03.trans (Sq1.trans S4)
  refine spCell_of (S04.seq hS) hl (by decide) (by decide) ⟨_, rfl, by decide, by decide, fun q2 h2 => ?_⟩
  have Sq2 := same_new h2 (.tup ([50 + Mth.cell ns 5 % 50].map V.int))
  have S34 := Sq1.trans S4
  refine ⟨t, q2, _, _, rfl, rfl, SqT.of ((S34.trans Sq2) _ _ t3), SqT.of upd_same, Nat.le_trans (show _ ≤ 4 by rw [List.length_map]; simp; omega) (by decide), fun t2 H5 S5 e5 => ?_⟩
  have S35 := S34.trans (Sq2.trans S5)
  have S25 := S3.trans S35
  have e4' : SqT K H5 t1 ((ms ++ [1 + Mth.cell ns 4 % 49]).map V.int) := by rw [List.map_append]; exact Same.tup (Sq2.trans S5) e4
  have e5' : SqT K H5 t2 ((ms ++ [50 + Mth.cell ns 5 % 50]).map V.int) := by rw [List.map_append]; exact e5
  refine ⟨p, t, u, ms, rfl, SqL.of (S25 _ _ p2), SqT.of (S35 _ _ t3), fun H6 S6 => ⟨_, rfl, ?_⟩⟩
  rw [if_pos rfl]
  refine ⟨p, t, t1, t2, u, ms, _, _, rfl, SqL.of ((S25.trans S6) _ _ p2), SqT.of ((S35.trans S6) _ _ t3), Same.tup S6 e4', Same.tup S6 e5', fun H7 S7 => ⟨_, rfl, ?_⟩⟩
  rw [if_pos rfl]
  have S67 := S6.trans S7
  exact ⟨p, t, t2, t1, u, ms, _, _, rfl, SqL.of ((S25.trans S67) _ _ p2), SqT.of ((S35.trans S67) _ _ t3), Same.tup S67 e5', Same.tup S67 e4', fun H8 _ => q _⟩
end
theorem all_mk {l : PySem.W.OpenLaw} {w : World} {K : PySem.W.Frag} {h : Heap} {mg : Str → Option Value} {fa f1 f2 f3 f4 f5 f6 f7 f8 f9 f10 : Addr} (X : K.In h) (G : h.Ns mainGlobals mg) (hfa : mg "law" = some (.ref fa))
    {c_TariffError c_NoNumber c_NoBands c_NoKinds c_NoGoods c_NoNote c_NoTree c_NoneClaims c_TwoClaim c_NoRule c_NoLot c_NoQuota c_NoRate c_NoEntry c_NoDeed c_NoRow : Addr}
    {od1 an1 od2 an2 od3 an3 od4 an4 od5 an5 od6 an6 od7 an7 od8 an8 od9 an9 od10 an10 : Option Addr} {sl1 sl2 sl3 sl4 sl5 sl6 sl7 sl8 sl9 sl10 : Array (Option Value)} {oc1 kV1 dc1 pm1 cd1 ct1 oc2 kV2 dc2 pm2 cd2 ct2 oc3 kV3 dc3 pm3 cd3 ct3 oc4 kV4 dc4 pm4 cd4 ct4 oc5 kV5 dc5 pm5 cd5 ct5 oc6 kV6 dc6 pm6 cd6 ct6 oc7 kV7 dc7 pm7 cd7 ct7 oc8 kV8 dc8 pm8 cd8 ct8 oc9 kV9 dc9 pm9 cd9 ct9 oc10 kV10 dc10 pm10 cd10 ct10 : Value}
    (n_TariffError : PySem.W.nsIn K mainGlobals "TariffError" = some (some (.ref c_TariffError)))
    (n_NoNumber : PySem.W.nsIn K mainGlobals "NoNumber" = some (some (.ref c_NoNumber)))
    (n_NoBands : PySem.W.nsIn K mainGlobals "NoBands" = some (some (.ref c_NoBands)))
    (n_NoKinds : PySem.W.nsIn K mainGlobals "NoKinds" = some (some (.ref c_NoKinds)))
    (n_NoGoods : PySem.W.nsIn K mainGlobals "NoGoods" = some (some (.ref c_NoGoods)))
    (n_NoNote : PySem.W.nsIn K mainGlobals "NoNote" = some (some (.ref c_NoNote)))
    (n_NoTree : PySem.W.nsIn K mainGlobals "NoTree" = some (some (.ref c_NoTree)))
    (n_NoneClaims : PySem.W.nsIn K mainGlobals "NoneClaims" = some (some (.ref c_NoneClaims)))
    (n_TwoClaim : PySem.W.nsIn K mainGlobals "TwoClaim" = some (some (.ref c_TwoClaim)))
    (n_NoRule : PySem.W.nsIn K mainGlobals "NoRule" = some (some (.ref c_NoRule)))
    (n_NoLot : PySem.W.nsIn K mainGlobals "NoLot" = some (some (.ref c_NoLot)))
    (n_NoQuota : PySem.W.nsIn K mainGlobals "NoQuota" = some (some (.ref c_NoQuota)))
    (n_NoRate : PySem.W.nsIn K mainGlobals "NoRate" = some (some (.ref c_NoRate)))
    (n_NoEntry : PySem.W.nsIn K mainGlobals "NoEntry" = some (some (.ref c_NoEntry)))
    (n_NoDeed : PySem.W.nsIn K mainGlobals "NoDeed" = some (some (.ref c_NoDeed)))
    (n_NoRow : PySem.W.nsIn K mainGlobals "NoRow" = some (some (.ref c_NoRow)))
    (a1 : PySem.W.nsIn K mainGlobals "parcel_kept" = some (some (.ref f1))) (l1 : K.lookup f1 = some ⟨oc1, od1, .func (PySem.W.fnOf "parcel_kept" "parcel_kept" (defArgs s_parcel_kept) (defBody s_parcel_kept) (defScope s_parcel_kept) .none kV1 dc1 pm1 an1 cd1 ct1), sl1⟩) (c1 : PySem.W.codeIn K cd1 "parcel_kept" = true) (k1 : PySem.W.keepIn K (.ref f1) = true)
    (a2 : PySem.W.findIn K (.ref c_NoneClaims) "__init__" = some (some (.ref f2))) (l2 : K.lookup f2 = some ⟨oc2, od2, .func (PySem.W.fnOf "__init__" "NoneClaims.__init__" (defArgs s_NoneClaims_init) (defBody s_NoneClaims_init) (defScope s_NoneClaims_init) .none kV2 dc2 pm2 an2 cd2 ct2), sl2⟩) (c2 : PySem.W.codeIn K cd2 "NoneClaims.__init__" = true) (k2 : PySem.W.keepIn K (.ref f2) = true)
    (t2 : PySem.W.isFn K (.ref f2) = true)
    (a3 : PySem.W.findIn K (.ref c_TwoClaim) "__init__" = some (some (.ref f3))) (l3 : K.lookup f3 = some ⟨oc3, od3, .func (PySem.W.fnOf "__init__" "TwoClaim.__init__" (defArgs s_TwoClaim_init) (defBody s_TwoClaim_init) (defScope s_TwoClaim_init) .none kV3 dc3 pm3 an3 cd3 ct3), sl3⟩) (c3 : PySem.W.codeIn K cd3 "TwoClaim.__init__" = true) (k3 : PySem.W.keepIn K (.ref f3) = true)
    (t3 : PySem.W.isFn K (.ref f3) = true)
    (a4 : PySem.W.nsIn K mainGlobals "_law_cell" = some (some (.ref f4))) (l4 : K.lookup f4 = some ⟨oc4, od4, .func (PySem.W.fnOf "_law_cell" "_law_cell" (defArgs s_law_cell) (defBody s_law_cell) (defScope s_law_cell) .none kV4 dc4 pm4 an4 cd4 ct4), sl4⟩) (c4 : PySem.W.codeIn K cd4 "_law_cell" = true) (k4 : PySem.W.keepIn K (.ref f4) = true)
    (a5 : PySem.W.nsIn K mainGlobals "_law_word" = some (some (.ref f5))) (l5 : K.lookup f5 = some ⟨oc5, od5, .func (PySem.W.fnOf "_law_word" "_law_word" (defArgs s_law_word) (defBody s_law_word) (defScope s_law_word) .none kV5 dc5 pm5 an5 cd5 ct5), sl5⟩) (c5 : PySem.W.codeIn K cd5 "_law_word" = true) (k5 : PySem.W.keepIn K (.ref f5) = true)
    (a6 : PySem.W.nsIn K mainGlobals "_law_number" = some (some (.ref f6))) (l6 : K.lookup f6 = some ⟨oc6, od6, .func (PySem.W.fnOf "_law_number" "_law_number" (defArgs s_law_number) (defBody s_law_number) (defScope s_law_number) .none kV6 dc6 pm6 an6 cd6 ct6), sl6⟩) (c6 : PySem.W.codeIn K cd6 "_law_number" = true) (k6 : PySem.W.keepIn K (.ref f6) = true)
    (a7 : PySem.W.nsIn K mainGlobals "_law_other" = some (some (.ref f7))) (l7 : K.lookup f7 = some ⟨oc7, od7, .func (PySem.W.fnOf "_law_other" "_law_other" (defArgs s_law_other) (defBody s_law_other) (defScope s_law_other) .none kV7 dc7 pm7 an7 cd7 ct7), sl7⟩) (c7 : PySem.W.codeIn K cd7 "_law_other" = true) (k7 : PySem.W.keepIn K (.ref f7) = true)
    (a8 : PySem.W.nsIn K mainGlobals "_law_none" = some (some (.ref f8))) (l8 : K.lookup f8 = some ⟨oc8, od8, .func (PySem.W.fnOf "_law_none" "_law_none" (defArgs s_law_none) (defBody s_law_none) (defScope s_law_none) .none kV8 dc8 pm8 an8 cd8 ct8), sl8⟩) (c8 : PySem.W.codeIn K cd8 "_law_none" = true) (k8 : PySem.W.keepIn K (.ref f8) = true)
    (a9 : PySem.W.nsIn K mainGlobals "_law_two" = some (some (.ref f9))) (l9 : K.lookup f9 = some ⟨oc9, od9, .func (PySem.W.fnOf "_law_two" "_law_two" (defArgs s_law_two) (defBody s_law_two) (defScope s_law_two) .none kV9 dc9 pm9 an9 cd9 ct9), sl9⟩) (c9 : PySem.W.codeIn K cd9 "_law_two" = true) (k9 : PySem.W.keepIn K (.ref f9) = true)
    (a10 : PySem.W.nsIn K mainGlobals "law" = some (some (.ref f10))) (l10 : K.lookup f10 = some ⟨oc10, od10, .func (PySem.W.fnOf "law" "law" (defArgs s_law) (defBody s_law) (defScope s_law) .none kV10 dc10 pm10 an10 cd10 ct10), sl10⟩) (c10 : PySem.W.codeIn K cd10 "law" = true) (k10 : PySem.W.keepIn K (.ref f10) = true)
    (ci_TariffError : PySem.W.isClsIn K c_TariffError = true)
    (ct_TariffError : PySem.W.typeIn K (.ref c_TariffError) = some (.type "type"))
    (cb_TariffError : PySem.W.mroIn K c_TariffError (.type "BaseException") = some true)
    (xga_NoneClaims : PySem.W.findIn K (.ref c_NoneClaims) "__getattribute__" = some (some (.builtin "BaseException.__getattribute__")))
    (xgt_NoneClaims : PySem.W.findIn K (.ref c_NoneClaims) "__getattr__" = some none)
    (xca_NoneClaims : PySem.W.findIn K (.ref c_NoneClaims) "__class__" = some (some (.builtin "object.__class__")))
    (xcn_NoneClaims : PySem.W.specialIn K (.builtin "object.__class__") "__get__" = some (some (.builtin "getset_descriptor.__get__")))
    (xtk_NoneClaims : PySem.W.takesIn K (.builtin "object.__class__") = some true)
    (xmo_NoneClaims : PySem.W.mroIn K c_NoneClaims (.type "object") = some true)
    (xmb_NoneClaims : PySem.W.mroIn K c_NoneClaims (.type "BaseException") = some true)
    (xis_NoneClaims : PySem.W.isClsIn K c_NoneClaims = true)
    (xga_TwoClaim : PySem.W.findIn K (.ref c_TwoClaim) "__getattribute__" = some (some (.builtin "BaseException.__getattribute__")))
    (xgt_TwoClaim : PySem.W.findIn K (.ref c_TwoClaim) "__getattr__" = some none)
    (xca_TwoClaim : PySem.W.findIn K (.ref c_TwoClaim) "__class__" = some (some (.builtin "object.__class__")))
    (xcn_TwoClaim : PySem.W.specialIn K (.builtin "object.__class__") "__get__" = some (some (.builtin "getset_descriptor.__get__")))
    (xtk_TwoClaim : PySem.W.takesIn K (.builtin "object.__class__") = some true)
    (xmo_TwoClaim : PySem.W.mroIn K c_TwoClaim (.type "object") = some true)
    (xmb_TwoClaim : PySem.W.mroIn K c_TwoClaim (.type "BaseException") = some true)
    (xis_TwoClaim : PySem.W.isClsIn K c_TwoClaim = true)
    (ug : PySem.W.specialIn K (.ref c_TariffError) "__getattribute__" = some (some (.builtin "type.__getattribute__")))
    (ur : PySem.W.readsIn K c_TariffError (.type "type") = true)
    (uf : PySem.W.findCls K (.ref c_TariffError) (.type "type") "__init__" = some (.val (.builtin "ValueError.__init__")))
    (sa1 : PySem.W.findIn K (.ref c_NoneClaims) "__setattr__" = some (some (.builtin "object.__setattr__")))
    (sa2 : PySem.W.findIn K (.ref c_TwoClaim) "__setattr__" = some (some (.builtin "object.__setattr__")))
    (sm_ov1 : xOver K c_NoneClaims = true)
    (sm_ov2 : xOver K c_TwoClaim = true)
    (sm_xi1 : excInI K c_NoneClaims f2 = true)
    (sm_xi2 : excInI K c_TwoClaim f3 = true)
    (nap1 : PySem.W.findIn K (.ref c_NoneClaims) "parcel" = some none)
    (naa1 : PySem.W.findIn K (.ref c_NoneClaims) "at" = some none)
    (nap2 : PySem.W.findIn K (.ref c_TwoClaim) "parcel" = some none)
    (naa2 : PySem.W.findIn K (.ref c_TwoClaim) "at" = some none)
    (nao2 : PySem.W.findIn K (.ref c_TwoClaim) "one" = some none)
    (nat2 : PySem.W.findIn K (.ref c_TwoClaim) "other" = some none)
    (kc1 : PySem.W.keepIn K (.ref c_NoneClaims) = true)
    (kc2 : PySem.W.keepIn K (.ref c_TwoClaim) = true)
    (sb1 : PySem.W.subIn K (.ref c_NoneClaims) (.ref c_TariffError) = some true)
    (sb2 : PySem.W.subIn K (.ref c_TwoClaim) (.ref c_TariffError) = some true)
    (ki1 : PySem.W.kitOne K (.ref c_NoneClaims) (.ref c_TwoClaim) = some false)
    (ki2 : PySem.W.kitOne K (.ref c_TwoClaim) (.ref c_NoneClaims) = some false)
    (ga1 : PySem.W.kitAny K (.ref c_NoneClaims) ([c_NoBands, c_NoDeed, c_NoEntry, c_NoGoods, c_NoKinds, c_NoLot, c_NoNote, c_NoNumber].map Value.ref) = some false)
    (ga2 : PySem.W.kitAny K (.ref c_NoneClaims) ([c_NoQuota, c_NoRate, c_NoRow, c_NoRule, c_NoTree].map Value.ref) = some false)
    (ga3 : PySem.W.kitOne K (.ref c_NoneClaims) (.ref c_TariffError) = some true)
    (ga4 : PySem.W.kitOne K (.ref c_NoneClaims) (.type "ValueError") = some true)
    (gb1 : PySem.W.kitAny K (.ref c_TwoClaim) ([c_NoBands, c_NoDeed, c_NoEntry, c_NoGoods, c_NoKinds, c_NoLot, c_NoNote, c_NoNumber].map Value.ref) = some false)
    (gb2 : PySem.W.kitAny K (.ref c_TwoClaim) ([c_NoQuota, c_NoRate, c_NoRow, c_NoRule, c_NoTree].map Value.ref) = some false)
    (gb3 : PySem.W.kitOne K (.ref c_TwoClaim) (.ref c_TariffError) = some true)
    (gb4 : PySem.W.kitOne K (.ref c_TwoClaim) (.type "ValueError") = some true)
    (z_len : PySem.W.nsIn K mainGlobals "len" = some none)
    (z_range : PySem.W.nsIn K mainGlobals "range" = some none)
    (z_abs : PySem.W.nsIn K mainGlobals "abs" = some none)
    (z_max : PySem.W.nsIn K mainGlobals "max" = some none)
    (z_min : PySem.W.nsIn K mainGlobals "min" = some none)
    (z_isinstance : PySem.W.nsIn K mainGlobals "isinstance" = some none)
    (z_int : PySem.W.nsIn K mainGlobals "int" = some none)
    (z_bool : PySem.W.nsIn K mainGlobals "bool" = some none)
    (z_str : PySem.W.nsIn K mainGlobals "str" = some none)
    (z_list : PySem.W.nsIn K mainGlobals "list" = some none)
    (z_tuple : PySem.W.nsIn K mainGlobals "tuple" = some none)
    (z_sum : PySem.W.nsIn K mainGlobals "sum" = some none)
    (z_all : PySem.W.nsIn K mainGlobals "all" = some none)
    (z_enumerate : PySem.W.nsIn K mainGlobals "enumerate" = some none)
    (z_zip : PySem.W.nsIn K mainGlobals "zip" = some none)
    (z_ValueError : PySem.W.nsIn K mainGlobals "ValueError" = some none)
    (z_any : PySem.W.nsIn K mainGlobals "any" = some none)
    (z_set : PySem.W.nsIn K mainGlobals "set" = some none)
    (z_sorted : PySem.W.nsIn K mainGlobals "sorted" = some none)
    : ∃ fd : FuncData, (∀ (s : Shared) (v : Value), BindsTo s fd ⟨[v], []⟩ [("_law_script", v)]) ∧ ∀ base : Heap, K.In base → base.Ns mainGlobals mg → FnOk l.prog w K mg base CX0 5 fa fd ["_law_script"] (spLaw K) := by
  have e := hfa.symm.trans (PySem.W.mg_of X G a10)
  cases e
  have F1 := fun_mk (st := s_parcel_kept) l1 c1 k1
  have F2 := fun_mk (st := s_NoneClaims_init) l2 c2 k2
  have F3 := fun_mk (st := s_TwoClaim_init) l3 c3 k3
  have F4 := fun_mk (st := s_law_cell) l4 c4 k4
  have F5 := fun_mk (st := s_law_word) l5 c5 k5
  have F6 := fun_mk (st := s_law_number) l6 c6 k6
  have F7 := fun_mk (st := s_law_other) l7 c7 k7
  have F8 := fun_mk (st := s_law_none) l8 c8 k8
  have F9 := fun_mk (st := s_law_two) l9 c9 k9
  have F10 := fun_mk (st := s_law) l10 c10 k10
  have b1 := F1.binds (ps := ["parcel"]) fun _ _ _ _ _ _ us hl => match us, hl with | [_], _ => rfl
  have b2 := F2.binds (ps := ["self", "parcel", "at"]) fun _ _ _ _ _ _ us hl => match us, hl with | [_, _, _], _ => rfl
  have b3 := F3.binds (ps := ["self", "parcel", "at", "one", "other"]) fun _ _ _ _ _ _ us hl => match us, hl with | [_, _, _, _, _], _ => rfl
  have b4 := F4.binds (ps := ["_law_script", "_law_k"]) fun _ _ _ _ _ _ us hl => match us, hl with | [_, _], _ => rfl
  have b5 := F5.binds (ps := ["_law_cell_here"]) fun _ _ _ _ _ _ us hl => match us, hl with | [_], _ => rfl
  have b6 := F6.binds (ps := ["_law_cell_here"]) fun _ _ _ _ _ _ us hl => match us, hl with | [_], _ => rfl
  have b7 := F7.binds (ps := ["_law_e"]) fun _ _ _ _ _ _ us hl => match us, hl with | [_], _ => rfl
  have b8 := F8.binds (ps := ["_law_parcel", "_law_at"]) fun _ _ _ _ _ _ us hl => match us, hl with | [_, _], _ => rfl
  have b9 := F9.binds (ps := ["_law_parcel", "_law_at", "_law_one", "_law_other_here"]) fun _ _ _ _ _ _ us hl => match us, hl with | [_, _, _, _], _ => rfl
  have M : Mg mg := ⟨PySem.W.mg_none_of X G z_len, PySem.W.mg_none_of X G z_range, PySem.W.mg_none_of X G z_abs, PySem.W.mg_none_of X G z_max, PySem.W.mg_none_of X G z_min, PySem.W.mg_none_of X G z_isinstance, PySem.W.mg_none_of X G z_int, PySem.W.mg_none_of X G z_bool, PySem.W.mg_none_of X G z_str, PySem.W.mg_none_of X G z_list, PySem.W.mg_none_of X G z_tuple, PySem.W.mg_none_of X G z_sum, PySem.W.mg_none_of X G z_all, PySem.W.mg_none_of X G z_enumerate, PySem.W.mg_none_of X G z_zip, PySem.W.mg_none_of X G z_ValueError, PySem.W.mg_none_of X G z_any, PySem.W.mg_none_of X G z_set, PySem.W.mg_none_of X G z_sorted⟩
  refine ⟨PySem.W.fnOf "law" "law" (defArgs s_law) (defBody s_law) (defScope s_law) .none kV10 dc10 pm10 an10 cd10 ct10, fun s v => .of_eq rfl, fun base _ _ => ?_⟩
  have A_TariffError := PySem.W.mg_of X G n_TariffError
  have A_NoNumber := PySem.W.mg_of X G n_NoNumber
  have A_NoBands := PySem.W.mg_of X G n_NoBands
  have A_NoKinds := PySem.W.mg_of X G n_NoKinds
  have A_NoGoods := PySem.W.mg_of X G n_NoGoods
  have A_NoNote := PySem.W.mg_of X G n_NoNote
  have A_NoTree := PySem.W.mg_of X G n_NoTree
  have A_NoneClaims := PySem.W.mg_of X G n_NoneClaims
  have A_TwoClaim := PySem.W.mg_of X G n_TwoClaim
  have A_NoRule := PySem.W.mg_of X G n_NoRule
  have A_NoLot := PySem.W.mg_of X G n_NoLot
  have A_NoQuota := PySem.W.mg_of X G n_NoQuota
  have A_NoRate := PySem.W.mg_of X G n_NoRate
  have A_NoEntry := PySem.W.mg_of X G n_NoEntry
  have A_NoDeed := PySem.W.mg_of X G n_NoDeed
  have A_NoRow := PySem.W.mg_of X G n_NoRow
  have X_TariffError : XCatch K mg "TariffError" c_TariffError := ⟨A_TariffError, (fun z => by unfold PySem.W.isClsIn at ci_TariffError; rw [z] at ci_TariffError; cases ci_TariffError), ct_TariffError, cb_TariffError⟩
  have K_NoneClaims : XCls K c_NoneClaims := ⟨xga_NoneClaims, xgt_NoneClaims, xca_NoneClaims, xcn_NoneClaims, xtk_NoneClaims, xmo_NoneClaims, xmb_NoneClaims, xis_NoneClaims⟩
  have K_TwoClaim : XCls K c_TwoClaim := ⟨xga_TwoClaim, xgt_TwoClaim, xca_TwoClaim, xcn_TwoClaim, xtk_TwoClaim, xmo_TwoClaim, xmb_TwoClaim, xis_TwoClaim⟩
  have U_TariffError : XUp K mg "TariffError" c_TariffError := ⟨A_TariffError, ug, ur, uf⟩
  have XF1 : XFld K c_NoneClaims := ⟨sa1, sm_ov1, K_NoneClaims⟩
  have XF2 : XFld K c_TwoClaim := ⟨sa2, sm_ov2, K_TwoClaim⟩
  have C_parcel_kept : Cal l.prog w K mg base CX0 "parcel_kept" 1 ["parcel"] (spKept K) := ⟨⟨_, _, ok_parcel_kept F1 M, b1, k1, PySem.W.mg_of X G a1⟩⟩
  have Z_NoneClaims : XMk l.prog w K mg base "NoneClaims" c_NoneClaims 2 ["self", "parcel", "at"] (spInitN K c_NoneClaims) := ⟨⟨_, _, sm_xi1, t2, ok_NoneClaims_init F2 M C_parcel_kept U_TariffError sm_xi1 XF1 nap1 naa1, b2⟩, A_NoneClaims, kc1⟩
  have Z_TwoClaim : XMk l.prog w K mg base "TwoClaim" c_TwoClaim 2 ["self", "parcel", "at", "one", "other"] (spInitT K c_TwoClaim) := ⟨⟨_, _, sm_xi2, t3, ok_TwoClaim_init F3 M C_parcel_kept U_TariffError sm_xi2 XF2 nap2 naa2 nao2 nat2, b3⟩, A_TwoClaim, kc2⟩
  have C_law_cell : Cal l.prog w K mg base CX0 "_law_cell" 1 ["_law_script", "_law_k"] (spCell K) := ⟨⟨_, _, ok_law_cell F4 M, b4, k4, PySem.W.mg_of X G a4⟩⟩
  have C_law_word : Cal l.prog w K mg base CX0 "_law_word" 1 ["_law_cell_here"] (spWord) := ⟨⟨_, _, ok_law_word F5 M, b5, k5, PySem.W.mg_of X G a5⟩⟩
  have C_law_number : Cal l.prog w K mg base CX0 "_law_number" 1 ["_law_cell_here"] (spNumber) := ⟨⟨_, _, ok_law_number F6 M, b6, k6, PySem.W.mg_of X G a6⟩⟩
  have C_law_other : CalS l.prog w K mg base CX0 "_law_other" 1 ["_law_e"] (spOther c_NoneClaims c_TwoClaim) := ⟨⟨_, _, ok_law_other F7 M A_NoBands A_NoDeed A_NoEntry A_NoGoods A_NoKinds A_NoLot A_NoNote A_NoNumber A_NoQuota A_NoRate A_NoRow A_NoRule A_NoTree A_TariffError K_NoneClaims K_TwoClaim ga1 ga2 ga3 ga4 gb1 gb2 gb3 gb4, b7, k7, PySem.W.mg_of X G a7⟩⟩
  have C_law_none : Cal l.prog w K mg base CX0 "_law_none" 4 ["_law_parcel", "_law_at"] (spNone K) := ⟨⟨_, _, ok_law_none F8 M C_law_other Z_NoneClaims X_TariffError A_TwoClaim sb1 XF1 nap1 naa1 ki1, b8, k8, PySem.W.mg_of X G a8⟩⟩
  have C_law_two : Cal l.prog w K mg base CX0 "_law_two" 4 ["_law_parcel", "_law_at", "_law_one", "_law_other_here"] (spTwo K) := ⟨⟨_, _, ok_law_two F9 M C_law_other Z_TwoClaim X_TariffError A_NoneClaims sb2 XF2 nap2 naa2 nao2 nat2 ki2, b9, k9, PySem.W.mg_of X G a9⟩⟩
  exact ok_law F10 M C_law_cell C_law_word C_law_number C_law_none C_law_two
theorem walk {l : PySem.W.OpenLaw} {q : Program} {loose : List Str} {XP : (Str → Option Value) → Heap → Prop} {YP : World → Heap → Prop} {d : DefRec} {K : Params → PySem.W.Frag} (hn : l.most = some 63) (hdf : d.params.defaults = [])
    (hY : ∀ (w : World) (h : Heap), YP w h → (K w.params).In h)
    (F : ∀ (w : World) (mg : Str → Option Value) (fa : Addr) (h : Heap), (K w.params).In h → h.Ns mainGlobals mg → mg d.name = some (.ref fa) →
      ∃ fd : FuncData, (∀ (s : Shared) (u : Value), BindsTo s fd ⟨[u], []⟩ [("_law_script", u)]) ∧ ∀ base : Heap, (K w.params).In base → base.Ns mainGlobals mg → FnOk l.prog w (K w.params) mg base CX0 5 fa fd ["_law_script"] (spLaw (K w.params))) :
    PySem.W.WalkO q loose XP YP l.row.toRowW d [] (fun f vs => PySem.call f vs) :=
  L2.walk_of (n := 63) (k := 5) (x := "_law_script") (CX := fun _ => CX0) (sp := fun w => spLaw (K w.params)) hn (by decide) hdf ⟨rfl, by decide, by decide⟩ hY F (fun _ _ a ns hl _ hS => ⟨a, ns, rfl, hS, hl, fun _ => rfl⟩) fun _ _ _ _ _ z => z
end My
namespace PySem.W.Fast
theorem tw9898566657626826803:True:=⟨⟩
theorem tw17263190492721758500:True:=⟨⟩
theorem tw9363946189190821983:True:=⟨⟩
theorem tw2070835327043830648:True:=⟨⟩
theorem tw15497606894834999036:True:=⟨⟩
theorem tw10455856315422592614:True:=⟨⟩
theorem tw17798818227751529840:True:=⟨⟩
theorem tw4161372041696768829:True:=⟨⟩
theorem tw5347229625892362828:True:=⟨⟩
theorem tw11301575433452591867:True:=⟨⟩
theorem tw6374655254267201808:True:=⟨⟩
theorem tw14399920376188914783:True:=⟨⟩
theorem tw10586448399052755925:True:=⟨⟩
theorem tw8078619381611508216:True:=⟨⟩
theorem tw1805630148039943717:True:=⟨⟩
theorem tw11228612817957977803:True:=⟨⟩
theorem tw578490163517732664:True:=⟨⟩
theorem tw13245857598075349978:True:=⟨⟩
theorem tw4856863484577918994:True:=⟨⟩
theorem tw17189982359685989627:True:=⟨⟩
theorem tw13003648284185726505:True:=⟨⟩
theorem tw15960541612166180285:True:=⟨⟩
theorem tw6031569451694988332:True:=⟨⟩
theorem tw11565632150497700814:True:=⟨⟩
theorem tw13446102296856474942:True:=⟨⟩
theorem tw1976565945479777876:True:=⟨⟩
theorem tw14510141412703647245:True:=⟨⟩
theorem tw2091479212927039727:True:=⟨⟩
theorem tw872534462922366010:True:=⟨⟩
theorem tw13756340250508168181:True:=⟨⟩
theorem tw9826514614473165691:True:=⟨⟩
theorem tw17782452700841139473:True:=⟨⟩
theorem tw5445853395828307206:True:=⟨⟩
theorem tw4266911439143828728:True:=⟨⟩
theorem tw5691937427667238523:True:=⟨⟩
theorem tw17533342010828461796:True:=⟨⟩
theorem tw7006254652252631465:True:=⟨⟩
theorem tw5975816714819977259:True:=⟨⟩
theorem tw379526437379973126:True:=⟨⟩
theorem tw4966784950495739536:True:=⟨⟩
theorem tw4114427506401286673:True:=⟨⟩
theorem tw11984560987225367692:True:=⟨⟩
theorem tw4828371448166368821:True:=⟨⟩
theorem tw11802598799241855309:True:=⟨⟩
theorem tw17384499686919794875:True:=⟨⟩
theorem tw12403225262569274020:True:=⟨⟩
theorem tw13954349708290638820:True:=⟨⟩
theorem tw13064593653127334230:True:=⟨⟩
theorem tw56343540011060652:True:=⟨⟩
theorem tw15398755036038837989:True:=⟨⟩
theorem tw11702053942806521659:True:=⟨⟩
theorem tw17840451926850507321:True:=⟨⟩
theorem tw15074251411183652949:True:=⟨⟩
theorem tw5596514896704570540:True:=⟨⟩
theorem tw13848278646175608584:True:=⟨⟩
theorem tw10557306503245505473:True:=⟨⟩
theorem tw12908197143098268046:True:=⟨⟩
theorem tw5209985460874039108:True:=⟨⟩
theorem tw4736071225356977299:True:=⟨⟩
theorem tw14968046082177701450:True:=⟨⟩
theorem tw689190828444687803:True:=⟨⟩
theorem tw12303603641754683560:True:=⟨⟩
theorem tw6740179653519749108:True:=⟨⟩
theorem tw16185420046750411053:True:=⟨⟩
theorem tw5250153269963894079:True:=⟨⟩
theorem tw3378703671683959828:True:=⟨⟩
theorem tw13564109710497243414:True:=⟨⟩
theorem tw6172618531012266915:True:=⟨⟩
theorem tw14759720425275378124:True:=⟨⟩
theorem tw5583677989878919964:True:=⟨⟩
theorem tw6030533346984792136:True:=⟨⟩
theorem tw579341429402047135:True:=⟨⟩
theorem tw14277648807207488174:True:=⟨⟩
theorem tw14161354393287371536:True:=⟨⟩
theorem tw15912447997947712517:True:=⟨⟩
theorem tw1774967499486819812:True:=⟨⟩
theorem tw7130864827106382765:True:=⟨⟩
theorem tw2423088583239492981:True:=⟨⟩
theorem tw1113869436537526635:True:=⟨⟩
theorem tw7639180661197824533:True:=⟨⟩
theorem tw18340928817454234272:True:=⟨⟩
theorem tw6064722255360866427:True:=⟨⟩
theorem tw2790548268820960933:True:=⟨⟩
theorem tw2292159952744336090:True:=⟨⟩
theorem tw9846368885770865078:True:=⟨⟩
theorem tw17599545075701076077:True:=⟨⟩
theorem tw191394061527741039:True:=⟨⟩
theorem tw6495688738906829096:True:=⟨⟩
theorem tw13921875311156972366:True:=⟨⟩
theorem tw391237466170464997:True:=⟨⟩
theorem tw10353118662700237256:True:=⟨⟩
theorem tw6318189110313421805:True:=⟨⟩
theorem tw9887949913307203638:True:=⟨⟩
theorem tw7153420482450014154:True:=⟨⟩
theorem tw14162844758399937498:True:=⟨⟩
theorem tw6470734180788812229:True:=⟨⟩
theorem tw12979023630084991463:True:=⟨⟩
theorem tw6164031372346955216:True:=⟨⟩
theorem tw11167846047397279303:True:=⟨⟩
theorem tw8585503041733692959:True:=⟨⟩
theorem tw9702302218205749320:True:=⟨⟩
theorem tw13649941392017145712:True:=⟨⟩
theorem tw14394024683439679904:True:=⟨⟩
theorem tw1314127940022294484:True:=⟨⟩
theorem tw191268132564368704:True:=⟨⟩
theorem tw3760052177771822317:True:=⟨⟩
theorem tw16320984274109240669:True:=⟨⟩
theorem tw2839009838725638976:True:=⟨⟩
theorem tw15927154526776907301:True:=⟨⟩
theorem tw2164317155612561978:True:=⟨⟩
theorem tw15209181525692673910:True:=⟨⟩
theorem tw11463238760316009397:True:=⟨⟩
theorem tw4361231908660765625:True:=⟨⟩
theorem tw14339899341723973670:True:=⟨⟩
theorem tw488320154185114997:True:=⟨⟩
theorem tw2285443575521834736:True:=⟨⟩
theorem tw8117338479687432420:True:=⟨⟩
theorem tw334536548068074539:True:=⟨⟩
theorem tw15280700159512294758:True:=⟨⟩
theorem tw704563280103956857:True:=⟨⟩
theorem tw10177043559090266098:True:=⟨⟩
theorem tw15955466888231285533:True:=⟨⟩
theorem tw1484980243185507875:True:=⟨⟩
theorem tw9579616545282954089:True:=⟨⟩
theorem tw9244596879871408063:True:=⟨⟩
theorem tw2845668779325072202:True:=⟨⟩
theorem tw949028116992184843:True:=⟨⟩
theorem tw258162535394718030:True:=⟨⟩
theorem tw4868454211868456595:True:=⟨⟩
theorem tw11013843075911754407:True:=⟨⟩
theorem tw1279517383739371931:True:=⟨⟩
theorem tw7417433633889597009:True:=⟨⟩
theorem tw82764538076339784:True:=⟨⟩
theorem tw7857715041896343731:True:=⟨⟩
theorem tw16889767783619598081:True:=⟨⟩
theorem tw6060099781494107658:True:=⟨⟩
theorem tw7369154318948135566:True:=⟨⟩
theorem tw4031662921391889898:True:=⟨⟩
theorem tw10642892392993090737:True:=⟨⟩
theorem tw9584972812961916129:True:=⟨⟩
theorem tw9579275186659484276:True:=⟨⟩
theorem tw15992374576957064802:True:=⟨⟩
theorem tw5850918267027484577:True:=⟨⟩
theorem tw9616190688764252100:True:=⟨⟩
theorem tw701576626560349355:True:=⟨⟩
theorem tw7351673286589714999:True:=⟨⟩
theorem tw4015422043196502838:True:=⟨⟩
theorem tw17860987263400396726:True:=⟨⟩
theorem tw6087209982862567203:True:=⟨⟩
theorem tw4163008044402797848:True:=⟨⟩
theorem tw5530407432133518343:True:=⟨⟩
theorem tw9549214015415789867:True:=⟨⟩
theorem tw4525134091472386048:True:=⟨⟩
theorem tw4466151610405987987:True:=⟨⟩
theorem tw8443541611554109872:True:=⟨⟩
theorem tw10140367557188591041:True:=⟨⟩
theorem tw1454174606428654869:True:=⟨⟩
theorem tw4253623534351734977:True:=⟨⟩
theorem tw12151544057700567319:True:=⟨⟩
theorem tw465314520237966735:True:=⟨⟩
theorem tw17790584862002411478:True:=⟨⟩
theorem tw6297769911265811982:True:=⟨⟩
theorem tw10876766584576924182:True:=⟨⟩
theorem tw14662693520451274307:True:=⟨⟩
theorem tw4141861035011213820:True:=⟨⟩
theorem tw16264856129716833861:True:=⟨⟩
theorem tw3855472154827875352:True:=⟨⟩
theorem tw5946601012604262633:True:=⟨⟩
theorem tw5320070568769585455:True:=⟨⟩
theorem tw459934662229595755:True:=⟨⟩
theorem tw6800377358331911466:True:=⟨⟩
theorem tw4703047237675471202:True:=⟨⟩
theorem tw4283629036633855459:True:=⟨⟩
theorem tw17992149485711602205:True:=⟨⟩
theorem tw7762409061406405387:True:=⟨⟩
theorem tw888852023629367423:True:=⟨⟩
theorem tw10526917317820012658:True:=⟨⟩
theorem tw1062603019655630021:True:=⟨⟩
theorem tw15583199073468020050:True:=⟨⟩
theorem tw17305766385278669612:True:=⟨⟩
theorem tw2034271408469587138:True:=⟨⟩
theorem tw11273942010771137441:True:=⟨⟩
theorem tw10551650844504942759:True:=⟨⟩
theorem tw5538878566705068159:True:=⟨⟩
theorem tw11549780267272212328:True:=⟨⟩
theorem tw4540431138588386376:True:=⟨⟩
theorem tw5215417003185482198:True:=⟨⟩
theorem tw655410301989182716:True:=⟨⟩
theorem tw8441613046262444711:True:=⟨⟩
theorem tw9522042138922670894:True:=⟨⟩
theorem tw11545293267741307719:True:=⟨⟩
theorem tw18004903079543236854:True:=⟨⟩
theorem tw16507880893349032465:True:=⟨⟩
theorem tw9464215418935298189:True:=⟨⟩
theorem tw2810781730496419565:True:=⟨⟩
theorem tw14448105173660500042:True:=⟨⟩
theorem tw9288411934471990772:True:=⟨⟩
theorem tw10982413823661957887:True:=⟨⟩
theorem tw717487883567021583:True:=⟨⟩
theorem tw10424285276255359980:True:=⟨⟩
theorem tw428064595443216404:True:=⟨⟩
theorem tw6394889279995796356:True:=⟨⟩
theorem tw17935651039603372042:True:=⟨⟩
theorem tw3966342227864387085:True:=⟨⟩
theorem tw9326784524788458674:True:=⟨⟩
theorem tw5406805978433926814:True:=⟨⟩
theorem tw13168704870932673012:True:=⟨⟩
theorem tw10512858274249992446:True:=⟨⟩
theorem tw4398752606908010422:True:=⟨⟩
theorem tw17955111105430605168:True:=⟨⟩
theorem tw9160220205377581997:True:=⟨⟩
theorem tw16111424238771550875:True:=⟨⟩
theorem tw13145509202325394689:True:=⟨⟩
theorem tw6382761205887138061:True:=⟨⟩
theorem tw17063707563194519642:True:=⟨⟩
theorem tw5976951900051310134:True:=⟨⟩
theorem tw6625987048197297965:True:=⟨⟩
theorem tw717690844519320030:True:=⟨⟩
theorem tw3232313578612411330:True:=⟨⟩
theorem tw4647525015452928658:True:=⟨⟩
theorem tw3710567286272111757:True:=⟨⟩
theorem tw7686543908210680462:True:=⟨⟩
theorem tw1432466855046274079:True:=⟨⟩
theorem tw3910572377825076946:True:=⟨⟩
theorem tw306592727113175956:True:=⟨⟩
theorem tw8659869155039395308:True:=⟨⟩
theorem tw12971498602998230424:True:=⟨⟩
theorem tw160211812513413346:True:=⟨⟩
theorem tw1013695259330253956:True:=⟨⟩
theorem tw4771361198584459263:True:=⟨⟩
theorem tw16915738636048952900:True:=⟨⟩
theorem tw10415321995377628271:True:=⟨⟩
theorem tw14836129002598553261:True:=⟨⟩
theorem tw10800690012433116439:True:=⟨⟩
theorem tw12638832925461311515:True:=⟨⟩
theorem tw5025149895593313700:True:=⟨⟩
theorem tw2727333591656635816:True:=⟨⟩
theorem tw14178858239049005345:True:=⟨⟩
theorem tw15193693902630788155:True:=⟨⟩
theorem tw154844711599072956:True:=⟨⟩
theorem tw5756243256944863515:True:=⟨⟩
theorem tw8188625020326872207:True:=⟨⟩
theorem tw15893182349917011041:True:=⟨⟩
theorem tw7703744464066533324:True:=⟨⟩
theorem tw3089727627647751896:True:=⟨⟩
theorem tw5866968977814189766:True:=⟨⟩
theorem tw4502181887806551593:True:=⟨⟩
theorem tw4158606316658077715:True:=⟨⟩
theorem tw16722837399851326756:True:=⟨⟩
theorem tw9728274263751025901:True:=⟨⟩
theorem tw9468010469488652983:True:=⟨⟩
theorem tw1861235110598933939:True:=⟨⟩
theorem tw8600816021344725514:True:=⟨⟩
theorem tw15394937367309077474:True:=⟨⟩
theorem tw4679270760424246428:True:=⟨⟩
theorem tw17495182376690521010:True:=⟨⟩
theorem tw10814807981510350023:True:=⟨⟩
theorem tw10256854698831204488:True:=⟨⟩
theorem tw6462913591911752353:True:=⟨⟩
theorem tw16966972664224198254:True:=⟨⟩
theorem tw18057844254847322982:True:=⟨⟩
theorem tw5546847379054562560:True:=⟨⟩
theorem tw14713975038531053556:True:=⟨⟩
theorem tw9479733971519253669:True:=⟨⟩
theorem tw15934070492831703053:True:=⟨⟩
theorem tw295360287000587533:True:=⟨⟩
theorem tw1960355922863023911:True:=⟨⟩
theorem tw18331527067913824723:True:=⟨⟩
theorem tw17430357271984218643:True:=⟨⟩
theorem tw375398799415267565:True:=⟨⟩
theorem tw8643958302673290089:True:=⟨⟩
theorem tw6901913800364815043:True:=⟨⟩
theorem tw36626501495384120:True:=⟨⟩
theorem tw14249659944319041174:True:=⟨⟩
theorem tw13094095118911334260:True:=⟨⟩
theorem tw2441683279286314220:True:=⟨⟩
theorem tw2875643296630313292:True:=⟨⟩
theorem tw5398461684833922683:True:=⟨⟩
theorem tw299704096189592220:True:=⟨⟩
theorem tw4490301835352446651:True:=⟨⟩
theorem tw5230104072202130263:True:=⟨⟩
theorem tw2024400306160255836:True:=⟨⟩
theorem tw5171278597243562570:True:=⟨⟩
theorem tw10899744756855116213:True:=⟨⟩
theorem tw2840159283892140414:True:=⟨⟩
theorem tw9424593792177480808:True:=⟨⟩
theorem tw10188876523929140129:True:=⟨⟩
theorem tw14503487739488223375:True:=⟨⟩
theorem tw11588312378329770540:True:=⟨⟩
theorem tw2893664956912950006:True:=⟨⟩
theorem tw6296810311202086305:True:=⟨⟩
theorem tw13197253885623680239:True:=⟨⟩
theorem tw8997738404972225801:True:=⟨⟩
theorem tw1496528485290106808:True:=⟨⟩
theorem tw10051336893976221432:True:=⟨⟩
theorem tw16599199211641771709:True:=⟨⟩
theorem tw16753031700918233460:True:=⟨⟩
theorem tw1518542296918585503:True:=⟨⟩
theorem tw10374950067915849702:True:=⟨⟩
theorem tw16372818940366232123:True:=⟨⟩
theorem tw1706312090600528932:True:=⟨⟩
theorem tw7556549880569564092:True:=⟨⟩
theorem tw15730135808577928481:True:=⟨⟩
theorem tw16652932730702539647:True:=⟨⟩
theorem tw8482390520128863548:True:=⟨⟩
theorem tw8220842705025547772:True:=⟨⟩
theorem tw8986562650356633595:True:=⟨⟩
theorem tw3019624090438021742:True:=⟨⟩
theorem tw679836436177539335:True:=⟨⟩
theorem tw15041143933157930127:True:=⟨⟩
theorem tw10133789735926091109:True:=⟨⟩
theorem tw17717457275540207453:True:=⟨⟩
theorem tw18041361525791019876:True:=⟨⟩
theorem tw1241666944559596845:True:=⟨⟩
theorem tw16394950473236835134:True:=⟨⟩
theorem tw4592014414855361404:True:=⟨⟩
theorem tw2268485042754859522:True:=⟨⟩
theorem tw9224424547962152183:True:=⟨⟩
theorem tw15866921971654863009:True:=⟨⟩
theorem tw12392649117467806555:True:=⟨⟩
theorem tw13559001646258181888:True:=⟨⟩
theorem tw9642144589594546932:True:=⟨⟩
theorem tw10172485805929934470:True:=⟨⟩
theorem tw14067070830322547729:True:=⟨⟩
theorem tw12366313123393249549:True:=⟨⟩
theorem tw1712898128196444725:True:=⟨⟩
theorem tw15583625315856198874:True:=⟨⟩
theorem tw5621044331052002753:True:=⟨⟩
theorem tw11756419016722017181:True:=⟨⟩
theorem tw12589519963726286195:True:=⟨⟩
theorem tw15844162620006108115:True:=⟨⟩
theorem tw15540611187927875335:True:=⟨⟩
theorem tw6015133273407950244:True:=⟨⟩
theorem tw14620422926915004840:True:=⟨⟩
theorem tw4297725781717568888:True:=⟨⟩
theorem tw17443617806661280448:True:=⟨⟩
theorem tw12043394990234612169:True:=⟨⟩
theorem tw16508862407841330273:True:=⟨⟩
theorem tw16719429901971290248:True:=⟨⟩
theorem tw10873147377632497315:True:=⟨⟩
theorem tw16460164819455245097:True:=⟨⟩
theorem tw2440783083915447893:True:=⟨⟩
theorem tw15908408759567615906:True:=⟨⟩
theorem tw9278282951732226075:True:=⟨⟩
theorem tw7238570139485080173:True:=⟨⟩
theorem tw6653131631684638687:True:=⟨⟩
theorem tw5654712882643451186:True:=⟨⟩
theorem tw12420391459049684599:True:=⟨⟩
theorem tw11364220164419837453:True:=⟨⟩
theorem tw3511770060213125939:True:=⟨⟩
theorem tw9483480539567404341:True:=⟨⟩
theorem tw5222020348865302155:True:=⟨⟩
theorem tw17232188267859945621:True:=⟨⟩
theorem tw5407545582995060469:True:=⟨⟩
theorem tw17670110988978053614:True:=⟨⟩
theorem tw10316592198305028445:True:=⟨⟩
end PySem.W.Fast
open PySem PySem.W PyProof.Rows
set_option maxRecDepth 100000 in
set_option maxHeartbeats 0 in
theorem PySem.Challenge.cw_tariffgate_k19_refusals_apart_holds : PySem.Challenge.rw_tariffgate_k19_refusals_apart.Holds := by
  w_on; o_law; k_head; (case hw => w_witness2)
  k_fill
  refine My.walk (l := PySem.Challenge.rw_tariffgate_k19_refusals_apart) rfl rfl (fun w h Y => PySem.W.kIn_of Y) ?F
  case F =>
    intro w mg fa h KX G hmg
    refine' My.all_mk KX G hmg ?n_TariffError ?n_NoNumber ?n_NoBands ?n_NoKinds ?n_NoGoods ?n_NoNote ?n_NoTree ?n_NoneClaims ?n_TwoClaim ?n_NoRule ?n_NoLot ?n_NoQuota ?n_NoRate ?n_NoEntry ?n_NoDeed ?n_NoRow ?a1 ?l1 ?c1 ?k1 ?a2 ?l2 ?c2 ?k2 ?t2 ?a3 ?l3 ?c3 ?k3 ?t3 ?a4 ?l4 ?c4 ?k4 ?a5 ?l5 ?c5 ?k5 ?a6 ?l6 ?c6 ?k6 ?a7 ?l7 ?c7 ?k7 ?a8 ?l8 ?c8 ?k8 ?a9 ?l9 ?c9 ?k9 ?a10 ?l10 ?c10 ?k10 ?ci_TariffError ?ct_TariffError ?cb_TariffError ?xga_NoneClaims ?xgt_NoneClaims ?xca_NoneClaims ?xcn_NoneClaims ?xtk_NoneClaims ?xmo_NoneClaims ?xmb_NoneClaims ?xis_NoneClaims ?xga_TwoClaim ?xgt_TwoClaim ?xca_TwoClaim ?xcn_TwoClaim ?xtk_TwoClaim ?xmo_TwoClaim ?xmb_TwoClaim ?xis_TwoClaim ?ug ?ur ?uf ?sa1 ?sa2 ?sm_ov1 ?sm_ov2 ?sm_xi1 ?sm_xi2 ?nap1 ?naa1 ?nap2 ?naa2 ?nao2 ?nat2 ?kc1 ?kc2 ?sb1 ?sb2 ?ki1 ?ki2 ?ga1 ?ga2 ?ga3 ?ga4 ?gb1 ?gb2 ?gb3 ?gb4 ?z_len ?z_range ?z_abs ?z_max ?z_min ?z_isinstance ?z_int ?z_bool ?z_str ?z_list ?z_tuple ?z_sum ?z_all ?z_enumerate ?z_zip ?z_ValueError ?z_any ?z_set ?z_sorted
    (case n_TariffError => first | k_is | k_exc | kit_is)
    (case n_NoNumber => first | k_is | k_exc | kit_is)
    (case n_NoBands => first | k_is | k_exc | kit_is)
    (case n_NoKinds => first | k_is | k_exc | kit_is)
    (case n_NoGoods => first | k_is | k_exc | kit_is)
    (case n_NoNote => first | k_is | k_exc | kit_is)
    (case n_NoTree => first | k_is | k_exc | kit_is)
    (case n_NoneClaims => first | k_is | k_exc | kit_is)
    (case n_TwoClaim => first | k_is | k_exc | kit_is)
    (case n_NoRule => first | k_is | k_exc | kit_is)
    (case n_NoLot => first | k_is | k_exc | kit_is)
    (case n_NoQuota => first | k_is | k_exc | kit_is)
    (case n_NoRate => first | k_is | k_exc | kit_is)
    (case n_NoEntry => first | k_is | k_exc | kit_is)
    (case n_NoDeed => first | k_is | k_exc | kit_is)
    (case n_NoRow => first | k_is | k_exc | kit_is)
    (case a1 => first | k_is | k_exc | kit_is)
    (case l1 => first | k_is | k_exc | kit_is)
    (case c1 => first | k_is | k_exc | kit_is)
    (case k1 => first | k_is | k_exc | kit_is)
    (case a2 => first | k_is | k_exc | kit_is)
    (case l2 => first | k_is | k_exc | kit_is)
    (case c2 => first | k_is | k_exc | kit_is)
    (case k2 => first | k_is | k_exc | kit_is)
    (case t2 => first | k_is | k_exc | kit_is)
    (case a3 => first | k_is | k_exc | kit_is)
    (case l3 => first | k_is | k_exc | kit_is)
    (case c3 => first | k_is | k_exc | kit_is)
    (case k3 => first | k_is | k_exc | kit_is)
    (case t3 => first | k_is | k_exc | kit_is)
    (case a4 => first | k_is | k_exc | kit_is)
    (case l4 => first | k_is | k_exc | kit_is)
    (case c4 => first | k_is | k_exc | kit_is)
    (case k4 => first | k_is | k_exc | kit_is)
    (case a5 => first | k_is | k_exc | kit_is)
    (case l5 => first | k_is | k_exc | kit_is)
    (case c5 => first | k_is | k_exc | kit_is)
    (case k5 => first | k_is | k_exc | kit_is)
    (case a6 => first | k_is | k_exc | kit_is)
    (case l6 => first | k_is | k_exc | kit_is)
    (case c6 => first | k_is | k_exc | kit_is)
    (case k6 => first | k_is | k_exc | kit_is)
    (case a7 => first | k_is | k_exc | kit_is)
    (case l7 => first | k_is | k_exc | kit_is)
    (case c7 => first | k_is | k_exc | kit_is)
    (case k7 => first | k_is | k_exc | kit_is)
    (case a8 => first | k_is | k_exc | kit_is)
    (case l8 => first | k_is | k_exc | kit_is)
    (case c8 => first | k_is | k_exc | kit_is)
    (case k8 => first | k_is | k_exc | kit_is)
    (case a9 => first | k_is | k_exc | kit_is)
    (case l9 => first | k_is | k_exc | kit_is)
    (case c9 => first | k_is | k_exc | kit_is)
    (case k9 => first | k_is | k_exc | kit_is)
    (case a10 => first | k_is | k_exc | kit_is)
    (case l10 => first | k_is | k_exc | kit_is)
    (case c10 => first | k_is | k_exc | kit_is)
    (case k10 => first | k_is | k_exc | kit_is)
    (case ci_TariffError => first | k_is | k_exc | kit_is)
    (case ct_TariffError => first | k_is | k_exc | kit_is)
    (case cb_TariffError => first | k_is | k_exc | kit_is)
    (case xga_NoneClaims => first | k_is | k_exc | kit_is)
    (case xgt_NoneClaims => first | k_is | k_exc | kit_is)
    (case xca_NoneClaims => first | k_is | k_exc | kit_is)
    (case xcn_NoneClaims => first | k_is | k_exc | kit_is)
    (case xtk_NoneClaims => first | k_is | k_exc | kit_is)
    (case xmo_NoneClaims => first | k_is | k_exc | kit_is)
    (case xmb_NoneClaims => first | k_is | k_exc | kit_is)
    (case xis_NoneClaims => first | k_is | k_exc | kit_is)
    (case xga_TwoClaim => first | k_is | k_exc | kit_is)
    (case xgt_TwoClaim => first | k_is | k_exc | kit_is)
    (case xca_TwoClaim => first | k_is | k_exc | kit_is)
    (case xcn_TwoClaim => first | k_is | k_exc | kit_is)
    (case xtk_TwoClaim => first | k_is | k_exc | kit_is)
    (case xmo_TwoClaim => first | k_is | k_exc | kit_is)
    (case xmb_TwoClaim => first | k_is | k_exc | kit_is)
    (case xis_TwoClaim => first | k_is | k_exc | kit_is)
    (case ug => first | k_is | k_exc | kit_is)
    (case ur => first | k_is | k_exc | kit_is)
    (case uf => first | k_is | k_exc | kit_is)
    (case sa1 => first | k_is | k_exc | kit_is)
    (case sa2 => first | k_is | k_exc | kit_is)
    (case sm_ov1 => first | k_is | k_exc | kit_is | rfl | kernel_rfl | decide)
    (case sm_ov2 => first | k_is | k_exc | kit_is | rfl | kernel_rfl | decide)
    (case sm_xi1 => first | k_is | k_exc | kit_is | rfl | kernel_rfl | decide)
    (case sm_xi2 => first | k_is | k_exc | kit_is | rfl | kernel_rfl | decide)
    (case nap1 => first | k_is | k_exc | kit_is)
    (case naa1 => first | k_is | k_exc | kit_is)
    (case nap2 => first | k_is | k_exc | kit_is)
    (case naa2 => first | k_is | k_exc | kit_is)
    (case nao2 => first | k_is | k_exc | kit_is)
    (case nat2 => first | k_is | k_exc | kit_is)
    (case kc1 => first | k_is | k_exc | kit_is)
    (case kc2 => first | k_is | k_exc | kit_is)
    (case sb1 => first | k_is | k_exc | kit_is)
    (case sb2 => first | k_is | k_exc | kit_is)
    (case ki1 => first | k_is | k_exc | kit_is)
    (case ki2 => first | k_is | k_exc | kit_is)
    (case ga1 => first | k_is | k_exc | kit_is)
    (case ga2 => first | k_is | k_exc | kit_is)
    (case ga3 => first | k_is | k_exc | kit_is)
    (case ga4 => first | k_is | k_exc | kit_is)
    (case gb1 => first | k_is | k_exc | kit_is)
    (case gb2 => first | k_is | k_exc | kit_is)
    (case gb3 => first | k_is | k_exc | kit_is)
    (case gb4 => first | k_is | k_exc | kit_is)
    (case z_len => first | k_is | k_exc | kit_is)
    (case z_range => first | k_is | k_exc | kit_is)
    (case z_abs => first | k_is | k_exc | kit_is)
    (case z_max => first | k_is | k_exc | kit_is)
    (case z_min => first | k_is | k_exc | kit_is)
    (case z_isinstance => first | k_is | k_exc | kit_is)
    (case z_int => first | k_is | k_exc | kit_is)
    (case z_bool => first | k_is | k_exc | kit_is)
    (case z_str => first | k_is | k_exc | kit_is)
    (case z_list => first | k_is | k_exc | kit_is)
    (case z_tuple => first | k_is | k_exc | kit_is)
    (case z_sum => first | k_is | k_exc | kit_is)
    (case z_all => first | k_is | k_exc | kit_is)
    (case z_enumerate => first | k_is | k_exc | kit_is)
    (case z_zip => first | k_is | k_exc | kit_is)
    (case z_ValueError => first | k_is | k_exc | kit_is)
    (case z_any => first | k_is | k_exc | kit_is)
    (case z_set => first | k_is | k_exc | kit_is)
    (case z_sorted => first | k_is | k_exc | kit_is)
#print axioms PySem.Challenge.cw_tariffgate_k19_refusals_apart_holds

