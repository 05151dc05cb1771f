import PyProof.Rows.All
import Wide.All
import OpenK.AllK
import Wide.FinOn
import Lean
import PyProof.EqAt
import PyProof.EqKinds
import PyProof.TupleCall
import PyProof.NeKinds
import PyProof.Draws
import PyProof.EnumMake
import PyProof.WalksEnum
import PyProof.Rows.EnumRows
import PyProof.ExcArgsOwn
import PyProof.ExcAttrAll.ValueError
import PyProof.ExcBaseAll.ValueError
import KE.KIsAll
import KE.KTryOn
import KE.RegKIsAll
import OpenK.KOwn
import PyProof.ZipIter
import PyProof.StrWalks
import PyProof.DictTable
import PyProof.SetNew
import PyProof.SetRoads
import PyProof.P3In
import PyProof.NeData
import PySem.Challenge.RW_tariffgate_k55_rules_for_numbers
set_option Elab.async false
set_option linter.all false
set_option maxRecDepth 100000
namespace L2
open PySem PySem.Spec PyProof.Rows

abbrev Key := Sum Int Str
def keyIs : Key → Value → Bool
  | .inl k, v => Value.isInt k v
  | .inr x, v => Value.isStrOf x v
def keyH (w : World) : Key → Int
  | .inl k => hashInt k
  | .inr x => hashStr w x
theorem keyIs_shape : ∀ {k : Key} {v : Value}, keyIs k v = true → (∃ i t, k = Sum.inl i ∧ v = Value.int i t) ∨ (∃ x t, k = Sum.inr x ∧ v = Value.str x t)
  | .inl i, v, h => by
    obtain ⟨t, e⟩ := Value.isInt_shape (k := i) (v := v) h
    exact .inl ⟨i, t, rfl, e⟩
  | .inr x, v, h => by
    obtain ⟨t, e⟩ := Value.isStrOf_shape (x := x) (v := v) h
    exact .inr ⟨x, t, rfl, e⟩
theorem keyIs_int (i : Int) (t : Tok) : keyIs (.inl i) (.int i t) = true := by simp [keyIs, Value.isInt]
theorem keyIs_str (x : Str) (t : Tok) : keyIs (.inr x) (.str x t) = true := by simp [keyIs, Value.isStrOf]
theorem key_ll (a b : Int) : decide ((Sum.inl a : Key) = Sum.inl b) = (a == b) := by
  by_cases e : a = b
  · subst e; simp
  · have h : ¬ (Sum.inl a : Key) = Sum.inl b := fun q => e (Sum.inl.inj q)
    rw [decide_eq_false h]
    exact (beq_eq_false_iff_ne.mpr e).symm
theorem key_rr (a b : Str) : decide ((Sum.inr a : Key) = Sum.inr b) = decide (a = b) := by
  by_cases e : a = b
  · subst e; simp
  · have h : ¬ (Sum.inr a : Key) = Sum.inr b := fun q => e (Sum.inr.inj q)
    rw [decide_eq_false h, decide_eq_false e]
theorem key_lr (a : Int) (b : Str) : decide ((Sum.inl a : Key) = Sum.inr b) = false := decide_eq_false (fun q => nomatch q)
theorem key_rl (a : Str) (b : Int) : decide ((Sum.inr a : Key) = Sum.inl b) = false := decide_eq_false (fun q => nomatch q)

def mixKind (prog : Program) (w : World) : PySem.KeyKind prog w Key where
  is := keyIs
  hash := keyH w
  inj := fun v a b ha hb => by
    rcases keyIs_shape ha with ⟨i, t, rfl, rfl⟩ | ⟨x, t, rfl, rfl⟩
    · rcases keyIs_shape hb with ⟨j, u, rfl, e⟩ | ⟨y, u, rfl, e⟩
      · injection e with e1 _; rw [e1]
      · exact nomatch e
    · rcases keyIs_shape hb with ⟨j, u, rfl, e⟩ | ⟨y, u, rfl, e⟩
      · exact nomatch e
      · injection e with e1 _; rw [e1]
  byValue := fun k v h => by
    rcases keyIs_shape h with ⟨i, t, rfl, rfl⟩ | ⟨x, t, rfl, rfl⟩ <;> rfl
  pyHash := fun hv h => by
    rcases keyIs_shape hv with ⟨i, t, rfl, rfl⟩ | ⟨x, t, rfl, rfl⟩
    · exact wpAny_pyHash_int h
    · exact wpAny_pyHash_str h
  eqBool := fun hu hv h => by
    rcases keyIs_shape hu with ⟨i, t, rfl, rfl⟩ | ⟨x, t, rfl, rfl⟩
    · rcases keyIs_shape hv with ⟨j, u, rfl, rfl⟩ | ⟨y, u, rfl, rfl⟩
      · rw [key_ll] at h; exact wpAny_eqBool_int h
      · rw [key_lr] at h; exact SeqAt.EqAt.int_str i t y u _ _ _ _ h
    · rcases keyIs_shape hv with ⟨j, u, rfl, rfl⟩ | ⟨y, u, rfl, rfl⟩
      · rw [key_rl] at h; exact SeqAt.EqAt.str_int x t j u _ _ _ _ h
      · rw [key_rr] at h; exact wpAny_eqBool_str h
  «strs» := fun k x t v h => by
    rcases keyIs_shape h with ⟨i, u, rfl, e⟩ | ⟨y, u, rfl, e⟩
    · exact nomatch e
    · injection e with e1 _
      subst e1
      cases v <;> rfl

theorem mixKind_int (prog : Program) (w : World) (i : Int) (t : Tok) : (mixKind prog w).is (.inl i) (.int i t) = true := keyIs_int i t
theorem mixKind_str (prog : Program) (w : World) (x : Str) (t : Tok) : (mixKind prog w).is (.inr x) (.str x t) = true := keyIs_str x t
end L2

namespace L2
open PySem PySem.Spec PyProof.Rows

inductive V where
  | non | bl (b : Bool) | int (i : Int) | str (x : Str) | byt (b : Array UInt8) | flt (b : UInt64) | ref (a : Addr) | ty (n : String)
  deriving DecidableEq

def RelV : V → Value → Prop
  | .non, u => u = Value.none
  | .bl b, u => u = Value.bool b
  | .int i, u => ∃ t, u = Value.int i t
  | .str x, u => ∃ t, u = Value.str x t
  | .byt b, u => ∃ t, u = Value.bytes b t
  | .flt b, u => ∃ t, u = Value.float b t
  | .ref a, u => u = Value.ref a
  | .ty n, u => u = Value.type n

abbrev Vals : List V → List Value → Prop := Paired RelV
theorem Vals.length {xs : List V} {us : List Value} (r : Vals xs us) : xs.length = us.length := Paired.length r
theorem Vals.get : ∀ {xs : List V} {us : List Value} {i : Nat} {x : V}, Vals xs us → xs[i]? = some x → ∃ u, us[i]? = some u ∧ RelV x u
  | _, _, _, _, .nil, e => by simp at e
  | _, _, 0, _, .cons r _, e => by simp at e; subst e; exact ⟨_, rfl, r⟩
  | _, _, i + 1, x, .cons _ t, e => by
    obtain ⟨u, h1, h2⟩ := Vals.get (i := i) (x := x) t (by simpa using e)
    exact ⟨u, by simpa using h1, h2⟩
theorem Vals.set {x : V} {u : Value} (r : RelV x u) : ∀ {xs : List V} {us : List Value} (i : Nat), Vals xs us → Vals (xs.set i x) (us.set i u)
  | _, _, _, .nil => .nil
  | _, _, 0, .cons _ t => .cons r t
  | _, _, i + 1, .cons q t => .cons q (Vals.set r i t)
theorem Vals.append : ∀ {xs ys : List V} {us ws : List Value}, Vals xs us → Vals ys ws → Vals (xs ++ ys) (us ++ ws)
  | _, _, _, _, .nil, s => s
  | _, _, _, _, .cons r t, s => .cons r (Vals.append t s)
theorem Vals.take : ∀ {xs : List V} {us : List Value} (n : Nat), Vals xs us → Vals (xs.take n) (us.take n)
  | _, _, 0, _ => .nil
  | _, _, _ + 1, .nil => .nil
  | _, _, n + 1, .cons r t => .cons r (Vals.take n t)
theorem Vals.drop : ∀ {xs : List V} {us : List Value} (n : Nat), Vals xs us → Vals (xs.drop n) (us.drop n)
  | _, _, 0, r => r
  | _, _, _ + 1, .nil => .nil
  | _, _, n + 1, .cons _ t => Vals.drop n t
def RelO : Option V → Option Value → Prop
  | some v, some u => RelV v u
  | none, none => True
  | _, _ => False
def KV {κ : Type} : List (κ × V) → List (κ × Value) → Prop := Paired fun (p : κ × V) (q : κ × Value) => p.1 = q.1 ∧ RelV p.2 q.2

def kV : Key → V
  | .inl i => .int i
  | .inr x => .str x

inductive HO where
  /-- a list -/
  | lst (xs : List V)
  /-- a tuple (never changes) -/
  | tup (xs : List V)
  /-- a dict whose keys are ints and texts; one whose keys are tuples of ints and texts (the empty one is both) -/
  | dK (kvs : List (Key × V)) | dT (kvs : List (List Key × V))
  /-- a set of ints: its members, its size -/
  | set (S : Int → Bool) (n : Nat)
  /-- an instance of the class at C, its dict at dx, its attributes -/
  | ins (C dx : Addr) (fs : List (Str × V))
  /-- the dict of the instance at x -/
  | own (x : Addr)
  /-- the dict of an exception -/
  | xd (fs : List (Str × V))
  /-- a bound method, f of x -/
  | met (f x : Addr)
  /-- a range object lo, lo + 1, .. below hi -/
  | rng (lo hi : Int)
  /-- a thing that is known to the object (the script; a dict while a loop walks it): read, never written while it is so -/
  | frz (o : Obj) (u : HO)
  /-- a code object's table -/
  | tbl (ps : Array Value)
  /-- any other thing, by what is true of its one object (a def of one's own: SetO a S n := HO.ext fun h => ..) -/
  | ext (φ : Heap → Prop)

abbrev Hp := Addr → Option HO
def upd (H : Hp) (a : Addr) (o : HO) : Hp := fun b => if b = a then some o else H b
theorem upd_same {H : Hp} {a : Addr} {o : HO} : upd H a o a = some o := by unfold upd; rw [if_pos rfl]
theorem upd_ne {H : Hp} {a b : Addr} {o : HO} (h : b ≠ a) : upd H a o b = H b := by unfold upd; rw [if_neg h]
theorem ne_of {H : Hp} {a b : Addr} {o u : HO} (h : H a = some o) (h' : H b = some u) (d : o ≠ u) : a ≠ b := by
  intro e; subst e; rw [h] at h'; exact d (Option.some.inj h')
theorem ne_of_none {H : Hp} {a b : Addr} {o : HO} (h : H a = some o) (h' : H b = none) : a ≠ b := by
  intro e; subst e; rw [h] at h'; cases h'

section
variable (P : Program) (w : World)
def NoD (h : Heap) (a : Addr) : Prop := ∃ o, h.get? a = some o ∧ o.dict = none
def ObjOk (H : Hp) (h : Heap) (a : Addr) : HO → Prop
  | .lst xs => xs.length ≤ sizeLine ∧ ∃ (its : List Value) (n : Nat), Vals xs its ∧ h.get? a = some { cls := .type "list", data := .seq its.toArray n }
  | .tup xs => xs.length ≤ sizeLine ∧ ∃ its : List Value, Vals xs its ∧ IsTup h a its.toArray ∧ NoD h a
  | .dK kvs => kvs.length ≤ sizeLine ∧ (a == sysModules) = false ∧ ∃ vs, KV kvs vs ∧ h.DictOf (mixKind P w) a vs
  | .dT kvs => kvs.length ≤ sizeLine ∧ (a == sysModules) = false ∧ ∃ xs : List (List Key × Addr × Value),
      Paired (fun (p : List Key × V) (q : List Key × Addr × Value) => p.1 = q.1 ∧ H q.2.1 = some (.tup (p.1.map kV)) ∧ RelV p.2 q.2.2) kvs xs ∧
      ∃ o es ep, h.get? a = some o ∧ o.ExactDict ∧ o.data = .dict es ep ∧ es.toList = xs.map (entryOfKey (tupleKind (mixKind P w))) ∧ (xs.map (·.1)).Nodup
  | .set S n => h.SetOf (intKind P w) a S n
  | .ins C dx fs => H dx = some (.own a) ∧ fs.length ≤ 1000 ∧ dx ≠ a ∧ h.get? a = some (PySem.W.instObj C dx) ∧
      ∃ mA, h.Ns1 dx mA ∧ (∀ f, RelO (fs.lookup f) (mA f)) ∧ PySem.Within mA (fs.map (·.1))
  | .own _ => ∃ o, h.get? a = some o
  | .xd fs => ∃ mA, h.Ns1 a mA ∧ ∀ f, RelO (fs.lookup f) (mA f)
  | .rng lo hi => ∃ t u v, h.get? a = some { cls := .type "range", data := .fields #[.int lo t, .int hi u, .int 1 v] }
  | .frz o u => h.get? a = some o ∧ ObjOk H h a u
  | .tbl ps => h.get? a = some { cls := .none, data := .fields ps }
  | .met f x => h.get? a = some (PySem.W.methodObj (.ref f) (.ref x))
  | .ext φ => φ h ∧ (∃ o, h.get? a = some o) ∧ ∀ h1 h2 : Heap, φ h1 → (∀ o, h1.get? a = some o → h2.get? a = some o) → φ h2
def HOk (H : Hp) (h : Heap) : Prop := ∀ a o, H a = some o → ObjOk P w H h a o
end

section
variable {P : Program} {w : World} {H H' : Hp} {h h' : Heap} {a : Addr} {o : HO}
theorem ObjOk.lt (x : ObjOk P w H h a o) : a < h.objs.size := by
  cases o with
  | lst xs => obtain ⟨_, _, _, _, e⟩ := x; exact Heap.lt_size e
  | tup xs => obtain ⟨_, _, _, p, _⟩ := x; exact p.lt
  | dK kvs => obtain ⟨_, _, _, _, o, _, _, e, _⟩ := x; exact Heap.lt_size e
  | dT kvs => obtain ⟨_, _, _, _, o, _, _, e, _⟩ := x; exact Heap.lt_size e
  | set S n => obtain ⟨o, _, _, _, e, _⟩ := x; exact Heap.lt_size e
  | ins C dx fs => obtain ⟨_, _, _, e, _⟩ := x; exact Heap.lt_size e
  | own y => obtain ⟨_, e⟩ := x; exact Heap.lt_size e
  | xd fs => obtain ⟨_, ⟨_, _, _, e, _⟩, _⟩ := x; exact Heap.lt_size e
  | rng lo hi => obtain ⟨_, _, _, e⟩ := x; exact Heap.lt_size e
  | frz ob u => obtain ⟨e, _⟩ := x; exact Heap.lt_size e
  | tbl ps => exact Heap.lt_size (show h.get? a = some _ from x)
  | met f y => exact Heap.lt_size (show h.get? a = some _ from x)
  | ext φ => obtain ⟨_, ⟨_, e⟩, _⟩ := x; exact Heap.lt_size e
theorem Paired.mapP {α β : Type} {F G : α → β → Prop} : ∀ {l₁ : List α} {l₂ : List β}, Paired F l₁ l₂ → (∀ a b, F a b → G a b) → Paired G l₁ l₂
  | _, _, .nil, _ => .nil
  | _, _, .cons r t, f => .cons (f _ _ r) (Paired.mapP t f)
theorem ObjOk.stay (x : ObjOk P w H h a o) (k : ∀ b u, (b = a ∨ H b = some (.own a)) → h.get? b = some u → h'.get? b = some u)
    (ho : ∀ b, H b = some (.own a) → H' b = some (.own a)) (ht : ∀ b xs, H b = some (.tup xs) → H' b = some (.tup xs)) : ObjOk P w H' h' a o := by
  induction o with
  | lst xs => obtain ⟨z, its, n, r, e⟩ := x; exact ⟨z, its, n, r, k _ _ (.inl rfl) e⟩
  | tup xs => obtain ⟨z, its, r, ⟨ob, e, c⟩, o2, e2, d2⟩ := x; exact ⟨z, its, r, ⟨ob, k _ _ (.inl rfl) e, c⟩, o2, k _ _ (.inl rfl) e2, d2⟩
  | dK kvs => obtain ⟨z, y, vs, r, ob, es, ep, e, c⟩ := x; exact ⟨z, y, vs, r, ob, es, ep, k _ _ (.inl rfl) e, c⟩
  | dT kvs =>
    obtain ⟨z, y, xs, r, ob, es, ep, e, c⟩ := x
    exact ⟨z, y, xs, Paired.mapP r fun p q z => ⟨z.1, ht _ _ z.2.1, z.2.2⟩, ob, es, ep, k _ _ (.inl rfl) e, c⟩
  | set S n => obtain ⟨ob, es, ep, t, e, c⟩ := x; exact ⟨ob, es, ep, t, k _ _ (.inl rfl) e, c⟩
  | ins C dx fs =>
    obtain ⟨d, z, ne, e, mA, ⟨od, es, ep, e2, c⟩, r⟩ := x
    exact ⟨ho _ d, z, ne, k _ _ (.inl rfl) e, mA, ⟨od, es, ep, k _ _ (.inr d) e2, c⟩, r⟩
  | own y => obtain ⟨ob, e⟩ := x; exact ⟨ob, k _ _ (.inl rfl) e⟩
  | xd fs => obtain ⟨mA, ⟨od, es, ep, e, c⟩, r⟩ := x; exact ⟨mA, ⟨od, es, ep, k _ _ (.inl rfl) e, c⟩, r⟩
  | rng lo hi => obtain ⟨t, u, v, e⟩ := x; exact ⟨t, u, v, k _ _ (.inl rfl) e⟩
  | frz ob u ih => obtain ⟨e, q⟩ := x; exact ⟨k _ _ (.inl rfl) e, ih q⟩
  | tbl ps =>
    have e : h.get? a = some { cls := .none, data := .fields ps } := x
    show h'.get? a = some { cls := .none, data := .fields ps }
    exact k a _ (.inl rfl) e
  | met f y =>
    have e : h.get? a = some (PySem.W.methodObj (.ref f) (.ref y)) := x
    show h'.get? a = some (PySem.W.methodObj (.ref f) (.ref y))
    exact k a _ (.inl rfl) e
  | ext φ => obtain ⟨p, ⟨o, e⟩, st⟩ := x; exact ⟨st _ _ p fun o q => k _ _ (.inl rfl) q, ⟨o, k _ _ (.inl rfl) e⟩, st⟩
theorem HOk.lt (x : HOk P w H h) (e : H a = some o) : a < h.objs.size := (x a o e).lt
theorem HOk.fresh (x : HOk P w H h) (e : h.objs.size ≤ a) : H a = none := by
  cases q : H a with
  | none => rfl
  | some u => exact absurd (Nat.lt_of_lt_of_le (x.lt q) e) (Nat.lt_irrefl _)
theorem HOk.kept (x : HOk P w H h) (k : ∀ b u, h.get? b = some u → h'.get? b = some u) : HOk P w H h' := fun a o e =>
  (x a o e).stay (fun b u _ q => k b u q) (fun _ q => q) fun _ _ q => q
theorem HOk.laid (x : HOk P w H h) (k : ∀ b u, h.get? b = some u → h'.get? b = some u) (hp : h.objs.size ≤ a) (new : ObjOk P w (upd H a o) h' a o) : HOk P w (upd H a o) h' := fun b u e => by
  have hn := x.fresh hp
  by_cases hb : b = a
  · subst hb; rw [upd_same] at e; cases e; exact new
  · rw [upd_ne hb] at e
    exact (x b u e).stay (fun c v _ q => k c v q) (fun c q => by rw [upd_ne (ne_of_none q hn)]; exact q) fun c xs q => by rw [upd_ne (ne_of_none q hn)]; exact q
end

def Rd (H : Hp) (a : Addr) (u : HO) : Prop := H a = some u ∨ ∃ o, H a = some (.frz o u)
theorem Rd.of {H : Hp} {a : Addr} {u : HO} (h : H a = some u) : Rd H a u := .inl h
theorem Rd.ok {P : Program} {w : World} {H : Hp} {h : Heap} {a : Addr} {u : HO} (r : Rd H a u) (x : HOk P w H h) : ObjOk P w H h a u := by
  rcases r with r | ⟨o, r⟩
  · exact x a u r
  · obtain ⟨_, q⟩ := x a _ r
    exact q
def Mut : Option HO → Prop
  | some (.lst _) => True
  | some (.dK _) => True
  | some (.dT _) => True
  | some (.set _ _) => True
  | some (.ins _ _ _) => True
  | some (.ext _) => True
  | _ => False
section
variable {P : Program} {w : World} {H : Hp} {h h' : Heap} {x e : Addr} {o' : HO}
theorem HOk.write (ok : HOk P w H h) (mu : Mut (H x)) (he : e = x ∨ H e = some (.own x)) (k : ∀ b u, b ≠ e → h.get? b = some u → h'.get? b = some u) (heo : ∃ u, h'.get? e = some u)
    (new : ObjOk P w (upd H x o') h' x o') : HOk P w (upd H x o') h' := fun b u q => by
  have nown : ∀ c y, H c = some (.own y) → c ≠ x := fun c y r z => by subst z; rw [r] at mu; exact mu
  have ntup : ∀ c xs, H c = some (.tup xs) → c ≠ x := fun c xs r z => by subst z; rw [r] at mu; exact mu
  by_cases hb : b = x
  · subst hb; rw [upd_same] at q; cases q; exact new
  · rw [upd_ne hb] at q
    by_cases hbe : b = e
    · have q' : H b = some (.own x) := by
        rcases he with z | z
        · exact absurd (hbe.trans z) hb
        · rw [hbe]; exact z
      rw [q] at q'; cases q'
      obtain ⟨v, hv⟩ := heo
      exact ⟨v, by rw [hbe]; exact hv⟩
    · refine (ok b u q).stay (fun c v hc r => k c v ?_ r) (fun c r => by rw [upd_ne (nown c b r)]; exact r) fun c xs r => by rw [upd_ne (ntup c xs r)]; exact r
      rcases hc with rfl | hc
      · exact hbe
      · rintro rfl
        rcases he with z | z
        · exact nown c b hc z
        · rw [hc] at z; cases z; exact hb rfl
end

structure Un (fs ex : List Addr) (H H' : Hp) (h h' : Heap) : Prop where
  keep : ∀ b o, h.get? b = some o → H b = none → b ∉ fs → b ∉ ex → h'.get? b = some o
  slot : ∀ b o, h.get? b = some o → H b = none → b ∈ fs → b ∉ ex → ∃ sl, h'.get? b = some { o with slots := sl }
  free : ∀ b o, h.get? b = some o → H b = none → b ∉ ex → H' b = none
  there : ∀ b o, h.get? b = some o → b ∉ ex → ∃ o', h'.get? b = some o'
  tups : ∀ b xs, H b = some (.tup xs) → H' b = some (.tup xs)
  frzs : ∀ b o u, H b = some (.frz o u) → H' b = some (.frz o u)
  tbls : ∀ b ps, H b = some (.tbl ps) → ∃ more, H' b = some (.tbl (ps ++ more))
section
variable {fs fs' ex ex' : List Addr} {H H1 H2 : Hp} {h h1 h2 h' : Heap} {a x e : Addr} {o : HO}
theorem Un.any (u : Un fs ex H H1 h h1) {b : Addr} {ob : Obj} (q : h.get? b = some ob) (n : H b = none) (hx : b ∉ ex) : ∃ sl, h1.get? b = some { ob with slots := sl } := by
  by_cases hb : b ∈ fs
  · exact u.slot b ob q n hb hx
  · exact ⟨ob.slots, u.keep b ob q n hb hx⟩
theorem Un.trans (a : Un fs ex H H1 h h1) (b : Un fs ex H1 H2 h1 h2) : Un fs ex H H2 h h2 where
  keep := fun c ob q n hc hx => b.keep c ob (a.keep c ob q n hc hx) (a.free c ob q n hx) hc hx
  slot := fun c ob q n hc hx => by
    obtain ⟨sl, e1⟩ := a.slot c ob q n hc hx
    obtain ⟨sl', e2⟩ := b.slot c _ e1 (a.free c ob q n hx) hc hx
    exact ⟨sl', e2⟩
  free := fun c ob q n hx => by
    obtain ⟨o', e1⟩ := a.there c ob q hx
    exact b.free c o' e1 (a.free c ob q n hx) hx
  there := fun c ob q hx => by
    obtain ⟨o', e1⟩ := a.there c ob q hx
    exact b.there c o' e1 hx
  tups := fun c xs q => b.tups c xs (a.tups c xs q)
  frzs := fun c ob xs q => b.frzs c ob xs (a.frzs c ob xs q)
  tbls := fun c ps q => by
    obtain ⟨m1, e1⟩ := a.tbls c ps q
    obtain ⟨m2, e2⟩ := b.tbls c _ e1
    exact ⟨m1 ++ m2, by rw [e2, Array.append_assoc]⟩
theorem Un.kept (k : ∀ b u, h.get? b = some u → h'.get? b = some u) : Un fs ex H H h h' :=
  ⟨fun b ob q _ _ _ => k b ob q, fun b ob q _ _ _ => ⟨ob.slots, k b ob q⟩, fun _ _ _ n _ => n, fun b ob q _ => ⟨ob, k b ob q⟩, fun _ _ q => q, fun _ _ _ q => q, fun _ ps q => ⟨#[], by rw [q]; simp⟩⟩
theorem Un.refl : Un fs ex H H h h := Un.kept fun _ _ q => q
theorem Un.laid (k : ∀ b u, h.get? b = some u → h'.get? b = some u) (hp : h.objs.size ≤ a) (hn : H a = none) : Un fs ex H (upd H a o) h h' where
  keep := fun b u q _ _ _ => k b u q
  slot := fun b u q _ _ _ => ⟨u.slots, k b u q⟩
  free := fun b u q n _ => by rw [upd_ne (Nat.ne_of_lt (Nat.lt_of_lt_of_le (Heap.lt_size q) hp))]; exact n
  there := fun b u q _ => ⟨u, k b u q⟩
  tups := fun b xs q => by rw [upd_ne (ne_of_none q hn)]; exact q
  frzs := fun b u xs q => by rw [upd_ne (ne_of_none q hn)]; exact q
  tbls := fun b ps q => ⟨#[], by rw [upd_ne (ne_of_none q hn), q]; simp⟩
theorem Un.write (mu : Mut (H x)) (he : e = x ∨ H e = some (.own x)) (k : ∀ b u, b ≠ e → h.get? b = some u → h'.get? b = some u) (heo : ∃ u, h'.get? e = some u) : Un fs ex H (upd H x o) h h' := by
  have hx : ∀ b, H b = none → b ≠ x := fun b n z => by subst z; rw [n] at mu; exact mu
  have hb : ∀ b, H b = none → b ≠ e := fun b n z => by
    subst z
    rcases he with r | r
    · exact hx b n r
    · rw [n] at r; cases r
  have hm : ∀ b u, H b = some u → ¬ Mut (some u) → b ≠ x := fun b u q nm z => by subst z; rw [q] at mu; exact nm mu
  refine ⟨fun b u q n _ _ => k b u (hb b n) q, fun b u q n _ _ => ⟨u.slots, k b u (hb b n) q⟩, fun b u q n _ => by rw [upd_ne (hx b n)]; exact n, fun b u q _ => ?_,
    fun b xs q => by rw [upd_ne (hm b _ q fun z => z)]; exact q, fun b u xs q => by rw [upd_ne (hm b _ q fun z => z)]; exact q, fun b ps q => ⟨#[], by rw [upd_ne (hm b _ q fun z => z), q]; simp⟩⟩
  by_cases hbe : b = e
  · subst hbe; exact heo
  · exact ⟨u, k b u hbe q⟩
theorem Un.mono (u : Un fs ex H H1 h h1) (hs : ∀ b ∈ fs, b ∈ fs') (hx : ∀ b ∈ ex, b ∈ ex') : Un fs' ex' H H1 h h1 :=
  ⟨fun b ob q n hb he => u.keep b ob q n (fun z => hb (hs b z)) fun z => he (hx b z), fun _ _ q n _ he => u.any q n fun z => he (hx _ z), fun b ob q n he => u.free b ob q n fun z => he (hx b z), fun b ob q he => u.there b ob q fun z => he (hx b z), u.tups, u.frzs, u.tbls⟩
end

def trk (h : Heap) (H : Hp) : List Addr := (List.range h.objs.size).filter fun a => (H a).isSome
def hidT (h : Heap) (H : Hp) : Heap := PySem.W.hideAll h (trk h H)
theorem hidT_size (h : Heap) (H : Hp) : (hidT h H).objs.size = h.objs.size := PySem.W.hideAll_size _ _
theorem hidT_get {h : Heap} {H : Hp} {b : Addr} {o : Obj} (e : h.get? b = some o) (n : H b = none) : (hidT h H).get? b = some o :=
  PySem.W.hideAll_get _ e fun hm => by
    have q : (H b).isSome = true := (List.mem_filter.mp hm).2
    rw [n] at q; simp at q
theorem of_hidT {h : Heap} {H : Hp} {b : Addr} {o : Obj} (e : (hidT h H).get? b = some o) : h.get? b = some o ∧ H b = none := by
  have e' : h.get? b = some o := PySem.W.of_hideAll (trk h H) e
  refine ⟨e', ?_⟩
  cases q : H b with
  | none => rfl
  | some x =>
    have hm : b ∈ trk h H := List.mem_filter.mpr ⟨List.mem_range.mpr (Heap.lt_size e'), by simp [q]⟩
    have z : (hidT h H).get? b = none := PySem.W.hideAll_none (trk h H) hm
    rw [z] at e; cases e

def allNews (g h : Heap) (L : Addr) : List (Addr × Obj) := (List.range h.objs.size).filterMap fun a => if a = L ∨ (g.get? a).isSome = true then none else (h.get? a).map fun o => (a, o)
def rest (g h : Heap) (L d : Addr) : List (Addr × Obj) := (allNews g h L).filter fun p => decide (p.1 ≠ d)
end L2

namespace L2
open PySem PySem.Spec PyProof.Rows

structure Mod (K : PySem.W.Frag) (mg : Str → Option Value) (base : Heap) : Prop where
  kin : K.In base
  glob : base.Ns mainGlobals mg
  blt : ∃ mb, base.Ns builtinsNs mb ∧ ∀ x : Str, x ≠ "__name__" → mb x = bootBuiltins x
  nolimit : base.NoLimit

structure Cx where
  prog : Program
  w : World
  K : PySem.W.Frag
  mg : Str → Option Value
  base : Heap
  A : Around
  N : List Str
  s₀ : Shared
  H₀ : Hp
  env : Env
  outer : List Env
  stack : List Env
  ex : List Addr
  fn : Str → Bool
  calm : Bool
  pn : List (Addr × Obj)
  xe : Value → Shared → Prop
def frs (l : List Env) : List Addr := l.filterMap (·.frame)
abbrev Cx.fs (X : Cx) : List Addr := frs X.outer

def Vis (sc : Scope) (x : Str) : Prop := sc.names.lookup x = some .local ∨ sc.names.lookup x = some .cell ∨ sc.names.lookup x = some .free
def Loc (sc : Scope) (x : Str) : Prop := sc.names.lookup x = some .local ∨ sc.names.lookup x = some .cell
def Look (env : Env) (h : Heap) (m : Str → Option Value) (x : Str) (u : Value) : Prop :=
  (env.kindOf x = some .local ∧ m x = some u) ∨ ((env.kindOf x = some .cell ∨ env.kindOf x = some .free) ∧ ∃ c, env.cells.lookup x = some c ∧ h.IsCell c (some u))

structure Cx.Ok (X : Cx) : Prop where
  mod : Mod X.K X.mg X.base
  kind : X.env.scope.kind = .function
  glob : X.env.globals = mainGlobals
  blt : X.env.builtins = builtinsNs
  above : X.s₀.heap.objs.size ≤ X.env.locals
  inj : ∀ x y c, X.env.cells.lookup x = some c → X.env.cells.lookup y = some c → x = y
  has : ∀ x, (X.env.kindOf x = some .cell ∨ X.env.kindOf x = some .free) → ∃ c, X.env.cells.lookup x = some c
  cab : ∀ x c, X.fn x = true → X.env.cells.lookup x = some c → X.s₀.heap.objs.size ≤ c
  hd : X.calm = true → X.A.handled = none
  frames : X.A.frames = some X.stack
  stk : X.stack = X.outer ∨ (X.stack = X.env :: X.outer ∧ X.env.frame = some X.env.locals)
  exf : ∀ b ∈ X.ex, b ≠ X.env.locals ∧ ∀ x c, X.env.cells.lookup x = some c → c ≠ b
  bs : ∀ b o, X.base.get? b = some o → X.s₀.heap.get? b = some o ∧ X.H₀ b = none
  bsz : X.base.objs.size ≤ X.s₀.heap.objs.size
  noex : ∀ b o, X.base.get? b = some o → b ∉ X.ex
  exfs : ∀ b ∈ X.ex, b ∉ X.fs
  funs : X.s₀.heap.FunFrames X.base X.outer
  frf : ∀ b ∈ X.fs, X.H₀ b = none

structure Inv (X : Cx) (pins : List (Addr × Obj)) (σ : List (Option V)) (H : Hp) (s : Shared) : Prop where
  ok : X.Ok
  os : s.os = X.s₀.os
  bare : AllBare s.gens
  base : Un X.fs X.ex X.H₀ H X.s₀.heap s.heap
  loc : ∃ m, s.heap.Ns X.env.locals m ∧ ∀ (i : Nat) (x : Str) (v : V), X.N[i]? = some x → σ[i]? = some (some v) → Vis X.env.scope x → ∃ u, RelV v u ∧ Look X.env s.heap m x u
  cell : ∀ x c, X.env.cells.lookup x = some c → ∃ v, s.heap.IsCell c v
  free : H X.env.locals = none
  freeC : ∀ x c, X.env.cells.lookup x = some c → H c = none
  pin : ∀ p ∈ X.pn ++ pins, s.heap.get? p.1 = some p.2 ∧ H p.1 = none ∧ p.1 ≠ X.env.locals ∧ p.1 ∉ X.fs ∧ ∀ v, p.2.data ≠ .cell v
  hok : HOk X.prog X.w H s.heap
  len : σ.length = X.N.length

section
variable {X : Cx} {pins : List (Addr × Obj)} {σ : List (Option V)} {H H' : Hp} {s : Shared} {h' : Heap}

theorem Cx.Ok.nofr (ok : X.Ok) {b : Addr} {o : Obj} (e : X.base.get? b = some o) : b ∉ X.fs := fun hb => by
  have := (ok.funs.mem hb).1
  rw [e] at this; cases this
theorem Inv.bs (I : Inv X pins σ H s) : ∀ b o, X.base.get? b = some o → s.heap.get? b = some o ∧ H b = none := fun b o e =>
  ⟨I.base.keep b o (I.ok.bs b o e).1 (I.ok.bs b o e).2 (I.ok.nofr e) (I.ok.noex b o e), I.base.free b o (I.ok.bs b o e).1 (I.ok.bs b o e).2 (I.ok.noex b o e)⟩
theorem Inv.bk (I : Inv X pins σ H s) : ∀ b o, X.base.get? b = some o → s.heap.get? b = some o := fun b o e => (I.bs b o e).1
theorem Inv.mod (I : Inv X pins σ H s) : Mod X.K X.mg X.base := I.ok.mod
theorem Inv.kIn (I : Inv X pins σ H s) : X.K.In s.heap := I.ok.mod.kin.keeps I.bk
theorem Inv.nolimit (I : Inv X pins σ H s) : s.heap.NoLimit := I.ok.mod.nolimit.keeps I.bk
theorem Inv.fr (I : Inv X pins σ H s) : ∃ m, Fr X.base X.env.locals s.heap m :=
  let ⟨m, hn, _⟩ := I.loc
  ⟨m, hn, I.bk, Nat.le_trans I.ok.bsz I.ok.above⟩
theorem Inv.lt (I : Inv X pins σ H s) : X.env.locals < s.heap.objs.size := let ⟨_, hn, _⟩ := I.loc; hn.lt
theorem Inv.sz (I : Inv X pins σ H s) : X.s₀.heap.objs.size ≤ s.heap.objs.size := Nat.le_trans I.ok.above (Nat.le_of_lt I.lt)
theorem Inv.nofs (I : Inv X pins σ H s) {a : Addr} (h : s.heap.objs.size ≤ a) : a ∉ X.fs := fun hb => by
  obtain ⟨_, o, ho, _⟩ := I.ok.funs.mem hb
  exact absurd (Nat.lt_of_lt_of_le (Heap.lt_size ho) (Nat.le_trans I.sz h)) (Nat.lt_irrefl _)
theorem Inv.cne (I : Inv X pins σ H s) : ∀ x c, X.env.cells.lookup x = some c → c ≠ X.env.locals := fun x c e z => by
  obtain ⟨v, o, ho, hd⟩ := I.cell x c e
  obtain ⟨m, ⟨o', es, ep, ho', hd', _⟩, _⟩ := I.loc
  rw [z, ho'] at ho; cases ho; rw [hd'] at hd; cases hd
theorem Inv.funs (I : Inv X pins σ H s) : s.heap.FunFrames X.base X.outer := by
  have all : ∀ (l : List Env), (∀ b ∈ frs l, b ∈ X.fs) → X.s₀.heap.FunFrames X.base l → s.heap.FunFrames X.base l := by
    intro l
    induction l with
    | nil => intro _ _; trivial
    | cons env r ih =>
      intro hs hl
      obtain ⟨hk, ⟨L, o, hf, hn, ho, hd⟩, hr⟩ := hl
      have hL : L ∈ X.fs := hs L (by unfold frs; rw [List.filterMap_cons, hf]; exact List.mem_cons_self)
      obtain ⟨sl, e⟩ := I.base.slot L o ho (I.ok.frf L hL) hL fun z => I.ok.exfs L z hL
      exact ⟨hk, ⟨L, _, hf, hn, e, hd⟩, ih (fun b hb => hs b (by unfold frs; rw [List.filterMap_cons, hf]; exact List.mem_cons_of_mem _ hb)) hr⟩
  exact all X.outer (fun _ hb => hb) I.ok.funs

theorem Inv.stack (I : Inv X pins σ H s) : s.heap.FunFrames X.base X.stack := by
  rcases I.ok.stk with e | ⟨e, hf⟩
  · rw [e]; exact I.funs
  · rw [e]
    obtain ⟨m, hn, _⟩ := I.loc
    refine .cons (by rw [I.ok.kind]; decide) hf hn ?_ I.funs
    exact Heap.get?_none_of_le (Nat.le_trans I.ok.bsz I.ok.above)
theorem Inv.stkSub (I : Inv X pins σ H s) : ∀ b ∈ frs X.stack, b ∈ X.env.locals :: X.fs := fun b hb => by
  rcases I.ok.stk with e | ⟨e, hf⟩
  · rw [e] at hb; exact List.mem_cons_of_mem _ hb
  · rw [e] at hb
    unfold frs at hb
    rw [List.filterMap_cons, hf] at hb
    exact hb
theorem Inv.stkFree (I : Inv X pins σ H s) : ∀ b ∈ frs X.stack, H b = none := fun b hb => by
  rcases List.mem_cons.mp (I.stkSub b hb) with e | hb
  · rw [e]; exact I.free
  · obtain ⟨_, o, ho, _⟩ := I.ok.funs.mem hb
    exact I.base.free b o ho (I.ok.frf b hb) fun z => I.ok.exfs b z hb

theorem Inv.step {g' : Array GenState} {t' : Nat} {d' : Drawn} {ch : List Addr} (I : Inv X pins σ H s)
    (hch : ∀ b ∈ ch, (b ∈ X.ex ∨ X.s₀.heap.objs.size ≤ b) ∧ b ≠ X.env.locals ∧ (∀ x c, X.env.cells.lookup x = some c → c ≠ b) ∧ ∀ p ∈ X.pn ++ pins, p.1 ≠ b)
    (keep : ∀ b o, b ≠ X.env.locals → b ∉ X.fs → b ∉ ch → s.heap.get? b = some o → H b = none → h'.get? b = some o)
    (slot : ∀ b o, b ≠ X.env.locals → b ∈ X.fs → b ∉ ch → s.heap.get? b = some o → H b = none → ∃ sl, h'.get? b = some { o with slots := sl }) (free : ∀ b o, b ∉ ch → s.heap.get? b = some o → H b = none → H' b = none)
    (there : ∀ b o, b ∉ ch → s.heap.get? b = some o → ∃ o', h'.get? b = some o')
    (tups : ∀ b xs, H b = some (.tup xs) → H' b = some (.tup xs)) (frzs : ∀ b o u, H b = some (.frz o u) → H' b = some (.frz o u)) (tbls : ∀ b ps, H b = some (.tbl ps) → ∃ more, H' b = some (.tbl (ps ++ more)))
    (ns : ∀ m, s.heap.Ns X.env.locals m → h'.Ns X.env.locals m) (hok : HOk X.prog X.w H' h') (hg : AllBare g') :
    Inv X pins σ H' { s with heap := h', gens := g', drawn := d', toks := t' } := by
  have neL : ∀ b o, X.s₀.heap.get? b = some o → b ≠ X.env.locals := fun b o e => Nat.ne_of_lt (Nat.lt_of_lt_of_le (Heap.lt_size e) I.ok.above)
  have neC : ∀ b o, X.s₀.heap.get? b = some o → b ∉ X.ex → b ∉ ch := fun b o e hx hb => by
    rcases (hch b hb).1 with z | z
    · exact hx z
    · exact absurd (Nat.lt_of_lt_of_le (Heap.lt_size e) z) (Nat.lt_irrefl _)
  have cellK : ∀ x c, X.env.cells.lookup x = some c → ∀ v, s.heap.IsCell c v → h'.IsCell c v := fun x c e v ⟨o, ho, hd⟩ => by
    have nch : c ∉ ch := fun z => (hch c z).2.2.1 x c e rfl
    by_cases hc : c ∈ X.fs
    · obtain ⟨sl, q⟩ := slot c o (I.cne x c e) hc nch ho (I.freeC x c e)
      exact ⟨_, q, hd⟩
    · exact ⟨o, keep c o (I.cne x c e) hc nch ho (I.freeC x c e), hd⟩
  refine ⟨I.ok, I.os, hg, ⟨fun b o e n hb hx => ?_, fun b o e n hb hx => ?_, fun b o e n hx => ?_, fun b o e hx => ?_, fun b xs e => tups b xs (I.base.tups b xs e), fun b o xs e => frzs b o xs (I.base.frzs b o xs e), fun b ps e => ?_⟩, ?_, fun x c e => ?_, ?_, fun x c e => ?_, fun p hp => ?_, hok, I.len⟩
  · exact keep b o (neL b o e) hb (neC b o e hx) (I.base.keep b o e n hb hx) (I.base.free b o e n hx)
  · obtain ⟨sl, e1⟩ := I.base.slot b o e n hb hx
    obtain ⟨sl', e2⟩ := slot b _ (neL b o e) hb (neC b o e hx) e1 (I.base.free b o e n hx)
    exact ⟨sl', e2⟩
  · obtain ⟨o', e1⟩ := I.base.there b o e hx
    exact free b o' (neC b o e hx) e1 (I.base.free b o e n hx)
  · obtain ⟨o', e1⟩ := I.base.there b o e hx
    exact there b o' (neC b o e hx) e1
  · obtain ⟨m1, e1⟩ := I.base.tbls b ps e
    obtain ⟨m2, e2⟩ := tbls b _ e1
    exact ⟨m1 ++ m2, by rw [e2, Array.append_assoc]⟩
  · obtain ⟨m, hn, hl⟩ := I.loc
    refine ⟨m, ns m hn, fun i x v e1 e2 e3 => ?_⟩
    obtain ⟨u, r, l⟩ := hl i x v e1 e2 e3
    refine ⟨u, r, ?_⟩
    rcases l with l | ⟨k, c, e, z⟩
    · exact .inl l
    · exact .inr ⟨k, c, e, cellK x c e _ z⟩
  · obtain ⟨v, z⟩ := I.cell x c e
    exact ⟨v, cellK x c e v z⟩
  · obtain ⟨m, ⟨o, _, _, ho, _⟩, _⟩ := I.loc
    exact free _ o (fun z => (hch _ z).2.1 rfl) ho I.free
  · obtain ⟨v, o, ho, hd⟩ := I.cell x c e
    exact free c o (fun z => (hch c z).2.2.1 x c e rfl) ho (I.freeC x c e)
  · obtain ⟨e, n, ne, nf, d⟩ := I.pin p hp
    have nch : p.1 ∉ ch := fun z => (hch p.1 z).2.2.2 p hp rfl
    exact ⟨keep p.1 p.2 ne nf nch e n, free p.1 p.2 nch e n, ne, nf, d⟩
theorem Inv.un {t' : Nat} (I : Inv X pins σ H s) (u : Un X.fs [] H H' s.heap h') (hok : HOk X.prog X.w H' h') : Inv X pins σ H' { s with heap := h', toks := t' } := by
  obtain ⟨m, ⟨o, es, ep, ho, r⟩, _⟩ := id I.loc
  obtain ⟨sl, hL⟩ := u.any ho I.free (by simp)
  exact I.step (g' := s.gens) (d' := s.drawn) (ch := []) (fun _ z => nomatch z) (fun b o _ hb _ e n => u.keep b o e n hb (by simp)) (fun b o _ hb _ e n => u.slot b o e n hb (by simp)) (fun b o _ e n => u.free b o e n (by simp)) (fun b o _ e => u.there b o e (by simp)) u.tups u.frzs u.tbls (fun m' hm => by
    obtain ⟨o', es', ep', ho', r'⟩ := hm
    rw [ho] at ho'; cases ho'
    exact ⟨_, es', ep', hL, r'⟩) hok I.bare
theorem Inv.call {g' : Array GenState} {t' : Nat} {d' : Drawn} {ch : List Addr} (I : Inv X pins σ H s) (u : Un (frs X.stack) ch H H' s.heap h') (hok : HOk X.prog X.w H' h') (hg : AllBare g')
    (hch : ∀ b ∈ ch, (b ∈ X.ex ∨ X.s₀.heap.objs.size ≤ b) ∧ b ≠ X.env.locals ∧ (∀ x c, X.env.cells.lookup x = some c → c ≠ b) ∧ ∀ p ∈ X.pn ++ pins, p.1 ≠ b) :
    Inv X pins σ H' { s with heap := h', gens := g', drawn := d', toks := t' } := by
  obtain ⟨m, ⟨o, es, ep, ho, r⟩, _⟩ := id I.loc
  obtain ⟨sl, hL⟩ := u.any ho I.free fun z => (hch _ z).2.1 rfl
  exact I.step (ch := ch) hch (fun b o hL hb hc e n => u.keep b o e n (fun z => (List.mem_cons.mp (I.stkSub b z)).elim hL hb) hc) (fun b o _ _ hc e n => u.any e n hc) (fun b o hc e n => u.free b o e n hc) (fun b o hc e => u.there b o e hc) u.tups u.frzs u.tbls (fun m' hm => by
    obtain ⟨o', es', ep', ho', r'⟩ := hm
    rw [ho] at ho'; cases ho'
    exact ⟨_, es', ep', hL, r'⟩) hok hg
theorem Inv.turned {t' : Nat} {it : Addr} (I : Inv X pins σ H s) (k : ∀ b o, b ≠ it → s.heap.get? b = some o → h'.get? b = some o) (hn : H it = none) (hL : it ≠ X.env.locals)
    (h1 : it ∈ X.ex ∨ X.s₀.heap.objs.size ≤ it) (h2 : ∀ x c, X.env.cells.lookup x = some c → c ≠ it) (h3 : ∀ p ∈ X.pn ++ pins, p.1 ≠ it) : Inv X pins σ H { s with heap := h', toks := t' } := by
  have nit : ∀ b u, H b = some u → b ≠ it := fun b u e z => by rw [z, hn] at e; cases e
  refine I.step (g' := s.gens) (d' := s.drawn) (ch := [it]) (fun b hb => ?_) (fun b o _ _ hc e _ => k b o (fun z => hc (by simp [z])) e) (fun b o _ _ hc e _ => ⟨o.slots, k b o (fun z => hc (by simp [z])) e⟩) (fun _ _ _ _ n => n)
    (fun b o hc e => ⟨o, k b o (fun z => hc (by simp [z])) e⟩) (fun _ _ e => e) (fun _ _ _ e => e) (fun b ps e => ⟨#[], by rw [e]; simp⟩) (fun m hm => ?_) (fun b u e => ?_) I.bare
  · have e : b = it := by simpa using hb
    subst e
    exact ⟨h1, hL, h2, h3⟩
  · obtain ⟨o, es, ep, ho, r⟩ := hm
    exact ⟨o, es, ep, k _ o (Ne.symm hL) ho, r⟩
  · refine (I.hok b u e).stay (fun c v hc q => k c v ?_ q) (fun _ q => q) fun _ _ q => q
    rcases hc with z | z
    · rw [z]; exact nit b u e
    · exact nit c _ z
theorem Inv.tok (I : Inv X pins σ H s) (t : Nat) : Inv X pins σ H { s with toks := t } := I.un (h' := s.heap) (t' := t) Un.refl I.hok
theorem Inv.kept {t' : Nat} (I : Inv X pins σ H s) (k : ∀ b u, s.heap.get? b = some u → h'.get? b = some u) : Inv X pins σ H { s with heap := h', toks := t' } := I.un (Un.kept k) (I.hok.kept k)
theorem Inv.laid {a : Addr} {o : HO} {t' : Nat} (I : Inv X pins σ H s) (k : ∀ b u, s.heap.get? b = some u → h'.get? b = some u) (hp : s.heap.objs.size ≤ a) (new : ObjOk X.prog X.w (upd H a o) h' a o) :
    Inv X pins σ (upd H a o) { s with heap := h', toks := t' } := I.un (Un.laid k hp (I.hok.fresh hp)) (I.hok.laid k hp new)
theorem Inv.write {x e : Addr} {o : HO} {t' : Nat} (I : Inv X pins σ H s) (mu : Mut (H x)) (he : e = x ∨ H e = some (.own x)) (k : ∀ b u, b ≠ e → s.heap.get? b = some u → h'.get? b = some u) (heo : ∃ u, h'.get? e = some u)
    (new : ObjOk X.prog X.w (upd H x o) h' x o) : Inv X pins σ (upd H x o) { s with heap := h', toks := t' } := I.un (Un.write mu he k heo) (I.hok.write mu he k heo new)
theorem Inv.pins_of {pins' : List (Addr × Obj)} (I : Inv X pins σ H s) (h : ∀ p ∈ pins', s.heap.get? p.1 = some p.2 ∧ H p.1 = none ∧ p.1 ≠ X.env.locals ∧ p.1 ∉ X.fs ∧ ∀ v, p.2.data ≠ .cell v) : Inv X pins' σ H s :=
  ⟨I.ok, I.os, I.bare, I.base, I.loc, I.cell, I.free, I.freeC, fun p hp => (List.mem_append.mp hp).elim (fun z => I.pin p (List.mem_append_left _ z)) (h p), I.hok, I.len⟩

theorem nodup_ix {N : List Str} (hN : N.Nodup) {i j : Nat} {x : Str} (a : N[i]? = some x) (b : N[j]? = some x) : i = j := by
  obtain ⟨h1, e1⟩ := List.getElem?_eq_some_iff.mp a
  obtain ⟨h2, e2⟩ := List.getElem?_eq_some_iff.mp b
  exact (List.getElem_inj hN).mp (e1.trans e2.symm)

theorem store_ok2 {M : Model} {A : Around} {E : Value → Shared → Prop} {i : Nat} {x : Str} {v : V} {u : Value} {Q : Unit → Shared → Prop} (I : Inv X pins σ H s) (hN : X.N.Nodup) (hi : X.N[i]? = some x) (hx : Loc X.env.scope x) (r : RelV v u)
    (h : ∀ s', Inv X pins (σ.set i (some v)) H s' → (∃ a, Heap.SameBut a s.heap s'.heap ∧ (a = X.env.locals ∨ X.env.cells.lookup x = some a)) → Q () s') (hf : X.fn x = true ∨ X.env.scope.names.lookup x = some .local := by first | exact .inl rfl | exact .inr rfl | assumption) : wpAny M A (storeName X.env x u) Q E s := by
  obtain ⟨m, hn, hl⟩ := id I.loc
  have hcls : (X.env.scope.kind == .class || (X.env.scope.kind == .module && X.env.locals != X.env.globals)) = false := by rw [I.ok.kind]; rfl
  have hiσ : i < σ.length := by rw [I.len]; exact (List.getElem?_eq_some_iff.mp hi).1
  have cne := I.cne
  have tracked : ∀ {a : Addr} {h' : Heap}, (∃ o, s.heap.get? a = some o ∧ H a = none) → Heap.SameBut a s.heap h' → HOk X.prog X.w H h' := fun {a h'} ha hs b ob e => by
    obtain ⟨_, _, hfree⟩ := ha
    refine (I.hok b ob e).stay (fun c w' hc q => (hs.2 c ?_).trans q) (fun _ q => q) fun _ _ q => q
    rintro rfl
    rcases hc with rfl | hc
    · rw [hfree] at e; cases e
    · rw [hfree] at hc; cases hc
  rcases hx with hk | hk
  · refine wpAny_storeName_local hk hn (fun h' hn' hs => ?_) hcls
    obtain ⟨oL, _, _, hoL, _⟩ := id hn
    refine h _ ⟨I.ok, I.os, I.bare, ⟨fun b o e n hb hx => ?_, fun b o e n hb hx => ?_, I.base.free, fun b o e hx => ?_, I.base.tups, I.base.frzs, I.base.tbls⟩, ⟨_, hn', fun j y v' e1 e2 e3 => ?_⟩, fun y c e => ?_, I.free, I.freeC, fun p hp => ?_, tracked ⟨oL, hoL, I.free⟩ hs, by simpa using I.len⟩ ⟨_, hs, .inl rfl⟩
    · exact (hs.2 b (Nat.ne_of_lt (Nat.lt_of_lt_of_le (Heap.lt_size e) I.ok.above))).trans (I.base.keep b o e n hb hx)
    · obtain ⟨sl, e1⟩ := I.base.slot b o e n hb hx
      exact ⟨sl, (hs.2 b (Nat.ne_of_lt (Nat.lt_of_lt_of_le (Heap.lt_size e) I.ok.above))).trans e1⟩
    · obtain ⟨o', e1⟩ := I.base.there b o e hx
      exact ⟨o', (hs.2 b (Nat.ne_of_lt (Nat.lt_of_lt_of_le (Heap.lt_size e) I.ok.above))).trans e1⟩
    · by_cases hj : j = i
      · subst hj
        rw [hi] at e1; cases e1
        rw [List.getElem?_set_self hiσ] at e2
        cases e2
        exact ⟨u, r, .inl ⟨hk, by simp⟩⟩
      · rw [List.getElem?_set_ne (Ne.symm hj)] at e2
        obtain ⟨u', r', q⟩ := hl j y v' e1 e2 e3
        refine ⟨u', r', ?_⟩
        rcases q with ⟨k, e⟩ | ⟨k, c, e, z⟩
        · refine .inl ⟨k, ?_⟩
          have : y ≠ x := fun e => hj (nodup_ix hN e1 (e ▸ hi))
          simp [this, e]
        · exact .inr ⟨k, c, e, z.sameBut hs (cne y c e)⟩
    · obtain ⟨w', z⟩ := I.cell y c e
      exact ⟨w', z.sameBut hs (cne y c e)⟩
    · obtain ⟨e, n, ne, nf, d⟩ := I.pin p hp
      exact ⟨(hs.2 p.1 ne).trans e, n, ne, nf, d⟩
  · have hfn : X.fn x = true := by
      rcases hf with z | z
      · exact z
      · rw [z] at hk; cases hk
    obtain ⟨c, hc⟩ := I.ok.has x (.inl hk)
    obtain ⟨w', z⟩ := I.cell x c hc
    refine wpAny_storeName_cell I.ok.kind hk hc z (fun h' hc' hs => ?_)
    obtain ⟨oc, hoc, hocd⟩ := id z
    refine h { s with heap := h' } ⟨I.ok, I.os, I.bare, ⟨fun b o e n hb hx => ?_, fun b o e n hb hx => ?_, I.base.free, fun b o e hx => ?_, I.base.tups, I.base.frzs, I.base.tbls⟩, ⟨m, hn.sameBut hs (Ne.symm (cne x c hc)), fun j y v' e1 e2 e3 => ?_⟩, fun y c' e => ?_, I.free, I.freeC, fun p hp => ?_, tracked ⟨oc, hoc, I.freeC x c hc⟩ hs, by simpa using I.len⟩ ⟨c, hs, .inr hc⟩
    · exact (hs.2 b (Nat.ne_of_lt (Nat.lt_of_lt_of_le (Heap.lt_size e) (I.ok.cab x c hfn hc)))).trans (I.base.keep b o e n hb hx)
    · obtain ⟨sl, e1⟩ := I.base.slot b o e n hb hx
      exact ⟨sl, (hs.2 b (Nat.ne_of_lt (Nat.lt_of_lt_of_le (Heap.lt_size e) (I.ok.cab x c hfn hc)))).trans e1⟩
    · obtain ⟨o', e1⟩ := I.base.there b o e hx
      exact ⟨o', (hs.2 b (Nat.ne_of_lt (Nat.lt_of_lt_of_le (Heap.lt_size e) (I.ok.cab x c hfn hc)))).trans e1⟩
    · by_cases hj : j = i
      · subst hj
        rw [hi] at e1; cases e1
        rw [List.getElem?_set_self hiσ] at e2
        cases e2
        exact ⟨u, r, .inr ⟨.inl hk, c, hc, hc'⟩⟩
      · rw [List.getElem?_set_ne (Ne.symm hj)] at e2
        obtain ⟨u', r', q⟩ := hl j y v' e1 e2 e3
        refine ⟨u', r', ?_⟩
        rcases q with q | ⟨k, c', e, z'⟩
        · exact .inl q
        · refine .inr ⟨k, c', e, z'.sameBut hs ?_⟩
          rintro rfl
          exact hj (nodup_ix hN e1 (I.ok.inj _ _ _ e hc ▸ hi))
    · by_cases hcc : c' = c
      · subst hcc; exact ⟨_, hc'⟩
      · obtain ⟨w2, z2⟩ := I.cell y c' e
        exact ⟨w2, z2.sameBut hs hcc⟩
    · obtain ⟨e, n, ne, nf, d⟩ := I.pin p hp
      refine ⟨(hs.2 p.1 ?_).trans e, n, ne, nf, d⟩
      intro q
      rw [q, hoc] at e
      have q' : oc = p.2 := Option.some.inj e
      exact d w' (by rw [← q']; exact hocd)
theorem store_ok {M : Model} {A : Around} {E : Value → Shared → Prop} {i : Nat} {x : Str} {v : V} {u : Value} {Q : Unit → Shared → Prop} (I : Inv X pins σ H s) (hN : X.N.Nodup) (hi : X.N[i]? = some x) (hx : Loc X.env.scope x) (r : RelV v u)
    (h : ∀ s', Inv X pins (σ.set i (some v)) H s' → Q () s') (hf : X.fn x = true ∨ X.env.scope.names.lookup x = some .local := by first | exact .inl rfl | exact .inr rfl | assumption) : wpAny M A (storeName X.env x u) Q E s :=
  store_ok2 I hN hi hx r (fun s' I' _ => h s' I') hf
theorem Inv.call' {s' : Shared} {ch : List Addr} (I : Inv X pins σ H s) (ho : s'.os = s.os) (u : Un (frs X.stack) ch H H' s.heap s'.heap) (hok : HOk X.prog X.w H' s'.heap) (hg : AllBare s'.gens)
    (hch : ∀ b ∈ ch, (b ∈ X.ex ∨ X.s₀.heap.objs.size ≤ b) ∧ b ≠ X.env.locals ∧ (∀ x c, X.env.cells.lookup x = some c → c ≠ b) ∧ ∀ p ∈ X.pn ++ pins, p.1 ≠ b) : Inv X pins σ H' s' := by
  obtain ⟨h', g', d', t', o'⟩ := s'
  have e : o' = s.os := ho
  subst e
  exact I.call (g' := g') (t' := t') (d' := d') u hok hg hch
end

abbrev XK := Value → Option Addr → Hp → Prop
abbrev St := List (Option V)
abbrev VK := V → Hp → Prop
abbrev TE := St → Hp → VK → Prop
abbrev TT := St → Hp → (Bool → Hp → Prop) → Prop
abbrev TA := St → Hp → (List V → Hp → Prop) → Prop
structure Ends where
  nx : St → Hp → Prop
  rt : VK
  bk : St → Hp → Prop := fun _ _ => False
  ct : St → Hp → Prop := fun _ _ => False
abbrev TS := Ends → St → Hp → Prop

def EP (X : Cx) (pins : List (Addr × Obj)) (σ : St) (Q : VK) (u : Value) (s' : Shared) : Prop := ∃ v H', Inv X pins σ H' s' ∧ RelV v u ∧ Q v H'
def TP (X : Cx) (pins : List (Addr × Obj)) (σ : St) (Q : Bool → Hp → Prop) (b : Bool) (s' : Shared) : Prop := ∃ H', Inv X pins σ H' s' ∧ Q b H'
def AP (X : Cx) (pins : List (Addr × Obj)) (σ : St) (Q : List V → Hp → Prop) (us : List Value) (s' : Shared) : Prop := ∃ vs H', Inv X pins σ H' s' ∧ Vals vs us ∧ Q vs H'
def SP (X : Cx) (pins : List (Addr × Obj)) (D : Ends) (f : Flow) (s' : Shared) : Prop :=
  match f with
  | .next => ∃ σ' H', Inv X pins σ' H' s' ∧ D.nx σ' H'
  | .brk => ∃ σ' H', Inv X pins σ' H' s' ∧ D.bk σ' H'
  | .cont => ∃ σ' H', Inv X pins σ' H' s' ∧ D.ct σ' H'
  | .ret u => ∃ v σ' H', Inv X pins σ' H' s' ∧ RelV v u ∧ D.rt v H'

def PE (X : Cx) (e : Expr) (t : TE) : Prop :=
  ∀ (pins : List (Addr × Obj)) (s : Shared) (σ : St) (H : Hp) (Q : VK), Inv X pins σ H s → t σ H Q → wpAny (model X.prog X.w) X.A (eval e X.env) (EP X pins σ Q) X.xe s
def PT (X : Cx) (e : Expr) (t : TT) : Prop :=
  ∀ (pins : List (Addr × Obj)) (s : Shared) (σ : St) (H : Hp) (Q : Bool → Hp → Prop), Inv X pins σ H s → t σ H Q → wpAny (model X.prog X.w) X.A (isTrue e X.env (eval e X.env)) (TP X pins σ Q) X.xe s
def PW (X : Cx) (e : Expr) (t : TT) : Prop :=
  ∀ (whole : Sem Value) (pins : List (Addr × Obj)) (s : Shared) (σ : St) (H : Hp) (Q : Bool → Hp → Prop), Inv X pins σ H s → t σ H Q → wpAny (model X.prog X.w) X.A (isTrue e X.env whole) (TP X pins σ Q) X.xe s
theorem PW.pt {X : Cx} {e : Expr} {t : TT} (h : PW X e t) : PT X e t := h _
def PA (X : Cx) (es : List Expr) (t : TA) : Prop :=
  ∀ (pos : Pos) (pins : List (Addr × Obj)) (s : Shared) (σ : St) (H : Hp) (Q : List V → Hp → Prop), Inv X pins σ H s → t σ H Q → wpAny (model X.prog X.w) X.A (spliced (backTo pos (starEach es X.env))) (AP X pins σ Q) X.xe s
def PS (X : Cx) (st : Stmt) (t : TS) : Prop :=
  ∀ (pins : List (Addr × Obj)) (s : Shared) (σ : St) (H : Hp) (D : Ends), Inv X pins σ H s → t D σ H → wpAny (model X.prog X.w) X.A (exec st X.env) (SP X pins D) X.xe s
def PSs (X : Cx) (st : List Stmt) (t : TS) : Prop :=
  ∀ (pins : List (Addr × Obj)) (s : Shared) (σ : St) (H : Hp) (D : Ends), Inv X pins σ H s → t D σ H → wpAny (model X.prog X.w) X.A (execs st X.env) (SP X pins D) X.xe s
theorem thn {α : Type} {t : Sem α} {Q Q' : α → Shared → Prop} {M : Model} {A : Around} {E : Value → Shared → Prop} {s : Shared} (h : wpAny M A t Q E s) (hQ : ∀ a s, Q a s → Q' a s) : wpAny M A t Q' E s := wpAny_mono h hQ fun _ _ x => x
end L2

namespace L2
open PySem PySem.Spec PyProof.Rows
section
variable {X : Cx}

def tVar (i : Nat) : TE := fun σ H Q => ∃ v, σ[i]? = some (some v) ∧ Q v H
def tC (v : V) : TE := fun _ H Q => Q v H
theorem pe_var {i : Nat} {x : Str} {pos : Pos} (hN : X.N[i]? = some x) (hv : Vis X.env.scope x) (hd : (x == ("__debug__" : Str)) = false := by decide) (hcd : (x == ("__classdict__" : Str)) = false := by decide) : PE X (.Name x pos) (tVar i) := by
  intro pins s σ H Q I h
  obtain ⟨v, e, h⟩ := h
  obtain ⟨m, hn, hl⟩ := I.loc
  obtain ⟨u, r, l⟩ := hl i x v hN e hv
  have fin : EP X pins σ Q u s := ⟨v, H, I, r, h⟩
  rcases l with ⟨hk, hm⟩ | ⟨hk, c, hc, hcell⟩
  · exact wpAny_Name (wpAny_loadName_local I.ok.kind hk hn hm fin) hd
  · rcases hk with hk | hk
    · exact wpAny_Name (wpAny_loadName_cell I.ok.kind hk hc hcell fin) hd
    · exact wpAny_Name (wpAny_loadName_free I.ok.kind hk hc hcell fin hcd) hd
theorem pe_int {i j pos} : PE X (.Constant (.int i) j pos) (tC (.int i)) := fun _ _ _ H _ I h => wpAny_Constant_int ⟨.int i, H, I.tok _, ⟨_, rfl⟩, h⟩
theorem pe_bl {b j pos} : PE X (.Constant (.bool b) j pos) (tC (.bl b)) := fun _ _ _ H _ I h => Constant_bool ⟨.bl b, H, I, rfl, h⟩
theorem pe_non {j pos} : PE X (.Constant .none j pos) (tC .non) := fun _ _ _ H _ I h => Constant_none ⟨.non, H, I, rfl, h⟩
theorem pe_str {x j pos} : PE X (.Constant (.str x) j pos) (tC (.str x)) := fun _ _ _ H _ I h => Calls.Constant_str ⟨.str x, H, I.tok _, ⟨_, rfl⟩, h⟩

def Gl (X : Cx) (x : Str) : Prop := X.env.kindOf x = some .globalImplicit
theorem ld_glob {E : Value → Shared → Prop} {pins : List (Addr × Obj)} {s : Shared} {σ : St} {H : Hp} {x : Str} {u : Value} {pos : Pos} {Q : Value → Shared → Prop} (I : Inv X pins σ H s) (hg : Gl X x) (hm : X.mg x = some u) (h : Q u s)
    (hd : (x == ("__debug__" : Str)) = false := by decide) : wpAny (model X.prog X.w) X.A (eval (.Name x pos) X.env) Q E s :=
  Calls.Name_function_global I.ok.kind hg (Calls.loadGlobal_global (by rw [I.ok.glob]; exact I.mod.glob.keeps I.bk) hm h) hd
theorem ld_blt {E : Value → Shared → Prop} {pins : List (Addr × Obj)} {s : Shared} {σ : St} {H : Hp} {x : Str} {u : Value} {pos : Pos} {Q : Value → Shared → Prop} (I : Inv X pins σ H s) (hg : Gl X x) (hm : X.mg x = none) (hv : bootBuiltins x = some u) (h : Q u s)
    (hn : x ≠ "__name__" := by decide) (hd : (x == ("__debug__" : Str)) = false := by decide) : wpAny (model X.prog X.w) X.A (eval (.Name x pos) X.env) Q E s := by
  obtain ⟨mb, h1, h2⟩ := I.mod.blt
  exact Calls.Name_function_global I.ok.kind hg (Calls.loadGlobal_builtin (by rw [I.ok.glob]; exact I.mod.glob.keeps I.bk) hm (by rw [I.ok.blt]; exact h1.keeps I.bk) ((h2 x hn).trans hv) h) hd
theorem pe_glob {x : Str} {v : V} {u : Value} {pos : Pos} (hg : Gl X x) (hm : X.mg x = some u) (r : RelV v u) (hd : (x == ("__debug__" : Str)) = false := by decide) : PE X (.Name x pos) (tC v) :=
  fun _ _ _ H _ I h => ld_glob I hg hm ⟨v, H, I, r, h⟩ hd
theorem pe_bltn {x : Str} {v : V} {u : Value} {pos : Pos} (hg : Gl X x) (hm : X.mg x = none) (hv : bootBuiltins x = some u) (r : RelV v u) (hn : x ≠ "__name__" := by decide) (hd : (x == ("__debug__" : Str)) = false := by decide) : PE X (.Name x pos) (tC v) :=
  fun _ _ _ H _ I h => ld_blt I hg hm hv ⟨v, H, I, r, h⟩ hn hd

variable {a b : Expr} {ta tb : TE} {pos : Pos}
def PC (X : Cx) (op : CmpOp) (a b : Expr) (t : TE) : Prop :=
  ∀ (pins : List (Addr × Obj)) (s : Shared) (σ : St) (H : Hp) (Q : VK), Inv X pins σ H s → t σ H Q →
    wpAny (model X.prog X.w) X.A (eval a X.env) (fun v s₁ => wpAny (model X.prog X.w) X.A (eval b X.env) (fun u s₂ => wpAny (model X.prog X.w) X.A (compareOp op v u) (EP X pins σ Q) X.xe s₂) X.xe s₁) X.xe s
theorem nobehind (b : Expr) {op : CmpOp} (h : op ≠ .In) (h2 : op ≠ .NotIn) : behindInMarks op b = false := by
  have e1 : (op == CmpOp.In) = false := by cases op <;> first | rfl | exact absurd rfl h
  have e2 : (op == CmpOp.NotIn) = false := by cases op <;> first | rfl | exact absurd rfl h2
  cases b <;> simp [behindInMarks, e1, e2]
def tB (t : TE) : TT := fun σ H Q => t σ H fun x H1 => ∃ c, x = .bl c ∧ Q c H1
theorem pt_cmp {op : CmpOp} {t : TE} (h : PC X op a b t) (h1 : behindInMarks op b = false := by first | exact nobehind _ (by decide) (by decide) | rfl) : PT X (.Compare a [op] [b] pos) (tB t) := by
  intro pins s σ H Q I hw
  refine wpAny_isTrue_Compare1 (thn (h pins s σ H _ I hw) fun v s1 h1 => thn h1 fun u s2 h2 => thn h2 fun c s3 ⟨x, H1, I1, r1, q1⟩ => ?_) h1
  obtain ⟨d, rfl, q⟩ := q1
  cases r1
  exact wpAny_truthy_bool ⟨H1, I1, q⟩
theorem pt_val {e : Expr} {t : TE} (h : PE X e t) (he : ∀ whole, isTrue e X.env whole = (do let v ← whole; standAt e.pos; holding [v] (truthy v)) := by intro _; rfl) : PT X e (tB t) := by
  intro pins s σ H Q I hw
  refine isTrue_plain (thn (h pins s σ H _ I hw) fun v s1 ⟨x, H1, I1, r1, q1⟩ => ?_) (he _)
  obtain ⟨d, rfl, q⟩ := q1
  cases r1
  exact wpAny_truthy_bool ⟨H1, I1, q⟩

variable {tA tB' : TT} {rest : List Expr}
def tAnd (t u : TT) : TT := fun σ H Q => t σ H fun c H1 => if c = true then u σ H1 Q else Q false H1
def tOr (t u : TT) : TT := fun σ H Q => t σ H fun c H1 => if c = true then Q true H1 else u σ H1 Q
def tNot (t : TT) : TT := fun σ H Q => t σ H fun c H1 => Q (!c) H1
theorem pw_and1 (ha : PT X a tA) : PW X (.BoolOp .And [a] pos) tA := by
  intro wh pins s σ H Q I h
  refine isTrue_and (thn (ha pins s σ H Q I h) fun c s1 e => ?_)
  cases c with
  | true => exact isTrue_and_nil e
  | false => exact e
theorem pw_or1 (ha : PT X a tA) : PW X (.BoolOp .Or [a] pos) tA := by
  intro wh pins s σ H Q I h
  refine isTrue_or (thn (ha pins s σ H Q I h) fun c s1 e => ?_)
  cases c with
  | false => exact isTrue_or_nil e
  | true => exact e
theorem pw_and (ha : PT X a tA) (hb : PW X (.BoolOp .And (b :: rest) pos) tB') : PW X (.BoolOp .And (a :: b :: rest) pos) (tAnd tA tB') := by
  intro wh pins s σ H Q I h
  refine isTrue_and (thn (ha pins s σ H _ I h) fun c s1 ⟨H1, I1, q1⟩ => ?_)
  cases c with
  | true => exact hb wh pins s1 σ H1 Q I1 q1
  | false => exact ⟨H1, I1, q1⟩
theorem pw_or (ha : PT X a tA) (hb : PW X (.BoolOp .Or (b :: rest) pos) tB') : PW X (.BoolOp .Or (a :: b :: rest) pos) (tOr tA tB') := by
  intro wh pins s σ H Q I h
  refine isTrue_or (thn (ha pins s σ H _ I h) fun c s1 ⟨H1, I1, q1⟩ => ?_)
  cases c with
  | true => exact ⟨H1, I1, q1⟩
  | false => exact hb wh pins s1 σ H1 Q I1 q1
theorem pt_not (ha : PT X a tA) : PT X (.UnaryOp .Not a pos) (tNot tA) := by
  intro pins s σ H Q I h
  exact isTrue_not (ha pins s σ H (fun c H1 => Q (!c) H1) I h)
def tAndV (ta tb : TE) : TE := fun σ H Q => ta σ H fun x H1 => ∃ c, x = .bl c ∧ if c = true then tb σ H1 Q else Q (.bl false) H1
def tNotV (ta : TE) : TE := fun σ H Q => ta σ H fun x H1 => ∃ c, x = .bl c ∧ Q (.bl (!c)) H1
theorem pe_one {op} {t : TE} (h : PE X a t) : PE X (.BoolOp op [a] pos) t := fun pins s σ H Q I hw => BoolOp_one (h pins s σ H Q I hw)
theorem pe_and (ha : PE X a ta) (hb : PE X (.BoolOp .And (b :: rest) pos) tb) : PE X (.BoolOp .And (a :: b :: rest) pos) (tAndV ta tb) := by
  intro pins s σ H Q I h
  refine BoolOp_and (thn (ha pins s σ H _ I h) fun v s1 ⟨x, H1, I1, r1, q1⟩ => ?_)
  obtain ⟨c, rfl, q1⟩ := q1
  cases r1
  refine wpAny_truthy_bool ?_
  cases c with
  | true => exact hb pins s1 σ H1 Q I1 q1
  | false => exact ⟨.bl false, H1, I1, rfl, q1⟩
theorem pe_not (ha : PE X a ta) : PE X (.UnaryOp .Not a pos) (tNotV ta) := by
  intro pins s σ H Q I h
  refine UnaryOp_ (thn (ha pins s σ H _ I h) fun v s1 ⟨x, H1, I1, r1, q1⟩ => ?_)
  obtain ⟨c, rfl, q1⟩ := q1
  cases r1
  exact not_of (wpAny_truthy_bool ⟨.bl (!c), H1, I1, rfl, q1⟩)
end
end L2

namespace L2
open PySem PySem.Spec PyProof.Rows

def SqL (K : PySem.W.Frag) (H : Hp) (a : Addr) (xs : List V) : Prop :=
  Rd H a (.lst xs) ∨
    ∃ (o : Obj) (its : Array Value) (n : Nat), K.lookup a = some o ∧ o.cls = .type "list" ∧ o.dict = none ∧ o.data = .seq its n ∧ its.size ≤ sizeLine ∧ Vals xs its.toList
def SqT (K : PySem.W.Frag) (H : Hp) (a : Addr) (xs : List V) : Prop :=
  Rd H a (.tup xs) ∨
    ∃ (o : Obj) (its : Array Value) (n : Nat), K.lookup a = some o ∧ o.cls = .type "tuple" ∧ o.data = .seq its n ∧ its.size ≤ sizeLine ∧ Vals xs its.toList
def absV : Value → Option V
  | .none => some .non
  | .bool b => some (.bl b)
  | .int i _ => some (.int i)
  | .str x _ => some (.str x)
  | .bytes b _ => some (.byt b)
  | .float b _ => some (.flt b)
  | .ref a => some (.ref a)
  | .type n => some (.ty n)
  | _ => none
theorem RelV.abs {x : V} {u : Value} (r : RelV x u) : absV u = some x := by
  cases x with
  | non => cases r; rfl
  | bl _ => cases r; rfl
  | int _ => obtain ⟨t, rfl⟩ := r; rfl
  | str _ => obtain ⟨t, rfl⟩ := r; rfl
  | byt _ => obtain ⟨t, rfl⟩ := r; rfl
  | flt _ => obtain ⟨t, rfl⟩ := r; rfl
  | ref _ => cases r; rfl
  | ty _ => cases r; rfl
theorem RelV.inj {x y : V} {u : Value} (r : RelV x u) (q : RelV y u) : x = y := Option.some.inj (r.abs.symm.trans q.abs)
theorem Vals.inj : ∀ {xs ys : List V} {us : List Value}, Vals xs us → Vals ys us → xs = ys
  | _, _, _, .nil, .nil => rfl
  | _, _, _, .cons r t, .cons r' t' => by rw [r.inj r', Vals.inj t t']
section
variable {X : Cx} {pins : List (Addr × Obj)} {σ : St} {H : Hp} {s : Shared} {a : Addr} {xs ys : List V}
theorem SqL.of {K : PySem.W.Frag} (h : H a = some (.lst xs)) : SqL K H a xs := .inl (.inl h)
theorem SqT.of {K : PySem.W.Frag} (h : H a = some (.tup xs)) : SqT K H a xs := .inl (.inl h)
theorem Inv.list (I : Inv X pins σ H s) (h : SqL X.K H a xs) : ∃ its : List Value, Vals xs its ∧ PlainL s.heap a its.toArray ∧ xs.length ≤ sizeLine := by
  rcases h with h | ⟨o, its, n, hk, hc, hd, hs, hz, r⟩
  · obtain ⟨z, its, n, r, e⟩ := h.ok I.hok
    exact ⟨its, r, ⟨_, n, e, rfl, rfl, rfl⟩, z⟩
  · refine ⟨its.toList, r, ⟨o, n, I.kIn a o hk, hc, hd, by simpa using hs⟩, ?_⟩
    have e := r.length
    simp only [Array.length_toList] at e
    omega
theorem Inv.tuple (I : Inv X pins σ H s) (h : SqT X.K H a xs) : ∃ its : List Value, Vals xs its ∧ IsTup s.heap a its.toArray ∧ xs.length ≤ sizeLine := by
  rcases h with h | ⟨o, its, n, hk, hc, hs, hz, r⟩
  · obtain ⟨z, its, r, p, _⟩ := h.ok I.hok
    exact ⟨its, r, p, z⟩
  · refine ⟨its.toList, r, ⟨o, I.kIn a o hk, hc, n, by simpa using hs⟩, ?_⟩
    have e := r.length
    simp only [Array.length_toList] at e
    omega
theorem Inv.list_inj (I : Inv X pins σ H s) (h : SqL X.K H a xs) (h' : SqL X.K H a ys) : xs = ys := by
  obtain ⟨its, r, ⟨o, n, e, _, _, d⟩, _⟩ := I.list h
  obtain ⟨its', r', ⟨o', n', e', _, _, d'⟩, _⟩ := I.list h'
  rw [e] at e'; cases e'
  rw [d] at d'
  injection d' with d1 _
  have : its = its' := by simpa using congrArg Array.toList d1
  subst this
  exact r.inj r'
theorem Inv.tuple_inj (I : Inv X pins σ H s) (h : SqT X.K H a xs) (h' : SqT X.K H a ys) : xs = ys := by
  obtain ⟨its, r, ⟨o, e, _, n, d⟩, _⟩ := I.tuple h
  obtain ⟨its', r', ⟨o', e', _, n', d'⟩, _⟩ := I.tuple h'
  rw [e] at e'; cases e'
  rw [d] at d'
  injection d' with d1 _
  have : its = its' := by simpa using congrArg Array.toList d1
  subst this
  exact r.inj r'
end

abbrev Cx.wish (X : Cx) (E : Value → Shared → Prop) : Cx := { X with xe := E }
abbrev Cx.nox (X : Cx) : Cx := X.wish fun _ _ => False
theorem Cx.Ok.wish {X : Cx} (ok : X.Ok) (E : Value → Shared → Prop) : (X.wish E).Ok :=
  ⟨ok.mod, ok.kind, ok.glob, ok.blt, ok.above, ok.inj, ok.has, ok.cab, ok.hd, ok.frames, ok.stk, ok.exf, ok.bs, ok.bsz, ok.noex, ok.exfs, ok.funs, ok.frf⟩
theorem Cx.Ok.unwish {X : Cx} {E : Value → Shared → Prop} (ok : (X.wish E).Ok) : X.Ok :=
  ⟨ok.mod, ok.kind, ok.glob, ok.blt, ok.above, ok.inj, ok.has, ok.cab, ok.hd, ok.frames, ok.stk, ok.exf, ok.bs, ok.bsz, ok.noex, ok.exfs, ok.funs, ok.frf⟩
section
variable {X : Cx} {pins : List (Addr × Obj)} {σ : St} {H : Hp} {s : Shared} {E : Value → Shared → Prop}
theorem Inv.wish (I : Inv X pins σ H s) (E : Value → Shared → Prop) : Inv (X.wish E) pins σ H s := ⟨I.ok.wish E, I.os, I.bare, I.base, I.loc, I.cell, I.free, I.freeC, I.pin, I.hok, I.len⟩
theorem Inv.unwish (I : Inv (X.wish E) pins σ H s) : Inv X pins σ H s := ⟨I.ok.unwish, I.os, I.bare, I.base, I.loc, I.cell, I.free, I.freeC, I.pin, I.hok, I.len⟩
theorem SP.unwish {D : Ends} {f : Flow} {s' : Shared} (h : SP (X.wish E) pins D f s') : SP X pins D f s' := by
  cases f with
  | next => obtain ⟨σ', H', I, q⟩ := h; exact ⟨σ', H', I.unwish, q⟩
  | brk => obtain ⟨σ', H', I, q⟩ := h; exact ⟨σ', H', I.unwish, q⟩
  | cont => obtain ⟨σ', H', I, q⟩ := h; exact ⟨σ', H', I.unwish, q⟩
  | ret u => obtain ⟨v, σ', H', I, r, q⟩ := h; exact ⟨v, σ', H', I.unwish, r, q⟩
theorem PE.nox {e : Expr} {t : TE} (h : PE X.nox e t) : PE X e t := fun pins s σ H Q I hw =>
  wpAny_mono (h pins s σ H Q (I.wish _) hw) (fun _ _ ⟨v, H', I', r, q⟩ => ⟨v, H', I'.unwish, r, q⟩) fun _ _ z => False.elim z
theorem PT.nox {e : Expr} {t : TT} (h : PT X.nox e t) : PT X e t := fun pins s σ H Q I hw =>
  wpAny_mono (h pins s σ H Q (I.wish _) hw) (fun _ _ ⟨H', I', q⟩ => ⟨H', I'.unwish, q⟩) fun _ _ z => False.elim z
theorem PSs.nox {st : List Stmt} {t : TS} (h : PSs X.nox st t) : PSs X st t := fun pins s σ H D I hw =>
  wpAny_mono (h pins s σ H D (I.wish _) hw) (fun _ _ q => q.unwish) fun _ _ z => False.elim z
end

section
variable {X : Cx} {st : Stmt} {rest : List Stmt} {t u : TS} {e : Expr} {te : TE} {pos : Pos}
def tNext : TS := fun D σ H => D.nx σ H
def tSeq (t u : TS) : TS := fun D σ H => t { D with nx := u D } σ H
theorem pss_nil : PSs X [] tNext := fun _ _ σ H _ I h => wpAny_execs_nil ⟨σ, H, I, h⟩
theorem pss_cons (h1 : PS X st t) (h2 : PSs X rest u) : PSs X (st :: rest) (tSeq t u) := by
  intro pins s σ H D I h
  refine wpAny_execs_cons (thn (h1 pins s σ H { D with nx := u D } I h) fun f s1 q => ?_)
  cases f with
  | next =>
    obtain ⟨σ', H', I', q⟩ := q
    exact h2 pins s1 σ' H' D I' q
  | ret v => exact q
  | brk => exact q
  | cont => exact q
theorem pss_one (h1 : PS X st t) : PSs X [st] t := by
  intro pins s σ H D I h
  refine wpAny_execs_cons (thn (h1 pins s σ H D I h) fun f s1 q => ?_)
  cases f with
  | next => exact wpAny_execs_nil q
  | ret v => exact q
  | brk => exact q
  | cont => exact q
theorem Inv.quiet {pins : List (Addr × Obj)} {σ : St} {H : Hp} {s : Shared} (I : Inv X pins σ H s) : interactive X.env = false := by simp [interactive, I.ok.kind]
def tDrop (te : TE) : TS := fun D σ H => te σ H fun _ H1 => D.nx σ H1
theorem ps_expr (he : PE X e te) (hs : swapsWith e none pos.line X.env = pure false := by rfl) : PS X (.Expr e pos) (tDrop te) := by
  intro pins s σ H D I h
  exact wpAny_Expr_any (thn (he pins s σ H _ I h) fun v s1 ⟨x, H1, I1, r1, q1⟩ => ⟨σ, H1, I1, q1⟩) I.quiet hs
def tRet (te : TE) : TS := fun D σ H => te σ H D.rt
theorem ps_ret (he : PE X e te) : PS X (.Return (some e) pos) (tRet te) := by
  intro pins s σ H D I h
  exact wpAny_Return_some (thn (he pins s σ H _ I h) fun v s1 ⟨x, H1, I1, r1, q1⟩ => ⟨x, σ, H1, I1, r1, q1⟩)
def tIfS (c : TT) (t u : TS) : TS := fun D σ H => c σ H fun b H1 => if b = true then t D σ H1 else u D σ H1
theorem ps_if {c : Expr} {a b : List Stmt} {tc : TT} (hc : PT X c tc) (ha : PSs X a t) (hb : PSs X b u) : PS X (.If c a b pos) (tIfS tc t u) := by
  intro pins s σ H D I h
  refine wpAny_If (thn (hc pins s σ H _ I h) fun d s1 ⟨H1, I1, q1⟩ => ?_)
  cases d with
  | true => exact ha pins s1 σ H1 D I1 q1
  | false => exact hb pins s1 σ H1 D I1 q1
end

abbrev TG := V → St → Hp → (St → Hp → Prop) → Prop
abbrev TGs := List V → St → Hp → (St → Hp → Prop) → Prop
def PG (X : Cx) (target : Expr) (t : TG) : Prop :=
  ∀ (pins : List (Addr × Obj)) (s : Shared) (σ : St) (H : Hp) (v : V) (u : Value) (Q : St → Hp → Prop), Inv X pins σ H s → RelV v u → t v σ H Q →
    wpAny (model X.prog X.w) X.A (assign target X.env u) (fun _ s' => ∃ σ' H', Inv X pins σ' H' s' ∧ Q σ' H') X.xe s
def PGs (X : Cx) (ts : List Expr) (t : TGs) : Prop :=
  ∀ (pins : List (Addr × Obj)) (s : Shared) (σ : St) (H : Hp) (vs : List V) (us : List Value) (Q : St → Hp → Prop), Inv X pins σ H s → Vals vs us → t vs σ H Q →
    wpAny (model X.prog X.w) X.A (assignInOrder ((assignEach ts X.env).map (·.2)) us) (fun _ s' => ∃ σ' H', Inv X pins σ' H' s' ∧ Q σ' H') X.xe s
abbrev TSet := V → V → V → Hp → (Hp → Prop) → Prop
def PSet (X : Cx) (t : TSet) : Prop :=
  ∀ (pins : List (Addr × Obj)) (s : Shared) (σ : St) (H : Hp) (o i v : V) (ov iv u : Value) (Q : Hp → Prop), Inv X pins σ H s → RelV o ov → RelV i iv → RelV v u → t o i v H Q →
    wpAny (model X.prog X.w) X.A (setItem ov iv u) (fun _ s' => ∃ H', Inv X pins σ H' s' ∧ Q H') X.xe s
section
variable {X : Cx} {pos : Pos}
def gName (i : Nat) : TG := fun v σ H Q => Q (σ.set i (some v)) H
theorem pg_name {i : Nat} {x : Str} (hN : X.N.Nodup) (hi : X.N[i]? = some x) (hx : Loc X.env.scope x) (hf : X.fn x = true ∨ X.env.scope.names.lookup x = some .local := by first | exact .inl rfl | exact .inr rfl | assumption) : PG X (.Name x pos) (gName i) := by
  intro pins s σ H v u Q I r h
  exact wpAny_assign_Name (store_ok I hN hi hx r (fun s' I' => ⟨_, H, I', h⟩) hf)
def gNil : TGs := fun vs σ H Q => vs = [] ∧ Q σ H
def gCons (t : TG) (u : TGs) : TGs := fun vs σ H Q => ∃ v r, vs = v :: r ∧ t v σ H fun σ' H' => u r σ' H' Q
theorem pgs_nil : PGs X [] gNil := by
  intro pins s σ H vs us Q I r h
  obtain ⟨e, h⟩ := h
  subst e
  cases r
  exact assignInOrder_nil ⟨σ, H, I, h⟩
theorem pgs_cons {e : Expr} {es : List Expr} {t : TG} {u : TGs} (h1 : PG X e t) (h2 : PGs X es u)
    (hs : (assignEach (e :: es) X.env).map (·.2) = assign e X.env :: (assignEach es X.env).map (·.2) := by rfl) : PGs X (e :: es) (gCons t u) := by
  intro pins s σ H vs us Q I r h
  obtain ⟨v, vr, e1, h⟩ := h
  subst e1
  cases r with
  | cons r rr =>
    rw [hs]
    refine assignInOrder_cons (thn (h1 pins s σ H _ _ _ I r h) fun _ s1 ⟨σ1, H1, I1, q1⟩ => ?_)
    exact h2 pins s1 σ1 H1 _ _ Q I1 rr q1
def gTup (K : PySem.W.Frag) (n : Nat) (t : TGs) : TG := fun v σ H Q => ∃ a xs, v = .ref a ∧ SqT K H a xs ∧ xs.length = n ∧ t xs σ H Q
theorem pg_tup {es : List Expr} {k : Nat} {t : TGs} {n : Nat} (hc : X.calm = true) (h : PGs X es t)
    (hn : (assignEach es X.env).length = n := by rfl) (hst : (assignEach es X.env).findIdx? (·.1) = none := by rfl) : PG X (.Tuple es k pos) (gTup X.K n t) := by
  intro pins s σ H v u Q I r hw
  obtain ⟨a, xs, e1, hq, hl, hw⟩ := hw
  subst e1
  cases r
  obtain ⟨its, rv, ht, hz⟩ := I.tuple hq
  refine assign_Tuple_tuple (I.ok.hd hc) ht (by simp [hn, ← hl, rv.length]) hst fun h' hx => ?_
  have I1 : Inv X pins σ H { s with heap := h' } := I.kept (t' := s.toks) fun b o e => hx b o (Nat.ne_of_lt (Heap.lt_size e)) e
  exact h pins _ σ H xs _ Q I1 (by simpa using rv) hw
def gSub (to ti : TE) (t : TSet) : TG := fun v σ H Q => to σ H fun o H1 => ti σ H1 fun i H2 => t o i v H2 fun H3 => Q σ H3
theorem pg_sub {o i : Expr} {to ti : TE} {t : TSet} (ho : PE X o to) (hi : PE X i ti) (hs : PSet X t)
    (ha : ∀ v, assign (.Subscript o i pos) X.env v = (do
      let ov ← holding [v] (eval o X.env)
      let iv ← holding [v, ov] (eval i X.env)
      standAt pos
      holding [v, ov, iv] (setItem ov iv v)
      release [v, ov, iv] []) := by intro _; rfl) : PG X (.Subscript o i pos) (gSub to ti t) := by
  intro pins s σ H v u Q I r h
  rw [ha]
  refine wpAny_bind (wpAny_holding (thn (ho pins s σ H _ I h) fun ov s1 ⟨x, H1, I1, r1, q1⟩ => ?_))
  refine wpAny_bind (wpAny_holding (thn (hi pins s1 σ H1 _ I1 q1) fun iv s2 ⟨y, H2, I2, r2, q2⟩ => ?_))
  refine wpAny_bind (wpAny_standAt (wpAny_bind (wpAny_holding (thn (hs pins s2 σ H2 x y v ov iv u _ I2 r1 r2 r q2) fun _ s3 ⟨H3, I3, q3⟩ => ?_))))
  exact wpAny_release ⟨σ, H3, I3, q3⟩
def tAsg (te : TE) (g : TG) : TS := fun D σ H => te σ H fun x H1 => g x σ H1 D.nx
theorem ps_asg {tg e : Expr} {te : TE} {g : TG} (he : PE X e te) (hg : PG X tg g) (hs : swapsWithSole [tg] e pos.line X.env = pure false := by rfl) (hw : swappedStores [tg] e X.env = pure none := by rfl)
    (h1 : (assignEach [tg] X.env).map (·.2) = [assign tg X.env] := by rfl) : PS X (.Assign [tg] e pos) (tAsg te g) := by
  intro pins s σ H D I h
  refine wpAny_Assign_stores (thn (he pins s σ H _ I h) fun v s1 ⟨x, H1, I1, r1, q1⟩ => ?_) hs hw
  rw [h1]
  exact thn (hg pins s1 σ H1 x v _ I1 r1 q1) fun _ s2 q => q
theorem ps_set {i : Nat} {x : Str} {e : Expr} {te : TE} {pos' : Pos} (hN : X.N.Nodup) (hi : X.N[i]? = some x) (hx : Loc X.env.scope x) (he : PE X e te) (hs : swapsWith e (some (.Name x pos')) pos.line X.env = pure false := by rfl) (hf : X.fn x = true ∨ X.env.scope.names.lookup x = some .local := by first | exact .inl rfl | exact .inr rfl | assumption) :
    PS X (.Assign [.Name x pos'] e pos) (tAsg te (gName i)) := by
  intro pins s σ H D I h
  refine wpAny_Assign_Name (thn (he pins s σ H _ I h) fun v s1 ⟨y, H1, I1, r1, q1⟩ => ?_) hs
  exact store_ok I1 hN hi hx r1 (fun s2 I2 => ⟨_, H1, I2, q1⟩) hf
end

section
variable {X : Cx} {pos : Pos}
def tWhile (c : TT) (tb : TS) : TS := fun D σ H => ∃ W : Nat → St → Hp → Prop, (∃ m, W m σ H) ∧ ∀ m σ H, W m σ H →
  c σ H fun b H1 => if b = true then ∃ N : St → Hp → Prop, (∀ σ' H', N σ' H' → ∃ m', m' < m ∧ W m' σ' H') ∧ tb { D with nx := N, ct := N, bk := D.nx } σ H1 else D.nx σ H1
theorem ps_while {c : Expr} {body : List Stmt} {tc : TT} {tb : TS} (hp : PassesOwn (model X.prog X.w) X.A X.env X.xe) (hc : PT X c tc) (hb : PSs X body tb) : PS X (.While c body [] pos) (tWhile tc tb) := by
  intro pins s σ H D I h
  obtain ⟨W, ⟨m0, w0⟩, turn⟩ := h
  refine wpAny_While (codeAny_whileLoop (fun n s' => ∃ σ' H', Inv X pins σ' H' s' ∧ W n σ' H') ?_ m0 ⟨σ, H, I, w0⟩)
  rintro n s1 ⟨σ1, H1, I1, w1⟩
  refine wpAny_passesOwn hp (thn (hc pins s1 σ1 H1 _ I1 (turn n σ1 H1 w1)) fun b s2 ⟨H2, I2, q2⟩ => ?_)
  cases b with
  | true =>
    obtain ⟨N, hN, q2⟩ := q2
    rw [if_pos rfl]
    refine wpAny_passesOwn hp (thn (hb pins s2 σ1 H2 _ I2 q2) fun f s3 q3 => ?_)
    cases f with
    | next =>
      obtain ⟨σ3, H3, I3, n3⟩ := q3
      obtain ⟨m', hm, w3⟩ := hN σ3 H3 n3
      exact ⟨m', hm, σ3, H3, I3, w3⟩
    | cont =>
      obtain ⟨σ3, H3, I3, n3⟩ := q3
      obtain ⟨m', hm, w3⟩ := hN σ3 H3 n3
      exact ⟨m', hm, σ3, H3, I3, w3⟩
    | brk => exact q3
    | ret v => exact q3
  | false =>
    rw [if_neg Bool.false_ne_true]
    exact wpAny_execs_nil ⟨σ1, H2, I2, q2⟩
end

structure It where
  go : Nat → Hp → Prop
  yld : Nat → Hp → V → Hp → Prop
  stop : Nat → Hp → Prop
def FpOk (X : Cx) (pins : List (Addr × Obj)) (H : Hp) (b : Addr) : Prop :=
  H b = none ∧ b ≠ X.env.locals ∧ b ∉ X.fs ∧ (b ∈ X.ex ∨ X.s₀.heap.objs.size ≤ b) ∧ (∀ x c, X.env.cells.lookup x = some c → c ≠ b) ∧ ∀ p ∈ X.pn ++ pins, p.1 ≠ b
theorem Inv.fpOk {X : Cx} {pins : List (Addr × Obj)} {σ : St} {H H' : Hp} {s : Shared} {b : Addr} (I : Inv X pins σ H s) (hb : s.heap.objs.size ≤ b) (hn : H' b = none) : FpOk X pins H' b := by
  refine ⟨hn, Nat.ne_of_gt (Nat.lt_of_lt_of_le I.lt hb), I.nofs hb, .inr (Nat.le_trans I.sz hb), fun x c e z => ?_, fun p hp z => ?_⟩
  · obtain ⟨v, q⟩ := I.cell x c e
    exact absurd (Nat.lt_of_lt_of_le q.lt (by rw [z]; exact hb)) (Nat.lt_irrefl _)
  · exact absurd (Nat.lt_of_lt_of_le (Heap.lt_size (I.pin p hp).1) (by rw [z]; exact hb)) (Nat.lt_irrefl _)
structure Turn (P : Program) (w : World) (K : PySem.W.Frag) (tg : Expr) (J : It) (fp : List Addr) (it : Addr) (tn : Nat → Heap → Prop) : Prop where
  mem : it ∈ fp
  obj : ∀ i h, tn i h → ∀ b ∈ fp, ∃ o, h.get? b = some o ∧ ∀ v, o.data ≠ .cell v
  keep : ∀ i h h', tn i h → (∀ b ∈ fp, ∀ o, h.get? b = some o → h'.get? b = some o) → tn i h'
  item : ∀ (X : Cx), X.prog = P → X.w = w → X.K = K → X.calm = true → ∀ (i : Nat) (pins : List (Addr × Obj)) (s : Shared) (σ : St) (H : Hp) (E : Value → Shared → Prop), Inv X pins σ H s → (∀ b ∈ fp, FpOk X pins H b) → tn i s.heap → J.go i H →
    wpAny (model P w) X.A (pyNext (.ref it)) (fun r s1 => ∃ u, r = some u ∧
      wpAny (model P w) X.A (letOwnedTupleGo tg (.ref it) u) (fun _ s2 => ∃ x H', Inv X pins σ H' s2 ∧ RelV x u ∧ J.yld i H x H' ∧ tn (i + 1) s2.heap ∧ ∀ b ∈ fp, H' b = none) E s1) E s
  done : ∀ (X : Cx), X.prog = P → X.w = w → X.K = K → X.calm = true → ∀ (i : Nat) (pins : List (Addr × Obj)) (s : Shared) (σ : St) (H : Hp) (E : Value → Shared → Prop), Inv X pins σ H s → (∀ b ∈ fp, FpOk X pins H b) → tn i s.heap → J.stop i H →
    wpAny (model P w) X.A (pyNext (.ref it)) (fun r s1 => r = none ∧ Inv X pins σ H s1) E s
  self : ∀ (A : Around) (i : Nat) (s : Shared) (Q : Value → Shared → Prop) (E : Value → Shared → Prop), tn i s.heap → Q (.ref it) s → wpAny (model P w) A (pyIter (.ref it)) Q E s
abbrev TI := St → Hp → (It → Hp → Prop) → Prop
def PIE (X : Cx) (pins : List (Addr × Obj)) (σ : St) (tg : Expr) (R : It → Hp → Prop) (itv : Value) (s2 : Shared) : Prop :=
  ∃ (it : Addr) (fp : List Addr) (tn : Nat → Heap → Prop) (J : It) (H' : Hp), itv = .ref it ∧ Inv X pins σ H' s2 ∧ Turn X.prog X.w X.K tg J fp it tn ∧ tn 0 s2.heap ∧ (∀ b ∈ fp, FpOk X pins H' b) ∧ R J H'
def PI (X : Cx) (tg iter : Expr) (wi : TI) : Prop :=
  ∀ (pins : List (Addr × Obj)) (s : Shared) (σ : St) (H : Hp) (R : It → Hp → Prop), Inv X pins σ H s → wi σ H R →
    wpAny (model X.prog X.w) X.A (eval iter X.env) (fun v s1 => wpAny (model X.prog X.w) X.A (pyIter v) (PIE X pins σ tg R) X.xe s1) X.xe s

theorem go_of {M : Model} {A : Around} {E : Value → Shared → Prop} {s : Shared} {tg : Expr} {it : Addr} {u : Value} {o : Obj} {n : String} {vs : Array Value} {Q : Unit → Shared → Prop} (ho : s.heap.get? it = some o) (hc : o.cls = .type n) (hd : o.data = .fields vs)
    (hn : ["enumerate", "zip", "dict_itemiterator", "dict_reverseitemiterator", "odict_iterator", "itertools.zip_longest", "itertools.pairwise"].contains n = false) (hQ : Q () s) : wpAny M A (letOwnedTupleGo tg (.ref it) u) Q E s := by
  unfold letOwnedTupleGo
  cases tg <;> first
    | exact wpAny_pure hQ
    | (cases u <;> first
        | exact wpAny_pure hQ
        | (refine wpAny_bind (wpAny_load ho ?_)
           rw [hc, hd]
           show wpAny M A (if (["enumerate", "zip", "dict_itemiterator", "dict_reverseitemiterator", "odict_iterator", "itertools.zip_longest", "itertools.pairwise"].contains n && vs[0]? == some (rawInt _)) = true then _ else _) Q E s
           rw [if_neg (by intro h; rw [hn, Bool.false_and] at h; cases h)]
           exact wpAny_pure hQ))

def Itl (K : PySem.W.Frag) (a : Addr) : It :=
  ⟨fun i H => ∃ xs x, SqL K H a xs ∧ xs[i]? = some x, fun i H x H' => H' = H ∧ ∀ xs, SqL K H a xs → xs[i]? = some x, fun i H => ∃ xs, SqL K H a xs ∧ xs.length ≤ i⟩
def Itt (K : PySem.W.Frag) (a : Addr) : It :=
  ⟨fun i H => ∃ xs x, SqT K H a xs ∧ xs[i]? = some x, fun i H x H' => H' = H ∧ ∀ xs, SqT K H a xs → xs[i]? = some x, fun i H => ∃ xs, SqT K H a xs ∧ xs.length ≤ i⟩
def Itr (lo : Int) (n : Nat) : It := ⟨fun i _ => i < n, fun i H x H' => H' = H ∧ x = .int (lo + i), fun i _ => n ≤ i⟩
theorem turn_list {P : Program} {w : World} {K : PySem.W.Frag} {tg : Expr} (a it : Addr) : Turn P w K tg (Itl K a) [it] it (fun i h => h.IsListIter it a i) where
  mem := by simp
  obj := fun i h st b hb => by
    have e : b = it := by simpa using hb
    subst e
    obtain ⟨o, e, c, d⟩ := st
    exact ⟨o, e, fun v z => by rw [d] at z; cases z⟩
  keep := fun i h h' st k => st.at fun o e => k it (by simp) o e
  item := by
    intro X hP hw hK hc i pins s σ H E I hf st hg
    subst hP hw hK
    obtain ⟨xs, x, hq, hx⟩ := hg
    obtain ⟨its, rv, p, hz⟩ := I.list hq
    obtain ⟨u, hu, ru⟩ := rv.get hx
    obtain ⟨f0, f1, f2, f3, f4, f5⟩ := hf it (by simp)
    refine wpAny_pyNext_list_item st p.isList (x := u) (by simpa using hu) fun h' st' sb => ?_
    have I1 : Inv X pins σ H { s with heap := h' } := I.turned (t' := s.toks) (fun b o hb e => (sb.2 b hb).trans e) f0 f1 f3 f4 f5
    obtain ⟨o, e, c, d⟩ := id st'
    exact ⟨u, rfl, go_of (s := { s with heap := h' }) e c d (by decide) ⟨x, H, I1, ru, ⟨rfl, fun ys hy => by rw [I.list_inj hy hq]; exact hx⟩, st', fun b hb => (hf b hb).1⟩⟩
  done := by
    intro X hP hw hK hc i pins s σ H E I hf st hg
    subst hP hw hK
    obtain ⟨xs, hq, hx⟩ := hg
    obtain ⟨its, rv, p, hz⟩ := I.list hq
    obtain ⟨f0, f1, f2, f3, f4, f5⟩ := hf it (by simp)
    have hl := rv.length
    exact wpAny_pyNext_list_end (I.ok.hd hc) st p.isList (by simp; omega) fun h' eb => ⟨rfl, I.turned (t' := s.toks) (fun b o hb e => eb b o hb e) f0 f1 f3 f4 f5⟩
  self := fun _ _ _ _ _ st h => wpAny_pyIter_listiter st h
theorem turn_tuple {P : Program} {w : World} {K : PySem.W.Frag} {tg : Expr} (a it : Addr) : Turn P w K tg (Itt K a) [it] it (fun i h => h.IsTupleIter it a i) where
  mem := by simp
  obj := fun i h st b hb => by
    have e : b = it := by simpa using hb
    subst e
    obtain ⟨o, e, c, d⟩ := st
    exact ⟨o, e, fun v z => by rw [d] at z; cases z⟩
  keep := fun i h h' st k => st.at fun o e => k it (by simp) o e
  item := by
    intro X hP hw hK hc i pins s σ H E I hf st hg
    subst hP hw hK
    obtain ⟨xs, x, hq, hx⟩ := hg
    obtain ⟨its, rv, p, hz⟩ := I.tuple hq
    obtain ⟨u, hu, ru⟩ := rv.get hx
    obtain ⟨f0, f1, f2, f3, f4, f5⟩ := hf it (by simp)
    refine wpAny_pyNext_tuple_item st (show s.heap.IsTuple a its.toArray from p) (x := u) (by simpa using hu) fun h' st' sb => ?_
    have I1 : Inv X pins σ H { s with heap := h' } := I.turned (t' := s.toks) (fun b o hb e => (sb.2 b hb).trans e) f0 f1 f3 f4 f5
    obtain ⟨o, e, c, d⟩ := id st'
    exact ⟨u, rfl, go_of (s := { s with heap := h' }) e c d (by decide) ⟨x, H, I1, ru, ⟨rfl, fun ys hy => by rw [I.tuple_inj hy hq]; exact hx⟩, st', fun b hb => (hf b hb).1⟩⟩
  done := by
    intro X hP hw hK hc i pins s σ H E I hf st hg
    subst hP hw hK
    obtain ⟨xs, hq, hx⟩ := hg
    obtain ⟨its, rv, p, hz⟩ := I.tuple hq
    obtain ⟨f0, f1, f2, f3, f4, f5⟩ := hf it (by simp)
    have hl := rv.length
    exact wpAny_pyNext_tuple_end (I.ok.hd hc) st (show s.heap.IsTuple a its.toArray from p) (by simp; omega) fun h' eb => ⟨rfl, I.turned (t' := s.toks) (fun b o hb e => eb b o hb e) f0 f1 f3 f4 f5⟩
  self := fun _ _ _ _ _ st h => wpAny_pyIter_tupleiter st h
theorem turn_range {P : Program} {w : World} {K : PySem.W.Frag} {tg : Expr} (it : Addr) (lo : Int) (n : Nat) : Turn P w K tg (Itr lo n) [it] it (fun i h => IsRangeIter h it (lo + (i : Nat) * 1) ((n : Int) - (i : Nat)) 1) where
  mem := by simp
  obj := fun i h st b hb => by
    have e : b = it := by simpa using hb
    subst e
    exact ⟨_, st, fun v z => by
      have z' : Data.fields _ = Data.cell v := z
      cases z'⟩
  keep := fun i h h' st k => k it (by simp) _ st
  item := by
    intro X hP hw hK hc i pins s σ H E I hf st hg
    subst hP hw hK
    obtain ⟨f0, f1, f2, f3, f4, f5⟩ := hf it (by simp)
    have W := Walks.range (prog := X.prog) (w := X.w) (I.ok.hd hc) it lo 1 n
    refine W.item i s _ _ hg st fun v h' tk hv st' kk => ?_
    obtain ⟨t, rfl⟩ := hv
    have I1 : Inv X pins σ H { s with heap := h', toks := tk } := I.turned (fun b o hb e => kk b o (by simpa using hb) e) f0 f1 f3 f4 f5
    refine ⟨_, rfl, go_of (s := { s with heap := h', toks := tk }) (n := "range_iterator") st' rfl rfl (by decide) ⟨.int (lo + i), H, I1, ⟨t, ?_⟩, ⟨rfl, rfl⟩, st', fun b hb => (hf b hb).1⟩⟩
    rw [Int.mul_one]
  done := by
    intro X hP hw hK hc i pins s σ H E I hf st hg
    subst hP hw hK
    obtain ⟨f0, f1, f2, f3, f4, f5⟩ := hf it (by simp)
    exact wpAny_pyNext_range_end (I.ok.hd hc) st (by have : n ≤ i := hg; omega) fun h' eb => ⟨rfl, I.turned (t' := s.toks) (fun b o hb e => eb b o hb e) f0 f1 f3 f4 f5⟩
  self := fun _ _ _ _ _ st h => wpAny_pyIter_rangeiter st h
end L2

namespace L2
open PySem PySem.Spec PyProof.Rows
section
variable {X : Cx} {tg : Expr}
def iList (K : PySem.W.Frag) (tl : TE) : TI := fun σ H R => tl σ H fun x H1 => ∃ a, x = .ref a ∧ (∃ xs, SqL K H1 a xs) ∧ R (Itl K a) H1
def iTup (K : PySem.W.Frag) (tl : TE) : TI := fun σ H R => tl σ H fun x H1 => ∃ a, x = .ref a ∧ (∃ xs, SqT K H1 a xs) ∧ R (Itt K a) H1
theorem pi_list {l : Expr} {tl : TE} (hl : PE X l tl) : PI X tg l (iList X.K tl) := by
  intro pins s σ H R I h
  refine thn (hl pins s σ H _ I h) fun v s1 ⟨x, H1, I1, r1, q1⟩ => ?_
  obtain ⟨a, e, ⟨xs, hq⟩, q⟩ := q1
  subst e
  cases r1
  obtain ⟨its, rv, p, hz⟩ := I1.list hq
  refine wpAny_pyIter_list p.isList ?_
  refine ⟨s1.heap.objs.size, [s1.heap.objs.size], _, _, H1, rfl, I1.kept (t' := s1.toks) fun b o e => Heap.get?_push_of_some _ e, turn_list a _, ⟨_, Heap.get?_push_size _ rfl, rfl, rfl⟩, fun b hb => ?_, q⟩
  have e : b = s1.heap.objs.size := by simpa using hb
  subst e
  exact I1.fpOk (Nat.le_refl _) (I1.hok.fresh (Nat.le_refl _))
theorem pi_tup {l : Expr} {tl : TE} (hl : PE X l tl) : PI X tg l (iTup X.K tl) := by
  intro pins s σ H R I h
  refine thn (hl pins s σ H _ I h) fun v s1 ⟨x, H1, I1, r1, q1⟩ => ?_
  obtain ⟨a, e, ⟨xs, hq⟩, q⟩ := q1
  subst e
  cases r1
  obtain ⟨its, rv, p, hz⟩ := I1.tuple hq
  refine wpAny_pyIter_tuple (show s1.heap.IsTuple a its.toArray from p) ?_
  refine ⟨s1.heap.objs.size, [s1.heap.objs.size], _, _, H1, rfl, I1.kept (t' := s1.toks) fun b o e => Heap.get?_push_of_some _ e, turn_tuple a _, ⟨_, Heap.get?_push_size _ rfl, rfl, rfl⟩, fun b hb => ?_, q⟩
  have e : b = s1.heap.objs.size := by simpa using hb
  subst e
  exact I1.fpOk (Nat.le_refl _) (I1.hok.fresh (Nat.le_refl _))
theorem range_it {pins : List (Addr × Obj)} {σ : St} {H : Hp} {s : Shared} {R : It → Hp → Prop} {E : Value → Shared → Prop} {lo hi : Int} {t u v : Tok} {tk : Nat} (I : Inv X pins σ H s) (h1 : -(2 ^ 62) ≤ lo) (h2 : lo < 2 ^ 62) (h3 : -(2 ^ 62) ≤ hi) (h4 : hi < 2 ^ 62)
    (q : R (Itr lo (hi - lo).toNat) H) : wpAny (model X.prog X.w) X.A (pyIter (.ref s.heap.objs.size)) (PIE X pins σ tg R) E { s with heap := s.heap.push { cls := .type "range", data := .fields #[.int lo t, .int hi u, .int 1 v] }, toks := tk } := by
  refine wpAny_pyIter_range (IsRange.new ..) (small_one h1 h2 h3 h4) ?_
  have I1 : Inv X pins σ H { s with heap := s.heap.push { cls := .type "range", data := .fields #[.int lo t, .int hi u, .int 1 v] }, toks := tk } := I.kept fun b o e => Heap.get?_push_of_some _ e
  refine ⟨(s.heap.push { cls := .type "range", data := .fields #[.int lo t, .int hi u, .int 1 v] }).objs.size, [(s.heap.push { cls := .type "range", data := .fields #[.int lo t, .int hi u, .int 1 v] }).objs.size], _, _, H, rfl,
    I1.kept (t' := tk) fun b o e => Heap.get?_push_of_some _ e, turn_range _ lo (hi - lo).toNat, ?_, fun b hb => ?_, q⟩
  · have e1 : lo + ((0 : Nat) : Int) * 1 = lo := by simp
    have e2 : (((hi - lo).toNat : Nat) : Int) - ((0 : Nat) : Int) = Builtin.Range.rangeSize lo hi 1 := by rw [rangeSize_one]; split <;> omega
    show IsRangeIter _ _ (lo + ((0 : Nat) : Int) * 1) ((((hi - lo).toNat : Nat) : Int) - ((0 : Nat) : Int)) 1
    rw [e1, e2]
    exact Heap.get?_push_size _ rfl
  · have e : b = (s.heap.push { cls := .type "range", data := .fields #[.int lo t, .int hi u, .int 1 v] }).objs.size := by simpa using hb
    subst e
    exact I1.fpOk (Nat.le_refl _) (I1.hok.fresh (Nat.le_refl _))
def iRng1 (ta : TA) : TI := fun σ H R => ta σ H fun vs H1 => ∃ j : Int, vs = [.int j] ∧ -(2 ^ 62) ≤ j ∧ j < 2 ^ 62 ∧ R (Itr 0 j.toNat) H1
theorem pi_range1 {a : Expr} {ta : TA} {p pos : Pos} (hg : Gl X "range") (hm : X.mg "range" = none) (ha : PA X [a] ta) (hs : starEach [a] X.env = [(false, eval a X.env)] := by rfl) : PI X tg (.Call (.Name "range" p) [a] [] pos) (iRng1 ta) := by
  intro pins s σ H R I h
  refine Call_ (ld_blt I hg hm boot_range (PyProof.Rows.callWith_type1 (thn (ha pos pins s σ H _ I h) fun us s1 ⟨vs, H1, I1, r1, q1⟩ => ?_) hs rfl))
  obtain ⟨j, e, q1, q2, q⟩ := q1
  subst e
  cases r1 with
  | cons r rr =>
    cases rr
    obtain ⟨t, rfl⟩ := r
    exact call_range_1 (range_it I1 (by omega) (by omega) q1 q2 (by simpa using q))
def tFor (wi : TI) (g : TG) (tb : TS) : TS := fun D σ H => wi σ H fun J H1 => ∃ W : Nat → Nat → St → Hp → Prop, (∃ m, W 0 m σ H1) ∧ ∀ i m σ H, W i m σ H →
  (J.stop i H ∧ D.nx σ H) ∨ (J.go i H ∧ ∃ N : St → Hp → Prop, (∀ σ' H', N σ' H' → ∃ m', m' < m ∧ W (i + 1) m' σ' H') ∧ ∀ x H', J.yld i H x H' → g x σ H' fun σ2 H2 => tb { D with nx := N, ct := N, bk := D.nx } σ2 H2)
def pinsAt (fp : List Addr) (h : Heap) : List (Addr × Obj) := fp.filterMap fun b => (h.get? b).map fun o => (b, o)
theorem mem_pinsAt {fp : List Addr} {h : Heap} {b : Addr} {o : Obj} (hb : b ∈ fp) (e : h.get? b = some o) : (b, o) ∈ pinsAt fp h := List.mem_filterMap.mpr ⟨b, hb, by rw [e]; rfl⟩
theorem of_pinsAt {fp : List Addr} {h : Heap} {p : Addr × Obj} (hp : p ∈ pinsAt fp h) : p.1 ∈ fp ∧ h.get? p.1 = some p.2 := by
  obtain ⟨b, hb, e⟩ := List.mem_filterMap.mp hp
  cases q : h.get? b with
  | none => rw [q] at e; cases e
  | some o =>
    rw [q] at e
    have e' : (b, o) = p := Option.some.inj e
    subst e'
    exact ⟨hb, q⟩
theorem Inv.pinned {pins : List (Addr × Obj)} {σ : St} {H : Hp} {s : Shared} {fp : List Addr} (I : Inv X pins σ H s) (hf : ∀ b ∈ fp, FpOk X pins H b) (ho : ∀ b ∈ fp, ∃ o, s.heap.get? b = some o ∧ ∀ v, o.data ≠ .cell v) : Inv X (pins ++ pinsAt fp s.heap) σ H s :=
  I.pins_of fun p hp => (List.mem_append.mp hp).elim (fun z => I.pin p (List.mem_append_right _ z)) fun z => by
    obtain ⟨hb, e⟩ := of_pinsAt z
    obtain ⟨f0, f1, f2, _⟩ := hf p.1 hb
    obtain ⟨o, e', d⟩ := ho p.1 hb
    rw [e] at e'; cases e'
    exact ⟨e, f0, f1, f2, d⟩
theorem Inv.unpinned {pins pl : List (Addr × Obj)} {σ : St} {H : Hp} {s : Shared} (I : Inv X (pins ++ pl) σ H s) : Inv X pins σ H s := I.pins_of fun p hp => I.pin p (List.mem_append_right _ (List.mem_append_left _ hp))
theorem ps_for {iter : Expr} {body : List Stmt} {wi : TI} {g : TG} {tb : TS} {pos : Pos} (hp : PassesOwn (model X.prog X.w) X.A X.env X.xe) (hc : X.calm = true) (hi : PI X tg iter wi) (hg : PG X tg g) (hb : PSs X body tb)
    (hs : ∀ x, foldedSetIterable iter X.env x = pure x := by intro _; rfl) : PS X (.For tg iter body [] pos) (tFor wi g tb) := by
  intro pins s σ H D I h
  refine wpAny_For (thn (hi pins s σ H _ I h) fun v s1 h1 => thn h1 fun itv s2 h2 => ?_) hs
  obtain ⟨it, fp, tn, J, H2, e, I2, T, st2, f2, W, ⟨m0, w0⟩, turn⟩ := h2
  subst e
  -- what stays true of the iterator's objects through the loop
  have stat : ∀ {H' : Hp}, (∀ b ∈ fp, H' b = none) → ∀ b ∈ fp, FpOk X pins H' b := fun hn b hb => ⟨hn b hb, (f2 b hb).2⟩
  refine codeAny_forLoop_any (fun n s' => ∃ i σ' H', Inv X pins σ' H' s' ∧ tn i s'.heap ∧ (∀ b ∈ fp, H' b = none) ∧ W i n σ' H') ?_ m0 ⟨0, σ, H2, I2, st2, fun b hb => (f2 b hb).1, w0⟩
  rintro n s3 ⟨i, σ3, H3, I3, st3, fr3, w3⟩
  rcases turn i n σ3 H3 w3 with ⟨stop, qn⟩ | ⟨go, N, hN, step⟩
  · refine wpAny_passesOwn hp (thn (T.done X rfl rfl rfl hc i pins s3 σ3 H3 X.xe I3 (stat fr3) st3 stop) fun r s4 ⟨hr, I4⟩ => ?_)
    subst hr
    exact wpAny_execs_nil ⟨σ3, H3, I4, qn⟩
  · refine wpAny_passesOwn hp (thn (T.item X rfl rfl rfl hc i pins s3 σ3 H3 X.xe I3 (stat fr3) st3 go) fun r s4 ⟨u, hr, h4⟩ => ?_)
    subst hr
    refine wpAny_passesOwn hp (thn h4 fun _ s5 ⟨x, H5, I5, r5, y5, st5, fr5⟩ => ?_)
    have I5' := I5.pinned (stat fr5) (T.obj _ _ st5)
    refine wpAny_passesOwn hp (thn (hg _ s5 σ3 H5 x u _ I5' r5 (step x H5 y5)) fun _ s6 ⟨σ6, H6, I6, q6⟩ => ?_)
    refine wpAny_passesOwn hp (thn (hb _ s6 σ6 H6 _ I6 q6) fun f s7 q7 => ?_)
    have again : ∀ {σ7 : St} {H7 : Hp}, Inv X (pins ++ pinsAt fp s5.heap) σ7 H7 s7 → N σ7 H7 → ∃ m, m < n ∧ ∃ i σ' H', Inv X pins σ' H' s7 ∧ tn i s7.heap ∧ (∀ b ∈ fp, H' b = none) ∧ W i m σ' H' := fun {σ7 H7} I7 n7 => by
      obtain ⟨m', hm, w7⟩ := hN σ7 H7 n7
      refine ⟨m', hm, i + 1, σ7, H7, I7.unpinned, T.keep _ _ _ st5 fun b hb o e => (I7.pin (b, o) (List.mem_append_right _ (List.mem_append_right _ (mem_pinsAt hb e)))).1, fun b hb => ?_, w7⟩
      obtain ⟨o, e, d⟩ := T.obj _ _ st5 b hb
      exact (I7.pin (b, o) (List.mem_append_right _ (List.mem_append_right _ (mem_pinsAt hb e)))).2.1
    cases f with
    | next => obtain ⟨σ7, H7, I7, n7⟩ := q7; exact again I7 n7
    | cont => obtain ⟨σ7, H7, I7, n7⟩ := q7; exact again I7 n7
    | brk => obtain ⟨σ7, H7, I7, q7⟩ := q7; exact ⟨σ7, H7, I7.unpinned, q7⟩
    | ret v => obtain ⟨x7, σ7, H7, I7, r7, q7⟩ := q7; exact ⟨x7, σ7, H7, I7.unpinned, r7, q7⟩
end

theorem for_list {K : PySem.W.Frag} {a : Addr} {xs : List V} {g : TG} {tb : TS} {D : Ends} {σ : St} {H : Hp} (Pv : Nat → St → Hp → Prop) (h0 : Pv 0 σ H) (hl : ∀ i σ H, i ≤ xs.length → Pv i σ H → SqL K H a xs)
    (hs : ∀ i x σ H, xs[i]? = some x → Pv i σ H → g x σ H fun σ2 H2 => tb { D with nx := Pv (i + 1), ct := Pv (i + 1), bk := D.nx } σ2 H2) (hd : ∀ σ H, Pv xs.length σ H → D.nx σ H) :
    ∃ W : Nat → Nat → St → Hp → Prop, (∃ m, W 0 m σ H) ∧ ∀ i m σ H, W i m σ H →
      ((Itl K a).stop i H ∧ D.nx σ H) ∨ ((Itl K a).go i H ∧ ∃ N : St → Hp → Prop, (∀ σ' H', N σ' H' → ∃ m', m' < m ∧ W (i + 1) m' σ' H') ∧ ∀ x H', (Itl K a).yld i H x H' → g x σ H' fun σ2 H2 => tb { D with nx := N, ct := N, bk := D.nx } σ2 H2) := by
  refine ⟨fun i m σ H => m = xs.length - i ∧ i ≤ xs.length ∧ Pv i σ H, ⟨xs.length, by simp, Nat.zero_le _, h0⟩, ?_⟩
  rintro i m σ H ⟨rfl, hi, p⟩
  have q := hl i σ H hi p
  by_cases hlt : i < xs.length
  · refine .inr ⟨⟨xs, xs[i], q, by simp [hlt]⟩, Pv (i + 1), fun σ' H' p' => ⟨xs.length - (i + 1), by omega, rfl, hlt, p'⟩, fun x H' y => ?_⟩
    obtain ⟨e, y⟩ := y
    subst e
    exact hs i x σ _ (y xs q) p
  · have e : i = xs.length := by omega
    subst e
    exact .inl ⟨⟨xs, q, Nat.le_refl _⟩, hd σ H p⟩
theorem for_range {lo : Int} {n : Nat} {g : TG} {tb : TS} {D : Ends} {σ : St} {H : Hp} (Pv : Nat → St → Hp → Prop) (h0 : Pv 0 σ H)
    (hs : ∀ i σ H, i < n → Pv i σ H → g (.int (lo + i)) σ H fun σ2 H2 => tb { D with nx := Pv (i + 1), ct := Pv (i + 1), bk := D.nx } σ2 H2) (hd : ∀ σ H, Pv n σ H → D.nx σ H) :
    ∃ W : Nat → Nat → St → Hp → Prop, (∃ m, W 0 m σ H) ∧ ∀ i m σ H, W i m σ H →
      ((Itr lo n).stop i H ∧ D.nx σ H) ∨ ((Itr lo n).go i H ∧ ∃ N : St → Hp → Prop, (∀ σ' H', N σ' H' → ∃ m', m' < m ∧ W (i + 1) m' σ' H') ∧ ∀ x H', (Itr lo n).yld i H x H' → g x σ H' fun σ2 H2 => tb { D with nx := N, ct := N, bk := D.nx } σ2 H2) := by
  refine ⟨fun i m σ H => m = n - i ∧ i ≤ n ∧ Pv i σ H, ⟨n, by simp, Nat.zero_le _, h0⟩, ?_⟩
  rintro i m σ H ⟨rfl, hi, p⟩
  by_cases hlt : i < n
  · refine .inr ⟨hlt, Pv (i + 1), fun σ' H' p' => ⟨n - (i + 1), by omega, rfl, hlt, p'⟩, fun x H' y => ?_⟩
    obtain ⟨e, y⟩ := y
    subst e y
    exact hs i σ _ hlt p
  · have e : i = n := by omega
    subst e
    exact .inl ⟨Nat.le_refl _, hd σ H p⟩
end L2

namespace L2
open PySem PySem.Spec PyProof.Rows

abbrev R2 := V → V → Hp → VK → Prop
def OpR (X : Cx) (f : Value → Value → Sem Value) (r : R2) : Prop :=
  ∀ (pins : List (Addr × Obj)) (s : Shared) (σ : St) (H : Hp) (x y : V) (v u : Value) (Q : VK), Inv X pins σ H s → RelV x v → RelV y u → r x y H Q →
    wpAny (model X.prog X.w) X.A (f v u) (EP X pins σ Q) X.xe s
def UnR (X : Cx) (f : Value → Sem Value) (r : V → Hp → VK → Prop) : Prop :=
  ∀ (pins : List (Addr × Obj)) (s : Shared) (σ : St) (H : Hp) (x : V) (v : Value) (Q : VK), Inv X pins σ H s → RelV x v → r x H Q →
    wpAny (model X.prog X.w) X.A (f v) (EP X pins σ Q) X.xe s
def CallR (X : Cx) (f : Value) (r : List V → Hp → VK → Prop) : Prop :=
  ∀ (pins : List (Addr × Obj)) (s : Shared) (σ : St) (H : Hp) (xs : List V) (us : List Value) (Q : VK), Inv X pins σ H s → Vals xs us → r xs H Q →
    wpAny (model X.prog X.w) X.A (call f us) (EP X pins σ Q) X.xe s
def tOp (r : R2) (ta tb : TE) : TE := fun σ H Q => ta σ H fun x H1 => tb σ H1 fun y H2 => r x y H2 Q
def tUn (r : V → Hp → VK → Prop) (ta : TE) : TE := fun σ H Q => ta σ H fun x H1 => r x H1 Q
def rI (C : Int → Int → Prop) (g : Int → Int → V) : R2 := fun x y H Q => ∃ i j, x = .int i ∧ y = .int j ∧ C i j ∧ Q (g i j) H
def rI0 (g : Int → Int → V) : R2 := fun x y H Q => ∃ i j, x = .int i ∧ y = .int j ∧ Q (g i j) H
def rU (g : Int → V) : V → Hp → VK → Prop := fun x H Q => ∃ i, x = .int i ∧ Q (g i) H

section
variable {X : Cx} {a b c : Expr} {ta tb tc : TE} {pos : Pos}

theorem binT (ha : PE X a ta) (hb : PE X b tb) {pins : List (Addr × Obj)} {s : Shared} {σ : St} {H : Hp} {R : V → V → Hp → Prop} (I : Inv X pins σ H s)
    (h : ta σ H fun x H1 => tb σ H1 fun y H2 => R x y H2) {Q : Value → Shared → Prop} {f : Value → Value → Sem Value}
    (hf : ∀ v u s2 x y H2, Inv X pins σ H2 s2 → RelV x v → RelV y u → R x y H2 → wpAny (model X.prog X.w) X.A (f v u) Q X.xe s2) :
    wpAny (model X.prog X.w) X.A (eval a X.env) (fun v s₁ => wpAny (model X.prog X.w) X.A (eval b X.env) (fun u s₂ => wpAny (model X.prog X.w) X.A (f v u) Q X.xe s₂) X.xe s₁) X.xe s := by
  refine thn (ha pins s σ H _ I h) fun v s1 ⟨x, H1, I1, r1, q1⟩ => ?_
  refine thn (hb pins s1 σ H1 _ I1 q1) fun u s2 ⟨y, H2, I2, r2, q2⟩ => ?_
  exact hf v u s2 x y H2 I2 r1 r2 q2

theorem pe_op {op : Operator} {r : R2} (ho : OpR X (binaryOp op) r) (ha : PE X a ta) (hb : PE X b tb) : PE X (.BinOp a op b pos) (tOp r ta tb) := by
  intro pins s σ H Q I h
  exact wpAny_BinOp (binT ha hb I h fun v u s2 x y H2 I2 rx ry q => ho pins s2 σ H2 x y v u Q I2 rx ry q)
theorem pe_un {op : UnaryOp} {r : V → Hp → VK → Prop} (ho : UnR X (unaryOp op) r) (ha : PE X a ta) : PE X (.UnaryOp op a pos) (tUn r ta) := by
  intro pins s σ H Q I h
  exact UnaryOp_ (thn (ha pins s σ H _ I h) fun v s1 ⟨x, H1, I1, r1, q1⟩ => ho pins s1 σ H1 x v Q I1 r1 q1)
theorem opI {f : Value → Value → Sem Value} {C : Int → Int → Prop} {g : Int → Int → Int}
    (rule : ∀ (i j : Int) (t u : Tok) (s : Shared) (Q : Value → Shared → Prop) (E : Value → Shared → Prop), C i j → Q (.int (g i j) s.toks) { s with toks := s.toks + 1 } → wpAny (model X.prog X.w) X.A (f (.int i t) (.int j u)) Q E s) :
    OpR X f (rI C fun i j => .int (g i j)) := by
  intro pins s σ H x y v u Q I rx ry h
  obtain ⟨i, j, rfl, rfl, hc, q⟩ := h
  obtain ⟨t, rfl⟩ := rx
  obtain ⟨t', rfl⟩ := ry
  exact rule i j t t' s _ _ hc ⟨.int (g i j), H, I.tok _, ⟨_, rfl⟩, q⟩
theorem opI0 {f : Value → Value → Sem Value} {g : Int → Int → Int}
    (rule : ∀ (i j : Int) (t u : Tok) (s : Shared) (Q : Value → Shared → Prop) (E : Value → Shared → Prop), Q (.int (g i j) s.toks) { s with toks := s.toks + 1 } → wpAny (model X.prog X.w) X.A (f (.int i t) (.int j u)) Q E s) :
    OpR X f (rI0 fun i j => .int (g i j)) := by
  intro pins s σ H x y v u Q I rx ry h
  obtain ⟨i, j, rfl, rfl, q⟩ := h
  obtain ⟨t, rfl⟩ := rx
  obtain ⟨t', rfl⟩ := ry
  exact rule i j t t' s _ _ ⟨.int (g i j), H, I.tok _, ⟨_, rfl⟩, q⟩
theorem opB0 {f : Value → Value → Sem Value} {g : Int → Int → Bool}
    (rule : ∀ (i j : Int) (t u : Tok) (s : Shared) (Q : Value → Shared → Prop) (E : Value → Shared → Prop), Q (.bool (g i j)) s → wpAny (model X.prog X.w) X.A (f (.int i t) (.int j u)) Q E s) :
    OpR X f (rI0 fun i j => .bl (g i j)) := by
  intro pins s σ H x y v u Q I rx ry h
  obtain ⟨i, j, rfl, rfl, q⟩ := h
  obtain ⟨t, rfl⟩ := rx
  obtain ⟨t', rfl⟩ := ry
  exact rule i j t t' s _ _ ⟨.bl (g i j), H, I, rfl, q⟩

def CPow (i j : Int) : Prop := 0 ≤ j ∧ j ≤ 1000000 ∧ i.natAbs < 2 ^ 64
theorem op_add : OpR X (binaryOp .Add) (rI0 fun i j => .int (i + j)) := opI0 fun _ _ _ _ _ _ _ q => add_int q
theorem op_sub : OpR X (binaryOp .Sub) (rI0 fun i j => .int (i - j)) := opI0 fun _ _ _ _ _ _ _ q => sub_int q
theorem op_mod : OpR X (binaryOp .Mod) (rI (fun _ j => 0 < j) fun i j => .int (i % j)) := opI fun i j _ _ _ _ _ hc q => by
  have h1 : (0 : Int) < j := hc
  exact mod_int' (by omega) (by rw [Int.fmod_eq_emod_of_nonneg i (by omega)]; exact q)
theorem op_pow : OpR X (binaryOp .Pow) (rI CPow fun i j => .int (i ^ j.toNat)) := opI fun _ _ _ _ _ _ _ hc q => pow_int_small hc.1 hc.2.1 hc.2.2 q
theorem unI {f : Value → Sem Value} {g : Int → Int}
    (rule : ∀ (i : Int) (t : Tok) (s : Shared) (Q : Value → Shared → Prop) (E : Value → Shared → Prop), Q (.int (g i) s.toks) { s with toks := s.toks + 1 } → wpAny (model X.prog X.w) X.A (f (.int i t)) Q E s) :
    UnR X f (rU fun i => .int (g i)) := by
  intro pins s σ H x v Q I rx h
  obtain ⟨i, rfl, q⟩ := h
  obtain ⟨t, rfl⟩ := rx
  exact rule i t s _ _ ⟨.int (g i), H, I.tok _, ⟨_, rfl⟩, q⟩
theorem un_neg : UnR X (unaryOp .USub) (rU fun i => .int (-i)) := unI fun _ _ _ _ _ q => neg_int q
end

def scal : V → V → Bool
  | .non, .non => true | .non, .int _ => true | .int _, .non => true | .non, .bl _ => true | .bl _, .non => true | .non, .str _ => true | .str _, .non => true
  | .int _, .int _ => true | .bl _, .bl _ => true | .str _, .str _ => true | .byt _, .byt _ => true
  | .int _, .str _ => true | .str _, .int _ => true | .bl _, .str _ => true | .str _, .bl _ => true
  | _, _ => false
def rEq : R2 := fun x y H Q => scal x y = true ∧ Q (.bl (decide (x = y))) H
def rNe : R2 := fun x y H Q => scal x y = true ∧ Q (.bl (!decide (x = y))) H

theorem dec_int {i j : Int} : decide (V.int i = V.int j) = (i == j) := by
  rw [Bool.eq_iff_iff]
  simp
theorem dec_bl {i j : Bool} : decide (V.bl i = V.bl j) = (i == j) := by
  rw [Bool.eq_iff_iff]
  simp
theorem dec_str {i j : Str} : decide (V.str i = V.str j) = (i == j) := by
  rw [Bool.eq_iff_iff]
  simp
theorem dec_byt {i j : Array UInt8} : decide (V.byt i = V.byt j) = (i.toList == j.toList) := by
  rw [Bool.eq_iff_iff]
  cases i
  cases j
  simp

section
variable {X : Cx} {a b c : Expr} {ta tb tc : TE} {pos : Pos}
theorem fin_bl {pins : List (Addr × Obj)} {σ : St} {H : Hp} {s : Shared} {Q : VK} {k k' : Bool} (I : Inv X pins σ H s) (q : Q (.bl k) H) (e : k = k') : EP X pins σ Q (.bool k') s := by
  subst e
  exact ⟨.bl k, H, I, rfl, q⟩
theorem op_eq : OpR X (compareOp .Eq) rEq := by
  intro pins s σ H x y v u Q I rx ry h
  obtain ⟨hs, q⟩ := h
  cases x with
  | non =>
    cases rx
    cases y with
    | non => cases ry; exact PySem.EqNone.eq_none_none (fin_bl I q (by simp))
    | bl j => cases ry; exact PySem.EqNone.eq_none_bool (fin_bl I q (by simp))
    | int j => obtain ⟨t', rfl⟩ := ry; exact PySem.EqNone.eq_none_int (fin_bl I q (by simp))
    | str j => obtain ⟨t', rfl⟩ := ry; exact PySem.EqNone.eq_none_str (fin_bl I q (by simp))
    | _ => exact absurd (show false = true from hs) Bool.false_ne_true
  | bl i =>
    cases rx
    cases y with
    | non => cases ry; exact PySem.EqNone.eq_bool_none (fin_bl I q (by simp))
    | bl j => cases ry; exact eq_bool (fin_bl I q dec_bl)
    | str j => obtain ⟨t', rfl⟩ := ry; exact PySem.EqMixed.eq_bool_str (fin_bl I q (by simp))
    | _ => exact absurd (show false = true from hs) Bool.false_ne_true
  | int i =>
    obtain ⟨t, rfl⟩ := rx
    cases y with
    | non => cases ry; exact PySem.EqNone.eq_int_none (fin_bl I q (by simp))
    | int j => obtain ⟨t', rfl⟩ := ry; exact eq_int (fin_bl I q dec_int)
    | str j => obtain ⟨t', rfl⟩ := ry; exact PySem.EqMixed.eq_int_str (fin_bl I q (by simp))
    | _ => exact absurd (show false = true from hs) Bool.false_ne_true
  | str i =>
    obtain ⟨t, rfl⟩ := rx
    cases y with
    | non => cases ry; exact PySem.EqNone.eq_str_none (fin_bl I q (by simp))
    | bl j => cases ry; exact PySem.EqMixed.eq_str_bool (fin_bl I q (by simp))
    | int j => obtain ⟨t', rfl⟩ := ry; exact PySem.EqMixed.eq_str_int (fin_bl I q (by simp))
    | str j => obtain ⟨t', rfl⟩ := ry; exact eq_str (fin_bl I q dec_str)
    | _ => exact absurd (show false = true from hs) Bool.false_ne_true
  | byt i =>
    obtain ⟨t, rfl⟩ := rx
    cases y with
    | byt j => obtain ⟨t', rfl⟩ := ry; exact PySem.W.eq_bytes (fin_bl I q dec_byt)
    | _ => exact absurd (show false = true from hs) Bool.false_ne_true
  | _ => cases y <;> exact absurd (show false = true from hs) Bool.false_ne_true
theorem op_ne : OpR X (compareOp .NotEq) rNe := by
  intro pins s σ H x y v u Q I rx ry h
  obtain ⟨hs, q⟩ := h
  cases x with
  | non =>
    cases rx
    cases y with
    | non => cases ry; exact PySem.EqNone.ne_none_none (fin_bl I q (by simp))
    | bl j => cases ry; exact PySem.EqNone.ne_none_bool (fin_bl I q (by simp))
    | int j => obtain ⟨t', rfl⟩ := ry; exact PySem.EqNone.ne_none_int (fin_bl I q (by simp))
    | str j => obtain ⟨t', rfl⟩ := ry; exact PySem.EqNone.ne_none_str (fin_bl I q (by simp))
    | _ => exact absurd (show false = true from hs) Bool.false_ne_true
  | bl i =>
    cases rx
    cases y with
    | non => cases ry; exact PySem.EqNone.ne_bool_none (fin_bl I q (by simp))
    | bl j => cases ry; exact ne_bool (fin_bl I q (congrArg not dec_bl))
    | str j => obtain ⟨t', rfl⟩ := ry; exact PySem.EqMixed.ne_bool_str (fin_bl I q (by simp))
    | _ => exact absurd (show false = true from hs) Bool.false_ne_true
  | int i =>
    obtain ⟨t, rfl⟩ := rx
    cases y with
    | non => cases ry; exact PySem.EqNone.ne_int_none (fin_bl I q (by simp))
    | int j => obtain ⟨t', rfl⟩ := ry; exact ne_int (fin_bl I q (congrArg not dec_int))
    | str j => obtain ⟨t', rfl⟩ := ry; exact PySem.EqMixed.ne_int_str (fin_bl I q (by simp))
    | _ => exact absurd (show false = true from hs) Bool.false_ne_true
  | str i =>
    obtain ⟨t, rfl⟩ := rx
    cases y with
    | non => cases ry; exact PySem.EqNone.ne_str_none (fin_bl I q (by simp))
    | bl j => cases ry; exact PySem.EqMixed.ne_str_bool (fin_bl I q (by simp))
    | int j => obtain ⟨t', rfl⟩ := ry; exact PySem.EqMixed.ne_str_int (fin_bl I q (by simp))
    | str j => obtain ⟨t', rfl⟩ := ry; exact ne_str (fin_bl I q (congrArg not dec_str))
    | _ => exact absurd (show false = true from hs) Bool.false_ne_true
  | byt i =>
    obtain ⟨t, rfl⟩ := rx
    cases y with
    | byt j => obtain ⟨t', rfl⟩ := ry; exact PySem.W.ne_bytes (fin_bl I q (congrArg not dec_byt))
    | _ => exact absurd (show false = true from hs) Bool.false_ne_true
  | _ => cases y <;> exact absurd (show false = true from hs) Bool.false_ne_true

theorem op_lt : OpR X (compareOp .Lt) (rI0 fun i j => .bl (decide (i < j))) := opB0 fun _ _ _ _ _ _ _ q => lt_int q
theorem op_le : OpR X (compareOp .LtE) (rI0 fun i j => .bl (decide (i ≤ j))) := opB0 fun _ _ _ _ _ _ _ q => le_int q
theorem op_gt : OpR X (compareOp .Gt) (rI0 fun i j => .bl (decide (j < i))) := opB0 fun _ _ _ _ _ _ _ q => gt_int q
theorem op_ge : OpR X (compareOp .GtE) (rI0 fun i j => .bl (decide (j ≤ i))) := opB0 fun _ _ _ _ _ _ _ q => ge_int q
theorem op_isN : OpR X (compareOp .Is) (fun x y H Q => y = .non ∧ Q (.bl (decide (x = .non))) H) := by
  intro pins s σ H x y v u Q I rx ry h
  obtain ⟨rfl, q⟩ := h
  cases ry
  refine is_none_gen (fin_bl I q ?_)
  cases x <;> first
    | (cases rx; rfl)
    | (obtain ⟨t, rfl⟩ := rx; rfl)
theorem nomark (b : Expr) {op : CmpOp} (h : op ≠ .In := by decide) (h2 : op ≠ .NotIn := by decide) : behindInMarks op b = false := by
  have e1 : (op == CmpOp.In) = false := by cases op <;> first | rfl | exact absurd rfl h
  have e2 : (op == CmpOp.NotIn) = false := by cases op <;> first | rfl | exact absurd rfl h2
  cases b <;> simp [behindInMarks, e1, e2]
theorem pe_cmpR {op : CmpOp} {r : R2} (ho : OpR X (compareOp op) r) (ha : PE X a ta) (hb : PE X b tb) (hm : behindInMarks op b = false) : PE X (.Compare a [op] [b] pos) (tOp r ta tb) := by
  intro pins s σ H Q I h
  exact wpAny_Compare1 (binT ha hb I h fun v u s2 x y H2 I2 rx ry q => ho pins s2 σ H2 x y v u Q I2 rx ry q) hm
def tTest (t : TE) : TT := fun σ H Q => t σ H fun x H' => ∃ k, x = .bl k ∧ Q k H'
theorem pt_cmpR {op : CmpOp} {r : R2} (ho : OpR X (compareOp op) r) (ha : PE X a ta) (hb : PE X b tb) (hm : behindInMarks op b = false) : PT X (.Compare a [op] [b] pos) (tTest (tOp r ta tb)) := by
  intro pins s σ H Q I h
  refine wpAny_isTrue_Compare1 (thn (ha pins s σ H _ I h) fun v s1 ⟨x, H1, I1, r1, q1⟩ => thn (hb pins s1 σ H1 _ I1 q1) fun u s2 ⟨y, H2, I2, r2, q2⟩ =>
    thn (ho pins s2 σ H2 x y v u _ I2 r1 r2 q2) fun c s3 ⟨z, H3, I3, r3, k, e, q3⟩ => ?_) hm
  subst e
  cases r3
  exact wpAny_truthy_bool ⟨H3, I3, q3⟩
def tChain (r r' : R2) (ta tb tc : TE) : TE := fun σ H Q => ta σ H fun x H1 => tb σ H1 fun y H2 => r x y H2 fun z H3 => ∃ k, z = .bl k ∧
  (if k = true then tc σ H3 fun w' H4 => r' y w' H4 Q else Q (.bl false) H3)
theorem pe_chain {op op' : CmpOp} {r r' : R2} (ho : OpR X (compareOp op) r) (ho' : OpR X (compareOp op') r') (ha : PE X a ta) (hb : PE X b tb) (hc : PE X c tc)
    (hm : lastMarks [op, op'] [b, c] = false := by with_unfolding_all rfl) : PE X (.Compare a [op, op'] [b, c] pos) (tChain r r' ta tb tc) := by
  intro pins s σ H Q I h
  refine Compare_chain (thn (ha pins s σ H _ I h) fun v s1 ⟨x, H1, I1, r1, q1⟩ => chain_link (thn (hb pins s1 σ H1 _ I1 q1) fun u s2 ⟨y, H2, I2, r2, q2⟩ =>
    thn (ho pins s2 σ H2 x y v u _ I2 r1 r2 q2) fun d s3 ⟨z, H3, I3, r3, k, e, q3⟩ => ?_)) hm
  subst e
  cases r3
  refine wpAny_truthy_bool ?_
  cases k with
  | false => exact ite_ff ⟨.bl false, H3, I3, rfl, q3⟩
  | true => exact ite_tt (chain_last (thn (hc pins s3 σ H3 _ I3 q3) fun w' s4 ⟨z', H4, I4, r4, q4⟩ => ho' pins s4 σ H4 y z' u w' Q I4 r2 r4 q4))
theorem pt_chain {op op' : CmpOp} {r r' : R2} (ho : OpR X (compareOp op) r) (ho' : OpR X (compareOp op') r') (ha : PE X a ta) (hb : PE X b tb) (hc : PE X c tc)
    (hm : lastMarks [op, op'] [b, c] = false := by with_unfolding_all rfl) : PT X (.Compare a [op, op'] [b, c] pos) (tTest (tChain r r' ta tb tc)) := by
  intro pins s σ H Q I h
  refine isTrue_chain (thn (ha pins s σ H _ I h) fun v s1 ⟨x, H1, I1, r1, q1⟩ => test_link (thn (hb pins s1 σ H1 _ I1 q1) fun u s2 ⟨y, H2, I2, r2, q2⟩ =>
    thn (ho pins s2 σ H2 x y v u _ I2 r1 r2 q2) fun d s3 ⟨z, H3, I3, r3, k, e, q3⟩ => ?_)) hm
  subst e
  cases r3
  refine wpAny_truthy_bool ?_
  cases k with
  | false =>
    obtain ⟨k', e', q'⟩ := q3
    cases e'
    exact ite_ff ⟨H3, I3, q'⟩
  | true =>
    refine ite_tt (test_last (thn (hc pins s3 σ H3 _ I3 q3) fun w' s4 ⟨z', H4, I4, r4, q4⟩ => thn (ho' pins s4 σ H4 y z' u w' _ I4 r2 r4 q4) fun d' s5 ⟨z2, H5, I5, r5, k2, e2, q5⟩ => ?_))
    subst e2
    cases r5
    exact wpAny_truthy_bool ⟨H5, I5, q5⟩

theorem line63 : (sizeLine : Nat) < 2 ^ 63 := by rw [sizeLine_eq]; decide
theorem vals1 {x : V} {us : List Value} (r : Vals [x] us) : ∃ u, us = [u] ∧ RelV x u := by
  cases r with
  | cons r1 r2 => cases r2; exact ⟨_, rfl, r1⟩
theorem vals2 {x y : V} {us : List Value} (r : Vals [x, y] us) : ∃ u w', us = [u, w'] ∧ RelV x u ∧ RelV y w' := by
  cases r with
  | cons r1 r2 =>
    cases r2 with
    | cons r3 r4 => cases r4; exact ⟨_, _, rfl, r1, r3⟩
theorem call_abs : CallR X (.builtin "abs") (fun xs H Q => ∃ i, xs = [.int i] ∧ Q (.int (if i < 0 then -i else i)) H) := by
  intro pins s σ H xs us Q I r h
  obtain ⟨i, rfl, q⟩ := h
  obtain ⟨u, rfl, t, rfl⟩ := vals1 r
  exact call_abs_int fun u tk => ⟨.int (if i < 0 then -i else i), H, I.tok _, ⟨_, rfl⟩, q⟩
end
end L2

namespace L2
open PySem PySem.Spec PyProof.Rows

structure ObjM (h : Heap) (x dx C : Addr) (mA : Str → Option Value) : Prop where
  obj : h.get? x = some (PySem.W.instObj C dx)
  ns : h.Ns1 dx mA
  ne : dx ≠ x

theorem lookIn_ns {h : Heap} {dx : Addr} {mA : Str → Option Value} (n : h.Ns1 dx mA) : ∃ od, h.get? dx = some od ∧ ∀ name, PySem.W.lookIn name od = some (mA name) := by
  obtain ⟨o, es, ep, ho, hd, hk, _, hm⟩ := n
  refine ⟨o, ho, fun name => ?_⟩
  have e := hm name
  unfold nsFind findBy at e
  rw [← Array.find?_toList] at e
  unfold PySem.W.lookIn
  rw [hd]
  dsimp only
  split
  · rename_i y q
    rw [q] at e
    exact congrArg some e
  · rename_i q
    rw [q] at e
    have a : es.toList.any (·.refKey) = false := by
      rw [List.any_eq_false]
      intro y hy
      obtain ⟨z, t, hkey⟩ := hk y (Array.mem_toList_iff.mp hy)
      simp [DictEntry.refKey, hkey]
    have a' : ¬ es.toList.any (·.refKey) = true := by rw [a]; exact Bool.false_ne_true
    rw [if_neg a']
    exact congrArg some e

theorem ObjM.look {h : Heap} {x dx C : Addr} {mA : Str → Option Value} (I : ObjM h x dx C mA) : ∃ od, PySem.W.InstAt h x (PySem.W.instObj C dx) C (some od) ∧ ∀ name, PySem.W.lookIn name od = some (mA name) :=
  let ⟨od, ho, hl⟩ := lookIn_ns I.ns
  ⟨od, ⟨I.obj, rfl, rfl, ho⟩, hl⟩

section
variable {prog : Program} {w : World} {A : Around} {E : Value → Shared → Prop} {s : Shared} {K : PySem.W.Frag} {x dx C f : Addr} {mA : Str → Option Value} {name : Str} {v : Value}

theorem set_map {ns : List Str} {Q : Unit → Shared → Prop} (X : K.In s.heap) (I : ObjM s.heap x dx C mA)
    (hs : PySem.W.findIn K (.ref C) "__setattr__" = some (some (.builtin "object.__setattr__"))) (hp : PySem.W.plainOver K C = true) (ht : PySem.W.takerIn K C name = some none) (hh : PySem.W.hasDictIn K C = true)
    (hw : PySem.Within mA ns) (hsz : ns.length ≤ sizeLine)
    (h : ∀ h', ObjM h' x dx C (fun y => if y = name then some v else mA y) → Heap.SameBut dx s.heap h' → Q () { s with heap := h', toks := s.toks + 2 }) :
    wpAny (model prog w) A (setAttr (.ref x) name v) Q E s := by
  obtain ⟨od, J, hl⟩ := I.look
  refine PySem.W.set_plain X J hs (PySem.W.osa_open (s := { s with toks := s.toks + 1 }) (r := none) X J hp ht fun b => ?_)
  obtain ⟨cd, hc, hd'⟩ := PySem.W.any_some hh
  have hx : s.heap.get? x = some ⟨.ref C, some dx, .plain, #[]⟩ := I.obj
  refine wpAny_bind (wpAny_pure (wpAny_bind (wpAny_bind (wpAny_loadPart hx (wpAny_bind (PySem.W.Looks.here (s := { s with toks := s.toks + 1 }) (PySem.W.looks_clsIn X hc) ?_))))))
  rw [hd']
  refine wpAny_pure (a := some dx) (wpAny_bind (wpAny_pure (wpAny_bind ?_)))
  refine wpAny_nsSet1 (s := { s with toks := s.toks + 1 }) I.ns fun h' hn2 hs2 => ?_
  obtain ⟨oD, esD, epD, hoD, hdD, hcD⟩ := hn2.count (PySem.Within.cons name v hw)
  refine wpAny_bind (wpAny_lookBehind hoD (by rw [hdD]; exact pastItsLine_dict (Nat.le_trans hcD (by rw [List.length_cons]; omega))) ?_)
  exact wpAny_pure (h _ ⟨(hs2.2 _ (Ne.symm I.ne)).trans I.obj, hn2, I.ne⟩ hs2)

theorem make_map {R : Result → Shared → Prop} {vs : List Value} {kw : List (Str × Value)} (X : K.In s.heap) (hm : PySem.W.makesIn K C = true)
    (hi : PySem.W.findIn K (.ref C) "__init__" = some (some (.ref f))) (hf : PySem.W.typeIn K (.ref f) = some (.type "function"))
    (h : codeAny (model prog w) (A.under (.builtin "type.__call__" ⟨.ref C :: vs, kw⟩)) (.call (.ref f) ⟨.ref (s.heap.objs.size + 1) :: vs, kw⟩) (PySem.W.InitBack (s.heap.objs.size + 1) R)
      { s with heap := (s.heap.push PySem.W.emptyDict).push (PySem.W.instObj C s.heap.objs.size) }) :
    codeAny (model prog w) A (.call (.ref C) ⟨vs, kw⟩) R s := by
  obtain ⟨hh, g, d, t, os⟩ := s
  exact PySem.W.make_core (PySem.W.makes_of X hm) (PySem.W.looks_findIn X hi) (fun self => PySem.W.bind_fn X self hf) (.inl rfl) h
theorem make_map0 {R : Result → Shared → Prop} (X : K.In s.heap) (hm : PySem.W.makesIn K C = true)
    (hi : PySem.W.findIn K (.ref C) "__init__" = some (some (.builtin "object.__init__")))
    (hb : ∀ self, PySem.W.Looks (model prog w) s.heap (bindSpecial (.builtin "object.__init__") self) (.builtin "object.__init__", [self]))
    (h : codeAny (model prog w) (A.under (.builtin "type.__call__" ⟨[.ref C], []⟩)) (.call (.builtin "object.__init__") ⟨[.ref (s.heap.objs.size + 1)], []⟩) (PySem.W.InitBack (s.heap.objs.size + 1) R)
      { s with heap := (s.heap.push PySem.W.emptyDict).push (PySem.W.instObj C s.heap.objs.size) }) :
    codeAny (model prog w) A (.call (.ref C) ⟨[], []⟩) R s := by
  obtain ⟨hh, g, d, t, os⟩ := s
  exact PySem.W.make_core (PySem.W.makes_of X hm) (PySem.W.looks_findIn X hi) hb (.inr ⟨rfl, rfl⟩) h
end

def putF (f : Str) (v : V) : List (Str × V) → List (Str × V)
  | [] => [(f, v)]
  | (g, x) :: r => if g = f then (g, v) :: r else (g, x) :: putF f v r
theorem lookup_putF (f g : Str) (v : V) : ∀ fs : List (Str × V), (putF f v fs).lookup g = if g = f then some v else fs.lookup g
  | [] => by
    show List.lookup g [(f, v)] = _
    by_cases h : g = f
    · have hb : (g == f) = true := beq_iff_eq.mpr h
      simp only [List.lookup, hb, if_pos h]
    · have hb : (g == f) = false := beq_eq_false_iff_ne.mpr h
      simp only [List.lookup, hb, if_neg h]
  | (k, x) :: r => by
    have ih := lookup_putF f g v r
    rw [show putF f v ((k, x) :: r) = (if k = f then (k, v) :: r else (k, x) :: putF f v r) from rfl]
    by_cases hk : k = f
    · rw [if_pos hk]
      by_cases h : g = k
      · have hb : (g == k) = true := beq_iff_eq.mpr h
        simp only [List.lookup, hb, if_pos (h.trans hk)]
      · have hb : (g == k) = false := beq_eq_false_iff_ne.mpr h
        simp only [List.lookup, hb, if_neg (fun e : g = f => h (e.trans hk.symm))]
    · rw [if_neg hk]
      by_cases h : g = k
      · have hb : (g == k) = true := beq_iff_eq.mpr h
        simp only [List.lookup, hb, if_neg (fun e : g = f => hk (h.symm.trans e))]
      · have hb : (g == k) = false := beq_eq_false_iff_ne.mpr h
        simp only [List.lookup, hb]
        exact ih
theorem keys_putF (f : Str) (v : V) : ∀ fs : List (Str × V), f ∈ (putF f v fs).map (·.1) ∧ ∀ g, g ∈ fs.map (·.1) → g ∈ (putF f v fs).map (·.1)
  | [] => ⟨by simp [putF], fun g h => by simp at h⟩
  | (k, x) :: r => by
    obtain ⟨i1, i2⟩ := keys_putF f v r
    rw [show putF f v ((k, x) :: r) = (if k = f then (k, v) :: r else (k, x) :: putF f v r) from rfl]
    by_cases hk : k = f
    · rw [if_pos hk]
      subst hk
      exact ⟨by simp, fun g h => by simpa using h⟩
    · rw [if_neg hk]
      refine ⟨?_, fun g h => ?_⟩
      · rw [List.map_cons]
        exact List.mem_cons_of_mem _ i1
      · rw [List.map_cons] at h ⊢
        rcases List.mem_cons.mp h with e | e
        · exact List.mem_cons.mpr (.inl e)
        · exact List.mem_cons_of_mem _ (i2 g e)
theorem length_putF (f : Str) (v : V) : ∀ fs : List (Str × V), (putF f v fs).length ≤ fs.length + 1
  | [] => by simp [putF]
  | (k, x) :: r => by
    have ih := length_putF f v r
    rw [show putF f v ((k, x) :: r) = (if k = f then (k, v) :: r else (k, x) :: putF f v r) from rfl]
    by_cases hk : k = f
    · rw [if_pos hk, List.length_cons, List.length_cons]; omega
    · rw [if_neg hk, List.length_cons, List.length_cons]; omega

section
variable {P : Program} {w : World} {H H' : Hp} {h h' : Heap} {a C dx : Addr} {fs fs' : List (Str × V)}
theorem ins_get (hok : HOk P w H h) (e : H a = some (.ins C dx fs)) : ∃ mA, ObjM h a dx C mA ∧ (∀ f, RelO (fs.lookup f) (mA f)) ∧ PySem.Within mA (fs.map (·.1)) ∧ fs.length ≤ 1000 ∧ H dx = some (.own a) := by
  obtain ⟨d, z, ne, ob, mA, n, r, q⟩ := (show ObjOk P w H h a (.ins C dx fs) from hok a _ e)
  exact ⟨mA, ⟨ob, n, ne⟩, r, q, z, d⟩
end

structure Cls (K : PySem.W.Frag) (C : Addr) : Prop where
  pg : PySem.W.plainGet K C Str.empty = true
  hd : PySem.W.hasDictIn K C = true
  po : PySem.W.plainOver K C = true
  sa : PySem.W.findIn K (.ref C) "__setattr__" = some (some (.builtin "object.__setattr__"))
theorem Cls.get {K : PySem.W.Frag} {C : Addr} (c : Cls K C) (f : Str) : PySem.W.plainGet K C f = true := c.pg
def NoAttr (K : PySem.W.Frag) (C : Addr) (f : Str) : Prop := PySem.W.findIn K (.ref C) f = some none
theorem NoAttr.taker {K : PySem.W.Frag} {C : Addr} {f : Str} (n : NoAttr K C f) : PySem.W.takerIn K C f = some none := by
  unfold PySem.W.takerIn
  rw [show PySem.W.findIn K (.ref C) f = some none from n]
  rfl
structure Con (K : PySem.W.Frag) (C : Addr) (f : Str) (v : V) (u : Value) : Prop where
  at_ : PySem.W.findIn K (.ref C) f = some (some u)
  rel : RelV v u
  get : PySem.W.specialIn K u "__get__" = some none
  cp : PySem.W.copiedNames.contains f = false
structure Meth (K : PySem.W.Frag) (C : Addr) (m : Str) (f : Addr) : Prop where
  at_ : PySem.W.findIn K (.ref C) m = some (some (.ref f))
  fn : PySem.W.isFn K (.ref f) = true
  kp : PySem.W.keepIn K (.ref f) = true

section
variable {X : Cx} {pins : List (Addr × Obj)} {σ : St} {H : Hp} {s : Shared} {a C dx : Addr} {fs : List (Str × V)} {f : Str} {v : V} {A : Around} {E : Value → Shared → Prop}

theorem setattr_ok {y : V} {u : Value} {Q : Unit → Shared → Prop} (I : Inv X pins σ H s) (e : H a = some (.ins C dx fs)) (c : Cls X.K C) (n : NoAttr X.K C f) (hl : fs.length < 1000) (ry : RelV y u)
    (h : ∀ s', Inv X pins σ (upd H a (.ins C dx (putF f y fs))) s' → Q () s') : wpAny (model X.prog X.w) A (setAttr (.ref a) f u) Q E s := by
  obtain ⟨mA, O, r, wi, _, ho⟩ := ins_get I.hok e
  have hz : (fs.map (·.1)).length ≤ sizeLine := by rw [List.length_map, sizeLine_eq]; omega
  refine set_map I.kIn O c.sa c.po n.taker c.hd wi hz fun h' O' sb => h _ ?_
  have hd : ∃ o, h'.get? dx = some o := let ⟨o, _, _, e', _⟩ := O'.ns; ⟨o, e'⟩
  refine I.write (x := a) (e := dx) (by rw [e]; exact True.intro) (.inr ho) (fun b q hb z => (sb.2 b hb).trans z) hd ?_
  refine ⟨by rw [upd_ne O.ne]; exact ho, ?_, O.ne, O'.obj, _, O'.ns, fun g => ?_, fun g hg => ?_⟩
  · have := length_putF f y fs; omega
  · show RelO ((putF f y fs).lookup g) (if g = f then some u else mA g)
    rw [lookup_putF]
    by_cases q : g = f
    · rw [if_pos q, if_pos q]; exact ry
    · rw [if_neg q, if_neg q]; exact r g
  · by_cases q : g = f
    · rw [q]; exact (keys_putF f y fs).1
    · refine (keys_putF f y fs).2 g (wi g fun z => hg ?_)
      show (if g = f then some u else mA g) = none
      rw [if_neg q]; exact z

theorem Inv.made (I : Inv X pins σ H s) : Inv X pins σ (upd (upd H s.heap.objs.size (.own (s.heap.objs.size + 1))) (s.heap.objs.size + 1) (.ins C s.heap.objs.size []))
    { s with heap := (s.heap.push PySem.W.emptyDict).push (PySem.W.instObj C s.heap.objs.size) } := by
  have e1 : (s.heap.push PySem.W.emptyDict).get? s.heap.objs.size = some PySem.W.emptyDict := Heap.get?_push_size s.heap rfl
  have e2 : ((s.heap.push PySem.W.emptyDict).push (PySem.W.instObj C s.heap.objs.size)).get? (s.heap.objs.size + 1) = some (PySem.W.instObj C s.heap.objs.size) := by
    have := Heap.get?_push_size (s.heap.push PySem.W.emptyDict) (o := PySem.W.instObj C s.heap.objs.size) rfl
    rwa [Heap.size_push] at this
  have e3 : (s.heap.push PySem.W.emptyDict).Ns s.heap.objs.size (fun _ => none) := ⟨PySem.W.emptyDict, #[], _, e1, rfl, (fun e he => absurd he (by simp)), fun _ => rfl⟩
  have I1 := I.laid (a := s.heap.objs.size) (o := .own (s.heap.objs.size + 1)) (h' := s.heap.push PySem.W.emptyDict) (t' := s.toks) (fun b u q => Heap.get?_push_of_some _ q) (Nat.le_refl _) ⟨_, e1⟩
  refine I1.laid (a := s.heap.objs.size + 1) (o := .ins C s.heap.objs.size []) (t' := s.toks) (fun b u q => Heap.get?_push_of_some _ q) (Nat.le_of_eq (Heap.size_push _ _)) ?_
  have ne : s.heap.objs.size ≠ s.heap.objs.size + 1 := Nat.ne_of_lt (Nat.lt_succ_self _)
  refine ⟨by rw [upd_ne ne, upd_same], Nat.zero_le _, ne, e2, fun _ => none, (Heap.Ns1.of_empty e3).at fun o q => Heap.get?_push_of_some _ q, fun _ => True.intro, fun y hy => absurd rfl hy⟩

end

def sFld (K : PySem.W.Frag) (ta tv : TE) (f : Str) : TS := fun D σ H => tv σ H fun y H1 => ta σ H1 fun x H2 => ∃ a C dx fs, x = .ref a ∧ H2 a = some (.ins C dx fs) ∧ Cls K C ∧ NoAttr K C f ∧ fs.length < 1000 ∧
  D.nx σ (upd H2 a (.ins C dx (putF f y fs)))
section
variable {X : Cx} {o e value : Expr} {f : Str} {pos pos' tpos : Pos} {ta tv : TE}
theorem ps_fld (ha : PE X o ta) (hv : PE X value tv) (hs : swapsWith value (some (.Attribute o f pos')) pos.line X.env = pure false) : PS X (.Assign [.Attribute o f pos'] value pos) (sFld X.K ta tv f) := by
  intro pins s σ H D I h
  refine plainObj_wpAny_Assign_Attribute (thn (hv pins s σ H _ I h) fun u s1 ⟨y, H1, I1, ry, q⟩ => thn (ha pins s1 σ H1 _ I1 q) fun ov s2 ⟨x, H2, I2, rx, a, C, dx, fs, ex, ea, c, n, l, q2⟩ => ?_) hs
  subst ex
  obtain rfl : ov = Value.ref a := rx
  exact setattr_ok I2 ea c n l ry fun s3 I3 => ⟨σ, _, I3, q2⟩
end

section
variable {X : Cx} {pins : List (Addr × Obj)} {σ : St} {H : Hp} {s : Shared} {A : Around} {E : Value → Shared → Prop} {Q : Value → Shared → Prop} {c : Value} {b : Bool}
inductive TyOf (K : PySem.W.Frag) (H : Hp) : V → Value → Prop where
  | non : TyOf K H .non (.type "NoneType")
  | bl (x : Bool) : TyOf K H (.bl x) (.type "bool")
  | int (i : Int) : TyOf K H (.int i) (.type "int")
  | str (x : Str) : TyOf K H (.str x) (.type "str")
  | flt (x : UInt64) : TyOf K H (.flt x) (.type "float")
  | lst {a : Addr} {xs : List V} (e : H a = some (.lst xs)) : TyOf K H (.ref a) (.type "list")
  | frz {a : Addr} {o : Obj} {xs : List V} (e : H a = some (.frz o (.lst xs))) : TyOf K H (.ref a) (.type "list")
  | tup {a : Addr} {xs : List V} (e : H a = some (.tup xs)) : TyOf K H (.ref a) (.type "tuple")
  | dK {a : Addr} {kvs : List (Key × V)} (e : H a = some (.dK kvs)) : TyOf K H (.ref a) (.type "dict")
  | dT {a : Addr} {kvs : List (List Key × V)} (e : H a = some (.dT kvs)) : TyOf K H (.ref a) (.type "dict")
  | ins {a C dx : Addr} {fs : List (Str × V)} (e : H a = some (.ins C dx fs)) (cl : Cls K C) (ha : PySem.W.findIn K (.ref C) "__class__" = some (some (.builtin "object.__class__")))
      (hn : PySem.W.specialIn K (.builtin "object.__class__") "__get__" = some (some (.builtin "getset_descriptor.__get__"))) (htk : PySem.W.takesIn K (.builtin "object.__class__") = some true)
      (hm : PySem.W.mroIn K C (.type "object") = some true) : TyOf K H (.ref a) (.ref C)
end
end L2

namespace L2
open PySem PySem.Spec PyProof.Rows

structure Room (k : Nat) (A : Around) : Prop where
  hd : A.handled = none
  dp : A.depth + 3 * k + 5 < recursionLimit
  un : A.units + 16 * k + 200 < cLine
theorem Room.mono {j k : Nat} {A : Around} (r : Room k A) (h : j ≤ k) : Room j A := ⟨r.hd, by have := r.dp; omega, by have := r.un; omega⟩
theorem Room.deeper {k : Nat} {A : Around} (r : Room (k + 1) A) (env : Env) : Room k (A.deeper env) :=
  ⟨r.hd, by have := r.dp; show A.depth + 1 + 3 * k + 5 < _; omega, by have := r.un; show A.units + 3 + 16 * k + 200 < _; omega⟩
theorem Room.in1 {k : Nat} {A : Around} (r : Room (k + 1) A) : Room k A.in1 :=
  ⟨r.hd, by have := r.dp; show A.depth + 3 * k + 5 < _; omega, by have := r.un; show A.units + 1 + 16 * k + 200 < _; omega⟩
theorem make_depth {A : Around} {C : Addr} {us : List Value} {kw : List (Str × Value)} : (A.under (.builtin "type.__call__" ⟨.ref C :: us, kw⟩)).depth = A.depth + 1 := by
  first | rfl | simp [Around.under, Code.weight, Code.isCreation, Code.isGuard, Code.isCaller, Code.frames, Code.isFrame, guardIds]
theorem make_units {A : Around} {C : Addr} {us : List Value} {kw : List (Str × Value)} : (A.under (.builtin "type.__call__" ⟨.ref C :: us, kw⟩)).units = A.units + 1 := by
  first | rfl | simp [Around.under, Code.cUnits, Code.frames, Code.isFrame]
theorem Room.make {k : Nat} {A : Around} (r : Room (k + 1) A) (C : Addr) (us : List Value) (kw : List (Str × Value)) : Room k (A.under (.builtin "type.__call__" ⟨.ref C :: us, kw⟩)) :=
  ⟨r.hd, by have := r.dp; rw [make_depth]; omega, by have := r.un; rw [make_units]; omega⟩
theorem Room.depth {k : Nat} {A : Around} (r : Room k A) : A.depth < recursionLimit := by have := r.dp; omega
theorem Room.units {k : Nat} {A : Around} (r : Room k A) : A.units + 64 < cLine := by have := r.un; omega
def tNil : TA := fun _ H Q => Q [] H
def tCons (ta : TE) (tr : TA) : TA := fun σ H Q => ta σ H fun x H1 => tr σ H1 fun xs H2 => Q (x :: xs) H2
section
variable {X : Cx} {e : Expr} {es : List Expr} {te : TE} {t : TA} {pos : Pos}
theorem pa_nil : PA X [] tNil := fun _ _ _ _ H Q I h => Calls.spliced_nil ⟨[], H, I, .nil, h⟩
theorem pa_cons (ha : PE X e te) (hr : PA X es t) (hs : starEach (e :: es) X.env = (false, eval e X.env) :: starEach es X.env := by rfl) : PA X (e :: es) (tCons te t) := by
  intro pos pins s σ H Q I h
  rw [hs]
  show wpAny _ _ (spliced ((false, eval e X.env) :: backTo pos (starEach es X.env))) _ _ s
  refine Calls.spliced_cons (thn (ha pins s σ H _ I h) fun u s1 ⟨x, H1, I1, r1, q1⟩ => ?_)
  exact thn (hr pos pins s1 σ H1 _ I1 q1) fun us s2 ⟨xs, H2, I2, r2, q2⟩ => ⟨x :: xs, H2, I2, .cons r1 r2, q2⟩

def tTup (t : TA) : TE := fun σ H Q => t σ H fun xs H1 => xs.length ≤ sizeLine ∧ ∀ p, H1 p = none → Q (.ref p) (upd H1 p (.tup xs))
def tLst (t : TA) : TE := fun σ H Q => t σ H fun xs H1 => xs.length ≤ sizeLine ∧ ∀ p, H1 p = none → Q (.ref p) (upd H1 p (.lst xs))
theorem pe_tup {x1} (h : PA X es t) : PE X (.Tuple es x1 pos) (tTup t) := by
  intro pins s σ H Q I hq
  refine wpAny_Tuple_spliced (thn (h pos pins s σ H _ I hq) fun us s1 ⟨xs, H1, I1, r, z, q⟩ => ⟨by rw [← r.length]; exact z, ?_⟩)
  have hf : H1 s1.heap.objs.size = none := I1.hok.fresh (Nat.le_refl _)
  refine ⟨.ref s1.heap.objs.size, upd H1 s1.heap.objs.size (.tup xs), I1.laid (t' := s1.toks) (fun b u e => Heap.get?_push_of_some _ e) (Nat.le_refl _) ?_, rfl, q _ hf⟩
  exact ⟨z, us, r, ⟨_, Heap.get?_push_size _ rfl, rfl, _, rfl⟩, _, Heap.get?_push_size _ rfl, rfl⟩
theorem pe_lst (h : PA X es t) : PE X (.List es pos) (tLst t) := by
  intro pins s σ H Q I hq
  refine wpAny_List_spliced (thn (h pos pins s σ H _ I hq) fun us s1 ⟨xs, H1, I1, r, z, q⟩ => ⟨by rw [← r.length]; exact z, ?_⟩)
  have hf : H1 s1.heap.objs.size = none := I1.hok.fresh (Nat.le_refl _)
  refine ⟨.ref s1.heap.objs.size, upd H1 s1.heap.objs.size (.lst xs), I1.laid (t' := s1.toks) (fun b u e => Heap.get?_push_of_some _ e) (Nat.le_refl _) ?_, rfl, q _ hf⟩
  exact ⟨z, us, 0, r, Heap.get?_push_size _ rfl⟩
end

abbrev Sp := List V → Hp → VK → XK → Prop
abbrev CXT := List Env → Hp → Shared → XK → Value → Shared → Prop

structure Env0 (P : Program) (w : World) (K : PySem.W.Frag) (mg : Str → Option Value) (base : Heap) (A : Around) (outer : List Env) (s : Shared) (H : Hp) : Prop where
  frames : A.frames = some outer
  mod : Mod K mg base
  bs : ∀ b o, base.get? b = some o → s.heap.get? b = some o ∧ H b = none
  bsz : base.objs.size ≤ s.heap.objs.size
  funs : s.heap.FunFrames base outer
  frf : ∀ b ∈ frs outer, H b = none
  hok : HOk P w H s.heap
  bare : AllBare s.gens
def CE (outer : List Env) (P : Program) (w : World) (H : Hp) (s : Shared) (Q : VK) (u : Value) (s' : Shared) : Prop :=
  ∃ v H', s'.os = s.os ∧ AllBare s'.gens ∧ Un (frs outer) [] H H' s.heap s'.heap ∧ HOk P w H' s'.heap ∧ RelV v u ∧ Q v H'
def CR (CX : CXT) (outer : List Env) (P : Program) (w : World) (H : Hp) (s : Shared) (Q : VK) (E : XK) (r : Result) (s' : Shared) : Prop :=
  match r with
  | .ok (.ret u) => CE outer P w H s Q u s'
  | .ok _ => False
  | .error e => CX outer H s E e s'
structure FnOk (P : Program) (w : World) (K : PySem.W.Frag) (mg : Str → Option Value) (base : Heap) (CX : CXT) (k : Nat) (f : Addr) (fd : FuncData) (ps : List Str) (sp : Sp) : Prop where
  len : ∀ vs H Q E, sp vs H Q E → vs.length = ps.length
  run : ∀ (A : Around) (outer : List Env) (s : Shared) (H : Hp) (args : Args) (us : List Value) (vs : List V) (Q : VK) (E : XK), Room k A → Env0 P w K mg base A outer s H → BindsTo s fd args (ps.zip us) → Vals vs us → sp vs H Q E →
    codeAny (model P w) A (.call (.ref f) args) (CR CX outer P w H s Q E) s
theorem FnOk.mono {P : Program} {w : World} {K : PySem.W.Frag} {mg : Str → Option Value} {base : Heap} {CX : CXT} {j k : Nat} {f : Addr} {fd : FuncData} {ps : List Str} {sp : Sp} (F : FnOk P w K mg base CX j f fd ps sp) (h : j ≤ k) :
    FnOk P w K mg base CX k f fd ps sp := ⟨F.len, fun A outer s H args us vs Q E hr => F.run A outer s H args us vs Q E (hr.mono h)⟩
theorem Env0.make {P : Program} {w : World} {K : PySem.W.Frag} {mg : Str → Option Value} {base : Heap} {A : Around} {outer : List Env} {s : Shared} {H : Hp} (e : Env0 P w K mg base A outer s H) (C : Addr) (us : List Value) (kw : List (Str × Value)) :
    Env0 P w K mg base (A.under (.builtin "type.__call__" ⟨.ref C :: us, kw⟩)) outer s H := ⟨by first | exact e.frames | (simpa [Around.under, Code.envs, Code.isFrame, pushEnvs] using e.frames), e.mod, e.bs, e.bsz, e.funs, e.frf, e.hok, e.bare⟩
theorem Env0.in1 {P : Program} {w : World} {K : PySem.W.Frag} {mg : Str → Option Value} {base : Heap} {A : Around} {outer : List Env} {s : Shared} {H : Hp} (e : Env0 P w K mg base A outer s H) :
    Env0 P w K mg base A.in1 outer s H := ⟨e.frames, e.mod, e.bs, e.bsz, e.funs, e.frf, e.hok, e.bare⟩

section
variable {X : Cx} {pins : List (Addr × Obj)} {σ : St} {H : Hp} {s s' : Shared}
theorem Inv.env0 (I : Inv X pins σ H s) : Env0 X.prog X.w X.K X.mg X.base X.A X.stack s H :=
  ⟨I.ok.frames, I.ok.mod, I.bs, Nat.le_trans I.ok.bsz I.sz, I.stack, I.stkFree, I.hok, I.bare⟩
theorem Inv.after {Q : VK} {u : Value} (I : Inv X pins σ H s) (h : CE X.stack X.prog X.w H s Q u s') : EP X pins σ Q u s' := by
  obtain ⟨v, H', os, bare, un, hok, r, q⟩ := h
  obtain ⟨hh, g, d, t, os'⟩ := s'
  obtain rfl : os' = s.os := os
  exact ⟨v, H', I.call (h' := hh) (g' := g) (d' := d) (t' := t) (ch := []) un hok bare (fun b z => absurd z (by simp)), r, q⟩
end

def tCall (sp : Sp) (dvs : List V) (E : XK) (t : TA) : TE := fun σ H Q => t σ H fun vs H1 => sp (vs ++ dvs) H1 Q E
def tMake (C : Addr) (sp : Sp) (dvs : List V) (E : XK) (t : TA) : TE := fun σ H Q => t σ H fun vs H1 => ∀ x dx, H1 x = none → H1 dx = none → dx ≠ x →
  sp (.ref x :: (vs ++ dvs)) (upd (upd H1 dx (.own x)) x (.ins C dx [])) (fun v H2 => v = .non ∧ Q (.ref x) H2) E

def Binds (K : PySem.W.Frag) (fd : FuncData) (ps : List Str) (ds : List Value) : Prop :=
  ∀ (s : Shared) (us : List Value), K.In s.heap → (us ++ ds).length = ps.length → BindsTo s fd ⟨us, []⟩ (ps.zip (us ++ ds))
theorem Binds.all {K : PySem.W.Frag} {fd : FuncData} {ps : List Str} (h : ∀ us : List Value, us.length = ps.length → bindArgs fd ⟨us, []⟩ = pure (ps.zip us)) : Binds K fd ps [] := fun s us _ hl => by
  rw [List.append_nil] at hl ⊢
  exact .of_eq (h us hl)

def Passes (CX : CXT) (X : Cx) (E : XK) : Prop := ∀ (pins : List (Addr × Obj)) (σ : St) (H : Hp) (s : Shared) (e : Value) (s' : Shared), Inv X pins σ H s → CX X.stack H s E e s' → X.xe e s'

section
variable {X : Cx} {CX : CXT} {k : Nat} {f C : Addr} {fd : FuncData} {ps : List Str} {sp : Sp} {dvs : List V} {ds : List Value} {E : XK} {x m : Str} {p pos apos : Pos} {e o : Expr} {es : List Expr} {ta : TE} {t : TA}

theorem run_fn {pins : List (Addr × Obj)} {σ : St} {H : Hp} {s : Shared} {Q : VK} {us : List Value} {vs : List V} (F : FnOk X.prog X.w X.K X.mg X.base CX k f fd ps sp) (hr : Room k X.A) (hb : Binds X.K fd ps ds) (hd : Vals dvs ds) (hx : Passes CX X E)
    (I : Inv X pins σ H s) (r : Vals vs us) (h : sp (vs ++ dvs) H Q E) : wpAny (model X.prog X.w) X.A (call (.ref f) us) (EP X pins σ Q) X.xe s := by
  have r2 : Vals (vs ++ dvs) (us ++ ds) := r.append hd
  have hl : (us ++ ds).length = ps.length := by rw [← r2.length]; exact F.len _ _ _ _ h
  refine wpAny_call (codeAny_mono (F.run X.A X.stack s H ⟨us, []⟩ (us ++ ds) (vs ++ dvs) Q E hr I.env0 (hb s us I.kIn hl) r2 h) fun r s' hq => ?_)
  cases r with
  | error e => exact hx pins σ H s e s' I hq
  | ok fl =>
    cases fl with
    | ret u => exact I.after hq
    | next => exact False.elim hq
    | brk => exact False.elim hq
    | cont => exact False.elim hq

theorem pe_call (F : FnOk X.prog X.w X.K X.mg X.base CX k f fd ps sp) (hr : Room k X.A) (hg : Gl X x) (hm : X.mg x = some (.ref f)) (hk : PySem.W.keepIn X.K (.ref f) = true) (hb : Binds X.K fd ps ds) (hd : Vals dvs ds) (hx : Passes CX X E)
    (ha : PA X (e :: es) t) (hdb : (x == ("__debug__" : Str)) = false := by decide) (he : starEach (e :: es) X.env = (false, eval e X.env) :: starEach es X.env := by rfl) (hpl : (backTo pos (starEach es X.env)).any (·.1) = false := by rfl) :
    PE X (.Call (.Name x p) (e :: es) [] pos) (tCall sp dvs E t) := by
  intro pins s σ H Q I h
  refine wpAny_Call_Name_kw (ld_glob I hg hm ?_ hdb)
  refine PySem.W.callWith_K (h₀ := X.base) I.ok.mod.kin hk (thn (ha pos pins s σ H _ I h) fun us s1 ⟨vs, H1, I1, r, q⟩ => ⟨I1.kIn, ?_⟩) he hpl
  exact run_fn F hr hb hd hx I1 r q
structure Mk (K : PySem.W.Frag) (C f : Addr) : Prop where
  makes : PySem.W.makesIn K C = true
  init : PySem.W.findIn K (.ref C) "__init__" = some (some (.ref f))
  fn : PySem.W.isFn K (.ref f) = true
  kp : PySem.W.keepIn K (.ref C) = true

theorem run_make {pins : List (Addr × Obj)} {σ : St} {H : Hp} {s : Shared} {Q : VK} {us : List Value} {vs : List V} (M : Mk X.K C f) (F : FnOk X.prog X.w X.K X.mg X.base CX k f fd ps sp) (hr : Room (k + 1) X.A) (hb : Binds X.K fd ps ds) (hd : Vals dvs ds)
    (hx : Passes CX X E) (I : Inv X pins σ H s) (r : Vals vs us)
    (h : ∀ x dx, H x = none → H dx = none → dx ≠ x → sp (.ref x :: (vs ++ dvs)) (upd (upd H dx (.own x)) x (.ins C dx [])) (fun v H2 => v = .non ∧ Q (.ref x) H2) E) :
    wpAny (model X.prog X.w) X.A (call (.ref C) us) (EP X pins σ Q) X.xe s := by
  have hq := h (s.heap.objs.size + 1) s.heap.objs.size (I.hok.fresh (Nat.le_succ _)) (I.hok.fresh (Nat.le_refl _)) (Nat.ne_of_lt (Nat.lt_succ_self _))
  have I2 := Inv.made (C := C) I
  have r2 : Vals (V.ref (s.heap.objs.size + 1) :: (vs ++ dvs)) (Value.ref (s.heap.objs.size + 1) :: (us ++ ds)) := .cons rfl (r.append hd)
  have hl : (Value.ref (s.heap.objs.size + 1) :: us ++ ds).length = ps.length := by
    have e := r2.length
    rw [F.len _ _ _ _ hq] at e
    exact e.symm
  refine wpAny_call (make_map (f := f) I.kIn M.makes M.init (beq_iff_eq.mp M.fn) (codeAny_mono (F.run _ X.stack _ _ ⟨Value.ref (s.heap.objs.size + 1) :: us, []⟩ (Value.ref (s.heap.objs.size + 1) :: (us ++ ds)) _ _ E (hr.make C us [])
    (I2.env0.make C us []) (hb _ (Value.ref (s.heap.objs.size + 1) :: us) I2.kIn hl) r2 hq) fun r s' hq' => ?_))
  cases r with
  | error e => exact hx pins σ _ _ e s' I2 hq'
  | ok fl =>
    cases fl with
    | ret u =>
      obtain ⟨v, H', I3, rv, ev, q3⟩ := I2.after hq'
      subst ev
      exact ⟨rv, ⟨V.ref (s.heap.objs.size + 1), H', I3, rfl, q3⟩⟩
    | next => exact False.elim hq'
    | brk => exact False.elim hq'
    | cont => exact False.elim hq'
theorem pe_make (M : Mk X.K C f) (F : FnOk X.prog X.w X.K X.mg X.base CX k f fd ps sp) (hr : Room (k + 1) X.A) (hg : Gl X x) (hm : X.mg x = some (.ref C)) (hb : Binds X.K fd ps ds) (hd : Vals dvs ds) (hx : Passes CX X E)
    (ha : PA X (e :: es) t) (hdb : (x == ("__debug__" : Str)) = false := by decide) (he : starEach (e :: es) X.env = (false, eval e X.env) :: starEach es X.env := by rfl) (hpl : (backTo pos (starEach es X.env)).any (·.1) = false := by rfl) :
    PE X (.Call (.Name x p) (e :: es) [] pos) (tMake C sp dvs E t) := by
  intro pins s σ H Q I h
  refine wpAny_Call_Name_kw (ld_glob I hg hm ?_ hdb)
  refine PySem.W.callWith_K (h₀ := X.base) I.ok.mod.kin M.kp (thn (ha pos pins s σ H _ I h) fun us s1 ⟨vs, H1, I1, r, q⟩ => ⟨I1.kIn, ?_⟩) he hpl
  exact run_make M F hr hb hd hx I1 r q
end

section
variable {X : Cx} {CX : CXT} {k : Nat} {f C : Addr} {fd : FuncData} {ps ks : List Str} {sp : Sp} {E : XK} {x m : Str} {p pos apos kpos : Pos} {e o : Expr} {es : List Expr} {kws : List Keyword} {te ta : TE} {t tk : TA} {nm : Option Str}
structure KBinds (K : PySem.W.Frag) (fd : FuncData) (ps ks : List Str) (g : List Value → List Value → List Value) (gV : List V → List V → List V) : Prop where
  to : ∀ (s : Shared) (us ws : List Value), K.In s.heap → (g us ws).length = ps.length → BindsTo s fd ⟨us, ks.zip ws⟩ (ps.zip (g us ws))
  rel : ∀ {vs : List V} {us : List Value} {zs : List V} {ws : List Value}, Vals vs us → Vals zs ws → Vals (gV vs zs) (g us ws)
variable {g : List Value → List Value → List Value} {gV : List V → List V → List V}
end

structure FnScope (N P : List Str) (sc : Scope) : Prop where
  kind : sc.kind = .function
  co : sc.isCoroutine = false
  gen : sc.isGenerator = false
  nd : N.Nodup
  pre : N.take P.length = P
  par : ∀ x ∈ P, sc.names.lookup x = some .local ∨ sc.names.lookup x = some .cell
  nofree : ∀ y ∈ sc.names, y.2 ≠ .free

theorem bindL_out {kindOf : Str → Option NameKind} {x : Str} : ∀ {binds : List (Str × Value)} {m : Str → Option Value}, (∀ v, (x, v) ∉ binds) → bindL kindOf binds m x = m x
  | [], _, _ => rfl
  | (n, v) :: r, m, h => by
    unfold bindL
    rw [bindL_out fun w hw => h w (List.mem_cons_of_mem _ hw)]
    split
    · have : x ≠ n := by rintro rfl; exact h v List.mem_cons_self
      simp [this]
    · rfl
theorem bindC_out {kindOf : Str → Option NameKind} {x : Str} : ∀ {binds : List (Str × Value)} {m : Str → Option Value}, (∀ v, (x, v) ∉ binds) → bindC kindOf binds m x = m x
  | [], _, _ => rfl
  | (n, v) :: r, m, h => by
    unfold bindC
    rw [bindC_out fun w hw => h w (List.mem_cons_of_mem _ hw)]
    split
    · rfl
    · have : x ≠ n := by rintro rfl; exact h v List.mem_cons_self
      simp [this]
theorem bindL_get {kindOf : Str → Option NameKind} {x : Str} {v : Value} : ∀ {P : List Str} {vs : List Value} {i : Nat} {m : Str → Option Value}, P.Nodup → P[i]? = some x → vs[i]? = some v → kindOf x = some .local →
    bindL kindOf (P.zip vs) m x = some v
  | [], _, _, _, _, h, _, _ => by simp at h
  | _ :: _, [], _, _, _, _, h, _ => by simp at h
  | p :: P, w :: vs, 0, m, nd, h1, h2, hk => by
    simp at h1 h2; subst h1; subst h2
    show bindL kindOf ((p, w) :: P.zip vs) m p = _
    unfold bindL
    rw [bindL_out fun v hv => (List.nodup_cons.mp nd).1 (List.of_mem_zip hv).1, if_pos hk]
    simp
  | p :: P, w :: vs, i + 1, m, nd, h1, h2, hk => by
    show bindL kindOf ((p, w) :: P.zip vs) m x = _
    unfold bindL
    exact bindL_get (i := i) (List.nodup_cons.mp nd).2 (by simpa using h1) (by simpa using h2) hk
theorem bindC_get {kindOf : Str → Option NameKind} {x : Str} {v : Value} : ∀ {P : List Str} {vs : List Value} {i : Nat} {m : Str → Option Value}, P.Nodup → P[i]? = some x → vs[i]? = some v → kindOf x ≠ some .local →
    bindC kindOf (P.zip vs) m x = some v
  | [], _, _, _, _, h, _, _ => by simp at h
  | _ :: _, [], _, _, _, _, h, _ => by simp at h
  | p :: P, w :: vs, 0, m, nd, h1, h2, hk => by
    simp at h1 h2; subst h1; subst h2
    show bindC kindOf ((p, w) :: P.zip vs) m p = _
    unfold bindC
    rw [bindC_out fun v hv => (List.nodup_cons.mp nd).1 (List.of_mem_zip hv).1, if_neg hk]
    simp
  | p :: P, w :: vs, i + 1, m, nd, h1, h2, hk => by
    show bindC kindOf ((p, w) :: P.zip vs) m x = _
    unfold bindC
    exact bindC_get (i := i) (List.nodup_cons.mp nd).2 (by simpa using h1) (by simpa using h2) hk

def start (N : List Str) (vs : List V) : St := vs.map some ++ List.replicate (N.length - vs.length) none

def cxOf (CX : CXT) (P : Program) (w : World) (K : PySem.W.Frag) (mg : Str → Option Value) (base : Heap) (N : List Str) (qual : Str) (scope : Scope) (f : Addr) (cd : Value) (A : Around) (outer : List Env) (s : Shared) (H : Hp) (E : XK) : Cx where
  prog := P
  w := w
  K := K
  mg := mg
  base := base
  A := A.deeper (envOfC qual scope s.heap.objs.size f cd)
  N := N
  s₀ := s
  H₀ := H
  env := envOfC qual scope s.heap.objs.size f cd
  outer := outer
  stack := envOfC qual scope s.heap.objs.size f cd :: outer
  ex := []
  calm := true
  fn := fun _ => true
  pn := []
  xe := fun e s' => wpAny (model P w) (A.deeper (envOfC qual scope s.heap.objs.size f cd)) (leaving (envOfC qual scope s.heap.objs.size f cd) e) (fun _ s'' => CX outer H s E e s'') (fun e' s'' => CX outer H s E e' s'') s'

theorem cell_has {sc : Scope} {n : Nat} {x : Str} (h : sc.names.lookup x = some .cell) : ∃ c, (cellsFrom n sc.names []).lookup x = some c := by
  have q := PySem.W.cellsFrom_some sc.names n [] (.inl h)
  exact Option.isSome_iff_exists.mp q

theorem inv_start {CX : CXT} {P : Program} {w : World} {K : PySem.W.Frag} {mg : Str → Option Value} {base : Heap} {N ps : List Str} {qual : Str} {scope : Scope} {f : Addr} {cd : Value} {A : Around} {outer : List Env} {s s1 : Shared} {H : Hp} {E : XK} {us : List Value} {vs : List V}
    (S : FnScope N ps scope) (hd : A.handled = none) (e0 : Env0 P w K mg base A outer s H) (hl : vs.length = ps.length) (r : Vals vs us)
    (x : InCallC s s.heap.objs.size (bindL (envOfC qual scope s.heap.objs.size f cd).kindOf (ps.zip us) fun _ => none) (cellsFrom (s.heap.objs.size + 1) scope.names []) (bindC (envOfC qual scope s.heap.objs.size f cd).kindOf (ps.zip us) fun _ => none) s1) :
    Inv (cxOf CX P w K mg base N qual scope f cd A outer s H E) [] (start N vs) H s1 := by
  have hpl : ps.length ≤ N.length := by have := congrArg List.length S.pre; rw [List.length_take] at this; omega
  obtain ⟨h1, tk, rfl, hk⟩ := x.done
  have noA : ∀ b : Addr, b ∉ (cxOf CX P w K mg base N qual scope f cd A outer s H E).ex := fun b z => absurd (show b ∈ ([] : List Addr) from z) (by simp)
  refine ⟨⟨e0.mod, S.kind, rfl, rfl, Nat.le_refl _, fun y z c h1 h2 => ?_, fun y hy => ?_, fun y c _ h => ?_, fun _ => hd, Around.frames_deeper e0.frames, .inr ⟨rfl, rfl⟩, fun b z => absurd z (noA b), e0.bs, e0.bsz, fun b _ _ => noA b, fun b z => absurd z (noA b), e0.funs, e0.frf⟩,
    rfl, e0.bare, Un.kept hk, ⟨_, x.toInCall.ns, fun i y v h1 h2 h3 => ?_⟩, fun y c h => ⟨_, x.cell y c h⟩, e0.hok.fresh (Nat.le_refl _), fun y c h => ?_, fun p hp => absurd (show p ∈ ([] : List (Addr × Obj)) from hp) (by simp), e0.hok.kept hk, ?_⟩
  · exact name_of_addr x.apart (PySem.mem_of_lookup h1) (PySem.mem_of_lookup h2)
  · have hy : scope.names.lookup y = some .cell ∨ scope.names.lookup y = some .free := hy
    rcases hy with hy | hy
    · exact cell_has hy
    · exact absurd rfl (S.nofree _ (PySem.mem_of_lookup hy))
  · exact Nat.le_of_lt (x.above y c (PySem.mem_of_lookup h))
  · have hi : i < vs.length := by
      unfold start at h2
      by_cases hi : i < vs.length
      · exact hi
      · rw [List.getElem?_append_right (by simpa using hi)] at h2
        rw [List.getElem?_replicate] at h2
        split at h2 <;> cases h2
    have ha : vs[i]? = some v := by
      unfold start at h2
      rw [List.getElem?_append_left (by simpa using hi), List.getElem?_map] at h2
      cases e : vs[i]? with
      | none => rw [e] at h2; cases h2
      | some a => rw [e] at h2; cases h2; rfl
    obtain ⟨u, hu, rv⟩ := r.get ha
    have hp : ps[i]? = some y := by
      rw [← S.pre, List.getElem?_take_of_lt (by omega)]; exact h1
    have ndP : ps.Nodup := by rw [← S.pre]; exact S.nd.sublist (List.take_sublist _ _)
    refine ⟨u, rv, ?_⟩
    rcases S.par y (List.mem_of_getElem? hp) with k | k
    · exact .inl ⟨k, bindL_get ndP hp hu k⟩
    · obtain ⟨c, e⟩ := cell_has (n := s.heap.objs.size + 1) k
      refine .inr ⟨.inl k, c, e, ?_⟩
      have q := x.cell y c e
      rw [bindC_get ndP hp hu (by show scope.names.lookup y ≠ _; rw [k]; decide)] at q
      exact q
  · exact e0.hok.fresh (Nat.le_of_lt (x.above y c (PySem.mem_of_lookup h)))
  · unfold start
    show _ = N.length
    rw [List.length_append, List.length_map, List.length_replicate]
    omega

theorem fn_of {CX : CXT} {P : Program} {w : World} {K : PySem.W.Frag} {mg : Str → Option Value} {base : Heap} {k : Nat} {f : Addr} {name qual : Str} {params : Arguments} {body : List Stmt} {scope : Scope} {dV kV doc pm cdv ct oc : Value} {an od : Option Addr}
    {osl : Array (Option Value)} {N ps : List Str} {sp : Sp} (lk : K.lookup f = some ⟨oc, od, .func (PySem.W.fnOf name qual params body scope dV kV doc pm an cdv ct), osl⟩) (hcd : PySem.W.codeIn K cdv qual = true) (S : FnScope N ps scope)
    (len : ∀ vs H Q E, sp vs H Q E → vs.length = ps.length)
    (hbody : ∀ (A : Around) (outer : List Env) (s : Shared) (H : Hp) (vs : List V) (Q : VK) (E : XK), Room k (A.deeper (envOfC qual scope s.heap.objs.size f cdv)) → sp vs H Q E →
      ∃ t, PSs (cxOf CX P w K mg base N qual scope f cdv A outer s H E) body t ∧ t { nx := fun _ H' => Q .non H', rt := Q } (start N vs) H) :
    FnOk P w K mg base CX (k + 1) f (PySem.W.fnOf name qual params body scope dV kV doc pm an cdv ct) ps sp := by
  refine ⟨len, fun A outer s H args us vs Q E hr e0 hb r hsp => ?_⟩
  have hl := len _ _ _ _ hsp
  have KX : K.In s.heap := e0.mod.kin.keeps fun b o e => (e0.bs b o e).1
  have lim : s.heap.NoLimit := e0.mod.nolimit.keeps fun b o e => (e0.bs b o e).1
  have hkind : ∀ y ∈ ps.zip us, scope.names.lookup y.1 = some .local ∨ (scope.names.lookup y.1 = some .cell ∧ ((cellsFrom (s.heap.objs.size + 1) scope.names []).lookup y.1).isSome = true) := fun ⟨n, v⟩ hy => by
    rcases S.par n (List.of_mem_zip hy).1 with q | q
    · exact .inl q
    · exact .inr ⟨q, PySem.W.cellsFrom_some _ _ _ (.inl q)⟩
  refine codeAny_call_function hr.depth (KX _ _ lk) rfl S.co S.gen rfl (PySem.W.codeRec_of KX hcd) (hb _ _ _ _ ?_)
  refine wpAny_newFunctionEnv_cells S.kind hkind fun env he s1 x => ?_
  subst he
  refine ⟨lim.keeps x.toInCall.keep, codeAny_func ?_⟩
  obtain ⟨t, ht, hq⟩ := hbody A outer s H vs Q E (hr.deeper _) hsp
  have I : Inv (cxOf CX P w K mg base N qual scope f cdv A outer s H E) [] (start N vs) H s1 := inv_start S hr.hd e0 hl r x
  refine wpAny_mono (ht [] s1 (start N vs) H _ I hq) (fun fl s' hs => ?_) fun e s' hs => hs
  have fin : ∀ {σ' : St} {H' : Hp} {v : V} {u : Value}, Inv (cxOf CX P w K mg base N qual scope f cdv A outer s H E) [] σ' H' s' → RelV v u → Q v H' → CE outer P w H s Q u s' :=
    fun {σ' H' v u} J rv q => ⟨v, H', J.os, J.bare, J.base, J.hok, rv, q⟩
  cases fl with
  | ret u =>
    obtain ⟨v, σ', H', J, rv, q⟩ := hs
    exact fin J rv q
  | next =>
    obtain ⟨σ', H', J, q⟩ := hs
    exact fin (v := V.non) (u := Value.none) J rfl q
  | brk =>
    obtain ⟨_, _, _, q⟩ := hs
    exact False.elim q
  | cont =>
    obtain ⟨_, _, _, q⟩ := hs
    exact False.elim q
end L2

namespace L2
open PySem PySem.Spec PyProof.Rows
section
variable {X : Cx} {x : Str} {p pos : Pos} {e : Expr} {es : List Expr} {t : TA} {id T : String} {r : List V → Hp → VK → Prop}

def tCB (r : List V → Hp → VK → Prop) (t : TA) : TE := fun σ H Q => t σ H fun vs H1 => r vs H1 Q
theorem pe_callB (hc : CallR X (.builtin id) r) (hg : Gl X x) (hm : X.mg x = none) (hv : bootBuiltins x = some (.builtin id)) (ha : PA X (e :: es) t) (hn : x ≠ "__name__" := by decide) (hdb : (x == ("__debug__" : Str)) = false := by decide)
    (he : starEach (e :: es) X.env = (false, eval e X.env) :: starEach es X.env := by rfl) (hpl : (backTo pos (starEach es X.env)).any (·.1) = false := by rfl) : PE X (.Call (.Name x p) (e :: es) [] pos) (tCB r t) := by
  intro pins s σ H Q I h
  refine wpAny_Call_Name_kw (ld_blt I hg hm hv ?_ hn hdb)
  exact PyProof.Rows.callWith_builtin1 (thn (ha pos pins s σ H _ I h) fun us s1 ⟨vs, H1, I1, r1, q1⟩ => hc pins s1 σ H1 vs us Q I1 r1 q1) he hpl
theorem pe_callTy (hc : CallR X (.type T) r) (hg : Gl X x) (hm : X.mg x = none) (hv : bootBuiltins x = some (.type T)) (ha : PA X (e :: es) t) (hn : x ≠ "__name__" := by decide) (hdb : (x == ("__debug__" : Str)) = false := by decide)
    (he : starEach (e :: es) X.env = (false, eval e X.env) :: starEach es X.env := by rfl) (hpl : (backTo pos (starEach es X.env)).any (·.1) = false := by rfl) : PE X (.Call (.Name x p) (e :: es) [] pos) (tCB r t) := by
  intro pins s σ H Q I h
  refine wpAny_Call_Name_kw (ld_blt I hg hm hv ?_ hn hdb)
  exact PyProof.Rows.callWith_type1 (thn (ha pos pins s σ H _ I h) fun us s1 ⟨vs, H1, I1, r1, q1⟩ => hc pins s1 σ H1 vs us Q I1 r1 q1) he hpl
end
end L2

namespace HT
open PySem PyProof.Rows

section
open PySem.SeqAt
open PySem.AutoSeq1 (wpAny_loadPart')
open PySem.MeetsSeq PySem.MeetsSeq2 PySem.MeetsSeq3

end

section
variable {prog : Program} {w : World} {A : Around} {E : Value → Shared → Prop} {s : Shared}

theorem cat_tup {t b : Addr} {vs ws : List Value} {Q : Value → Shared → Prop} (ht : IsTup s.heap t vs.toArray) (hb : IsTup s.heap b ws.toArray) (hv : vs ≠ [])
    (h1 : ws = [] → Q (.ref t) s) (h2 : ws ≠ [] → Q (.ref s.heap.objs.size) { s with heap := s.heap.push { cls := .type "tuple", data := .seq (vs ++ ws).toArray } })
    (hsz : vs.length + ws.length ≤ sizeLine) : wpAny (model prog w) A (binaryOp .Add (.ref t) (.ref b)) Q E s := by
  obtain ⟨⟨cls, dd, data, sl⟩, ho, hc, n, hd⟩ := id ht
  obtain ⟨⟨cls2, dd2, data2, sl2⟩, ho2, hc2, n2, hd2⟩ := id hb
  simp only at hc hd hc2 hd2
  subst hc hd hc2 hd2
  have e : vs.toArray ++ ws.toArray = (vs ++ ws).toArray := by simp
  by_cases hw : ws = []
  · exact concat_meets ⟨_, ho, rfl⟩ ⟨_, ho2, rfl⟩ noFill_tuple_add seq_tuple_add PySem.F.slot_tuple_add PySem.F.entry_tuple_add (PySem.F.args_tuple_add_2 _ _)
      (tuple_addW1 t b vs.toArray ws.toArray n n2 dd dd2 sl sl2 (by simpa using hv) (by simp [hw])) ⟨ho, ho2, h1 hw⟩
  · refine concat_meets ⟨_, ho, rfl⟩ ⟨_, ho2, rfl⟩ noFill_tuple_add seq_tuple_add PySem.F.slot_tuple_add PySem.F.entry_tuple_add (PySem.F.args_tuple_add_2 _ _)
      (tuple_addW2 t b vs.toArray ws.toArray n n2 dd dd2 sl sl2 (by simpa using hv) (by simpa using hw) (by rw [List.size_toArray, List.size_toArray]; exact hsz)) ⟨ho, ho2, ?_⟩
    rw [e]
    exact h2 hw

def sIx (n d : Nat) : Option Int → Nat
  | none => d
  | some v => if v < 0 then (v + (n : Int)).toNat else min v.toNat n
theorem sIx_none (n d : Nat) : sIx n d none = d := rfl
theorem sIx_nat (n d k : Nat) : sIx n d (some (k : Int)) = min k n := by
  show (if (k : Int) < 0 then ((k : Int) + (n : Int)).toNat else min (k : Int).toNat n) = min k n
  rw [if_neg (by omega), Int.toNat_natCast]
theorem sIx_le (n d : Nat) (hd : d ≤ n) (o : Option Int) : sIx n d o ≤ n := by
  cases o with
  | none => exact hd
  | some v =>
    show (if v < 0 then (v + (n : Int)).toNat else min v.toNat n) ≤ n
    by_cases hv : v < 0
    · rw [if_pos hv]; omega
    · rw [if_neg hv]; exact Nat.min_le_right _ _
theorem clip_eq (v : Int) (n d : Nat) : (if v < 0 then max (v + (n : Int)) 0 else min v (n : Int)) = ((sIx n d (some v) : Nat) : Int) := by
  show (if v < 0 then max (v + (n : Int)) 0 else min v (n : Int)) = (((if v < 0 then (v + (n : Int)).toNat else min v.toNat n) : Nat) : Int)
  by_cases hv : v < 0
  · simp only [if_pos hv]; omega
  · simp only [if_neg hv]; omega
theorem adjust_gen (lo hi : Option Int) (n : Nat) : Builtin.Slice.sliceAdjust lo hi 1 (n : Int) = (((sIx n 0 lo : Nat) : Int), ((sIx n n hi : Nat) : Int)) := by
  have h1 : ¬ ((1 : Int) < 0) := by omega
  unfold Builtin.Slice.sliceAdjust
  simp only [h1, if_false]
  refine Prod.ext ?_ ?_
  · cases lo with
    | none => rfl
    | some v => exact clip_eq v n 0
  · cases hi with
    | none => rfl
    | some v => exact clip_eq v n n
theorem places_gen (i j : Nat) : Builtin.Slice.slicePlaces (i : Int) (j : Int) 1 = j - i := by
  unfold Builtin.Slice.slicePlaces
  have h1 : (1 : Int) > 0 := by omega
  simp only [h1, if_true, Int.ediv_one]
  split <;> omega
theorem slicePart_ {v : Value} {o : Option Int} {Q : Option Int → Shared → Prop} (p : IsPart v o) (h : Q o s) : wpAny (model prog w) A (Builtin.Slice.slicePartIndex v) Q E s := by
  cases p with
  | none => exact slicePart_none h
  | int i t => exact slicePart_int h
theorem sliceApplied_gen {sl : Addr} {vl vu : Value} {lo hi : Option Int} {n : Nat} {Q : Int × Int × Nat → Shared → Prop} (hs : s.heap.IsSliceOf sl vl vu .none) (pl : IsPart vl lo) (pu : IsPart vu hi)
    (h : Q (((sIx n 0 lo : Nat) : Int), 1, sIx n n hi - sIx n 0 lo) s) : wpAny (model prog w) A (Builtin.Slice.sliceApplied (.ref sl) (pure (n : Int))) Q E s := by
  obtain ⟨os, hos, hcs, hds⟩ := id hs
  unfold Builtin.Slice.sliceApplied Builtin.Slice.sliceFields
  refine wpAny_bind (wpAny_bind (wpAny_field hos hds (x := vl) rfl (wpAny_bind (wpAny_field hos hds (x := vu) rfl (wpAny_bind (wpAny_field hos hds (x := .none) rfl (wpAny_pure ?_)))))))
  refine wpAny_bind (slicePart_none ?_)
  show wpAny _ _ (if ((1 : Int) == 0) = true then _ else _) _ _ s
  rw [if_neg (by decide)]
  refine wpAny_bind (slicePart_ pl (wpAny_bind (slicePart_ pu (wpAny_bind (wpAny_pure ?_)))))
  show wpAny _ _ (match Builtin.Slice.sliceAdjust lo hi 1 (n : Int) with | (lo, hi) => pure (lo, (1 : Int), Builtin.Slice.slicePlaces lo hi 1)) _ _ s
  rw [adjust_gen lo hi n]
  show wpAny _ _ (pure (((sIx n 0 lo : Nat) : Int), (1 : Int), Builtin.Slice.slicePlaces ((sIx n 0 lo : Nat) : Int) ((sIx n n hi : Nat) : Int) 1)) _ _ s
  rw [places_gen]
  exact wpAny_pure h
theorem pick_gen (xs : Array Value) (i k : Nat) : ((List.range k).filterMap fun (m : Nat) => xs[((i : Int) + (m : Int) * 1).toNat]?).toArray = ((xs.toList.drop i).take k).toArray := by
  have e : (fun (m : Nat) => xs[((i : Int) + (m : Int) * 1).toNat]?) = fun m => xs[i + m]? := by
    funext m
    have : ((i : Int) + (m : Int) * 1).toNat = i + m := by omega
    rw [this]
  rw [e]
  have := pick_run xs i k
  rw [List.filterMap_map] at this
  have e2 : ((fun x => xs[x]?) ∘ fun x => i + x) = fun m => xs[i + m]? := rfl
  rw [e2] at this
  rw [this]

theorem getItem_tuple_cut {t sl : Addr} {items : Array Value} {vl vu : Value} {lo hi : Option Int} {Q : Value → Shared → Prop} (ht : IsTup s.heap t items) (hs : s.heap.IsSliceOf sl vl vu .none) (pl : IsPart vl lo) (pu : IsPart vu hi)
    (hw : ¬ (sIx items.size 0 lo = 0 ∧ sIx items.size items.size hi = items.size))
    (h : Q (.ref s.heap.objs.size) { s with heap := s.heap.push { cls := .type "tuple", data := .seq ((items.toList.drop (sIx items.size 0 lo)).take (sIx items.size items.size hi - sIx items.size 0 lo)).toArray } })
    (hsz : items.size ≤ sizeLine) : wpAny (model prog w) A (getItem (.ref t) (.ref sl)) Q E s := by
  have htake : sizeOk (.seq ((items.toList.drop (sIx items.size 0 lo)).take (sIx items.size items.size hi - sIx items.size 0 lo)).toArray) := by
    show ((items.toList.drop (sIx items.size 0 lo)).take (sIx items.size items.size hi - sIx items.size 0 lo)).toArray.size ≤ sizeLine
    rw [List.size_toArray, List.length_take, List.length_drop, Array.length_toList]
    omega
  have hj : sIx items.size items.size hi ≤ items.size := sIx_le _ _ (Nat.le_refl _) hi
  obtain ⟨os, hos, hcs, hds⟩ := id hs
  have hTs : s.TypeIs (.ref sl) "slice" := ⟨os, hos, hcs⟩
  unfold getItem
  try with_reducible refine wpAny_holding ?_
  first | refine wpAny_bind (wpAny_pure ?_) | skip
  refine wpAny_bind (wpAny_sequenceKey ht.typeIs (by decide) ?_)
  refine wpAny_bind (wpAny_callSpecial?_slot (name := Str.ofString "__getitem__") ht.typeIs PyProof.Rows.slot_tuple_getitem
    (wpAny_call_entry PyProof.Rows.slot_tuple_getitem ht.typeIs entry_tuple_getitem ?_ (args_tuple_getitem _ _)))
  show wpAny _ _ (Builtin.Tuple.tupleItemsOf (.ref t) >>= _) _ _ s
  refine wpAny_bind (tupleItemsOf_ ht ?_)
  refine wpAny_bind (wpAny_typeOf hTs ?_)
  rw [if_pos (by decide)]
  refine wpAny_bind (sliceApplied_gen hs pl pu ?_)
  have hno : ¬ ((((sIx items.size 0 lo : Nat) : Int) == 0 && (1 : Int) == 1 && (sIx items.size items.size hi - sIx items.size 0 lo) == items.size) = true) := by
    intro q
    rw [Bool.and_eq_true, Bool.and_eq_true] at q
    have q1 : ((sIx items.size 0 lo : Nat) : Int) = 0 := eq_of_beq q.1.1
    have q2 : sIx items.size items.size hi - sIx items.size 0 lo = items.size := eq_of_beq q.2
    exact hw ⟨by omega, by omega⟩
  show wpAny _ _ (if (((sIx items.size 0 lo : Nat) : Int) == 0 && (1 : Int) == 1 && (sIx items.size items.size hi - sIx items.size 0 lo) == items.size) = true then _ else _) _ _ s
  rw [if_neg hno, pick_gen]
  first
    | exact wpAny_bind (m := Builtin.Tuple.tupleExact _) (wpAny_newObj_type (wpAny_pure ⟨_, rfl, wpAny_pure h⟩) htake)
    | exact wpAny_bind (m := Builtin.Tuple.tupleExact _) (wpAny_newObj_type (wpAny_bind (wpAny_pure (wpAny_pure ⟨_, rfl, wpAny_pure h⟩))) htake)
    | exact wpAny_bind (wpAny_bind (m := Builtin.Tuple.tupleExact _) (wpAny_newObj_type (wpAny_pure (wpAny_pure ⟨_, rfl, wpAny_pure h⟩)) htake))
    | exact wpAny_bind (wpAny_bind (m := Builtin.Tuple.tupleExact _) (wpAny_newObj_type (wpAny_pure ⟨_, rfl, wpAny_pure h⟩) htake))
end
end HT

namespace L2
open PySem PySem.Spec PyProof.Rows

abbrev TO := St → Hp → (Option Int → Hp → Prop) → Prop
def PO (X : Cx) (e : Option Expr) (t : TO) : Prop :=
  ∀ (pins : List (Addr × Obj)) (s : Shared) (σ : St) (H : Hp) (Q : Option Int → Hp → Prop), Inv X pins σ H s → t σ H Q →
    wpAny (model X.prog X.w) X.A (evalPart e X.env) (fun u s' => ∃ o H', Inv X pins σ H' s' ∧ IsPart u o ∧ Q o H') X.xe s
def tNoPart : TO := fun _ H Q => Q none H
def tPart (t : TE) : TO := fun σ H Q => t σ H fun x H1 => ∃ i, x = .int i ∧ Q (some i) H1

section
variable {X : Cx} {e : Expr} {te : TE} {lo hi : Option Expr} {tl th : TO} {pos p2 : Pos}

theorem po_none : PO X none tNoPart := by
  intro pins s σ H Q I h
  rw [evalPart_none]
  exact wpAny_pure ⟨none, H, I, .none, h⟩
theorem po_some (h : PE X e te) : PO X (some e) (tPart te) := by
  intro pins s σ H Q I hw
  rw [evalPart_some]
  refine thn (h pins s σ H _ I hw) fun u s1 ⟨x, H1, I1, r1, q1⟩ => ?_
  obtain ⟨i, rfl, q⟩ := q1
  obtain ⟨t, rfl⟩ := r1
  exact ⟨some i, H1, I1, .int i t, q⟩

def SlR (X : Cx) (r : V → Option Int → Option Int → Hp → VK → Prop) : Prop :=
  ∀ (pins : List (Addr × Obj)) (s : Shared) (σ : St) (H : Hp) (x : V) (v vl vu : Value) (lo hi : Option Int) (sl : Addr) (Q : VK), Inv X pins σ H s → RelV x v → s.heap.IsSliceOf sl vl vu .none → IsPart vl lo → IsPart vu hi → r x lo hi H Q →
    ∃ T id, typeLookup (.type T) "__getitem__" = pure (some (.builtin id)) ∧ s.TypeIs v T ∧ wpAny (model X.prog X.w) X.A (getItem v (.ref sl)) (EP X pins σ Q) X.xe s
def tSl (r : V → Option Int → Option Int → Hp → VK → Prop) (te : TE) (tl th : TO) : TE := fun σ H Q => te σ H fun x H1 => tl σ H1 fun l H2 => th σ H2 fun u H3 => r x l u H3 Q
theorem pe_slice {r : V → Option Int → Option Int → Hp → VK → Prop} (hr : SlR X r) (he : PE X e te) (hl : PO X lo tl) (hu : PO X hi th) : PE X (.Subscript e (.Slice lo hi none p2) pos) (tSl r te tl th) := by
  intro pins s σ H Q I h
  refine Subscript_ (thn (he pins s σ H _ I h) fun v s1 ⟨x, H1, I1, r1, q1⟩ => ?_)
  refine wpAny_Slice (thn (hl pins s1 σ H1 _ I1 q1) fun vl s2 ⟨l, H2, I2, pl, q2⟩ => thn (hu pins s2 σ H2 _ I2 q2) fun vu s3 ⟨u, H3, I3, pu, q3⟩ => ?_)
  rw [evalPart_none]
  refine wpAny_pure ?_
  have I4 : Inv X pins σ H3 { s3 with heap := s3.heap.push { cls := .type "slice", data := .fields #[vl, vu, .none] } } := I3.kept (t' := s3.toks) fun b ob q => Heap.get?_push_of_some _ q
  obtain ⟨T, id, hT, ht, hg⟩ := hr pins { s3 with heap := s3.heap.push { cls := .type "slice", data := .fields #[vl, vu, .none] } } σ H3 x v vl vu l u s3.heap.objs.size Q I4 r1 (Heap.IsSliceOf.new ..) pl pu q3
  show wpAny (model X.prog X.w) X.A (subscriptTail e (.Slice lo hi none p2) v (.ref s3.heap.objs.size)) (EP X pins σ Q) X.xe { s3 with heap := s3.heap.push { cls := .type "slice", data := .fields #[vl, vu, .none] } }
  exact tail_any (ops := [.ref s3.heap.objs.size, v]) ht hT hg (by with_unfolding_all rfl)

def cutV (xs : List V) (lo hi : Option Int) : List V := (xs.drop (HT.sIx xs.length 0 lo)).take (HT.sIx xs.length xs.length hi - HT.sIx xs.length 0 lo)
theorem cutV_length (xs : List V) (lo hi : Option Int) : (cutV xs lo hi).length ≤ xs.length := by
  unfold cutV
  rw [List.length_take, List.length_drop]
  omega
def rSlT (K : PySem.W.Frag) : V → Option Int → Option Int → Hp → VK → Prop := fun x lo hi H Q => ∃ a xs, x = .ref a ∧ SqT K H a xs ∧
  ¬ (HT.sIx xs.length 0 lo = 0 ∧ HT.sIx xs.length xs.length hi = xs.length) ∧ ∀ p, H p = none → Q (.ref p) (upd H p (.tup (cutV xs lo hi)))
theorem sl_tup : SlR X (rSlT X.K) := by
  intro pins s σ H x v vl vu lo hi sl Q I rx hs pl pu h
  obtain ⟨a, xs, rfl, hx, hw, q⟩ := h
  cases rx
  obtain ⟨its, r, ht, hz⟩ := I.tuple hx
  have hlen : its.toArray.size = xs.length := by rw [List.size_toArray]; exact r.length.symm
  refine ⟨"tuple", _, PyProof.Rows.slot_tuple_getitem.lookup, ht.typeIs, ?_⟩
  refine HT.getItem_tuple_cut ht hs pl pu (by rw [hlen]; exact hw) ?_ (by rw [hlen]; exact hz)
  rw [hlen]
  refine ⟨.ref s.heap.objs.size, _, I.laid (t' := s.toks) (o := .tup (cutV xs lo hi)) (fun b ob q => Heap.get?_push_of_some _ q) (Nat.le_refl _) ?_, rfl, q _ (I.hok.fresh (Nat.le_refl _))⟩
  exact ⟨Nat.le_trans (cutV_length xs lo hi) hz, _, (r.drop (HT.sIx xs.length 0 lo)).take (HT.sIx xs.length xs.length hi - HT.sIx xs.length 0 lo), IsTup.new _ _, _, Heap.get?_push_size _ rfl, rfl⟩

def rCatT (K : PySem.W.Frag) : R2 := fun x y H Q => ∃ a b xs ys, x = .ref a ∧ y = .ref b ∧ SqT K H a xs ∧ SqT K H b ys ∧ xs ≠ [] ∧ xs.length + ys.length ≤ sizeLine ∧
  (ys = [] → Q (.ref a) H) ∧ (ys ≠ [] → ∀ p, H p = none → Q (.ref p) (upd H p (.tup (xs ++ ys))))
theorem Vals.nil_iff {xs : List V} {us : List Value} (r : Vals xs us) : us = [] ↔ xs = [] := by
  cases r with
  | nil => simp
  | cons _ _ => simp
theorem op_catT : OpR X (binaryOp .Add) (rCatT X.K) := by
  intro pins s σ H x y v u Q I rx ry h
  obtain ⟨a, b, xs, ys, rfl, rfl, ha, hb, hx, hz, q1, q2⟩ := h
  cases rx
  cases ry
  obtain ⟨its, r1, p1, _⟩ := I.tuple ha
  obtain ⟨its2, r2, p2, _⟩ := I.tuple hb
  refine HT.cat_tup p1 p2 (fun z => hx (r1.nil_iff.mp z)) (fun z => ⟨.ref a, H, I, rfl, q1 (r2.nil_iff.mp z)⟩) (fun z => ?_) (by rw [← r1.length, ← r2.length]; exact hz)
  refine ⟨.ref s.heap.objs.size, _, I.laid (t' := s.toks) (o := .tup (xs ++ ys)) (fun b ob q => Heap.get?_push_of_some _ q) (Nat.le_refl _) ?_, rfl, q2 (fun w => z (r2.nil_iff.mpr w)) _ (I.hok.fresh (Nat.le_refl _))⟩
  exact ⟨by rw [List.length_append]; exact hz, _, r1.append r2, IsTup.new _ _, _, Heap.get?_push_size _ rfl, rfl⟩
end
end L2

namespace L2
open PySem PySem.Spec PyProof.Rows

def ixN (n : Nat) (i : Int) : Option Nat := if 0 ≤ i then (if i < n then some i.toNat else none) else if -(n : Int) ≤ i then some (i + n).toNat else none
def atI {α : Type} (xs : List α) (i : Int) : Option α := (ixN xs.length i).bind fun j => xs[j]?
theorem ixN_seq {n : Nat} {i : Int} {j : Nat} (h : ixN n i = some j) : seqIndex? i n = some j ∧ j < n ∧ -(n : Int) ≤ i ∧ i < n := by
  unfold ixN at h
  by_cases h0 : 0 ≤ i
  · rw [if_pos h0] at h
    by_cases h1 : i < n
    · rw [if_pos h1] at h
      have e : i.toNat = j := Option.some.inj h
      exact ⟨by rw [seqIndex_of h0 h1, e], by omega, by omega, h1⟩
    · rw [if_neg h1] at h; cases h
  · rw [if_neg h0] at h
    by_cases h1 : -(n : Int) ≤ i
    · rw [if_pos h1] at h
      have e : (i + n).toNat = j := Option.some.inj h
      exact ⟨by rw [seqIndex_neg (by omega) h1, e], by omega, h1, by omega⟩
    · rw [if_neg h1] at h; cases h
theorem atI_get {α : Type} {xs : List α} {i : Int} {v : α} (h : atI xs i = some v) : ∃ j, seqIndex? i xs.length = some j ∧ xs[j]? = some v ∧ j < xs.length ∧ -(xs.length : Int) ≤ i ∧ i < xs.length := by
  unfold atI at h
  cases e : ixN xs.length i with
  | none => rw [e] at h; cases h
  | some j =>
    rw [e] at h
    obtain ⟨h1, h2, h3, h4⟩ := ixN_seq e
    exact ⟨j, h1, h, h2, h3, h4⟩
theorem atI_nat {α : Type} {xs : List α} {j : Nat} {v : α} (h : xs[j]? = some v) : atI xs (j : Int) = some v := by
  have hj : j < xs.length := (List.getElem?_eq_some_iff.mp h).1
  have e : ixN xs.length (j : Int) = some j := by
    unfold ixN
    rw [if_pos (by omega), if_pos (by omega)]; simp
  unfold atI; rw [e]; exact h
def PlainIx (b : Expr) : Prop := ∀ o i, subscripted b false o i = operate [o, i] (getItem o i)
def IxR (X : Cx) (r : R2) : Prop :=
  ∀ (value slice : Expr) (pins : List (Addr × Obj)) (s : Shared) (σ : St) (H : Hp) (x y : V) (v u : Value) (Q : VK), Inv X pins σ H s → RelV x v → RelV y u → r x y H Q →
    subscripted slice false v u = operate [v, u] (getItem v u) → wpAny (model X.prog X.w) X.A (subscriptTail value slice v u) (EP X pins σ Q) X.xe s
def MtR (X : Cx) (id : String) (r : V → List V → Hp → VK → Prop) : Prop :=
  ∀ (pins : List (Addr × Obj)) (s : Shared) (σ : St) (H : Hp) (x : V) (xs : List V) (v : Value) (us : List Value) (Q : VK), Inv X pins σ H s → RelV x v → Vals xs us → r x xs H Q →
    wpAny (model X.prog X.w) X.A (call (.builtin id) (v :: us)) (EP X pins σ Q) X.xe s
section
variable {X : Cx} {a b : Expr} {ta tb : TE} {pos : Pos}
theorem pe_ix {r : R2} (hr : IxR X r) (ha : PE X a ta) (hb : PE X b tb) (hs : PlainIx b) : PE X (.Subscript a b pos) (tOp r ta tb) := by
  intro pins s σ H Q I h
  exact Subscript_ (binT ha hb I h fun v u s2 x y H2 I2 rx ry q => hr a b pins s2 σ H2 x y v u Q I2 rx ry q (hs _ _))

def rIxL (K : PySem.W.Frag) : R2 := fun x y H Q => ∃ p xs i v, x = .ref p ∧ y = .int i ∧ SqL K H p xs ∧ atI xs i = some v ∧ Q v H
def rIxT (K : PySem.W.Frag) : R2 := fun x y H Q => ∃ p xs i v, x = .ref p ∧ y = .int i ∧ SqT K H p xs ∧ atI xs i = some v ∧ Q v H
theorem ix_list : IxR X (rIxL X.K) := by
  intro value slice pins s σ H x y v u Q I rx ry h hs
  obtain ⟨p, xs, i, z, rfl, rfl, hq, he, q⟩ := h
  cases rx
  obtain ⟨t, rfl⟩ := ry
  obtain ⟨its, r, pl, hz⟩ := I.list hq
  obtain ⟨j, h1, h2, h3, h4, h5⟩ := atI_get he
  obtain ⟨w, ew, rw'⟩ := r.get h2
  have hl := r.length
  have hn := line63
  have fin : EP X pins σ Q w s := ⟨z, H, I, rw', q⟩
  by_cases h0 : 0 ≤ i
  · have hj : i.toNat = j := by
      rw [seqIndex_of h0 h5] at h1
      exact Option.some.inj h1
    exact item_listR pl.isList h0 (by omega) (by rw [hj]; simpa using ew) fin hs
  · have hj : (i + (its.toArray.size : Int)).toNat = j := by
      rw [seqIndex_neg (by omega) h4] at h1
      rw [List.size_toArray, ← hl]
      exact Option.some.inj h1
    exact subscriptTail_builtinR (x := w) pl.isList.typeIs slot_list_getitem.lookup
      (wpAny_getItem_list_neg (Q := fun r s' => r = w ∧ EP X pins σ Q r s') pl.isList (by omega) (by rw [List.size_toArray] <;> omega) (by omega) (by rw [hj]; simpa using ew) ⟨rfl, fin⟩) hs
theorem ix_tup : IxR X (rIxT X.K) := by
  intro value slice pins s σ H x y v u Q I rx ry h hs
  obtain ⟨p, xs, i, z, rfl, rfl, hq, he, q⟩ := h
  cases rx
  obtain ⟨t, rfl⟩ := ry
  obtain ⟨its, r, pl, hz⟩ := I.tuple hq
  obtain ⟨j, h1, h2, h3, h4, h5⟩ := atI_get he
  obtain ⟨w, ew, rw'⟩ := r.get h2
  have hl := r.length
  have hn := line63
  have fin : EP X pins σ Q w s := ⟨z, H, I, rw', q⟩
  exact subscriptTail_builtinR (x := w) pl.typeIs slot_tuple_getitem.lookup
    (getItem_tuple (j := j) (Q := fun r s' => r = w ∧ EP X pins σ Q r s') pl (by omega) (by omega) (by rw [List.size_toArray, ← hl]; exact h1) (by simpa using ew) ⟨rfl, fin⟩) hs
theorem mapSeq_set (its : List Value) (n j : Nat) (u : Value) : Obj.mapSeq (·.setIfInBounds j u) { cls := .type "list", data := .seq its.toArray n } = { cls := .type "list", data := .seq (its.set j u).toArray n } := by
  simp [Obj.mapSeq]
theorem Inv.lst {pins : List (Addr × Obj)} {σ : St} {H : Hp} {s : Shared} {p : Addr} {xs : List V} (I : Inv X pins σ H s) (h : H p = some (.lst xs)) :
    ∃ (its : List Value) (n : Nat), Vals xs its ∧ s.heap.get? p = some { cls := .type "list", data := .seq its.toArray n } ∧ xs.length ≤ sizeLine := by
  obtain ⟨z, its, n, r, e⟩ := I.hok p _ h
  exact ⟨its, n, r, e, z⟩
theorem Inv.lstUpd {pins : List (Addr × Obj)} {σ : St} {H : Hp} {s : Shared} {p : Addr} {xs ys : List V} {its its' : List Value} {n n' : Nat} {f : Obj → Obj} (I : Inv X pins σ H s) (h : H p = some (.lst xs))
    (ho : s.heap.get? p = some { cls := .type "list", data := .seq its.toArray n }) (hf : f { cls := .type "list", data := .seq its.toArray n } = { cls := .type "list", data := .seq its'.toArray n' }) (r : Vals ys its') (hz : ys.length ≤ sizeLine) (t : Nat) :
    Inv X pins σ (upd H p (.lst ys)) { s with heap := s.heap.update p f, toks := t } := by
  have e : (s.heap.update p f).get? p = some { cls := .type "list", data := .seq its'.toArray n' } := by
    rw [Heap.get?_update_self f ho (by rw [hf] <;> rfl), hf]
  refine I.write (x := p) (e := p) (by rw [h]; trivial) (.inl rfl) (fun b u hb q => (Heap.get?_update_other _ _ (Ne.symm hb)).trans q) ⟨_, e⟩ ?_
  exact ⟨hz, its', n', r, e⟩
def rSetL : V → V → V → Hp → (Hp → Prop) → Prop := fun o i v H Q => ∃ p xs k j, o = .ref p ∧ i = .int k ∧ H p = some (.lst xs) ∧ ixN xs.length k = some j ∧ Q (upd H p (.lst (xs.set j v)))
theorem set_list : PSet X rSetL := by
  intro pins s σ H o i v ov iv u Q I ro ri rv h
  obtain ⟨p, xs, k, j, rfl, rfl, hp, hj, q⟩ := h
  cases ro
  obtain ⟨t, rfl⟩ := ri
  obtain ⟨its, n, r, ho, hz⟩ := I.lst hp
  obtain ⟨h1, h2, h3, h4⟩ := ixN_seq hj
  have hl := r.length
  have hn := line63
  have I' : Inv X pins σ (upd H p (.lst (xs.set j v))) { s with heap := s.heap.update p (Obj.mapSeq (·.setIfInBounds j u)) } :=
    I.lstUpd hp ho (mapSeq_set its n j u) (r.set rv j) (by rw [List.length_set]; exact hz) s.toks
  by_cases h0 : 0 ≤ k
  · have hk : k.toNat = j := by
      rw [seqIndex_of h0 h4] at h1
      exact Option.some.inj h1
    exact PySem.W.ki_setAt ho h0 (by omega) (by rw [List.size_toArray, ← hl]; exact h4) (by rw [hk]; exact ⟨_, I', q⟩)
  · have hk : (k + (its.toArray.size : Int)).toNat = j := by
      rw [seqIndex_neg (by omega) h3] at h1
      rw [List.size_toArray, ← hl]
      exact Option.some.inj h1
    exact PySem.W.ki_setBack ho (by omega) (by rw [List.size_toArray, ← hl]; exact h3) (by omega) (by rw [hk]; exact ⟨_, I', q⟩)

theorem slice_bounds (lo hi : Option Int) (n : Nat) : (sliceBounds lo hi none n).1 = ((HT.sIx n 0 lo : Nat) : Int) ∧ (sliceBounds lo hi none n).2.1 = ((HT.sIx n n hi : Nat) : Int) ∧ (sliceBounds lo hi none n).2.2 = 1 := by
  refine ⟨?_, ?_, rfl⟩
  · cases lo with
    | none => simp [sliceBounds, HT.sIx]
    | some i =>
      simp only [sliceBounds, HT.sIx, Option.getD_none, show (1 : Int) > 0 by decide, if_true]
      by_cases h : i < 0
      · simp only [h, if_true] <;> omega
      · simp only [h, if_false] <;> omega
  · cases hi with
    | none => simp [sliceBounds, HT.sIx]
    | some i =>
      simp only [sliceBounds, HT.sIx, Option.getD_none, show (1 : Int) > 0 by decide, if_true]
      by_cases h : i < 0
      · simp only [h, if_true] <;> omega
      · simp only [h, if_false] <;> omega
theorem slicePick_cut (its : List Value) (lo hi : Option Int) : slicePick its.toArray lo hi none = ((its.drop (HT.sIx its.length 0 lo)).take (HT.sIx its.length its.length hi - HT.sIx its.length 0 lo)).toArray := by
  obtain ⟨h1, h2, h3⟩ := slice_bounds lo hi its.toArray.size
  unfold slicePick
  rw [h1, h2, h3]
  simp only [sliceRange_one, pick_run, List.size_toArray] <;> rfl
def rSlL (K : PySem.W.Frag) : V → Option Int → Option Int → Hp → VK → Prop := fun x lo hi H Q => ∃ a xs, x = .ref a ∧ SqL K H a xs ∧ ∀ p, H p = none → Q (.ref p) (upd H p (.lst (cutV xs lo hi)))
theorem sl_list : SlR X (rSlL X.K) := by
  intro pins s σ H x v vl vu lo hi sl Q I rx hs pl pu h
  obtain ⟨a, xs, rfl, hx, q⟩ := h
  cases rx
  obtain ⟨its, r, ht, hz⟩ := I.list hx
  have hlen := r.length
  refine ⟨"list", _, slot_list_getitem.lookup, ht.isList.typeIs, ?_⟩
  refine wpAny_getItem_list_slice ht.isList hs pl pu .none (by simp) ?_ (by rw [List.size_toArray] <;> omega)
  rw [slicePick_cut, ← hlen]
  refine ⟨.ref s.heap.objs.size, _, I.laid (t' := s.toks) (o := .lst (cutV xs lo hi)) (fun b ob q => Heap.get?_push_of_some _ q) (Nat.le_refl _) ?_, rfl, q _ (I.hok.fresh (Nat.le_refl _))⟩
  exact ⟨Nat.le_trans (cutV_length xs lo hi) hz, _, 0, (r.drop (HT.sIx xs.length 0 lo)).take (HT.sIx xs.length xs.length hi - HT.sIx xs.length 0 lo), Heap.get?_push_size _ rfl⟩

def flatV : V → Bool
  | .non => true
  | .bl _ => true
  | .int _ => true
  | .str _ => true
  | _ => false
def eqV : V → V → Bool
  | .non, .non => true
  | .bl a, .bl b => a == b
  | .bl a, .int b => (if a then 1 else 0) == b
  | .int a, .bl b => a == (if b then 1 else 0)
  | .int a, .int b => a == b
  | .str a, .str b => a == b
  | _, _ => false
theorem eqAt_V {A : Around} {s : Shared} {y x : V} {u v : Value} (ry : RelV y u) (rx : RelV x v) (fy : flatV y = true) (fx : flatV x = true) : SeqAt.EqAt A s u v (eqV y x) := by
  cases y with
  | non =>
    cases ry
    cases x with
    | non => cases rx; exact SeqAt.EqAt.same _
    | bl b => cases rx; exact SeqAt.EqAt.none_bool b
    | int b => obtain ⟨t, rfl⟩ := rx; exact SeqAt.EqAt.none_int b t
    | str b => obtain ⟨t, rfl⟩ := rx; exact SeqAt.EqAt.none_str b t
    | _ => exact absurd (show false = true from fx) Bool.false_ne_true
  | bl a =>
    cases ry
    cases x with
    | non => cases rx; exact SeqAt.EqAt.bool_none a
    | bl b => cases rx; exact SeqAt.EqAt.bool_bool a b
    | int b => obtain ⟨t, rfl⟩ := rx; exact SeqAt.EqAt.bool_int a b t
    | str b => obtain ⟨t, rfl⟩ := rx; exact SeqAt.EqAt.bool_str a b t
    | _ => exact absurd (show false = true from fx) Bool.false_ne_true
  | int a =>
    obtain ⟨t', rfl⟩ := ry
    cases x with
    | non => cases rx; exact SeqAt.EqAt.int_none a t'
    | bl b => cases rx; exact SeqAt.EqAt.int_bool a t' b
    | int b => obtain ⟨t, rfl⟩ := rx; exact SeqAt.EqAt.int_int a t' b t
    | str b => obtain ⟨t, rfl⟩ := rx; exact SeqAt.EqAt.int_str a t' b t
    | _ => exact absurd (show false = true from fx) Bool.false_ne_true
  | str a =>
    obtain ⟨t', rfl⟩ := ry
    cases x with
    | non => cases rx; exact SeqAt.EqAt.str_none a t'
    | bl b => cases rx; exact SeqAt.EqAt.str_bool a t' b
    | int b => obtain ⟨t, rfl⟩ := rx; exact SeqAt.EqAt.str_int a t' b t
    | str b => obtain ⟨t, rfl⟩ := rx; exact SeqAt.EqAt.str_str a t' b t
    | _ => exact absurd (show false = true from fx) Bool.false_ne_true
  | _ => exact absurd (show false = true from fy) Bool.false_ne_true
def eqU (x : V) (u : Value) : Bool := match u with
  | .none => eqV .non x
  | .bool b => eqV (.bl b) x
  | .int i _ => eqV (.int i) x
  | .str z _ => eqV (.str z) x
  | _ => false
theorem eqU_of {x y : V} {u : Value} (r : RelV y u) (f : flatV y = true) : eqU x u = eqV y x := by
  cases y with
  | non => cases r; rfl
  | bl b => cases r; rfl
  | int i => obtain ⟨t, rfl⟩ := r; rfl
  | str z => obtain ⟨t, rfl⟩ := r; rfl
  | _ => exact absurd (show false = true from f) Bool.false_ne_true
theorem any_eqU {x : V} : ∀ {xs : List V} {us : List Value}, Vals xs us → xs.all flatV = true → us.any (eqU x) = xs.any fun y => eqV y x
  | _, _, .nil, _ => rfl
  | y :: xs, u :: us, .cons r t, f => by
    rw [List.all_cons, Bool.and_eq_true] at f
    rw [List.any_cons, List.any_cons, eqU_of r f.1, any_eqU t f.2]
theorem mem_eqAt {A : Around} {s : Shared} {x : V} {v : Value} (rx : RelV x v) (fx : flatV x = true) : ∀ {xs : List V} {us : List Value}, Vals xs us → xs.all flatV = true → ∀ u ∈ us, SeqAt.EqAt A s u v (eqU x u)
  | _, _, .nil, _ => fun u hu => by cases hu
  | y :: xs, u :: us, .cons r t, f => fun u' hu => by
    rw [List.all_cons, Bool.and_eq_true] at f
    rcases List.mem_cons.mp hu with rfl | hu
    · rw [eqU_of r f.1]; exact eqAt_V r rx f.1 fx
    · exact mem_eqAt rx fx t f.2 u' hu
def inV (x : V) (xs : List V) : Bool := xs.any fun y => eqV y x
def rIn (K : PySem.W.Frag) (neg : Bool) : R2 := fun x y H Q => ∃ p xs, y = .ref p ∧ (SqL K H p xs ∨ SqT K H p xs) ∧ flatV x = true ∧ xs.all flatV = true ∧ Q (.bl (if neg then !inV x xs else inV x xs)) H
theorem op_in_seq : OpR X (compareOp .In) (rIn X.K false) := by
  intro pins s σ H x y v u Q I rx ry h
  obtain ⟨p, xs, rfl, hq, fx, fs, q⟩ := h
  cases ry
  rcases hq with hq | hq
  · obtain ⟨its, r, pl, hz⟩ := I.list hq
    refine SeqAt.in_listAt (eqU x) pl.isList (fun w hw => mem_eqAt rx fx r fs w (by simpa using hw)) ⟨.bl _, H, I, rfl, ?_⟩
    rw [show its.toArray.any (eqU x) = its.any (eqU x) by simp, any_eqU r fs]
    exact q
  · obtain ⟨its, r, pl, hz⟩ := I.tuple hq
    refine SeqAt.in_tupleAt (eqU x) pl (fun w hw => mem_eqAt rx fx r fs w (by simpa using hw)) ⟨.bl _, H, I, rfl, ?_⟩
    rw [show its.toArray.any (eqU x) = its.any (eqU x) by simp, any_eqU r fs]
    exact q
theorem call_len_seq : CallR X (.builtin "len") (fun xs H Q => ∃ p ys, xs = [.ref p] ∧ (SqL X.K H p ys ∨ SqT X.K H p ys) ∧ Q (.int ys.length) H) := by
  intro pins s σ H xs us Q I r h
  obtain ⟨p, ys, rfl, hq, q⟩ := h
  obtain ⟨u, rfl, rx⟩ := vals1 r
  cases rx
  have hn := line63
  rcases hq with hq | hq
  · obtain ⟨its, r', pl, hz⟩ := I.list hq
    have hlen := r'.length
    exact Calls.call_len_list pl.isList (by simp only [List.size_toArray] <;> omega) ⟨.int ys.length, H, I.tok _, ⟨s.toks + 1, by rw [List.size_toArray, hlen]⟩, q⟩
  · obtain ⟨its, r', pl, hz⟩ := I.tuple hq
    have hlen := r'.length
    exact len_tuple pl (by simp only [List.size_toArray] <;> omega) ⟨.int ys.length, H, I.tok _, ⟨s.toks + 1, by rw [List.size_toArray, hlen]⟩, q⟩
theorem call_list_of : CallR X (.type "list") (fun xs H Q => ∃ p ys, xs = [.ref p] ∧ (SqL X.K H p ys ∨ SqT X.K H p ys) ∧ ∀ l, H l = none → Q (.ref l) (upd H l (.lst ys))) := by
  intro pins s σ H xs us Q I r h
  obtain ⟨p, ys, rfl, hq, q⟩ := h
  obtain ⟨u, rfl, rx⟩ := vals1 r
  cases rx
  have fin : ∀ (its : List Value), Vals ys its → ys.length ≤ sizeLine → ∀ (h' : Heap) (c' : Nat), (∀ b o', s.heap.get? b = some o' → h'.get? b = some o') →
      h'.get? s.heap.objs.size = some { cls := .type "list", dict := none, data := .seq its.toArray c', slots := #[] } → EP X pins σ Q (.ref s.heap.objs.size) { s with heap := h' } := fun its r' hz h' c' kp e =>
    ⟨.ref s.heap.objs.size, _, I.laid (t' := s.toks) kp (Nat.le_refl _) (show ObjOk X.prog X.w _ h' _ (.lst ys) from ⟨hz, its, c', r', e⟩), rfl, q _ (I.hok.fresh (Nat.le_refl _))⟩
  rcases hq with hq | hq
  · obtain ⟨its, r', pl, hz⟩ := I.list hq
    have hlen := r'.length
    obtain ⟨o, ho, hc, n, hd⟩ := pl.isList
    exact call_list_seq p (.inl rfl) ho hc hd (fun h' c' kp e => fin its r' hz h' c' kp e) (by simp only [List.size_toArray] <;> omega)
  · obtain ⟨its, r', pl, hz⟩ := I.tuple hq
    have hlen := r'.length
    obtain ⟨o, ho, hc, n, hd⟩ := pl
    exact call_list_seq p (.inr rfl) ho hc hd (fun h' c' kp e => fin its r' hz h' c' kp e) (by simp only [List.size_toArray] <;> omega)
theorem call_tuple_of : CallR X (.type "tuple") (fun xs H Q => ∃ p ys, xs = [.ref p] ∧ ((SqL X.K H p ys ∧ ∀ l, H l = none → Q (.ref l) (upd H l (.tup ys))) ∨ (SqT X.K H p ys ∧ Q (.ref p) H))) := by
  intro pins s σ H xs us Q I r h
  obtain ⟨p, ys, rfl, h⟩ := h
  obtain ⟨u, rfl, rx⟩ := vals1 r
  cases rx
  rcases h with ⟨hq, q⟩ | ⟨hq, q⟩
  · obtain ⟨its, r', pl, hz⟩ := I.list hq
    have hlen := r'.length
    refine call_tuple_list pl.isList (fun h' kp => ?_) (by simp only [List.size_toArray] <;> omega)
    have I1 : Inv X pins σ H { s with heap := h' } := I.kept (t' := s.toks) kp
    have I2 : Inv X pins σ (upd H h'.objs.size (.tup ys)) { s with heap := h'.push { cls := .type "tuple", data := .seq its.toArray } } :=
      I1.laid (t' := s.toks) (fun b o e => Heap.get?_push_of_some _ e) (Nat.le_refl _) (show ObjOk X.prog X.w _ _ _ (.tup ys) from ⟨hz, its, r', IsTup.new _ _, _, Heap.get?_push_size _ rfl, rfl⟩)
    exact ⟨.ref h'.objs.size, _, I2, rfl, q _ (I1.hok.fresh (Nat.le_refl _))⟩
  · obtain ⟨its, r', pl, hz⟩ := I.tuple hq
    exact call_tuple_same pl ⟨.ref p, H, I, rfl, q⟩

def tyV (K : PySem.W.Frag) (T : String) (x : V) (H : Hp) : Prop := match x with
  | .str _ => T = "str"
  | .int _ => T = "int"
  | .ref p => (T = "list" ∧ ∃ xs, SqL K H p xs) ∨ (T = "tuple" ∧ ∃ o, K.lookup p = some o ∧ o.cls = .type "tuple" ∧ o.dict = none) ∨
      (T = "dict" ∧ ((∃ kvs, H p = some (.dK kvs)) ∨ ∃ kvs, H p = some (.dT kvs))) ∨ (T = "set" ∧ ∃ S n, H p = some (.set S n))
  | _ => False
theorem tyV_is {pins : List (Addr × Obj)} {σ : St} {H : Hp} {s : Shared} {T : String} {x : V} {v : Value} (I : Inv X pins σ H s) (r : RelV x v) (ty : tyV X.K T x H) :
    s.TypeIs v T ∧ ∀ a, v = .ref a → ∃ ob, s.heap.get? a = some ob ∧ ob.dict = none := by
  cases x with
  | str z =>
    obtain ⟨t, rfl⟩ := r
    cases (show T = "str" from ty)
    exact ⟨typeIs_str s z t, fun _ e => nomatch e⟩
  | int i =>
    obtain ⟨t, rfl⟩ := r
    cases (show T = "int" from ty)
    exact ⟨typeIs_int s i t, fun _ e => nomatch e⟩
  | ref p =>
    cases r
    rcases ty with ⟨rfl, xs, hq⟩ | ⟨rfl, o, hk, hc, hd⟩ | ⟨rfl, hk⟩ | ⟨rfl, S, n, hk⟩
    · obtain ⟨its, _, pl, _⟩ := I.list hq
      refine ⟨pl.isList.typeIs, fun a e => ?_⟩
      cases e
      obtain ⟨o, n, e, c, hd, _⟩ := pl
      exact ⟨o, e, hd⟩
    · refine ⟨⟨o, I.kIn p o hk, hc⟩, fun a e => ?_⟩
      cases e
      exact ⟨o, I.kIn _ o hk, hd⟩
    · have z : ∃ o, s.heap.get? p = some o ∧ o.ExactDict := by
        rcases hk with ⟨kvs, hk⟩ | ⟨kvs, hk⟩
        · obtain ⟨_, _, _, _, o, _, _, e, ex, _⟩ := I.hok p _ hk
          exact ⟨o, e, ex⟩
        · obtain ⟨_, _, _, _, o, _, _, e, ex, _⟩ := I.hok p _ hk
          exact ⟨o, e, ex⟩
      obtain ⟨o, e, ex⟩ := z
      refine ⟨⟨o, e, ex.1⟩, fun a e2 => ?_⟩
      cases e2
      exact ⟨o, e, ex.2.1⟩
    · obtain ⟨o, _, _, _, e, ex, _⟩ := I.hok p _ hk
      refine ⟨⟨o, e, ex.1⟩, fun a e2 => ?_⟩
      cases e2
      exact ⟨o, e, ex.2.1⟩
  | _ => exact False.elim ty
def tBM (K : PySem.W.Frag) (T : String) (r : V → List V → Hp → VK → Prop) (to : TE) (t : TA) : TE := fun σ H Q => to σ H fun x H1 => tyV K T x H1 ∧ t σ H1 fun xs H2 => r x xs H2 Q
variable {o e : Expr} {es : List Expr} {to : TE} {t : TA} {name : Str} {apos cpos : Pos} {T id : String} {r : V → List V → Hp → VK → Prop}
theorem pe_bm (pa : PlainAttrs T) (slot : Slot T name id) (hty : typeOf (.builtin id) = pure (.type "method_descriptor")) (hm : MtR X id r) (ho : PE X o to) (ha : PA X (e :: es) t)
    (hbase : attributeBase o name X.env (eval o X.env) = eval o X.env := by rfl)
    (hfew : ((backTo cpos (starEach (e :: es) X.env)).all (fun x => !x.1) && (backToKw cpos (keywordEach [] X.env)).all (fun x => x.1.isSome)
      && decide ((e :: es).length + ([] : List Keyword).length + (if ([] : List Keyword).isEmpty then 0 else 1) < 30)) = true := by rfl)
    (hline : (apos.endLine == cpos.line) = true := by rfl) (hs : starEach (e :: es) X.env = (false, eval e X.env) :: starEach es X.env := by rfl) (hplain : (backTo cpos (starEach es X.env)).any (·.1) = false := by rfl) :
    PE X (.Call (.Attribute o name apos) (e :: es) [] cpos) (tBM X.K T r to t) := by
  intro pins s σ H Q I h
  refine wpAny_Call_method_late hbase hfew hline rfl (thn (ho pins s σ H _ I h) fun v s1 ⟨x, H1, I1, r1, ty, q1⟩ => ?_)
  obtain ⟨h1, h2⟩ := tyV_is I1 r1 ty
  refine ⟨T, id, pa, slot, hty, h1, h2, ?_⟩
  have hA := ha cpos pins s1 σ H1 _ I1 q1
  rw [hs] at hA ⊢
  refine Calls.callWith_builtin (by show (false || (backTo cpos (starEach es X.env)).any (·.1)) = false; rw [hplain] <;> rfl) (Calls.evalArgs_plain ?_)
  exact thn hA fun us s2 ⟨vs, H2, I2, r2, q2⟩ => hm pins s2 σ H2 x vs v us Q I2 r1 r2 q2
end
end L2

namespace L2
open PySem PySem.Spec PyProof.Rows

def MtM (X : Cx) (id : String) (r : V → List V → Hp → VK → Prop) : Prop :=
  ∀ (pins : List (Addr × Obj)) (s : Shared) (σ : St) (H : Hp) (x : V) (xs : List V) (v : Value) (us : List Value) (Q : VK), Inv X pins σ H s → RelV x v → Vals xs us → r x xs H Q →
    wpAny (model X.prog X.w) X.A (call (.builtin id) (v :: us)) (EP X pins σ Q) X.xe s

theorem Vals.one : ∀ {x : V} {us : List Value}, Vals [x] us → ∃ u, us = [u] ∧ RelV x u
  | _, _, .cons r .nil => ⟨_, rfl, r⟩
theorem Vals.two : ∀ {x y : V} {us : List Value}, Vals [x, y] us → ∃ u v, us = [u, v] ∧ RelV x u ∧ RelV y v
  | _, _, _, .cons r (.cons q .nil) => ⟨_, _, rfl, r, q⟩
theorem Vals.zero : ∀ {us : List Value}, Vals [] us → us = []
  | _, .nil => rfl
section
variable {X : Cx} {pins : List (Addr × Obj)} {σ : St} {H : Hp} {s : Shared} {l b : Addr} {xs ys zs : List V}

theorem Inv.lset {its its' : List Value} {n : Nat} {f : Array Value → Array Value} {t' : Nat} (I : Inv X pins σ H s) (hH : H l = some (.lst xs))
    (e : s.heap.get? l = some { cls := .type "list", data := .seq its.toArray n }) (hf : f its.toArray = its'.toArray) (hv : Vals ys its') (hz : ys.length ≤ sizeLine) :
    Inv X pins σ (upd H l (.lst ys)) { s with heap := s.heap.update l (Obj.mapSeq f), toks := t' } := by
  have q := PySem.IsL.update e f
  rw [hf] at q
  refine I.write (x := l) (e := l) (by rw [hH]; exact trivial) (.inl rfl) (fun b' u hb hu => (Heap.get?_update_other s.heap (Obj.mapSeq f) (Ne.symm hb)).trans hu) ⟨_, q⟩ ?_
  exact ⟨hz, its', _, hv, q⟩
theorem Inv.lnew {its : List Value} {t' : Nat} (I : Inv X pins σ H s) (hv : Vals ys its) (hz : ys.length ≤ sizeLine) :
    Inv X pins σ (upd H s.heap.objs.size (.lst ys)) { s with heap := s.heap.push { cls := .type "list", data := .seq its.toArray }, toks := t' } :=
  I.laid (fun _ _ q => Heap.get?_push_of_some _ q) (Nat.le_refl _) ⟨hz, its, 0, hv, Heap.get?_push_size _ rfl⟩
theorem Inv.fresh (I : Inv X pins σ H s) : H s.heap.objs.size = none := I.hok.fresh (Nat.le_refl _)
theorem Inv.lstM (I : Inv X pins σ H s) (hH : H l = some (.lst xs)) : xs.length ≤ sizeLine ∧ ∃ (its : List Value) (n : Nat), Vals xs its ∧ xs.length = its.length ∧ s.heap.get? l = some { cls := .type "list", data := .seq its.toArray n } := by
  obtain ⟨z, its, n, r, e⟩ := I.hok l _ hH
  exact ⟨z, its, n, r, r.length, e⟩

end

section
variable {X : Cx}

def rAppend : V → List V → Hp → VK → Prop := fun x vs H Q => ∃ l xs y, x = .ref l ∧ vs = [y] ∧ H l = some (.lst xs) ∧ xs.length < sizeLine ∧ Q .non (upd H l (.lst (xs ++ [y])))
theorem mt_append : MtM X "list.append" rAppend := by
  intro pins s σ H x vs v us Q I rx rv h
  obtain ⟨l, xs, y, rfl, rfl, hH, hz, q⟩ := h
  cases rx
  obtain ⟨u, rfl, ru⟩ := rv.one
  obtain ⟨z, its, n, r, hl, e⟩ := I.lstM hH
  refine call_meets F.slot_list_append ⟨_, e, rfl⟩ F.entry_list_append (F.args_list_append_2 _ _) (PySem.list_append l its.toArray n u (by rw [List.size_toArray]; omega)) ⟨e, ?_⟩
  refine ⟨.non, _, I.lset (its' := its ++ [u]) hH e (by simp) (r.append (.cons ru .nil)) ?_, rfl, q⟩
  rw [List.length_append, List.length_singleton]
  omega

def rCat : R2 := fun x y H Q => ∃ l b xs zs, x = .ref l ∧ y = .ref b ∧ H l = some (.lst xs) ∧ H b = some (.lst zs) ∧ xs.length + zs.length ≤ sizeLine ∧ ∀ p, H p = none → Q (.ref p) (upd H p (.lst (xs ++ zs)))
theorem op_cat : OpR X (binaryOp .Add) rCat := by
  intro pins s σ H x y v u Q I rx ry h
  obtain ⟨l, b, xs, zs, rfl, rfl, hH, hB, hz, q⟩ := h
  cases rx
  cases ry
  obtain ⟨z, its, n, r, hl, e⟩ := I.lstM hH
  obtain ⟨z2, its2, n2, r2, hl2, e2⟩ := I.lstM hB
  refine PySem.P.add_list e e2 ?_ (by rw [List.size_toArray, List.size_toArray]; omega)
  have ea : its.toArray ++ its2.toArray = (its ++ its2).toArray := by simp
  rw [ea]
  exact ⟨.ref _, _, I.lnew (t' := s.toks) (r.append r2) (by rw [List.length_append]; omega), rfl, q _ I.fresh⟩
end

section
variable {prog : Program} {w : World} {A : Around} {E : Value → Shared → Prop} {s : Shared}
end

section
variable {X : Cx}
end
end L2

namespace Att
open PySem PySem.W PySem.Calls PyProof.Rows

theorem ints_of_wellAll {P : Params} {h : Heap} : ∀ (ns : List Int) (vs : List Value), WellAll P h vs (ns.map WData.int) → IntsAre vs ns := by
  intro ns
  induction ns with
  | nil =>
    intro vs w
    rw [List.map_nil] at w
    cases w
    exact .nil
  | cons n ns ih =>
    intro vs w
    rw [List.map_cons] at w
    cases w with
    | cons a b =>
      cases a
      exact .cons _ _ (ih _ b)

theorem script_of {l : OpenLaw} {n : Nat} (hn : l.most = some n) {P : Params} {h : Heap} {args : List WData} {vals : List Value}
    (hpre : l.row.toRowW.claim.pre args = true) (hwl : WellAll P h vals args) :
    ∃ a vs ns, vals = [Value.ref a] ∧ args = [WData.list (ns.map WData.int)] ∧ h.get? a = some { cls := .type "list", data := .seq vs.toArray } ∧ IntsAre vs ns ∧ ns.length ≤ n := by
  have hsh : WShape.hasAll [] args [.list .int] = true := (pre_splitW hpre).1
  have hc : l.pre.holds [] { args := args } = true := (pre_splitW hpre).2
  obtain ⟨d, r, rfl, h1, h2⟩ := hasAllW_cons hsh
  obtain rfl := hasAllW_nil h2
  obtain ⟨xs, rfl, h3⟩ := hasW_list h1
  obtain ⟨ns, rfl⟩ := items_int h3
  have hlen : ns.length ≤ n := by
    unfold OpenLaw.pre at hc
    have h4 : (WTm.not (.lt (.lit (.int (n : Int))) (.len (.arg 0)))).holds [] { args := [.list (ns.map .int)] } = true := by
      have h4 := (holds_andW hc).1
      rw [hn] at h4
      exact h4
    have h5 := condW_of h4 (w_not (w_lt w_lit (w_len_list (w_arg rfl))))
    rw [List.length_map] at h5
    refine Nat.le_of_not_lt fun q => ?_
    have q' : (n : Int) < ((ns.length : Nat) : Int) := by omega
    first
      | (rw [decide_eq_true q'] at h5; exact absurd h5 (by decide))
      | (simp at h5; omega)
  cases hwl with
  | cons w1 w2 =>
    cases w2
    cases w1 with
    | list ho hall => exact ⟨_, _, ns, rfl, rfl, ho, ints_of_wellAll ns _ hall, hlen⟩

theorem post_true (l : OpenLaw) (args : List WData) : l.row.toRowW.claim.post args (.bool true) args = true :=
  postW_of (r := l.row.toRowW) (X := (true == true))
    (show WShape.has [] (.bool true) .bool = true by first | rfl | decide | simp [WShape.has, WShape.arms, WShape.armsAll])
    (show (WTm.eq .res (.lit (.bool true))).value [] { args := args, res := some (.bool true), after := args } = some (.bool (true == true)) from w_eq_bool (w_res rfl) w_lit) rfl

theorem attach_call {l : OpenLaw} {n : Nat} {q : Program} {loose : List Str} {XP : (Str → Option Value) → Heap → Prop} {YP : World → Heap → Prop} {d : DefRec}
    (hn : l.most = some n) (hdf : d.params.defaults = [])
    (call : ∀ (w : World) (s₀ s₁ : Shared) (mg mb : Str → Option Value) (fa : Addr) (o : Obj) (pm cd doc : Value) (a : Addr) (vs : List Value) (ns : List Int),
      Ground q loose [] XP w s₀ mg mb s₁.heap → YP w s₁.heap →
      s₁.heap.get? fa = some o → o.data = .func (docDef d.name d.params d.body d.scope pm cd doc) → s₁.heap.CodeRec cd d.name → mg d.name = some (.ref fa) →
      s₁.heap.get? a = some { cls := .type "list", data := .seq vs.toArray } → IntsAre vs ns → ns.length ≤ n → s₁.gens = #[] →
      codeAny (model l.prog w) callerA (.call (.ref fa) ⟨[.ref a], []⟩) (fun r s' => r = .ok (.ret (.bool true)) ∧ OldK s₁.heap s'.heap ∧ s'.os = s₁.os ∧ AllBare s'.gens) s₁) :
    WalkO q loose XP YP l.row.toRowW d [] (fun f vs => PySem.call f vs) := by
  intro w s₀ s₁ mg mb G Y fa o pm cd doc dV kV ho hd hcd hD hmg hg args vals as hpre hlay hrd hwl hlo
  obtain rfl : dV = .none := Dflts.none hD hdf
  obtain rfl : kV = .none := Dflts.noKw hD
  obtain ⟨a, vs, ns, rfl, rfl, hobj, hints, hlen⟩ := script_of hn hpre hwl
  refine enter_call (codeAny_mono (call w s₀ s₁ mg mb fa o pm cd doc a vs ns G Y ho (fd_plain hd) hcd hmg hobj hints hlen hg) fun r s' hq => ?_)
  obtain ⟨rfl, h2, h3, h4⟩ := hq
  exact ⟨.inl ⟨.bool true, .bool true, [], rfl, fun _ => rfl, .bool true, post_true l _, fun _ => ⟨List.Pairwise.nil, fun _ hm => (nomatch hm)⟩⟩, h2, h3, h4⟩

section
variable {prog : Program} {w : World} {A : Around} {E : Value → Shared → Prop} {s : Shared} {K : Frag}

end
end Att

namespace L2
open PySem PySem.Spec PyProof.Rows

theorem vals_ints : ∀ {vs : List Value} {ns : List Int}, IntsAre vs ns → Vals (ns.map V.int) vs
  | _, _, .nil => .nil
  | _, _, .cons n t h => .cons ⟨t, rfl⟩ (vals_ints h)

def Only (H : Hp) : Prop := ∀ b, H b = none ∨ ∃ o xs, H b = some (.frz o (.lst xs))

theorem law_call {P : Program} {w : World} {K : PySem.W.Frag} {mg mb : Str → Option Value} {CX : CXT} {k : Nat} {fa a : Addr} {fd : FuncData} {x : Str} {sp : Sp} {s₁ : Shared} {vs : List Value} {ns : List Int}
    (KX : K.In s₁.heap) (hns : s₁.heap.Ns mainGlobals mg) (hb : s₁.heap.Ns builtinsNs mb) (hbb : ∀ x : Str, x ≠ "__name__" → mb x = bootBuiltins x) (hlim : s₁.heap.NoLimit) (hg : s₁.gens = #[])
    (ha : s₁.heap.get? a = some { cls := .type "list", data := .seq vs.toArray }) (hi : IntsAre vs ns) (hl : ns.length ≤ sizeLine) (hr : Room k callerA)
    (F : ∀ base : Heap, K.In base → base.Ns mainGlobals mg → FnOk P w K mg base CX k fa fd [x] sp) (hbind : ∀ (s : Shared) (u : Value), BindsTo s fd ⟨[u], []⟩ [(x, u)])
    (hsp : ∀ H : Hp, Only H → SqL K H a (ns.map V.int) → sp [.ref a] H (fun v _ => v = .bl true) fun _ _ _ => False)
    (hCX : ∀ H e s', CX [] H s₁ (fun _ _ _ => False) e s' → False) :
    codeAny (model P w) callerA (.call (.ref fa) ⟨[.ref a], []⟩) (fun r s' => r = .ok (.ret (.bool true)) ∧ OldK s₁.heap s'.heap ∧ s'.os = s₁.os ∧ AllBare s'.gens) s₁ := by
  have rv := vals_ints hi
  have lenV := hi.length
  -- from an abstract heap in which nothing but the script may be tracked
  have core : ∀ H : Hp, Only H → SqL K H a (ns.map V.int) → HOk P w H s₁.heap → (∀ b, H b ≠ none → b = a) → (H a ≠ none → K.lookup a = none) →
      codeAny (model P w) callerA (.call (.ref fa) ⟨[.ref a], []⟩) (fun r s' => r = .ok (.ret (.bool true)) ∧ OldK s₁.heap s'.heap ∧ s'.os = s₁.os ∧ AllBare s'.gens) s₁ := by
    intro H hO hS hok hA hK
    have base_of : ∀ {b : Addr} {o : Obj}, s₁.heap.get? b = some o → H b = none → (hidT s₁.heap H).get? b = some o := fun e n => hidT_get e n
    have noA : ∀ {b : Addr} {o : Obj} {es : Array DictEntry} {ep : Nat}, s₁.heap.get? b = some o → o.data = .dict es ep → H b = none := fun {b o es ep} e d => by
      cases q : H b with
      | none => rfl
      | some u =>
        have e' : b = a := hA b (by rw [q]; simp)
        subst e'
        rw [ha] at e; cases e
        have d' : Data.seq vs.toArray _ = Data.dict es ep := d
        cases d'
    have nsK : ∀ {b : Addr} {m : Str → Option Value}, s₁.heap.Ns b m → (hidT s₁.heap H).Ns b m := fun {b m} ⟨o, es, ep, e, d, r⟩ => ⟨o, es, ep, base_of e (noA e d), d, r⟩
    have hKb : K.In (hidT s₁.heap H) := fun b o e => base_of (KX b o e) (by
      cases q : H b with
      | none => rfl
      | some u =>
        have e' : b = a := hA b (by rw [q]; simp)
        subst e'
        rw [hK (by rw [q]; simp)] at e; cases e)
    have hM : Mod K mg (hidT s₁.heap H) := ⟨hKb, nsK hns, ⟨mb, nsK hb, hbb⟩, let ⟨mc, h1, h2⟩ := hlim; ⟨mc, nsK h1, h2⟩⟩
    have e0 : Env0 P w K mg (hidT s₁.heap H) callerA [] s₁ H := ⟨rfl, hM, fun b o e => of_hidT e, Nat.le_of_eq (hidT_size _ _), trivial, fun b hb => absurd (show b ∈ ([] : List Addr) from hb) (by simp), hok, .of_eq hg⟩
    refine codeAny_mono ((F _ hKb (nsK hns)).run callerA [] s₁ H ⟨[.ref a], []⟩ [.ref a] [.ref a] _ _ hr e0 (hbind s₁ (.ref a)) (.cons rfl .nil) (hsp H hO hS)) fun r s' h => ?_
    cases r with
    | error e => exact (hCX H e s' h).elim
    | ok fl =>
      cases fl with
      | next => exact False.elim h
      | brk => exact False.elim h
      | cont => exact False.elim h
      | ret u =>
        obtain ⟨v, H', os, bare, un, hok', r', q⟩ := h
        have q' : v = .bl true := q
        subst q'
        obtain rfl : u = Value.bool true := r'
        refine ⟨rfl, OldK.of_keep fun b o e => ?_, os, bare⟩
        cases q : H b with
        | none => exact un.keep b o e q (by intro z; exact absurd (show b ∈ ([] : List Addr) from z) (by simp)) (by simp)
        | some u =>
          rcases hO b with z | ⟨ob, xs, z⟩
          · rw [q] at z; cases z
          · have z2 := un.frzs b ob _ z
            obtain ⟨e1, _⟩ := hok b _ z
            obtain ⟨e2, _⟩ := hok' b _ z2
            rw [e] at e1; cases e1
            exact e2
  cases hk : K.lookup a with
  | some o =>
    -- the script is one of the module's own objects
    have e := KX a o hk
    rw [ha] at e
    cases e
    refine core (fun _ => none) (fun _ => .inl rfl) (.inr ⟨_, vs.toArray, _, hk, rfl, rfl, rfl, by rw [List.size_toArray, lenV]; exact hl, by simpa using rv⟩) (fun b u z => by have z' : (none : Option HO) = some u := z; cases z') (fun b z => absurd rfl z) fun z => absurd rfl z
  | none =>
    refine core (fun b => if b = a then some (.frz { cls := .type "list", data := .seq vs.toArray } (.lst (ns.map V.int))) else none) (fun b => ?_) (.inl (.inr ⟨{ cls := .type "list", data := .seq vs.toArray }, if_pos rfl⟩)) (fun b u z => ?_) (fun b z => ?_) fun _ => hk
    · by_cases hb : b = a
      · exact .inr ⟨_, _, if_pos hb⟩
      · exact .inl (if_neg hb)
    · by_cases hb : b = a
      · have z' := (if_pos hb).symm.trans z
        cases z'
        subst hb
        exact ⟨ha, by rw [List.length_map]; exact hl, vs, _, rv, ha⟩
      · have z' := (if_neg hb).symm.trans z
        cases z'
    · by_cases hb : b = a
      · exact hb
      · exact absurd (if_neg hb) z
end L2

namespace L2
open PySem PySem.Spec PyProof.Rows

theorem walk_of {l : PySem.W.OpenLaw} {n k : Nat} {q : Program} {loose : List Str} {XP : (Str → Option Value) → Heap → Prop} {YP : World → Heap → Prop} {d : DefRec} {K : Params → PySem.W.Frag} {CX : World → CXT} {sp : World → Sp} {x : Str}
    (hn : l.most = some n) (hn2 : n ≤ sizeLine) (hdf : d.params.defaults = []) (hr : Room k callerA)
    (hY : ∀ (w : World) (h : Heap), YP w h → (K w.params).In h)
    (F : ∀ (w : World) (mg : Str → Option Value) (fa : Addr) (h : Heap), (K w.params).In h → h.Ns mainGlobals mg → mg d.name = some (.ref fa) →
      ∃ fd : FuncData, (∀ (s : Shared) (u : Value), BindsTo s fd ⟨[u], []⟩ [(x, u)]) ∧
        ∀ base : Heap, (K w.params).In base → base.Ns mainGlobals mg → FnOk l.prog w (K w.params) mg base (CX w) k fa fd [x] (sp w))
    (hsp : ∀ (w : World) (H : Hp) (a : Addr) (ns : List Int), ns.length ≤ n → Only H → SqL (K w.params) H a (ns.map V.int) → sp w [.ref a] H (fun v _ => v = .bl true) fun _ _ _ => False)
    (hCX : ∀ (w : World) (H : Hp) (s : Shared) (e : Value) (s' : Shared), CX w [] H s (fun _ _ _ => False) e s' → False) :
    PySem.W.WalkO q loose XP YP l.row.toRowW d [] (fun f vs => PySem.call f vs) := by
  refine Att.attach_call hn hdf fun w s₀ s₁ mg mb fa o pm cd doc a vs ns G Y ho hd hcd hmg hobj hints hlen hg => ?_
  have KX := hY w _ Y
  obtain ⟨fd, hb, hF⟩ := F w mg fa _ KX G.T.g hmg
  exact law_call KX G.T.g G.T.b G.T.builtins G.T.nolimit hg hobj hints (Nat.le_trans hlen hn2) hr hF hb (fun H hO hS => hsp w H a ns hlen hO hS) fun H e s' => hCX w H s₁ e s'
end L2


namespace L2
open PySem PySem.Spec PyProof.Rows

def defArgs (s : Stmt) : Arguments := match s with
  | .FunctionDef _ a _ _ _ _ _ _ _ _ => a
  | _ => { posonlyargs := [], args := [], vararg := none, kwonlyargs := [], kw_defaults := [], kwarg := none, defaults := [] }
def defBody (s : Stmt) : List Stmt := match s with
  | .FunctionDef _ _ b _ _ _ _ _ _ _ => b
  | _ => []
def defScope (s : Stmt) : Scope := match s with
  | .FunctionDef _ _ _ _ _ _ sc _ _ _ => sc
  | _ => { kind := .function, names := [], isGenerator := false, isCoroutine := false }

abbrev CX0 : CXT := fun _ _ _ _ _ _ => False
abbrev E0 : XK := fun _ _ _ => False
theorem pass0 {X : Cx} : Passes CX0 X E0 := fun _ _ _ _ _ _ _ h => h.elim

structure Fun (K : PySem.W.Frag) (x qual : Str) (st : Stmt) (f : Addr) (fd : FuncData) : Prop where
  ex : ∃ (oc : Value) (od : Option Addr) (kV doc pm : Value) (an : Option Addr) (cdv ct : Value) (osl : Array (Option Value)),
    fd = PySem.W.fnOf x qual (defArgs st) (defBody st) (defScope st) .none kV doc pm an cdv ct ∧ K.lookup f = some ⟨oc, od, .func fd, osl⟩ ∧ PySem.W.codeIn K cdv qual = true
  kp : PySem.W.keepIn K (.ref f) = true
section
variable {P : Program} {w : World} {K : PySem.W.Frag} {mg : Str → Option Value} {base : Heap}
theorem Fun.ok {x qual : Str} {st : Stmt} {f : Addr} {fd : FuncData} {N ps : List Str} {k : Nat} {sp : Sp} (F : Fun K x qual st f fd) (S : FnScope N ps (defScope st)) (len : ∀ vs H Q E, sp vs H Q E → vs.length = ps.length)
    (hbody : ∀ (cdv : Value) (A : Around) (outer : List Env) (s : Shared) (H : Hp) (vs : List V) (Q : VK) (E : XK), Room k (A.deeper (envOfC qual (defScope st) s.heap.objs.size f cdv)) → sp vs H Q E →
      ∃ t, PSs (cxOf CX0 P w K mg base N qual (defScope st) f cdv A outer s H E).nox (defBody st) t ∧ t { nx := fun _ H' => Q .non H', rt := Q } (start N vs) H) : FnOk P w K mg base CX0 (k + 1) f fd ps sp := by
  obtain ⟨oc, od, kV, doc, pm, an, cdv, ct, osl, rfl, lk, hcd⟩ := F.ex
  refine fn_of lk hcd S len fun A outer s H vs Q E hr hsp => ?_
  obtain ⟨t, h, q⟩ := hbody cdv A outer s H vs Q E hr hsp
  exact ⟨t, h.nox, q⟩
theorem Fun.binds {x qual : Str} {st : Stmt} {f : Addr} {fd : FuncData} {ps : List Str} (F : Fun K x qual st f fd)
    (h : ∀ (kV doc pm : Value) (an : Option Addr) (cdv ct : Value) (us : List Value), us.length = ps.length → bindArgs (PySem.W.fnOf x qual (defArgs st) (defBody st) (defScope st) .none kV doc pm an cdv ct) ⟨us, []⟩ = pure (ps.zip us)) : Binds K fd ps [] := by
  obtain ⟨oc, od, kV, doc, pm, an, cdv, ct, osl, rfl, lk, hcd⟩ := F.ex
  exact .all (h kV doc pm an cdv ct)
theorem fun_mk {x qual : Str} {st : Stmt} {f : Addr} {oc : Value} {od an : Option Addr} {osl : Array (Option Value)} {kV doc pm cdv ct : Value} (l : K.lookup f = some ⟨oc, od, .func (PySem.W.fnOf x qual (defArgs st) (defBody st) (defScope st) .none kV doc pm an cdv ct), osl⟩)
    (c : PySem.W.codeIn K cdv qual = true) (k : PySem.W.keepIn K (.ref f) = true) : Fun K x qual st f (PySem.W.fnOf x qual (defArgs st) (defBody st) (defScope st) .none kV doc pm an cdv ct) := ⟨⟨oc, od, kV, doc, pm, an, cdv, ct, osl, rfl, l, c⟩, k⟩
end
theorem hu_of {A : Around} {k : Nat} (hr : Room k A) : A.units + 1 < cLine := Nat.lt_of_le_of_lt (Nat.add_le_add_left (by decide : 1 ≤ 64) _) hr.units
section
variable {X : Cx}
theorem pv (i : Nat) {x : Str} {pos : Pos} (hN : X.N[i]? = some x := by rfl) (hv : Vis X.env.scope x := by first | exact Or.inl rfl | exact Or.inr (Or.inl rfl) | exact Or.inr (Or.inr rfl)) (hd : (x == ("__debug__" : Str)) = false := by decide)
    (hcd : (x == ("__classdict__" : Str)) = false := by decide) : PE X (.Name x pos) (tVar i) := pe_var hN hv hd hcd
end

def Same (H H' : Hp) : Prop := ∀ b o, H b = some o → H' b = some o
theorem Same.refl (H : Hp) : Same H H := fun _ _ h => h
theorem Same.trans {H H1 H2 : Hp} (a : Same H H1) (b : Same H1 H2) : Same H H2 := fun c o h => b c o (a c o h)
theorem Same.free {H H' : Hp} (e : Same H H') {l : Addr} (h : H' l = Option.none) : H l = Option.none := by
  cases q : H l with
  | none => rfl
  | some o =>
    rw [e l o q] at h
    cases h
theorem Same.seq {K : PySem.W.Frag} {H H' : Hp} {a : Addr} {xs : List V} (e : Same H H') (h : SqL K H a xs) : SqL K H' a xs := by
  rcases h with (h | ⟨o, h⟩) | h
  · exact .inl (.inl (e _ _ h))
  · exact .inl (.inr ⟨o, e _ _ h⟩)
  · exact .inr h

end L2

set_option Elab.async false
set_option linter.all false
set_option maxRecDepth 100000
namespace L2
open PySem PySem.Spec PyProof.Rows

structure Cal (P : Program) (w : World) (K : PySem.W.Frag) (mg : Str → Option Value) (base : Heap) (CX : CXT) (x : Str) (k : Nat) (ps : List Str) (sp : Sp) : Prop where
  ex : ∃ f fd, FnOk P w K mg base CX k f fd ps sp ∧ Binds K fd ps [] ∧ PySem.W.keepIn K (.ref f) = true ∧ mg x = some (.ref f)

section
variable {X : Cx} {CX : CXT} {x : Str} {j k : Nat} {ps : List Str} {sp : Sp} {E : XK} {p pos : Pos} {e : Expr} {es : List Expr} {t : TA}
theorem pe_callX (C : Cal X.prog X.w X.K X.mg X.base CX x j ps sp) (hr : Room k X.A) (hg : Gl X x) (hx : Passes CX X E) (ha : PA X (e :: es) t) (hj : j ≤ k := by decide) (hdb : (x == ("__debug__" : Str)) = false := by decide)
    (he : starEach (e :: es) X.env = (false, eval e X.env) :: starEach es X.env := by rfl) (hpl : (backTo pos (starEach es X.env)).any (·.1) = false := by rfl) :
    PE X (.Call (.Name x p) (e :: es) [] pos) (tCall sp [] E t) := by
  obtain ⟨f, fd, F, b, kp, m⟩ := C.ex
  exact pe_call F (hr.mono hj) hg m kp b .nil hx ha hdb he hpl
theorem pe_callC (C : Cal X.prog X.w X.K X.mg X.base CX0 x j ps sp) (hr : Room k X.A) (hg : Gl X x) (ha : PA X (e :: es) t) (hj : j ≤ k := by decide) (hdb : (x == ("__debug__" : Str)) = false := by decide)
    (he : starEach (e :: es) X.env = (false, eval e X.env) :: starEach es X.env := by rfl) (hpl : (backTo pos (starEach es X.env)).any (·.1) = false := by rfl) :
    PE X (.Call (.Name x p) (e :: es) [] pos) (tCall sp [] E0 t) := pe_callX C hr hg pass0 ha hj hdb he hpl
end

inductive Kn where
  | non | bl | int | str | lst | tup | dct
def tyK (T : String) : Option Kn :=
  if T = "int" then some .int else if T = "bool" then some .bl else if T = "str" then some .str else if T = "list" then some .lst else if T = "tuple" then some .tup else none
theorem tyK_int : tyK "int" = some .int := rfl
theorem tyK_bool : tyK "bool" = some .bl := rfl
theorem tyK_str : tyK "str" = some .str := rfl
theorem tyK_list : tyK "list" = some .lst := rfl
theorem tyK_tuple : tyK "tuple" = some .tup := rfl
def isiB : Kn → Kn → Bool
  | .int, .int => true
  | .bl, .int => true
  | .bl, .bl => true
  | .str, .str => true
  | .lst, .lst => true
  | .tup, .tup => true
  | _, _ => false
def dctO (a : Addr) : HO := .ext fun h => ∃ o, h.get? a = some o ∧ o.cls = .type "dict"
def Kd (K : PySem.W.Frag) (H : Hp) : V → Kn → Prop
  | .non, k => k = .non
  | .bl _, k => k = .bl
  | .int _, k => k = .int
  | .str _, k => k = .str
  | .ref a, k => (k = .lst ∧ ∃ xs, SqL K H a xs) ∨ (k = .tup ∧ ∃ xs, SqT K H a xs) ∨ (k = .dct ∧ H a = some (dctO a))
  | _, _ => False
def rIsi (K : PySem.W.Frag) : List V → Hp → VK → Prop := fun xs H Q => ∃ x T kt k, xs = [x, .ty T] ∧ tyK T = some kt ∧ Kd K H x k ∧ Q (.bl (isiB k kt)) H
theorem tyK_some {T : String} {kt : Kn} (h : tyK T = some kt) : (T = "int" ∧ kt = .int) ∨ (T = "bool" ∧ kt = .bl) ∨ (T = "str" ∧ kt = .str) ∨ (T = "list" ∧ kt = .lst) ∨ (T = "tuple" ∧ kt = .tup) := by
  unfold tyK at h
  split at h
  · next e => exact .inl ⟨e, (Option.some.inj h).symm⟩
  split at h
  · next e => exact .inr (.inl ⟨e, (Option.some.inj h).symm⟩)
  split at h
  · next e => exact .inr (.inr (.inl ⟨e, (Option.some.inj h).symm⟩))
  split at h
  · next e => exact .inr (.inr (.inr (.inl ⟨e, (Option.some.inj h).symm⟩)))
  split at h
  · next e => exact .inr (.inr (.inr (.inr ⟨e, (Option.some.inj h).symm⟩)))
  · cases h
section
variable {X : Cx}
theorem call_isi : CallR X (.builtin "isinstance") (rIsi X.K) := by
  intro pins s σ H xs us Q I r h
  obtain ⟨x, T, kt, k, rfl, ht, hk, q⟩ := h
  obtain ⟨u, w', rfl, rx, rt⟩ := vals2 r
  obtain rfl : w' = Value.type T := rt
  have f1 : EP X pins σ Q (.bool (isiB k kt)) s := ⟨.bl _, H, I, rfl, q⟩
  have f2 : EP X pins σ Q (.bool (isiB k kt)) { s with toks := s.toks + 1 } := ⟨.bl _, H, I.tok _, rfl, q⟩
  have hT := tyK_some ht
  clear ht q
  cases x with
  | non =>
    obtain rfl : u = Value.none := rx
    obtain rfl : k = .non := hk
    rcases hT with ⟨rfl, rfl⟩ | ⟨rfl, rfl⟩ | ⟨rfl, rfl⟩ | ⟨rfl, rfl⟩ | ⟨rfl, rfl⟩
    · exact IsiPair.NoneType_int f2
    · exact IsiPair.NoneType_bool f2
    · exact IsiPair.NoneType_str f2
    · exact IsiPair.NoneType_list f2
    · exact IsiPair.NoneType_tuple f2
  | bl b =>
    obtain rfl : u = Value.bool b := rx
    obtain rfl : k = .bl := hk
    rcases hT with ⟨rfl, rfl⟩ | ⟨rfl, rfl⟩ | ⟨rfl, rfl⟩ | ⟨rfl, rfl⟩ | ⟨rfl, rfl⟩
    · first | exact IsiPair.bool_int f1 | exact IsiPair.bool_int f2
    · exact IsiPair.bool_bool f1
    · exact IsiPair.bool_str f2
    · exact IsiPair.bool_list f2
    · exact IsiPair.bool_tuple f2
  | int i =>
    obtain ⟨t, rfl⟩ := rx
    obtain rfl : k = .int := hk
    rcases hT with ⟨rfl, rfl⟩ | ⟨rfl, rfl⟩ | ⟨rfl, rfl⟩ | ⟨rfl, rfl⟩ | ⟨rfl, rfl⟩
    · exact IsiPair.int_int f1
    · exact IsiPair.int_bool f2
    · exact IsiPair.int_str f2
    · exact IsiPair.int_list f2
    · exact IsiPair.int_tuple f2
  | str z =>
    obtain ⟨t, rfl⟩ := rx
    obtain rfl : k = .str := hk
    rcases hT with ⟨rfl, rfl⟩ | ⟨rfl, rfl⟩ | ⟨rfl, rfl⟩ | ⟨rfl, rfl⟩ | ⟨rfl, rfl⟩
    · exact IsiPair.str_int f2
    · exact IsiPair.str_bool f2
    · exact IsiPair.str_str f1
    · exact IsiPair.str_list f2
    · exact IsiPair.str_tuple f2
  | ref a =>
    obtain rfl : u = Value.ref a := rx
    rcases hk with ⟨rfl, xs, hq⟩ | ⟨rfl, xs, hq⟩ | ⟨rfl, hq⟩
    · obtain ⟨its, _, ⟨o, n, e, c, _, _⟩, _⟩ := I.list hq
      rcases hT with ⟨rfl, rfl⟩ | ⟨rfl, rfl⟩ | ⟨rfl, rfl⟩ | ⟨rfl, rfl⟩ | ⟨rfl, rfl⟩
      · exact IsiPair.list_int e c f2
      · exact IsiPair.list_bool e c f2
      · exact IsiPair.list_str e c f2
      · exact IsiPair.list_list e c f1
      · exact IsiPair.list_tuple e c f2
    · obtain ⟨its, _, ⟨o, e, c, _⟩, _⟩ := I.tuple hq
      rcases hT with ⟨rfl, rfl⟩ | ⟨rfl, rfl⟩ | ⟨rfl, rfl⟩ | ⟨rfl, rfl⟩ | ⟨rfl, rfl⟩
      · exact IsiPair.tuple_int e c f2
      · exact IsiPair.tuple_bool e c f2
      · exact IsiPair.tuple_str e c f2
      · exact IsiPair.tuple_list e c f2
      · exact IsiPair.tuple_tuple e c f1
    · obtain ⟨⟨o, e, c⟩, _⟩ := I.hok a _ hq
      rcases hT with ⟨rfl, rfl⟩ | ⟨rfl, rfl⟩ | ⟨rfl, rfl⟩ | ⟨rfl, rfl⟩ | ⟨rfl, rfl⟩
      · exact IsiPair.dict_int e c f2
      · exact IsiPair.dict_bool e c f2
      · exact IsiPair.dict_str e c f2
      · exact IsiPair.dict_list e c f2
      · exact IsiPair.dict_tuple e c f2
  | _ => exact False.elim hk
end

section
variable {X : Cx} {tg : Expr}
end
def ForW (J : It) (g : TG) (tb : TS) (D : Ends) (σ : St) (H : Hp) : Prop := ∃ W : Nat → Nat → St → Hp → Prop, (∃ m, W 0 m σ H) ∧ ∀ i m σ H, W i m σ H →
  (J.stop i H ∧ D.nx σ H) ∨ (J.go i H ∧ ∃ N : St → Hp → Prop, (∀ σ' H', N σ' H' → ∃ m', m' < m ∧ W (i + 1) m' σ' H') ∧ ∀ x H', J.yld i H x H' → g x σ H' fun σ2 H2 => tb { D with nx := N, ct := N, bk := D.nx } σ2 H2)
theorem tFor_eq {wi : TI} {g : TG} {tb : TS} {D : Ends} {σ : St} {H : Hp} : tFor wi g tb D σ H = wi σ H fun J H1 => ForW J g tb D σ H1 := rfl
section
variable {K : PySem.W.Frag} {a : Addr} {xs : List V} {g : TG} {tb : TS} {D : Ends} {σ : St} {H : Hp} {lo : Int} {n : Nat}
theorem forW_list (xs : List V) (Pv : Nat → St → Hp → Prop) (h0 : Pv 0 σ H) (hl : ∀ i σ H, i ≤ xs.length → Pv i σ H → SqL K H a xs)
    (hs : ∀ i x σ H, xs[i]? = some x → Pv i σ H → g x σ H fun σ2 H2 => tb { D with nx := Pv (i + 1), ct := Pv (i + 1), bk := D.nx } σ2 H2) (hd : ∀ σ H, Pv xs.length σ H → D.nx σ H) : ForW (Itl K a) g tb D σ H := for_list Pv h0 hl hs hd
theorem forW_range (Pv : Nat → St → Hp → Prop) (h0 : Pv 0 σ H)
    (hs : ∀ i σ H, i < n → Pv i σ H → g (.int (lo + i)) σ H fun σ2 H2 => tb { D with nx := Pv (i + 1), ct := Pv (i + 1), bk := D.nx } σ2 H2) (hd : ∀ σ H, Pv n σ H → D.nx σ H) : ForW (Itr lo n) g tb D σ H := for_range Pv h0 hs hd
end

structure Bits (n : Nat) (i : Int) : Prop where
  lt : i.natAbs < 2 ^ n
theorem Bits.mono {m n : Nat} {i : Int} (h : Bits m i) (le : m ≤ n) : Bits n i := ⟨Nat.lt_of_lt_of_le h.lt (Nat.pow_le_pow_right (by decide) le)⟩
theorem Bits.add {n : Nat} {i j : Int} (h : Bits n i) (h' : Bits n j) : Bits (n + 1) (i + j) := ⟨by
  have := Int.natAbs_add_le i j
  have := h.lt
  have := h'.lt
  rw [Nat.pow_succ]
  omega⟩
theorem Bits.neg {n : Nat} {i : Int} (h : Bits n i) : Bits n (-i) := ⟨by rw [Int.natAbs_neg]; exact h.lt⟩
theorem Bits.sub {n : Nat} {i j : Int} (h : Bits n i) (h' : Bits n j) : Bits (n + 1) (i - j) := by
  rw [Int.sub_eq_add_neg]
  exact h.add h'.neg
theorem Bits.of {n : Nat} {i b : Int} (lo : -b ≤ i) (hi : i ≤ b) (hb : b < ((2 ^ n : Nat) : Int)) : Bits n i := ⟨by omega⟩
theorem Bits.le {n : Nat} {i j : Int} (h : Bits n j) (le : i.natAbs ≤ j.natAbs) : Bits n i := ⟨Nat.lt_of_le_of_lt le h.lt⟩
theorem Bits.bits {n : Nat} {i : Int} (h : Bits n i) : Builtin.Int.intBits i ≤ n := by
  unfold Builtin.Int.intBits
  split
  · exact Nat.zero_le _
  · have q := h.lt
    rcases Nat.eq_zero_or_pos i.natAbs with h0 | hp
    · rw [h0] at q ⊢
      have : (0 : Nat).log2 = 0 := by decide
      rename_i hz
      exact absurd (by simp; omega) hz
    · have := (Nat.log2_lt (Nat.ne_of_gt hp)).mpr q
      omega
def CMulB (i j : Int) : Prop := Bits 100000 i ∧ Bits 100000 j
theorem CMulB.ok {i j : Int} (h : CMulB i j) : IntMulOk i j := IntMulOk.of_bits (Nat.le_trans h.1.bits (by decide)) (Nat.le_trans h.2.bits (by decide))
def CDivB (_ j : Int) : Prop := 0 < j ∧ Bits 8999 j
theorem CDivB.ok {i j : Int} (h : CDivB i j) : Builtin.divisionGoesByPylong i j = false := by
  refine PyProof.noPylong_of_log2 ?_
  have q := h.2.lt
  have := (Nat.log2_lt (n := j.natAbs) (k := 8999) (by have := h.1; omega)).mpr q
  omega
section
variable {X : Cx}
theorem op_mulB : OpR X (binaryOp .Mult) (rI CMulB fun i j => .int (i * j)) := opI fun _ _ _ _ _ _ _ hc q => mul_int q hc.ok
theorem op_fdivB : OpR X (binaryOp .FloorDiv) (rI CDivB fun i j => .int (i / j)) := opI fun i j _ _ _ _ _ hc q => by
  have h1 : (0 : Int) < j := hc.1
  exact floordiv_int (by omega) (by rw [Int.fdiv_eq_ediv_of_nonneg i (by omega)]; exact q) (.inl hc.ok)
def tMenu (t : TA) (ti : TE) : TE := fun σ H Q => t σ H fun xs H1 => xs.length ≤ sizeLine ∧ ti σ H1 fun y H2 => ∃ i v, y = .int i ∧ 0 ≤ i ∧ xs[i.toNat]? = some v ∧ Q v H2
end
section
variable {X : Cx} {es : List Expr} {b : Expr} {t : TA} {ti : TE} {pos p2 : Pos}
theorem pe_menu (h : PA X es t) (hb : PE X b ti) (hs : PlainIx b) : PE X (.Subscript (.List es p2) b pos) (tMenu t ti) := by
  intro pins s σ H Q I hq
  refine Subscript_ (wpAny_List_spliced (thn (h p2 pins s σ H _ I hq) fun us s1 ⟨xs, H1, I1, r, z, q⟩ => ⟨by rw [← r.length]; exact z, ?_⟩))
  have hf : H1 s1.heap.objs.size = none := I1.hok.fresh (Nat.le_refl _)
  have I2 : Inv X (pins ++ [(s1.heap.objs.size, { cls := .type "list", data := .seq us.toArray })]) σ H1 { s1 with heap := s1.heap.push { cls := .type "list", data := .seq us.toArray } } := by
    have J : Inv X pins σ H1 { s1 with heap := s1.heap.push { cls := .type "list", data := .seq us.toArray } } := I1.kept (t' := s1.toks) fun b u e => Heap.get?_push_of_some _ e
    refine J.pins_of fun p hp => ?_
    rcases List.mem_append.mp hp with hp | hp
    · exact J.pin p (List.mem_append_right _ hp)
    · have e := List.mem_singleton.mp hp
      subst e
      exact ⟨Heap.get?_push_size _ rfl, hf, Nat.ne_of_gt I1.lt, I1.nofs (Nat.le_refl _), fun v z => by cases z⟩
  refine thn (hb _ _ σ H1 _ I2 q) fun u s2 ⟨y, H2, I3, ry, i, v, e, h0, ha, q2⟩ => ?_
  subst e
  obtain ⟨t', rfl⟩ := ry
  obtain ⟨hp, _⟩ := I3.pin (s1.heap.objs.size, { cls := .type "list", data := .seq us.toArray }) (List.mem_append_right _ (List.mem_append_right _ (List.mem_singleton.mpr rfl)))
  obtain ⟨w, ew, rw'⟩ := r.get ha
  have I4 : Inv X pins σ H2 s2 := I3.pins_of fun p hp => I3.pin p (List.mem_append_right _ (List.mem_append_left _ hp))
  have hl := r.length
  have hn := line63
  have hi : i.toNat < us.length := (List.getElem?_eq_some_iff.mp ew).1
  have fin : EP X pins σ Q w s2 := ⟨v, H2, I4, rw', q2⟩
  exact item_listR (l := s1.heap.objs.size) ⟨_, hp, rfl, _, rfl⟩ h0 (by omega) (by simpa using ew) fin (hs _ _)
end
theorem isi_non_bl : isiB .non .bl = false := rfl
theorem isi_non_int : isiB .non .int = false := rfl
theorem isi_non_str : isiB .non .str = false := rfl
theorem isi_non_lst : isiB .non .lst = false := rfl
theorem isi_non_tup : isiB .non .tup = false := rfl
theorem isi_bl_bl : isiB .bl .bl = true := rfl
theorem isi_bl_int : isiB .bl .int = true := rfl
theorem isi_bl_str : isiB .bl .str = false := rfl
theorem isi_bl_lst : isiB .bl .lst = false := rfl
theorem isi_bl_tup : isiB .bl .tup = false := rfl
theorem isi_int_bl : isiB .int .bl = false := rfl
theorem isi_int_int : isiB .int .int = true := rfl
theorem isi_int_str : isiB .int .str = false := rfl
theorem isi_int_lst : isiB .int .lst = false := rfl
theorem isi_int_tup : isiB .int .tup = false := rfl
theorem isi_str_bl : isiB .str .bl = false := rfl
theorem isi_str_int : isiB .str .int = false := rfl
theorem isi_str_str : isiB .str .str = true := rfl
theorem isi_str_lst : isiB .str .lst = false := rfl
theorem isi_str_tup : isiB .str .tup = false := rfl
theorem isi_lst_bl : isiB .lst .bl = false := rfl
theorem isi_lst_int : isiB .lst .int = false := rfl
theorem isi_lst_str : isiB .lst .str = false := rfl
theorem isi_lst_lst : isiB .lst .lst = true := rfl
theorem isi_lst_tup : isiB .lst .tup = false := rfl
theorem isi_tup_bl : isiB .tup .bl = false := rfl
theorem isi_tup_int : isiB .tup .int = false := rfl
theorem isi_tup_str : isiB .tup .str = false := rfl
theorem isi_tup_lst : isiB .tup .lst = false := rfl
theorem isi_tup_tup : isiB .tup .tup = true := rfl
theorem isi_dct_bl : isiB .dct .bl = false := rfl
theorem isi_dct_int : isiB .dct .int = false := rfl
theorem isi_dct_str : isiB .dct .str = false := rfl
theorem isi_dct_lst : isiB .dct .lst = false := rfl
theorem isi_dct_tup : isiB .dct .tup = false := rfl
theorem Kd_non {K : PySem.W.Frag} {H : Hp} {k : Kn} : Kd K H .non k = (k = .non) := rfl
theorem Kd_bl {K : PySem.W.Frag} {H : Hp} {k : Kn} {b : Bool} : Kd K H (.bl b) k = (k = .bl) := rfl
theorem Kd_int {K : PySem.W.Frag} {H : Hp} {k : Kn} {i : Int} : Kd K H (.int i) k = (k = .int) := rfl
theorem Kd_str {K : PySem.W.Frag} {H : Hp} {k : Kn} {z : Str} : Kd K H (.str z) k = (k = .str) := rfl
theorem Kd.tup {K : PySem.W.Frag} {H : Hp} {a : Addr} {xs : List V} (h : SqT K H a xs) : Kd K H (.ref a) .tup := .inr (.inl ⟨rfl, xs, h⟩)
theorem Kd.lst {K : PySem.W.Frag} {H : Hp} {a : Addr} {xs : List V} (h : SqL K H a xs) : Kd K H (.ref a) .lst := .inl ⟨rfl, xs, h⟩
theorem Kd.dct {K : PySem.W.Frag} {H : Hp} {a : Addr} (h : H a = some (dctO a)) : Kd K H (.ref a) .dct := .inr (.inr ⟨rfl, h⟩)
theorem Kd.ref {K : PySem.W.Frag} {H : Hp} {a : Addr} {k : Kn} (h : Kd K H (.ref a) k) : k ≠ .int ∧ k ≠ .bl ∧ k ≠ .str ∧ k ≠ .non := by
  rcases h with ⟨rfl, _⟩ | ⟨rfl, _⟩ | ⟨rfl, _⟩ <;> exact ⟨(by intro z; cases z), (by intro z; cases z), (by intro z; cases z), (by intro z; cases z)⟩
theorem sc_non_non : scal .non .non = true := rfl
theorem sc_non_int {x2 : Int} : scal .non (.int x2) = true := rfl
theorem sc_int_non {x1 : Int} : scal (.int x1) .non = true := rfl
theorem sc_non_bl {x2 : Bool} : scal .non (.bl x2) = true := rfl
theorem sc_bl_non {x1 : Bool} : scal (.bl x1) .non = true := rfl
theorem sc_non_str {x2 : Str} : scal .non (.str x2) = true := rfl
theorem sc_str_non {x1 : Str} : scal (.str x1) .non = true := rfl
theorem sc_int_int {x1 : Int} {x2 : Int} : scal (.int x1) (.int x2) = true := rfl
theorem sc_bl_bl {x1 : Bool} {x2 : Bool} : scal (.bl x1) (.bl x2) = true := rfl
theorem sc_str_str {x1 : Str} {x2 : Str} : scal (.str x1) (.str x2) = true := rfl
theorem sc_int_str {x1 : Int} {x2 : Str} : scal (.int x1) (.str x2) = true := rfl
theorem sc_str_int {x1 : Str} {x2 : Int} : scal (.str x1) (.int x2) = true := rfl
theorem sc_bl_str {x1 : Bool} {x2 : Str} : scal (.bl x1) (.str x2) = true := rfl
theorem sc_str_bl {x1 : Str} {x2 : Bool} : scal (.str x1) (.bl x2) = true := rfl
theorem cxK {CX : CXT} {P : Program} {w : World} {K : PySem.W.Frag} {mg : Str → Option Value} {base : Heap} {N : List Str} {qual : Str} {scope : Scope} {f : Addr} {cd : Value} {A : Around} {outer : List Env} {s : Shared} {H : Hp} {E : XK} :
    (cxOf CX P w K mg base N qual scope f cd A outer s H E).K = K := rfl
theorem b_len : bootBuiltins "len" = some (.builtin "len") := by decide +kernel
theorem b_abs : bootBuiltins "abs" = some (.builtin "abs") := by decide +kernel
theorem b_isinstance : bootBuiltins "isinstance" = some (.builtin "isinstance") := by decide +kernel
theorem b_int : bootBuiltins "int" = some (.type "int") := by decide +kernel
theorem b_bool : bootBuiltins "bool" = some (.type "bool") := by decide +kernel
theorem b_str : bootBuiltins "str" = some (.type "str") := by decide +kernel
theorem b_list : bootBuiltins "list" = some (.type "list") := by decide +kernel
theorem b_tuple : bootBuiltins "tuple" = some (.type "tuple") := by decide +kernel
theorem b_all : bootBuiltins "all" = some (.builtin "all") := by decide +kernel
structure Mg (mg : Str → Option Value) : Prop where
  m_len : mg "len" = none
  m_range : mg "range" = none
  m_abs : mg "abs" = none
  m_max : mg "max" = none
  m_min : mg "min" = none
  m_isinstance : mg "isinstance" = none
  m_int : mg "int" = none
  m_bool : mg "bool" = none
  m_str : mg "str" = none
  m_list : mg "list" = none
  m_tuple : mg "tuple" = none
  m_sum : mg "sum" = none
  m_all : mg "all" = none
  m_enumerate : mg "enumerate" = none
  m_zip : mg "zip" = none
  m_ValueError : mg "ValueError" = none
  m_any : mg "any" = none
  m_set : mg "set" = none
  m_sorted : mg "sorted" = none
end L2

set_option Elab.async false
set_option linter.all false
set_option maxRecDepth 100000
set_option maxHeartbeats 1000000
namespace L2
open PySem PySem.Spec PyProof.Rows
section
variable {prog : Program} {w : World} {A : Around} {R : Result → Shared → Prop} {s : Shared}
theorem compLoop_go {elt target iter : Expr} {ifs : List Expr} {scope : Scope} {pos : Pos} {it acc : Value} {env : Env} (I : Nat → Shared → Prop)
    (turn : ∀ n s, I n s → wpAny (model prog w) A (pyNext it) (fun r s₁ => match r with
      | none => R (.ok .next) s₁
      | some v => wpAny (model prog w) A (letOwnedTupleGo target it v) (fun _ s₁' => wpAny (model prog w) A (assign target env v) (fun _ s₂ =>
          wpAny (model prog w) A (forIn ifs true fun c r => if r = true then do let ok ← isTrue c env (eval c env); pure (ForInStep.yield ok) else pure (ForInStep.yield r)) (fun ok s₃ =>
            if ok = true then wpAny (model prog w) A (eval elt env) (fun x s₄ =>
              wpAny (model prog w) A (call (.builtin "list.append") [acc, x]) (fun _ s₅ => ∃ m, m < n ∧ I m s₅) (fun _ _ => False) s₄) (fun _ _ => False) s₃
            else ∃ m, m < n ∧ I m s₃) (fun _ _ => False) s₂) (fun _ _ => False) s₁') (fun _ _ => False) s₁) (fun _ _ => False) s)
    (n : Nat) (h : I n s) :
    codeAny (model prog w) A (.compLoop (.ListComp elt [⟨target, iter, ifs, 0⟩] scope pos) 0 it acc env) R s := by
  refine codeAny_loop rfl I (fun n s hI => ?_) n h
  show wpAny _ A ((compTurn (.ListComp elt [⟨target, iter, ifs, 0⟩] scope pos) 0 it acc env).onRaise (fun x => do noteFrame x env; theTreesLotGoes x)) _ _ s
  refine wpAny_noted ?_
  rw [compTurn_list]
  refine wpAny_bind (wpAny_standAt (wpAny_bind (wpAny_mono (turn n s hI) (fun r s₁ h₁ => ?_) fun _ _ h' => h'.elim)))
  cases r with
  | none => exact wpAny_pure h₁
  | some v =>
    refine wpAny_bind (wpAny_mono h₁ (fun _ s₁' h₁' => wpAny_bind (wpAny_mono h₁' (fun _ s₂ h₂ => wpAny_bind (wpAny_mono h₂ (fun ok s₃ h₃ => ?_) fun _ _ h' => h'.elim)) fun _ _ h' => h'.elim)) fun _ _ h' => h'.elim)
    cases ok with
    | false => exact wpAny_pure ⟨rfl, h₃⟩
    | true =>
      exact wpAny_bind (wpAny_bind (wpAny_mono h₃ (fun x s₄ h₄ => wpAny_bind (wpAny_mono h₄ (fun _ s₅ h₅ => wpAny_pure (wpAny_pure ⟨rfl, h₅⟩)) fun _ _ h' => h'.elim)) fun _ _ h' => h'.elim))
end

def blk (X : Cx) (scope : Scope) (cl : List (Str × Addr)) (N' : List Str) (s₀ : Shared) (H₀ : Hp) (C : Addr) (pn : List (Addr × Obj)) (ex : List Addr) : Cx where
  prog := X.prog
  w := X.w
  K := X.K
  mg := X.mg
  base := X.base
  A := X.A
  N := N'
  s₀ := s₀
  H₀ := H₀
  env := compEnvC scope cl C X.env
  outer := X.stack
  stack := X.stack
  ex := ex
  fn := fun _ => false
  calm := X.calm
  pn := pn
  xe := fun _ _ => False
def PIfs (X : Cx) (ifs : List Expr) (t : TT) : Prop :=
  ∀ (pins : List (Addr × Obj)) (s : Shared) (σ : St) (H : Hp) (Q : Bool → Hp → Prop), Inv X pins σ H s → t σ H Q →
    wpAny (model X.prog X.w) X.A (forIn ifs true fun c r => if r = true then do let ok ← isTrue c X.env (eval c X.env); pure (ForInStep.yield ok) else pure (ForInStep.yield r)) (TP X pins σ Q) X.xe s
def tYes : TT := fun _ H Q => Q true H
theorem pif_nil {X : Cx} : PIfs X [] tYes := fun _ _ _ H _ I h => wpAny_tests_nil ⟨H, I, h⟩
theorem pif_one {X : Cx} {c : Expr} {t : TT} (h : PT X c t) : PIfs X [c] t := fun pins s σ H Q I q => wpAny_tests_one (h pins s σ H Q I q)
def slots (ix : List Nat) (σ : St) : St := ix.map fun j => (σ[j]?).getD none
def compW (D : Addr) (J : It) (g : TG) (tt : TT) (te : TE) (Q : VK) (W : Nat → Nat → St → Hp → Prop) : Prop :=
  ∀ i m τ H2, W i m τ H2 → (J.stop i H2 ∧ Q (.ref D) H2) ∨ (J.go i H2 ∧ ∀ x H3, J.yld i H2 x H3 → g x τ H3 fun τ' H3' => tt τ' H3' fun b H4 =>
    if b = true then te τ' H4 fun v H5 => ∃ ys, H5 D = some (.lst ys) ∧ ys.length < sizeLine ∧ ∃ m', m' < m ∧ W (i + 1) m' τ' (upd H5 D (.lst (ys ++ [v]))) else ∃ m', m' < m ∧ W (i + 1) m' τ' H4)
def tComp (ix : List Nat) (nl : Nat) (wi : TI) (g : TG) (tt : TT) (te : TE) : TE := fun σ H Q => wi σ H fun J H1 => ∀ D, H1 D = none →
  ∃ W : Nat → Nat → St → Hp → Prop, (∃ m, W 0 m (slots ix σ ++ List.replicate nl none) (upd H1 D (.lst []))) ∧ compW D J g tt te Q W

structure CompOk (X : Cx) (scope : Scope) (cl : List (Str × Addr)) (N' : List Str) (ix : List Nat) (nl : Nat) : Prop where
  clos : closureFor scope X.env = pure cl
  sub : ∀ y c, cl.lookup y = some c → X.env.cells.lookup y = some c
  has : ∀ p ∈ (relabel scope X.env).names, (p.2 = .cell ∨ p.2 = .free) → (cl.lookup p.1).isSome = true
  cell : ∀ y ∈ scope.names, y.2 ≠ .cell
  kind : scope.kind = .function
  names : ∀ y ∈ scope.names, y.2 = .local → scope.names.lookup y.1 = some .local
  len : N'.length = ix.length + nl
  out : ∀ (i j : Nat) (y : Str), ix[i]? = some j → N'[i]? = some y → X.N[j]? = some y ∧ (X.env.kindOf y = some .cell ∨ X.env.kindOf y = some .free) ∧ ((relabel scope X.env).names.lookup y = some .cell ∨ (relabel scope X.env).names.lookup y = some .free)

theorem fm0 {α : Type} {P : α → Prop} : ∀ p ∈ ([] : List α), P p := fun _ h => nomatch h
theorem fm1 {α : Type} {P : α → Prop} {a : α} {l : List α} (h : P a) (r : ∀ p ∈ l, P p) : ∀ p ∈ a :: l, P p := List.forall_mem_cons.mpr ⟨h, r⟩
def OutsOk (X : Cx) (scope : Scope) : List Nat → List Str → Prop
  | [], _ => True
  | j :: r, y :: t => (X.N[j]? = some y ∧ (X.env.kindOf y = some .cell ∨ X.env.kindOf y = some .free) ∧ ((relabel scope X.env).names.lookup y = some .cell ∨ (relabel scope X.env).names.lookup y = some .free)) ∧ OutsOk X scope r t
  | _ :: _, [] => False
theorem OutsOk.at {X : Cx} {scope : Scope} : ∀ {ix : List Nat} {N : List Str}, OutsOk X scope ix N → ∀ (i j : Nat) (y : Str), ix[i]? = some j → N[i]? = some y → X.N[j]? = some y ∧ (X.env.kindOf y = some .cell ∨ X.env.kindOf y = some .free) ∧ ((relabel scope X.env).names.lookup y = some .cell ∨ (relabel scope X.env).names.lookup y = some .free)
  | [], _, _, i, j, y, h1, _ => by simp at h1
  | _ :: _, [], h, _, _, _, _, _ => h.elim
  | _ :: _, _ :: _, h, 0, j, y, h1, h2 => by
    simp at h1 h2
    subst h1 h2
    exact h.1
  | _ :: _, _ :: _, h, i + 1, j, y, h1, h2 => OutsOk.at h.2 i j y (by simpa using h1) (by simpa using h2)
theorem CompOk.make {X : Cx} {scope : Scope} {cl : List (Str × Addr)} {N' : List Str} {ix : List Nat} {nl : Nat} (clos : closureFor scope X.env = pure cl) (sub : ∀ p ∈ cl, X.env.cells.lookup p.1 = some p.2)
    (has : ((relabel scope X.env).names.all fun p => !(p.2 == .cell || p.2 == .free) || (cl.lookup p.1).isSome) = true) (cell : ∀ y ∈ scope.names, y.2 ≠ .cell) (kind : scope.kind = .function)
    (names : ∀ y ∈ scope.names, y.2 = .local → scope.names.lookup y.1 = some .local) (len : N'.length = ix.length + nl) (out : OutsOk X scope ix N') : CompOk X scope cl N' ix nl :=
  ⟨clos, fun y c h => sub (y, c) (PySem.mem_of_lookup h), fun p hp hc => by
    have q := List.all_eq_true.mp has p hp
    rcases hc with e | e <;> (rw [e] at q; simpa using q), cell, kind, names, len, out.at⟩

section
variable {X : Cx} {pins : List (Addr × Obj)} {σ : St} {H : Hp} {s : Shared}
theorem blk_ok {scope : Scope} {cl : List (Str × Addr)} {N' : List Str} {ix : List Nat} {nl : Nat} {C : Addr} {fp : List Addr} (O : CompOk X scope cl N' ix nl) (I : Inv X pins σ H s) (hC : s.heap.objs.size ≤ C) (f : ∀ b ∈ fp, FpOk X pins H b) (lt : ∀ b ∈ fp, b < s.heap.objs.size) :
    (blk X scope cl N' s H C (X.pn ++ pins) fp).Ok where
  mod := I.ok.mod
  kind := O.kind
  glob := I.ok.glob
  blt := I.ok.blt
  above := hC
  inj := fun x y c h1 h2 => I.ok.inj x y c (O.sub x c h1) (O.sub y c h2)
  has := fun x hx => by
    have hx' : (relabel scope X.env).names.lookup x = some .cell ∨ (relabel scope X.env).names.lookup x = some .free := hx
    rcases hx' with h | h
    · exact Option.isSome_iff_exists.mp (O.has _ (PySem.mem_of_lookup h) (.inl rfl))
    · exact Option.isSome_iff_exists.mp (O.has _ (PySem.mem_of_lookup h) (.inr rfl))
  cab := fun x c h => nomatch (show false = true from h)
  hd := I.ok.hd
  frames := I.ok.frames
  stk := .inl rfl
  exf := fun b hb => ⟨Nat.ne_of_lt (Nat.lt_of_lt_of_le (lt b hb) hC), fun x c h => (f b hb).2.2.2.2.1 x c (O.sub x c h)⟩
  bs := I.bs
  bsz := Nat.le_trans I.ok.bsz I.sz
  noex := fun b o e hb => by
    rcases (f b hb).2.2.2.1 with z | z
    · exact I.ok.noex b o e z
    · exact absurd (Nat.lt_of_lt_of_le (Heap.lt_size e) (Nat.le_trans I.ok.bsz z)) (Nat.lt_irrefl _)
  exfs := fun b hb z => by
    rcases List.mem_cons.mp (I.stkSub b z) with e | e
    · exact (f b hb).2.1 e
    · exact (f b hb).2.2.1 e
  funs := I.stack
  frf := I.stkFree

theorem blk_inv {scope : Scope} {cl : List (Str × Addr)} {N' : List Str} {ix : List Nat} {nl : Nat} {C : Addr} {fp : List Addr} {h' : Heap} {t' : Nat} (O : CompOk X scope cl N' ix nl) (I : Inv X pins σ H s) (hC : s.heap.objs.size ≤ C) (f : ∀ b ∈ fp, FpOk X pins H b) (lt : ∀ b ∈ fp, b < s.heap.objs.size)
    (hn : h'.Ns C fun _ => none) (k : ∀ b o, s.heap.get? b = some o → h'.get? b = some o) :
    Inv (blk X scope cl N' s H C (X.pn ++ pins) fp) [] (slots ix σ ++ List.replicate nl none) H { s with heap := h', toks := t' } := by
  refine ⟨blk_ok O I hC f lt, rfl, I.bare, Un.kept k, ⟨_, hn, fun i x v e1 e2 e3 => ?_⟩, fun x c e => ?_, I.hok.fresh hC, fun x c e => I.freeC x c (O.sub x c e), fun p hp => ?_, I.hok.kept k, ?_⟩
  · have e1 : N'[i]? = some x := e1
    have hi : i < ix.length := by
      by_cases hi : i < ix.length
      · exact hi
      · rw [List.getElem?_append_right (by simpa [slots] using hi)] at e2
        rw [List.getElem?_replicate] at e2
        split at e2 <;> cases e2
    have e2' : (σ[ix[i]]?).getD none = some v := by
      rw [List.getElem?_append_left (by simpa [slots] using hi)] at e2
      simpa [slots, hi] using e2
    have e4 : σ[ix[i]]? = some (some v) := by
      cases q : σ[ix[i]]? with
      | none => rw [q] at e2'; cases e2'
      | some z => rw [q] at e2'; exact congrArg some e2'
    obtain ⟨o1, o2, o3⟩ := O.out i ix[i] x (by simp [hi]) e1
    obtain ⟨m, hm, hl⟩ := I.loc
    have vis : Vis X.env.scope x := by
      rcases o2 with z | z
      · exact .inr (.inl z)
      · exact .inr (.inr z)
    obtain ⟨u, r, l⟩ := hl _ x v o1 e4 vis
    rcases l with ⟨z, _⟩ | ⟨_, c, hc, o, ho, hd⟩
    · rcases o2 with y | y <;> (rw [y] at z; cases z)
    · obtain ⟨c', hc'⟩ := (blk_ok O I hC f lt).has x o3
      have z := O.sub x c' hc'
      rw [hc] at z
      cases z
      exact ⟨u, r, .inr ⟨o3, c, hc', o, k _ _ ho, hd⟩⟩
  · obtain ⟨v, q⟩ := I.cell x c (O.sub x c e)
    exact ⟨v, by obtain ⟨o, ho, hd⟩ := q; exact ⟨o, k _ _ ho, hd⟩⟩
  · have hp' : p ∈ X.pn ++ pins := by
      have z : p ∈ (X.pn ++ pins) ++ [] := hp
      rwa [List.append_nil] at z
    obtain ⟨a1, a2, a3, a4, a5⟩ := I.pin p hp'
    refine ⟨k _ _ a1, a2, Nat.ne_of_lt (Nat.lt_of_lt_of_le (Heap.lt_size a1) hC), fun z => ?_, a5⟩
    rcases List.mem_cons.mp (I.stkSub p.1 z) with e | e
    · exact a3 e
    · exact a4 e
  · show (slots ix σ ++ List.replicate nl none).length = N'.length
    rw [List.length_append, List.length_replicate, O.len]
    simp [slots]

theorem blk_back {scope : Scope} {cl : List (Str × Addr)} {N' : List Str} {C : Addr} {fp : List Addr} {s' : Shared} {τ : St} {H' : Hp} (I : Inv X pins σ H s) (f : ∀ b ∈ fp, FpOk X pins H b)
    (J : Inv (blk X scope cl N' s H C (X.pn ++ pins) fp) [] τ H' s') : Inv X pins σ H' s' :=
  I.call' J.os J.base J.hok J.bare fun b hb => ⟨(f b hb).2.2.2.1, (f b hb).2.1, (f b hb).2.2.2.2.1, (f b hb).2.2.2.2.2⟩
theorem Inv.letgo {C : Addr} {s' : Shared} {h' : Heap} (J : Inv X pins σ H s') (hsz : X.s₀.heap.objs.size ≤ C) (hL : C ≠ X.env.locals) (hc : ∀ x c, X.env.cells.lookup x = some c → c ≠ C) (hp : ∀ p ∈ X.pn ++ pins, p.1 ≠ C) (hH : H C = none)
    (sb : Heap.SameBut C s'.heap h') : Inv X pins σ H { s' with heap := h' } :=
  J.turned (t' := s'.toks) (it := C) (fun b o hb e => sb.extBut b o hb e) hH hL (.inr hsz) hc hp
theorem blk_loop {elt iter tg : Expr} {ifs : List Expr} {scope : Scope} {pos : Pos} {cl : List (Str × Addr)} {N' : List Str} {C D it : Addr} {fp : List Addr} {tn : Nat → Heap → Prop} {J : It} {g : TG} {tt : TT} {te : TE} {s₄ : Shared} {W : Nat → Nat → St → Hp → Prop} {Q : VK}
    {τ : St} {H₀ : Hp} {s₃ : Shared} {pn : List (Addr × Obj)} {m0 : Nat} {R : Result → Shared → Prop} (hc : X.calm = true) (T : Turn X.prog X.w X.K tg J fp it tn)
    (f : ∀ H', (∀ b ∈ fp, H' b = none) → ∀ b ∈ fp, FpOk (blk X scope cl N' s₃ H₀ C pn fp) [] H' b)
    (hg : PG (blk X scope cl N' s₃ H₀ C pn fp) tg g) (ht : PIfs (blk X scope cl N' s₃ H₀ C pn fp) ifs tt) (he : PE (blk X scope cl N' s₃ H₀ C pn fp) elt te)
    (I4 : Inv (blk X scope cl N' s₃ H₀ C pn fp) [] τ H s₄) (st : tn 0 s₄.heap) (fr : ∀ b ∈ fp, H b = none) (w0 : W 0 m0 τ H) (hW : compW D J g tt te Q W)
    (fin : ∀ τ' H' s', Inv (blk X scope cl N' s₃ H₀ C pn fp) [] τ' H' s' → Q (.ref D) H' → R (.ok .next) s') :
    codeAny (model X.prog X.w) X.A (.compLoop (.ListComp elt [⟨tg, iter, ifs, 0⟩] scope pos) 0 (.ref it) (.ref D) (compEnvC scope cl C X.env)) R s₄ := by
  refine compLoop_go (fun n s' => ∃ i τ' H', Inv (blk X scope cl N' s₃ H₀ C pn fp) [] τ' H' s' ∧ tn i s'.heap ∧ (∀ b ∈ fp, H' b = none) ∧ W i n τ' H') ?_ m0 ⟨0, τ, H, I4, st, fr, w0⟩
  rintro n s5 ⟨i, τ5, H5, I5, st5, fr5, w5⟩
  rcases hW i n τ5 H5 w5 with ⟨stop, q⟩ | ⟨go, step⟩
  · refine thn (T.done (blk X scope cl N' s₃ H₀ C pn fp) rfl rfl rfl hc i [] s5 τ5 H5 (fun _ _ => False) I5 (f H5 fr5) st5 stop) fun r s6 ⟨hr, I6⟩ => ?_
    subst hr
    exact fin τ5 H5 s6 I6 q
  · refine thn (T.item (blk X scope cl N' s₃ H₀ C pn fp) rfl rfl rfl hc i [] s5 τ5 H5 (fun _ _ => False) I5 (f H5 fr5) st5 go) fun r s6 ⟨u, hr, h6⟩ => ?_
    subst hr
    refine thn h6 fun _ s7 ⟨x, H7, I7, r7, y7, st7, fr7⟩ => ?_
    have I7' := I7.pinned (f H7 fr7) (T.obj _ _ st7)
    have keep : ∀ {τ8 : St} {H8 : Hp} {s8 : Shared}, Inv (blk X scope cl N' s₃ H₀ C pn fp) ([] ++ pinsAt fp s7.heap) τ8 H8 s8 → Inv (blk X scope cl N' s₃ H₀ C pn fp) [] τ8 H8 s8 ∧ tn (i + 1) s8.heap ∧ ∀ b ∈ fp, H8 b = none := fun {τ8 H8 s8} I8 => by
      refine ⟨I8.unpinned, T.keep _ _ _ st7 fun b hb o e => (I8.pin (b, o) (List.mem_append_right _ (List.mem_append_right _ (mem_pinsAt hb e)))).1, fun b hb => ?_⟩
      obtain ⟨o, e, d⟩ := T.obj _ _ st7 b hb
      exact (I8.pin (b, o) (List.mem_append_right _ (List.mem_append_right _ (mem_pinsAt hb e)))).2.1
    refine thn (hg _ s7 τ5 H7 x u _ I7' r7 (step x H7 y7)) fun _ s8 ⟨τ8, H8, I8, q8⟩ => ?_
    refine thn (ht _ s8 τ8 H8 _ I8 q8) fun b s9 ⟨H9, I9, q9⟩ => ?_
    cases b with
    | false =>
      obtain ⟨m', hm, w'⟩ := q9
      obtain ⟨k1, k2, k3⟩ := keep I9
      exact ⟨m', hm, i + 1, τ8, H9, k1, k2, k3, w'⟩
    | true =>
      refine thn (he _ s9 τ8 H9 _ I9 q9) fun y s10 ⟨v, H10, I10, r10, ys, hD, hl, m', hm, w'⟩ => ?_
      refine thn (mt_append _ s10 τ8 H10 (.ref D) [v] (.ref D) [y] (fun _ H11 => W (i + 1) m' τ8 H11) I10 rfl (.cons r10 .nil) ⟨D, ys, v, rfl, rfl, hD, hl, w'⟩) fun z s11 ⟨_, H11, I11, _, w11⟩ => ?_
      obtain ⟨k1, k2, k3⟩ := keep I11
      exact ⟨m', hm, i + 1, τ8, H11, k1, k2, k3, w11⟩
end

section
variable {X : Cx} {elt iter tg : Expr} {ifs : List Expr} {scope : Scope} {pos : Pos} {cl : List (Str × Addr)} {N' : List Str} {ix : List Nat} {nl : Nat} {wi : TI} {g : TG} {tt : TT} {te : TE}
structure Left (X : Cx) (pins : List (Addr × Obj)) (σ : St) (C : Addr) (H : Hp) (s : Shared) : Prop where
  inv : Inv X pins σ H s
  ns : ∃ m, s.heap.Ns C m
  sz : X.s₀.heap.objs.size ≤ C
  loc : C ≠ X.env.locals
  cel : ∀ x c, X.env.cells.lookup x = some c → c ≠ C
  pin : ∀ p ∈ X.pn ++ pins, p.1 ≠ C
  non : H C = none
theorem comp_run {pins : List (Addr × Obj)} {σ : St} {H1 : Hp} {s2 : Shared} {Q : VK} {it : Addr} {fp : List Addr} {tn : Nat → Heap → Prop} {J : It} {RR : Value → Addr → Result → Shared → Prop} {E : Value → Shared → Prop}
    (hc : X.calm = true) (O : CompOk X scope cl N' ix nl) (hg : ∀ s₀ H₀ C pn ex, PG (blk X scope cl N' s₀ H₀ C pn ex) tg g) (ht : ∀ s₀ H₀ C pn ex, PIfs (blk X scope cl N' s₀ H₀ C pn ex) ifs tt)
    (he : ∀ s₀ H₀ C pn ex, PE (blk X scope cl N' s₀ H₀ C pn ex) elt te) (I1 : Inv X pins σ H1 s2) (T : Turn X.prog X.w X.K tg J fp it tn) (st : tn 0 s2.heap) (f1 : ∀ b ∈ fp, FpOk X pins H1 b)
    (q : ∀ D, H1 D = none → ∃ W : Nat → Nat → St → Hp → Prop, (∃ m, W 0 m (slots ix σ ++ List.replicate nl none) (upd H1 D (.lst []))) ∧ compW D J g tt te Q W)
    (fin : ∀ D C H' s', Left X pins σ C H' s' → Q (.ref D) H' → RR (.ref D) C (.ok .next) s') :
    wpAny (model X.prog X.w) X.A (newList []) (fun acc s₃ => wpAny (model X.prog X.w) X.A (newFunctionEnv scope X.env.globals cl [] X.env.qual none .none (some X.env)) (fun cenv s₄ =>
      codeAny (model X.prog X.w) X.A (.compStart (.ListComp elt [⟨tg, iter, ifs, 0⟩] scope pos) 0 (.ref it) acc { cenv with scope := relabel scope X.env }) (RR acc cenv.locals) s₄) E s₃) E s2 := by
  refine wpAny_newObj_type (wpAny_newFunctionEnv O.cell (by intro y hy; simp at hy) (fun h₁ hns₁ hsb₁ => ?_) O.kind)
  have hf : H1 s2.heap.objs.size = none := I1.hok.fresh (Nat.le_refl _)
  obtain ⟨W, ⟨m0, w0⟩, hW⟩ := q s2.heap.objs.size hf
  have lt : ∀ b ∈ fp, b < s2.heap.objs.size := fun b hb => by
    obtain ⟨o, e, _⟩ := T.obj _ _ st b hb
    exact Heap.lt_size e
  have I3 : Inv X pins σ (upd H1 s2.heap.objs.size (.lst [])) { s2 with heap := s2.heap.push { cls := .type "list", data := .seq ([] : List Value).toArray } } :=
    I1.laid (t' := s2.toks) (fun b u e => Heap.get?_push_of_some _ e) (Nat.le_refl _) ⟨Nat.zero_le _, [], 0, .nil, Heap.get?_push_size _ rfl⟩
  have f3 : ∀ b ∈ fp, FpOk X pins (upd H1 s2.heap.objs.size (.lst [])) b := fun b hb => ⟨by rw [upd_ne (Nat.ne_of_lt (lt b hb))]; exact (f1 b hb).1, (f1 b hb).2⟩
  have sz : (s2.heap.push { cls := .type "list", data := .seq ([] : List Value).toArray }).objs.size = s2.heap.objs.size + 1 := Heap.size_push ..
  have lt3 : ∀ b ∈ fp, b < (s2.heap.push { cls := .type "list", data := .seq ([] : List Value).toArray }).objs.size := fun b hb => by rw [sz]; exact Nat.lt_succ_of_lt (lt b hb)
  have k3 : ∀ b o, (s2.heap.push { cls := .type "list", data := .seq ([] : List Value).toArray }).get? b = some o → h₁.get? b = some o := fun b o e => hsb₁.extBut b o (Nat.ne_of_lt (Heap.lt_size e)) (Heap.get?_push_of_some _ e)
  have I4 := blk_inv (t' := s2.toks + ([] : List (Str × Value)).length) O I3 (Nat.le_refl _) f3 lt3 hns₁ k3
  have st4 : tn 0 h₁ := T.keep _ _ _ st fun b hb o e => k3 b o (Heap.get?_push_of_some _ e)
  have fB : ∀ H', (∀ b ∈ fp, H' b = none) → ∀ b ∈ fp, FpOk (blk X scope cl N' { s2 with heap := s2.heap.push { cls := .type "list", data := .seq ([] : List Value).toArray } } (upd H1 s2.heap.objs.size (.lst [])) (s2.heap.push { cls := .type "list", data := .seq ([] : List Value).toArray }).objs.size (X.pn ++ pins) fp) [] H' b := fun H' hn b hb => by
    refine ⟨hn b hb, Nat.ne_of_lt (lt3 b hb), ?_, .inl hb, fun x c h => (f1 b hb).2.2.2.2.1 x c (O.sub x c h), fun p hp => ?_⟩
    · intro z
      rcases List.mem_cons.mp (I3.stkSub b z) with e | e
      · exact (f1 b hb).2.1 e
      · exact (f1 b hb).2.2.1 e
    · have hp' : p ∈ X.pn ++ pins := by
        have z : p ∈ (X.pn ++ pins) ++ [] := hp
        rwa [List.append_nil] at z
      exact (f1 b hb).2.2.2.2.2 p hp'
  have loop := blk_loop (pos := pos) (iter := iter) (R := RR (.ref s2.heap.objs.size) (s2.heap.push { cls := .type "list", data := .seq ([] : List Value).toArray }).objs.size) hc T fB (hg _ _ _ _ _) (ht _ _ _ _ _) (he _ _ _ _ _) I4 st4 (fun b hb => (f3 b hb).1) w0 hW (fun τ' H' s' J' qf => by
    obtain ⟨m, hm, _⟩ := J'.loc
    refine fin _ _ H' s' ⟨blk_back I3 f3 J', ⟨m, hm⟩, I3.sz, Nat.ne_of_gt I3.lt, fun x c e z => ?_, fun p hp z => ?_, J'.free⟩ qf
    · obtain ⟨v, o, ho, _⟩ := I3.cell x c e
      exact absurd (Heap.lt_size ho) (by rw [z]; exact Nat.lt_irrefl _)
    · exact absurd (Heap.lt_size (I3.pin p hp).1) (by rw [z]; exact Nat.lt_irrefl _))
  exact codeAny_compStart_list loop (T.self _ 0 _ _ _ st4 loop)
theorem pe_comp (hc : X.calm = true) (O : CompOk X scope cl N' ix nl) (hi : PI X tg iter wi) (hg : ∀ s₀ H₀ C pn ex, PG (blk X scope cl N' s₀ H₀ C pn ex) tg g) (ht : ∀ s₀ H₀ C pn ex, PIfs (blk X scope cl N' s₀ H₀ C pn ex) ifs tt)
    (he : ∀ s₀ H₀ C pn ex, PE (blk X scope cl N' s₀ H₀ C pn ex) elt te) (hs : ∀ x, foldedSetIterable iter X.env x = pure x := by intro _; rfl) :
    PE X (.ListComp elt [⟨tg, iter, ifs, 0⟩] scope pos) (tComp ix nl wi g tt te) := by
  intro pins s σ H Q I h
  rw [eval_ListComp]
  refine wpAny_comprehension_free (use := none) rfl hs O.clos O.kind O.names (thn (hi pins s σ H _ I h) fun xv s1 h1 => thn h1 fun itv s2 h2 => ?_)
  obtain ⟨it, fp, tn, J, H1, rfl, I1, T, st, f1, q⟩ := h2
  refine comp_run (RR := fun acc C => compPost (model X.prog X.w) X.A X.xe none (EP X pins σ Q) acc C) hc O hg ht he I1 T st f1 q (fun D C H' s' L qf => ?_)
  obtain ⟨m, hm⟩ := L.ns
  exact ⟨m, hm, fun h' sb => ⟨.ref D, H', L.inv.letgo L.sz L.loc L.cel L.pin L.non sb, rfl, qf⟩⟩
end
end L2

set_option Elab.async false
set_option linter.all false
set_option maxRecDepth 100000
set_option maxHeartbeats 1000000
namespace L2
open PySem PySem.Spec PyProof.Rows
theorem all_range_eq (ns ms : List Int) : (((List.range (min ns.length ms.length)).all fun j => ns.getD j 0 == ms.getD j 0) && ns.length == ms.length) = decide (ns = ms) := by
  by_cases h : ns = ms
  · subst h
    simp
  · rw [decide_eq_false h]
    by_cases hl : ns.length = ms.length
    · have : ∃ j, j < ns.length ∧ ns.getD j 0 ≠ ms.getD j 0 := by
        apply Classical.byContradiction
        intro no
        apply h
        apply List.ext_getElem hl
        intro i h1 h2
        apply Classical.byContradiction
        intro ne
        apply no
        refine ⟨i, h1, ?_⟩
        simpa [List.getD, h1, h2] using ne
      obtain ⟨j, hj, ne⟩ := this
      have : ((List.range (min ns.length ms.length)).all fun j => ns.getD j 0 == ms.getD j 0) = false := by
        rw [List.all_eq_false]
        refine ⟨j, by simp; omega, by simpa using ne⟩
      rw [this]
      rfl
    · have : (ns.length == ms.length) = false := by simpa using hl
      rw [this, Bool.and_false]
def okV : V → Bool
  | .ref _ => true
  | x => flatV x
theorem eqV_self {x : V} (h : flatV x = true) : eqV x x = true := by
  cases x with
  | non => rfl
  | bl b => simp [eqV]
  | int i => simp [eqV]
  | str z => simp [eqV]
  | byt b => exact absurd (show false = true from h) Bool.false_ne_true
  | flt b => exact absurd (show false = true from h) Bool.false_ne_true
  | ref a => exact absurd (show false = true from h) Bool.false_ne_true
  | ty n => exact absurd (show false = true from h) Bool.false_ne_true
theorem eqAt_same {A : Around} {s : Shared} {x : V} {u v : Value} (ru : RelV x u) (rv : RelV x v) (h : okV x = true) : SeqAt.EqAt A s u v true := by
  cases x with
  | ref a =>
    obtain rfl : u = Value.ref a := ru
    obtain rfl : v = Value.ref a := rv
    exact SeqAt.EqAt.same _
  | non => have := eqAt_V (A := A) (s := s) ru rv rfl rfl; rwa [eqV_self rfl] at this
  | bl b => have := eqAt_V (A := A) (s := s) ru rv rfl rfl; rwa [eqV_self rfl] at this
  | int i => have := eqAt_V (A := A) (s := s) ru rv rfl rfl; rwa [eqV_self rfl] at this
  | str z => have := eqAt_V (A := A) (s := s) ru rv rfl rfl; rwa [eqV_self rfl] at this
  | byt b => exact absurd (show false = true from h) Bool.false_ne_true
  | flt b => exact absurd (show false = true from h) Bool.false_ne_true
  | ty n => exact absurd (show false = true from h) Bool.false_ne_true
def TwoSq (K : PySem.W.Frag) (H : Hp) (a b : Addr) (xs ys : List V) : Prop := (SqL K H a xs ∧ SqL K H b ys) ∨ (SqT K H a xs ∧ SqT K H b ys)
def rEqS (K : PySem.W.Frag) (neg : Bool) : R2 := fun x y H Q => ∃ a b, x = .ref a ∧ y = .ref b ∧
  ((∃ xs, TwoSq K H a b xs xs ∧ xs.all okV = true ∧ Q (.bl (!neg)) H) ∨ (∃ ns ms : List Int, TwoSq K H a b (ns.map V.int) (ms.map V.int) ∧ Q (.bl (if neg then !decide (ns = ms) else decide (ns = ms))) H))
theorem vals_at {xs : List V} {its : List Value} (r : Vals xs its) {j : Nat} (h : j < its.length) : ∃ x, xs[j]? = some x ∧ RelV x its[j] := by
  have hl := r.length
  have hj : j < xs.length := by omega
  obtain ⟨u, e, rv⟩ := r.get (i := j) (x := xs[j]) (by simp [hj])
  have e2 : its[j]? = some its[j] := by simp [h]
  rw [e2] at e
  cases e
  exact ⟨xs[j], by simp [hj], rv⟩
theorem eqAt_all {A : Around} {s : Shared} {xs : List V} {i1 i2 : List Value} (r1 : Vals xs i1) (r2 : Vals xs i2) (h : xs.all okV = true) : ∀ j (h1 : j < i1.toArray.size) (h2 : j < i2.toArray.size), SeqAt.EqAt A s i1.toArray[j] i2.toArray[j] true := by
  intro j h1 h2
  rw [List.size_toArray] at h1 h2
  obtain ⟨x, e1, v1⟩ := vals_at r1 h1
  obtain ⟨y, e2, v2⟩ := vals_at r2 h2
  rw [e1] at e2
  cases e2
  have ok := List.all_eq_true.mp h x (List.mem_of_getElem? e1)
  simpa using eqAt_same (A := A) (s := s) v1 v2 ok
theorem eqAt_ints {A : Around} {s : Shared} {ns ms : List Int} {i1 i2 : List Value} (r1 : Vals (ns.map V.int) i1) (r2 : Vals (ms.map V.int) i2) : ∀ j (h1 : j < i1.toArray.size) (h2 : j < i2.toArray.size), SeqAt.EqAt A s i1.toArray[j] i2.toArray[j] (ns.getD j 0 == ms.getD j 0) := by
  intro j h1 h2
  rw [List.size_toArray] at h1 h2
  obtain ⟨x, e1, v1⟩ := vals_at r1 h1
  obtain ⟨y, e2, v2⟩ := vals_at r2 h2
  have l1 : j < ns.length := by have := r1.length; rw [List.length_map] at this; omega
  have l2 : j < ms.length := by have := r2.length; rw [List.length_map] at this; omega
  rw [List.getElem?_map, List.getElem?_eq_getElem l1] at e1
  rw [List.getElem?_map, List.getElem?_eq_getElem l2] at e2
  cases e1
  cases e2
  have := eqAt_V (A := A) (s := s) v1 v2 rfl rfl
  simpa [List.getD, l1, l2, eqV] using this
section
variable {X : Cx}
theorem op_eqS (hu : X.A.units < cLine) : OpR X (compareOp .Eq) (rEqS X.K false) := by
  intro pins s σ H x y v u Q I rx ry h
  obtain ⟨a, b, rfl, rfl, h⟩ := h
  obtain rfl : v = Value.ref a := rx
  obtain rfl : u = Value.ref b := ry
  rcases h with ⟨xs, tw, ok, q⟩ | ⟨ns, ms, tw, q⟩
  · have fin : EP X pins σ Q (.bool true) s := ⟨.bl true, H, I, rfl, q⟩
    rcases tw with ⟨h1, h2⟩ | ⟨h1, h2⟩
    · obtain ⟨i1, r1, p1, _⟩ := I.list h1
      obtain ⟨i2, r2, p2, _⟩ := I.list h2
      have e : ((List.range i1.toArray.size).all fun _ => true) = true := by simp
      exact SeqAt.eq_listAt (e := fun _ => true) p1.isList p2.isList (by rw [List.size_toArray, List.size_toArray, ← r1.length, ← r2.length]) hu (eqAt_all r1 r2 ok) (by rw [e]; exact fin)
    · obtain ⟨i1, r1, p1, _⟩ := I.tuple h1
      obtain ⟨i2, r2, p2, _⟩ := I.tuple h2
      have e : (((List.range (min i1.toArray.size i2.toArray.size)).all fun _ => true) && i1.toArray.size == i2.toArray.size) = true := by
        rw [List.size_toArray, List.size_toArray, ← r1.length, ← r2.length]
        simp
      exact SeqAt.eq_tupleAt (e := fun _ => true) p1 p2 hu (eqAt_all r1 r2 ok) (by rw [e]; exact fin)
  · have fin : EP X pins σ Q (.bool (decide (ns = ms))) s := ⟨.bl _, H, I, rfl, q⟩
    rcases tw with ⟨h1, h2⟩ | ⟨h1, h2⟩
    · obtain ⟨i1, r1, p1, _⟩ := I.list h1
      obtain ⟨i2, r2, p2, _⟩ := I.list h2
      have n1 : i1.toArray.size = ns.length := by rw [List.size_toArray, ← r1.length, List.length_map]
      have n2 : i2.toArray.size = ms.length := by rw [List.size_toArray, ← r2.length, List.length_map]
      have key := all_range_eq ns ms
      by_cases hl : ns.length = ms.length
      · refine SeqAt.eq_listAt (e := fun j => ns.getD j 0 == ms.getD j 0) p1.isList p2.isList (by rw [n1, n2, hl]) hu (eqAt_ints r1 r2) ?_
        rw [n1]
        rw [hl, Nat.min_self, beq_self_eq_true, Bool.and_true] at key
        rw [hl, key]
        exact fin
      · refine SeqAt.eq_list_lengthsAt p1.isList p2.isList (by rw [n1, n2]; simpa using hl) hu ?_
        rw [decide_eq_false (fun e => hl (by rw [e]))] at fin
        exact fin
    · obtain ⟨i1, r1, p1, _⟩ := I.tuple h1
      obtain ⟨i2, r2, p2, _⟩ := I.tuple h2
      have n1 : i1.toArray.size = ns.length := by rw [List.size_toArray, ← r1.length, List.length_map]
      have n2 : i2.toArray.size = ms.length := by rw [List.size_toArray, ← r2.length, List.length_map]
      refine SeqAt.eq_tupleAt (e := fun j => ns.getD j 0 == ms.getD j 0) p1 p2 hu (eqAt_ints r1 r2) ?_
      rw [n1, n2, all_range_eq]
      exact fin
theorem op_neS (hu : X.A.units < cLine) : OpR X (compareOp .NotEq) (rEqS X.K true) := by
  intro pins s σ H x y v u Q I rx ry h
  obtain ⟨a, b, rfl, rfl, h⟩ := h
  obtain rfl : v = Value.ref a := rx
  obtain rfl : u = Value.ref b := ry
  rcases h with ⟨xs, tw, ok, q⟩ | ⟨ns, ms, tw, q⟩
  · have fin : EP X pins σ Q (.bool false) s := ⟨.bl false, H, I, rfl, q⟩
    rcases tw with ⟨h1, h2⟩ | ⟨h1, h2⟩
    · obtain ⟨i1, r1, p1, _⟩ := I.list h1
      obtain ⟨i2, r2, p2, _⟩ := I.list h2
      have e : (!(List.range i1.toArray.size).all fun _ => true) = false := by simp
      exact SeqAt.RcNeAt.lists (e := fun _ => true) p1.isList p2.isList (by rw [List.size_toArray, List.size_toArray, ← r1.length, ← r2.length]) hu (eqAt_all r1 r2 ok) _ _ _ _ (by rw [e]; exact fin)
    · obtain ⟨i1, r1, p1, _⟩ := I.tuple h1
      obtain ⟨i2, r2, p2, _⟩ := I.tuple h2
      have e : (!(((List.range (min i1.toArray.size i2.toArray.size)).all fun _ => true) && i1.toArray.size == i2.toArray.size)) = false := by
        rw [List.size_toArray, List.size_toArray, ← r1.length, ← r2.length]
        simp
      exact SeqAt.RcNeAt.tuples (e := fun _ => true) p1 p2 hu (eqAt_all r1 r2 ok) _ _ _ _ (by rw [e]; exact fin)
  · have fin : EP X pins σ Q (.bool (!decide (ns = ms))) s := ⟨.bl _, H, I, rfl, q⟩
    rcases tw with ⟨h1, h2⟩ | ⟨h1, h2⟩
    · obtain ⟨i1, r1, p1, _⟩ := I.list h1
      obtain ⟨i2, r2, p2, _⟩ := I.list h2
      have n1 : i1.toArray.size = ns.length := by rw [List.size_toArray, ← r1.length, List.length_map]
      have n2 : i2.toArray.size = ms.length := by rw [List.size_toArray, ← r2.length, List.length_map]
      have key := all_range_eq ns ms
      by_cases hl : ns.length = ms.length
      · refine SeqAt.RcNeAt.lists (e := fun j => ns.getD j 0 == ms.getD j 0) p1.isList p2.isList (by rw [n1, n2, hl]) hu (eqAt_ints r1 r2) _ _ _ _ ?_
        rw [n1]
        rw [hl, Nat.min_self, beq_self_eq_true, Bool.and_true] at key
        rw [hl, key]
        exact fin
      · refine SeqAt.RcNeAt.lists_lengths p1.isList p2.isList (by rw [n1, n2]; simpa using hl) hu _ _ _ _ ?_
        rw [decide_eq_false (fun e => hl (by rw [e]))] at fin
        exact fin
    · obtain ⟨i1, r1, p1, _⟩ := I.tuple h1
      obtain ⟨i2, r2, p2, _⟩ := I.tuple h2
      have n1 : i1.toArray.size = ns.length := by rw [List.size_toArray, ← r1.length, List.length_map]
      have n2 : i2.toArray.size = ms.length := by rw [List.size_toArray, ← r2.length, List.length_map]
      refine SeqAt.RcNeAt.tuples (e := fun j => ns.getD j 0 == ms.getD j 0) p1 p2 hu (eqAt_ints r1 r2) _ _ _ _ ?_
      rw [n1, n2, all_range_eq]
      exact fin
end
end L2

set_option Elab.async false
set_option linter.all false
set_option maxRecDepth 100000
set_option maxHeartbeats 1000000
namespace L2
open PySem PySem.Spec PyProof.Rows
def tComp1 (D : Addr) (g : TG) (tt : TT) (te : TE) (x : V) (τ : St) (H : Hp) (R : St → Hp → Prop) : Prop := g x τ H fun τ' H' => tt τ' H' fun b H4 =>
  if b = true then te τ' H4 fun v H5 => ∃ ys, H5 D = some (.lst ys) ∧ ys.length < sizeLine ∧ R τ' (upd H5 D (.lst (ys ++ [v]))) else R τ' H4
def CompS (D : Addr) (J : It) (g : TG) (tt : TT) (te : TE) (Q : VK) (τ : St) (H : Hp) : Prop := ∃ W : Nat → Nat → St → Hp → Prop, (∃ m, W 0 m τ H) ∧ compW D J g tt te Q W
theorem tComp_eq {ix : List Nat} {nl : Nat} {wi : TI} {g : TG} {tt : TT} {te : TE} {σ : St} {H : Hp} {Q : VK} :
    tComp ix nl wi g tt te σ H Q = wi σ H fun J H1 => ∀ D, H1 D = none → CompS D J g tt te Q (slots ix σ ++ List.replicate nl none) (upd H1 D (.lst [])) := rfl
section
variable {K : PySem.W.Frag} {D a : Addr} {g : TG} {tt : TT} {te : TE} {Q : VK} {τ : St} {H : Hp}
theorem compS_range {lo : Int} {n : Nat} (Pv : Nat → St → Hp → Prop) (h0 : Pv 0 τ H)
    (hs : ∀ i τ H (R : St → Hp → Prop), i < n → Pv i τ H → (∀ τ' H', Pv (i + 1) τ' H' → R τ' H') → tComp1 D g tt te (.int (lo + i)) τ H R) (hd : ∀ τ H, Pv n τ H → Q (.ref D) H) : CompS D (Itr lo n) g tt te Q τ H := by
  refine ⟨fun i m τ H => m = n - i ∧ i ≤ n ∧ Pv i τ H, ⟨n, by simp, Nat.zero_le _, h0⟩, ?_⟩
  rintro i m τ H2 ⟨rfl, hi, p⟩
  by_cases hlt : i < n
  · refine .inr ⟨hlt, fun x H' y => ?_⟩
    obtain ⟨e, y⟩ := y
    subst e y
    exact hs i τ _ (fun τ' H' => ∃ m', m' < n - i ∧ m' = n - (i + 1) ∧ i + 1 ≤ n ∧ Pv (i + 1) τ' H') hlt p fun τ' H' p' => ⟨_, by omega, rfl, hlt, p'⟩
  · have e : i = n := by omega
    subst e
    exact .inl ⟨Nat.le_refl _, hd τ H2 p⟩
theorem compS_list (xs : List V) (Pv : Nat → St → Hp → Prop) (h0 : Pv 0 τ H) (hl : ∀ i τ H, i ≤ xs.length → Pv i τ H → SqL K H a xs)
    (hs : ∀ i x τ H (R : St → Hp → Prop), xs[i]? = some x → Pv i τ H → (∀ τ' H', Pv (i + 1) τ' H' → R τ' H') → tComp1 D g tt te x τ H R) (hd : ∀ τ H, Pv xs.length τ H → Q (.ref D) H) : CompS D (Itl K a) g tt te Q τ H := by
  refine ⟨fun i m τ H => m = xs.length - i ∧ i ≤ xs.length ∧ Pv i τ H, ⟨xs.length, by simp, Nat.zero_le _, h0⟩, ?_⟩
  rintro i m τ H2 ⟨rfl, hi, p⟩
  have q := hl i τ H2 hi p
  by_cases hlt : i < xs.length
  · have hx : xs[i]? = some xs[i] := by simp [hlt]
    refine .inr ⟨⟨xs, _, q, hx⟩, fun x H' y => ?_⟩
    obtain ⟨e, y⟩ := y
    subst e
    have e2 := y xs q
    rw [hx] at e2
    cases e2
    exact hs i _ τ _ (fun τ' H' => ∃ m', m' < xs.length - i ∧ m' = xs.length - (i + 1) ∧ i + 1 ≤ xs.length ∧ Pv (i + 1) τ' H') hx p fun τ' H' p' => ⟨_, by omega, rfl, hlt, p'⟩
  · have e : i = xs.length := by omega
    subst e
    exact .inl ⟨⟨xs, q, Nat.le_refl _⟩, hd τ H2 p⟩
theorem compS_tup (xs : List V) (Pv : Nat → St → Hp → Prop) (h0 : Pv 0 τ H) (hl : ∀ i τ H, i ≤ xs.length → Pv i τ H → SqT K H a xs)
    (hs : ∀ i x τ H (R : St → Hp → Prop), xs[i]? = some x → Pv i τ H → (∀ τ' H', Pv (i + 1) τ' H' → R τ' H') → tComp1 D g tt te x τ H R) (hd : ∀ τ H, Pv xs.length τ H → Q (.ref D) H) : CompS D (Itt K a) g tt te Q τ H := by
  refine ⟨fun i m τ H => m = xs.length - i ∧ i ≤ xs.length ∧ Pv i τ H, ⟨xs.length, by simp, Nat.zero_le _, h0⟩, ?_⟩
  rintro i m τ H2 ⟨rfl, hi, p⟩
  have q := hl i τ H2 hi p
  by_cases hlt : i < xs.length
  · have hx : xs[i]? = some xs[i] := by simp [hlt]
    refine .inr ⟨⟨xs, _, q, hx⟩, fun x H' y => ?_⟩
    obtain ⟨e, y⟩ := y
    subst e
    have e2 := y xs q
    rw [hx] at e2
    cases e2
    exact hs i _ τ _ (fun τ' H' => ∃ m', m' < xs.length - i ∧ m' = xs.length - (i + 1) ∧ i + 1 ≤ xs.length ∧ Pv (i + 1) τ' H') hx p fun τ' H' p' => ⟨_, by omega, rfl, hlt, p'⟩
  · have e : i = xs.length := by omega
    subst e
    exact .inl ⟨⟨xs, q, Nat.le_refl _⟩, hd τ H2 p⟩
theorem SqT.lst {H : Hp} {p b : Addr} {xs ys zs : List V} (h : SqT K H b xs) (hp : H p = some (.lst ys)) : SqT K (upd H p (.lst zs)) b xs := by
  rcases h with (h | ⟨o, h⟩) | h
  · exact .inl (.inl (by rw [upd_ne (ne_of h hp (by intro z; cases z))]; exact h))
  · exact .inl (.inr ⟨o, by rw [upd_ne (ne_of h hp (by intro z; cases z))]; exact h⟩)
  · exact .inr h
end
theorem rEqS_same {K : PySem.W.Frag} {neg : Bool} {a b : Addr} {xs : List V} {H : Hp} {Q : VK} (t : TwoSq K H a b xs xs) (ok : xs.all okV = true) (q : Q (.bl (!neg)) H) : rEqS K neg (.ref a) (.ref b) H Q := ⟨a, b, rfl, rfl, .inl ⟨xs, t, ok, q⟩⟩
theorem rEqS_ints {K : PySem.W.Frag} {neg : Bool} {a b : Addr} {ns ms : List Int} {H : Hp} {Q : VK} (t : TwoSq K H a b (ns.map V.int) (ms.map V.int)) (q : Q (.bl (if neg then !decide (ns = ms) else decide (ns = ms))) H) : rEqS K neg (.ref a) (.ref b) H Q :=
  ⟨a, b, rfl, rfl, .inr ⟨ns, ms, t, q⟩⟩
section
variable {X : Cx} {K : PySem.W.Frag}
theorem ix_listK (h : X.K = K) : IxR X (rIxL K) := by subst h; exact ix_list
theorem ix_tupK (h : X.K = K) : IxR X (rIxT K) := by subst h; exact ix_tup
theorem op_neSK (h : X.K = K) (hu : X.A.units < cLine) : OpR X (compareOp .NotEq) (rEqS K true) := by subst h; exact op_neS hu
end
end L2

set_option Elab.async false
set_option linter.all false
set_option maxRecDepth 100000
set_option maxHeartbeats 1000000
namespace L2
open PySem PySem.Spec PyProof.Rows
section
variable {prog : Program} {w : World} {A : Around} {E : Value → Shared → Prop} {s : Shared}
end
section
variable {prog : Program} {w : World} {A : Around} {E : Value → Shared → Prop} {s : Shared}
end
theorem Inv.drew {X : Cx} {pins : List (Addr × Obj)} {σ : St} {H : Hp} {s : Shared} {ch : List Addr} {T : Addr} {xs : List V} {h' : Heap} {tk : Nat} (I : Inv X pins σ H s) (hf : ∀ b ∈ ch, FpOk X pins H b)
    (k : ∀ b o, b ∉ ch → s.heap.get? b = some o → h'.get? b = some o) (hT : s.heap.objs.size ≤ T) (new : ObjOk X.prog X.w (upd H T (.tup xs)) h' T (.tup xs)) : Inv X pins σ (upd H T (.tup xs)) { s with heap := h', toks := tk } := by
  have hn : H T = none := I.hok.fresh hT
  have nc : ∀ b u, H b = some u → b ∉ ch := fun b u e hb => by
    have z := (hf b hb).1
    rw [e] at z
    cases z
  refine I.call (g' := s.gens) (d' := s.drawn) (ch := ch) ⟨fun b o q n _ hc => k b o hc q, fun b o q n _ hc => ⟨o.slots, k b o hc q⟩, fun b o q n hc => by
    rw [upd_ne (Nat.ne_of_lt (Nat.lt_of_lt_of_le (Heap.lt_size q) hT))]; exact n, fun b o q hc => ⟨o, k b o hc q⟩, fun b ys q => by rw [upd_ne (ne_of_none q hn)]; exact q,
    fun b o u q => by rw [upd_ne (ne_of_none q hn)]; exact q, fun b ps q => ⟨#[], by rw [upd_ne (ne_of_none q hn), q]; simp⟩⟩ (fun b u e => ?_) I.bare fun b hb => ⟨(hf b hb).2.2.2.1, (hf b hb).2.1, (hf b hb).2.2.2.2.1, (hf b hb).2.2.2.2.2⟩
  by_cases hb : b = T
  · subst hb
    rw [upd_same] at e
    cases e
    exact new
  · rw [upd_ne hb] at e
    refine (I.hok b u e).stay (fun c v hc q => k c v ?_ q) (fun c q => by rw [upd_ne (ne_of_none q hn)]; exact q) fun c ys q => by rw [upd_ne (ne_of_none q hn)]; exact q
    rcases hc with rfl | hc
    · exact nc _ _ e
    · exact nc _ _ hc
theorem Inv.turns {X : Cx} {pins : List (Addr × Obj)} {σ : St} {H : Hp} {s : Shared} {ch : List Addr} {h' : Heap} {tk : Nat} (I : Inv X pins σ H s) (hf : ∀ b ∈ ch, FpOk X pins H b)
    (k : ∀ b o, b ∉ ch → s.heap.get? b = some o → h'.get? b = some o) : Inv X pins σ H { s with heap := h', toks := tk } := by
  have nc : ∀ b u, H b = some u → b ∉ ch := fun b u e hb => by
    have z := (hf b hb).1
    rw [e] at z
    cases z
  refine I.call (g' := s.gens) (d' := s.drawn) (ch := ch) ⟨fun b o q n _ hc => k b o hc q, fun b o q n _ hc => ⟨o.slots, k b o hc q⟩, fun b o q n hc => n, fun b o q hc => ⟨o, k b o hc q⟩, fun b ys q => q,
    fun b o u q => q, fun b ps q => ⟨#[], by rw [q]; simp⟩⟩ (fun b u e => ?_) I.bare fun b hb => ⟨(hf b hb).2.2.2.1, (hf b hb).2.1, (hf b hb).2.2.2.2.1, (hf b hb).2.2.2.2.2⟩
  refine (I.hok b u e).stay (fun c v hc q => k c v ?_ q) (fun c q => q) fun c ys q => q
  rcases hc with rfl | hc
  · exact nc _ _ e
  · exact nc _ _ hc
def Ite (sq : Hp → List V → Prop) : It := ⟨fun i H => ∃ xs x, sq H xs ∧ xs[i]? = some x, fun i H x H' => ∃ T v, H T = none ∧ x = .ref T ∧ H' = upd H T (.tup [.int i, v]) ∧ ∀ xs, sq H xs → xs[i]? = some v, fun i H => ∃ xs, sq H xs ∧ xs.length ≤ i⟩
theorem tup2_ok {P : Program} {w : World} {H : Hp} {h : Heap} {T : Addr} {a b : V} {u v : Value} {n : Nat} (ra : RelV a u) (rb : RelV b v) (e : h.get? T = some { cls := .type "tuple", data := .seq #[u, v] n }) : ObjOk P w H h T (.tup [a, b]) :=
  ⟨show 2 ≤ sizeLine by decide, [u, v], .cons ra (.cons rb .nil), ⟨_, e, rfl, _, rfl⟩, _, e, rfl⟩
theorem turn_enumL {P : Program} {w : World} {K : PySem.W.Frag} {elts : List Expr} {kk : Nat} {pos : Pos} (a e it : Addr) (hei : e ≠ it) :
    Turn P w K (.Tuple elts kk pos) (Ite fun H xs => SqL K H a xs) [e, it] e (fun i h => (∃ old, IsEnum h e it i old) ∧ h.IsListIter it a i) where
  mem := by simp
  obj := fun i h st b hb => by
    obtain ⟨⟨old, he⟩, o, ho, c, d⟩ := st
    rcases List.mem_cons.mp hb with rfl | hb
    · exact ⟨_, he, fun v z => by cases z⟩
    · have z := List.mem_singleton.mp hb
      subst z
      exact ⟨o, ho, fun v z => by rw [d] at z; cases z⟩
  keep := fun i h h' st k => by
    obtain ⟨⟨old, he⟩, hit⟩ := st
    exact ⟨⟨old, k e (by simp) _ he⟩, hit.at fun o q => k it (by simp) o q⟩
  item := by
    intro X hP hw hK hc i pins s σ H E I hf st hg
    subst hP hw hK
    obtain ⟨xs, x, hq, hx⟩ := hg
    obtain ⟨⟨old, he⟩, hit⟩ := st
    obtain ⟨its, rv, p, hz⟩ := I.list hq
    obtain ⟨u, hu, ru⟩ := rv.get hx
    refine wpAny_pyNext_enum_item he hit p.isList (x := u) (by simpa using hu) hei fun h' ho hit' hT hsz hk => ⟨_, rfl, ?_⟩
    refine wpAny_letOwnedTupleGo_enum ho fun h2 he2 hs2 => ?_
    have hel : e < s.heap.objs.size := Heap.lt_size he
    have hTe : s.heap.objs.size ≠ e := Nat.ne_of_gt hel
    have hil : it < s.heap.objs.size := by obtain ⟨_, y, _⟩ := hit; exact Heap.lt_size y
    have hT2 : h2.get? s.heap.objs.size = some { cls := .type "tuple", data := .seq #[.int i s.toks, u] } := (hs2.2 _ hTe).trans hT
    have hf' : H s.heap.objs.size = none := I.hok.fresh (Nat.le_refl _)
    refine ⟨.ref s.heap.objs.size, upd H s.heap.objs.size (.tup [.int i, x]), ?_, rfl, ⟨_, x, hf', rfl, rfl, fun ys hy => by rw [I.list_inj hy hq]; exact hx⟩, ⟨⟨u, he2⟩, hit'.at fun o q => (hs2.2 it hei.symm).trans q⟩, fun b hb => ?_⟩
    · exact I.drew (ch := [e, it]) (tk := s.toks + 1) hf (fun b o hb q => (hs2.2 b fun z => hb (by simp [z])).trans (hk b o (fun z => hb (by simp [z])) (fun z => hb (by simp [z])) q)) (Nat.le_refl _) (tup2_ok ⟨_, rfl⟩ ru hT2)
    · have z : b ≠ s.heap.objs.size := by
        rcases List.mem_cons.mp hb with rfl | hb
        · exact hTe.symm
        · rw [List.mem_singleton.mp hb]; exact Nat.ne_of_lt hil
      rw [upd_ne z]
      exact (hf b hb).1
  done := by
    intro X hP hw hK hc i pins s σ H E I hf st hg
    subst hP hw hK
    obtain ⟨xs, hq, hx⟩ := hg
    obtain ⟨⟨old, he⟩, hit⟩ := st
    obtain ⟨its, rv, p, hz⟩ := I.list hq
    have hl := rv.length
    exact wpAny_pyNext_enum_end (I.ok.hd hc) he hit p.isList (by simp; omega) fun h' eb => ⟨rfl, I.turns (ch := [e, it]) (tk := s.toks) hf fun b o hb q => eb b o (fun z => hb (by simp [z])) q⟩
  self := fun A i s Q E st h => by
    obtain ⟨⟨old, he⟩, _⟩ := st
    exact wpAny_pyIter_enum he h
section
variable {X : Cx} {elts : List Expr} {kk : Nat} {tpos : Pos}
def iEnumL (K : PySem.W.Frag) (ta : TA) : TI := fun σ H R => ta σ H fun vs H1 => ∃ a, vs = [.ref a] ∧ (∃ xs, SqL K H1 a xs) ∧ R (Ite fun H xs => SqL K H a xs) H1
theorem pi_enumL {a : Expr} {ta : TA} {p pos : Pos} (hg : Gl X "enumerate") (hm : X.mg "enumerate" = none) (ha : PA X [a] ta) (hs : starEach [a] X.env = [(false, eval a X.env)] := by rfl) :
    PI X (.Tuple elts kk tpos) (.Call (.Name "enumerate" p) [a] [] pos) (iEnumL X.K ta) := by
  intro pins s σ H R I h
  refine Call_ (ld_blt I hg hm boot_enumerate (PyProof.Rows.callWith_type1 (thn (ha pos pins s σ H _ I h) fun us s1 ⟨vs, H1, I1, r1, q1⟩ => ?_) hs rfl))
  obtain ⟨l, e, ⟨xs, hq⟩, q⟩ := q1
  subst e
  cases r1 with
  | cons r rr =>
    cases rr
    cases r
    obtain ⟨its, rv, p, hz⟩ := I1.list hq
    refine call_enumerate_list p.isList fun h' hE hI hsz hk => wpAny_pyIter_enum hE ?_
    refine ⟨_, [s1.heap.objs.size + 1, s1.heap.objs.size], _, _, H1, rfl, I1.kept (t' := s1.toks) hk, turn_enumL l _ _ (Nat.succ_ne_self _), ⟨⟨_, hE⟩, hI⟩, fun b hb => ?_, q⟩
    rcases List.mem_cons.mp hb with rfl | hb
    · exact I1.fpOk (Nat.le_succ _) (I1.hok.fresh (Nat.le_succ _))
    · rw [List.mem_singleton.mp hb]
      exact I1.fpOk (Nat.le_refl _) (I1.hok.fresh (Nat.le_refl _))
end
theorem forW_enum {sq : Hp → List V → Prop} {g : TG} {tb : TS} {D : Ends} {σ : St} {H : Hp} (xs : List V) (Pv : Nat → St → Hp → Prop) (h0 : Pv 0 σ H) (hl : ∀ i σ H, i ≤ xs.length → Pv i σ H → sq H xs)
    (hs : ∀ i x T σ H, xs[i]? = some x → Pv i σ H → H T = none → g (.ref T) σ (upd H T (.tup [.int i, x])) fun σ2 H2 => tb { D with nx := Pv (i + 1), ct := Pv (i + 1), bk := D.nx } σ2 H2) (hd : ∀ σ H, Pv xs.length σ H → D.nx σ H) : ForW (Ite sq) g tb D σ H := by
  refine ⟨fun i m σ H => m = xs.length - i ∧ i ≤ xs.length ∧ Pv i σ H, ⟨xs.length, by simp, Nat.zero_le _, h0⟩, ?_⟩
  rintro i m σ H2 ⟨rfl, hi, p⟩
  have q := hl i σ H2 hi p
  by_cases hlt : i < xs.length
  · have hx : xs[i]? = some xs[i] := by simp [hlt]
    refine .inr ⟨⟨xs, _, q, hx⟩, Pv (i + 1), fun σ' H' p' => ⟨xs.length - (i + 1), by omega, rfl, hlt, p'⟩, fun x H' y => ?_⟩
    obtain ⟨T, v, hT, e1, e2, y⟩ := y
    subst e1 e2
    have e2 := y xs q
    exact hs i v T σ _ e2 p hT
  · have e : i = xs.length := by omega
    subst e
    exact .inl ⟨⟨xs, q, Nat.le_refl _⟩, hd σ H2 p⟩
end L2

set_option Elab.async false
set_option linter.all false
set_option maxRecDepth 100000
set_option maxHeartbeats 1000000
namespace HT
open PySem PySem.Spec PyProof.Rows
section
variable {prog : Program} {w : World} {A : Around} {E : Value → Shared → Prop} {s : Shared}
theorem getItem_tuple_all {t sl : Addr} {items : Array Value} {vl vu : Value} {lo hi : Option Int} {Q : Value → Shared → Prop} (ht : IsTup s.heap t items) (hs : s.heap.IsSliceOf sl vl vu .none) (pl : IsPart vl lo) (pu : IsPart vu hi)
    (hw : sIx items.size 0 lo = 0 ∧ sIx items.size items.size hi = items.size) (h : Q (.ref t) s) : wpAny (model prog w) A (getItem (.ref t) (.ref sl)) Q E s := by
  obtain ⟨os, hos, hcs, hds⟩ := id hs
  have hTs : s.TypeIs (.ref sl) "slice" := ⟨os, hos, hcs⟩
  unfold getItem
  try with_reducible refine wpAny_holding ?_
  first | refine wpAny_bind (wpAny_pure ?_) | skip
  refine wpAny_bind (wpAny_sequenceKey ht.typeIs (by decide) ?_)
  refine wpAny_bind (wpAny_callSpecial?_slot (name := Str.ofString "__getitem__") ht.typeIs PyProof.Rows.slot_tuple_getitem
    (wpAny_call_entry PyProof.Rows.slot_tuple_getitem ht.typeIs entry_tuple_getitem ?_ (args_tuple_getitem _ _)))
  show wpAny _ _ (Builtin.Tuple.tupleItemsOf (.ref t) >>= _) _ _ s
  refine wpAny_bind (tupleItemsOf_ ht ?_)
  refine wpAny_bind (wpAny_typeOf hTs ?_)
  rw [if_pos (by decide)]
  refine wpAny_bind (sliceApplied_gen hs pl pu ?_)
  have hno : ((((sIx items.size 0 lo : Nat) : Int) == 0 && (1 : Int) == 1 && (sIx items.size items.size hi - sIx items.size 0 lo) == items.size) = true) := by
    rw [hw.1, hw.2]
    simp
  show wpAny _ _ (if (((sIx items.size 0 lo : Nat) : Int) == 0 && (1 : Int) == 1 && (sIx items.size items.size hi - sIx items.size 0 lo) == items.size) = true then _ else _) _ _ s
  rw [if_pos hno]
  show wpAny _ _ (Builtin.Tuple.tupleIsExact (.ref t) >>= _) _ _ s
  refine wpAny_bind (m := Builtin.Tuple.tupleIsExact _) (show wpAny _ _ (typeOf (.ref t) >>= _) _ _ s from wpAny_bind (wpAny_typeOf ht.typeIs (wpAny_pure ?_)))
  rw [if_pos (by decide)]
  exact wpAny_bind (wpAny_rule (wpAny_pure ⟨_, rfl, wpAny_pure h⟩))
end
end HT
namespace L2
open PySem PySem.Spec PyProof.Rows
section
variable {X : Cx}
def rSlTA (K : PySem.W.Frag) : V → Option Int → Option Int → Hp → VK → Prop := fun x lo hi H Q => ∃ a xs, x = .ref a ∧ SqT K H a xs ∧ (cutV xs lo hi = xs → Q (.ref a) H) ∧ ∀ p, H p = none → Q (.ref p) (upd H p (.tup (cutV xs lo hi)))
theorem sl_tupA : SlR X (rSlTA X.K) := by
  intro pins s σ H x v vl vu lo hi sl Q I rx hs pl pu h
  obtain ⟨a, xs, rfl, hx, q1, q2⟩ := h
  by_cases hw : HT.sIx xs.length 0 lo = 0 ∧ HT.sIx xs.length xs.length hi = xs.length
  · cases rx
    obtain ⟨its, r, ht, hz⟩ := I.tuple hx
    have hlen : its.toArray.size = xs.length := by rw [List.size_toArray]; exact r.length.symm
    refine ⟨"tuple", _, PyProof.Rows.slot_tuple_getitem.lookup, ht.typeIs, ?_⟩
    refine HT.getItem_tuple_all ht hs pl pu (by rw [hlen]; exact hw) ⟨.ref a, H, I, rfl, q1 ?_⟩
    unfold cutV
    rw [hw.1, hw.2, List.drop_zero, Nat.sub_zero, List.take_of_length_le (Nat.le_refl _)]
  · exact sl_tup pins s σ H _ v vl vu lo hi sl Q I rx hs pl pu ⟨a, xs, rfl, hx, hw, q2⟩
end
theorem cut_to {xs : List V} {n : Nat} : cutV xs none (some (n : Int)) = xs.take n := by
  unfold cutV
  rw [HT.sIx_nat, HT.sIx_none, List.drop_zero, Nat.sub_zero]
  by_cases h : n ≤ xs.length
  · rw [Nat.min_eq_left h]
  · rw [Nat.min_eq_right (by omega), List.take_of_length_le (Nat.le_refl _), List.take_of_length_le (by omega)]
end L2

set_option Elab.async false
set_option linter.all false
set_option maxRecDepth 100000
set_option maxHeartbeats 1000000
namespace L2
open PySem PySem.Spec PyProof.Rows
open PySem.Builtin PySem.Builtin.ObjectAttr PySem.Builtin.Getset_descriptor
open PySem.W (Frag Looks looks_findIn looks_specialIn looks_takesIn looks_mroIn looks_subIn looks_typeIn)

def ExcAt (x D : Addr) (h : Heap) : Prop := ∃ o vs, h.get? x = some o ∧ o.cls = .ref D ∧ o.data = .fields vs
structure XCls (K : Frag) (D : Addr) : Prop where
  ga : PySem.W.findIn K (.ref D) "__getattribute__" = some (some (.builtin "BaseException.__getattribute__"))
  gt : PySem.W.findIn K (.ref D) "__getattr__" = some none
  ca : PySem.W.findIn K (.ref D) "__class__" = some (some (.builtin "object.__class__"))
  cn : PySem.W.specialIn K (.builtin "object.__class__") "__get__" = some (some (.builtin "getset_descriptor.__get__"))
  tk : PySem.W.takesIn K (.builtin "object.__class__") = some true
  mo : PySem.W.mroIn K D (.type "object") = some true
  mb : PySem.W.mroIn K D (.type "BaseException") = some true
  is : (PySem.W.clsIn K D).isSome = true
section
variable {prog : Program} {w : World} {A : Around} {E : Value → Shared → Prop} {s : Shared} {K : Frag} {x D : Addr}
theorem ExcAt.type {M : Model} {h : Heap} (I : ExcAt x D h) : Looks M h (typeOf (.ref x)) (.ref D) := by
  obtain ⟨o, vs, e, c, _⟩ := I
  exact c ▸ (Looks.ld e).andThen .now
theorem xcls_get {R : Result → Shared → Prop} {tp : Value} (X : K.In s.heap) (I : ExcAt x D s.heap) (hm : PySem.W.mroIn K D (.type "object") = some true)
    (h : R (.ok (.ret (.ref D))) s) : codeAny (model prog w) A (.call (.builtin "getset_descriptor.__get__") ⟨[.builtin "object.__class__", .ref x, tp], []⟩) R s := by
  obtain ⟨hh, g, dr, t, os⟩ := s
  have L0 := I.type (M := model prog w)
  have L1 := looks_mroIn (M := model prog w) X hm
  refine codeAny_call_builtin PySem.W.KF.slot_gs.plain PySem.W.KF.entry_gs (PySem.W.KF.slot_gs.check _ _ _ _ _ _ _ _ PySem.W.KF.type_class (PySem.W.KF.args_gs _ _ _) ?_)
  unfold Builtin.«getset_descriptor.__get__» descrGet
  rw [PySem.W.dga_obj]
  refine wpAny_bind (wpAny_pure ?_)
  unfold descrGetter descrCheckInstance descrNameAndClass isInstance
  simp only [PySem.W.KF.owner_class]
  repeat lk
  refine ⟨Code.quiet_builtin _ (by decide +kernel), codeAny_builtin PySem.W.KF.entry_class ?_⟩
  unfold Builtin.«object.__class__» shownTypeOf
  repeat lk
  exact h
theorem xcls_find {M : Model} {h : Heap} (X : K.In h) (c : XCls K D) : Looks M h (find (.ref x) (.ref D) "__class__") (.bind (.builtin "getset_descriptor.__get__") (.builtin "object.__class__")) := by
  have L1 := looks_findIn (M := M) X c.ca
  have L2 : Looks M h (getOf (some (.builtin "object.__class__"))) (some (.builtin "getset_descriptor.__get__")) := looks_specialIn X c.cn
  have L3 := looks_takesIn (M := M) X c.tk
  have L4 : Looks M h (dataDescriptor? (some (.builtin "object.__class__")) (some (.builtin "getset_descriptor.__get__"))) (some (.builtin "getset_descriptor.__get__", .builtin "object.__class__")) := L3.andThen .now
  unfold find
  exact L1.andThen (L2.andThen (L4.andThen (Looks.tag .now)))
theorem xcls_entry {tk : Tok} {Q : Fin → Shared → Prop} (X : K.In s.heap) (c : XCls K D) (I : ExcAt x D s.heap) (hq : Q (.done (.ret (.ref D))) s) :
    wpAny (model prog w) A (Builtin.«object.__getattribute__» ⟨[.ref x, .str "__class__" tk], []⟩) Q E s := by
  obtain ⟨hh, g, dr, t, os⟩ := s
  have L0 := I.type (M := model prog w)
  have L1 := xcls_find (M := model prog w) (x := x) X c
  unfold Builtin.«object.__getattribute__»
  refine wpAny_bind (wpAny_pure (wpAny_bind (wpAny_pure (wpAny_bind (L0.at (wpAny_bind (L1.at ?_)))))))
  show wpAny _ _ (holding [.builtin "object.__class__"] (call (.builtin "getset_descriptor.__get__") [.builtin "object.__class__", .ref x, .ref D]) >>= ret) _ _ _
  exact wpAny_bind (wpAny_holding (wpAny_call (xcls_get X I c.mo (wpAny_pure hq))))
theorem xcls_check {M : Model} {nameV : Value} {Q : Unit → Shared → Prop} (X : K.In s.heap) (c : XCls K D) (I : ExcAt x D s.heap) (hq : Q () s) : wpAny M A (checkBuiltinCall "BaseException.__getattribute__" ⟨[.ref x, nameV], []⟩) Q E s := by
  obtain ⟨hh, g, dr, t, os⟩ := s
  have hk : builtinKind "BaseException.__getattribute__" = some .slot := by decide +kernel
  have hsplit : splitId "BaseException.__getattribute__" = some ("BaseException", "__getattribute__") := by decide +kernel
  have ha := F.args_bexc_ga (.ref x) nameV
  have L0 := I.type (M := M)
  have L1 := looks_mroIn (M := M) X c.mb
  have L2 : Looks M hh (isInstance (.ref x) (.type "BaseException")) true := L0.andThen L1
  simp only [checkBuiltinCall, hk, hsplit]
  refine wpAny_bind (L2.at ?_)
  repeat (first | wp_step)
  exact hq
theorem xcls_attr {Q : Option Value → Shared → Prop} (X : K.In s.heap) (c : XCls K D) (I : ExcAt x D s.heap) (hq : Q (some (.ref D)) { s with toks := s.toks + 1 }) : wpAny (model prog w) A (getAttr? (.ref x) "__class__") Q E s := by
  obtain ⟨hh, g, dr, t, os⟩ := s
  have L0 := I.type (M := model prog w)
  have L1 := looks_findIn (M := model prog w) X c.ga
  have L2 := looks_findIn (M := model prog w) X c.gt
  have hb := F.excAttr_ValueError.ga.bind (.ref x)
  unfold getAttr? getAttrBy? getAttrBy
  refine wpAny_bind (wpAny_mkText (wpAny_bind (wpAny_attempt (wpAny_holding (wpAny_bind (L0.at (wpAny_bind (L1.at ?_))))))))
  show wpAny _ _ (getAttrByItsOwn _ _ _ _ _ _) _ _ _
  unfold getAttrByItsOwn
  refine wpAny_bind (show wpAny _ _ (typeLookup (.ref D) "__getattr__") _ _ _ from L2.at ?_)
  refine wpAny_bind (wpAny_attempt (wpAny_holding ?_))
  show wpAny _ _ (boundAndCalled _ _ _) _ _ _
  unfold boundAndCalled
  rw [hb]
  refine wpAny_bind (wpAny_pure (wpAny_call ?_))
  refine codeAny_call_builtin F.excAttr_ValueError.ga.plain F.entry_bexc_ga (xcls_check X c I (xcls_entry X c I ?_))
  show wpAny _ _ (handedOut (.ref D)) _ _ _
  exact PySem.W.handed_on rfl (wpAny_pure hq)
theorem kitx_exc (c : XCls K D) : PySem.W.KitX K (.ref x) (.ref D) (ExcAt x D) where
  ty := fun _ _ _ I => I.type
  it := fun _ _ X _ => by
    obtain ⟨cdD, hcD⟩ := Option.isSome_iff_exists.mp c.is
    unfold PySem.W.clsIn at hcD
    split at hcD
    · rename_i c' d' cd' sl' ho
      intro A' Q' E' s' k q
      unfold isType loadHead
      exact wpAny_bind (wpAny_loadPart (k _ _ (X _ _ ho)) (wpAny_pure q))
    · cases hcD
  ne := fun h tp dd its n sl X htp => by
    obtain ⟨cdD, hcD⟩ := Option.isSome_iff_exists.mp c.is
    refine Bool.eq_false_iff.mpr fun q => ?_
    have e : D = tp := Value.ref.inj (beq_iff_eq.mp q)
    subst e
    unfold PySem.W.clsIn at hcD
    split at hcD
    · rename_i c' d' cd' sl' ho
      have z := (X _ _ ho).symm.trans htp
      cases z
    · cases hcD
  ca := fun X I k => xcls_attr X c I k
theorem xcls_matches {M : Model} {C : Addr} {b : Bool} {Q : Bool → Shared → Prop} (X : K.In s.heap) (I : ExcAt x D s.heap) (hc : PySem.W.clsIn K C ≠ none) (ht : PySem.W.typeIn K (.ref C) = some (.type "type")) (hb : PySem.W.mroIn K C (.type "BaseException") = some true)
    (hs : PySem.W.subIn K (.ref D) (.ref C) = some b) (hq : Q b s) : wpAny M A (excMatches (.ref x) (.ref C)) Q E s := by
  obtain ⟨hh, g, dr, t, os⟩ := s
  have L0 := I.type (M := M)
  have L1 := looks_typeIn (M := M) X ht
  have L2 : Looks M hh (isSubtype (.type "type") (.type "tuple")) false := Looks.of_pure (by rw [isSubtype_type]; kernel_rfl)
  have L3 : Looks M hh (isInstance (.ref C) (.type "tuple")) false := L1.andThen L2
  have L4 := looks_mroIn (M := M) X hb
  have L5 := looks_subIn (M := M) X hs
  have L6 : Looks M hh (isType (.ref C)) true := by
    obtain ⟨cdD, hcD⟩ := Option.ne_none_iff_exists'.mp hc
    unfold PySem.W.clsIn at hcD
    split at hcD
    · rename_i c' d' cd' sl' ho
      intro A' Q' E' s' k q
      unfold isType loadHead
      exact wpAny_bind (wpAny_loadPart (k _ _ (X _ _ ho)) (wpAny_pure q))
    · cases hcD
  have L7 : Looks M hh (isExcClass (.ref C)) true := L6.andThen L4
  unfold excMatches
  refine wpAny_bind (L3.at ?_)
  rw [if_neg Bool.false_ne_true]
  refine wpAny_bind (wpAny_pure ?_)
  simp only [List.forIn_cons, List.forIn_nil]
  refine wpAny_bind (wpAny_bind (wpAny_bind (L7.at ?_)))
  rw [if_neg (by decide)]
  refine wpAny_pure (wpAny_pure (wpAny_bind (L0.at (wpAny_bind (wpAny_bind (wpAny_bind (L5.at ?_)))))))
  cases b with
  | true => exact wpAny_pure (wpAny_pure (wpAny_pure hq))
  | false => exact wpAny_pure (wpAny_pure (wpAny_pure hq))
end
end L2

set_option Elab.async false
set_option linter.all false
set_option maxRecDepth 100000
set_option maxHeartbeats 1000000
namespace L2
open PySem PySem.Spec PyProof.Rows
theorem ObjOk.here {P : Program} {w : World} {H : Hp} {h : Heap} {a : Addr} {o : HO} (x : ObjOk P w H h a o) : ∃ ob, h.get? a = some ob := by
  cases o with
  | lst xs => obtain ⟨_, _, _, _, e⟩ := x; exact ⟨_, e⟩
  | tup xs => obtain ⟨_, _, _, _, ob, e, _⟩ := x; exact ⟨_, e⟩
  | dK kvs => obtain ⟨_, _, _, _, o, _, _, e, _⟩ := x; exact ⟨_, e⟩
  | dT kvs => obtain ⟨_, _, _, _, o, _, _, e, _⟩ := x; exact ⟨_, e⟩
  | set S n => obtain ⟨o, _, _, _, e, _⟩ := x; exact ⟨_, e⟩
  | ins C dx fs => obtain ⟨_, _, _, e, _⟩ := x; exact ⟨_, e⟩
  | own y => exact x
  | xd fs => obtain ⟨_, ⟨_, _, _, e, _⟩, _⟩ := x; exact ⟨_, e⟩
  | rng lo hi => obtain ⟨_, _, _, e⟩ := x; exact ⟨_, e⟩
  | frz ob u => obtain ⟨e, _⟩ := x; exact ⟨_, e⟩
  | tbl ps => exact ⟨_, (show h.get? a = some _ from x)⟩
  | met f y => exact ⟨_, (show h.get? a = some _ from x)⟩
  | ext φ => obtain ⟨_, e, _⟩ := x; exact e
structure Fly (P : Program) (w : World) (outer : List Env) (H : Hp) (s : Shared) (B : Heap) (H' : Hp) (a C : Addr) (a0 : Value) (s' : Shared) : Prop where
  os : s'.os = s.os
  bare : AllBare s'.gens
  un : Un (frs outer) [] H H' s.heap s'.heap
  hok : HOk P w H' s'.heap
  fly : Heap.FlyingW B outer a (.ref C) a0 s'.heap
  old : ∀ b o, s'.heap.get? b = some o → (∃ o', s.heap.get? b = some o') → b ∉ frs outer → B.get? b = some o
  trk : ∀ b u o, H' b = some u → s'.heap.get? b = some o → B.get? b = some o
  new : H' a = none
  fresh : s.heap.get? a = none
def CXE (P : Program) (w : World) : CXT := fun outer H s E e s' => ∃ a C H' B a0, e = .ref a ∧ Fly P w outer H s B H' a C a0 s' ∧ E (.ref C) none H'
section
variable {P : Program} {w : World} {outer : List Env} {H H' : Hp} {s s' : Shared} {B : Heap} {a C : Addr} {a0 : Value} {h6 : Heap}
theorem Fly.excAt (F : Fly P w outer H s B H' a C a0 s') : ExcAt a C s'.heap := by
  obtain ⟨_, _, _, oe, vs, _, _, _, he, hc, hd, _⟩ := F.fly
  exact ⟨oe, vs, he, hc.1, hd⟩
theorem Fly.on (F : Fly P w outer H s B H' a C a0 s') (fl : Heap.FlyingW B outer a (.ref C) a0 h6) (up : s'.heap.UpToSlots h6) : Fly P w outer H s B H' a C a0 { s' with heap := h6 } := by
  have st := fl.1
  have fr : ∀ b ∈ frs outer, ∀ o, s'.heap.get? b = some o → ∃ sl, h6.get? b = some { o with slots := sl } := fun b hb o e => by
    obtain ⟨_, o', e', hd⟩ := F.fly.2.2.1.mem hb
    rw [e] at e'
    cases e'
    exact up b o e hd
  have inB : ∀ b o, s'.heap.get? b = some o → (∃ o', s.heap.get? b = some o') → b ∉ frs outer → h6.get? b = some o := fun b o e x hb => st b o (F.old b o e x hb)
  refine ⟨F.os, F.bare, ⟨fun b o e n hb hx => ?_, fun b o e n hb hx => ?_, F.un.free, fun b o e hx => ?_, F.un.tups, F.un.frzs, F.un.tbls⟩, fun b u e => ?_, fl, fun b o e x hb => ?_, fun b u o e q => ?_, F.new, F.fresh⟩
  · exact inB b o (F.un.keep b o e n hb hx) ⟨o, e⟩ hb
  · obtain ⟨sl, e1⟩ := F.un.slot b o e n hb hx
    obtain ⟨sl', e2⟩ := fr b hb _ e1
    exact ⟨sl', e2⟩
  · obtain ⟨o', e1⟩ := F.un.there b o e hx
    by_cases hb : b ∈ frs outer
    · obtain ⟨sl, e2⟩ := fr b hb _ e1
      exact ⟨_, e2⟩
    · exact ⟨o', inB b o' e1 ⟨o, e⟩ hb⟩
  · refine (F.hok b u e).stay (fun c v hc q => ?_) (fun _ q => q) fun _ _ q => q
    have tc : ∃ u', H' c = some u' := by
      rcases hc with rfl | hc
      · exact ⟨u, e⟩
      · exact ⟨_, hc⟩
    obtain ⟨u', eu⟩ := tc
    exact st c v (F.trk c u' v eu q)
  · obtain ⟨o', ho'⟩ := x
    obtain ⟨o1, e1⟩ := F.un.there b o' ho' (by simp)
    have z := F.old b o1 e1 ⟨o', ho'⟩ hb
    have z2 : h6.get? b = some o1 := st b o1 z
    rw [show h6.get? b = some o from e] at z2
    cases z2
    exact z
  · obtain ⟨o1, e1⟩ := (F.hok b u e).here
    have z := F.trk b u o1 e e1
    have z2 : h6.get? b = some o1 := st b o1 z
    rw [show h6.get? b = some o from q] at z2
    cases z2
    exact z
end
theorem frs_cons {env : Env} {outer : List Env} {L : Addr} (h : env.frame = some L) : frs (env :: outer) = L :: frs outer := by
  unfold frs
  rw [List.filterMap_cons, h]
section
variable {X : Cx} {pins : List (Addr × Obj)} {σ : St} {H H' : Hp} {s s' : Shared} {B : Heap} {a C : Addr} {a0 : Value}
theorem Inv.caught (I : Inv X pins σ H s) (F : Fly X.prog X.w X.stack H s B H' a C a0 s') : Inv X pins σ H' s' := by
  obtain ⟨hh, g, d, t, os'⟩ := s'
  obtain rfl : os' = s.os := F.os
  exact I.call (h' := hh) (g' := g) (d' := d) (t' := t) (ch := []) F.un F.hok F.bare (fun b z => absurd z (by simp))
theorem Inv.flies (I : Inv X pins σ H s) (hx : X.ex = []) (hs : X.stack = X.env :: X.outer) (hf : X.env.frame = some X.env.locals) (F : Fly X.prog X.w X.stack H s B H' a C a0 s') (fl : Heap.FlyingW B X.outer a (.ref C) a0 s'.heap) :
    Fly X.prog X.w X.outer X.H₀ X.s₀ B H' a C a0 s' := by
  have u := F.un
  have ol := F.old
  rw [hs, frs_cons hf] at u ol
  have nex : ∀ b : Addr, b ∉ X.ex := fun b => by rw [hx]; simp
  have neL : ∀ b o, X.s₀.heap.get? b = some o → b ≠ X.env.locals := fun b o e => Nat.ne_of_lt (Nat.lt_of_lt_of_le (Heap.lt_size e) I.ok.above)
  refine ⟨F.os.trans I.os, F.bare, ⟨fun b o e n hb _ => ?_, fun b o e n hb _ => ?_, fun b o e n _ => ?_, fun b o e _ => ?_, fun b xs e => u.tups b xs (I.base.tups b xs e), fun b o v e => u.frzs b o v (I.base.frzs b o v e), fun b ps e => ?_⟩, F.hok, fl, fun b o e x hb => ?_, F.trk, F.new, ?_⟩
  · exact u.keep b o (I.base.keep b o e n hb (nex b)) (I.base.free b o e n (nex b)) (by simp [neL b o e]; exact hb) (by simp)
  · obtain ⟨sl, e1⟩ := I.base.slot b o e n hb (nex b)
    obtain ⟨sl', e2⟩ := u.slot b _ e1 (I.base.free b o e n (nex b)) (List.mem_cons_of_mem _ hb) (by simp)
    exact ⟨sl', e2⟩
  · obtain ⟨o', e1⟩ := I.base.there b o e (nex b)
    exact u.free b o' e1 (I.base.free b o e n (nex b)) (by simp)
  · obtain ⟨o', e1⟩ := I.base.there b o e (nex b)
    exact u.there b o' e1 (by simp)
  · obtain ⟨m1, e1⟩ := I.base.tbls b ps e
    obtain ⟨m2, e2⟩ := u.tbls b _ e1
    exact ⟨m1 ++ m2, by rw [e2, Array.append_assoc]⟩
  · obtain ⟨o', ho'⟩ := x
    obtain ⟨o1, e1⟩ := I.base.there b o' ho' (nex b)
    exact ol b o e ⟨o1, e1⟩ (by simp [neL b o' ho']; exact hb)
  · cases q : X.s₀.heap.get? a with
    | none => rfl
    | some o =>
      obtain ⟨o', e⟩ := I.base.there a o q (nex a)
      rw [F.fresh] at e
      cases e
theorem Inv.made' {h' : Heap} {args : List Value} (I : Inv X pins σ H s) (hs : X.stack = X.env :: X.outer) (hf : X.env.frame = some X.env.locals) (hm : Heap.MadeExcOf s.heap h' a (.ref C) args) {Q : Unit → Shared → Prop} {E : Value → Shared → Prop}
    (k : ∀ B a0 s', Fly X.prog X.w X.stack H s B H a C a0 s' → Heap.FlyingW B X.outer a (.ref C) a0 s'.heap → Q () s') {M : Model} : wpAny M X.A (leaving X.env (.ref a)) Q E { s with heap := h' } := by
  have fr := I.stack
  rw [hs] at fr
  have hfr := I.ok.frames
  rw [hs] at hfr
  have hin : ∀ env ∈ (X.env :: X.outer), ∀ b, env.frame = some b → b ∈ frs (X.env :: X.outer) := fun env he b hb => List.mem_filterMap.mpr ⟨env, he, hb⟩
  refine wpAny_leaves_madeW (base := PySem.W.hideAll s.heap (frs (X.env :: X.outer))) hfr hf (fun b o q => PySem.W.of_hideAll _ q) (PySem.W.funFrames_hide fr hin) hm fun h'' t x1 x2 x3 x4 => ?_
  have ha : H a = none := by
    cases q : H a with
    | none => rfl
    | some u =>
      obtain ⟨o, e⟩ := (I.hok a u q).here
      rw [hm.new] at e
      cases e
  have st := x1.1
  have hd : ∀ b o, s.heap.get? b = some o → b ∉ frs (X.env :: X.outer) → (PySem.W.hideAll s.heap (frs (X.env :: X.outer))).get? b = some o := fun b o e n => PySem.W.hideAll_get _ e n
  have frm : ∀ b ∈ frs (X.env :: X.outer), ∀ o, s.heap.get? b = some o → ∃ sl, h''.get? b = some { o with slots := sl } := fun b hb o e => by
    obtain ⟨_, o', e', hdt⟩ := fr.mem hb
    rw [e] at e'
    cases e'
    exact x4 b o (hm.keeps b o e) hdt
  have nt : ∀ b u, H b = some u → b ∉ frs (X.env :: X.outer) := fun b u e hb => by
    have z := I.stkFree b (by rw [hs]; exact hb)
    rw [e] at z
    cases z
  refine k (PySem.W.hideAll s.heap (frs (X.env :: X.outer))) (.ref t) { s with heap := h'' } ?_ x1
  rw [hs]
  refine ⟨rfl, I.bare, ⟨fun b o e n hb _ => st b o (hd b o e hb), fun b o e n hb _ => frm b hb o e, fun _ _ _ n _ => n, fun b o e _ => ?_, fun _ _ e => e, fun _ _ _ e => e, fun b ps e => ⟨#[], by rw [e]; simp⟩⟩, fun b u e => ?_, ?_, fun b o e x hb => ?_, fun b u o e q => ?_, ha, hm.new⟩
  · by_cases hb : b ∈ frs (X.env :: X.outer)
    · obtain ⟨sl, q⟩ := frm b hb o e
      exact ⟨_, q⟩
    · exact ⟨o, st b o (hd b o e hb)⟩
  · refine (I.hok b u e).stay (fun c v hc q => ?_) (fun _ q => q) fun _ _ q => q
    refine st c v (hd c v q ?_)
    rcases hc with rfl | hc
    · exact nt _ _ e
    · exact nt _ _ hc
  · obtain ⟨k1, k2, k3, k4⟩ := x1
    refine ⟨k1, k2, ?_, k4⟩
    have ff : h''.FunFrames (PySem.W.hideAll s.heap (frs (X.env :: X.outer))) (X.env :: X.outer) := by
      have f0 := PySem.W.funFrames_hide fr hin
      refine f0.of_keeps fun b o e hdt => ?_
      by_cases hb : b ∈ frs (X.env :: X.outer)
      · obtain ⟨sl, q⟩ := frm b hb o e
        exact ⟨_, q, rfl⟩
      · exact ⟨o, st b o (hd b o e hb), rfl⟩
    exact ff
  · obtain ⟨o', e'⟩ := x
    have z := hd b o' e' hb
    have z2 : h''.get? b = some o' := st b o' z
    rw [show h''.get? b = some o from e] at z2
    cases z2
    exact z
  · obtain ⟨o1, e1⟩ := (I.hok b u e).here
    have z := hd b o1 e1 (nt b u e)
    have z2 : h''.get? b = some o1 := st b o1 z
    rw [show h''.get? b = some o from q] at z2
    cases z2
    exact z
end
def Throws (X : Cx) (E : XK) : Prop := ∀ (pins : List (Addr × Obj)) (σ : St) (H : Hp) (s : Shared) (h' : Heap) (a C : Addr) (args : List Value), Inv X pins σ H s → Heap.MadeExcOf s.heap h' a (.ref C) args → E (.ref C) none H → X.xe (.ref a) { s with heap := h' }
section
variable {P : Program} {w : World} {K : PySem.W.Frag} {mg : Str → Option Value} {base : Heap} {N : List Str} {qual : Str} {scope : Scope} {f : Addr} {cd : Value} {A : Around} {outer : List Env} {s : Shared} {H : Hp} {E : XK}
theorem throws_cx : Throws (cxOf (CXE P w) P w K mg base N qual scope f cd A outer s H E) E := by
  intro pins σ H1 s1 h' a C args I hm e
  exact I.made' rfl rfl hm fun B a0 s' F fl => ⟨a, C, H1, B, a0, rfl, I.flies rfl rfl rfl F fl, e⟩
theorem pass_cx : Passes (CXE P w) (cxOf (CXE P w) P w K mg base N qual scope f cd A outer s H E) E := by
  rintro pins σ H1 s1 ev s' I ⟨a, C, H', B, a0, rfl, F, e⟩
  show wpAny _ _ (leaving _ (.ref a)) _ _ s'
  refine wpAny_leaves_onW I.ok.frames rfl F.fly fun h' fl up => ?_
  have fl2 : Heap.FlyingW B (envOfC qual scope s.heap.objs.size f cd :: outer) a (.ref C) a0 h' := by
    obtain ⟨k1, k2, k3, k4⟩ := fl
    refine ⟨k1, k2, ?_, k4⟩
    refine F.fly.2.2.1.of_keeps fun b o e hd => ?_
    obtain ⟨sl, q⟩ := up b o e hd
    exact ⟨_, q, rfl⟩
  exact ⟨a, C, H', B, a0, rfl, I.flies rfl rfl rfl (F.on fl2 up) fl, e⟩
theorem passE0 {X : Cx} : Passes (CXE X.prog X.w) X E0 := by
  rintro pins σ H1 s1 ev s' I ⟨a, C, H', B, a0, rfl, F, e⟩
  exact e.elim
end
theorem Fun.okX {P : Program} {w : World} {K : PySem.W.Frag} {mg : Str → Option Value} {base : Heap} {x qual : Str} {st : Stmt} {f : Addr} {fd : FuncData} {N ps : List Str} {k : Nat} {sp : Sp} (F : Fun K x qual st f fd) (S : FnScope N ps (defScope st)) (len : ∀ vs H Q E, sp vs H Q E → vs.length = ps.length)
    (hbody : ∀ (cdv : Value) (A : Around) (outer : List Env) (s : Shared) (H : Hp) (vs : List V) (Q : VK) (E : XK), Room k (A.deeper (envOfC qual (defScope st) s.heap.objs.size f cdv)) → sp vs H Q E →
      ∃ t, PSs (cxOf (CXE P w) P w K mg base N qual (defScope st) f cdv A outer s H E) (defBody st) t ∧ t { nx := fun _ H' => Q .non H', rt := Q } (start N vs) H) : FnOk P w K mg base (CXE P w) (k + 1) f fd ps sp := by
  obtain ⟨oc, od, kV, doc, pm, an, cdv, ct, osl, rfl, lk, hcd⟩ := F.ex
  exact fn_of lk hcd S len fun A outer s H vs Q E hr hsp => hbody cdv A outer s H vs Q E hr hsp
abbrev bmVE : List Value := [.type "ValueError", .type "Exception", .type "BaseException", .type "object"]
structure XRaise (K : PySem.W.Frag) (mg : Str → Option Value) (x : Str) (C : Addr) : Prop where
  at_ : mg x = some (.ref C)
  ex : PySem.W.excIn K C bmVE "ValueError.__new__" = true
theorem XRaise.own {K : PySem.W.Frag} {mg : Str → Option Value} {x : Str} {C : Addr} {h : Heap} (R : XRaise K mg x C) (X : K.In h) : OwnCls x C bmVE "ValueError.__new__" mg h := by
  refine ⟨R.at_, ?_⟩
  have q := R.ex
  unfold PySem.W.excIn at q
  split at q
  · rename_i dd cd sl ho
    split at q
    · rename_i C' bm k0 k1 k2 k3 n k5 hm hs
      simp only [Bool.and_eq_true, beq_iff_eq, Bool.not_eq_true'] at q
      obtain ⟨⟨⟨⟨⟨rfl, rfl⟩, hdel⟩, ht⟩, hok⟩, hni⟩ := q
      obtain ⟨nm, bs, mro, ns, qn, hd, sn, sub, ab, col, del⟩ := cd
      dsimp only at hm hdel hok hni
      subst hm hdel
      have hsl : sl = #[k0, k1, k2, k3, some (.builtin "ValueError.__new__"), k5] := by
        obtain ⟨l⟩ := sl
        simp only at hs
        rw [hs]
      subst hsl
      exact ⟨bm, ns, nm, qn, bs, hd, sn, sub, ab, col, dd, k0, k1, k2, k3, k5, _, X _ _ ho, .of_isNs (PySem.W.isNs_of_in X hok), PySem.W.nsMap_none_of_in X hok hni, PySem.W.tail_of_in X ht⟩
    · cases q
  · cases q
def tRaise (E : XK) (C : Addr) (t : TA) : TS := fun _ σ H => t σ H fun vs H1 => vs.length ≤ sizeLine ∧ E (.ref C) none H1
theorem ps_raise {X : Cx} {E : XK} {k : Nat} {x : Str} {C : Addr} {e₀ : Expr} {rest : List Expr} {np cpos pos : Pos} {t : TA} (T : Throws X E) (hr : Room k X.A) (hg : Gl X x) (R : XRaise X.K X.mg x C) (ha : PA X (e₀ :: rest) t)
    (he : starEach (e₀ :: rest) X.env = (false, eval e₀ X.env) :: starEach rest X.env := by rfl) (hpl : (backTo cpos (starEach rest X.env)).any (·.1) = false := by rfl) (hd : (x == ("__debug__" : Str)) = false := by decide) :
    PS X (.Raise (some (.Call (.Name x np) (e₀ :: rest) [] cpos)) none pos) (tRaise E C t) := by
  intro pins s σ H D I h
  obtain ⟨tl, N, nm, q, bs, hdct, sn, sub, ab, col, dd, k0, k1, k2, k3, k5, mN, hC, hN, hni, TL⟩ := (R.own I.mod.kin).obj
  refine wpAny_Raise_call_subT (C := C) (nm := nm) (q := q) (N := N) (bs := bs) (bm := tl) (hdct := hdct) (sn := sn) (sub := sub) (ab := ab) (col := col) (dd := dd) (k0 := k0) (k1 := k1) (k2 := k2) (k3 := k3) (k5 := k5)
    PySem.F.excBase_ValueError (mN := mN) (TL.hasType PySem.F.excBase_ValueError.hasBase) hr.hd (by rw [he]; show (false || (backTo cpos (starEach rest X.env)).any (·.1)) = false; rw [hpl]; rfl) hni (ld_glob I hg R.at_ ⟨rfl, ?_⟩ hd)
  have h0 := ha cpos pins s σ H _ I h
  rw [he] at h0 ⊢
  exact Calls.evalArgs_plain (wpAny_mono h0 (fun us s₂ ⟨vs, H1, I1, r, z, q⟩ => ⟨rfl, by rw [← r.length]; exact z, I1.bk _ _ hC, hN.keeps I1.bk, TL.keeps I1.bk, fun h' e hm => T pins σ H1 s₂ h' e C us I1 hm q⟩) fun _ _ y => y)

abbrev Cx.suite (X : Cx) (a : Addr) : Cx := { X with A := X.A.mark (some (.ref a)), calm := false }
theorem Cx.Ok.suite {X : Cx} (ok : X.Ok) (a : Addr) : (X.suite a).Ok :=
  ⟨ok.mod, ok.kind, ok.glob, ok.blt, ok.above, ok.inj, ok.has, ok.cab, (fun z => nomatch z), ok.frames, ok.stk, ok.exf, ok.bs, ok.bsz, ok.noex, ok.exfs, ok.funs, ok.frf⟩
section
variable {X : Cx} {pins : List (Addr × Obj)} {σ : St} {H : Hp} {s : Shared} {a : Addr}
theorem Inv.suite (I : Inv X pins σ H s) (a : Addr) : Inv (X.suite a) pins σ H s := ⟨I.ok.suite a, I.os, I.bare, I.base, I.loc, I.cell, I.free, I.freeC, I.pin, I.hok, I.len⟩
theorem Inv.unsuite (ok : X.Ok) (I : Inv (X.suite a) pins σ H s) : Inv X pins σ H s := ⟨ok, I.os, I.bare, I.base, I.loc, I.cell, I.free, I.freeC, I.pin, I.hok, I.len⟩
theorem Inv.blank {h' : Heap} {m' : Str → Option Value} {t' : Nat} (I : Inv X pins σ H s) (hn' : h'.Ns X.env.locals m') (hs : Heap.SameBut X.env.locals s.heap h') : Inv X pins (List.replicate X.N.length none) H { s with heap := h', toks := t' } := by
  obtain ⟨m, hn, _⟩ := I.loc
  obtain ⟨oL, _, _, hoL, _⟩ := id hn
  refine ⟨I.ok, I.os, I.bare, ⟨fun b o e n hb hx => ?_, fun b o e n hb hx => ?_, I.base.free, fun b o e hx => ?_, I.base.tups, I.base.frzs, I.base.tbls⟩, ⟨_, hn', fun j y v' e1 e2 e3 => ?_⟩, fun y c e => ?_, I.free, I.freeC, fun p hp => ?_, fun b ob e => ?_, by simp⟩
  · exact (hs.2 b (Nat.ne_of_lt (Nat.lt_of_lt_of_le (Heap.lt_size e) I.ok.above))).trans (I.base.keep b o e n hb hx)
  · obtain ⟨sl, e1⟩ := I.base.slot b o e n hb hx
    exact ⟨sl, (hs.2 b (Nat.ne_of_lt (Nat.lt_of_lt_of_le (Heap.lt_size e) I.ok.above))).trans e1⟩
  · obtain ⟨o', e1⟩ := I.base.there b o e hx
    exact ⟨o', (hs.2 b (Nat.ne_of_lt (Nat.lt_of_lt_of_le (Heap.lt_size e) I.ok.above))).trans e1⟩
  · rw [List.getElem?_replicate] at e2
    split at e2 <;> cases e2
  · obtain ⟨w', z⟩ := I.cell y c e
    exact ⟨w', z.sameBut hs (I.cne y c e)⟩
  · obtain ⟨e, n, ne, nf, d⟩ := I.pin p hp
    exact ⟨(hs.2 p.1 ne).trans e, n, ne, nf, d⟩
  · refine (I.hok b ob e).stay (fun c w' hc q => (hs.2 c ?_).trans q) (fun _ q => q) fun _ _ q => q
    rintro rfl
    rcases hc with rfl | hc
    · rw [I.free] at e; cases e
    · rw [I.free] at hc; cases hc
end
def excO (a D : Addr) : HO := .ext (ExcAt a D)
theorem excO_ok {P : Program} {w : World} {H : Hp} {h : Heap} {a D : Addr} (x : ExcAt a D h) : ObjOk P w H h a (excO a D) := by
  obtain ⟨o, vs, e, c, d⟩ := x
  exact ⟨⟨o, vs, e, c, d⟩, ⟨o, e⟩, fun h1 h2 ⟨o1, vs1, e1, c1, d1⟩ k => ⟨o1, vs1, k _ e1, c1, d1⟩⟩
theorem Inv.hold {X : Cx} {pins : List (Addr × Obj)} {σ : St} {H : Hp} {s : Shared} {a D : Addr} (I : Inv X pins σ H s) (x : ExcAt a D s.heap) (hn : H a = none) (hs : X.s₀.heap.get? a = none) (hL : a ≠ X.env.locals) (hc : ∀ x c, X.env.cells.lookup x = some c → c ≠ a) (hp : ∀ p ∈ X.pn ++ pins, p.1 ≠ a) :
    Inv X pins σ (upd H a (excO a D)) s := by
  have ne0 : ∀ b o, X.s₀.heap.get? b = some o → b ≠ a := fun b o e z => by rw [z, hs] at e; cases e
  refine ⟨I.ok, I.os, I.bare, ⟨I.base.keep, I.base.slot, fun b o e n hx => ?_, I.base.there, fun b xs e => ?_, fun b o u e => ?_, fun b ps e => ?_⟩, I.loc, I.cell, ?_, fun x c e => ?_, fun p hp' => ?_, fun b u e => ?_, I.len⟩
  · rw [upd_ne (ne0 b o e)]; exact I.base.free b o e n hx
  · rw [upd_ne (ne_of_none (I.base.tups b xs e) hn)]; exact I.base.tups b xs e
  · rw [upd_ne (ne_of_none (I.base.frzs b o u e) hn)]; exact I.base.frzs b o u e
  · obtain ⟨more, z⟩ := I.base.tbls b ps e
    exact ⟨more, by rw [upd_ne (ne_of_none z hn)]; exact z⟩
  · rw [upd_ne (Ne.symm hL)]; exact I.free
  · rw [upd_ne (hc x c e)]; exact I.freeC x c e
  · obtain ⟨e1, e2, e3⟩ := I.pin p hp'
    exact ⟨e1, by rw [upd_ne (hp p hp')]; exact e2, e3⟩
  · by_cases hb : b = a
    · subst hb
      rw [upd_same] at e
      cases e
      exact excO_ok x
    · rw [upd_ne hb] at e
      exact (I.hok b u e).stay (fun _ _ _ q => q) (fun c q => by rw [upd_ne (ne_of_none q hn)]; exact q) fun c xs q => by rw [upd_ne (ne_of_none q hn)]; exact q
structure XCatch (K : PySem.W.Frag) (mg : Str → Option Value) (x : Str) (C : Addr) : Prop where
  at_ : mg x = some (.ref C)
  is : PySem.W.clsIn K C ≠ none
  ty : PySem.W.typeIn K (.ref C) = some (.type "type")
  mb : PySem.W.mroIn K C (.type "BaseException") = some true
def tTry (sp : Sp) (t : TA) (i : Nat) (K : PySem.W.Frag) (C : Addr) (ts : TS) : TS := fun D σ H => t σ H fun vs H1 => sp vs H1 (fun _ H2 => D.nx σ H2) fun c _ H2 =>
  ∃ D', c = .ref D' ∧ PySem.W.subIn K (.ref D') (.ref C) = some true ∧ ∀ a, H2 a = none → ts { nx := fun _ _ => False, rt := D.rt } (σ.set i (some (.ref a))) (upd H2 a (excO a D'))
section
variable {X : Cx} {CX : CXT} {x y n : Str} {j k i : Nat} {ps : List Str} {sp : Sp} {p pos tpos hpos np epos : Pos} {e : Expr} {es : List Expr} {t : TA} {C : Addr} {b₀ : Stmt} {suite : List Stmt} {ts : TS}
theorem ps_try (hcalm : X.calm = true) (hxe : X.xe = fun _ _ => False) (hstk : X.stack = X.env :: X.outer) (hfr : X.env.frame = some X.env.locals)
    (F : Cal X.prog X.w X.K X.mg X.base (CXE X.prog X.w) x j ps sp) (hr : Room k X.A) (hg : Gl X x) (ha : PA X (e :: es) t) (hgy : Gl X y) (c : XCatch X.K X.mg y C) (hN : X.N.Nodup) (hi : X.N[i]? = some n) (hlo : X.env.scope.names.lookup n = some .local) (hex : X.ex = [])
    (hsu : ∀ a, PSs (X.suite a) (b₀ :: suite) ts) (hj : j ≤ k := by decide) (hdb : (x == ("__debug__" : Str)) = false := by decide) (hdy : (y == ("__debug__" : Str)) = false := by decide)
    (he : starEach (e :: es) X.env = (false, eval e X.env) :: starEach es X.env := by rfl) (hpl : (backTo pos (starEach es X.env)).any (·.1) = false := by rfl) (hsw : swapsWith (.Call (.Name x p) (e :: es) [] pos) none epos.line X.env = pure false := by rfl) :
    PS X (.Try [.Expr (.Call (.Name x p) (e :: es) [] pos) epos] [.ExceptHandler (some (.Name y np)) (some n) (b₀ :: suite) hpos] [] [] tpos) (tTry sp t i X.K C ts) := by
  intro pins s σ H D I h
  obtain ⟨f, fd, Fk, hb, kp, m⟩ := F.ex
  have hr' := hr.mono hj
  refine wpAny_Try_except (wpAny_execs_cons (wpAny_Expr_any ?_ I.quiet hsw))
  refine wpAny_Call_Name_kw (ld_glob I hg m ?_ hdb)
  refine PySem.W.callWith_K (h₀ := X.base) I.ok.mod.kin kp (wpAny_mono (ha pos pins s σ H _ I h) (fun us s1 ⟨vs, H1, I1, r, q⟩ => ⟨I1.kIn, ?_⟩) (fun _ _ z => by rw [hxe] at z; exact z.elim)) he hpl
  have hl : us.length = ps.length := by rw [← r.length]; exact Fk.len _ _ _ _ q
  have hb' := hb s1 us I1.kIn (by rw [List.append_nil]; exact hl)
  rw [List.append_nil] at hb'
  refine wpAny_call (codeAny_mono (Fk.run X.A X.stack s1 H1 ⟨us, []⟩ us vs _ _ hr' I1.env0 hb' r q) fun res s' hq => ?_)
  cases res with
  | ok fl =>
    cases fl with
    | ret u =>
      obtain ⟨v, H2, I2, rv, q2⟩ := I1.after hq
      exact wpAny_execs_nil (wpAny_execs_nil ⟨σ, H2, I2, q2⟩)
    | next => exact False.elim hq
    | brk => exact False.elim hq
    | cont => exact False.elim hq
  | error ev =>
    obtain ⟨a, D', H2, B, a0, rfl, Fl, ⟨D2, hD, hsub, q2⟩⟩ := hq
    cases hD
    have hfr2 : X.A.frames = some (X.env :: X.outer) := by rw [← hstk]; exact I.ok.frames
    have Fl1 := Fl
    rw [hstk] at Fl1
    refine wpAny_looks_onW hfr2 hfr Fl1.fly fun h4 held4 up4 => ?_
    refine wpAny_landsW held4 fun h5 fl5 up5 => ?_
    have F5 : Fly X.prog X.w X.stack H1 s1 B H2 a D' a0 { s' with heap := h5 } := by
      rw [hstk]
      exact Fl1.on fl5 (up4.trans up5)
    have I5 := I1.caught F5
    have hsa : s1.heap.get? a = none := Fl.fresh
    have hsa0 : X.s₀.heap.get? a = none := by
      cases q0 : X.s₀.heap.get? a with
      | none => rfl
      | some o0 =>
        obtain ⟨o', e'⟩ := I1.base.there a o0 q0 (by rw [hex]; simp)
        rw [hsa] at e'
        cases e'
    refine wpAny_handleBy_cons (codeAny_handlers_test (ld_glob (X := X.suite a) (I5.suite a) hgy c.at_ ?_ hdy)) (by intro z; cases z)
    refine xcls_matches I5.kIn F5.excAt c.is c.ty c.mb hsub ?_
    refine codeAny_handlers_suite_as ?_
    have fl5' := F5.fly
    refine lands_againW fl5' fun h6 fl6 up6 => ?_
    have F6 : Fly X.prog X.w X.stack H1 s1 B H2 a D' a0 { s' with heap := h6 } := F5.on fl6 up6
    have I6 := I1.caught F6
    have hne : ∀ b o, s1.heap.get? b = some o → b ≠ a := fun b o e z => by rw [z, hsa] at e; cases e
    obtain ⟨m1, ⟨oL, _, _, hoL, _⟩, _⟩ := id I1.loc
    have J6 := I6.hold F6.excAt F6.new hsa0 (hne _ _ hoL).symm (fun x c e => by
      obtain ⟨v, o, ho, _⟩ := I1.cell x c e
      exact hne _ _ ho) (fun p hp => hne _ _ (I1.pin p hp).1)
    refine store_ok J6 hN hi (.inl hlo) (v := .ref a) rfl (fun s7 I7 => ?_) (.inr hlo)
    refine wpAny_mono (hsu a pins s7 _ _ { nx := fun _ _ => False, rt := D.rt } (I7.suite a) (q2 a F6.new)) (fun fl s8 hq8 => ?_) (fun _ _ z => by
      have z' : X.xe _ _ := z
      rw [hxe] at z'
      exact z'.elim)
    cases fl with
    | ret u =>
      obtain ⟨v, σ8, H8, I8, r8, q8⟩ := hq8
      have I9 := I8.unsuite I.ok
      obtain ⟨m8, hn8, _⟩ := id I9.loc
      exact wpAny_nameGoes hlo hn8 (by rw [I.ok.kind]; rfl) fun h9 m9 hn9 hs9 => ⟨v, _, H8, I9.blank hn9 hs9, r8, q8⟩
    | next => obtain ⟨_, _, _, z⟩ := hq8; exact z.elim
    | brk => obtain ⟨_, _, _, z⟩ := hq8; exact z.elim
    | cont => obtain ⟨_, _, _, z⟩ := hq8; exact z.elim
end
end L2

set_option Elab.async false
set_option linter.all false
set_option maxRecDepth 100000
set_option maxHeartbeats 1000000
namespace L2
open PySem PySem.Spec PyProof.Rows
def rIsiX (K : PySem.W.Frag) : List V → Hp → VK → Prop := fun xs H Q => ∃ a D b, H a = some (excO a D) ∧ XCls K D ∧ ((∃ C, xs = [.ref a, .ref C] ∧ PySem.W.kitOne K (.ref D) (.ref C) = some b) ∨ (∃ T, xs = [.ref a, .ty T] ∧ PySem.W.kitOne K (.ref D) (.type T) = some b) ∨
  ∃ (p : Addr) (cs : List Addr), xs = [.ref a, .ref p] ∧ H p = some (.tup (cs.map V.ref)) ∧ PySem.W.kitAny K (.ref D) (cs.map Value.ref) = some b) ∧ Q (.bl b) H
theorem vals_refs : ∀ {cs : List Addr} {us : List Value}, Vals (cs.map V.ref) us → us = cs.map Value.ref
  | [], _, .nil => rfl
  | c :: cs, _, .cons r t => by
    cases r
    rw [List.map_cons, vals_refs t]
section
variable {X : Cx} {K : PySem.W.Frag}
theorem call_isiX (hK : X.K = K) : CallR X (.builtin "isinstance") (rIsiX K) := by
  subst hK
  intro pins s σ H xs us Q I r h
  obtain ⟨a, D, b, ha, c, h, q⟩ := h
  have ok := I.hok a _ ha
  have fin : ∀ tk, EP X pins σ Q (.bool b) { s with toks := tk } := fun tk => ⟨.bl b, H, I.tok tk, rfl, q⟩
  rcases h with ⟨C, rfl, e⟩ | ⟨T, rfl, e⟩ | ⟨p, cs, rfl, hp, e⟩
  · obtain ⟨u, u', rfl, r1, r2⟩ := vals2 r
    cases r1
    cases r2
    exact PySem.W.kia_one (kitx_exc c) I.kIn ok.1 e (fun z => nomatch z) fin
  · obtain ⟨u, u', rfl, r1, r2⟩ := vals2 r
    cases r1
    obtain rfl : u' = Value.type T := r2
    exact PySem.W.kia_one (kitx_exc c) I.kIn ok.1 e (fun z => nomatch z) fin
  · obtain ⟨u, u', rfl, r1, r2⟩ := vals2 r
    cases r1
    cases r2
    obtain ⟨_, its, rv, ⟨⟨cl, dd, dt, sl⟩, ho, hc, n, hd⟩, _⟩ := (show ObjOk X.prog X.w H s.heap p (.tup (cs.map V.ref)) from I.hok p _ hp)
    have hc' : cl = .type "tuple" := hc
    have hd' : dt = .seq its.toArray n := hd
    subst hc' hd'
    rw [vals_refs rv] at ho
    exact PySem.W.kia_tup (kitx_exc c) I.kIn ok.1 ho e (fun z => nomatch z) fin
theorem isiX_one {K : PySem.W.Frag} {H : Hp} {a D C : Addr} {b : Bool} {Q : VK} (ha : H a = some (excO a D)) (c : XCls K D) (e : PySem.W.kitOne K (.ref D) (.ref C) = some b) (q : Q (.bl b) H) : rIsiX K [.ref a, .ref C] H Q := ⟨a, D, b, ha, c, .inl ⟨C, rfl, e⟩, q⟩
end
structure RoomS (k : Nat) (A : Around) : Prop where
  dp : A.depth + 3 * k + 5 < recursionLimit
  un : A.units + 16 * k + 200 < cLine
theorem Room.toS {k : Nat} {A : Around} (r : Room k A) : RoomS k A := ⟨r.dp, r.un⟩
theorem Room.suite {k : Nat} {A : Around} (r : Room k A) (v : Option Value) : RoomS k (A.mark v) := ⟨r.dp, r.un⟩
theorem RoomS.mono {j k : Nat} {A : Around} (r : RoomS k A) (h : j ≤ k) : RoomS j A := ⟨by have := r.dp; omega, by have := r.un; omega⟩
theorem RoomS.deeper {k : Nat} {A : Around} (r : RoomS (k + 1) A) (env : Env) : RoomS k (A.deeper env) :=
  ⟨by have := r.dp; show A.depth + 1 + 3 * k + 5 < _; omega, by have := r.un; show A.units + 3 + 16 * k + 200 < _; omega⟩
structure FnOkS (P : Program) (w : World) (K : PySem.W.Frag) (mg : Str → Option Value) (base : Heap) (CX : CXT) (k : Nat) (f : Addr) (fd : FuncData) (ps : List Str) (sp : Sp) : Prop where
  len : ∀ vs H Q E, sp vs H Q E → vs.length = ps.length
  run : ∀ (A : Around) (outer : List Env) (s : Shared) (H : Hp) (args : Args) (us : List Value) (vs : List V) (Q : VK) (E : XK), RoomS k A → Env0 P w K mg base A outer s H → BindsTo s fd args (ps.zip us) → Vals vs us → sp vs H Q E →
    codeAny (model P w) A (.call (.ref f) args) (CR CX outer P w H s Q E) s
theorem FnOkS.fn {P : Program} {w : World} {K : PySem.W.Frag} {mg : Str → Option Value} {base : Heap} {CX : CXT} {k : Nat} {f : Addr} {fd : FuncData} {ps : List Str} {sp : Sp} (F : FnOkS P w K mg base CX k f fd ps sp) : FnOk P w K mg base CX k f fd ps sp :=
  ⟨F.len, fun A outer s H args us vs Q E hr => F.run A outer s H args us vs Q E hr.toS⟩
structure CalS (P : Program) (w : World) (K : PySem.W.Frag) (mg : Str → Option Value) (base : Heap) (CX : CXT) (x : Str) (k : Nat) (ps : List Str) (sp : Sp) : Prop where
  ex : ∃ f fd, FnOkS P w K mg base CX k f fd ps sp ∧ Binds K fd ps [] ∧ PySem.W.keepIn K (.ref f) = true ∧ mg x = some (.ref f)
abbrev Cx.any (X : Cx) (A : Around) : Cx := { X with A := A, calm := false }
theorem Inv.any {X : Cx} {pins : List (Addr × Obj)} {σ : St} {H : Hp} {s : Shared} (I : Inv X pins σ H s) {A : Around} (hf : A.frames = some X.stack) : Inv (X.any A) pins σ H s :=
  ⟨⟨I.ok.mod, I.ok.kind, I.ok.glob, I.ok.blt, I.ok.above, I.ok.inj, I.ok.has, I.ok.cab, (fun z => nomatch z), hf, I.ok.stk, I.ok.exf, I.ok.bs, I.ok.bsz, I.ok.noex, I.ok.exfs, I.ok.funs, I.ok.frf⟩, I.os, I.bare, I.base, I.loc, I.cell, I.free, I.freeC, I.pin, I.hok, I.len⟩
theorem pe_callN {X : Cx} {x : Str} {j k : Nat} {ps : List Str} {sp : Sp} {p pos : Pos} {e : Expr} {es : List Expr} {t : TA} (C : Cal X.prog X.w X.K X.mg X.base (CXE X.prog X.w) x j ps sp) (hr : Room k X.A) (hg : Gl X x) (ha : PA X (e :: es) t) (hj : j ≤ k := by decide) (hdb : (x == ("__debug__" : Str)) = false := by decide)
    (he : starEach (e :: es) X.env = (false, eval e X.env) :: starEach es X.env := by rfl) (hpl : (backTo pos (starEach es X.env)).any (·.1) = false := by rfl) :
    PE X (.Call (.Name x p) (e :: es) [] pos) (tCall sp [] E0 t) := pe_callX C hr hg passE0 ha hj hdb he hpl
end L2

set_option Elab.async false
set_option linter.all false
set_option maxRecDepth 100000
namespace L2
open PySem PySem.Spec PyProof.Rows
def noStar : Expr → Bool
  | .Starred _ _ => false
  | _ => true
theorem star1 {e : Expr} {es : List Expr} {env : Env} (h : noStar e = true) : starEach (e :: es) env = (false, eval e env) :: starEach es env := by
  cases e <;> first | rfl | cases h
theorem star1' {e : Expr} {env : Env} (h : noStar e = true) : starEach [e] env = [(false, eval e env)] := by rw [star1 h]; rfl
theorem nost0 {env : Env} {pos : Pos} : (backTo pos (starEach [] env)).any (·.1) = false := rfl
theorem nost1 {e : Expr} {es : List Expr} {env : Env} {pos : Pos} (h : noStar e = true) (r : (backTo pos (starEach es env)).any (·.1) = false) : (backTo pos (starEach (e :: es) env)).any (·.1) = false := by
  rw [star1 h]
  show (false || (backTo pos (starEach es env)).any (·.1)) = false
  rw [r]
  rfl
def plainT : Expr → Bool
  | .UnaryOp _ _ _ => false
  | .BoolOp _ _ _ => false
  | .IfExp _ _ _ _ => false
  | .Compare _ _ _ _ => false
  | _ => true
theorem test1 {e : Expr} {env : Env} (h : plainT e = true) : ∀ whole, isTrue e env whole = (do let v ← whole; standAt e.pos; holding [v] (truthy v)) := by
  intro whole
  cases e <;> first | rfl | cases h
def noComp : Expr → Bool
  | .ListComp _ _ _ _ => false
  | .SetComp _ _ _ _ => false
  | .DictComp _ _ _ _ _ => false
  | _ => true
theorem swap1 {e : Expr} {tg : Option Expr} {n : Nat} {env : Env} (h : noComp e = true) : swapsWith e tg n env = pure false := by
  cases e <;> first | rfl | cases h
end L2

set_option Elab.async false
set_option linter.all false
set_option maxRecDepth 100000
set_option maxHeartbeats 1000000
namespace L2
open PySem PySem.Spec PyProof.Rows
end L2

set_option Elab.async false
set_option linter.all false
set_option maxRecDepth 100000
set_option maxHeartbeats 1000000
namespace L2
open PySem PySem.Spec PyProof.Rows
theorem ints_are : ∀ {ns : List Int} {its : List Value}, Vals (ns.map V.int) its → IntsAre its ns
  | [], _, .nil => .nil
  | n :: ns, _, .cons ⟨t, e⟩ r => by subst e; exact .cons n t (ints_are r)
section
variable {X : Cx}
theorem call_all1 (hc : X.calm = true) : CallR X (.builtin "all") (fun xs H Q => ∃ (p : Addr) (bs : List Bool), xs = [.ref p] ∧ SqL X.K H p (bs.map V.bl) ∧ Q (.bl (bs.all id)) H) := by
  intro pins s σ H xs us Q I r h
  obtain ⟨p, bs, rfl, hq, q⟩ := h
  obtain ⟨u, rfl, rx⟩ := vals1 r
  cases rx
  obtain ⟨its, r', pl, hz⟩ := I.list hq
  have hl := pl.isList
  have hlt : p < s.heap.objs.size := by obtain ⟨_, e, _⟩ := hl; exact Heap.lt_size e
  have len := r'.length
  rw [List.length_map] at len
  refine call_all_walk (wpAny_pyIter_list hl ⟨_, _, _, _, _, _, fun i => bs.getD i true, rfl, Walks.list (A := X.A.in1) (I.ok.hd hc) s.heap.objs.size p (Nat.ne_of_lt hlt) its.toArray, ⟨⟨_, Heap.get?_push_size _ rfl, rfl, rfl⟩, hl.push _⟩, ?_, ?_⟩)
  · intro i v s' Q' E' hP hQ
    have hP' : its[i]? = some v := by simpa using hP
    have li : i < bs.length := by
      have := (List.getElem?_eq_some_iff.mp hP').1
      omega
    obtain ⟨u, e1, e2⟩ := r'.get (i := i) (x := .bl (bs.getD i true)) (by simp [List.getD, li])
    rw [hP'] at e1
    cases e1
    obtain rfl : v = Value.bool (bs.getD i true) := e2
    exact wpAny_truthy_bool hQ
  · intro h' tk hk
    have : (List.range its.toArray.size).all (fun i => bs.getD i true) = bs.all id := by
      rw [List.size_toArray, ← len]
      clear len hq q r' hz
      induction bs with
      | nil => rfl
      | cons b bs ih =>
        rw [List.length_cons, List.range_succ_eq_map, List.all_cons, List.all_map, List.all_cons]
        exact congrArg _ ih
    rw [this]
    exact ⟨.bl _, H, I.kept (old_kept hk), rfl, q⟩
end
end L2

set_option Elab.async false
set_option linter.all false
set_option maxRecDepth 100000
set_option maxHeartbeats 1000000
namespace L2
open PySem PySem.Spec PyProof.Rows
structure Apart (z TI TO i1 i2 : Addr) (f1 f2 : List Addr) : Prop where
  zTI : z ≠ TI
  zTO : z ≠ TO
  TITO : TI ≠ TO
  TI1 : TI ≠ i1
  TI2 : TI ≠ i2
  m1 : i1 ∈ f1
  m2 : i2 ∈ f2
  z1 : z ∉ f1
  z2 : z ∉ f2
  t1 : TO ∉ f1
  t2 : TO ∉ f2
  i12 : i1 ∉ f2
  i21 : i2 ∉ f1
section
variable {prog : Program} {w : World} {A : Around} {E : Value → Shared → Prop} {s : Shared} {z TI TO i1 i2 : Addr} {f1 f2 : List Addr} {n1 n2 k : Nat} {P1 P2 : Nat → Value → Prop} {S1 S2 : Nat → Heap → Prop}
end
end L2

set_option Elab.async false
set_option linter.all false
set_option maxRecDepth 100000
set_option maxHeartbeats 1000000
namespace L2
open PySem PySem.Spec PyProof.Rows
end L2

set_option Elab.async false
set_option linter.all false
set_option maxRecDepth 100000
set_option maxHeartbeats 1000000
namespace L2
open PySem PySem.Spec PyProof.Rows
section
variable {X : Cx}
section
variable {K : PySem.W.Frag} {D : Ends} {g : TG} {tb : TS} {σ : St} {H : Hp} {a : Addr}
end
section
variable {K : PySem.W.Frag} {D a : Addr} {g : TG} {tt : TT} {te : TE} {Q : VK} {τ : St} {H : Hp}
end
end
end L2

set_option Elab.async false
set_option linter.all false
set_option maxRecDepth 100000
set_option maxHeartbeats 1000000
namespace L2
open PySem PySem.Spec PyProof.Rows
section
variable {X : Cx} {tg : Expr}
end
section
variable {g : TG} {tb : TS} {D : Ends} {σ : St} {H : Hp}
end
section
variable {D : Addr} {g : TG} {tt : TT} {te : TE} {Q : VK} {τ : St} {H : Hp}
end
section
variable {X : Cx}
end
end L2

set_option Elab.async false
set_option linter.all false
set_option maxRecDepth 100000
set_option maxHeartbeats 1000000
namespace L2
open PySem PySem.Spec PyProof.Rows
deriving instance DecidableEq for Kn
section
variable {X : Cx}
theorem call_tupleL : CallR X (.type "tuple") (fun xs H Q => ∃ p ys, xs = [.ref p] ∧ SqL X.K H p ys ∧ ∀ l, H l = none → Q (.ref l) (upd H l (.tup ys))) := by
  intro pins s σ H xs us Q I r h
  obtain ⟨p, ys, rfl, hq, q⟩ := h
  exact call_tuple_of pins s σ H _ us Q I r ⟨p, ys, rfl, .inl ⟨hq, q⟩⟩
theorem call_listL : CallR X (.type "list") (fun xs H Q => ∃ p ys, xs = [.ref p] ∧ SqL X.K H p ys ∧ ∀ l, H l = none → Q (.ref l) (upd H l (.lst ys))) := by
  intro pins s σ H xs us Q I r h
  obtain ⟨p, ys, rfl, hq, q⟩ := h
  exact call_list_of pins s σ H _ us Q I r ⟨p, ys, rfl, .inl hq, q⟩
end
end L2

set_option Elab.async false
set_option linter.all false
set_option maxRecDepth 100000
set_option maxHeartbeats 1000000
namespace PySem
open Sem (wp)
namespace SetL
section
variable {prog : Program} {w : World} {A : Around} {R : Result → Shared → Prop} {I : Addr} {fp wr : List Addr} {n : Nat} {P : Nat → Value → Prop} {St : Nat → Heap → Prop}
end
section
variable {prog : Program} {w : World} {A : Around} {E : Value → Shared → Prop} {s : Shared}
end
end SetL
end PySem
namespace L2
open PySem PySem.Spec PyProof.Rows
section
variable {X : Cx}
end
end L2

set_option Elab.async false
set_option linter.all false
set_option maxRecDepth 100000
set_option maxHeartbeats 1000000
namespace L2
open PySem PySem.Spec PyProof.Rows
mutual
inductive Rep (K : PySem.W.Frag) (H : Hp) : V → PyData → Prop
  | non : Rep K H .non .none
  | bl (b : Bool) : Rep K H (.bl b) (.bool b)
  | int (i : Int) : Rep K H (.int i) (.int i)
  | str (z : Str) : Rep K H (.str z) (.str z)
  | lst {a : Addr} {xs : List V} {ds : List PyData} : SqL K H a xs → RepAll K H xs ds → Rep K H (.ref a) (.list ds)
  | tup {a : Addr} {xs : List V} {ds : List PyData} : SqT K H a xs → RepAll K H xs ds → Rep K H (.ref a) (.tuple ds)
inductive RepAll (K : PySem.W.Frag) (H : Hp) : List V → List PyData → Prop
  | nil : RepAll K H [] []
  | cons {x : V} {d : PyData} {xs : List V} {ds : List PyData} : Rep K H x d → RepAll K H xs ds → RepAll K H (x :: xs) (d :: ds)
end
theorem sqT_same {K : PySem.W.Frag} {H H' : Hp} {a : Addr} {xs : List V} (e : Same H H') (h : SqT K H a xs) : SqT K H' a xs := by
  rcases h with (h | ⟨o, h⟩) | h
  · exact .inl (.inl (e _ _ h))
  · exact .inl (.inr ⟨o, e _ _ h⟩)
  · exact .inr h
mutual
theorem Rep.same {K : PySem.W.Frag} {H H' : Hp} (e : Same H H') : ∀ {v : V} {d : PyData}, Rep K H v d → Rep K H' v d
  | _, _, .non => .non
  | _, _, .bl b => .bl b
  | _, _, .int i => .int i
  | _, _, .str z => .str z
  | _, _, .lst h r => .lst (e.seq h) (RepAll.same e r)
  | _, _, .tup h r => .tup (sqT_same e h) (RepAll.same e r)
theorem RepAll.same {K : PySem.W.Frag} {H H' : Hp} (e : Same H H') : ∀ {xs : List V} {ds : List PyData}, RepAll K H xs ds → RepAll K H' xs ds
  | _, _, .nil => .nil
  | _, _, .cons h r => .cons (Rep.same e h) (RepAll.same e r)
end
section
variable {X : Cx} {pins : List (Addr × Obj)} {σ : St} {H : Hp} {s : Shared}
mutual
theorem Rep.reads (I : Inv X pins σ H s) : ∀ {v : V} {d : PyData} {u : Value}, Rep X.K H v d → RelV v u → ∃ as, Reads s.heap u d as
  | _, _, u, .non, r => by
    obtain rfl : u = Value.none := r
    exact ⟨[], .none⟩
  | _, _, u, .bl b, r => by
    obtain rfl : u = Value.bool b := r
    exact ⟨[], .bool b⟩
  | _, _, u, .int i, r => by
    obtain ⟨t, rfl⟩ := r
    exact ⟨[], .int i t⟩
  | _, _, u, .str z, r => by
    obtain ⟨t, rfl⟩ := r
    exact ⟨[], .str z t⟩
  | _, _, u, .lst (a := a) h ra, r => by
    obtain rfl : u = Value.ref a := r
    obtain ⟨its, rv, ⟨o, n, e, c, _, dt⟩, _⟩ := I.list h
    obtain ⟨as, ra'⟩ := RepAll.reads I ra rv
    exact ⟨a :: as, .list e c dt (by simpa using ra')⟩
  | _, _, u, .tup (a := a) h ra, r => by
    obtain rfl : u = Value.ref a := r
    obtain ⟨its, rv, ⟨o, e, c, n, dt⟩, _⟩ := I.tuple h
    obtain ⟨as, ra'⟩ := RepAll.reads I ra rv
    exact ⟨as, .tuple e c dt (by simpa using ra')⟩
theorem RepAll.reads (I : Inv X pins σ H s) : ∀ {xs : List V} {ds : List PyData} {us : List Value}, RepAll X.K H xs ds → Vals xs us → ∃ as, ReadsAll s.heap us ds as
  | _, _, _, .nil, .nil => ⟨[], .nil⟩
  | _, _, _, .cons h r, .cons rv rs => by
    obtain ⟨as, h1⟩ := Rep.reads I h rv
    obtain ⟨bs, h2⟩ := RepAll.reads I r rs
    exact ⟨as ++ bs, .cons h1 h2⟩
end
end
def flatD (d : PyData) : Prop := d.canLay0 = true ∧ d.depth ≤ 40
theorem hu60 {A : Around} {k : Nat} (hr : Room k A) : A.units + 60 < cLine := Nat.lt_of_le_of_lt (Nat.add_le_add_left (by decide : 60 ≤ 64) _) hr.units
section
variable {X : Cx}
def rEqD (K : PySem.W.Frag) (neg : Bool) : R2 := fun x y H Q => ∃ d e, Rep K H x d ∧ Rep K H y e ∧ flatD d ∧ flatD e ∧ Q (.bl (if neg then !PyData.eqv d e else PyData.eqv d e)) H
theorem op_neD (hu : X.A.units + 60 < cLine) : OpR X (compareOp .NotEq) (rEqD X.K true) := by
  intro pins s σ H x y v u Q I rx ry h
  obtain ⟨d, e, hd, he, fd, fe, q⟩ := h
  obtain ⟨as, r1⟩ := hd.reads I rx
  obtain ⟨bs, r2⟩ := he.reads I ry
  exact SeqAt.compareNe_reads r1 r2 fd.1 fe.1 (by have := fd.2; have := fe.2; omega) ⟨.bl _, H, I, rfl, q⟩
def rInD (K : PySem.W.Frag) (neg : Bool) : R2 := fun x y H Q => ∃ (p : Addr) (d : PyData) (ds : List PyData), y = .ref p ∧ Rep K H x d ∧ (Rep K H (.ref p) (.list ds) ∨ Rep K H (.ref p) (.tuple ds)) ∧ flatD d ∧ flatD (.list ds) ∧ Q (.bl (if neg then !(ds.any fun y => PyData.eqv y d) else ds.any fun y => PyData.eqv y d)) H
theorem op_inD (hu : X.A.units + 60 < cLine) : OpR X (compareOp .In) (rInD X.K false) := by
  intro pins s σ H x y v u Q I rx ry h
  obtain ⟨p, d, ds, rfl, hd, he, fd, fe, q⟩ := h
  obtain ⟨as, r1⟩ := hd.reads I rx
  have dp : PyData.depthAll ds + 1 ≤ 40 := fe.2
  have fe1 : PyData.canLayAll0 ds = true := fe.1
  rcases he with he | he
  · obtain ⟨bs, r2⟩ := he.reads I ry
    exact SeqAt.in_list_reads r2 r1 fe1 fd.1 (by have := fd.2; omega) ⟨.bl _, H, I, rfl, q⟩
  · obtain ⟨bs, r2⟩ := he.reads I ry
    exact SeqAt.in_tuple_reads r2 r1 fe1 fd.1 (by have := fd.2; omega) ⟨.bl _, H, I, rfl, q⟩
end
end L2

set_option Elab.async false
set_option linter.all false
set_option maxRecDepth 100000
set_option maxHeartbeats 1000000
namespace HT
open PySem PyProof.Rows
section
open PySem.SeqAt
open PySem.AutoSeq1 (wpAny_loadPart')
open PySem.MeetsSeq PySem.MeetsSeq2 PySem.MeetsSeq3

end
end HT

set_option Elab.async false
set_option linter.all false
set_option maxRecDepth 100000
set_option maxHeartbeats 1000000
namespace HT
open PySem PyProof.Rows PySem.SeqAt
theorem eqvAll_ints : ∀ ns ms : List Int, PyData.eqvAll (ns.map PyData.int) (ms.map PyData.int) = decide (ns = ms)
  | [], [] => rfl
  | [], _ :: _ => rfl
  | _ :: _, [] => rfl
  | n :: ns, m :: ms => by
    show (n == m && PyData.eqvAll (ns.map PyData.int) (ms.map PyData.int)) = _
    rw [eqvAll_ints ns ms]
    by_cases h : n = m
    · subst h
      by_cases h2 : ns = ms <;> simp [h2]
    · simp [h]
section
variable {l b : Addr}
theorem vals_ints {ns : List Int} {its : List Value} (r : L2.Vals (ns.map L2.V.int) its) : IntsAre its ns := L2.ints_are r
end
end HT
namespace L2
open PySem PySem.Spec PyProof.Rows
end L2

set_option Elab.async false
set_option linter.all false
set_option maxRecDepth 100000
set_option maxHeartbeats 1000000
namespace L2
open PySem PySem.Spec PyProof.Rows
section
variable {K : PySem.W.Frag} {a : Addr} {g : TG} {tt : TT} {te : TE} {Q : VK} {H : Hp}
end
end L2

set_option Elab.async false
set_option linter.all false
set_option maxRecDepth 100000
set_option maxHeartbeats 1000000
namespace L2
open PySem PySem.Spec PyProof.Rows
section
variable {prog : Program} {w : World} {A : Around} {E : Value → Shared → Prop} {s : Shared} {z TI TO i1 i2 : Addr}
end
end L2

set_option Elab.async false
set_option linter.all false
set_option maxRecDepth 100000
set_option maxHeartbeats 1000000
namespace L2
open PySem PySem.Spec PyProof.Rows
section
variable {X : Cx}
theorem Vals.takeN : ∀ {xs : List V} {us : List Value} (k : Nat), Vals xs us → Vals (xs.take k) (us.take k)
  | _, _, 0, _ => by rw [List.take_zero, List.take_zero]; exact .nil
  | _, _, _ + 1, .nil => .nil
  | _, _, k + 1, .cons r t => .cons r (Vals.takeN k t)
theorem Vals.dropN : ∀ {xs : List V} {us : List Value} (k : Nat), Vals xs us → Vals (xs.drop k) (us.drop k)
  | _, _, 0, h => h
  | _, _, _ + 1, .nil => .nil
  | _, _, k + 1, .cons _ t => Vals.dropN k t
def rInsert : V → List V → Hp → VK → Prop := fun x vs H Q => ∃ (l : Addr) (xs : List V) (k : Nat) (y : V), x = .ref l ∧ vs = [.int k, y] ∧ H l = some (.lst xs) ∧ k ≤ xs.length ∧ xs.length < sizeLine ∧ Q .non (upd H l (.lst (xs.take k ++ y :: xs.drop k)))
theorem mt_insert : MtM X "list.insert" rInsert := by
  intro pins s σ H x vs v us Q I rx rv h
  obtain ⟨l, xs, k, y, rfl, rfl, hH, hk, hz1, q⟩ := h
  cases rx
  have sl : (k : Int) < 2 ^ 63 := by
    have := line63
    omega
  have hf : ¬(!Builtin.List.listFitsIndex (k : Int)) = true := by rw [fitsIndex_both (by omega) sl]; exact Bool.false_ne_true
  have h0 : ¬ (k : Int) < 0 := by omega
  have hn : (k : Int).toNat = k := Int.toNat_natCast k
  generalize (k : Int) = ki at rv hf h0 hn
  cases rv with
  | @cons _ u1 _ _ r1 rv =>
    cases rv with
    | @cons _ u2 _ _ r2 rv =>
      cases rv
      obtain ⟨t, rfl⟩ := r1
      obtain ⟨z, its, n, r, hl, e⟩ := I.lstM hH
      have hs1 : its.toArray.size ≤ sizeLine := by rw [List.size_toArray]; omega
      have M := AutoSeq1.list_insert_list_int_val_1 l its.toArray n ki t u2 hf hs1
      refine call_meets F.slot_list_insert ⟨_, e, rfl⟩ F.entry_list_insert (F.args_list_insert_3 _ _ _) M ⟨e, ?_⟩
      refine ⟨.non, _, I.lset (its' := its.take k ++ u2 :: its.drop k) hH e ?_ (Vals.append (Vals.takeN k r) (.cons r2 (Vals.dropN k r))) ?_, rfl, q⟩
      · show (Array.extract its.toArray 0 (if ki < 0 then (ki + (its.toArray.size : Int)).toNat else min ki.toNat its.toArray.size)).push u2 ++ Array.extract its.toArray (if ki < 0 then (ki + (its.toArray.size : Int)).toNat else min ki.toNat its.toArray.size) = _
        rw [if_neg h0, hn, List.size_toArray, Nat.min_eq_left (by omega)]
        apply Array.toList_inj.mp
        simp
        exact List.take_of_length_le (by rw [List.length_drop]; exact Nat.le_refl _)
      · simp only [List.length_append, List.length_cons, List.length_take, List.length_drop]
        omega
end
section
variable {K : PySem.W.Frag} {a b : Addr} {g : TG} {tt : TT} {te : TE} {Q : VK} {H : Hp}
end
end L2

set_option Elab.async false
set_option linter.all false
set_option maxRecDepth 100000
set_option maxHeartbeats 1000000
namespace L2
open PySem PySem.Spec PyProof.Rows
section
variable {X : Cx}
end
section
variable {X : Cx} {CX : CXT} {x y : Str} {j k : Nat} {ps : List Str} {sp : Sp} {p pos tpos hpos np epos : Pos} {e : Expr} {es : List Expr} {t : TA} {C : Addr} {b₀ : Stmt} {suite : List Stmt} {ts : TS}
end
def rCountD (K : PySem.W.Frag) : V → List V → Hp → VK → Prop := fun x vs H Q => ∃ (l : Addr) (y : V) (d : PyData) (ds : List PyData), x = .ref l ∧ vs = [y] ∧ Rep K H y d ∧ Rep K H (.ref l) (.list ds) ∧ flatD d ∧ flatD (.list ds) ∧ Q (.int (ds.countP fun z => PyData.eqv z d)) H
theorem mt_countD {X : Cx} {K : PySem.W.Frag} (hK : X.K = K) (hu : X.A.units + 60 < cLine) : MtR X "list.count" (rCountD K) := by
  subst hK
  intro pins s σ H x vs v us Q I rx rv h
  obtain ⟨l, y, d, ds, rfl, rfl, hd, he, fd, fe, q⟩ := h
  cases rx
  cases rv with
  | @cons _ u1 _ _ r1 rv =>
    cases rv
    obtain ⟨as, R1⟩ := hd.reads I r1
    obtain ⟨bs, R2⟩ := he.reads I (show RelV (.ref l) (.ref l) from rfl)
    have dp : PyData.depthAll ds + 1 ≤ 40 := fe.2
    have fe1 : PyData.canLayAll0 ds = true := fe.1
    cases R2 with
    | @list _ o its n _ as' e1 e2 e3 e4 =>
      have M := SeqAt.list_countAt l its n o.dict o.slots u1 (fun z => PyData.eqv (SeqAt.readOf s.heap z) d)
      have eo : s.heap.get? l = some { cls := .type "list", dict := o.dict, data := .seq its n, slots := o.slots } := by
        rw [e1, ← e2, ← e3]
      refine call_meets F.slot_list_count ⟨_, e1, e2⟩ F.entry_list_count (F.args_list_count_2 _ _) M ⟨eo, fun z hz => ?_, ?_⟩
      · obtain ⟨d', as2, R3, c3, dp3⟩ := SeqAt.readsAll_mem ds its.toList as' fe1 e4 z (by simpa using hz)
        have er : SeqAt.readOf s.heap z = d' := by
          have := SeqAt.readsAll_map [d'] [z] _ (by show (PyData.canLay0 d' && true) = true; rw [c3]; rfl) (.cons R3 .nil)
          simpa using this
        rw [er]
        refine SeqAt.eqAt_reads d' d _ s z u1 as2 as R3 R1 c3 fd.1 ?_
        have := fd.2
        show X.A.units + 1 + min d'.depth d.depth < cLine
        omega
      · refine ⟨.int _, H, I.tok _, ⟨_, rfl⟩, ?_⟩
        have ec : its.toList.countP (fun z => PyData.eqv (SeqAt.readOf s.heap z) d) = ds.countP fun z => PyData.eqv z d := by
          rw [← SeqAt.readsAll_map ds its.toList as' fe1 e4, List.countP_map]
          rfl
        rw [ec]
        exact q
theorem pe_bmK {X : Cx} {K : PySem.W.Frag} {T : String} {o e : Expr} {es : List Expr} {to : TE} {t : TA} {name : Str} {apos cpos : Pos} {id : String} {r : V → List V → Hp → VK → Prop} (hK : X.K = K) (pa : PlainAttrs T) (slot : Slot T name id) (hty : typeOf (.builtin id) = pure (.type "method_descriptor")) (hm : MtR X id r) (ho : PE X o to) (ha : PA X (e :: es) t)
    (hbase : attributeBase o name X.env (eval o X.env) = eval o X.env := by rfl)
    (hfew : ((backTo cpos (starEach (e :: es) X.env)).all (fun x => !x.1) && (backToKw cpos (keywordEach [] X.env)).all (fun x => x.1.isSome)
      && decide ((e :: es).length + ([] : List Keyword).length + (if ([] : List Keyword).isEmpty then 0 else 1) < 30)) = true := by rfl)
    (hline : (apos.endLine == cpos.line) = true := by rfl) (hs : starEach (e :: es) X.env = (false, eval e X.env) :: starEach es X.env := by rfl) (hplain : (backTo cpos (starEach es X.env)).any (·.1) = false := by rfl) :
    PE X (.Call (.Attribute o name apos) (e :: es) [] cpos) (tBM K T r to t) := by
  subst hK
  exact pe_bm pa slot hty hm ho ha hbase hfew hline hs hplain
end L2

set_option Elab.async false
set_option linter.all false
set_option maxRecDepth 100000
set_option maxHeartbeats 1000000
namespace L2
open PySem PySem.Spec PyProof.Rows
structure Mk0 (K : PySem.W.Frag) (C : Addr) : Prop where
  makes : PySem.W.makesIn K C = true
  init : PySem.W.findIn K (.ref C) "__init__" = some (some (.builtin "object.__init__"))
  kp : PySem.W.keepIn K (.ref C) = true
def tMake0 (C : Addr) : TE := fun _ H Q => ∀ x dx, H x = none → H dx = none → dx ≠ x → Q (.ref x) (upd (upd H dx (.own x)) x (.ins C dx []))
section
variable {X : Cx} {C : Addr} {x : Str} {p pos apos : Pos}
theorem run_make0 {pins : List (Addr × Obj)} {σ : St} {H : Hp} {s : Shared} {Q : VK} (M : Mk0 X.K C) (I : Inv X pins σ H s)
    (h : ∀ x dx, H x = none → H dx = none → dx ≠ x → Q (.ref x) (upd (upd H dx (.own x)) x (.ins C dx []))) :
    wpAny (model X.prog X.w) X.A (call (.ref C) []) (EP X pins σ Q) X.xe s := by
  have hq := h (s.heap.objs.size + 1) s.heap.objs.size (I.hok.fresh (Nat.le_succ _)) (I.hok.fresh (Nat.le_refl _)) (Nat.ne_of_lt (Nat.lt_succ_self _))
  have I2 := Inv.made (C := C) I
  have Y := PySem.W.makes_of (M := model X.prog X.w) I.kIn M.makes
  have hx : ((s.heap.push PySem.W.emptyDict).push (PySem.W.instObj C s.heap.objs.size)).get? (s.heap.objs.size + 1) = some (PySem.W.instObj C s.heap.objs.size) := by
    have := Heap.get?_push_size (s.heap.push PySem.W.emptyDict) (o := PySem.W.instObj C s.heap.objs.size) rfl
    rwa [Heap.size_push] at this
  refine wpAny_call (make_map0 I.kIn M.makes M.init (fun self => PySem.W.Looks.of_pure (PySem.W.oi_bind self)) ?_)
  refine codeAny_call_builtin PySem.W.oi_plain PySem.W.entry_oi (PySem.W.check_slot PySem.W.oi_kind PySem.W.oi_split (PySem.W.Looks.andThen (PySem.W.Looks.andThen (PySem.W.Looks.ld hx) PySem.W.Looks.now) (PySem.W.Looks.keeps Y.top fun b o e => Heap.get?_push_of_some (PySem.W.instObj C s.heap.objs.size) (Heap.get?_push_of_some PySem.W.emptyDict e))) (PySem.W.oi_args (Value.ref (s.heap.objs.size + 1))) ?_)
  rw [PySem.W.oi_run]
  exact wpAny_pure ⟨rfl, ⟨V.ref (s.heap.objs.size + 1), _, I2, rfl, hq⟩⟩
theorem pe_makeN (M : Mk0 X.K C) (hg : Gl X x) (hm : X.mg x = some (.ref C)) (hdb : (x == ("__debug__" : Str)) = false := by decide) : PE X (.Call (.Name x p) [] [] pos) (tMake0 C) := by
  intro pins s σ H Q I h
  refine wpAny_Call_Name_kw (ld_glob I hg hm ?_ hdb)
  exact PySem.W.callWith_K0 I.kIn M.kp (run_make0 M I h)
end
structure MkC (P : Program) (w : World) (K : PySem.W.Frag) (mg : Str → Option Value) (base : Heap) (x : Str) (C : Addr) (k : Nat) (ps : List Str) (sp : Sp) : Prop where
  ex : ∃ f fd, Mk K C f ∧ FnOk P w K mg base CX0 k f fd ps sp ∧ Binds K fd ps []
  at_ : mg x = some (.ref C)
section
variable {X : Cx} {C : Addr} {x : Str} {j k : Nat} {ps : List Str} {sp : Sp} {p pos apos : Pos} {e o : Expr} {es : List Expr} {t : TA} {ta : TE} {m : Str}
theorem pe_makeC (M : MkC X.prog X.w X.K X.mg X.base x C j ps sp) (hr : Room k X.A) (hg : Gl X x) (ha : PA X (e :: es) t) (hj : j + 1 ≤ k := by decide) (hdb : (x == ("__debug__" : Str)) = false := by decide)
    (he : starEach (e :: es) X.env = (false, eval e X.env) :: starEach es X.env := by rfl) (hpl : (backTo pos (starEach es X.env)).any (·.1) = false := by rfl) :
    PE X (.Call (.Name x p) (e :: es) [] pos) (tMake C sp [] E0 t) := by
  obtain ⟨f, fd, Mk, F, b⟩ := M.ex
  exact pe_make Mk F (hr.mono hj) hg M.at_ b .nil pass0 ha hdb he hpl
structure Disp (P : Program) (w : World) (K : PySem.W.Frag) (mg : Str → Option Value) (base : Heap) (m : Str) (k : Nat) (ps : List Str) (C : Addr) (sp : Sp) : Prop where
  cls : Cls K C
  ex : ∃ f fd, Meth K C m f ∧ FnOk P w K mg base CX0 k f fd ps sp ∧ Binds K fd ps []
end
structure ICls (K : PySem.W.Frag) (C : Addr) : Prop where
  cl : Cls K C
  ha : PySem.W.findIn K (.ref C) "__class__" = some (some (.builtin "object.__class__"))
  hn : PySem.W.specialIn K (.builtin "object.__class__") "__get__" = some (some (.builtin "getset_descriptor.__get__"))
  htk : PySem.W.takesIn K (.builtin "object.__class__") = some true
  hm : PySem.W.mroIn K C (.type "object") = some true
def tChain3 (r r' r'' : R2) (ta tb tc td : TE) : TE := fun σ H Q => ta σ H fun x H1 => tb σ H1 fun y H2 => r x y H2 fun z H3 => ∃ k, z = .bl k ∧
  (if k = true then tc σ H3 fun w' H4 => r' y w' H4 fun z' H5 => ∃ k', z' = .bl k' ∧ (if k' = true then td σ H5 fun v' H6 => r'' w' v' H6 Q else Q (.bl false) H5) else Q (.bl false) H3)
section
variable {X : Cx} {a b c d : Expr} {ta tb tc td : TE} {pos : Pos}
theorem pe_chain3 {op op' op'' : CmpOp} {r r' r'' : R2} (ho : OpR X (compareOp op) r) (ho' : OpR X (compareOp op') r') (ho'' : OpR X (compareOp op'') r'') (ha : PE X a ta) (hb : PE X b tb) (hc : PE X c tc) (hd : PE X d td)
    (hm : lastMarks [op, op', op''] [b, c, d] = false := by with_unfolding_all rfl) : PE X (.Compare a [op, op', op''] [b, c, d] pos) (tChain3 r r' r'' ta tb tc td) := by
  intro pins s σ H Q I h
  refine Compare_chain (thn (ha pins s σ H _ I h) fun v s1 ⟨x, H1, I1, r1, q1⟩ => chain_link (thn (hb pins s1 σ H1 _ I1 q1) fun u s2 ⟨y, H2, I2, r2, q2⟩ =>
    thn (ho pins s2 σ H2 x y v u _ I2 r1 r2 q2) fun dd s3 ⟨z, H3, I3, r3, k, e, q3⟩ => ?_)) hm
  subst e
  cases r3
  refine wpAny_truthy_bool ?_
  cases k with
  | false => exact ite_ff ⟨.bl false, H3, I3, rfl, q3⟩
  | true =>
    refine ite_tt (chain_link (thn (hc pins s3 σ H3 _ I3 q3) fun w' s4 ⟨z', H4, I4, r4, q4⟩ => thn (ho' pins s4 σ H4 y z' u w' _ I4 r2 r4 q4) fun d2 s5 ⟨z2, H5, I5, r5, k2, e2, q5⟩ => ?_))
    subst e2
    cases r5
    refine wpAny_truthy_bool ?_
    cases k2 with
    | false => exact ite_ff ⟨.bl false, H5, I5, rfl, q5⟩
    | true => exact ite_tt (chain_last (thn (hd pins s5 σ H5 _ I5 q5) fun w6 s6 ⟨z6, H6, I6, r6, q6⟩ => ho'' pins s6 σ H6 z' z6 w' w6 Q I6 r4 r6 q6))
end
def rCatTQ (K : PySem.W.Frag) : R2 := fun x y H Q => ∃ a b xs ys, x = .ref a ∧ y = .ref b ∧ SqT K H a xs ∧ SqT K H b ys ∧ xs.length + ys.length ≤ sizeLine ∧ ∀ p H', Same H H' → SqT K H' p (xs ++ ys) → Q (.ref p) H'
theorem op_catTQ {X : Cx} : OpR X (binaryOp .Add) (rCatTQ X.K) := by
  intro pins s σ H x y v u Q I rx ry h
  obtain ⟨a, b, xs, ys, rfl, rfl, ha, hb, hz, q⟩ := h
  have sn : ∀ p, H p = none → Same H (upd H p (.tup (xs ++ ys))) := fun p hp b u z => by rw [upd_ne (ne_of_none z hp)]; exact z
  by_cases hx : xs = []
  · subst hx
    cases rx
    cases ry
    obtain ⟨its, r1, p1, _⟩ := I.tuple ha
    obtain ⟨its2, r2, p2, _⟩ := I.tuple hb
    have e0 := r1.nil_iff.mpr rfl
    obtain ⟨⟨cls, dd, data, sl⟩, ho, hc, n, hd⟩ := id p1
    obtain ⟨⟨cls2, dd2, data2, sl2⟩, ho2, hc2, n2, hd2⟩ := id p2
    simp only at hc hd hc2 hd2
    subst hc hd hc2 hd2
    exact concat_meets ⟨_, ho, rfl⟩ ⟨_, ho2, rfl⟩ noFill_tuple_add seq_tuple_add PySem.F.slot_tuple_add PySem.F.entry_tuple_add (PySem.F.args_tuple_add_2 _ _)
      (tuple_addW0 a b its.toArray its2.toArray n n2 dd dd2 sl sl2 (by simp [e0])) ⟨ho, ho2, ⟨.ref b, H, I, rfl, q _ _ (Same.refl _) hb⟩⟩
  · refine op_catT pins s σ H _ _ v u Q I rx ry ⟨a, b, xs, ys, rfl, rfl, ha, hb, hx, hz, fun e => q _ _ (Same.refl _) (by rw [e, List.append_nil]; exact ha), fun _ p hp => q _ _ (sn p hp) (SqT.of upd_same)⟩
end L2

set_option Elab.async false
set_option linter.all false
set_option maxRecDepth 100000
set_option maxHeartbeats 1000000
namespace L2
open PySem PySem.Spec PyProof.Rows
section
variable {prog : Program} {w : World} {A : Around} {E : Value → Shared → Prop} {s : Shared} {z TI TO i1 i2 : Addr}
end
end L2

set_option Elab.async false
set_option linter.all false
set_option maxRecDepth 100000
set_option maxHeartbeats 1000000
namespace HT
open PySem PySem.Spec PyProof.Rows
section
variable {prog : Program} {w : World} {A : Around} {E : Value → Shared → Prop} {s : Shared}
end
end HT
namespace L2
open PySem PySem.Spec PyProof.Rows
end L2

set_option Elab.async false
set_option linter.all false
set_option maxRecDepth 100000
set_option maxHeartbeats 1000000
namespace L2
open PySem PySem.Spec PyProof.Rows
section
variable {X : Cx} {CX : CXT} {x y n z : Str} {j k i iz : Nat} {ps : List Str} {sp : Sp} {p zpos pos tpos hpos np epos : Pos} {e : Expr} {es : List Expr} {t : TA} {C : Addr} {b₀ : Stmt} {suite : List Stmt} {ts : TS}
end
end L2

set_option Elab.async false
set_option linter.all false
set_option maxRecDepth 100000
set_option maxHeartbeats 1000000
namespace L2
open PySem PySem.Spec PyProof.Rows
def rSlTH : V → Option Int → Option Int → Hp → VK → Prop := fun x lo hi H Q => ∃ a xs, x = .ref a ∧ H a = some (.tup xs) ∧ ∀ p H', Same H H' → H' p = some (.tup (cutV xs lo hi)) → Q (.ref p) H'
theorem sl_tupH {X : Cx} : SlR X rSlTH := by
  intro pins s σ H x v vl vu lo hi sl Q I rx hs pl pu h
  obtain ⟨a, xs, rfl, T, q⟩ := h
  refine sl_tupA pins s σ H _ v vl vu lo hi sl Q I rx hs pl pu ⟨a, xs, rfl, SqT.of T, fun e => q _ _ (Same.refl _) (by rw [e]; exact T), fun p hp => q _ _ (fun b u z => ?_) upd_same⟩
  rw [upd_ne (ne_of_none z hp)]
  exact z
end L2

set_option Elab.async false
set_option linter.all false
set_option maxRecDepth 100000
set_option maxHeartbeats 1000000
namespace L2
open PySem PySem.Spec PyProof.Rows
section
variable {κ : Type} [DecidableEq κ]
def valV (kvs : List (κ × V)) (k : κ) : Option V := (kvs.find? fun kv => decide (kv.1 = k)).map (·.2)
def putK (kvs : List (κ × V)) (k : κ) (v : V) : List (κ × V) :=
  if (kvs.any fun kv => decide (kv.1 = k)) = true then kvs.map (fun kv => if kv.1 = k then (kv.1, v) else kv) else kvs ++ [(k, v)]
def dropK (kvs : List (κ × V)) (k : κ) : List (κ × V) := kvs.filter fun kv => decide (kv.1 ≠ k)

theorem valV_pos {p : κ × V} {r : List (κ × V)} {k : κ} (e : p.1 = k) : valV (p :: r) k = some p.2 := by simp [valV, List.find?_cons, e]
theorem valV_neg {p : κ × V} {r : List (κ × V)} {k : κ} (e : ¬ p.1 = k) : valV (p :: r) k = valV r k := by simp [valV, List.find?_cons, e]
theorem valV_any (k : κ) : ∀ kvs : List (κ × V), (kvs.any fun kv => decide (kv.1 = k)) = (valV kvs k).isSome
  | [] => rfl
  | p :: r => by
    rw [List.any_cons]
    by_cases e : p.1 = k
    · simp only [valV_pos e, decide_eq_true e, Bool.true_or, Option.isSome_some]
    · rw [valV_neg e, decide_eq_false e, Bool.false_or]; exact valV_any k r
theorem valV_map (k j : κ) (y : V) : ∀ kvs : List (κ × V), valV (kvs.map fun kv => if kv.1 = k then (kv.1, y) else kv) j = (valV kvs j).map fun x => if j = k then y else x
  | [] => rfl
  | p :: r => by
    have ih := valV_map k j y r
    rw [List.map_cons]
    by_cases h : p.1 = k
    · rw [if_pos h]
      by_cases e : p.1 = j
      · rw [valV_pos (p := (p.1, y)) e, valV_pos e, Option.map_some, if_pos (e.symm.trans h)]
      · rw [valV_neg (p := (p.1, y)) e, valV_neg e, ih]
    · rw [if_neg h]
      by_cases e : p.1 = j
      · rw [valV_pos (p := p) e, valV_pos e, Option.map_some, if_neg (fun z => h (e.trans z))]
      · rw [valV_neg (p := p) e, valV_neg e, ih]
theorem valV_snoc (k j : κ) (y : V) : ∀ kvs : List (κ × V), valV kvs k = none → valV (kvs ++ [(k, y)]) j = if j = k then some y else valV kvs j
  | [], _ => by
    by_cases e : k = j
    · rw [if_pos e.symm]; exact valV_pos (p := (k, y)) e
    · rw [if_neg (fun z => e z.symm)]; exact valV_neg (p := (k, y)) e
  | p :: r, hn => by
    rw [List.cons_append]
    have hk : ¬ p.1 = k := fun z => by rw [valV_pos z] at hn; cases hn
    rw [valV_neg hk] at hn
    have ih := valV_snoc k j y r hn
    by_cases e : p.1 = j
    · rw [valV_pos e, valV_pos e, if_neg (fun z => hk (e.trans z))]
    · rw [valV_neg e, valV_neg e, ih]
theorem valV_put (kvs : List (κ × V)) (k j : κ) (y : V) : valV (putK kvs k y) j = if j = k then some y else valV kvs j := by
  unfold putK
  by_cases a : (kvs.any fun kv => decide (kv.1 = k)) = true
  · rw [if_pos a, valV_map]
    rw [valV_any] at a
    by_cases e : j = k
    · obtain ⟨x, hx⟩ := Option.isSome_iff_exists.mp a
      rw [if_pos e, e, hx, Option.map_some, if_pos rfl]
    · rw [if_neg e]
      cases valV kvs j with
      | none => rfl
      | some x => rw [Option.map_some, if_neg e]
  · rw [if_neg a]
    refine valV_snoc k j y kvs ?_
    rw [valV_any] at a
    cases q : valV kvs k with
    | none => rfl
    | some x => rw [q] at a; exact (a rfl).elim
theorem length_putK (kvs : List (κ × V)) (k : κ) (v : V) : (putK kvs k v).length ≤ kvs.length + 1 := by
  unfold putK
  split
  · rw [List.length_map]; omega
  · rw [List.length_append, List.length_cons, List.length_nil]; omega
theorem putK_new {kvs : List (κ × V)} {k : κ} (v : V) (h : valV kvs k = none) : putK kvs k v = kvs ++ [(k, v)] := by
  unfold putK
  rw [valV_any, h]
  exact if_neg (by decide)

theorem RelO.isSome_eq {o : Option V} {u : Option Value} (r : RelO o u) : o.isSome = u.isSome := by
  cases o with
  | none => cases u with
    | none => rfl
    | some _ => exact (show False from r).elim
  | some _ => cases u with
    | none => exact (show False from r).elim
    | some _ => rfl
theorem RelO.getD {o : Option V} {u : Option Value} {d : V} {d' : Value} (r : RelO o u) (rd : RelV d d') : RelV (o.getD d) (u.getD d') := by
  cases o with
  | none => cases u with
    | none => exact rd
    | some _ => exact (show False from r).elim
  | some _ => cases u with
    | none => exact (show False from r).elim
    | some _ => exact r

theorem KV.val {kvs : List (κ × V)} {vs : List (κ × Value)} (r : KV kvs vs) (k : κ) : RelO (valV kvs k) (valueAt vs k) := by
  unfold KV at r
  induction r with
  | nil => exact True.intro
  | @cons p q ps qs h t ih =>
    obtain ⟨h1, h2⟩ := h
    by_cases e : p.1 = k
    · have e' : q.1 = k := h1.symm.trans e
      have b : valueAt (q :: qs) k = some q.2 := by simp [valueAt, List.find?_cons, e']
      rw [valV_pos e, b]; exact h2
    · have e' : ¬ q.1 = k := fun z => e (h1.trans z)
      have b : valueAt (q :: qs) k = valueAt qs k := by simp [valueAt, List.find?_cons, e']
      rw [valV_neg e, b]; exact ih
theorem KV.any {kvs : List (κ × V)} {vs : List (κ × Value)} (r : KV kvs vs) (k : κ) : (kvs.any fun kv => decide (kv.1 = k)) = vs.any fun kv => decide (kv.1 = k) := by
  unfold KV at r
  induction r with
  | nil => rfl
  | cons h t ih => rw [List.any_cons, List.any_cons, ih, h.1]
theorem KV.repl {kvs : List (κ × V)} {vs : List (κ × Value)} (r : KV kvs vs) (k : κ) {y : V} {u : Value} (ry : RelV y u) :
    KV (kvs.map fun kv => if kv.1 = k then (kv.1, y) else kv) (vs.map fun kv => if kv.1 = k then (kv.1, u) else kv) := by
  unfold KV at r ⊢
  induction r with
  | nil => exact .nil
  | @cons p q ps qs h t ih =>
    rw [List.map_cons, List.map_cons]
    refine .cons ?_ ih
    obtain ⟨h1, h2⟩ := h
    by_cases e : p.1 = k
    · rw [if_pos e, if_pos (h1.symm.trans e)]; exact ⟨h1, ry⟩
    · rw [if_neg e, if_neg (fun z => e (h1.trans z))]; exact ⟨h1, h2⟩
theorem KV.put {kvs : List (κ × V)} {vs : List (κ × Value)} (r : KV kvs vs) (k : κ) {y : V} {u : Value} (ry : RelV y u) : KV (putK kvs k y) (stored vs k u) := by
  unfold putK stored
  rw [r.any k]
  by_cases e : (vs.any fun kv => decide (kv.1 = k)) = true
  · rw [if_pos e, if_pos e]; exact r.repl k ry
  · rw [if_neg e, if_neg e]; exact Paired.snoc r ⟨rfl, ry⟩
theorem KV.drop {kvs : List (κ × V)} {vs : List (κ × Value)} (r : KV kvs vs) (k : κ) : KV (dropK kvs k) (without vs k) := by
  unfold KV at r ⊢
  unfold dropK without
  induction r with
  | nil => exact .nil
  | @cons p q ps qs h t ih =>
    obtain ⟨h1, h2⟩ := h
    rw [List.filter_cons, List.filter_cons]
    by_cases e : p.1 = k
    · have a : ¬ decide (p.1 ≠ k) = true := by simp [e]
      have b : ¬ decide (q.1 ≠ k) = true := by simp [h1.symm.trans e]
      rw [if_neg a, if_neg b]; exact ih
    · have e' : ¬ q.1 = k := fun z => e (h1.trans z)
      have a : decide (p.1 ≠ k) = true := by simp [e]
      have b : decide (q.1 ≠ k) = true := by simp [e']
      rw [if_pos a, if_pos b]; exact .cons ⟨h1, h2⟩ ih
theorem KV.keys {kvs : List (κ × V)} {vs : List (κ × Value)} (r : KV kvs vs) : kvs.map (·.1) = vs.map (·.1) := by
  unfold KV at r
  induction r with
  | nil => rfl
  | cons h t ih => rw [List.map_cons, List.map_cons, ih, h.1]
theorem KV.length {kvs : List (κ × V)} {vs : List (κ × Value)} (r : KV kvs vs) : kvs.length = vs.length := Paired.length r
end


theorem kV_is {P : Program} {w : World} {k : Key} {u : Value} (r : RelV (kV k) u) : (mixKind P w).is k u = true := by
  cases k with
  | inl i => obtain ⟨t, e⟩ := (show ∃ t, u = Value.int i t from r); subst e; exact mixKind_int P w i t
  | inr x => obtain ⟨t, e⟩ := (show ∃ t, u = Value.str x t from r); subst e; exact mixKind_str P w x t
theorem items_are {P : Program} {w : World} : ∀ {ks : List Key} {us : List Value}, Vals (ks.map kV) us → ItemsAre (mixKind P w) ks us
  | [], _, r => by rw [List.map_nil] at r; cases r; exact .nil
  | k :: ks, _, r => by
    rw [List.map_cons] at r
    cases r with
    | cons h t => exact .cons (kV_is h) (items_are t)

abbrev KT (H : Hp) : List (List Key × V) → List (List Key × Addr × Value) → Prop := Paired fun p q => p.1 = q.1 ∧ H q.2.1 = some (.tup (p.1.map kV)) ∧ RelV p.2 q.2.2
theorem KT.val {H : Hp} {kvs : List (List Key × V)} {xs : List (List Key × Addr × Value)} (r : KT H kvs xs) (k : List Key) : RelO (valV kvs k) ((atKey xs k).map (·.2)) := by
  induction r with
  | nil => exact True.intro
  | @cons p q ps qs h t ih =>
    obtain ⟨h1, _, h2⟩ := h
    by_cases e : p.1 = k
    · have e' : q.1 = k := h1.symm.trans e
      have b : atKey (q :: qs) k = some q.2 := by simp [atKey, List.find?_cons, e']
      rw [valV_pos e, b]; exact h2
    · have e' : ¬ q.1 = k := fun z => e (h1.trans z)
      have b : atKey (q :: qs) k = atKey qs k := by simp [atKey, List.find?_cons, e']
      rw [valV_neg e, b]; exact ih
theorem KT.repl {H : Hp} {kvs : List (List Key × V)} {xs : List (List Key × Addr × Value)} (r : KT H kvs xs) (k : List Key) {y : V} {u : Value} (ry : RelV y u) :
    KT H (kvs.map fun kv => if kv.1 = k then (kv.1, y) else kv) (xs.map (putAt k u)) := by
  induction r with
  | nil => exact .nil
  | @cons p q ps qs h t ih =>
    rw [List.map_cons, List.map_cons]
    refine .cons ?_ ih
    obtain ⟨h1, h2, h3⟩ := h
    unfold putAt
    by_cases e : p.1 = k
    · rw [if_pos e, if_pos (h1.symm.trans e)]; exact ⟨h1, h2, ry⟩
    · rw [if_neg e, if_neg (fun z => e (h1.trans z))]; exact ⟨h1, h2, h3⟩
theorem KT.put {H : Hp} {kvs : List (List Key × V)} {xs : List (List Key × Addr × Value)} (r : KT H kvs xs) (k : List Key) {b : Addr} {y : V} {u : Value} (hb : H b = some (.tup (k.map kV))) (ry : RelV y u) :
    KT H (putK kvs k y) (storedH xs k b u) := by
  have e : (kvs.any fun kv => decide (kv.1 = k)) = (atKey xs k).isSome := by
    rw [valV_any, (r.val k).isSome_eq, Option.isSome_map]
  unfold putK storedH
  rw [e]
  by_cases q : (atKey xs k).isSome = true
  · rw [if_pos q, if_pos q]; exact r.repl k ry
  · rw [if_neg q, if_neg q]; exact Paired.snoc r ⟨rfl, hb, ry⟩
theorem KT.keeps {H H' : Hp} {kvs : List (List Key × V)} {xs : List (List Key × Addr × Value)} (r : KT H kvs xs) (ht : ∀ b ys, H b = some (.tup ys) → H' b = some (.tup ys)) : KT H' kvs xs :=
  Paired.mapP r fun _ _ z => ⟨z.1, ht _ _ z.2.1, z.2.2⟩

section
variable {P : Program} {w : World} {H : Hp} {h : Heap} {a : Addr}
theorem rd_of {u : HO} (ok : HOk P w H h) (e : Rd H a u) : ObjOk P w H h a u := e.ok ok
theorem dk_rd {kvs : List (Key × V)} (ok : HOk P w H h) (e : Rd H a (.dK kvs)) : kvs.length ≤ sizeLine ∧ (a == sysModules) = false ∧ ∃ vs, KV kvs vs ∧ h.DictOf (mixKind P w) a vs :=
  show ObjOk P w H h a (.dK kvs) from rd_of ok e
theorem dk_of {kvs : List (Key × V)} (ok : HOk P w H h) (e : H a = some (.dK kvs)) : kvs.length ≤ sizeLine ∧ (a == sysModules) = false ∧ ∃ vs, KV kvs vs ∧ h.DictOf (mixKind P w) a vs := dk_rd ok (.inl e)
theorem key_of {ks : List Key} (ok : HOk P w H h) (e : H a = some (.tup (ks.map kV))) : (tupleKind (mixKind P w)).is h ks a := by
  obtain ⟨_, its, r, ⟨o, h1, h2, n, h3⟩, _⟩ := (show ObjOk P w H h a (.tup (ks.map kV)) from ok a _ e)
  exact ⟨o, its.toArray, n, h1, h2, h3, by simpa using items_are r⟩
theorem dt_rd {kvs : List (List Key × V)} (ok : HOk P w H h) (e : Rd H a (.dT kvs)) : kvs.length ≤ sizeLine ∧ (a == sysModules) = false ∧
    ∃ xs, KT H kvs xs ∧ h.DictOfH (tupleKind (mixKind P w)) a xs := by
  obtain ⟨z, y, xs, r, o, es, ep, h1, h2, h3, h4, h5⟩ := (show ObjOk P w H h a (.dT kvs) from rd_of ok e)
  refine ⟨z, y, xs, r, o, es, ep, h1, h2, h3, h4, fun x hx => ?_, h5⟩
  have all : ∀ {l : List (List Key × V)} {m : List (List Key × Addr × Value)}, KT H l m → ∀ x ∈ m, (tupleKind (mixKind P w)).is h x.1 x.2.1 := by
    intro l m q
    induction q with
    | nil => intro x hx; exact nomatch hx
    | @cons p q ps qs hq t ih =>
      intro x hx
      rcases List.mem_cons.mp hx with e | hx
      · subst e
        exact key_of ok (by rw [← hq.1]; exact hq.2.1)
      · exact ih x hx
  exact all r x hx
theorem dt_of {kvs : List (List Key × V)} (ok : HOk P w H h) (e : H a = some (.dT kvs)) : kvs.length ≤ sizeLine ∧ (a == sysModules) = false ∧
    ∃ xs, KT H kvs xs ∧ h.DictOfH (tupleKind (mixKind P w)) a xs := dt_rd ok (.inl e)
end

def DGet (H : Hp) (a : Addr) (y : V) (r : Option V) : Prop :=
  (∃ kvs k, Rd H a (.dK kvs) ∧ y = kV k ∧ r = valV kvs k) ∨ ∃ kvs k b, Rd H a (.dT kvs) ∧ y = .ref b ∧ H b = some (.tup (k.map kV)) ∧ r = valV kvs k
def DPut (H : Hp) (a : Addr) (y v : V) (H' : Hp) : Prop :=
  (∃ kvs k, H a = some (.dK kvs) ∧ y = kV k ∧ kvs.length < sizeLine ∧ H' = upd H a (.dK (putK kvs k v))) ∨
  ∃ kvs k b, H a = some (.dT kvs) ∧ y = .ref b ∧ H b = some (.tup (k.map kV)) ∧ kvs.length < sizeLine ∧ H' = upd H a (.dT (putK kvs k v))
theorem DGet.k {H : Hp} {a : Addr} {kvs : List (Key × V)} {k : Key} (e : H a = some (.dK kvs)) : DGet H a (kV k) (valV kvs k) := .inl ⟨kvs, k, .inl e, rfl, rfl⟩
theorem DGet.t {H : Hp} {a b : Addr} {kvs : List (List Key × V)} {k : List Key} (e : H a = some (.dT kvs)) (eb : H b = some (.tup (k.map kV))) : DGet H a (.ref b) (valV kvs k) := .inr ⟨kvs, k, b, .inl e, rfl, eb, rfl⟩
theorem DPut.k {H : Hp} {a : Addr} {kvs : List (Key × V)} {k : Key} {v : V} (e : H a = some (.dK kvs)) (hl : kvs.length < sizeLine) : DPut H a (kV k) v (upd H a (.dK (putK kvs k v))) := .inl ⟨kvs, k, e, rfl, hl, rfl⟩
theorem DPut.t {H : Hp} {a b : Addr} {kvs : List (List Key × V)} {k : List Key} {v : V} (e : H a = some (.dT kvs)) (eb : H b = some (.tup (k.map kV))) (hl : kvs.length < sizeLine) :
    DPut H a (.ref b) v (upd H a (.dT (putK kvs k v))) := .inr ⟨kvs, k, b, e, rfl, eb, hl, rfl⟩


section
variable {X : Cx} {pins : List (Addr × Obj)} {σ : St} {H : Hp} {s : Shared} {a : Addr} {y v : V} {u r : Value} {o : Option V} {A : Around} {E : Value → Shared → Prop}

theorem Inv.big (I : Inv X pins σ H s) : sysModules < s.heap.objs.size := by
  have h : mainGlobals < s.heap.objs.size := (I.mod.glob.keeps I.bk).lt
  exact Nat.lt_trans (by decide) h

theorem d_notIn {Q : Value → Shared → Prop} (hu : A.units + 1 < cLine) (I : Inv X pins σ H s) (g : DGet H a y o) (ry : RelV y u) (h : ∀ s', Inv X pins σ H s' → Q (.bool (!o.isSome)) s') :
    wpAny (model X.prog X.w) A (compareOp .NotIn u (.ref a)) Q E s := by
  rcases g with ⟨kvs, k, e, ey, l⟩ | ⟨kvs, k, b, e, ey, eb, l⟩
  · subst ey
    obtain ⟨z, hd, vs, rel, dd⟩ := dk_rd I.hok e
    refine wpAny_notIn_of (kV_is ry) hd dd.mapOf ?_
    rw [← (rel.val k).isSome_eq, ← l]
    exact h _ (I.tok _)
  · subst ey
    cases (show u = Value.ref b from ry)
    obtain ⟨z, hd, xs, rel, dd⟩ := dt_rd I.hok e
    refine wpAny_notIn_heap (tupleKind_room_in1 hu) (key_of I.hok eb) hd dd ?_
    have q := (rel.val k).isSome_eq
    rw [Option.isSome_map] at q
    rw [← q, ← l]
    exact h _ (I.tok _)
theorem d_write {h' : Heap} {t' : Nat} {ob : HO} (I : Inv X pins σ H s) (mu : Mut (H a)) (hs : Heap.SameBut a s.heap h') (he : ∃ q, h'.get? a = some q) (new : ObjOk X.prog X.w (upd H a ob) h' a ob) :
    Inv X pins σ (upd H a ob) { s with heap := h', toks := t' } :=
  I.write (x := a) (e := a) mu (.inl rfl) (fun b q hb z => (hs.2 b hb).trans z) he new
theorem dk_new {P : Program} {w : World} {H' : Hp} {h' : Heap} {kvs : List (Key × V)} {vs : List (Key × Value)} (z : kvs.length ≤ sizeLine) (hd : (a == sysModules) = false) (rel : KV kvs vs) (dd : h'.DictOf (mixKind P w) a vs) :
    ObjOk P w H' h' a (.dK kvs) := ⟨z, hd, vs, rel, dd⟩
theorem d_setItem {H' : Hp} {Q : Unit → Shared → Prop} (hu : A.units + 1 < cLine) (I : Inv X pins σ H s) (g : DPut H a y v H') (ry : RelV y u) (rv : RelV v r) (h : ∀ s', Inv X pins σ H' s' → Q () s') :
    wpAny (model X.prog X.w) A (setItem (.ref a) u r) Q E s := by
  rcases g with ⟨kvs, k, e, ey, l, eH⟩ | ⟨kvs, k, b, e, ey, eb, l, eH⟩
  · subst ey eH
    obtain ⟨z, hd, vs, rel, dd⟩ := dk_of I.hok e
    have hz : vs.length ≤ sizeLine := by rw [← rel.length]; exact z
    have hl : (putK kvs k v).length ≤ sizeLine := by have := length_putK kvs k v; omega
    refine wpAny_setItem_pairs (hsz := hz) (kV_is ry) dd fun h' dd' hs => h _ ?_
    have he : ∃ q, h'.get? a = some q := let ⟨q, _, _, hq, _⟩ := dd'; ⟨q, hq⟩
    exact d_write I (by rw [e]; exact True.intro) hs he (dk_new hl hd (rel.put k rv) dd')
  · subst ey eH
    cases (show u = Value.ref b from ry)
    obtain ⟨z, hd, xs, rel, dd⟩ := dt_of I.hok e
    have hz : xs.length ≤ sizeLine := by rw [← Paired.length rel]; exact z
    have hl : (putK kvs k v).length ≤ sizeLine := by have := length_putK kvs k v; omega
    refine wpAny_setItem_heap (hsz := hz) (tupleKind_room_in1 hu) (key_of I.hok eb) dd fun h' dd' hs => h _ ?_
    obtain ⟨q, es, ep, hq, h2, h3, h4, _, h5⟩ := dd'
    refine d_write I (by rw [e]; exact True.intro) hs ⟨q, hq⟩ ⟨hl, hd, _, (rel.put k eb rv).keeps fun c ys ec => ?_, q, es, ep, hq, h2, h3, h4, h5⟩
    rw [upd_ne (ne_of ec e (fun z => nomatch z))]
    exact ec
end

section
variable {X : Cx} {pins : List (Addr × Obj)} {σ : St} {H : Hp} {s : Shared} {a : Addr} {kvs : List (Key × V)} {k : Key} {u : Value} {A : Around} {E : Value → Shared → Prop}
end


def tDNotIn (ty td : TE) : TE := fun σ H Q => ty σ H fun y H1 => td σ H1 fun x H2 => ∃ a o, x = .ref a ∧ DGet H2 a y o ∧ Q (.bl (!o.isSome)) H2
def sDPut (td ty tv : TE) : TS := fun D σ H => tv σ H fun v H1 => td σ H1 fun x H2 => ty σ H2 fun y H3 => ∃ a H4, x = .ref a ∧ DPut H3 a y v H4 ∧ D.nx σ H4
section
variable {X : Cx} {o i e value : Expr} {pos pos' tpos : Pos} {td ty tv : TE}
theorem pc_dnotin (hu : X.A.units + 1 < cLine) (hi : PE X i ty) (ho : PE X o td) : PC X .NotIn i o (tDNotIn ty td) := by
  intro pins s σ H Q I h
  refine thn (hi pins s σ H _ I h) fun iv s1 ⟨y, H1, I1, ry, q1⟩ => thn (ho pins s1 σ H1 _ I1 q1) fun u s2 ⟨x, H2, I2, rx, a, ov, ex, g, q2⟩ => ?_
  subst ex
  obtain rfl : u = Value.ref a := rx
  exact d_notIn hu I2 g ry fun s3 I3 => ⟨.bl (!ov.isSome), H2, I3, rfl, q2⟩
theorem ps_dput (hu : X.A.units + 1 < cLine) (ho : PE X o td) (hi : PE X i ty) (hv : PE X value tv) (hs : swapsWith value (some (.Subscript o i pos')) pos.line X.env = pure false) :
    PS X (.Assign [.Subscript o i pos'] value pos) (sDPut td ty tv) := by
  intro pins s σ H D I h
  refine wpAny_Assign_Subscript (thn (hv pins s σ H _ I h) fun r s1 ⟨v, H1, I1, rv, q1⟩ => thn (ho pins s1 σ H1 _ I1 q1) fun u s2 ⟨x, H2, I2, rx, q2⟩ => thn (hi pins s2 σ H2 _ I2 q2) fun iv s3 ⟨y, H3, I3, ry, a, H4, ex, g, q3⟩ => ?_) hs
  subst ex
  obtain rfl : u = Value.ref a := rx
  exact d_setItem hu I3 g ry rv fun s4 I4 => ⟨σ, H4, I4, q3⟩
end


theorem dt_empty {P : Program} {w : World} {H : Hp} (h : Heap) (hb : sysModules < h.objs.size) : ObjOk P w H (h.push { cls := .type "dict", data := .dict #[] }) h.objs.size (.dT []) :=
  ⟨Nat.zero_le _, beq_eq_false_iff_ne.mpr (Ne.symm (Nat.ne_of_lt hb)), [], .nil, _, #[], 0, Heap.get?_push_size _ rfl, ⟨rfl, rfl, rfl⟩, rfl, rfl, List.nodup_nil⟩
def tDNewT : TE := fun _ H Q => ∀ p, H p = none → Q (.ref p) (upd H p (.dT []))
section
variable {X : Cx} {pos : Pos}
theorem pe_dnewT : PE X (.Dict [] [] pos) tDNewT := fun pins s σ H Q I h =>
  wpAny_Dict_empty ⟨.ref s.heap.objs.size, _, I.laid (a := s.heap.objs.size) (o := .dT []) (t' := s.toks) (fun _ _ q => Heap.get?_push_of_some _ q) (Nat.le_refl _) (dt_empty s.heap I.big), rfl, h _ (I.hok.fresh (Nat.le_refl _))⟩
end

structure M1 (X : Cx) (o : Expr) (m : Str) (apos : Pos) (e : Expr) (cpos : Pos) : Prop where
  base : attributeBase o m X.env (eval o X.env) = eval o X.env
  few : ((backTo cpos (starEach [e] X.env)).all (fun x => !x.1) && (backToKw cpos (keywordEach [] X.env)).all (fun x => x.1.isSome)
    && decide (([e] : List Expr).length + ([] : List Keyword).length + (if ([] : List Keyword).isEmpty then 0 else 1) < 30)) = true
  line : (apos.endLine == cpos.line) = true
  trees : backTo cpos (starEach [e] X.env) = [(false, eval e X.env)]
structure M2 (X : Cx) (o : Expr) (m : Str) (apos : Pos) (e f : Expr) (cpos : Pos) : Prop where
  base : attributeBase o m X.env (eval o X.env) = eval o X.env
  few : ((backTo cpos (starEach [e, f] X.env)).all (fun x => !x.1) && (backToKw cpos (keywordEach [] X.env)).all (fun x => x.1.isSome)
    && decide (([e, f] : List Expr).length + ([] : List Keyword).length + (if ([] : List Keyword).isEmpty then 0 else 1) < 30)) = true
  line : (apos.endLine == cpos.line) = true
  trees : backTo cpos (starEach [e, f] X.env) = [(false, eval e X.env), (false, eval f X.env)]

section
variable {X : Cx} {pins : List (Addr × Obj)} {σ : St} {H : Hp} {s : Shared} {a : Addr} {y d : V} {u r : Value} {o : Option V} {A : Around} {E : Value → Shared → Prop}
end

section
variable {X : Cx} {o e f : Expr} {apos cpos : Pos} {td ty tx : TE}
end

section
variable {X : Cx} {pins : List (Addr × Obj)} {σ : St} {H : Hp} {s : Shared} {a : Addr} {kvs : List (Key × V)} {A : Around} {E : Value → Shared → Prop}
end


section
variable {X : Cx} {pins : List (Addr × Obj)} {σ : St} {H : Hp} {s : Shared} {a : Addr} {y : V} {u : Value} {A : Around} {E : Value → Shared → Prop}
end
end L2
namespace L2
open PySem PySem.Spec PyProof.Rows
section
variable {κ : Type} [DecidableEq κ]
end
end L2

set_option linter.all false
namespace MthL
def pk (ws : List Int) (w : Int) (i : Nat) : Bool := decide (0 < ws.getD i 0 ∧ ws.getD i 0 ≤ w ∧ ∀ j, j < i → ws.getD j 0 ≠ ws.getD i 0)
def rk (ws : List Int) (w : Int) : Nat := ((List.range ws.length).filter (pk ws w)).length
theorem first {ws : List Int} {w : Int} (h : w ∈ ws) : ∃ i, i < ws.length ∧ ws.getD i 0 = w ∧ ∀ j, j < i → ws.getD j 0 ≠ w := by
  induction ws with
  | nil => cases h
  | cons a ws ih =>
    by_cases e : a = w
    · exact ⟨0, Nat.zero_lt_succ _, e, fun j hj => absurd hj (Nat.not_lt_zero _)⟩
    · obtain ⟨i, h1, h2, h3⟩ := ih ((List.mem_cons.mp h).resolve_left fun z => e z.symm)
      refine ⟨i + 1, Nat.succ_lt_succ h1, h2, fun j hj => ?_⟩
      cases j with
      | zero => exact e
      | succ j => exact h3 j (Nat.lt_of_succ_lt_succ hj)
theorem below {ws : List Int} (w : Int) : (∀ o ∈ ws, 0 < o → w ≤ o) ∨ ∃ v ∈ ws, 0 < v ∧ v < w ∧ ∀ o ∈ ws, o < w → o ≤ v := by
  induction ws with
  | nil => exact .inl fun o ho => by cases ho
  | cons a ws ih =>
    by_cases ha : 0 < a ∧ a < w
    · rcases ih with ih | ⟨v, h1, h2, h3, h4⟩
      · refine .inr ⟨a, List.mem_cons_self .., ha.1, ha.2, fun o ho hl => ?_⟩
        rcases List.mem_cons.mp ho with rfl | ho
        · exact Int.le_refl _
        · by_cases h0 : 0 < o
          · have := ih o ho h0
            omega
          · omega
      · by_cases hv : a ≤ v
        · refine .inr ⟨v, List.mem_cons_of_mem _ h1, h2, h3, fun o ho hl => ?_⟩
          rcases List.mem_cons.mp ho with rfl | ho
          · exact hv
          · exact h4 o ho hl
        · refine .inr ⟨a, List.mem_cons_self .., ha.1, ha.2, fun o ho hl => ?_⟩
          rcases List.mem_cons.mp ho with rfl | ho
          · exact Int.le_refl _
          · have := h4 o ho hl
            omega
    · rcases ih with ih | ⟨v, h1, h2, h3, h4⟩
      · refine .inl fun o ho h0 => ?_
        rcases List.mem_cons.mp ho with rfl | ho
        · omega
        · exact ih o ho h0
      · refine .inr ⟨v, List.mem_cons_of_mem _ h1, h2, h3, fun o ho hl => ?_⟩
        rcases List.mem_cons.mp ho with rfl | ho
        · omega
        · exact h4 o ho hl
def look (ws : List Int) : List Int := ws.map fun w => (rk ws w : Int)
end MthL

set_option linter.all false
namespace Mth
def cell (ns : List Int) (k : Int) : Int :=
  if k < (ns.length : Int) then ns.getD k.toNat 0 % 10 ^ 60
  else (if 0 < (ns.length : Int) then ns.getD (k * 7 % (ns.length : Int)).toNat 0 % 10 ^ 60 * 48271 + k * k * 69621 else 7919 * k + 5) % 2147483647 * 16807 % 2147483629
def gcd (a b : Int) : Int := (Int.gcd a b : Nat)
theorem gcd_zero {a : Int} (h : 0 ≤ a) : gcd a 0 = a := by
  unfold gcd
  rw [Int.gcd_zero_right]
  omega
theorem gcd_comm (a b : Int) : gcd a b = gcd b a := by
  unfold gcd
  rw [Int.gcd_comm]
theorem gcd_abs (a b : Int) : gcd (if a < 0 then -a else a) (if b < 0 then -b else b) = gcd a b := by
  unfold gcd
  have e1 : (if a < 0 then -a else a).natAbs = a.natAbs := by split <;> omega
  have e2 : (if b < 0 then -b else b).natAbs = b.natAbs := by split <;> omega
  show ((Nat.gcd _ _ : Nat) : Int) = ((Nat.gcd _ _ : Nat) : Int)
  rw [e1, e2]
theorem gcd_step {a b : Int} (ha : 0 ≤ a) (hb : 0 < b) : gcd b (a % b) = gcd a b := by
  unfold gcd
  congr 1
  show Nat.gcd _ _ = Nat.gcd _ _
  have e : (a % b).natAbs = a.natAbs % b.natAbs := by
    rw [Int.natAbs_emod_of_nonneg ha]
  rw [e, Nat.gcd_comm a.natAbs, Nat.gcd_rec b.natAbs a.natAbs, Nat.gcd_comm]
  
theorem gcd_dvd_right (a b : Int) : gcd a b ∣ b := Int.gcd_dvd_right ..
theorem gcd_pos {a b : Int} (h : b ≠ 0) : 0 < gcd a b := by
  have : 0 < Int.gcd a b := Int.gcd_pos_of_ne_zero_right a h
  unfold gcd
  omega
theorem gcd_div {a b : Int} (h : b ≠ 0) : gcd (a / gcd a b) (b / gcd a b) = 1 := by
  unfold gcd
  have hp : 0 < Int.gcd a b := Int.gcd_pos_of_ne_zero_right a h
  have := Int.gcd_ediv_gcd_ediv_gcd hp
  rw [this]
  rfl
structure IsShare (t b x y : Int) : Prop where
  pos : 0 < y
  low : gcd x y = 1
  eq : x * b = t * y
  le1 : x.natAbs ≤ t.natAbs
  le2 : y.natAbs ≤ b.natAbs
structure Low (T : Int × Int) (x y : Int) : Prop where
  pos : 0 < y
  low : gcd x y = 1
  eq : x * T.2 = T.1 * y
end Mth

set_option Elab.async false
set_option linter.all false
set_option maxRecDepth 100000
set_option maxHeartbeats 4000000
namespace My
open PySem L2
def spLaw (K : PySem.W.Frag) : Sp := fun vs H Q _ => ∃ (a : Addr) (ns : List Int), vs = [.ref a] ∧ SqL K H a (ns.map V.int) ∧ ns.length ≤ 63 ∧ ∀ H', Q (.bl true) H'
theorem atI_map {ns : List Int} {k : Int} (h0 : 0 ≤ k) (h1 : k < ns.length) : atI (ns.map V.int) k = some (.int (ns.getD k.toNat 0)) := by
  have e : k = ((k.toNat : Nat) : Int) := by omega
  have h2 : k.toNat < ns.length := by omega
  have q : (ns.map V.int)[k.toNat]? = some (.int (ns.getD k.toNat 0)) := by
    rw [List.getElem?_map, List.getElem?_eq_getElem h2]
    simp [List.getD, h2]
  have := atI_nat q
  rw [← e] at this
  exact this
theorem bitsN {n : Nat} {i : Int} (lo : -(10 ^ 61) ≤ i) (hi : i ≤ 10 ^ 61) (hn : 204 ≤ n := by decide) : Bits n i := (Bits.of (n := 204) (b := 10 ^ 61) lo hi (by decide)).mono hn
theorem same_new {H : Hp} {p : Addr} (h : H p = none) (o : HO) : Same H (upd H p o) := fun b u q => by rw [upd_ne (ne_of_none q h)]; exact q
theorem Same.tup {K : PySem.W.Frag} {H H' : Hp} {a : Addr} {xs : List V} (e : Same H H') (h : SqT K H a xs) : SqT K H' a xs := by
  rcases h with (h | ⟨o, h⟩) | h
  · exact .inl (.inl (e _ _ h))
  · exact .inl (.inr ⟨o, e _ _ h⟩)
  · exact .inr h
theorem cpow {n : Int} (h0 : 0 ≤ n := by decide) (h1 : n ≤ 1000000 := by decide) : CPow 10 n := ⟨h0, h1, by decide⟩
theorem ten_pos (n : Nat) : (0 : Int) < 10 ^ n := Int.pow_pos (by decide)
theorem cmul {i j : Int} (a : -(10 ^ 61) ≤ i) (b : i ≤ 10 ^ 61) (c : -(10 ^ 61) ≤ j) (d : j ≤ 10 ^ 61) : CMulB i j := ⟨bitsN a b, bitsN c d⟩
theorem cdiv {i j : Int} (a : 0 < j) (b : j ≤ 10 ^ 61) : CDivB i j := ⟨a, bitsN (by omega) b⟩
theorem getD_at {α : Type} {ws : List α} {j : Nat} {d : α} (h : j < ws.length) : ws.getD j d = ws[j] := by simp only [List.getD, List.getElem?_eq_getElem h, Option.getD_some]
theorem ixN_nat {n j : Nat} (h : j < n) : ixN n (j : Int) = some j := by
  unfold ixN
  rw [if_pos (by omega), if_pos (by omega)]
  rfl
theorem fresh_tup {K : PySem.W.Frag} {H : Hp} {p : Addr} (h : H p = none) (xs : List V) : ∃ H1, H1 = upd H p (.tup xs) ∧ Same H H1 ∧ SqT K H1 p xs := ⟨_, rfl, same_new h _, SqT.of upd_same⟩
theorem fresh_lst {K : PySem.W.Frag} {H : Hp} {p : Addr} (h : H p = none) (xs : List V) : ∃ H1, H1 = upd H p (.lst xs) ∧ Same H H1 ∧ SqL K H1 p xs := ⟨_, rfl, same_new h _, SqL.of upd_same⟩
theorem fresh_dct {K : PySem.W.Frag} {H : Hp} {p : Addr} (h : H p = none) : ∃ H1, H1 = upd H p (dctO p) ∧ Same H H1 ∧ Kd K H1 (.ref p) .dct := ⟨_, rfl, same_new h _, Kd.dct upd_same⟩
theorem same_upd {H H' : Hp} {l : Addr} (e : Same H H') (h : H l = none) (o : HO) : Same H (upd H' l o) := fun b u hb => by rw [upd_ne (ne_of_none hb h)]; exact e _ _ hb



def top (i : Nat) : Stmt := PySem.Challenge.pw_tariffgate_k55_rules_for_numbers.main.body.getD i (.Pass ⟨0, 0, 0, 0⟩)
def inner : Stmt → Nat → Stmt
  | .ClassDef _ _ _ b _ _ _ _ _ _ _, j => b.getD j (.Pass ⟨0, 0, 0, 0⟩)
  | st, _ => st
theorem dn_thing : (("thing" : Str) == ("__debug__" : Str)) = false := by decide
theorem dc_thing : (("thing" : Str) == ("__classdict__" : Str)) = false := by decide
theorem nn_thing : ("thing" : Str) ≠ "__name__" := by decide
theorem dn_isinstance : (("isinstance" : Str) == ("__debug__" : Str)) = false := by decide
theorem dc_isinstance : (("isinstance" : Str) == ("__classdict__" : Str)) = false := by decide
theorem nn_isinstance : ("isinstance" : Str) ≠ "__name__" := by decide
theorem dn_int : (("int" : Str) == ("__debug__" : Str)) = false := by decide
theorem dc_int : (("int" : Str) == ("__classdict__" : Str)) = false := by decide
theorem nn_int : ("int" : Str) ≠ "__name__" := by decide
theorem dn_bool : (("bool" : Str) == ("__debug__" : Str)) = false := by decide
theorem dc_bool : (("bool" : Str) == ("__classdict__" : Str)) = false := by decide
theorem nn_bool : ("bool" : Str) ≠ "__name__" := by decide
theorem dn_one : (("one" : Str) == ("__debug__" : Str)) = false := by decide
theorem dc_one : (("one" : Str) == ("__classdict__" : Str)) = false := by decide
theorem nn_one : ("one" : Str) ≠ "__name__" := by decide
theorem dn_other : (("other" : Str) == ("__debug__" : Str)) = false := by decide
theorem dc_other : (("other" : Str) == ("__classdict__" : Str)) = false := by decide
theorem nn_other : ("other" : Str) ≠ "__name__" := by decide
theorem dn_larger : (("larger" : Str) == ("__debug__" : Str)) = false := by decide
theorem dc_larger : (("larger" : Str) == ("__classdict__" : Str)) = false := by decide
theorem nn_larger : ("larger" : Str) ≠ "__name__" := by decide
theorem dn_smaller : (("smaller" : Str) == ("__debug__" : Str)) = false := by decide
theorem dc_smaller : (("smaller" : Str) == ("__classdict__" : Str)) = false := by decide
theorem nn_smaller : ("smaller" : Str) ≠ "__name__" := by decide
theorem dn_abs : (("abs" : Str) == ("__debug__" : Str)) = false := by decide
theorem dc_abs : (("abs" : Str) == ("__classdict__" : Str)) = false := by decide
theorem nn_abs : ("abs" : Str) ≠ "__name__" := by decide
theorem dn_rest : (("rest" : Str) == ("__debug__" : Str)) = false := by decide
theorem dc_rest : (("rest" : Str) == ("__classdict__" : Str)) = false := by decide
theorem nn_rest : ("rest" : Str) ≠ "__name__" := by decide
theorem dn_tuple : (("tuple" : Str) == ("__debug__" : Str)) = false := by decide
theorem dc_tuple : (("tuple" : Str) == ("__classdict__" : Str)) = false := by decide
theorem nn_tuple : ("tuple" : Str) ≠ "__name__" := by decide
theorem dn_len : (("len" : Str) == ("__debug__" : Str)) = false := by decide
theorem dc_len : (("len" : Str) == ("__classdict__" : Str)) = false := by decide
theorem nn_len : ("len" : Str) ≠ "__name__" := by decide
theorem dn_is_whole : (("is_whole" : Str) == ("__debug__" : Str)) = false := by decide
theorem dc_is_whole : (("is_whole" : Str) == ("__classdict__" : Str)) = false := by decide
theorem nn_is_whole : ("is_whole" : Str) ≠ "__name__" := by decide
theorem dn_common_of : (("common_of" : Str) == ("__debug__" : Str)) = false := by decide
theorem dc_common_of : (("common_of" : Str) == ("__classdict__" : Str)) = false := by decide
theorem nn_common_of : ("common_of" : Str) ≠ "__name__" := by decide
theorem dn_is_share : (("is_share" : Str) == ("__debug__" : Str)) = false := by decide
theorem dc_is_share : (("is_share" : Str) == ("__classdict__" : Str)) = false := by decide
theorem nn_is_share : ("is_share" : Str) ≠ "__name__" := by decide
theorem dn_self : (("self" : Str) == ("__debug__" : Str)) = false := by decide
theorem dc_self : (("self" : Str) == ("__classdict__" : Str)) = false := by decide
theorem nn_self : ("self" : Str) ≠ "__name__" := by decide
theorem dn_deep : (("deep" : Str) == ("__debug__" : Str)) = false := by decide
theorem dc_deep : (("deep" : Str) == ("__classdict__" : Str)) = false := by decide
theorem nn_deep : ("deep" : Str) ≠ "__name__" := by decide
theorem dn_share : (("share" : Str) == ("__debug__" : Str)) = false := by decide
theorem dc_share : (("share" : Str) == ("__classdict__" : Str)) = false := by decide
theorem nn_share : ("share" : Str) ≠ "__name__" := by decide
theorem dn_word : (("word" : Str) == ("__debug__" : Str)) = false := by decide
theorem dc_word : (("word" : Str) == ("__classdict__" : Str)) = false := by decide
theorem nn_word : ("word" : Str) ≠ "__name__" := by decide
theorem dn_OneOf : (("OneOf" : Str) == ("__debug__" : Str)) = false := by decide
theorem dc_OneOf : (("OneOf" : Str) == ("__classdict__" : Str)) = false := by decide
theorem nn_OneOf : ("OneOf" : Str) ≠ "__name__" := by decide
theorem dn_AllOf : (("AllOf" : Str) == ("__debug__" : Str)) = false := by decide
theorem dc_AllOf : (("AllOf" : Str) == ("__classdict__" : Str)) = false := by decide
theorem nn_AllOf : ("AllOf" : Str) ≠ "__name__" := by decide
theorem dn_told : (("told" : Str) == ("__debug__" : Str)) = false := by decide
theorem dc_told : (("told" : Str) == ("__classdict__" : Str)) = false := by decide
theorem nn_told : ("told" : Str) ≠ "__name__" := by decide
theorem dn_NoRule : (("NoRule" : Str) == ("__debug__" : Str)) = false := by decide
theorem dc_NoRule : (("NoRule" : Str) == ("__classdict__" : Str)) = false := by decide
theorem nn_NoRule : ("NoRule" : Str) ≠ "__name__" := by decide
theorem dn_Grown : (("Grown" : Str) == ("__debug__" : Str)) = false := by decide
theorem dc_Grown : (("Grown" : Str) == ("__classdict__" : Str)) = false := by decide
theorem nn_Grown : ("Grown" : Str) ≠ "__name__" := by decide
theorem dn_is_deep : (("is_deep" : Str) == ("__debug__" : Str)) = false := by decide
theorem dc_is_deep : (("is_deep" : Str) == ("__classdict__" : Str)) = false := by decide
theorem nn_is_deep : ("is_deep" : Str) ≠ "__name__" := by decide
theorem dn_Change : (("Change" : Str) == ("__debug__" : Str)) = false := by decide
theorem dc_Change : (("Change" : Str) == ("__classdict__" : Str)) = false := by decide
theorem nn_Change : ("Change" : Str) ≠ "__name__" := by decide
theorem dn_is_share_of_one : (("is_share_of_one" : Str) == ("__debug__" : Str)) = false := by decide
theorem dc_is_share_of_one : (("is_share_of_one" : Str) == ("__classdict__" : Str)) = false := by decide
theorem nn_is_share_of_one : ("is_share_of_one" : Str) ≠ "__name__" := by decide
theorem dn_Worked : (("Worked" : Str) == ("__debug__" : Str)) = false := by decide
theorem dc_Worked : (("Worked" : Str) == ("__classdict__" : Str)) = false := by decide
theorem nn_Worked : ("Worked" : Str) ≠ "__name__" := by decide
theorem dn_left : (("left" : Str) == ("__debug__" : Str)) = false := by decide
theorem dc_left : (("left" : Str) == ("__classdict__" : Str)) = false := by decide
theorem nn_left : ("left" : Str) ≠ "__name__" := by decide
theorem dn_rule_of_one : (("rule_of_one" : Str) == ("__debug__" : Str)) = false := by decide
theorem dc_rule_of_one : (("rule_of_one" : Str) == ("__classdict__" : Str)) = false := by decide
theorem nn_rule_of_one : ("rule_of_one" : Str) ≠ "__name__" := by decide
theorem dn_rule_within : (("rule_within" : Str) == ("__debug__" : Str)) = false := by decide
theorem dc_rule_within : (("rule_within" : Str) == ("__classdict__" : Str)) = false := by decide
theorem nn_rule_within : ("rule_within" : Str) ≠ "__name__" := by decide
theorem dn_rule_of_rules : (("rule_of_rules" : Str) == ("__debug__" : Str)) = false := by decide
theorem dc_rule_of_rules : (("rule_of_rules" : Str) == ("__classdict__" : Str)) = false := by decide
theorem nn_rule_of_rules : ("rule_of_rules" : Str) ≠ "__name__" := by decide
theorem dn_str : (("str" : Str) == ("__debug__" : Str)) = false := by decide
theorem dc_str : (("str" : Str) == ("__classdict__" : Str)) = false := by decide
theorem nn_str : ("str" : Str) ≠ "__name__" := by decide
theorem dn_all : (("all" : Str) == ("__debug__" : Str)) = false := by decide
theorem dc_all : (("all" : Str) == ("__classdict__" : Str)) = false := by decide
theorem nn_all : ("all" : Str) ≠ "__name__" := by decide
theorem dn_part : (("part" : Str) == ("__debug__" : Str)) = false := by decide
theorem dc_part : (("part" : Str) == ("__classdict__" : Str)) = false := by decide
theorem nn_part : ("part" : Str) ≠ "__name__" := by decide
theorem dn_prefix : (("prefix" : Str) == ("__debug__" : Str)) = false := by decide
theorem dc_prefix : (("prefix" : Str) == ("__classdict__" : Str)) = false := by decide
theorem nn_prefix : ("prefix" : Str) ≠ "__name__" := by decide
theorem dn_number : (("number" : Str) == ("__debug__" : Str)) = false := by decide
theorem dc_number : (("number" : Str) == ("__classdict__" : Str)) = false := by decide
theorem nn_number : ("number" : Str) ≠ "__name__" := by decide
theorem dn_prefixes : (("prefixes" : Str) == ("__debug__" : Str)) = false := by decide
theorem dc_prefixes : (("prefixes" : Str) == ("__classdict__" : Str)) = false := by decide
theorem nn_prefixes : ("prefixes" : Str) ≠ "__name__" := by decide
theorem dn_found : (("found" : Str) == ("__debug__" : Str)) = false := by decide
theorem dc_found : (("found" : Str) == ("__classdict__" : Str)) = false := by decide
theorem nn_found : ("found" : Str) ≠ "__name__" := by decide
theorem dn_place : (("place" : Str) == ("__debug__" : Str)) = false := by decide
theorem dc_place : (("place" : Str) == ("__classdict__" : Str)) = false := by decide
theorem nn_place : ("place" : Str) ≠ "__name__" := by decide
theorem dn_enumerate : (("enumerate" : Str) == ("__debug__" : Str)) = false := by decide
theorem dc_enumerate : (("enumerate" : Str) == ("__classdict__" : Str)) = false := by decide
theorem nn_enumerate : ("enumerate" : Str) ≠ "__name__" := by decide
theorem dn_begins : (("begins" : Str) == ("__debug__" : Str)) = false := by decide
theorem dc_begins : (("begins" : Str) == ("__classdict__" : Str)) = false := by decide
theorem nn_begins : ("begins" : Str) ≠ "__name__" := by decide
theorem dn_is_prefix : (("is_prefix" : Str) == ("__debug__" : Str)) = false := by decide
theorem dc_is_prefix : (("is_prefix" : Str) == ("__classdict__" : Str)) = false := by decide
theorem nn_is_prefix : ("is_prefix" : Str) ≠ "__name__" := by decide
theorem dn_row : (("row" : Str) == ("__debug__" : Str)) = false := by decide
theorem dc_row : (("row" : Str) == ("__classdict__" : Str)) = false := by decide
theorem nn_row : ("row" : Str) ≠ "__name__" := by decide
theorem dn_list : (("list" : Str) == ("__debug__" : Str)) = false := by decide
theorem dc_list : (("list" : Str) == ("__classdict__" : Str)) = false := by decide
theorem nn_list : ("list" : Str) ≠ "__name__" := by decide
theorem dn_is_row : (("is_row" : Str) == ("__debug__" : Str)) = false := by decide
theorem dc_is_row : (("is_row" : Str) == ("__classdict__" : Str)) = false := by decide
theorem nn_is_row : ("is_row" : Str) ≠ "__name__" := by decide
theorem dn_rows : (("rows" : Str) == ("__debug__" : Str)) = false := by decide
theorem dc_rows : (("rows" : Str) == ("__classdict__" : Str)) = false := by decide
theorem nn_rows : ("rows" : Str) ≠ "__name__" := by decide
theorem dn_are_rows : (("are_rows" : Str) == ("__debug__" : Str)) = false := by decide
theorem dc_are_rows : (("are_rows" : Str) == ("__classdict__" : Str)) = false := by decide
theorem nn_are_rows : ("are_rows" : Str) ≠ "__name__" := by decide
theorem dn_rule_of : (("rule_of" : Str) == ("__debug__" : Str)) = false := by decide
theorem dc_rule_of : (("rule_of" : Str) == ("__classdict__" : Str)) = false := by decide
theorem nn_rule_of : ("rule_of" : Str) ≠ "__name__" := by decide
theorem dn_rules : (("rules" : Str) == ("__debug__" : Str)) = false := by decide
theorem dc_rules : (("rules" : Str) == ("__classdict__" : Str)) = false := by decide
theorem nn_rules : ("rules" : Str) ≠ "__name__" := by decide
theorem dn_nearest : (("nearest" : Str) == ("__debug__" : Str)) = false := by decide
theorem dc_nearest : (("nearest" : Str) == ("__classdict__" : Str)) = false := by decide
theorem nn_nearest : ("nearest" : Str) ≠ "__name__" := by decide
theorem dn__law_script : (("_law_script" : Str) == ("__debug__" : Str)) = false := by decide
theorem dc__law_script : (("_law_script" : Str) == ("__classdict__" : Str)) = false := by decide
theorem nn__law_script : ("_law_script" : Str) ≠ "__name__" := by decide
theorem dn__law_k : (("_law_k" : Str) == ("__debug__" : Str)) = false := by decide
theorem dc__law_k : (("_law_k" : Str) == ("__classdict__" : Str)) = false := by decide
theorem nn__law_k : ("_law_k" : Str) ≠ "__name__" := by decide
theorem dn__law_cell : (("_law_cell" : Str) == ("__debug__" : Str)) = false := by decide
theorem dc__law_cell : (("_law_cell" : Str) == ("__classdict__" : Str)) = false := by decide
theorem nn__law_cell : ("_law_cell" : Str) ≠ "__name__" := by decide
theorem dn__law_by : (("_law_by" : Str) == ("__debug__" : Str)) = false := by decide
theorem dc__law_by : (("_law_by" : Str) == ("__classdict__" : Str)) = false := by decide
theorem nn__law_by : ("_law_by" : Str) ≠ "__name__" := by decide
theorem dn__law_size : (("_law_size" : Str) == ("__debug__" : Str)) = false := by decide
theorem dc__law_size : (("_law_size" : Str) == ("__classdict__" : Str)) = false := by decide
theorem nn__law_size : ("_law_size" : Str) ≠ "__name__" := by decide
theorem dn__law_wide : (("_law_wide" : Str) == ("__debug__" : Str)) = false := by decide
theorem dc__law_wide : (("_law_wide" : Str) == ("__classdict__" : Str)) = false := by decide
theorem nn__law_wide : ("_law_wide" : Str) ≠ "__name__" := by decide
theorem dn_range : (("range" : Str) == ("__debug__" : Str)) = false := by decide
theorem dc_range : (("range" : Str) == ("__classdict__" : Str)) = false := by decide
theorem nn_range : ("range" : Str) ≠ "__name__" := by decide
theorem dn__law_mix : (("_law_mix" : Str) == ("__debug__" : Str)) = false := by decide
theorem dc__law_mix : (("_law_mix" : Str) == ("__classdict__" : Str)) = false := by decide
theorem nn__law_mix : ("_law_mix" : Str) ≠ "__name__" := by decide
theorem dn__law_one : (("_law_one" : Str) == ("__debug__" : Str)) = false := by decide
theorem dc__law_one : (("_law_one" : Str) == ("__classdict__" : Str)) = false := by decide
theorem nn__law_one : ("_law_one" : Str) ≠ "__name__" := by decide
theorem dn__law_other : (("_law_other" : Str) == ("__debug__" : Str)) = false := by decide
theorem dc__law_other : (("_law_other" : Str) == ("__classdict__" : Str)) = false := by decide
theorem nn__law_other : ("_law_other" : Str) ≠ "__name__" := by decide
theorem dn__law_rest : (("_law_rest" : Str) == ("__debug__" : Str)) = false := by decide
theorem dc__law_rest : (("_law_rest" : Str) == ("__classdict__" : Str)) = false := by decide
theorem nn__law_rest : ("_law_rest" : Str) ≠ "__name__" := by decide
theorem dn__law_bottom : (("_law_bottom" : Str) == ("__debug__" : Str)) = false := by decide
theorem dc__law_bottom : (("_law_bottom" : Str) == ("__classdict__" : Str)) = false := by decide
theorem nn__law_bottom : ("_law_bottom" : Str) ≠ "__name__" := by decide
theorem dn__law_top : (("_law_top" : Str) == ("__debug__" : Str)) = false := by decide
theorem dc__law_top : (("_law_top" : Str) == ("__classdict__" : Str)) = false := by decide
theorem nn__law_top : ("_law_top" : Str) ≠ "__name__" := by decide
theorem dn__law_common : (("_law_common" : Str) == ("__debug__" : Str)) = false := by decide
theorem dc__law_common : (("_law_common" : Str) == ("__classdict__" : Str)) = false := by decide
theorem nn__law_common : ("_law_common" : Str) ≠ "__name__" := by decide
theorem dn__law_deep : (("_law_deep" : Str) == ("__debug__" : Str)) = false := by decide
theorem dc__law_deep : (("_law_deep" : Str) == ("__classdict__" : Str)) = false := by decide
theorem nn__law_deep : ("_law_deep" : Str) ≠ "__name__" := by decide
theorem dn__law_way : (("_law_way" : Str) == ("__debug__" : Str)) = false := by decide
theorem dc__law_way : (("_law_way" : Str) == ("__classdict__" : Str)) = false := by decide
theorem nn__law_way : ("_law_way" : Str) ≠ "__name__" := by decide
theorem dn__law_rule : (("_law_rule" : Str) == ("__debug__" : Str)) = false := by decide
theorem dc__law_rule : (("_law_rule" : Str) == ("__classdict__" : Str)) = false := by decide
theorem nn__law_rule : ("_law_rule" : Str) ≠ "__name__" := by decide
theorem dn__law_part : (("_law_part" : Str) == ("__debug__" : Str)) = false := by decide
theorem dc__law_part : (("_law_part" : Str) == ("__classdict__" : Str)) = false := by decide
theorem nn__law_part : ("_law_part" : Str) ≠ "__name__" := by decide
theorem dn__law_rows_here : (("_law_rows_here" : Str) == ("__debug__" : Str)) = false := by decide
theorem dc__law_rows_here : (("_law_rows_here" : Str) == ("__classdict__" : Str)) = false := by decide
theorem nn__law_rows_here : ("_law_rows_here" : Str) ≠ "__name__" := by decide
theorem dn__law_ahead : (("_law_ahead" : Str) == ("__debug__" : Str)) = false := by decide
theorem dc__law_ahead : (("_law_ahead" : Str) == ("__classdict__" : Str)) = false := by decide
theorem nn__law_ahead : ("_law_ahead" : Str) ≠ "__name__" := by decide
theorem dn__law_for_all : (("_law_for_all" : Str) == ("__debug__" : Str)) = false := by decide
theorem dc__law_for_all : (("_law_for_all" : Str) == ("__classdict__" : Str)) = false := by decide
theorem nn__law_for_all : ("_law_for_all" : Str) ≠ "__name__" := by decide
theorem dn__law_prefix : (("_law_prefix" : Str) == ("__debug__" : Str)) = false := by decide
theorem dc__law_prefix : (("_law_prefix" : Str) == ("__classdict__" : Str)) = false := by decide
theorem nn__law_prefix : ("_law_prefix" : Str) ≠ "__name__" := by decide
theorem dn__law_number : (("_law_number" : Str) == ("__debug__" : Str)) = false := by decide
theorem dc__law_number : (("_law_number" : Str) == ("__classdict__" : Str)) = false := by decide
theorem nn__law_number : ("_law_number" : Str) ≠ "__name__" := by decide
theorem dn__law_cell_at : (("_law_cell_at" : Str) == ("__debug__" : Str)) = false := by decide
theorem dc__law_cell_at : (("_law_cell_at" : Str) == ("__classdict__" : Str)) = false := by decide
theorem nn__law_cell_at : ("_law_cell_at" : Str) ≠ "__name__" := by decide
theorem dn__law_number_here : (("_law_number_here" : Str) == ("__debug__" : Str)) = false := by decide
theorem dc__law_number_here : (("_law_number_here" : Str) == ("__classdict__" : Str)) = false := by decide
theorem nn__law_number_here : ("_law_number_here" : Str) ≠ "__name__" := by decide
theorem dn__law_due_here : (("_law_due_here" : Str) == ("__debug__" : Str)) = false := by decide
theorem dc__law_due_here : (("_law_due_here" : Str) == ("__classdict__" : Str)) = false := by decide
theorem nn__law_due_here : ("_law_due_here" : Str) ≠ "__name__" := by decide
theorem dn__law_far : (("_law_far" : Str) == ("__debug__" : Str)) = false := by decide
theorem dc__law_far : (("_law_far" : Str) == ("__classdict__" : Str)) = false := by decide
theorem nn__law_far : ("_law_far" : Str) ≠ "__name__" := by decide
theorem dn__law_told : (("_law_told" : Str) == ("__debug__" : Str)) = false := by decide
theorem dc__law_told : (("_law_told" : Str) == ("__classdict__" : Str)) = false := by decide
theorem nn__law_told : ("_law_told" : Str) ≠ "__name__" := by decide
theorem dn__law_at : (("_law_at" : Str) == ("__debug__" : Str)) = false := by decide
theorem dc__law_at : (("_law_at" : Str) == ("__classdict__" : Str)) = false := by decide
theorem nn__law_at : ("_law_at" : Str) ≠ "__name__" := by decide
theorem dn__law_pick : (("_law_pick" : Str) == ("__debug__" : Str)) = false := by decide
theorem dc__law_pick : (("_law_pick" : Str) == ("__classdict__" : Str)) = false := by decide
theorem nn__law_pick : ("_law_pick" : Str) ≠ "__name__" := by decide
theorem dn__law_some : (("_law_some" : Str) == ("__debug__" : Str)) = false := by decide
theorem dc__law_some : (("_law_some" : Str) == ("__classdict__" : Str)) = false := by decide
theorem nn__law_some : ("_law_some" : Str) ≠ "__name__" := by decide
theorem dn__law_row : (("_law_row" : Str) == ("__debug__" : Str)) = false := by decide
theorem dc__law_row : (("_law_row" : Str) == ("__classdict__" : Str)) = false := by decide
theorem nn__law_row : ("_law_row" : Str) ≠ "__name__" := by decide
theorem dn_e : (("e" : Str) == ("__debug__" : Str)) = false := by decide
theorem dc_e : (("e" : Str) == ("__classdict__" : Str)) = false := by decide
theorem nn_e : ("e" : Str) ≠ "__name__" := by decide
theorem dn_TariffError : (("TariffError" : Str) == ("__debug__" : Str)) = false := by decide
theorem dc_TariffError : (("TariffError" : Str) == ("__classdict__" : Str)) = false := by decide
theorem nn_TariffError : ("TariffError" : Str) ≠ "__name__" := by decide
theorem dn_rules_of : (("rules_of" : Str) == ("__debug__" : Str)) = false := by decide
theorem dc_rules_of : (("rules_of" : Str) == ("__classdict__" : Str)) = false := by decide
theorem nn_rules_of : ("rules_of" : Str) ≠ "__name__" := by decide
theorem dn_NoLot : (("NoLot" : Str) == ("__debug__" : Str)) = false := by decide
theorem dc_NoLot : (("NoLot" : Str) == ("__classdict__" : Str)) = false := by decide
theorem nn_NoLot : ("NoLot" : Str) ≠ "__name__" := by decide
theorem dn_NoNumber : (("NoNumber" : Str) == ("__debug__" : Str)) = false := by decide
theorem dc_NoNumber : (("NoNumber" : Str) == ("__classdict__" : Str)) = false := by decide
theorem nn_NoNumber : ("NoNumber" : Str) ≠ "__name__" := by decide
theorem dn__law_handed : (("_law_handed" : Str) == ("__debug__" : Str)) = false := by decide
theorem dc__law_handed : (("_law_handed" : Str) == ("__classdict__" : Str)) = false := by decide
theorem nn__law_handed : ("_law_handed" : Str) ≠ "__name__" := by decide
theorem dn__law_rules : (("_law_rules" : Str) == ("__debug__" : Str)) = false := by decide
theorem dc__law_rules : (("_law_rules" : Str) == ("__classdict__" : Str)) = false := by decide
theorem nn__law_rules : ("_law_rules" : Str) ≠ "__name__" := by decide
theorem dn__law_most : (("_law_most" : Str) == ("__debug__" : Str)) = false := by decide
theorem dc__law_most : (("_law_most" : Str) == ("__classdict__" : Str)) = false := by decide
theorem nn__law_most : ("_law_most" : Str) ≠ "__name__" := by decide
theorem dn__law_rows : (("_law_rows" : Str) == ("__debug__" : Str)) = false := by decide
theorem dc__law_rows : (("_law_rows" : Str) == ("__classdict__" : Str)) = false := by decide
theorem nn__law_rows : ("_law_rows" : Str) ≠ "__name__" := by decide
theorem dn__law_refused : (("_law_refused" : Str) == ("__debug__" : Str)) = false := by decide
theorem dc__law_refused : (("_law_refused" : Str) == ("__classdict__" : Str)) = false := by decide
theorem nn__law_refused : ("_law_refused" : Str) ≠ "__name__" := by decide
theorem dn__law_found : (("_law_found" : Str) == ("__debug__" : Str)) = false := by decide
theorem dc__law_found : (("_law_found" : Str) == ("__classdict__" : Str)) = false := by decide
theorem nn__law_found : ("_law_found" : Str) ≠ "__name__" := by decide
theorem dn__law_spoilt : (("_law_spoilt" : Str) == ("__debug__" : Str)) = false := by decide
theorem dc__law_spoilt : (("_law_spoilt" : Str) == ("__classdict__" : Str)) = false := by decide
theorem nn__law_spoilt : ("_law_spoilt" : Str) ≠ "__name__" := by decide
theorem dn_rule_for : (("rule_for" : Str) == ("__debug__" : Str)) = false := by decide
theorem dc_rule_for : (("rule_for" : Str) == ("__classdict__" : Str)) = false := by decide
theorem nn_rule_for : ("rule_for" : Str) ≠ "__name__" := by decide
theorem dn__law_due : (("_law_due" : Str) == ("__debug__" : Str)) = false := by decide
theorem dc__law_due : (("_law_due" : Str) == ("__classdict__" : Str)) = false := by decide
theorem nn__law_due : ("_law_due" : Str) ≠ "__name__" := by decide
abbrev s_is_whole : Stmt := top 7
theorem sc_is_whole : FnScope ["thing"] ["thing"] (defScope s_is_whole) := ⟨rfl, rfl, rfl, by decide +kernel, rfl, by decide +kernel, by decide +kernel⟩
theorem v_is_whole_0 : Vis (defScope s_is_whole) "thing" := by first | exact Or.inl rfl | exact Or.inr (Or.inl rfl) | exact Or.inr (Or.inr rfl)
theorem l_is_whole_0 : Loc (defScope s_is_whole) "thing" := by first | exact Or.inl rfl | exact Or.inr rfl
theorem g_is_whole_isinstance : (defScope s_is_whole).names.lookup ("isinstance" : Str) = some .globalImplicit := by rfl
theorem g_is_whole_int : (defScope s_is_whole).names.lookup ("int" : Str) = some .globalImplicit := by rfl
theorem g_is_whole_bool : (defScope s_is_whole).names.lookup ("bool" : Str) = some .globalImplicit := by rfl
abbrev s_common_of : Stmt := top 8
theorem sc_common_of : FnScope ["one", "other", "larger", "smaller", "rest"] ["one", "other"] (defScope s_common_of) := ⟨rfl, rfl, rfl, by decide +kernel, rfl, by decide +kernel, by decide +kernel⟩
theorem v_common_of_0 : Vis (defScope s_common_of) "one" := by first | exact Or.inl rfl | exact Or.inr (Or.inl rfl) | exact Or.inr (Or.inr rfl)
theorem l_common_of_0 : Loc (defScope s_common_of) "one" := by first | exact Or.inl rfl | exact Or.inr rfl
theorem v_common_of_1 : Vis (defScope s_common_of) "other" := by first | exact Or.inl rfl | exact Or.inr (Or.inl rfl) | exact Or.inr (Or.inr rfl)
theorem l_common_of_1 : Loc (defScope s_common_of) "other" := by first | exact Or.inl rfl | exact Or.inr rfl
theorem v_common_of_2 : Vis (defScope s_common_of) "larger" := by first | exact Or.inl rfl | exact Or.inr (Or.inl rfl) | exact Or.inr (Or.inr rfl)
theorem l_common_of_2 : Loc (defScope s_common_of) "larger" := by first | exact Or.inl rfl | exact Or.inr rfl
theorem v_common_of_3 : Vis (defScope s_common_of) "smaller" := by first | exact Or.inl rfl | exact Or.inr (Or.inl rfl) | exact Or.inr (Or.inr rfl)
theorem l_common_of_3 : Loc (defScope s_common_of) "smaller" := by first | exact Or.inl rfl | exact Or.inr rfl
theorem v_common_of_4 : Vis (defScope s_common_of) "rest" := by first | exact Or.inl rfl | exact Or.inr (Or.inl rfl) | exact Or.inr (Or.inr rfl)
theorem l_common_of_4 : Loc (defScope s_common_of) "rest" := by first | exact Or.inl rfl | exact Or.inr rfl
theorem g_common_of_abs : (defScope s_common_of).names.lookup ("abs" : Str) = some .globalImplicit := by rfl
abbrev s_is_share : Stmt := top 9
theorem sc_is_share : FnScope ["thing"] ["thing"] (defScope s_is_share) := ⟨rfl, rfl, rfl, by decide +kernel, rfl, by decide +kernel, by decide +kernel⟩
theorem v_is_share_0 : Vis (defScope s_is_share) "thing" := by first | exact Or.inl rfl | exact Or.inr (Or.inl rfl) | exact Or.inr (Or.inr rfl)
theorem l_is_share_0 : Loc (defScope s_is_share) "thing" := by first | exact Or.inl rfl | exact Or.inr rfl
theorem g_is_share_isinstance : (defScope s_is_share).names.lookup ("isinstance" : Str) = some .globalImplicit := by rfl
theorem g_is_share_tuple : (defScope s_is_share).names.lookup ("tuple" : Str) = some .globalImplicit := by rfl
theorem g_is_share_len : (defScope s_is_share).names.lookup ("len" : Str) = some .globalImplicit := by rfl
theorem g_is_share_is_whole : (defScope s_is_share).names.lookup ("is_whole" : Str) = some .globalImplicit := by rfl
theorem g_is_share_common_of : (defScope s_is_share).names.lookup ("common_of" : Str) = some .globalImplicit := by rfl
abbrev s_is_deep : Stmt := top 22
theorem sc_is_deep : FnScope ["thing"] ["thing"] (defScope s_is_deep) := ⟨rfl, rfl, rfl, by decide +kernel, rfl, by decide +kernel, by decide +kernel⟩
theorem v_is_deep_0 : Vis (defScope s_is_deep) "thing" := by first | exact Or.inl rfl | exact Or.inr (Or.inl rfl) | exact Or.inr (Or.inr rfl)
theorem l_is_deep_0 : Loc (defScope s_is_deep) "thing" := by first | exact Or.inl rfl | exact Or.inr rfl
theorem g_is_deep_is_whole : (defScope s_is_deep).names.lookup ("is_whole" : Str) = some .globalImplicit := by rfl
abbrev s_is_share_of_one : Stmt := top 23
theorem sc_is_share_of_one : FnScope ["thing"] ["thing"] (defScope s_is_share_of_one) := ⟨rfl, rfl, rfl, by decide +kernel, rfl, by decide +kernel, by decide +kernel⟩
theorem v_is_share_of_one_0 : Vis (defScope s_is_share_of_one) "thing" := by first | exact Or.inl rfl | exact Or.inr (Or.inl rfl) | exact Or.inr (Or.inr rfl)
theorem l_is_share_of_one_0 : Loc (defScope s_is_share_of_one) "thing" := by first | exact Or.inl rfl | exact Or.inr rfl
theorem g_is_share_of_one_is_share : (defScope s_is_share_of_one).names.lookup ("is_share" : Str) = some .globalImplicit := by rfl
abbrev s_Change_init : Stmt := inner (top 17) 0
theorem sc_Change_init : FnScope ["self", "deep"] ["self", "deep"] (defScope s_Change_init) := ⟨rfl, rfl, rfl, by decide +kernel, rfl, by decide +kernel, by decide +kernel⟩
theorem v_Change_init_0 : Vis (defScope s_Change_init) "self" := by first | exact Or.inl rfl | exact Or.inr (Or.inl rfl) | exact Or.inr (Or.inr rfl)
theorem l_Change_init_0 : Loc (defScope s_Change_init) "self" := by first | exact Or.inl rfl | exact Or.inr rfl
theorem v_Change_init_1 : Vis (defScope s_Change_init) "deep" := by first | exact Or.inl rfl | exact Or.inr (Or.inl rfl) | exact Or.inr (Or.inr rfl)
theorem l_Change_init_1 : Loc (defScope s_Change_init) "deep" := by first | exact Or.inl rfl | exact Or.inr rfl
abbrev s_Worked_init : Stmt := inner (top 18) 0
theorem sc_Worked_init : FnScope ["self", "share"] ["self", "share"] (defScope s_Worked_init) := ⟨rfl, rfl, rfl, by decide +kernel, rfl, by decide +kernel, by decide +kernel⟩
theorem v_Worked_init_0 : Vis (defScope s_Worked_init) "self" := by first | exact Or.inl rfl | exact Or.inr (Or.inl rfl) | exact Or.inr (Or.inr rfl)
theorem l_Worked_init_0 : Loc (defScope s_Worked_init) "self" := by first | exact Or.inl rfl | exact Or.inr rfl
theorem v_Worked_init_1 : Vis (defScope s_Worked_init) "share" := by first | exact Or.inl rfl | exact Or.inr (Or.inl rfl) | exact Or.inr (Or.inr rfl)
theorem l_Worked_init_1 : Loc (defScope s_Worked_init) "share" := by first | exact Or.inl rfl | exact Or.inr rfl
abbrev s_OfRules_init : Stmt := inner (top 19) 0
theorem sc_OfRules_init : FnScope ["self", "one", "other"] ["self", "one", "other"] (defScope s_OfRules_init) := ⟨rfl, rfl, rfl, by decide +kernel, rfl, by decide +kernel, by decide +kernel⟩
theorem v_OfRules_init_0 : Vis (defScope s_OfRules_init) "self" := by first | exact Or.inl rfl | exact Or.inr (Or.inl rfl) | exact Or.inr (Or.inr rfl)
theorem l_OfRules_init_0 : Loc (defScope s_OfRules_init) "self" := by first | exact Or.inl rfl | exact Or.inr rfl
theorem v_OfRules_init_1 : Vis (defScope s_OfRules_init) "one" := by first | exact Or.inl rfl | exact Or.inr (Or.inl rfl) | exact Or.inr (Or.inr rfl)
theorem l_OfRules_init_1 : Loc (defScope s_OfRules_init) "one" := by first | exact Or.inl rfl | exact Or.inr rfl
theorem v_OfRules_init_2 : Vis (defScope s_OfRules_init) "other" := by first | exact Or.inl rfl | exact Or.inr (Or.inl rfl) | exact Or.inr (Or.inr rfl)
theorem l_OfRules_init_2 : Loc (defScope s_OfRules_init) "other" := by first | exact Or.inl rfl | exact Or.inr rfl
abbrev s_rule_of_rules : Stmt := top 24
theorem sc_rule_of_rules : FnScope ["word", "one", "other"] ["word", "one", "other"] (defScope s_rule_of_rules) := ⟨rfl, rfl, rfl, by decide +kernel, rfl, by decide +kernel, by decide +kernel⟩
theorem v_rule_of_rules_0 : Vis (defScope s_rule_of_rules) "word" := by first | exact Or.inl rfl | exact Or.inr (Or.inl rfl) | exact Or.inr (Or.inr rfl)
theorem l_rule_of_rules_0 : Loc (defScope s_rule_of_rules) "word" := by first | exact Or.inl rfl | exact Or.inr rfl
theorem v_rule_of_rules_1 : Vis (defScope s_rule_of_rules) "one" := by first | exact Or.inl rfl | exact Or.inr (Or.inl rfl) | exact Or.inr (Or.inr rfl)
theorem l_rule_of_rules_1 : Loc (defScope s_rule_of_rules) "one" := by first | exact Or.inl rfl | exact Or.inr rfl
theorem v_rule_of_rules_2 : Vis (defScope s_rule_of_rules) "other" := by first | exact Or.inl rfl | exact Or.inr (Or.inl rfl) | exact Or.inr (Or.inr rfl)
theorem l_rule_of_rules_2 : Loc (defScope s_rule_of_rules) "other" := by first | exact Or.inl rfl | exact Or.inr rfl
theorem g_rule_of_rules_AllOf : (defScope s_rule_of_rules).names.lookup ("AllOf" : Str) = some .globalImplicit := by rfl
theorem g_rule_of_rules_OneOf : (defScope s_rule_of_rules).names.lookup ("OneOf" : Str) = some .globalImplicit := by rfl
abbrev s_rule_of_one : Stmt := top 25
theorem sc_rule_of_one : FnScope ["told"] ["told"] (defScope s_rule_of_one) := ⟨rfl, rfl, rfl, by decide +kernel, rfl, by decide +kernel, by decide +kernel⟩
theorem v_rule_of_one_0 : Vis (defScope s_rule_of_one) "told" := by first | exact Or.inl rfl | exact Or.inr (Or.inl rfl) | exact Or.inr (Or.inr rfl)
theorem l_rule_of_one_0 : Loc (defScope s_rule_of_one) "told" := by first | exact Or.inl rfl | exact Or.inr rfl
theorem g_rule_of_one_len : (defScope s_rule_of_one).names.lookup ("len" : Str) = some .globalImplicit := by rfl
theorem g_rule_of_one_Grown : (defScope s_rule_of_one).names.lookup ("Grown" : Str) = some .globalImplicit := by rfl
theorem g_rule_of_one_is_deep : (defScope s_rule_of_one).names.lookup ("is_deep" : Str) = some .globalImplicit := by rfl
theorem g_rule_of_one_Change : (defScope s_rule_of_one).names.lookup ("Change" : Str) = some .globalImplicit := by rfl
theorem g_rule_of_one_is_share_of_one : (defScope s_rule_of_one).names.lookup ("is_share_of_one" : Str) = some .globalImplicit := by rfl
theorem g_rule_of_one_Worked : (defScope s_rule_of_one).names.lookup ("Worked" : Str) = some .globalImplicit := by rfl
theorem g_rule_of_one_NoRule : (defScope s_rule_of_one).names.lookup ("NoRule" : Str) = some .globalImplicit := by rfl
abbrev s_rule_within : Stmt := top 26
theorem sc_rule_within : FnScope ["left", "told", "one", "other"] ["left", "told"] (defScope s_rule_within) := ⟨rfl, rfl, rfl, by decide +kernel, rfl, by decide +kernel, by decide +kernel⟩
theorem v_rule_within_0 : Vis (defScope s_rule_within) "left" := by first | exact Or.inl rfl | exact Or.inr (Or.inl rfl) | exact Or.inr (Or.inr rfl)
theorem l_rule_within_0 : Loc (defScope s_rule_within) "left" := by first | exact Or.inl rfl | exact Or.inr rfl
theorem v_rule_within_1 : Vis (defScope s_rule_within) "told" := by first | exact Or.inl rfl | exact Or.inr (Or.inl rfl) | exact Or.inr (Or.inr rfl)
theorem l_rule_within_1 : Loc (defScope s_rule_within) "told" := by first | exact Or.inl rfl | exact Or.inr rfl
theorem v_rule_within_2 : Vis (defScope s_rule_within) "one" := by first | exact Or.inl rfl | exact Or.inr (Or.inl rfl) | exact Or.inr (Or.inr rfl)
theorem l_rule_within_2 : Loc (defScope s_rule_within) "one" := by first | exact Or.inl rfl | exact Or.inr rfl
theorem v_rule_within_3 : Vis (defScope s_rule_within) "other" := by first | exact Or.inl rfl | exact Or.inr (Or.inl rfl) | exact Or.inr (Or.inr rfl)
theorem l_rule_within_3 : Loc (defScope s_rule_within) "other" := by first | exact Or.inl rfl | exact Or.inr rfl
theorem g_rule_within_NoRule : (defScope s_rule_within).names.lookup ("NoRule" : Str) = some .globalImplicit := by rfl
theorem g_rule_within_isinstance : (defScope s_rule_within).names.lookup ("isinstance" : Str) = some .globalImplicit := by rfl
theorem g_rule_within_tuple : (defScope s_rule_within).names.lookup ("tuple" : Str) = some .globalImplicit := by rfl
theorem g_rule_within_len : (defScope s_rule_within).names.lookup ("len" : Str) = some .globalImplicit := by rfl
theorem g_rule_within_str : (defScope s_rule_within).names.lookup ("str" : Str) = some .globalImplicit := by rfl
theorem g_rule_within_rule_within : (defScope s_rule_within).names.lookup ("rule_within" : Str) = some .globalImplicit := by rfl
theorem g_rule_within_rule_of_rules : (defScope s_rule_within).names.lookup ("rule_of_rules" : Str) = some .globalImplicit := by rfl
theorem g_rule_within_rule_of_one : (defScope s_rule_within).names.lookup ("rule_of_one" : Str) = some .globalImplicit := by rfl
abbrev s_rule_of : Stmt := top 27
theorem sc_rule_of : FnScope ["told"] ["told"] (defScope s_rule_of) := ⟨rfl, rfl, rfl, by decide +kernel, rfl, by decide +kernel, by decide +kernel⟩
theorem v_rule_of_0 : Vis (defScope s_rule_of) "told" := by first | exact Or.inl rfl | exact Or.inr (Or.inl rfl) | exact Or.inr (Or.inr rfl)
theorem l_rule_of_0 : Loc (defScope s_rule_of) "told" := by first | exact Or.inl rfl | exact Or.inr rfl
theorem g_rule_of_rule_within : (defScope s_rule_of).names.lookup ("rule_within" : Str) = some .globalImplicit := by rfl
abbrev s_is_prefix : Stmt := top 11
theorem sc_is_prefix : FnScope ["thing"] ["thing"] (defScope s_is_prefix) := ⟨rfl, rfl, rfl, by decide +kernel, rfl, by decide +kernel, by decide +kernel⟩
theorem v_is_prefix_0 : Vis (defScope s_is_prefix) "thing" := by first | exact Or.inl rfl | exact Or.inr (Or.inl rfl) | exact Or.inr (Or.inr rfl)
theorem l_is_prefix_0 : Loc (defScope s_is_prefix) "thing" := by first | exact Or.inl rfl | exact Or.inr rfl
theorem g_is_prefix_isinstance : (defScope s_is_prefix).names.lookup ("isinstance" : Str) = some .globalImplicit := by rfl
theorem g_is_prefix_tuple : (defScope s_is_prefix).names.lookup ("tuple" : Str) = some .globalImplicit := by rfl
theorem g_is_prefix_len : (defScope s_is_prefix).names.lookup ("len" : Str) = some .globalImplicit := by rfl
theorem g_is_prefix_all : (defScope s_is_prefix).names.lookup ("all" : Str) = some .globalImplicit := by rfl
abbrev s_begins : Stmt := top 12
theorem sc_begins : FnScope ["prefix", "number"] ["prefix", "number"] (defScope s_begins) := ⟨rfl, rfl, rfl, by decide +kernel, rfl, by decide +kernel, by decide +kernel⟩
theorem v_begins_0 : Vis (defScope s_begins) "prefix" := by first | exact Or.inl rfl | exact Or.inr (Or.inl rfl) | exact Or.inr (Or.inr rfl)
theorem l_begins_0 : Loc (defScope s_begins) "prefix" := by first | exact Or.inl rfl | exact Or.inr rfl
theorem v_begins_1 : Vis (defScope s_begins) "number" := by first | exact Or.inl rfl | exact Or.inr (Or.inl rfl) | exact Or.inr (Or.inr rfl)
theorem l_begins_1 : Loc (defScope s_begins) "number" := by first | exact Or.inl rfl | exact Or.inr rfl
theorem g_begins_len : (defScope s_begins).names.lookup ("len" : Str) = some .globalImplicit := by rfl
abbrev s_nearest : Stmt := top 13
theorem sc_nearest : FnScope ["prefixes", "number", "found", "place", "prefix"] ["prefixes", "number"] (defScope s_nearest) := ⟨rfl, rfl, rfl, by decide +kernel, rfl, by decide +kernel, by decide +kernel⟩
theorem v_nearest_0 : Vis (defScope s_nearest) "prefixes" := by first | exact Or.inl rfl | exact Or.inr (Or.inl rfl) | exact Or.inr (Or.inr rfl)
theorem l_nearest_0 : Loc (defScope s_nearest) "prefixes" := by first | exact Or.inl rfl | exact Or.inr rfl
theorem v_nearest_1 : Vis (defScope s_nearest) "number" := by first | exact Or.inl rfl | exact Or.inr (Or.inl rfl) | exact Or.inr (Or.inr rfl)
theorem l_nearest_1 : Loc (defScope s_nearest) "number" := by first | exact Or.inl rfl | exact Or.inr rfl
theorem v_nearest_2 : Vis (defScope s_nearest) "found" := by first | exact Or.inl rfl | exact Or.inr (Or.inl rfl) | exact Or.inr (Or.inr rfl)
theorem l_nearest_2 : Loc (defScope s_nearest) "found" := by first | exact Or.inl rfl | exact Or.inr rfl
theorem v_nearest_3 : Vis (defScope s_nearest) "place" := by first | exact Or.inl rfl | exact Or.inr (Or.inl rfl) | exact Or.inr (Or.inr rfl)
theorem l_nearest_3 : Loc (defScope s_nearest) "place" := by first | exact Or.inl rfl | exact Or.inr rfl
theorem v_nearest_4 : Vis (defScope s_nearest) "prefix" := by first | exact Or.inl rfl | exact Or.inr (Or.inl rfl) | exact Or.inr (Or.inr rfl)
theorem l_nearest_4 : Loc (defScope s_nearest) "prefix" := by first | exact Or.inl rfl | exact Or.inr rfl
theorem g_nearest_enumerate : (defScope s_nearest).names.lookup ("enumerate" : Str) = some .globalImplicit := by rfl
theorem g_nearest_begins : (defScope s_nearest).names.lookup ("begins" : Str) = some .globalImplicit := by rfl
theorem g_nearest_len : (defScope s_nearest).names.lookup ("len" : Str) = some .globalImplicit := by rfl
abbrev s_is_row : Stmt := top 28
theorem sc_is_row : FnScope ["thing"] ["thing"] (defScope s_is_row) := ⟨rfl, rfl, rfl, by decide +kernel, rfl, by decide +kernel, by decide +kernel⟩
theorem v_is_row_0 : Vis (defScope s_is_row) "thing" := by first | exact Or.inl rfl | exact Or.inr (Or.inl rfl) | exact Or.inr (Or.inr rfl)
theorem l_is_row_0 : Loc (defScope s_is_row) "thing" := by first | exact Or.inl rfl | exact Or.inr rfl
theorem g_is_row_isinstance : (defScope s_is_row).names.lookup ("isinstance" : Str) = some .globalImplicit := by rfl
theorem g_is_row_tuple : (defScope s_is_row).names.lookup ("tuple" : Str) = some .globalImplicit := by rfl
theorem g_is_row_len : (defScope s_is_row).names.lookup ("len" : Str) = some .globalImplicit := by rfl
theorem g_is_row_is_prefix : (defScope s_is_row).names.lookup ("is_prefix" : Str) = some .globalImplicit := by rfl
abbrev s_are_rows : Stmt := top 29
theorem sc_are_rows : FnScope ["thing", "prefixes"] ["thing"] (defScope s_are_rows) := ⟨rfl, rfl, rfl, by decide +kernel, rfl, by decide +kernel, by decide +kernel⟩
theorem v_are_rows_0 : Vis (defScope s_are_rows) "thing" := by first | exact Or.inl rfl | exact Or.inr (Or.inl rfl) | exact Or.inr (Or.inr rfl)
theorem l_are_rows_0 : Loc (defScope s_are_rows) "thing" := by first | exact Or.inl rfl | exact Or.inr rfl
theorem v_are_rows_1 : Vis (defScope s_are_rows) "prefixes" := by first | exact Or.inl rfl | exact Or.inr (Or.inl rfl) | exact Or.inr (Or.inr rfl)
theorem l_are_rows_1 : Loc (defScope s_are_rows) "prefixes" := by first | exact Or.inl rfl | exact Or.inr rfl
theorem g_are_rows_isinstance : (defScope s_are_rows).names.lookup ("isinstance" : Str) = some .globalImplicit := by rfl
theorem g_are_rows_list : (defScope s_are_rows).names.lookup ("list" : Str) = some .globalImplicit := by rfl
theorem g_are_rows_len : (defScope s_are_rows).names.lookup ("len" : Str) = some .globalImplicit := by rfl
theorem g_are_rows_all : (defScope s_are_rows).names.lookup ("all" : Str) = some .globalImplicit := by rfl
abbrev s_rules_of : Stmt := top 30
theorem sc_rules_of : FnScope ["rows", "row"] ["rows"] (defScope s_rules_of) := ⟨rfl, rfl, rfl, by decide +kernel, rfl, by decide +kernel, by decide +kernel⟩
theorem v_rules_of_0 : Vis (defScope s_rules_of) "rows" := by first | exact Or.inl rfl | exact Or.inr (Or.inl rfl) | exact Or.inr (Or.inr rfl)
theorem l_rules_of_0 : Loc (defScope s_rules_of) "rows" := by first | exact Or.inl rfl | exact Or.inr rfl
theorem v_rules_of_1 : Vis (defScope s_rules_of) "row" := by first | exact Or.inl rfl | exact Or.inr (Or.inl rfl) | exact Or.inr (Or.inr rfl)
theorem l_rules_of_1 : Loc (defScope s_rules_of) "row" := by first | exact Or.inl rfl | exact Or.inr rfl
theorem g_rules_of_are_rows : (defScope s_rules_of).names.lookup ("are_rows" : Str) = some .globalImplicit := by rfl
theorem g_rules_of_NoRule : (defScope s_rules_of).names.lookup ("NoRule" : Str) = some .globalImplicit := by rfl
theorem g_rules_of_rule_of : (defScope s_rules_of).names.lookup ("rule_of" : Str) = some .globalImplicit := by rfl
theorem g_rules_of_list : (defScope s_rules_of).names.lookup ("list" : Str) = some .globalImplicit := by rfl
abbrev s_rule_for : Stmt := top 31
theorem sc_rule_for : FnScope ["rules", "number"] ["rules", "number"] (defScope s_rule_for) := ⟨rfl, rfl, rfl, by decide +kernel, rfl, by decide +kernel, by decide +kernel⟩
theorem v_rule_for_0 : Vis (defScope s_rule_for) "rules" := by first | exact Or.inl rfl | exact Or.inr (Or.inl rfl) | exact Or.inr (Or.inr rfl)
theorem l_rule_for_0 : Loc (defScope s_rule_for) "rules" := by first | exact Or.inl rfl | exact Or.inr rfl
theorem v_rule_for_1 : Vis (defScope s_rule_for) "number" := by first | exact Or.inl rfl | exact Or.inr (Or.inl rfl) | exact Or.inr (Or.inr rfl)
theorem l_rule_for_1 : Loc (defScope s_rule_for) "number" := by first | exact Or.inl rfl | exact Or.inr rfl
theorem g_rule_for_nearest : (defScope s_rule_for).names.lookup ("nearest" : Str) = some .globalImplicit := by rfl
abbrev s_law_cell_at : Stmt := top 33
theorem sc_law_cell_at : FnScope ["_law_script", "_law_k"] ["_law_script", "_law_k"] (defScope s_law_cell_at) := ⟨rfl, rfl, rfl, by decide +kernel, rfl, by decide +kernel, by decide +kernel⟩
theorem v_law_cell_at_0 : Vis (defScope s_law_cell_at) "_law_script" := by first | exact Or.inl rfl | exact Or.inr (Or.inl rfl) | exact Or.inr (Or.inr rfl)
theorem l_law_cell_at_0 : Loc (defScope s_law_cell_at) "_law_script" := by first | exact Or.inl rfl | exact Or.inr rfl
theorem v_law_cell_at_1 : Vis (defScope s_law_cell_at) "_law_k" := by first | exact Or.inl rfl | exact Or.inr (Or.inl rfl) | exact Or.inr (Or.inr rfl)
theorem l_law_cell_at_1 : Loc (defScope s_law_cell_at) "_law_k" := by first | exact Or.inl rfl | exact Or.inr rfl
theorem g_law_cell_at_len : (defScope s_law_cell_at).names.lookup ("len" : Str) = some .globalImplicit := by rfl
abbrev s_law_mix : Stmt := top 34
theorem sc_law_mix : FnScope ["_law_cell", "_law_by"] ["_law_cell", "_law_by"] (defScope s_law_mix) := ⟨rfl, rfl, rfl, by decide +kernel, rfl, by decide +kernel, by decide +kernel⟩
theorem v_law_mix_0 : Vis (defScope s_law_mix) "_law_cell" := by first | exact Or.inl rfl | exact Or.inr (Or.inl rfl) | exact Or.inr (Or.inr rfl)
theorem l_law_mix_0 : Loc (defScope s_law_mix) "_law_cell" := by first | exact Or.inl rfl | exact Or.inr rfl
theorem v_law_mix_1 : Vis (defScope s_law_mix) "_law_by" := by first | exact Or.inl rfl | exact Or.inr (Or.inl rfl) | exact Or.inr (Or.inr rfl)
theorem l_law_mix_1 : Loc (defScope s_law_mix) "_law_by" := by first | exact Or.inl rfl | exact Or.inr rfl
abbrev s_law_number : Stmt := top 36
theorem sc_law_number : FnScope ["_law_cell", "_law_size", "_law_wide", "_law_by"] ["_law_cell"] (defScope s_law_number) := ⟨rfl, rfl, rfl, by decide +kernel, rfl, by decide +kernel, by decide +kernel⟩
theorem v_law_number_0 : Vis (defScope s_law_number) "_law_cell" := by first | exact Or.inl rfl | exact Or.inr (Or.inl rfl) | exact Or.inr (Or.inr rfl)
theorem l_law_number_0 : Loc (defScope s_law_number) "_law_cell" := by first | exact Or.inl rfl | exact Or.inr rfl
theorem v_law_number_1 : Vis (defScope s_law_number) "_law_size" := by first | exact Or.inl rfl | exact Or.inr (Or.inl rfl) | exact Or.inr (Or.inr rfl)
theorem l_law_number_1 : Loc (defScope s_law_number) "_law_size" := by first | exact Or.inl rfl | exact Or.inr rfl
theorem v_law_number_2 : Vis (defScope s_law_number) "_law_wide" := by first | exact Or.inl rfl | exact Or.inr (Or.inl rfl) | exact Or.inr (Or.inr rfl)
theorem l_law_number_2 : Loc (defScope s_law_number) "_law_wide" := by first | exact Or.inl rfl | exact Or.inr rfl
theorem v_law_number_3 : Vis (defScope s_law_number) "_law_by" := by first | exact Or.inl rfl | exact Or.inr (Or.inl rfl) | exact Or.inr (Or.inr rfl)
theorem l_law_number_3 : Loc (defScope s_law_number) "_law_by" := by first | exact Or.inl rfl | exact Or.inr rfl
theorem g_law_number_tuple : (defScope s_law_number).names.lookup ("tuple" : Str) = some .globalImplicit := by rfl
theorem g_law_number_range : (defScope s_law_number).names.lookup ("range" : Str) = some .globalImplicit := by rfl
abbrev s_law_common : Stmt := top 37
theorem sc_law_common : FnScope ["_law_one", "_law_other", "_law_rest"] ["_law_one", "_law_other"] (defScope s_law_common) := ⟨rfl, rfl, rfl, by decide +kernel, rfl, by decide +kernel, by decide +kernel⟩
theorem v_law_common_0 : Vis (defScope s_law_common) "_law_one" := by first | exact Or.inl rfl | exact Or.inr (Or.inl rfl) | exact Or.inr (Or.inr rfl)
theorem l_law_common_0 : Loc (defScope s_law_common) "_law_one" := by first | exact Or.inl rfl | exact Or.inr rfl
theorem v_law_common_1 : Vis (defScope s_law_common) "_law_other" := by first | exact Or.inl rfl | exact Or.inr (Or.inl rfl) | exact Or.inr (Or.inr rfl)
theorem l_law_common_1 : Loc (defScope s_law_common) "_law_other" := by first | exact Or.inl rfl | exact Or.inr rfl
theorem v_law_common_2 : Vis (defScope s_law_common) "_law_rest" := by first | exact Or.inl rfl | exact Or.inr (Or.inl rfl) | exact Or.inr (Or.inr rfl)
theorem l_law_common_2 : Loc (defScope s_law_common) "_law_rest" := by first | exact Or.inl rfl | exact Or.inr rfl
abbrev s_law_part : Stmt := top 38
theorem sc_law_part : FnScope ["_law_cell", "_law_bottom", "_law_top", "_law_by"] ["_law_cell"] (defScope s_law_part) := ⟨rfl, rfl, rfl, by decide +kernel, rfl, by decide +kernel, by decide +kernel⟩
theorem v_law_part_0 : Vis (defScope s_law_part) "_law_cell" := by first | exact Or.inl rfl | exact Or.inr (Or.inl rfl) | exact Or.inr (Or.inr rfl)
theorem l_law_part_0 : Loc (defScope s_law_part) "_law_cell" := by first | exact Or.inl rfl | exact Or.inr rfl
theorem v_law_part_1 : Vis (defScope s_law_part) "_law_bottom" := by first | exact Or.inl rfl | exact Or.inr (Or.inl rfl) | exact Or.inr (Or.inr rfl)
theorem l_law_part_1 : Loc (defScope s_law_part) "_law_bottom" := by first | exact Or.inl rfl | exact Or.inr rfl
theorem v_law_part_2 : Vis (defScope s_law_part) "_law_top" := by first | exact Or.inl rfl | exact Or.inr (Or.inl rfl) | exact Or.inr (Or.inr rfl)
theorem l_law_part_2 : Loc (defScope s_law_part) "_law_top" := by first | exact Or.inl rfl | exact Or.inr rfl
theorem v_law_part_3 : Vis (defScope s_law_part) "_law_by" := by first | exact Or.inl rfl | exact Or.inr (Or.inl rfl) | exact Or.inr (Or.inr rfl)
theorem l_law_part_3 : Loc (defScope s_law_part) "_law_by" := by first | exact Or.inl rfl | exact Or.inr rfl
theorem g_law_part__law_mix : (defScope s_law_part).names.lookup ("_law_mix" : Str) = some .globalImplicit := by rfl
theorem g_law_part__law_common : (defScope s_law_part).names.lookup ("_law_common" : Str) = some .globalImplicit := by rfl
abbrev s_law_rule : Stmt := top 39
theorem sc_law_rule : FnScope ["_law_cell", "_law_deep", "_law_way", "_law_rest", "_law_one", "_law_other"] ["_law_cell", "_law_deep"] (defScope s_law_rule) := ⟨rfl, rfl, rfl, by decide +kernel, rfl, by decide +kernel, by decide +kernel⟩
theorem v_law_rule_0 : Vis (defScope s_law_rule) "_law_cell" := by first | exact Or.inl rfl | exact Or.inr (Or.inl rfl) | exact Or.inr (Or.inr rfl)
theorem l_law_rule_0 : Loc (defScope s_law_rule) "_law_cell" := by first | exact Or.inl rfl | exact Or.inr rfl
theorem v_law_rule_1 : Vis (defScope s_law_rule) "_law_deep" := by first | exact Or.inl rfl | exact Or.inr (Or.inl rfl) | exact Or.inr (Or.inr rfl)
theorem l_law_rule_1 : Loc (defScope s_law_rule) "_law_deep" := by first | exact Or.inl rfl | exact Or.inr rfl
theorem v_law_rule_2 : Vis (defScope s_law_rule) "_law_way" := by first | exact Or.inl rfl | exact Or.inr (Or.inl rfl) | exact Or.inr (Or.inr rfl)
theorem l_law_rule_2 : Loc (defScope s_law_rule) "_law_way" := by first | exact Or.inl rfl | exact Or.inr rfl
theorem v_law_rule_3 : Vis (defScope s_law_rule) "_law_rest" := by first | exact Or.inl rfl | exact Or.inr (Or.inl rfl) | exact Or.inr (Or.inr rfl)
theorem l_law_rule_3 : Loc (defScope s_law_rule) "_law_rest" := by first | exact Or.inl rfl | exact Or.inr rfl
theorem v_law_rule_4 : Vis (defScope s_law_rule) "_law_one" := by first | exact Or.inl rfl | exact Or.inr (Or.inl rfl) | exact Or.inr (Or.inr rfl)
theorem l_law_rule_4 : Loc (defScope s_law_rule) "_law_one" := by first | exact Or.inl rfl | exact Or.inr rfl
theorem v_law_rule_5 : Vis (defScope s_law_rule) "_law_other" := by first | exact Or.inl rfl | exact Or.inr (Or.inl rfl) | exact Or.inr (Or.inr rfl)
theorem l_law_rule_5 : Loc (defScope s_law_rule) "_law_other" := by first | exact Or.inl rfl | exact Or.inr rfl
theorem g_law_rule__law_rule : (defScope s_law_rule).names.lookup ("_law_rule" : Str) = some .globalImplicit := by rfl
theorem g_law_rule__law_mix : (defScope s_law_rule).names.lookup ("_law_mix" : Str) = some .globalImplicit := by rfl
theorem g_law_rule__law_part : (defScope s_law_rule).names.lookup ("_law_part" : Str) = some .globalImplicit := by rfl
abbrev s_law_rows : Stmt := top 40
theorem sc_law_rows : FnScope ["_law_script", "_law_rows_here", "_law_ahead", "_law_k", "_law_cell", "_law_prefix", "_law_for_all"] ["_law_script"] (defScope s_law_rows) := ⟨rfl, rfl, rfl, by decide +kernel, rfl, by decide +kernel, by decide +kernel⟩
theorem v_law_rows_0 : Vis (defScope s_law_rows) "_law_script" := by first | exact Or.inl rfl | exact Or.inr (Or.inl rfl) | exact Or.inr (Or.inr rfl)
theorem l_law_rows_0 : Loc (defScope s_law_rows) "_law_script" := by first | exact Or.inl rfl | exact Or.inr rfl
theorem v_law_rows_1 : Vis (defScope s_law_rows) "_law_rows_here" := by first | exact Or.inl rfl | exact Or.inr (Or.inl rfl) | exact Or.inr (Or.inr rfl)
theorem l_law_rows_1 : Loc (defScope s_law_rows) "_law_rows_here" := by first | exact Or.inl rfl | exact Or.inr rfl
theorem v_law_rows_2 : Vis (defScope s_law_rows) "_law_ahead" := by first | exact Or.inl rfl | exact Or.inr (Or.inl rfl) | exact Or.inr (Or.inr rfl)
theorem l_law_rows_2 : Loc (defScope s_law_rows) "_law_ahead" := by first | exact Or.inl rfl | exact Or.inr rfl
theorem v_law_rows_3 : Vis (defScope s_law_rows) "_law_k" := by first | exact Or.inl rfl | exact Or.inr (Or.inl rfl) | exact Or.inr (Or.inr rfl)
theorem l_law_rows_3 : Loc (defScope s_law_rows) "_law_k" := by first | exact Or.inl rfl | exact Or.inr rfl
theorem v_law_rows_4 : Vis (defScope s_law_rows) "_law_cell" := by first | exact Or.inl rfl | exact Or.inr (Or.inl rfl) | exact Or.inr (Or.inr rfl)
theorem l_law_rows_4 : Loc (defScope s_law_rows) "_law_cell" := by first | exact Or.inl rfl | exact Or.inr rfl
theorem v_law_rows_5 : Vis (defScope s_law_rows) "_law_prefix" := by first | exact Or.inl rfl | exact Or.inr (Or.inl rfl) | exact Or.inr (Or.inr rfl)
theorem l_law_rows_5 : Loc (defScope s_law_rows) "_law_prefix" := by first | exact Or.inl rfl | exact Or.inr rfl
theorem v_law_rows_6 : Vis (defScope s_law_rows) "_law_for_all" := by first | exact Or.inl rfl | exact Or.inr (Or.inl rfl) | exact Or.inr (Or.inr rfl)
theorem l_law_rows_6 : Loc (defScope s_law_rows) "_law_for_all" := by first | exact Or.inl rfl | exact Or.inr rfl
theorem g_law_rows_range : (defScope s_law_rows).names.lookup ("range" : Str) = some .globalImplicit := by rfl
theorem g_law_rows_len : (defScope s_law_rows).names.lookup ("len" : Str) = some .globalImplicit := by rfl
theorem g_law_rows__law_number : (defScope s_law_rows).names.lookup ("_law_number" : Str) = some .globalImplicit := by rfl
theorem g_law_rows__law_rule : (defScope s_law_rows).names.lookup ("_law_rule" : Str) = some .globalImplicit := by rfl
theorem g_law_rows__law_mix : (defScope s_law_rows).names.lookup ("_law_mix" : Str) = some .globalImplicit := by rfl
theorem g_law_rows__law_cell_at : (defScope s_law_rows).names.lookup ("_law_cell_at" : Str) = some .globalImplicit := by rfl
abbrev s_law_due : Stmt := top 43
theorem sc_law_due : FnScope ["_law_rows_here", "_law_number_here", "_law_due_here", "_law_far", "_law_prefix", "_law_told"] ["_law_rows_here", "_law_number_here"] (defScope s_law_due) := ⟨rfl, rfl, rfl, by decide +kernel, rfl, by decide +kernel, by decide +kernel⟩
theorem v_law_due_0 : Vis (defScope s_law_due) "_law_rows_here" := by first | exact Or.inl rfl | exact Or.inr (Or.inl rfl) | exact Or.inr (Or.inr rfl)
theorem l_law_due_0 : Loc (defScope s_law_due) "_law_rows_here" := by first | exact Or.inl rfl | exact Or.inr rfl
theorem v_law_due_1 : Vis (defScope s_law_due) "_law_number_here" := by first | exact Or.inl rfl | exact Or.inr (Or.inl rfl) | exact Or.inr (Or.inr rfl)
theorem l_law_due_1 : Loc (defScope s_law_due) "_law_number_here" := by first | exact Or.inl rfl | exact Or.inr rfl
theorem v_law_due_2 : Vis (defScope s_law_due) "_law_due_here" := by first | exact Or.inl rfl | exact Or.inr (Or.inl rfl) | exact Or.inr (Or.inr rfl)
theorem l_law_due_2 : Loc (defScope s_law_due) "_law_due_here" := by first | exact Or.inl rfl | exact Or.inr rfl
theorem v_law_due_3 : Vis (defScope s_law_due) "_law_far" := by first | exact Or.inl rfl | exact Or.inr (Or.inl rfl) | exact Or.inr (Or.inr rfl)
theorem l_law_due_3 : Loc (defScope s_law_due) "_law_far" := by first | exact Or.inl rfl | exact Or.inr rfl
theorem v_law_due_4 : Vis (defScope s_law_due) "_law_prefix" := by first | exact Or.inl rfl | exact Or.inr (Or.inl rfl) | exact Or.inr (Or.inr rfl)
theorem l_law_due_4 : Loc (defScope s_law_due) "_law_prefix" := by first | exact Or.inl rfl | exact Or.inr rfl
theorem v_law_due_5 : Vis (defScope s_law_due) "_law_told" := by first | exact Or.inl rfl | exact Or.inr (Or.inl rfl) | exact Or.inr (Or.inr rfl)
theorem l_law_due_5 : Loc (defScope s_law_due) "_law_told" := by first | exact Or.inl rfl | exact Or.inr rfl
theorem g_law_due_len : (defScope s_law_due).names.lookup ("len" : Str) = some .globalImplicit := by rfl
abbrev s_law_spoilt : Stmt := top 41
theorem sc_law_spoilt : FnScope ["_law_rows_here", "_law_cell", "_law_way", "_law_at", "_law_pick", "_law_some", "_law_prefix", "_law_told"] ["_law_rows_here", "_law_cell"] (defScope s_law_spoilt) := ⟨rfl, rfl, rfl, by decide +kernel, rfl, by decide +kernel, by decide +kernel⟩
theorem v_law_spoilt_0 : Vis (defScope s_law_spoilt) "_law_rows_here" := by first | exact Or.inl rfl | exact Or.inr (Or.inl rfl) | exact Or.inr (Or.inr rfl)
theorem l_law_spoilt_0 : Loc (defScope s_law_spoilt) "_law_rows_here" := by first | exact Or.inl rfl | exact Or.inr rfl
theorem v_law_spoilt_1 : Vis (defScope s_law_spoilt) "_law_cell" := by first | exact Or.inl rfl | exact Or.inr (Or.inl rfl) | exact Or.inr (Or.inr rfl)
theorem l_law_spoilt_1 : Loc (defScope s_law_spoilt) "_law_cell" := by first | exact Or.inl rfl | exact Or.inr rfl
theorem v_law_spoilt_2 : Vis (defScope s_law_spoilt) "_law_way" := by first | exact Or.inl rfl | exact Or.inr (Or.inl rfl) | exact Or.inr (Or.inr rfl)
theorem l_law_spoilt_2 : Loc (defScope s_law_spoilt) "_law_way" := by first | exact Or.inl rfl | exact Or.inr rfl
theorem v_law_spoilt_3 : Vis (defScope s_law_spoilt) "_law_at" := by first | exact Or.inl rfl | exact Or.inr (Or.inl rfl) | exact Or.inr (Or.inr rfl)
theorem l_law_spoilt_3 : Loc (defScope s_law_spoilt) "_law_at" := by first | exact Or.inl rfl | exact Or.inr rfl
theorem v_law_spoilt_4 : Vis (defScope s_law_spoilt) "_law_pick" := by first | exact Or.inl rfl | exact Or.inr (Or.inl rfl) | exact Or.inr (Or.inr rfl)
theorem l_law_spoilt_4 : Loc (defScope s_law_spoilt) "_law_pick" := by first | exact Or.inl rfl | exact Or.inr rfl
theorem v_law_spoilt_5 : Vis (defScope s_law_spoilt) "_law_some" := by first | exact Or.inl rfl | exact Or.inr (Or.inl rfl) | exact Or.inr (Or.inr rfl)
theorem l_law_spoilt_5 : Loc (defScope s_law_spoilt) "_law_some" := by first | exact Or.inl rfl | exact Or.inr rfl
theorem v_law_spoilt_6 : Vis (defScope s_law_spoilt) "_law_prefix" := by first | exact Or.inl rfl | exact Or.inr (Or.inl rfl) | exact Or.inr (Or.inr rfl)
theorem l_law_spoilt_6 : Loc (defScope s_law_spoilt) "_law_prefix" := by first | exact Or.inl rfl | exact Or.inr rfl
theorem v_law_spoilt_7 : Vis (defScope s_law_spoilt) "_law_told" := by first | exact Or.inl rfl | exact Or.inr (Or.inl rfl) | exact Or.inr (Or.inr rfl)
theorem l_law_spoilt_7 : Loc (defScope s_law_spoilt) "_law_told" := by first | exact Or.inl rfl | exact Or.inr rfl
theorem g_law_spoilt_len : (defScope s_law_spoilt).names.lookup ("len" : Str) = some .globalImplicit := by rfl
theorem g_law_spoilt_list : (defScope s_law_spoilt).names.lookup ("list" : Str) = some .globalImplicit := by rfl
theorem g_law_spoilt_tuple : (defScope s_law_spoilt).names.lookup ("tuple" : Str) = some .globalImplicit := by rfl
theorem g_law_spoilt_range : (defScope s_law_spoilt).names.lookup ("range" : Str) = some .globalImplicit := by rfl
abbrev s_law_refused : Stmt := top 42
theorem sc_law_refused : FnScope ["_law_rows_here", "e"] ["_law_rows_here"] (defScope s_law_refused) := ⟨rfl, rfl, rfl, by decide +kernel, rfl, by decide +kernel, by decide +kernel⟩
theorem v_law_refused_0 : Vis (defScope s_law_refused) "_law_rows_here" := by first | exact Or.inl rfl | exact Or.inr (Or.inl rfl) | exact Or.inr (Or.inr rfl)
theorem l_law_refused_0 : Loc (defScope s_law_refused) "_law_rows_here" := by first | exact Or.inl rfl | exact Or.inr rfl
theorem v_law_refused_1 : Vis (defScope s_law_refused) "e" := by first | exact Or.inl rfl | exact Or.inr (Or.inl rfl) | exact Or.inr (Or.inr rfl)
theorem l_law_refused_1 : Loc (defScope s_law_refused) "e" := by first | exact Or.inl rfl | exact Or.inr rfl
theorem g_law_refused_rules_of : (defScope s_law_refused).names.lookup ("rules_of" : Str) = some .globalImplicit := by rfl
theorem g_law_refused_TariffError : (defScope s_law_refused).names.lookup ("TariffError" : Str) = some .globalImplicit := by rfl
theorem g_law_refused_isinstance : (defScope s_law_refused).names.lookup ("isinstance" : Str) = some .globalImplicit := by rfl
theorem g_law_refused_NoRule : (defScope s_law_refused).names.lookup ("NoRule" : Str) = some .globalImplicit := by rfl
theorem g_law_refused_NoLot : (defScope s_law_refused).names.lookup ("NoLot" : Str) = some .globalImplicit := by rfl
theorem g_law_refused_NoNumber : (defScope s_law_refused).names.lookup ("NoNumber" : Str) = some .globalImplicit := by rfl
abbrev s_law : Stmt := top 44
theorem sc_law : FnScope ["_law_script", "_law_rows_here", "_law_handed", "_law_rules", "_law_k", "_law_cell", "_law_number_here", "_law_found", "_law_most"] ["_law_script"] (defScope s_law) := ⟨rfl, rfl, rfl, by decide +kernel, rfl, by decide +kernel, by decide +kernel⟩
theorem v_law_0 : Vis (defScope s_law) "_law_script" := by first | exact Or.inl rfl | exact Or.inr (Or.inl rfl) | exact Or.inr (Or.inr rfl)
theorem l_law_0 : Loc (defScope s_law) "_law_script" := by first | exact Or.inl rfl | exact Or.inr rfl
theorem v_law_1 : Vis (defScope s_law) "_law_rows_here" := by first | exact Or.inl rfl | exact Or.inr (Or.inl rfl) | exact Or.inr (Or.inr rfl)
theorem l_law_1 : Loc (defScope s_law) "_law_rows_here" := by first | exact Or.inl rfl | exact Or.inr rfl
theorem v_law_2 : Vis (defScope s_law) "_law_handed" := by first | exact Or.inl rfl | exact Or.inr (Or.inl rfl) | exact Or.inr (Or.inr rfl)
theorem l_law_2 : Loc (defScope s_law) "_law_handed" := by first | exact Or.inl rfl | exact Or.inr rfl
theorem v_law_3 : Vis (defScope s_law) "_law_rules" := by first | exact Or.inl rfl | exact Or.inr (Or.inl rfl) | exact Or.inr (Or.inr rfl)
theorem l_law_3 : Loc (defScope s_law) "_law_rules" := by first | exact Or.inl rfl | exact Or.inr rfl
theorem v_law_4 : Vis (defScope s_law) "_law_k" := by first | exact Or.inl rfl | exact Or.inr (Or.inl rfl) | exact Or.inr (Or.inr rfl)
theorem l_law_4 : Loc (defScope s_law) "_law_k" := by first | exact Or.inl rfl | exact Or.inr rfl
theorem v_law_5 : Vis (defScope s_law) "_law_cell" := by first | exact Or.inl rfl | exact Or.inr (Or.inl rfl) | exact Or.inr (Or.inr rfl)
theorem l_law_5 : Loc (defScope s_law) "_law_cell" := by first | exact Or.inl rfl | exact Or.inr rfl
theorem v_law_6 : Vis (defScope s_law) "_law_number_here" := by first | exact Or.inl rfl | exact Or.inr (Or.inl rfl) | exact Or.inr (Or.inr rfl)
theorem l_law_6 : Loc (defScope s_law) "_law_number_here" := by first | exact Or.inl rfl | exact Or.inr rfl
theorem v_law_7 : Vis (defScope s_law) "_law_found" := by first | exact Or.inl rfl | exact Or.inr (Or.inl rfl) | exact Or.inr (Or.inr rfl)
theorem l_law_7 : Loc (defScope s_law) "_law_found" := by first | exact Or.inl rfl | exact Or.inr rfl
theorem v_law_8 : Vis (defScope s_law) "_law_most" := by first | exact Or.inl rfl | exact Or.inr (Or.inl rfl) | exact Or.inr (Or.inr rfl)
theorem l_law_8 : Loc (defScope s_law) "_law_most" := by first | exact Or.inl rfl | exact Or.inr rfl
theorem g_law__law_rows : (defScope s_law).names.lookup ("_law_rows" : Str) = some .globalImplicit := by rfl
theorem g_law_list : (defScope s_law).names.lookup ("list" : Str) = some .globalImplicit := by rfl
theorem g_law_rules_of : (defScope s_law).names.lookup ("rules_of" : Str) = some .globalImplicit := by rfl
theorem g_law_isinstance : (defScope s_law).names.lookup ("isinstance" : Str) = some .globalImplicit := by rfl
theorem g_law__law_refused : (defScope s_law).names.lookup ("_law_refused" : Str) = some .globalImplicit := by rfl
theorem g_law__law_spoilt : (defScope s_law).names.lookup ("_law_spoilt" : Str) = some .globalImplicit := by rfl
theorem g_law__law_mix : (defScope s_law).names.lookup ("_law_mix" : Str) = some .globalImplicit := by rfl
theorem g_law__law_cell_at : (defScope s_law).names.lookup ("_law_cell_at" : Str) = some .globalImplicit := by rfl
theorem g_law_range : (defScope s_law).names.lookup ("range" : Str) = some .globalImplicit := by rfl
theorem g_law__law_number : (defScope s_law).names.lookup ("_law_number" : Str) = some .globalImplicit := by rfl
theorem g_law_rule_for : (defScope s_law).names.lookup ("rule_for" : Str) = some .globalImplicit := by rfl
theorem g_law_tuple : (defScope s_law).names.lookup ("tuple" : Str) = some .globalImplicit := by rfl
theorem g_law__law_due : (defScope s_law).names.lookup ("_law_due" : Str) = some .globalImplicit := by rfl

def wholeK : Kn → Bool
  | .int => true
  | _ => false
def spIsWhole (K : PySem.W.Frag) : Sp := fun vs H Q _ => ∃ v k, vs = [v] ∧ Kd K H v k ∧ Q (.bl (wholeK k)) H
theorem spIsWhole_of {K : PySem.W.Frag} {H : Hp} {v : V} {k : Kn} {Q : VK} {E : XK} (h : Kd K H v k) (q : Q (.bl (wholeK k)) H) : spIsWhole K [v] H Q E := ⟨v, k, rfl, h, q⟩
theorem kd_int {K : PySem.W.Frag} {H : Hp} {v : V} (h : Kd K H v .int) : ∃ i, v = .int i := by
  cases v with
  | int i => exact ⟨i, rfl⟩
  | ref a => rcases h with ⟨z, _⟩ | ⟨z, _⟩ | ⟨z, _⟩ <;> cases z
  | non => cases h
  | bl b => cases h
  | str x => cases h
  | byt b => exact h.elim
  | flt b => exact h.elim
  | ty n => exact h.elim
theorem kd_same {K : PySem.W.Frag} {H H' : Hp} {v : V} {k : Kn} (e : Same H H') (h : Kd K H v k) : Kd K H' v k := by
  cases v with
  | ref a =>
    rcases h with ⟨z, xs, h⟩ | ⟨z, xs, h⟩ | ⟨z, h⟩
    · exact .inl ⟨z, xs, e.seq h⟩
    · exact .inr (.inl ⟨z, xs, Same.tup e h⟩)
    · exact .inr (.inr ⟨z, e _ _ h⟩)
  | _ => exact h

theorem wholeK_ne {k : Kn} (h : k ≠ .int) : wholeK k = false := by
  cases k <;> first | rfl | exact absurd rfl h
section
variable {P : Program} {w : World} {K : PySem.W.Frag} {mg : Str → Option Value} {base : Heap} {f : Addr} {fd : FuncData}
theorem ok_is_whole (F : Fun K "is_whole" "is_whole" s_is_whole f fd) (M : Mg mg) : FnOk P w K mg base CX0 1 f fd ["thing"] (spIsWhole K) := by
  refine F.ok sc_is_whole (fun vs H Q E h => ?_) (fun cdv A outer s H vs Q E hr h => ?_)
  · obtain ⟨v, k, rfl, _⟩ := h
    rfl
  obtain ⟨v, k, rfl, hk, q⟩ := h
  refine ⟨_, (@pss_one _ _ _ (@ps_ret _ _ _ _ (@pe_and _ _ _ _ _ _ _ (@pe_callB _ _ _ _ _ _ _ _ _ call_isi g_is_whole_isinstance M.m_isinstance b_isinstance (@pa_cons _ _ _ _ _ (@pe_var _ 0 _ _ rfl v_is_whole_0 dn_thing dc_thing) (@pa_cons _ _ _ _ _ (@pe_bltn _ _ (.ty "int") _ _ g_is_whole_int M.m_int b_int rfl nn_int dn_int) (@pa_nil _) (star1 rfl)) (star1 rfl)) nn_isinstance dn_isinstance (star1 rfl) (nost1 rfl nost0)) (@pe_one _ _ _ _ _ (@pe_not _ _ _ _ (@pe_callB _ _ _ _ _ _ _ _ _ call_isi g_is_whole_isinstance M.m_isinstance b_isinstance (@pa_cons _ _ _ _ _ (@pe_var _ 0 _ _ rfl v_is_whole_0 dn_thing dc_thing) (@pa_cons _ _ _ _ _ (@pe_bltn _ _ (.ty "bool") _ _ g_is_whole_bool M.m_bool b_bool rfl nn_bool dn_bool) (@pa_nil _) (star1 rfl)) (star1 rfl)) nn_isinstance dn_isinstance (star1 rfl) (nost1 rfl nost0))))))), ?_⟩
  simp only [slots, Option.getD_some, Option.getD_none, tC, tVar, tCB, tCons, tNil, tRet, tAndV, tNotV, rIsi, isi_non_bl, isi_non_int, isi_non_str, isi_non_lst, isi_non_tup, isi_bl_bl, isi_bl_int, isi_bl_str, isi_bl_lst, isi_bl_tup, isi_int_bl, isi_int_int, isi_int_str, isi_int_lst, isi_int_tup, isi_str_bl, isi_str_int, isi_str_str, isi_str_lst, isi_str_tup, isi_lst_bl, isi_lst_int, isi_lst_str, isi_lst_lst, isi_lst_tup, isi_tup_bl, isi_tup_int, isi_tup_str, isi_tup_lst, isi_tup_tup, isi_dct_bl, isi_dct_int, isi_dct_str, isi_dct_lst, isi_dct_tup, Kd_non, Kd_bl, Kd_int, Kd_str, decide_true, decide_false, tyK_int, tyK_bool, tyK_str, tyK_list, tyK_tuple, L2.start, cxK, Int.reduceToNat, List.map_cons, List.map_nil, List.length_cons, List.length_nil, Nat.reduceAdd, Nat.reduceSub, Nat.zero_add, List.replicate_succ, List.replicate_zero, List.cons_append, List.nil_append, List.append_nil, List.getElem?_cons_zero, List.getElem?_cons_succ, List.set_cons_zero, List.set_cons_succ, Option.some.injEq, V.int.injEq, V.bl.injEq, V.ref.injEq, V.str.injEq, V.ty.injEq, List.cons.injEq, exists_eq_left', exists_eq_left, exists_eq_right, exists_and_left, exists_and_right, and_true, true_and, and_assoc, exists_const, decide_eq_true_eq, Bool.not_eq_true', Bool.not_true, Bool.not_false, Bool.not_not, decide_eq_false_iff_not, ite_not, Bool.false_eq_true, if_true, if_false, reduceCtorEq, and_false, false_and, exists_false, or_false, false_or, ↓reduceIte, eq_self, reduceIte]
  refine ⟨_, hk, ?_⟩
  cases k with
  | int => exact ⟨_, hk, q⟩
  | bl => exact ⟨_, hk, q⟩
  | _ => exact q
end

theorem tup_upd {H : Hp} {l p : Addr} {ys zs r : List V} (hl : H l = some (.lst ys)) (h : H p = some (.tup r)) : upd H l (.lst zs) p = some (.tup r) := by
  have n : p ≠ l := fun e => by rw [e, hl] at h; cases h
  rw [upd_ne n]
  exact h
theorem SqT.upd {K : PySem.W.Frag} {H : Hp} {l p : Addr} {ys zs r : List V} (h : SqT K H p r) (hl : H l = some (.lst ys)) : SqT K (upd H l (.lst zs)) p r := by
  rcases h with (h | ⟨o, h⟩) | h
  · exact .inl (.inl (tup_upd hl h))
  · refine .inl (.inr ⟨o, ?_⟩)
    rw [upd_ne (fun e => by rw [e, hl] at h; cases h)]
    exact h
  · exact .inr h

inductive Rl where
  | grown
  | change (d : Int)
  | share (t b : Int)
  | al (x y : Rl)
  | so (x y : Rl)
def ShOk (t b : Int) : Prop := 0 ≤ t ∧ t ≤ b ∧ 1 ≤ b ∧ b ≤ 10 ^ 9 ∧ Mth.gcd t b = 1
instance (t b : Int) : Decidable (ShOk t b) := by unfold ShOk; infer_instance
def Rl.dp : Rl → Nat
  | .al x y => max x.dp y.dp + 1
  | .so x y => max x.dp y.dp + 1
  | _ => 1
def Rl.ok : Rl → Prop
  | .grown => True
  | .change d => 1 ≤ d ∧ d ≤ 4
  | .share t b => ShOk t b
  | .al x y => x.ok ∧ y.ok
  | .so x y => x.ok ∧ y.ok
def Rl.data : Rl → PyData
  | .grown => .tuple [.str "grown"]
  | .change d => .tuple [.str "change", .int d]
  | .share t b => .tuple [.str "share", .tuple [.int t, .int b]]
  | .al x y => .tuple [.str "all", x.data, y.data]
  | .so x y => .tuple [.str "some", x.data, y.data]
theorem Rl.dp_pos (n : Rl) : 1 ≤ n.dp := by
  cases n <;> (unfold Rl.dp; omega)
abbrev TolA (K : PySem.W.Frag) (H : Hp) (v : V) (n : Rl) : Prop := Rep K H v n.data
structure RC where
  g : Addr
  c : Addr
  w : Addr
  al : Addr
  so : Addr
def ObjR (K : PySem.W.Frag) (cs : RC) (H : Hp) (a : Addr) : Rl → Prop
  | .grown => ∃ dx, H a = some (.ins cs.g dx [])
  | .change d => ∃ dx, H a = some (.ins cs.c dx [("deep", .int d)])
  | .share t b => ∃ dx p, H a = some (.ins cs.w dx [("share", .ref p)]) ∧ SqT K H p [.int t, .int b]
  | .al x y => ∃ dx a1 a2, H a = some (.ins cs.al dx [("one", .ref a1), ("other", .ref a2)]) ∧ ObjR K cs H a1 x ∧ ObjR K cs H a2 y
  | .so x y => ∃ dx a1 a2, H a = some (.ins cs.so dx [("one", .ref a1), ("other", .ref a2)]) ∧ ObjR K cs H a1 x ∧ ObjR K cs H a2 y
theorem ObjR.same {K : PySem.W.Frag} {cs : RC} {H H' : Hp} (e : Same H H') : ∀ {n : Rl} {a : Addr}, ObjR K cs H a n → ObjR K cs H' a n
  | .grown, _, ⟨dx, h⟩ => ⟨dx, e _ _ h⟩
  | .change _, _, ⟨dx, h⟩ => ⟨dx, e _ _ h⟩
  | .share _ _, _, ⟨dx, p, h, t⟩ => ⟨dx, p, e _ _ h, Same.tup e t⟩
  | .al _ _, _, ⟨dx, p1, p2, h, t1, t2⟩ => ⟨dx, p1, p2, e _ _ h, ObjR.same e t1, ObjR.same e t2⟩
  | .so _ _, _, ⟨dx, p1, p2, h, t1, t2⟩ => ⟨dx, p1, p2, e _ _ h, ObjR.same e t1, ObjR.same e t2⟩
inductive IntsAll (K : PySem.W.Frag) (H : Hp) : List V → List (List Int) → Prop
  | nil : IntsAll K H [] []
  | cons {p : Addr} {ns : List Int} {xs : List V} {fs : List (List Int)} : SqT K H p (ns.map V.int) → IntsAll K H xs fs → IntsAll K H (.ref p :: xs) (ns :: fs)
theorem IntsAll.same {K : PySem.W.Frag} {H H' : Hp} {xs : List V} {fs : List (List Int)} (h : IntsAll K H xs fs) (e : Same H H') : IntsAll K H' xs fs := by
  induction h with
  | nil => exact .nil
  | cons a _ ih => exact .cons (Same.tup e a) ih
theorem IntsAll.length {K : PySem.W.Frag} {H : Hp} {xs : List V} {fs : List (List Int)} (h : IntsAll K H xs fs) : xs.length = fs.length := by
  induction h with
  | nil => rfl
  | cons _ _ ih => rw [List.length_cons, List.length_cons, ih]
theorem IntsAll.at {K : PySem.W.Frag} {H : Hp} {xs : List V} {fs : List (List Int)} (h : IntsAll K H xs fs) : ∀ {i : Nat} {x : V}, xs[i]? = some x → ∃ p ns, x = .ref p ∧ fs[i]? = some ns ∧ SqT K H p (ns.map V.int) := by
  induction h with
  | nil => intro i x e; simp at e
  | cons a _ ih =>
    intro i x e
    cases i with
    | zero => cases e; exact ⟨_, _, rfl, rfl, a⟩
    | succ i => exact ih e
theorem IntsAll.snoc {K : PySem.W.Frag} {H : Hp} {xs : List V} {fs : List (List Int)} {p : Addr} {ns : List Int} (h : IntsAll K H xs fs) (T : SqT K H p (ns.map V.int)) : IntsAll K H (xs ++ [.ref p]) (fs ++ [ns]) := by
  induction h with
  | nil => exact .cons T .nil
  | cons a _ ih => exact .cons a ih
theorem IntsAll.upd {K : PySem.W.Frag} {H : Hp} {l : Addr} {ys zs xs : List V} {fs : List (List Int)} (h : IntsAll K H xs fs) (hl : H l = some (.lst ys)) : IntsAll K (upd H l (.lst zs)) xs fs := by
  induction h with
  | nil => exact .nil
  | cons a _ ih => exact .cons (SqT.upd a hl) ih
def enR (r : Rl) (nn : List Int) (price own : Int) (fs : List (List Int)) : Bool := match r with
  | .grown => decide (fs.length = 0)
  | .change d => fs.all fun o => decide (o.take d.toNat ≠ nn.take d.toNat)
  | .share t b => decide (price * t ≤ own * b)
  | .al x y => enR x nn price own fs && enR y nn price own fs
  | .so x y => enR x nn price own fs || enR y nn price own fs
structure EnC (K : PySem.W.Frag) (H : Hp) (n fl : Addr) (nn : List Int) (price own : Int) (fx : List V) (fs : List (List Int)) : Prop where
  TN : SqT K H n (nn.map V.int)
  L : SqL K H fl fx
  FA : IntsAll K H fx fs
  l4 : fs.length ≤ 4
  p1 : 1 ≤ price
  p12 : price ≤ 10 ^ 12
  o0 : 0 ≤ own
  o12 : own ≤ 10 ^ 12
theorem EnC.same {K : PySem.W.Frag} {H H' : Hp} {n fl : Addr} {nn : List Int} {price own : Int} {fx : List V} {fs : List (List Int)} (h : EnC K H n fl nn price own fx fs) (e : Same H H') : EnC K H' n fl nn price own fx fs := ⟨Same.tup e h.TN, e.seq h.L, h.FA.same e, h.l4, h.p1, h.p12, h.o0, h.o12⟩
def rlKd : Rl → Nat
  | .grown => 0
  | .change _ => 1
  | .share _ _ => 2
  | .al _ _ => 3
  | .so _ _ => 4
def rcCls (cs : RC) : Nat → Addr
  | 0 => cs.g
  | 1 => cs.c
  | 2 => cs.w
  | 3 => cs.al
  | _ => cs.so
def spTolR (K : PySem.W.Frag) (cs : RC) (d j : Nat) : Sp := fun vs H Q _ => ∃ (a : Addr) (n : Rl), vs = [.ref a] ∧ rlKd n = j ∧ ObjR K cs H a n ∧ n.dp ≤ d ∧ ∀ p H', Same H H' → TolA K H' (.ref p) n → Q (.ref p) H'
def spEnR (K : PySem.W.Frag) (cs : RC) (d j : Nat) : Sp := fun vs H Q _ => ∃ (a n fl : Addr) (r : Rl) (nn : List Int) (price own : Int) (fx : List V) (fs : List (List Int)), vs = [.ref a, .ref n, .int price, .int own, .ref fl] ∧ rlKd r = j ∧ ObjR K cs H a r ∧ r.ok ∧ r.dp ≤ d ∧ EnC K H n fl nn price own fx fs ∧ ∀ H', Same H H' → Q (.bl (enR r nn price own fs)) H'
def DR (spf : Nat → Nat → Sp) (cs : RC) (d : Nat) (C : Addr) (sp : Sp) : Prop := ∃ j, j < 5 ∧ C = rcCls cs j ∧ sp = spf d j
theorem obj_cls {K : PySem.W.Frag} {cs : RC} {H : Hp} {a : Addr} {n : Rl} (O : ObjR K cs H a n) : ∃ dx fs, H a = some (.ins (rcCls cs (rlKd n)) dx fs) ∧ fs.lookup ("told" : Str) = none ∧ fs.lookup ("enough" : Str) = none ∧ rlKd n < 5 := by
  cases n with
  | grown => obtain ⟨dx, h⟩ := O; exact ⟨_, _, h, rfl, rfl, by decide⟩
  | change d => obtain ⟨dx, h⟩ := O; exact ⟨_, _, h, rfl, rfl, (show 1 < 5 by decide)⟩
  | share t b => obtain ⟨dx, _, h, _⟩ := O; exact ⟨_, _, h, rfl, rfl, (show 2 < 5 by decide)⟩
  | al x y => obtain ⟨dx, _, _, h, _⟩ := O; exact ⟨_, _, h, rfl, rfl, (show 3 < 5 by decide)⟩
  | so x y => obtain ⟨dx, _, _, h, _⟩ := O; exact ⟨_, _, h, rfl, rfl, (show 4 < 5 by decide)⟩
theorem told_byR {K : PySem.W.Frag} {cs : RC} {H : Hp} {a : Addr} {n : Rl} {d : Nat} {Q : VK} (O : ObjR K cs H a n) (dp : n.dp ≤ d) (q : ∀ p H', Same H H' → TolA K H' (.ref p) n → Q (.ref p) H') : ∃ C dx fs, H a = some (.ins C dx fs) ∧ fs.lookup ("told" : Str) = none ∧ ∃ sp, DR (spTolR K cs) cs d C sp ∧ sp [.ref a] H Q E0 := by
  obtain ⟨dx, fs, h, h1, h2, h3⟩ := obj_cls O
  exact ⟨_, _, _, h, h1, _, ⟨_, h3, rfl, rfl⟩, a, n, rfl, rfl, O, dp, q⟩
theorem enough_byR {K : PySem.W.Frag} {cs : RC} {H : Hp} {a n fl : Addr} {r : Rl} {nn : List Int} {price own : Int} {fx : List V} {fs : List (List Int)} {d : Nat} {Q : VK} (O : ObjR K cs H a r) (ok : r.ok) (dp : r.dp ≤ d) (en : EnC K H n fl nn price own fx fs) (q : ∀ H', Same H H' → Q (.bl (enR r nn price own fs)) H') :
    ∃ C dx gs, H a = some (.ins C dx gs) ∧ gs.lookup ("enough" : Str) = none ∧ ∃ sp, DR (spEnR K cs) cs d C sp ∧ sp [.ref a, .ref n, .int price, .int own, .ref fl] H Q E0 := by
  obtain ⟨dx, gs, h, h1, h2, h3⟩ := obj_cls O
  exact ⟨_, _, _, h, h2, _, ⟨_, h3, rfl, rfl⟩, a, n, fl, r, nn, price, own, fx, fs, rfl, rfl, O, ok, dp, en, q⟩
theorem all_disp {P : Program} {w : World} {K : PySem.W.Frag} {mg : Str → Option Value} {base : Heap} {cs : RC} {m : Str} {ps : List Str} {spf : Nat → Nat → Sp} (cl : ∀ j, j < 5 → Cls K (rcCls cs j))
    (hp : ∀ j, j < 3 → ∀ k d, ∃ f fd, Meth K (rcCls cs j) m f ∧ FnOk P w K mg base CX0 (k + 1) f fd ps (spf d j) ∧ Binds K fd ps [])
    (h0 : ∀ j, 3 ≤ j → j < 5 → ∃ f fd, Meth K (rcCls cs j) m f ∧ FnOk P w K mg base CX0 1 f fd ps (spf 0 j) ∧ Binds K fd ps [])
    (hj : ∀ j, 3 ≤ j → j < 5 → ∀ d, (∀ C sp, DR spf cs d C sp → Disp P w K mg base m (1 + d) ps C sp) → ∃ f fd, Meth K (rcCls cs j) m f ∧ FnOk P w K mg base CX0 (1 + d + 1) f fd ps (spf (d + 1) j) ∧ Binds K fd ps []) :
    ∀ d C sp, DR spf cs d C sp → Disp P w K mg base m (1 + d) ps C sp := by
  intro d
  induction d with
  | zero =>
    rintro C sp ⟨j, hj5, rfl, rfl⟩
    refine ⟨cl j hj5, ?_⟩
    by_cases h3 : j < 3
    · exact hp j h3 0 0
    · exact h0 j (by omega) hj5
  | succ d ih =>
    rintro C sp ⟨j, hj5, rfl, rfl⟩
    refine ⟨cl j hj5, ?_⟩
    by_cases h3 : j < 3
    · exact hp j h3 (1 + d) (d + 1)
    · exact hj j (by omega) hj5 d ih
def spInit1 (C : Addr) (fld : Str) : Sp := fun vs H Q _ => ∃ x dx v, vs = [.ref x, v] ∧ H x = some (.ins C dx []) ∧ Q .non (upd H x (.ins C dx [(fld, v)]))
def spInit2 (K : PySem.W.Frag) : Sp := fun vs H Q _ => ∃ x C dx v1 v2, vs = [.ref x, v1, v2] ∧ H x = some (.ins C dx []) ∧ Cls K C ∧ NoAttr K C "one" ∧ NoAttr K C "other" ∧ ∀ H', H' x = some (.ins C dx [("one", v1), ("other", v2)]) → (∀ b, b ≠ x → H' b = H b) → Q .non H'
structure TwoC (K : PySem.W.Frag) (C : Addr) : Prop where
  cl : Cls K C
  n1 : NoAttr K C "one"
  n2 : NoAttr K C "other"
theorem make1 {H : Hp} {C x dx : Addr} {fld : Str} {v : V} (hx : H x = none) (hd : H dx = none) : Same H (upd (upd (upd H dx (.own x)) x (.ins C dx [])) x (.ins C dx [(fld, v)])) :=
  fun b u q => by rw [upd_ne (ne_of_none q hx), upd_ne (ne_of_none q hx), upd_ne (ne_of_none q hd)]; exact q
theorem make2 {H H' : Hp} {C x dx : Addr} (hx : H x = none) (hd : H dx = none) (e : ∀ b, b ≠ x → H' b = upd (upd H dx (.own x)) x (.ins C dx []) b) : Same H H' := fun b u q => by
  rw [e b (ne_of_none q hx), upd_ne (ne_of_none q hx), upd_ne (ne_of_none q hd)]
  exact q
inductive ShV (K : PySem.W.Frag) (H : Hp) : V → Bool → Prop
  | no {v : V} {k : Kn} : Kd K H v k → k ≠ .tup → ShV K H v false
  | len {p : Addr} {xs : List V} : SqT K H p xs → xs.length ≠ 2 → ShV K H (.ref p) false
  | two {p : Addr} {t b : Int} : SqT K H p [.int t, .int b] → ShV K H (.ref p) (decide (1 ≤ b ∧ Mth.gcd t b = 1))
inductive SoV (K : PySem.W.Frag) (H : Hp) : V → Bool → Prop
  | no {v : V} : ShV K H v false → SoV K H v false
  | two {p : Addr} {t b : Int} : SqT K H p [.int t, .int b] → SoV K H (.ref p) (decide (ShOk t b))
inductive DeV (K : PySem.W.Frag) (H : Hp) : V → Bool → Prop
  | no {v : V} {k : Kn} : Kd K H v k → k ≠ .int → DeV K H v false
  | int {d : Int} : DeV K H (.int d) (decide (1 ≤ d ∧ d ≤ 4))
theorem ShV.same {K : PySem.W.Frag} {H H' : Hp} {v : V} {b : Bool} (h : ShV K H v b) (e : Same H H') : ShV K H' v b := by
  cases h with
  | no k n => exact .no (kd_same e k) n
  | len t n => exact .len (Same.tup e t) n
  | two t => exact .two (Same.tup e t)
theorem SoV.same {K : PySem.W.Frag} {H H' : Hp} {v : V} {b : Bool} (h : SoV K H v b) (e : Same H H') : SoV K H' v b := by
  cases h with
  | no k => exact .no (k.same e)
  | two t => exact .two (Same.tup e t)
theorem DeV.same {K : PySem.W.Frag} {H H' : Hp} {v : V} {b : Bool} (h : DeV K H v b) (e : Same H H') : DeV K H' v b := by
  cases h with
  | no k n => exact .no (kd_same e k) n
  | int => exact .int
def spShareV (K : PySem.W.Frag) : Sp := fun vs H Q _ => ∃ v b, vs = [v] ∧ ShV K H v b ∧ Q (.bl b) H
def spShareO (K : PySem.W.Frag) : Sp := fun vs H Q _ => ∃ v b, vs = [v] ∧ SoV K H v b ∧ Q (.bl b) H
def spDeepV (K : PySem.W.Frag) : Sp := fun vs H Q _ => ∃ v b, vs = [v] ∧ DeV K H v b ∧ Q (.bl b) H
theorem isi_tup_ne {k : Kn} (h : k ≠ .tup) : isiB k .tup = false := by
  cases k <;> first | rfl | exact absurd rfl h
theorem isi_str_ne {k : Kn} (h : k ≠ .str) : isiB k .str = false := by
  cases k <;> first | rfl | exact absurd rfl h
theorem rep_tup {K : PySem.W.Frag} {H : Hp} {p : Addr} {ds : List PyData} (R : Rep K H (.ref p) (.tuple ds)) : ∃ xs, SqT K H p xs ∧ RepAll K H xs ds := by
  cases R with
  | tup T A => exact ⟨_, T, A⟩
theorem rep_cons {K : PySem.W.Frag} {H : Hp} {xs : List V} {d : PyData} {ds : List PyData} (R : RepAll K H xs (d :: ds)) : ∃ x ys, xs = x :: ys ∧ Rep K H x d ∧ RepAll K H ys ds := by
  cases R with
  | cons a b => exact ⟨_, _, rfl, a, b⟩
theorem rep_nil {K : PySem.W.Frag} {H : Hp} {xs : List V} (R : RepAll K H xs []) : xs = [] := by
  cases R
  rfl
theorem rep_str {K : PySem.W.Frag} {H : Hp} {x : V} {z : Str} (R : Rep K H x (.str z)) : x = .str z := by
  cases R
  rfl
theorem rep_int {K : PySem.W.Frag} {H : Hp} {x : V} {z : Int} (R : Rep K H x (.int z)) : x = .int z := by
  cases R
  rfl
theorem rep_ref {K : PySem.W.Frag} {H : Hp} {x : V} {ds : List PyData} (R : Rep K H x (.tuple ds)) : ∃ p, x = .ref p := by
  cases R
  exact ⟨_, rfl⟩
inductive RowR (K : PySem.W.Frag) (H : Hp) : Addr → Rl → Prop
  | grown {p : Addr} : SqT K H p [.str "grown"] → RowR K H p .grown
  | change {p : Addr} {d : Int} : SqT K H p [.str "change", .int d] → RowR K H p (.change d)
  | share {p s : Addr} {t b : Int} : SqT K H p [.str "share", .ref s] → SqT K H s [.int t, .int b] → RowR K H p (.share t b)
  | al {p a1 a2 : Addr} {x y : Rl} : SqT K H p [.str "all", .ref a1, .ref a2] → TolA K H (.ref a1) x → TolA K H (.ref a2) y → RowR K H p (.al x y)
  | so {p a1 a2 : Addr} {x y : Rl} : SqT K H p [.str "some", .ref a1, .ref a2] → TolA K H (.ref a1) x → TolA K H (.ref a2) y → RowR K H p (.so x y)
theorem told_ref {K : PySem.W.Frag} {H : Hp} {v : V} {n : Rl} (R : TolA K H v n) : ∃ a, v = .ref a := by
  unfold TolA at R
  cases n <;> (unfold Rl.data at R; cases R; exact ⟨_, rfl⟩)
theorem tol_row {K : PySem.W.Frag} {H : Hp} {p : Addr} {n : Rl} (R : TolA K H (.ref p) n) : RowR K H p n := by
  unfold TolA at R
  cases n with
  | grown =>
    obtain ⟨xs, T, A⟩ := rep_tup R
    obtain ⟨x, ys, rfl, a, b⟩ := rep_cons A
    rw [rep_nil b, rep_str a] at T
    exact .grown T
  | change d =>
    obtain ⟨xs, T, A⟩ := rep_tup R
    obtain ⟨x, ys, rfl, a, b⟩ := rep_cons A
    obtain ⟨y, zs, rfl, c, b⟩ := rep_cons b
    rw [rep_nil b, rep_str a, rep_int c] at T
    exact .change T
  | share t0 b0 =>
    obtain ⟨xs, T, A⟩ := rep_tup R
    obtain ⟨x, ys, rfl, a, b⟩ := rep_cons A
    obtain ⟨y, zs, rfl, c, b'⟩ := rep_cons b
    obtain ⟨s, rfl⟩ := rep_ref c
    obtain ⟨us, T2, A2⟩ := rep_tup c
    obtain ⟨u1, vs, rfl, a1, b1⟩ := rep_cons A2
    obtain ⟨u2, ws, rfl, a2, b2⟩ := rep_cons b1
    rw [rep_nil b2, rep_int a1, rep_int a2] at T2
    rw [rep_nil b', rep_str a] at T
    exact .share T T2
  | al u v =>
    obtain ⟨xs, T, A⟩ := rep_tup R
    obtain ⟨x, ys, rfl, a, b⟩ := rep_cons A
    obtain ⟨y, zs, rfl, c, b⟩ := rep_cons b
    obtain ⟨z, us, rfl, e, b⟩ := rep_cons b
    rw [rep_nil b, rep_str a] at T
    obtain ⟨a1, rfl⟩ := told_ref c
    obtain ⟨a2, rfl⟩ := told_ref e
    exact .al T c e
  | so u v =>
    obtain ⟨xs, T, A⟩ := rep_tup R
    obtain ⟨x, ys, rfl, a, b⟩ := rep_cons A
    obtain ⟨y, zs, rfl, c, b⟩ := rep_cons b
    obtain ⟨z, us, rfl, e, b⟩ := rep_cons b
    rw [rep_nil b, rep_str a] at T
    obtain ⟨a1, rfl⟩ := told_ref c
    obtain ⟨a2, rfl⟩ := told_ref e
    exact .so T c e
theorem tol_grown {K : PySem.W.Frag} {H : Hp} {p : Addr} (T : SqT K H p [.str "grown"]) : TolA K H (.ref p) .grown := .tup T (.cons (.str _) .nil)
theorem tol_change {K : PySem.W.Frag} {H : Hp} {p : Addr} {d : Int} (T : SqT K H p [.str "change", .int d]) : TolA K H (.ref p) (.change d) := .tup T (.cons (.str _) (.cons (.int _) .nil))
theorem tol_share {K : PySem.W.Frag} {H : Hp} {p s : Addr} {t b : Int} (T : SqT K H p [.str "share", .ref s]) (T2 : SqT K H s [.int t, .int b]) : TolA K H (.ref p) (.share t b) := .tup T (.cons (.str _) (.cons (.tup T2 (.cons (.int _) (.cons (.int _) .nil))) .nil))
theorem tol_al {K : PySem.W.Frag} {H : Hp} {p : Addr} {v1 v2 : V} {x y : Rl} (T : SqT K H p [.str "all", v1, v2]) (R1 : TolA K H v1 x) (R2 : TolA K H v2 y) : TolA K H (.ref p) (.al x y) := .tup T (.cons (.str _) (.cons R1 (.cons R2 .nil)))
theorem tol_so {K : PySem.W.Frag} {H : Hp} {p : Addr} {v1 v2 : V} {x y : Rl} (T : SqT K H p [.str "some", v1, v2]) (R1 : TolA K H v1 x) (R2 : TolA K H v2 y) : TolA K H (.ref p) (.so x y) := .tup T (.cons (.str _) (.cons R1 (.cons R2 .nil)))
theorem rep_any {K : PySem.W.Frag} {H : Hp} {p : Addr} {n : Rl} (R : TolA K H (.ref p) n) : ∃ xs, SqT K H p xs ∧ True := by
  cases tol_row R with
  | grown T => exact ⟨_, T, trivial⟩
  | change T => exact ⟨_, T, trivial⟩
  | share T _ => exact ⟨_, T, trivial⟩
  | al T _ _ => exact ⟨_, T, trivial⟩
  | so T _ _ => exact ⟨_, T, trivial⟩
structure BadOne (K : PySem.W.Frag) (H : Hp) (z : Str) (rest : List V) : Prop where
  h0 : rest = [] → z ≠ "grown"
  hc : ∀ v, rest = [v] → z = "change" → DeV K H v false
  hs : ∀ v, rest = [v] → z = "share" → SoV K H v false
theorem BadOne.same {K : PySem.W.Frag} {H H' : Hp} {z : Str} {rest : List V} (h : BadOne K H z rest) (e : Same H H') : BadOne K H' z rest := ⟨h.h0, fun v a b => (h.hc v a b).same e, fun v a b => (h.hs v a b).same e⟩
inductive RBad (K : PySem.W.Frag) (H : Hp) : Nat → V → Prop
  | zero (v : V) : RBad K H 0 v
  | no {d : Nat} {v : V} {k : Kn} : Kd K H v k → k ≠ .tup → RBad K H (d + 1) v
  | nil {d : Nat} {p : Addr} : SqT K H p [] → RBad K H (d + 1) (.ref p)
  | head {d : Nat} {p : Addr} {x : V} {k : Kn} {xs : List V} : SqT K H p (x :: xs) → Kd K H x k → k ≠ .str → RBad K H (d + 1) (.ref p)
  | one {d : Nat} {p : Addr} {z : Str} {rest : List V} : SqT K H p (.str z :: rest) → (rest.length ≠ 2 ∨ z = "change" ∨ z = "share") → BadOne K H z rest → RBad K H (d + 1) (.ref p)
  | fst {d : Nat} {p : Addr} {z : Str} {v1 v2 : V} : (z = "all" ∨ z = "some") → SqT K H p [.str z, v1, v2] → RBad K H d v1 → RBad K H (d + 1) (.ref p)
  | snd {d : Nat} {p : Addr} {z : Str} {v1 v2 : V} {r : Rl} : (z = "all" ∨ z = "some") → SqT K H p [.str z, v1, v2] → TolA K H v1 r → r.ok → r.dp ≤ d → RBad K H d v2 → RBad K H (d + 1) (.ref p)
theorem RBad.same {K : PySem.W.Frag} {H H' : Hp} (e : Same H H') {d : Nat} {v : V} (h : RBad K H d v) : RBad K H' d v := by
  induction h with
  | zero v => exact .zero v
  | no k n => exact .no (kd_same e k) n
  | nil t => exact .nil (Same.tup e t)
  | head t k n => exact .head (Same.tup e t) (kd_same e k) n
  | one t n b => exact .one (Same.tup e t) n (b.same e)
  | fst z t _ ih => exact .fst z (Same.tup e t) ih
  | snd z t r o dp _ ih => exact .snd z (Same.tup e t) (r.same e) o dp ih
def spOfRules (K : PySem.W.Frag) (cs : RC) : Sp := fun vs H Q _ => ∃ (wd : Str) (a1 a2 : Addr) (x y n : Rl), vs = [.str wd, .ref a1, .ref a2] ∧ ((wd = "all" ∧ n = .al x y) ∨ (wd = "some" ∧ n = .so x y)) ∧ ObjR K cs H a1 x ∧ ObjR K cs H a2 y ∧ ∀ a H', Same H H' → ObjR K cs H' a n → Q (.ref a) H'
def spOfOne (K : PySem.W.Frag) (cs : RC) (cN : Addr) : Sp := fun vs H Q E => (∃ (p : Addr) (n : Rl), vs = [.ref p] ∧ TolA K H (.ref p) n ∧ n.ok ∧ n.dp = 1 ∧ ∀ a H', Same H H' → ObjR K cs H' a n → Q (.ref a) H') ∨
  ∃ (p : Addr) (z : Str) (rest : List V), vs = [.ref p] ∧ SqT K H p (.str z :: rest) ∧ BadOne K H z rest ∧ ∀ H', Same H H' → E (.ref cN) none H'
def spWithin (K : PySem.W.Frag) (cs : RC) (cN : Addr) (d : Nat) : Sp := fun vs H Q E => (∃ (p : Addr) (n : Rl), vs = [.int (d : Int), .ref p] ∧ TolA K H (.ref p) n ∧ n.ok ∧ n.dp ≤ d ∧ ∀ a H', Same H H' → ObjR K cs H' a n → Q (.ref a) H') ∨
  ∃ v, vs = [.int (d : Int), v] ∧ RBad K H d v ∧ ∀ H', Same H H' → E (.ref cN) none H'
def spRuleOf (K : PySem.W.Frag) (cs : RC) (cN : Addr) : Sp := fun vs H Q E => (∃ (p : Addr) (n : Rl), vs = [.ref p] ∧ TolA K H (.ref p) n ∧ n.ok ∧ n.dp ≤ 4 ∧ ∀ a H', Same H H' → ObjR K cs H' a n → Q (.ref a) H') ∨
  ∃ v, vs = [v] ∧ RBad K H 4 v ∧ ∀ H', Same H H' → E (.ref cN) none H'
def spNo : Sp := fun _ _ _ _ => False
theorem fn_no {P : Program} {w : World} {K : PySem.W.Frag} {mg : Str → Option Value} {base : Heap} {CX : CXT} {k : Nat} {f : Addr} {fd : FuncData} {ps : List Str} : FnOk P w K mg base CX k f fd ps spNo := ⟨fun _ _ _ _ h => h.elim, fun _ _ _ _ _ _ _ _ _ _ _ _ _ h => h.elim⟩
def spCommon : Sp := fun vs H Q _ => ∃ a b, vs = [.int a, .int b] ∧ Q (.int (Mth.gcd a b)) H
theorem spCommon_of {H : Hp} {a b : Int} {Q : VK} {E : XK} (q : Q (.int (Mth.gcd a b)) H) : spCommon [.int a, .int b] H Q E := ⟨a, b, rfl, q⟩

section
variable {P : Program} {w : World} {K : PySem.W.Frag} {mg : Str → Option Value} {base : Heap} {f : Addr} {fd : FuncData} {cs : RC} {cN : Addr}
theorem ok_common_of (F : Fun K "common_of" "common_of" s_common_of f fd) (M : Mg mg) : FnOk P w K mg base CX0 1 f fd ["one", "other"] spCommon := by
  refine F.ok sc_common_of (fun vs H Q E h => ?_) (fun cdv A outer s H vs Q E hr h => ?_)
  · obtain ⟨a, b, rfl, _⟩ := h
    rfl
  obtain ⟨a, b, rfl, q⟩ := h
  refine ⟨_, (@pss_cons _ _ _ _ _ (@ps_set _ _ 2 _ _ _ _ sc_common_of.nd rfl l_common_of_2 (@pe_callB _ _ _ _ _ _ _ _ _ call_abs g_common_of_abs M.m_abs b_abs (@pa_cons _ _ _ _ _ (@pe_var _ 0 _ _ rfl v_common_of_0 dn_one dc_one) (@pa_nil _) (star1 rfl)) nn_abs dn_abs (star1 rfl) nost0) (swap1 rfl) (.inl rfl)) (@pss_cons _ _ _ _ _ (@ps_set _ _ 3 _ _ _ _ sc_common_of.nd rfl l_common_of_3 (@pe_callB _ _ _ _ _ _ _ _ _ call_abs g_common_of_abs M.m_abs b_abs (@pa_cons _ _ _ _ _ (@pe_var _ 1 _ _ rfl v_common_of_1 dn_other dc_other) (@pa_nil _) (star1 rfl)) nn_abs dn_abs (star1 rfl) nost0) (swap1 rfl) (.inl rfl)) (@pss_cons _ _ _ _ _ (@ps_while _ _ _ _ _ _ PassesOwn.never (@pt_cmpR _ _ _ _ _ _ _ _ (@op_ne _) (@pe_var _ 3 _ _ rfl v_common_of_3 dn_smaller dc_smaller) (@pe_int _ _ _ _) (nomark _)) (@pss_cons _ _ _ _ _ (@ps_set _ _ 4 _ _ _ _ sc_common_of.nd rfl l_common_of_4 (@pe_op _ _ _ _ _ _ _ _ (@op_mod _) (@pe_var _ 2 _ _ rfl v_common_of_2 dn_larger dc_larger) (@pe_var _ 3 _ _ rfl v_common_of_3 dn_smaller dc_smaller)) (swap1 rfl) (.inl rfl)) (@pss_cons _ _ _ _ _ (@ps_set _ _ 2 _ _ _ _ sc_common_of.nd rfl l_common_of_2 (@pe_var _ 3 _ _ rfl v_common_of_3 dn_smaller dc_smaller) (swap1 rfl) (.inl rfl)) (@pss_one _ _ _ (@ps_set _ _ 3 _ _ _ _ sc_common_of.nd rfl l_common_of_3 (@pe_var _ 4 _ _ rfl v_common_of_4 dn_rest dc_rest) (swap1 rfl) (.inl rfl)))))) (@pss_one _ _ _ (@ps_ret _ _ _ _ (@pe_var _ 2 _ _ rfl v_common_of_2 dn_larger dc_larger)))))), ?_⟩
  simp only [slots, Option.getD_some, Option.getD_none, tSeq, tAsg, gName, tOp, tC, tVar, tCB, tCons, tNil, rI, tRet, tTest, rNe, Kd_non, Kd_bl, Kd_int, Kd_str, sc_non_non, sc_non_int, sc_int_non, sc_non_bl, sc_bl_non, sc_non_str, sc_str_non, sc_int_int, sc_bl_bl, sc_str_str, sc_int_str, sc_str_int, sc_bl_str, sc_str_bl, decide_true, decide_false, L2.start, cxK, Int.reduceToNat, List.map_cons, List.map_nil, List.length_cons, List.length_nil, Nat.reduceAdd, Nat.reduceSub, Nat.zero_add, List.replicate_succ, List.replicate_zero, List.cons_append, List.nil_append, List.append_nil, List.getElem?_cons_zero, List.getElem?_cons_succ, List.set_cons_zero, List.set_cons_succ, Option.some.injEq, V.int.injEq, V.bl.injEq, V.ref.injEq, V.str.injEq, V.ty.injEq, List.cons.injEq, exists_eq_left', exists_eq_left, exists_eq_right, exists_and_left, exists_and_right, and_true, true_and, and_assoc, exists_const, decide_eq_true_eq, Bool.not_eq_true', Bool.not_true, Bool.not_false, Bool.not_not, decide_eq_false_iff_not, ite_not, Bool.false_eq_true, if_true, if_false, reduceCtorEq, and_false, false_and, exists_false, or_false, false_or, ↓reduceIte, eq_self, reduceIte]
  refine ⟨fun m σ H' => H' = H ∧ ∃ l t r, σ = [some (.int a), some (.int b), some (.int l), some (.int t), r] ∧ 0 ≤ l ∧ 0 ≤ t ∧ t.toNat = m ∧ Mth.gcd l t = Mth.gcd a b, ⟨_, rfl, _, _, _, rfl, ?_, ?_, rfl, Mth.gcd_abs a b⟩, ?_⟩
  · split <;> omega
  · split <;> omega
  rintro m σ H' ⟨rfl, l, t, r, rfl, hl, ht, rfl, hg⟩
  simp only [slots, Option.getD_some, Option.getD_none, tSeq, tAsg, gName, tOp, tC, tVar, tCB, tCons, tNil, rI, tRet, tTest, rNe, Kd_non, Kd_bl, Kd_int, Kd_str, sc_non_non, sc_non_int, sc_int_non, sc_non_bl, sc_bl_non, sc_non_str, sc_str_non, sc_int_int, sc_bl_bl, sc_str_str, sc_int_str, sc_str_int, sc_bl_str, sc_str_bl, decide_true, decide_false, L2.start, cxK, Int.reduceToNat, List.map_cons, List.map_nil, List.length_cons, List.length_nil, Nat.reduceAdd, Nat.reduceSub, Nat.zero_add, List.replicate_succ, List.replicate_zero, List.cons_append, List.nil_append, List.append_nil, List.getElem?_cons_zero, List.getElem?_cons_succ, List.set_cons_zero, List.set_cons_succ, Option.some.injEq, V.int.injEq, V.bl.injEq, V.ref.injEq, V.str.injEq, V.ty.injEq, List.cons.injEq, exists_eq_left', exists_eq_left, exists_eq_right, exists_and_left, exists_and_right, and_true, true_and, and_assoc, exists_const, decide_eq_true_eq, Bool.not_eq_true', Bool.not_true, Bool.not_false, Bool.not_not, decide_eq_false_iff_not, ite_not, Bool.false_eq_true, if_true, if_false, reduceCtorEq, and_false, false_and, exists_false, or_false, false_or, ↓reduceIte, eq_self, reduceIte]
  split
  · rename_i e
    subst e
    rw [Mth.gcd_zero hl] at hg
    rw [hg]
    exact q
  · rename_i e
    have tp : 0 < t := by omega
    have m0 := Int.emod_nonneg l (show t ≠ 0 by omega)
    have m1 := Int.emod_lt_of_pos l tp
    exact ⟨_, fun _ _ h => h, tp, (l % t).toNat, by omega, rfl, t, l % t, ⟨_, rfl⟩, by omega, m0, rfl, by rw [Mth.gcd_step hl tp]; exact hg⟩
theorem ok_is_share (F : Fun K "is_share" "is_share" s_is_share f fd) (M : Mg mg) (C_is_whole : Cal P w K mg base CX0 "is_whole" 1 ["thing"] (spIsWhole K)) (C_common_of : Cal P w K mg base CX0 "common_of" 1 ["one", "other"] spCommon) : FnOk P w K mg base CX0 2 f fd ["thing"] (spShareV K) := by
  refine F.ok sc_is_share (fun vs H Q E h => ?_) (fun cdv A outer s H vs Q E hr h => ?_)
  · obtain ⟨v, b, rfl, _⟩ := h
    rfl
  obtain ⟨v, b, rfl, B, q⟩ := h
  refine ⟨_, (@pss_cons _ _ _ _ _ (@ps_if _ _ _ _ _ _ _ _ (@PW.pt _ _ _ (@pw_or _ _ _ _ _ _ _ (@pt_not _ _ _ _ (@pt_val _ _ _ (@pe_callB _ _ _ _ _ _ _ _ _ call_isi g_is_share_isinstance M.m_isinstance b_isinstance (@pa_cons _ _ _ _ _ (@pe_var _ 0 _ _ rfl v_is_share_0 dn_thing dc_thing) (@pa_cons _ _ _ _ _ (@pe_bltn _ _ (.ty "tuple") _ _ g_is_share_tuple M.m_tuple b_tuple rfl nn_tuple dn_tuple) (@pa_nil _) (star1 rfl)) (star1 rfl)) nn_isinstance dn_isinstance (star1 rfl) (nost1 rfl nost0)) (test1 rfl))) (@pw_or1 _ _ _ _ (@pt_cmpR _ _ _ _ _ _ _ _ (@op_ne _) (@pe_callB _ _ _ _ _ _ _ _ _ call_len_seq g_is_share_len M.m_len b_len (@pa_cons _ _ _ _ _ (@pe_var _ 0 _ _ rfl v_is_share_0 dn_thing dc_thing) (@pa_nil _) (star1 rfl)) nn_len dn_len (star1 rfl) nost0) (@pe_int _ _ _ _) (nomark _))))) (@pss_one _ _ _ (@ps_ret _ _ _ _ (@pe_bl _ _ _ _))) (@pss_nil _)) (@pss_cons _ _ _ _ _ (@ps_if _ _ _ _ _ _ _ _ (@PW.pt _ _ _ (@pw_or _ _ _ _ _ _ _ (@pt_not _ _ _ _ (@pt_val _ _ _ (@pe_callC _ _ _ _ _ _ _ _ _ _ _ C_is_whole hr g_is_share_is_whole (@pa_cons _ _ _ _ _ (@pe_ix _ _ _ _ _ _ _ (@ix_tup _) (@pe_var _ 0 _ _ rfl v_is_share_0 dn_thing dc_thing) (@pe_int _ _ _ _) (fun _ _ => rfl)) (@pa_nil _) (star1 rfl)) (by decide) dn_is_whole (star1 rfl) nost0) (test1 rfl))) (@pw_or1 _ _ _ _ (@pt_not _ _ _ _ (@pt_val _ _ _ (@pe_callC _ _ _ _ _ _ _ _ _ _ _ C_is_whole hr g_is_share_is_whole (@pa_cons _ _ _ _ _ (@pe_ix _ _ _ _ _ _ _ (@ix_tup _) (@pe_var _ 0 _ _ rfl v_is_share_0 dn_thing dc_thing) (@pe_int _ _ _ _) (fun _ _ => rfl)) (@pa_nil _) (star1 rfl)) (by decide) dn_is_whole (star1 rfl) nost0) (test1 rfl)))))) (@pss_one _ _ _ (@ps_ret _ _ _ _ (@pe_bl _ _ _ _))) (@pss_nil _)) (@pss_one _ _ _ (@ps_ret _ _ _ _ (@pe_and _ _ _ _ _ _ _ (@pe_cmpR _ _ _ _ _ _ _ _ (@op_ge _) (@pe_ix _ _ _ _ _ _ _ (@ix_tup _) (@pe_var _ 0 _ _ rfl v_is_share_0 dn_thing dc_thing) (@pe_int _ _ _ _) (fun _ _ => rfl)) (@pe_int _ _ _ _) (nomark _)) (@pe_one _ _ _ _ _ (@pe_cmpR _ _ _ _ _ _ _ _ (@op_eq _) (@pe_callC _ _ _ _ _ _ _ _ _ _ _ C_common_of hr g_is_share_common_of (@pa_cons _ _ _ _ _ (@pe_ix _ _ _ _ _ _ _ (@ix_tup _) (@pe_var _ 0 _ _ rfl v_is_share_0 dn_thing dc_thing) (@pe_int _ _ _ _) (fun _ _ => rfl)) (@pa_cons _ _ _ _ _ (@pe_ix _ _ _ _ _ _ _ (@ix_tup _) (@pe_var _ 0 _ _ rfl v_is_share_0 dn_thing dc_thing) (@pe_int _ _ _ _) (fun _ _ => rfl)) (@pa_nil _) (star1 rfl)) (star1 rfl)) (by decide) dn_common_of (star1 rfl) (nost1 rfl nost0)) (@pe_int _ _ _ _) (nomark _)))))))), ?_⟩
  cases B with
  | no hk ne =>
    simp only [slots, Option.getD_some, Option.getD_none, tSeq, tOp, tC, tVar, tCB, tCons, tNil, tCall, rI0, tRet, tIfS, tTest, tB, tOr, tNot, tAndV, tNext, rEq, rNe, rIsi, rIxT, isi_non_bl, isi_non_int, isi_non_str, isi_non_lst, isi_non_tup, isi_bl_bl, isi_bl_int, isi_bl_str, isi_bl_lst, isi_bl_tup, isi_int_bl, isi_int_int, isi_int_str, isi_int_lst, isi_int_tup, isi_str_bl, isi_str_int, isi_str_str, isi_str_lst, isi_str_tup, isi_lst_bl, isi_lst_int, isi_lst_str, isi_lst_lst, isi_lst_tup, isi_tup_bl, isi_tup_int, isi_tup_str, isi_tup_lst, isi_tup_tup, isi_dct_bl, isi_dct_int, isi_dct_str, isi_dct_lst, isi_dct_tup, Kd_non, Kd_bl, Kd_int, Kd_str, sc_non_non, sc_non_int, sc_int_non, sc_non_bl, sc_bl_non, sc_non_str, sc_str_non, sc_int_int, sc_bl_bl, sc_str_str, sc_int_str, sc_str_int, sc_bl_str, sc_str_bl, decide_true, decide_false, tyK_int, tyK_bool, tyK_str, tyK_list, tyK_tuple, L2.start, cxK, Int.reduceToNat, List.map_cons, List.map_nil, List.length_cons, List.length_nil, Nat.reduceAdd, Nat.reduceSub, Nat.zero_add, List.replicate_succ, List.replicate_zero, List.cons_append, List.nil_append, List.append_nil, List.getElem?_cons_zero, List.getElem?_cons_succ, List.set_cons_zero, List.set_cons_succ, Option.some.injEq, V.int.injEq, V.bl.injEq, V.ref.injEq, V.str.injEq, V.ty.injEq, List.cons.injEq, exists_eq_left', exists_eq_left, exists_eq_right, exists_and_left, exists_and_right, and_true, true_and, and_assoc, exists_const, decide_eq_true_eq, Bool.not_eq_true', Bool.not_true, Bool.not_false, Bool.not_not, decide_eq_false_iff_not, ite_not, Bool.false_eq_true, if_true, if_false, reduceCtorEq, and_false, false_and, exists_false, or_false, false_or, ↓reduceIte, eq_self, reduceIte]
    refine ⟨_, hk, ?_⟩
    rw [if_pos (isi_tup_ne ne)]
    exact q
  | @len p xs T ne =>
    simp only [slots, Option.getD_some, Option.getD_none, tSeq, tOp, tC, tVar, tCB, tCons, tNil, tCall, rI0, tRet, tIfS, tTest, tB, tOr, tNot, tAndV, tNext, rEq, rNe, rIsi, rIxT, isi_non_bl, isi_non_int, isi_non_str, isi_non_lst, isi_non_tup, isi_bl_bl, isi_bl_int, isi_bl_str, isi_bl_lst, isi_bl_tup, isi_int_bl, isi_int_int, isi_int_str, isi_int_lst, isi_int_tup, isi_str_bl, isi_str_int, isi_str_str, isi_str_lst, isi_str_tup, isi_lst_bl, isi_lst_int, isi_lst_str, isi_lst_lst, isi_lst_tup, isi_tup_bl, isi_tup_int, isi_tup_str, isi_tup_lst, isi_tup_tup, isi_dct_bl, isi_dct_int, isi_dct_str, isi_dct_lst, isi_dct_tup, Kd_non, Kd_bl, Kd_int, Kd_str, sc_non_non, sc_non_int, sc_int_non, sc_non_bl, sc_bl_non, sc_non_str, sc_str_non, sc_int_int, sc_bl_bl, sc_str_str, sc_int_str, sc_str_int, sc_bl_str, sc_str_bl, decide_true, decide_false, tyK_int, tyK_bool, tyK_str, tyK_list, tyK_tuple, L2.start, cxK, Int.reduceToNat, List.map_cons, List.map_nil, List.length_cons, List.length_nil, Nat.reduceAdd, Nat.reduceSub, Nat.zero_add, List.replicate_succ, List.replicate_zero, List.cons_append, List.nil_append, List.append_nil, List.getElem?_cons_zero, List.getElem?_cons_succ, List.set_cons_zero, List.set_cons_succ, Option.some.injEq, V.int.injEq, V.bl.injEq, V.ref.injEq, V.str.injEq, V.ty.injEq, List.cons.injEq, exists_eq_left', exists_eq_left, exists_eq_right, exists_and_left, exists_and_right, and_true, true_and, and_assoc, exists_const, decide_eq_true_eq, Bool.not_eq_true', Bool.not_true, Bool.not_false, Bool.not_not, decide_eq_false_iff_not, ite_not, Bool.false_eq_true, if_true, if_false, reduceCtorEq, and_false, false_and, exists_false, or_false, false_or, ↓reduceIte, eq_self, reduceIte]
    refine ⟨_, Kd.tup T, ?_⟩
    rw [if_neg (by decide)]
    refine ⟨_, .inr T, ?_⟩
    rw [if_neg (by omega)]
    exact q
  | @two p t b T =>
    simp only [slots, Option.getD_some, Option.getD_none, tSeq, tOp, tC, tVar, tCB, tCons, tNil, tCall, rI0, tRet, tIfS, tTest, tB, tOr, tNot, tAndV, tNext, rEq, rNe, rIsi, rIxT, isi_non_bl, isi_non_int, isi_non_str, isi_non_lst, isi_non_tup, isi_bl_bl, isi_bl_int, isi_bl_str, isi_bl_lst, isi_bl_tup, isi_int_bl, isi_int_int, isi_int_str, isi_int_lst, isi_int_tup, isi_str_bl, isi_str_int, isi_str_str, isi_str_lst, isi_str_tup, isi_lst_bl, isi_lst_int, isi_lst_str, isi_lst_lst, isi_lst_tup, isi_tup_bl, isi_tup_int, isi_tup_str, isi_tup_lst, isi_tup_tup, isi_dct_bl, isi_dct_int, isi_dct_str, isi_dct_lst, isi_dct_tup, Kd_non, Kd_bl, Kd_int, Kd_str, sc_non_non, sc_non_int, sc_int_non, sc_non_bl, sc_bl_non, sc_non_str, sc_str_non, sc_int_int, sc_bl_bl, sc_str_str, sc_int_str, sc_str_int, sc_bl_str, sc_str_bl, decide_true, decide_false, tyK_int, tyK_bool, tyK_str, tyK_list, tyK_tuple, L2.start, cxK, Int.reduceToNat, List.map_cons, List.map_nil, List.length_cons, List.length_nil, Nat.reduceAdd, Nat.reduceSub, Nat.zero_add, List.replicate_succ, List.replicate_zero, List.cons_append, List.nil_append, List.append_nil, List.getElem?_cons_zero, List.getElem?_cons_succ, List.set_cons_zero, List.set_cons_succ, Option.some.injEq, V.int.injEq, V.bl.injEq, V.ref.injEq, V.str.injEq, V.ty.injEq, List.cons.injEq, exists_eq_left', exists_eq_left, exists_eq_right, exists_and_left, exists_and_right, and_true, true_and, and_assoc, exists_const, decide_eq_true_eq, Bool.not_eq_true', Bool.not_true, Bool.not_false, Bool.not_not, decide_eq_false_iff_not, ite_not, Bool.false_eq_true, if_true, if_false, reduceCtorEq, and_false, false_and, exists_false, or_false, false_or, ↓reduceIte, eq_self, reduceIte]
    refine ⟨_, Kd.tup T, ?_⟩
    rw [if_neg (by decide)]
    refine ⟨_, .inr T, ?_⟩
    rw [if_pos (by rfl)]
    refine ⟨_, T, _, rfl, spIsWhole_of (k := .int) rfl ⟨_, rfl, ?_⟩⟩
    rw [if_neg (by decide)]
    refine ⟨_, T, _, rfl, spIsWhole_of (k := .int) rfl ⟨_, rfl, ?_⟩⟩
    rw [if_neg (by decide)]
    refine ⟨_, T, _, rfl, _, rfl, ?_⟩
    by_cases b1 : 1 ≤ b
    · rw [if_pos b1]
      refine ⟨_, T, _, rfl, _, T, _, rfl, spCommon_of ?_⟩
      simp only [slots, Option.getD_some, Option.getD_none, tSeq, tOp, tC, tVar, tCB, tCons, tNil, tCall, rI0, tRet, tIfS, tTest, tB, tOr, tNot, tAndV, tNext, rEq, rNe, rIsi, rIxT, isi_non_bl, isi_non_int, isi_non_str, isi_non_lst, isi_non_tup, isi_bl_bl, isi_bl_int, isi_bl_str, isi_bl_lst, isi_bl_tup, isi_int_bl, isi_int_int, isi_int_str, isi_int_lst, isi_int_tup, isi_str_bl, isi_str_int, isi_str_str, isi_str_lst, isi_str_tup, isi_lst_bl, isi_lst_int, isi_lst_str, isi_lst_lst, isi_lst_tup, isi_tup_bl, isi_tup_int, isi_tup_str, isi_tup_lst, isi_tup_tup, isi_dct_bl, isi_dct_int, isi_dct_str, isi_dct_lst, isi_dct_tup, Kd_non, Kd_bl, Kd_int, Kd_str, sc_non_non, sc_non_int, sc_int_non, sc_non_bl, sc_bl_non, sc_non_str, sc_str_non, sc_int_int, sc_bl_bl, sc_str_str, sc_int_str, sc_str_int, sc_bl_str, sc_str_bl, decide_true, decide_false, tyK_int, tyK_bool, tyK_str, tyK_list, tyK_tuple, L2.start, cxK, Int.reduceToNat, List.map_cons, List.map_nil, List.length_cons, List.length_nil, Nat.reduceAdd, Nat.reduceSub, Nat.zero_add, List.replicate_succ, List.replicate_zero, List.cons_append, List.nil_append, List.append_nil, List.getElem?_cons_zero, List.getElem?_cons_succ, List.set_cons_zero, List.set_cons_succ, Option.some.injEq, V.int.injEq, V.bl.injEq, V.ref.injEq, V.str.injEq, V.ty.injEq, List.cons.injEq, exists_eq_left', exists_eq_left, exists_eq_right, exists_and_left, exists_and_right, and_true, true_and, and_assoc, exists_const, decide_eq_true_eq, Bool.not_eq_true', Bool.not_true, Bool.not_false, Bool.not_not, decide_eq_false_iff_not, ite_not, Bool.false_eq_true, if_true, if_false, reduceCtorEq, and_false, false_and, exists_false, or_false, false_or, ↓reduceIte, eq_self, reduceIte]
      have e : decide (1 ≤ b ∧ Mth.gcd t b = 1) = decide (Mth.gcd t b = 1) := decide_eq_decide.mpr ⟨fun h => h.2, fun h => ⟨b1, h⟩⟩
      rw [e] at q
      exact q
    · rw [if_neg b1]
      rw [decide_eq_false (fun h => b1 h.1)] at q
      exact q
theorem ok_is_deep (F : Fun K "is_deep" "is_deep" s_is_deep f fd) (M : Mg mg) (C_is_whole : Cal P w K mg base CX0 "is_whole" 1 ["thing"] (spIsWhole K)) : FnOk P w K mg base CX0 2 f fd ["thing"] (spDeepV K) := by
  refine F.ok sc_is_deep (fun vs H Q E h => ?_) (fun cdv A outer s H vs Q E hr h => ?_)
  · obtain ⟨v, b, rfl, _⟩ := h
    rfl
  obtain ⟨v, b, rfl, B, q⟩ := h
  refine ⟨_, (@pss_one _ _ _ (@ps_ret _ _ _ _ (@pe_and _ _ _ _ _ _ _ (@pe_callC _ _ _ _ _ _ _ _ _ _ _ C_is_whole hr g_is_deep_is_whole (@pa_cons _ _ _ _ _ (@pe_var _ 0 _ _ rfl v_is_deep_0 dn_thing dc_thing) (@pa_nil _) (star1 rfl)) (by decide) dn_is_whole (star1 rfl) nost0) (@pe_one _ _ _ _ _ (@pe_chain _ _ _ _ _ _ _ _ _ _ _ _ op_le op_le (@pe_int _ _ _ _) (@pe_var _ 0 _ _ rfl v_is_deep_0 dn_thing dc_thing) (@pe_int _ _ _ _) (by with_unfolding_all rfl)))))), ?_⟩
  cases B with
  | no hk ne =>
    simp only [slots, Option.getD_some, Option.getD_none, tC, tVar, tCons, tNil, tCall, rI0, tRet, tAndV, tChain, Kd_non, Kd_bl, Kd_int, Kd_str, decide_true, decide_false, L2.start, cxK, Int.reduceToNat, List.map_cons, List.map_nil, List.length_cons, List.length_nil, Nat.reduceAdd, Nat.reduceSub, Nat.zero_add, List.replicate_succ, List.replicate_zero, List.cons_append, List.nil_append, List.append_nil, List.getElem?_cons_zero, List.getElem?_cons_succ, List.set_cons_zero, List.set_cons_succ, Option.some.injEq, V.int.injEq, V.bl.injEq, V.ref.injEq, V.str.injEq, V.ty.injEq, List.cons.injEq, exists_eq_left', exists_eq_left, exists_eq_right, exists_and_left, exists_and_right, and_true, true_and, and_assoc, exists_const, decide_eq_true_eq, Bool.not_eq_true', Bool.not_true, Bool.not_false, Bool.not_not, decide_eq_false_iff_not, ite_not, Bool.false_eq_true, if_true, if_false, reduceCtorEq, and_false, false_and, exists_false, or_false, false_or, ↓reduceIte, eq_self, reduceIte]
    refine spIsWhole_of hk ⟨_, rfl, ?_⟩
    rw [wholeK_ne ne, if_neg (by decide)]
    exact q
  | @int d =>
    simp only [slots, Option.getD_some, Option.getD_none, tC, tVar, tCons, tNil, tCall, rI0, tRet, tAndV, tChain, Kd_non, Kd_bl, Kd_int, Kd_str, decide_true, decide_false, L2.start, cxK, Int.reduceToNat, List.map_cons, List.map_nil, List.length_cons, List.length_nil, Nat.reduceAdd, Nat.reduceSub, Nat.zero_add, List.replicate_succ, List.replicate_zero, List.cons_append, List.nil_append, List.append_nil, List.getElem?_cons_zero, List.getElem?_cons_succ, List.set_cons_zero, List.set_cons_succ, Option.some.injEq, V.int.injEq, V.bl.injEq, V.ref.injEq, V.str.injEq, V.ty.injEq, List.cons.injEq, exists_eq_left', exists_eq_left, exists_eq_right, exists_and_left, exists_and_right, and_true, true_and, and_assoc, exists_const, decide_eq_true_eq, Bool.not_eq_true', Bool.not_true, Bool.not_false, Bool.not_not, decide_eq_false_iff_not, ite_not, Bool.false_eq_true, if_true, if_false, reduceCtorEq, and_false, false_and, exists_false, or_false, false_or, ↓reduceIte, eq_self, reduceIte]
    refine spIsWhole_of (k := .int) rfl ⟨_, rfl, ?_⟩
    rw [if_pos (show wholeK Kn.int = true from rfl)]
    by_cases d1 : 1 ≤ d
    · rw [if_pos d1]
      have e : decide (1 ≤ d ∧ d ≤ 4) = decide (d ≤ 4) := decide_eq_decide.mpr ⟨fun h => h.2, fun h => ⟨d1, h⟩⟩
      rw [e] at q
      exact q
    · rw [if_neg d1]
      rw [decide_eq_false (fun h => d1 h.1)] at q
      exact q
theorem ok_is_share_of_one (F : Fun K "is_share_of_one" "is_share_of_one" s_is_share_of_one f fd) (M : Mg mg) (C_is_share : Cal P w K mg base CX0 "is_share" 2 ["thing"] (spShareV K)) : FnOk P w K mg base CX0 3 f fd ["thing"] (spShareO K) := by
  refine F.ok sc_is_share_of_one (fun vs H Q E h => ?_) (fun cdv A outer s H vs Q E hr h => ?_)
  · obtain ⟨v, b, rfl, _⟩ := h
    rfl
  obtain ⟨v, b, rfl, B, q⟩ := h
  refine ⟨_, (@pss_one _ _ _ (@ps_ret _ _ _ _ (@pe_and _ _ _ _ _ _ _ (@pe_callC _ _ _ _ _ _ _ _ _ _ _ C_is_share hr g_is_share_of_one_is_share (@pa_cons _ _ _ _ _ (@pe_var _ 0 _ _ rfl v_is_share_of_one_0 dn_thing dc_thing) (@pa_nil _) (star1 rfl)) (by decide) dn_is_share (star1 rfl) nost0) (@pe_one _ _ _ _ _ (@pe_chain3 _ _ _ _ _ _ _ _ _ _ _ _ _ _ _ _ op_le op_le op_le (@pe_int _ _ _ _) (@pe_ix _ _ _ _ _ _ _ (@ix_tup _) (@pe_var _ 0 _ _ rfl v_is_share_of_one_0 dn_thing dc_thing) (@pe_int _ _ _ _) (fun _ _ => rfl)) (@pe_ix _ _ _ _ _ _ _ (@ix_tup _) (@pe_var _ 0 _ _ rfl v_is_share_of_one_0 dn_thing dc_thing) (@pe_int _ _ _ _) (fun _ _ => rfl)) (@pe_op _ _ _ _ _ _ _ _ (@op_pow _) (@pe_int _ _ _ _) (@pe_int _ _ _ _)) (by with_unfolding_all rfl)))))), ?_⟩
  cases B with
  | no hv =>
    simp only [tChain3, slots, Option.getD_some, Option.getD_none, tOp, tC, tVar, tCons, tNil, tCall, rI, rI0, tRet, tAndV, rIxT, Kd_non, Kd_bl, Kd_int, Kd_str, decide_true, decide_false, L2.start, cxK, Int.reduceToNat, List.map_cons, List.map_nil, List.length_cons, List.length_nil, Nat.reduceAdd, Nat.reduceSub, Nat.zero_add, List.replicate_succ, List.replicate_zero, List.cons_append, List.nil_append, List.append_nil, List.getElem?_cons_zero, List.getElem?_cons_succ, List.set_cons_zero, List.set_cons_succ, Option.some.injEq, V.int.injEq, V.bl.injEq, V.ref.injEq, V.str.injEq, V.ty.injEq, List.cons.injEq, exists_eq_left', exists_eq_left, exists_eq_right, exists_and_left, exists_and_right, and_true, true_and, and_assoc, exists_const, decide_eq_true_eq, Bool.not_eq_true', Bool.not_true, Bool.not_false, Bool.not_not, decide_eq_false_iff_not, ite_not, Bool.false_eq_true, if_true, if_false, reduceCtorEq, and_false, false_and, exists_false, or_false, false_or, ↓reduceIte, eq_self, reduceIte]
    refine ⟨_, _, rfl, hv, ⟨_, rfl, ?_⟩⟩
    rw [if_neg (by decide)]
    exact q
  | @two p t b T =>
    simp only [tChain3, slots, Option.getD_some, Option.getD_none, tOp, tC, tVar, tCons, tNil, tCall, rI, rI0, tRet, tAndV, rIxT, Kd_non, Kd_bl, Kd_int, Kd_str, decide_true, decide_false, L2.start, cxK, Int.reduceToNat, List.map_cons, List.map_nil, List.length_cons, List.length_nil, Nat.reduceAdd, Nat.reduceSub, Nat.zero_add, List.replicate_succ, List.replicate_zero, List.cons_append, List.nil_append, List.append_nil, List.getElem?_cons_zero, List.getElem?_cons_succ, List.set_cons_zero, List.set_cons_succ, Option.some.injEq, V.int.injEq, V.bl.injEq, V.ref.injEq, V.str.injEq, V.ty.injEq, List.cons.injEq, exists_eq_left', exists_eq_left, exists_eq_right, exists_and_left, exists_and_right, and_true, true_and, and_assoc, exists_const, decide_eq_true_eq, Bool.not_eq_true', Bool.not_true, Bool.not_false, Bool.not_not, decide_eq_false_iff_not, ite_not, Bool.false_eq_true, if_true, if_false, reduceCtorEq, and_false, false_and, exists_false, or_false, false_or, ↓reduceIte, eq_self, reduceIte]
    refine ⟨_, _, rfl, .two T, ⟨_, rfl, ?_⟩⟩
    by_cases h1 : 1 ≤ b ∧ Mth.gcd t b = 1
    · rw [if_pos (decide_eq_true h1)]
      refine ⟨_, T, _, rfl, _, rfl, ?_⟩
      by_cases t0 : 0 ≤ t
      · rw [if_pos t0]
        refine ⟨_, T, _, rfl, _, rfl, _, rfl, ?_⟩
        by_cases tb : t ≤ b
        · rw [if_pos tb]
          refine ⟨cpow, _, rfl, ?_⟩
          have e : decide (ShOk t b) = decide (b ≤ 10 ^ 9) := decide_eq_decide.mpr ⟨fun h => h.2.2.2.1, fun h => ⟨t0, tb, h1.1, h, h1.2⟩⟩
          rw [e] at q
          exact q
        · rw [if_neg tb]
          rw [decide_eq_false (fun h : ShOk t b => tb h.2.1)] at q
          exact q
      · rw [if_neg t0]
        rw [decide_eq_false (fun h : ShOk t b => t0 h.1)] at q
        exact q
    · rw [if_neg (by rw [decide_eq_false h1]; decide)]
      rw [decide_eq_false (fun h : ShOk t b => h1 ⟨h.2.2.1, h.2.2.2.2⟩)] at q
      exact q
theorem ok_Change_init (F : Fun K "__init__" "Change.__init__" s_Change_init f fd) (M : Mg mg) (cl : Cls K cs.c) (na : NoAttr K cs.c "deep") : FnOk P w K mg base CX0 1 f fd ["self", "deep"] (spInit1 cs.c "deep") := by
  refine F.ok sc_Change_init (fun vs H Q E h => ?_) (fun cdv A outer s H vs Q E hr h => ?_)
  · obtain ⟨x, dx, v, rfl, _⟩ := h
    rfl
  obtain ⟨x, dx, v, rfl, hx, q⟩ := h
  refine ⟨_, (@pss_one _ _ _ (@ps_fld _ _ _ _ _ _ _ _ (@pe_var _ 0 _ _ rfl v_Change_init_0 dn_self dc_self) (@pe_var _ 1 _ _ rfl v_Change_init_1 dn_deep dc_deep) (swap1 rfl))), ?_⟩
  simp only [sFld, slots, Option.getD_some, Option.getD_none, tVar, Kd_non, Kd_bl, Kd_int, Kd_str, decide_true, decide_false, L2.start, cxK, Int.reduceToNat, List.map_cons, List.map_nil, List.length_cons, List.length_nil, Nat.reduceAdd, Nat.reduceSub, Nat.zero_add, List.replicate_succ, List.replicate_zero, List.cons_append, List.nil_append, List.append_nil, List.getElem?_cons_zero, List.getElem?_cons_succ, List.set_cons_zero, List.set_cons_succ, Option.some.injEq, V.int.injEq, V.bl.injEq, V.ref.injEq, V.str.injEq, V.ty.injEq, List.cons.injEq, exists_eq_left', exists_eq_left, exists_eq_right, exists_and_left, exists_and_right, and_true, true_and, and_assoc, exists_const, decide_eq_true_eq, Bool.not_eq_true', Bool.not_true, Bool.not_false, Bool.not_not, decide_eq_false_iff_not, ite_not, Bool.false_eq_true, if_true, if_false, reduceCtorEq, and_false, false_and, exists_false, or_false, false_or, ↓reduceIte, eq_self, reduceIte]
  exact ⟨_, _, _, hx, cl, na, by decide, q⟩
theorem ok_Worked_init (F : Fun K "__init__" "Worked.__init__" s_Worked_init f fd) (M : Mg mg) (cl : Cls K cs.w) (na : NoAttr K cs.w "share") : FnOk P w K mg base CX0 1 f fd ["self", "share"] (spInit1 cs.w "share") := by
  refine F.ok sc_Worked_init (fun vs H Q E h => ?_) (fun cdv A outer s H vs Q E hr h => ?_)
  · obtain ⟨x, dx, v, rfl, _⟩ := h
    rfl
  obtain ⟨x, dx, v, rfl, hx, q⟩ := h
  refine ⟨_, (@pss_one _ _ _ (@ps_fld _ _ _ _ _ _ _ _ (@pe_var _ 0 _ _ rfl v_Worked_init_0 dn_self dc_self) (@pe_var _ 1 _ _ rfl v_Worked_init_1 dn_share dc_share) (swap1 rfl))), ?_⟩
  simp only [sFld, slots, Option.getD_some, Option.getD_none, tVar, Kd_non, Kd_bl, Kd_int, Kd_str, decide_true, decide_false, L2.start, cxK, Int.reduceToNat, List.map_cons, List.map_nil, List.length_cons, List.length_nil, Nat.reduceAdd, Nat.reduceSub, Nat.zero_add, List.replicate_succ, List.replicate_zero, List.cons_append, List.nil_append, List.append_nil, List.getElem?_cons_zero, List.getElem?_cons_succ, List.set_cons_zero, List.set_cons_succ, Option.some.injEq, V.int.injEq, V.bl.injEq, V.ref.injEq, V.str.injEq, V.ty.injEq, List.cons.injEq, exists_eq_left', exists_eq_left, exists_eq_right, exists_and_left, exists_and_right, and_true, true_and, and_assoc, exists_const, decide_eq_true_eq, Bool.not_eq_true', Bool.not_true, Bool.not_false, Bool.not_not, decide_eq_false_iff_not, ite_not, Bool.false_eq_true, if_true, if_false, reduceCtorEq, and_false, false_and, exists_false, or_false, false_or, ↓reduceIte, eq_self, reduceIte]
  exact ⟨_, _, _, hx, cl, na, by decide, q⟩
theorem ok_OfRules_init (F : Fun K "__init__" "OfRules.__init__" s_OfRules_init f fd) (M : Mg mg) : FnOk P w K mg base CX0 1 f fd ["self", "one", "other"] (spInit2 K) := by
  refine F.ok sc_OfRules_init (fun vs H Q E h => ?_) (fun cdv A outer s H vs Q E hr h => ?_)
  · obtain ⟨x, C, dx, v1, v2, rfl, _⟩ := h
    rfl
  obtain ⟨x, C, dx, v1, v2, rfl, hx, cl, n1, n2, q⟩ := h
  refine ⟨_, (@pss_cons _ _ _ _ _ (@ps_fld _ _ _ _ _ _ _ _ (@pe_var _ 0 _ _ rfl v_OfRules_init_0 dn_self dc_self) (@pe_var _ 1 _ _ rfl v_OfRules_init_1 dn_one dc_one) (swap1 rfl)) (@pss_one _ _ _ (@ps_fld _ _ _ _ _ _ _ _ (@pe_var _ 0 _ _ rfl v_OfRules_init_0 dn_self dc_self) (@pe_var _ 2 _ _ rfl v_OfRules_init_2 dn_other dc_other) (swap1 rfl)))), ?_⟩
  simp only [sFld, slots, Option.getD_some, Option.getD_none, tSeq, tVar, Kd_non, Kd_bl, Kd_int, Kd_str, decide_true, decide_false, L2.start, cxK, Int.reduceToNat, List.map_cons, List.map_nil, List.length_cons, List.length_nil, Nat.reduceAdd, Nat.reduceSub, Nat.zero_add, List.replicate_succ, List.replicate_zero, List.cons_append, List.nil_append, List.append_nil, List.getElem?_cons_zero, List.getElem?_cons_succ, List.set_cons_zero, List.set_cons_succ, Option.some.injEq, V.int.injEq, V.bl.injEq, V.ref.injEq, V.str.injEq, V.ty.injEq, List.cons.injEq, exists_eq_left', exists_eq_left, exists_eq_right, exists_and_left, exists_and_right, and_true, true_and, and_assoc, exists_const, decide_eq_true_eq, Bool.not_eq_true', Bool.not_true, Bool.not_false, Bool.not_not, decide_eq_false_iff_not, ite_not, Bool.false_eq_true, if_true, if_false, reduceCtorEq, and_false, false_and, exists_false, or_false, false_or, ↓reduceIte, eq_self, reduceIte]
  exact ⟨_, _, _, hx, cl, n1, by decide, _, _, _, upd_same, cl, n2, (show 1 < 1000 by decide), q _ upd_same fun b hb => by rw [upd_ne hb, upd_ne hb]⟩
theorem ok_rule_of_rules (F : Fun K "rule_of_rules" "rule_of_rules" s_rule_of_rules f fd) (M : Mg mg) (Z_AllOf : MkC P w K mg base "AllOf" cs.al 1 ["self", "one", "other"] (spInit2 K)) (Z_OneOf : MkC P w K mg base "OneOf" cs.so 1 ["self", "one", "other"] (spInit2 K)) (t1 : TwoC K cs.al) (t2 : TwoC K cs.so) : FnOk P w K mg base CX0 3 f fd ["word", "one", "other"] (spOfRules K cs) := by
  refine F.ok sc_rule_of_rules (fun vs H Q E h => ?_) (fun cdv A outer s H vs Q E hr h => ?_)
  · obtain ⟨wd, a1, a2, x, y, n, rfl, _⟩ := h
    rfl
  obtain ⟨wd, a1, a2, x, y, n, rfl, hw, O1, O2, q⟩ := h
  refine ⟨_, (@pss_cons _ _ _ _ _ (@ps_if _ _ _ _ _ _ _ _ (@pt_cmpR _ _ _ _ _ _ _ _ (@op_eq _) (@pe_var _ 0 _ _ rfl v_rule_of_rules_0 dn_word dc_word) (@pe_str _ _ _ _) (nomark _)) (@pss_one _ _ _ (@ps_ret _ _ _ _ (@pe_makeC _ _ _ _ _ _ _ _ _ _ _ _ Z_AllOf hr g_rule_of_rules_AllOf (@pa_cons _ _ _ _ _ (@pe_var _ 1 _ _ rfl v_rule_of_rules_1 dn_one dc_one) (@pa_cons _ _ _ _ _ (@pe_var _ 2 _ _ rfl v_rule_of_rules_2 dn_other dc_other) (@pa_nil _) (star1 rfl)) (star1 rfl)) (by decide) dn_AllOf (star1 rfl) (nost1 rfl nost0)))) (@pss_nil _)) (@pss_one _ _ _ (@ps_ret _ _ _ _ (@pe_makeC _ _ _ _ _ _ _ _ _ _ _ _ Z_OneOf hr g_rule_of_rules_OneOf (@pa_cons _ _ _ _ _ (@pe_var _ 1 _ _ rfl v_rule_of_rules_1 dn_one dc_one) (@pa_cons _ _ _ _ _ (@pe_var _ 2 _ _ rfl v_rule_of_rules_2 dn_other dc_other) (@pa_nil _) (star1 rfl)) (star1 rfl)) (by decide) dn_OneOf (star1 rfl) (nost1 rfl nost0))))), ?_⟩
  simp only [tMake, slots, Option.getD_some, Option.getD_none, tSeq, tOp, tC, tVar, tCons, tNil, tRet, tIfS, tTest, tNext, rEq, Kd_non, Kd_bl, Kd_int, Kd_str, sc_non_non, sc_non_int, sc_int_non, sc_non_bl, sc_bl_non, sc_non_str, sc_str_non, sc_int_int, sc_bl_bl, sc_str_str, sc_int_str, sc_str_int, sc_bl_str, sc_str_bl, decide_true, decide_false, L2.start, cxK, Int.reduceToNat, List.map_cons, List.map_nil, List.length_cons, List.length_nil, Nat.reduceAdd, Nat.reduceSub, Nat.zero_add, List.replicate_succ, List.replicate_zero, List.cons_append, List.nil_append, List.append_nil, List.getElem?_cons_zero, List.getElem?_cons_succ, List.set_cons_zero, List.set_cons_succ, Option.some.injEq, V.int.injEq, V.bl.injEq, V.ref.injEq, V.str.injEq, V.ty.injEq, List.cons.injEq, exists_eq_left', exists_eq_left, exists_eq_right, exists_and_left, exists_and_right, and_true, true_and, and_assoc, exists_const, decide_eq_true_eq, Bool.not_eq_true', Bool.not_true, Bool.not_false, Bool.not_not, decide_eq_false_iff_not, ite_not, Bool.false_eq_true, if_true, if_false, reduceCtorEq, and_false, false_and, exists_false, or_false, false_or, ↓reduceIte, eq_self, reduceIte]
  rcases hw with ⟨rfl, rfl⟩ | ⟨rfl, rfl⟩
  · rw [if_pos rfl]
    exact fun x dx hx hd ne => ⟨x, _, dx, _, _, rfl, upd_same, t1.cl, t1.n1, t1.n2, fun H' h1 h2 => ⟨rfl, q _ _ (make2 hx hd h2) ⟨dx, _, _, h1, ObjR.same (make2 hx hd h2) O1, ObjR.same (make2 hx hd h2) O2⟩⟩⟩
  · rw [if_neg (by decide)]
    exact fun x dx hx hd ne => ⟨x, _, dx, _, _, rfl, upd_same, t2.cl, t2.n1, t2.n2, fun H' h1 h2 => ⟨rfl, q _ _ (make2 hx hd h2) ⟨dx, _, _, h1, ObjR.same (make2 hx hd h2) O1, ObjR.same (make2 hx hd h2) O2⟩⟩⟩
theorem ok_rule_of_one (F : Fun K "rule_of_one" "rule_of_one" s_rule_of_one f fd) (M : Mg mg) (C_is_deep : Cal P w K mg base CX0 "is_deep" 2 ["thing"] (spDeepV K)) (C_is_share_of_one : Cal P w K mg base CX0 "is_share_of_one" 3 ["thing"] (spShareO K))
    (Z_Grown : Mk0 K cs.g) (A_Grown : mg "Grown" = some (.ref cs.g)) (Z_Change : MkC P w K mg base "Change" cs.c 1 ["self", "deep"] (spInit1 cs.c "deep")) (Z_Worked : MkC P w K mg base "Worked" cs.w 1 ["self", "share"] (spInit1 cs.w "share")) (R_NoRule : XRaise K mg "NoRule" cN) : FnOk P w K mg base (CXE P w) 4 f fd ["told"] (spOfOne K cs cN) := by
  refine F.okX sc_rule_of_one (fun vs H Q E h => ?_) (fun cdv A outer s H vs Q E hr h => ?_)
  · rcases h with ⟨p, n, rfl, _⟩ | ⟨p, z, rest, rfl, _⟩ <;> rfl
  refine ⟨_, (@pss_cons _ _ _ _ _ (@ps_if _ _ _ _ _ _ _ _ (@PW.pt _ _ _ (@pw_and _ _ _ _ _ _ _ (@pt_cmpR _ _ _ _ _ _ _ _ (@op_eq _) (@pe_callB _ _ _ _ _ _ _ _ _ call_len_seq g_rule_of_one_len M.m_len b_len (@pa_cons _ _ _ _ _ (@pe_var _ 0 _ _ rfl v_rule_of_one_0 dn_told dc_told) (@pa_nil _) (star1 rfl)) nn_len dn_len (star1 rfl) nost0) (@pe_int _ _ _ _) (nomark _)) (@pw_and1 _ _ _ _ (@pt_cmpR _ _ _ _ _ _ _ _ (@op_eq _) (@pe_ix _ _ _ _ _ _ _ (@ix_tup _) (@pe_var _ 0 _ _ rfl v_rule_of_one_0 dn_told dc_told) (@pe_int _ _ _ _) (fun _ _ => rfl)) (@pe_str _ _ _ _) (nomark _))))) (@pss_one _ _ _ (@ps_ret _ _ _ _ (@pe_makeN _ _ _ _ _ Z_Grown g_rule_of_one_Grown A_Grown dn_Grown))) (@pss_nil _)) (@pss_cons _ _ _ _ _ (@ps_if _ _ _ _ _ _ _ _ (@PW.pt _ _ _ (@pw_and _ _ _ _ _ _ _ (@pt_cmpR _ _ _ _ _ _ _ _ (@op_eq _) (@pe_callB _ _ _ _ _ _ _ _ _ call_len_seq g_rule_of_one_len M.m_len b_len (@pa_cons _ _ _ _ _ (@pe_var _ 0 _ _ rfl v_rule_of_one_0 dn_told dc_told) (@pa_nil _) (star1 rfl)) nn_len dn_len (star1 rfl) nost0) (@pe_int _ _ _ _) (nomark _)) (@pw_and _ _ _ _ _ _ _ (@pt_cmpR _ _ _ _ _ _ _ _ (@op_eq _) (@pe_ix _ _ _ _ _ _ _ (@ix_tup _) (@pe_var _ 0 _ _ rfl v_rule_of_one_0 dn_told dc_told) (@pe_int _ _ _ _) (fun _ _ => rfl)) (@pe_str _ _ _ _) (nomark _)) (@pw_and1 _ _ _ _ (@pt_val _ _ _ (@pe_callC _ _ _ _ _ _ _ _ _ _ _ C_is_deep hr g_rule_of_one_is_deep (@pa_cons _ _ _ _ _ (@pe_ix _ _ _ _ _ _ _ (@ix_tup _) (@pe_var _ 0 _ _ rfl v_rule_of_one_0 dn_told dc_told) (@pe_int _ _ _ _) (fun _ _ => rfl)) (@pa_nil _) (star1 rfl)) (by decide) dn_is_deep (star1 rfl) nost0) (test1 rfl)))))) (@pss_one _ _ _ (@ps_ret _ _ _ _ (@pe_makeC _ _ _ _ _ _ _ _ _ _ _ _ Z_Change hr g_rule_of_one_Change (@pa_cons _ _ _ _ _ (@pe_ix _ _ _ _ _ _ _ (@ix_tup _) (@pe_var _ 0 _ _ rfl v_rule_of_one_0 dn_told dc_told) (@pe_int _ _ _ _) (fun _ _ => rfl)) (@pa_nil _) (star1 rfl)) (by decide) dn_Change (star1 rfl) nost0))) (@pss_nil _)) (@pss_cons _ _ _ _ _ (@ps_if _ _ _ _ _ _ _ _ (@PW.pt _ _ _ (@pw_and _ _ _ _ _ _ _ (@pt_cmpR _ _ _ _ _ _ _ _ (@op_eq _) (@pe_callB _ _ _ _ _ _ _ _ _ call_len_seq g_rule_of_one_len M.m_len b_len (@pa_cons _ _ _ _ _ (@pe_var _ 0 _ _ rfl v_rule_of_one_0 dn_told dc_told) (@pa_nil _) (star1 rfl)) nn_len dn_len (star1 rfl) nost0) (@pe_int _ _ _ _) (nomark _)) (@pw_and _ _ _ _ _ _ _ (@pt_cmpR _ _ _ _ _ _ _ _ (@op_eq _) (@pe_ix _ _ _ _ _ _ _ (@ix_tup _) (@pe_var _ 0 _ _ rfl v_rule_of_one_0 dn_told dc_told) (@pe_int _ _ _ _) (fun _ _ => rfl)) (@pe_str _ _ _ _) (nomark _)) (@pw_and1 _ _ _ _ (@pt_val _ _ _ (@pe_callC _ _ _ _ _ _ _ _ _ _ _ C_is_share_of_one hr g_rule_of_one_is_share_of_one (@pa_cons _ _ _ _ _ (@pe_ix _ _ _ _ _ _ _ (@ix_tup _) (@pe_var _ 0 _ _ rfl v_rule_of_one_0 dn_told dc_told) (@pe_int _ _ _ _) (fun _ _ => rfl)) (@pa_nil _) (star1 rfl)) (by decide) dn_is_share_of_one (star1 rfl) nost0) (test1 rfl)))))) (@pss_one _ _ _ (@ps_ret _ _ _ _ (@pe_makeC _ _ _ _ _ _ _ _ _ _ _ _ Z_Worked hr g_rule_of_one_Worked (@pa_cons _ _ _ _ _ (@pe_ix _ _ _ _ _ _ _ (@ix_tup _) (@pe_var _ 0 _ _ rfl v_rule_of_one_0 dn_told dc_told) (@pe_int _ _ _ _) (fun _ _ => rfl)) (@pa_nil _) (star1 rfl)) (by decide) dn_Worked (star1 rfl) nost0))) (@pss_nil _)) (@pss_one _ _ _ (@ps_raise _ _ _ _ _ _ _ _ _ _ _ throws_cx hr g_rule_of_one_NoRule R_NoRule (@pa_cons _ _ _ _ _ (@pe_str _ _ _ _) (@pa_nil _) (star1 rfl)) (star1 rfl) (by rfl) dn_NoRule))))), ?_⟩
  rcases h with ⟨p, n, rfl, R, ok, dp, q⟩ | ⟨p, z, rest, rfl, T, B, e⟩
  · simp only [tMake, tMake0, tRaise, slots, Option.getD_some, Option.getD_none, tSeq, tOp, tC, tVar, tCB, tCons, tNil, tCall, tRet, tIfS, tTest, tB, tAnd, tNext, rEq, rIxT, Kd_non, Kd_bl, Kd_int, Kd_str, sc_non_non, sc_non_int, sc_int_non, sc_non_bl, sc_bl_non, sc_non_str, sc_str_non, sc_int_int, sc_bl_bl, sc_str_str, sc_int_str, sc_str_int, sc_bl_str, sc_str_bl, decide_true, decide_false, L2.start, cxK, Int.reduceToNat, List.map_cons, List.map_nil, List.length_cons, List.length_nil, Nat.reduceAdd, Nat.reduceSub, Nat.zero_add, List.replicate_succ, List.replicate_zero, List.cons_append, List.nil_append, List.append_nil, List.getElem?_cons_zero, List.getElem?_cons_succ, List.set_cons_zero, List.set_cons_succ, Option.some.injEq, V.int.injEq, V.bl.injEq, V.ref.injEq, V.str.injEq, V.ty.injEq, List.cons.injEq, exists_eq_left', exists_eq_left, exists_eq_right, exists_and_left, exists_and_right, and_true, true_and, and_assoc, exists_const, decide_eq_true_eq, Bool.not_eq_true', Bool.not_true, Bool.not_false, Bool.not_not, decide_eq_false_iff_not, ite_not, Bool.false_eq_true, if_true, if_false, reduceCtorEq, and_false, false_and, exists_false, or_false, false_or, ↓reduceIte, eq_self, reduceIte]
    cases tol_row R with
    | grown T =>
      refine ⟨_, .inr T, ?_⟩
      rw [if_pos (by rfl)]
      refine ⟨_, T, _, rfl, rfl, ?_⟩
      rw [if_pos rfl]
      intro x dx hx hd ne
      refine q _ _ (fun b u z => ?_) ⟨dx, upd_same⟩
      rw [upd_ne (ne_of_none z hx), upd_ne (ne_of_none z hd)]
      exact z
    | @change d T =>
      refine ⟨_, .inr T, ?_⟩
      rw [if_neg (by simp)]
      refine ⟨_, .inr T, ?_⟩
      rw [if_pos (by simp)]
      refine ⟨_, T, _, rfl, rfl, ?_⟩
      rw [if_pos rfl]
      have hok : 1 ≤ d ∧ d ≤ 4 := ok
      refine ⟨_, T, _, rfl, _, _, rfl, .int, _, rfl, ?_⟩
      rw [if_pos (decide_eq_true hok)]
      refine ⟨_, T, _, rfl, fun x dx hx hd ne => ⟨x, dx, _, rfl, upd_same, rfl, q _ _ (make1 hx hd) ⟨dx, upd_same⟩⟩⟩
    | @share sp t b T T2 =>
      refine ⟨_, .inr T, ?_⟩
      rw [if_neg (by simp)]
      refine ⟨_, .inr T, ?_⟩
      rw [if_pos (by simp)]
      refine ⟨_, T, _, rfl, rfl, ?_⟩
      rw [if_neg (by decide)]
      refine ⟨_, .inr T, ?_⟩
      rw [if_pos (by simp)]
      refine ⟨_, T, _, rfl, rfl, ?_⟩
      rw [if_pos rfl]
      have hok : ShOk t b := ok
      refine ⟨_, T, _, rfl, _, _, rfl, .two T2, _, rfl, ?_⟩
      rw [if_pos (decide_eq_true hok)]
      refine ⟨_, T, _, rfl, fun x dx hx hd ne => ⟨x, dx, _, rfl, upd_same, rfl, q _ _ (make1 hx hd) ⟨dx, _, upd_same, Same.tup (make1 hx hd) T2⟩⟩⟩
    | @al _ _ x y _ _ _ => exact absurd dp (by have := Rl.dp_pos x; show ¬(max x.dp y.dp + 1 = 1); omega)
    | @so _ _ x y _ _ _ => exact absurd dp (by have := Rl.dp_pos x; show ¬(max x.dp y.dp + 1 = 1); omega)
  · simp only [tMake, tMake0, tRaise, slots, Option.getD_some, Option.getD_none, tSeq, tOp, tC, tVar, tCB, tCons, tNil, tCall, tRet, tIfS, tTest, tB, tAnd, tNext, rEq, rIxT, Kd_non, Kd_bl, Kd_int, Kd_str, sc_non_non, sc_non_int, sc_int_non, sc_non_bl, sc_bl_non, sc_non_str, sc_str_non, sc_int_int, sc_bl_bl, sc_str_str, sc_int_str, sc_str_int, sc_bl_str, sc_str_bl, decide_true, decide_false, L2.start, cxK, Int.reduceToNat, List.map_cons, List.map_nil, List.length_cons, List.length_nil, Nat.reduceAdd, Nat.reduceSub, Nat.zero_add, List.replicate_succ, List.replicate_zero, List.cons_append, List.nil_append, List.append_nil, List.getElem?_cons_zero, List.getElem?_cons_succ, List.set_cons_zero, List.set_cons_succ, Option.some.injEq, V.int.injEq, V.bl.injEq, V.ref.injEq, V.str.injEq, V.ty.injEq, List.cons.injEq, exists_eq_left', exists_eq_left, exists_eq_right, exists_and_left, exists_and_right, and_true, true_and, and_assoc, exists_const, decide_eq_true_eq, Bool.not_eq_true', Bool.not_true, Bool.not_false, Bool.not_not, decide_eq_false_iff_not, ite_not, Bool.false_eq_true, if_true, if_false, reduceCtorEq, and_false, false_and, exists_false, or_false, false_or, ↓reduceIte, eq_self, reduceIte]
    match rest, T, B with
    | [], T, B =>
      refine ⟨_, .inr T, ?_⟩
      rw [if_pos (by rfl)]
      refine ⟨_, T, _, rfl, rfl, ?_⟩
      rw [if_neg (fun h => B.h0 rfl (V.str.inj h))]
      refine ⟨_, .inr T, ?_⟩
      rw [if_neg (by simp)]
      refine ⟨_, .inr T, ?_⟩
      rw [if_neg (by simp)]
      exact ⟨by decide, e _ (Same.refl _)⟩
    | [v], T, B =>
      refine ⟨_, .inr T, ?_⟩
      rw [if_neg (by simp)]
      refine ⟨_, .inr T, ?_⟩
      rw [if_pos (by simp)]
      refine ⟨_, T, _, rfl, rfl, ?_⟩
      by_cases hz : z = "change"
      · rw [if_pos (congrArg V.str hz)]
        refine ⟨_, T, _, rfl, _, _, rfl, B.hc v rfl hz, _, rfl, ?_⟩
        rw [if_neg (by decide)]
        refine ⟨_, .inr T, ?_⟩
        rw [if_pos (by simp)]
        refine ⟨_, T, _, rfl, rfl, ?_⟩
        rw [if_neg (fun h => by rw [hz] at h; exact absurd h (by decide))]
        exact ⟨by decide, e _ (Same.refl _)⟩
      · rw [if_neg (fun h => hz (V.str.inj h))]
        refine ⟨_, .inr T, ?_⟩
        rw [if_pos (by simp)]
        refine ⟨_, T, _, rfl, rfl, ?_⟩
        by_cases hs : z = "share"
        · rw [if_pos (congrArg V.str hs)]
          refine ⟨_, T, _, rfl, _, _, rfl, B.hs v rfl hs, _, rfl, ?_⟩
          rw [if_neg (by decide)]
          exact ⟨by decide, e _ (Same.refl _)⟩
        · rw [if_neg (fun h => hs (V.str.inj h))]
          exact ⟨by decide, e _ (Same.refl _)⟩
    | v :: u :: rest, T, B =>
      refine ⟨_, .inr T, ?_⟩
      rw [if_neg (by simp only [List.length_cons]; omega)]
      refine ⟨_, .inr T, ?_⟩
      rw [if_neg (by simp only [List.length_cons]; omega)]
      refine ⟨_, .inr T, ?_⟩
      rw [if_neg (by simp only [List.length_cons]; omega)]
      exact ⟨by decide, e _ (Same.refl _)⟩
theorem step_within {d : Nat} (F : Fun K "rule_within" "rule_within" s_rule_within f fd) (M : Mg mg) (C_rule_of_one : Cal P w K mg base (CXE P w) "rule_of_one" 4 ["told"] (spOfOne K cs cN)) (C_rule_of_rules : Cal P w K mg base CX0 "rule_of_rules" 3 ["word", "one", "other"] (spOfRules K cs)) (R_NoRule : XRaise K mg "NoRule" cN)
    (C_rule_within : Cal P w K mg base (CXE P w) "rule_within" (5 + d) ["left", "told"] (spWithin K cs cN d)) : FnOk P w K mg base (CXE P w) (5 + d + 1) f fd ["left", "told"] (spWithin K cs cN (d + 1)) := by
  refine F.okX sc_rule_within (fun vs H Q E h => ?_) (fun cdv A outer s H vs Q E hr h => ?_)
  · rcases h with ⟨p, n, rfl, _⟩ | ⟨v, rfl, _⟩ <;> rfl
  refine ⟨_, (@pss_cons _ _ _ _ _ (@ps_if _ _ _ _ _ _ _ _ (@pt_cmpR _ _ _ _ _ _ _ _ (@op_eq _) (@pe_var _ 0 _ _ rfl v_rule_within_0 dn_left dc_left) (@pe_int _ _ _ _) (nomark _)) (@pss_one _ _ _ (@ps_raise _ _ _ _ _ _ _ _ _ _ _ throws_cx hr g_rule_within_NoRule R_NoRule (@pa_cons _ _ _ _ _ (@pe_str _ _ _ _) (@pa_nil _) (star1 rfl)) (star1 rfl) (by rfl) dn_NoRule)) (@pss_nil _)) (@pss_cons _ _ _ _ _ (@ps_if _ _ _ _ _ _ _ _ (@PW.pt _ _ _ (@pw_or _ _ _ _ _ _ _ (@pt_not _ _ _ _ (@pt_val _ _ _ (@pe_callB _ _ _ _ _ _ _ _ _ call_isi g_rule_within_isinstance M.m_isinstance b_isinstance (@pa_cons _ _ _ _ _ (@pe_var _ 1 _ _ rfl v_rule_within_1 dn_told dc_told) (@pa_cons _ _ _ _ _ (@pe_bltn _ _ (.ty "tuple") _ _ g_rule_within_tuple M.m_tuple b_tuple rfl nn_tuple dn_tuple) (@pa_nil _) (star1 rfl)) (star1 rfl)) nn_isinstance dn_isinstance (star1 rfl) (nost1 rfl nost0)) (test1 rfl))) (@pw_or _ _ _ _ _ _ _ (@pt_cmpR _ _ _ _ _ _ _ _ (@op_eq _) (@pe_callB _ _ _ _ _ _ _ _ _ call_len_seq g_rule_within_len M.m_len b_len (@pa_cons _ _ _ _ _ (@pe_var _ 1 _ _ rfl v_rule_within_1 dn_told dc_told) (@pa_nil _) (star1 rfl)) nn_len dn_len (star1 rfl) nost0) (@pe_int _ _ _ _) (nomark _)) (@pw_or1 _ _ _ _ (@pt_not _ _ _ _ (@pt_val _ _ _ (@pe_callB _ _ _ _ _ _ _ _ _ call_isi g_rule_within_isinstance M.m_isinstance b_isinstance (@pa_cons _ _ _ _ _ (@pe_ix _ _ _ _ _ _ _ (@ix_tup _) (@pe_var _ 1 _ _ rfl v_rule_within_1 dn_told dc_told) (@pe_int _ _ _ _) (fun _ _ => rfl)) (@pa_cons _ _ _ _ _ (@pe_bltn _ _ (.ty "str") _ _ g_rule_within_str M.m_str b_str rfl nn_str dn_str) (@pa_nil _) (star1 rfl)) (star1 rfl)) nn_isinstance dn_isinstance (star1 rfl) (nost1 rfl nost0)) (test1 rfl))))))) (@pss_one _ _ _ (@ps_raise _ _ _ _ _ _ _ _ _ _ _ throws_cx hr g_rule_within_NoRule R_NoRule (@pa_cons _ _ _ _ _ (@pe_str _ _ _ _) (@pa_nil _) (star1 rfl)) (star1 rfl) (by rfl) dn_NoRule)) (@pss_nil _)) (@pss_cons _ _ _ _ _ (@ps_if _ _ _ _ _ _ _ _ (@PW.pt _ _ _ (@pw_and _ _ _ _ _ _ _ (@pt_cmpR _ _ _ _ _ _ _ _ (@op_eq _) (@pe_callB _ _ _ _ _ _ _ _ _ call_len_seq g_rule_within_len M.m_len b_len (@pa_cons _ _ _ _ _ (@pe_var _ 1 _ _ rfl v_rule_within_1 dn_told dc_told) (@pa_nil _) (star1 rfl)) nn_len dn_len (star1 rfl) nost0) (@pe_int _ _ _ _) (nomark _)) (@pw_and1 _ _ _ _ (@pt_cmpR _ _ _ _ _ _ _ _ op_in_seq (@pe_ix _ _ _ _ _ _ _ (@ix_tup _) (@pe_var _ 1 _ _ rfl v_rule_within_1 dn_told dc_told) (@pe_int _ _ _ _) (fun _ _ => rfl)) (@pe_tup _ _ _ _ _ (@pa_cons _ _ _ _ _ (@pe_str _ _ _ _) (@pa_cons _ _ _ _ _ (@pe_str _ _ _ _) (@pa_nil _) (star1 rfl)) (star1 rfl))) (by with_unfolding_all rfl))))) (@pss_cons _ _ _ _ _ (@ps_set _ _ 2 _ _ _ _ sc_rule_within.nd rfl l_rule_within_2 (@pe_callX _ _ _ _ _ _ _ _ _ _ _ _ _ C_rule_within hr g_rule_within_rule_within pass_cx (@pa_cons _ _ _ _ _ (@pe_op _ _ _ _ _ _ _ _ (@op_sub _) (@pe_var _ 0 _ _ rfl v_rule_within_0 dn_left dc_left) (@pe_int _ _ _ _)) (@pa_cons _ _ _ _ _ (@pe_ix _ _ _ _ _ _ _ (@ix_tup _) (@pe_var _ 1 _ _ rfl v_rule_within_1 dn_told dc_told) (@pe_int _ _ _ _) (fun _ _ => rfl)) (@pa_nil _) (star1 rfl)) (star1 rfl)) (by omega) dn_rule_within (star1 rfl) (nost1 rfl nost0)) (swap1 rfl) (.inl rfl)) (@pss_cons _ _ _ _ _ (@ps_set _ _ 3 _ _ _ _ sc_rule_within.nd rfl l_rule_within_3 (@pe_callX _ _ _ _ _ _ _ _ _ _ _ _ _ C_rule_within hr g_rule_within_rule_within pass_cx (@pa_cons _ _ _ _ _ (@pe_op _ _ _ _ _ _ _ _ (@op_sub _) (@pe_var _ 0 _ _ rfl v_rule_within_0 dn_left dc_left) (@pe_int _ _ _ _)) (@pa_cons _ _ _ _ _ (@pe_ix _ _ _ _ _ _ _ (@ix_tup _) (@pe_var _ 1 _ _ rfl v_rule_within_1 dn_told dc_told) (@pe_int _ _ _ _) (fun _ _ => rfl)) (@pa_nil _) (star1 rfl)) (star1 rfl)) (by omega) dn_rule_within (star1 rfl) (nost1 rfl nost0)) (swap1 rfl) (.inl rfl)) (@pss_one _ _ _ (@ps_ret _ _ _ _ (@pe_callC _ _ _ _ _ _ _ _ _ _ _ C_rule_of_rules hr g_rule_within_rule_of_rules (@pa_cons _ _ _ _ _ (@pe_ix _ _ _ _ _ _ _ (@ix_tup _) (@pe_var _ 1 _ _ rfl v_rule_within_1 dn_told dc_told) (@pe_int _ _ _ _) (fun _ _ => rfl)) (@pa_cons _ _ _ _ _ (@pe_var _ 2 _ _ rfl v_rule_within_2 dn_one dc_one) (@pa_cons _ _ _ _ _ (@pe_var _ 3 _ _ rfl v_rule_within_3 dn_other dc_other) (@pa_nil _) (star1 rfl)) (star1 rfl)) (star1 rfl)) (by omega) dn_rule_of_rules (star1 rfl) (nost1 rfl (nost1 rfl nost0))))))) (@pss_nil _)) (@pss_one _ _ _ (@ps_ret _ _ _ _ (@pe_callX _ _ _ _ _ _ _ _ _ _ _ _ _ C_rule_of_one hr g_rule_within_rule_of_one pass_cx (@pa_cons _ _ _ _ _ (@pe_var _ 1 _ _ rfl v_rule_within_1 dn_told dc_told) (@pa_nil _) (star1 rfl)) (by omega) dn_rule_of_one (star1 rfl) nost0)))))), ?_⟩
  rcases h with ⟨p, n, rfl, R, ok, dp, q⟩ | ⟨v, rfl, B, e⟩
  · have one : n.dp = 1 → ∀ H', Same H H' → spOfOne K cs cN [V.ref p] H' Q E := fun h H' e => .inl ⟨p, n, rfl, R.same e, ok, h, fun a H2 e2 => q a H2 (e.trans e2)⟩
    simp only [tRaise, slots, Option.getD_some, Option.getD_none, tSeq, tAsg, gName, tOp, tC, tVar, tCB, tCons, tNil, tCall, rI0, tRet, tIfS, tTest, tB, tAnd, tOr, tNot, tTup, tNext, rEq, rIsi, rIxT, isi_non_bl, isi_non_int, isi_non_str, isi_non_lst, isi_non_tup, isi_bl_bl, isi_bl_int, isi_bl_str, isi_bl_lst, isi_bl_tup, isi_int_bl, isi_int_int, isi_int_str, isi_int_lst, isi_int_tup, isi_str_bl, isi_str_int, isi_str_str, isi_str_lst, isi_str_tup, isi_lst_bl, isi_lst_int, isi_lst_str, isi_lst_lst, isi_lst_tup, isi_tup_bl, isi_tup_int, isi_tup_str, isi_tup_lst, isi_tup_tup, isi_dct_bl, isi_dct_int, isi_dct_str, isi_dct_lst, isi_dct_tup, Kd_non, Kd_bl, Kd_int, Kd_str, sc_non_non, sc_non_int, sc_int_non, sc_non_bl, sc_bl_non, sc_non_str, sc_str_non, sc_int_int, sc_bl_bl, sc_str_str, sc_int_str, sc_str_int, sc_bl_str, sc_str_bl, decide_true, decide_false, tyK_int, tyK_bool, tyK_str, tyK_list, tyK_tuple, L2.start, cxK, Int.reduceToNat, List.map_cons, List.map_nil, List.length_cons, List.length_nil, Nat.reduceAdd, Nat.reduceSub, Nat.zero_add, List.replicate_succ, List.replicate_zero, List.cons_append, List.nil_append, List.append_nil, List.getElem?_cons_zero, List.getElem?_cons_succ, List.set_cons_zero, List.set_cons_succ, Option.some.injEq, V.int.injEq, V.bl.injEq, V.ref.injEq, V.str.injEq, V.ty.injEq, List.cons.injEq, exists_eq_left', exists_eq_left, exists_eq_right, exists_and_left, exists_and_right, and_true, true_and, and_assoc, exists_const, decide_eq_true_eq, Bool.not_eq_true', Bool.not_true, Bool.not_false, Bool.not_not, decide_eq_false_iff_not, ite_not, Bool.false_eq_true, if_true, if_false, reduceCtorEq, and_false, false_and, exists_false, or_false, false_or, ↓reduceIte, eq_self, reduceIte]
    rw [if_neg (by omega)]
    cases tol_row R with
    | grown T =>
      refine ⟨_, Kd.tup T, ?_⟩
      rw [if_neg (by decide)]
      refine ⟨_, .inr T, ?_⟩
      rw [if_neg (by simp)]
      refine ⟨_, T, _, rfl, _, (show Kd K H (.str _) .str from rfl), ?_⟩
      rw [if_neg (by decide)]
      refine ⟨_, .inr T, ?_⟩
      rw [if_neg (by simp)]
      exact one rfl _ (Same.refl _)
    | change T =>
      refine ⟨_, Kd.tup T, ?_⟩
      rw [if_neg (by decide)]
      refine ⟨_, .inr T, ?_⟩
      rw [if_neg (by simp)]
      refine ⟨_, T, _, rfl, _, (show Kd K H (.str _) .str from rfl), ?_⟩
      rw [if_neg (by decide)]
      refine ⟨_, .inr T, ?_⟩
      rw [if_neg (by simp)]
      exact one rfl _ (Same.refl _)
    | share T T2 =>
      refine ⟨_, Kd.tup T, ?_⟩
      rw [if_neg (by decide)]
      refine ⟨_, .inr T, ?_⟩
      rw [if_neg (by simp)]
      refine ⟨_, T, _, rfl, _, (show Kd K H (.str _) .str from rfl), ?_⟩
      rw [if_neg (by decide)]
      refine ⟨_, .inr T, ?_⟩
      rw [if_neg (by simp)]
      exact one rfl _ (Same.refl _)
    | @al a1 a2 x y T R1 R2 =>
      have dd : max x.dp y.dp + 1 ≤ d + 1 := dp
      obtain ⟨ok1, ok2⟩ := ok
      refine ⟨_, Kd.tup T, ?_⟩
      rw [if_neg (by decide)]
      refine ⟨_, .inr T, ?_⟩
      rw [if_neg (by simp)]
      refine ⟨_, T, _, rfl, _, (show Kd K H (.str _) .str from rfl), ?_⟩
      rw [if_neg (by decide)]
      refine ⟨_, .inr T, ?_⟩
      rw [if_pos (by simp)]
      refine ⟨_, T, _, rfl, by decide, fun p1 hp1 => ?_⟩
      obtain ⟨H1, g1, S1, T1⟩ := fresh_tup (K := K) hp1 [V.str (Str.ofString "all"), V.str (Str.ofString "some")]
      rw [← g1]
      clear g1
      refine ⟨p1, _, rfl, .inr T1, rfl, rfl, _, rfl, ?_⟩
      rw [if_pos (by decide)]
      have ed : ((d + 1 : Nat) : Int) - 1 = (d : Int) := by omega
      rw [ed]
      refine ⟨_, Same.tup S1 T, _, rfl, .inl ⟨a1, x, rfl, R1.same S1, ok1, by omega, fun o1 H2 S2 O1 => ?_⟩⟩
      have S12 := S1.trans S2
      refine ⟨_, Same.tup S12 T, _, rfl, .inl ⟨a2, y, rfl, R2.same S12, ok2, by omega, fun o2 H3 S3 O2 => ?_⟩⟩
      have S13 := S12.trans S3
      exact ⟨_, Same.tup S13 T, _, rfl, _, o1, o2, x, y, _, rfl, (.inl ⟨rfl, rfl⟩), ObjR.same S3 O1, O2, fun a H' e => q a H' (S13.trans e)⟩
    | @so a1 a2 x y T R1 R2 =>
      have dd : max x.dp y.dp + 1 ≤ d + 1 := dp
      obtain ⟨ok1, ok2⟩ := ok
      refine ⟨_, Kd.tup T, ?_⟩
      rw [if_neg (by decide)]
      refine ⟨_, .inr T, ?_⟩
      rw [if_neg (by simp)]
      refine ⟨_, T, _, rfl, _, (show Kd K H (.str _) .str from rfl), ?_⟩
      rw [if_neg (by decide)]
      refine ⟨_, .inr T, ?_⟩
      rw [if_pos (by simp)]
      refine ⟨_, T, _, rfl, by decide, fun p1 hp1 => ?_⟩
      obtain ⟨H1, g1, S1, T1⟩ := fresh_tup (K := K) hp1 [V.str (Str.ofString "all"), V.str (Str.ofString "some")]
      rw [← g1]
      clear g1
      refine ⟨p1, _, rfl, .inr T1, rfl, rfl, _, rfl, ?_⟩
      rw [if_pos (by decide)]
      have ed : ((d + 1 : Nat) : Int) - 1 = (d : Int) := by omega
      rw [ed]
      refine ⟨_, Same.tup S1 T, _, rfl, .inl ⟨a1, x, rfl, R1.same S1, ok1, by omega, fun o1 H2 S2 O1 => ?_⟩⟩
      have S12 := S1.trans S2
      refine ⟨_, Same.tup S12 T, _, rfl, .inl ⟨a2, y, rfl, R2.same S12, ok2, by omega, fun o2 H3 S3 O2 => ?_⟩⟩
      have S13 := S12.trans S3
      exact ⟨_, Same.tup S13 T, _, rfl, _, o1, o2, x, y, _, rfl, (.inr ⟨rfl, rfl⟩), ObjR.same S3 O1, O2, fun a H' e => q a H' (S13.trans e)⟩
  · have ed : ((d + 1 : Nat) : Int) - 1 = (d : Int) := by omega
    cases B with
    | no hk ne =>
      simp only [tRaise, slots, Option.getD_some, Option.getD_none, tSeq, tAsg, gName, tOp, tC, tVar, tCB, tCons, tNil, tCall, rI0, tRet, tIfS, tTest, tB, tAnd, tOr, tNot, tTup, tNext, rEq, rIsi, rIxT, isi_non_bl, isi_non_int, isi_non_str, isi_non_lst, isi_non_tup, isi_bl_bl, isi_bl_int, isi_bl_str, isi_bl_lst, isi_bl_tup, isi_int_bl, isi_int_int, isi_int_str, isi_int_lst, isi_int_tup, isi_str_bl, isi_str_int, isi_str_str, isi_str_lst, isi_str_tup, isi_lst_bl, isi_lst_int, isi_lst_str, isi_lst_lst, isi_lst_tup, isi_tup_bl, isi_tup_int, isi_tup_str, isi_tup_lst, isi_tup_tup, isi_dct_bl, isi_dct_int, isi_dct_str, isi_dct_lst, isi_dct_tup, Kd_non, Kd_bl, Kd_int, Kd_str, sc_non_non, sc_non_int, sc_int_non, sc_non_bl, sc_bl_non, sc_non_str, sc_str_non, sc_int_int, sc_bl_bl, sc_str_str, sc_int_str, sc_str_int, sc_bl_str, sc_str_bl, decide_true, decide_false, tyK_int, tyK_bool, tyK_str, tyK_list, tyK_tuple, L2.start, cxK, Int.reduceToNat, List.map_cons, List.map_nil, List.length_cons, List.length_nil, Nat.reduceAdd, Nat.reduceSub, Nat.zero_add, List.replicate_succ, List.replicate_zero, List.cons_append, List.nil_append, List.append_nil, List.getElem?_cons_zero, List.getElem?_cons_succ, List.set_cons_zero, List.set_cons_succ, Option.some.injEq, V.int.injEq, V.bl.injEq, V.ref.injEq, V.str.injEq, V.ty.injEq, List.cons.injEq, exists_eq_left', exists_eq_left, exists_eq_right, exists_and_left, exists_and_right, and_true, true_and, and_assoc, exists_const, decide_eq_true_eq, Bool.not_eq_true', Bool.not_true, Bool.not_false, Bool.not_not, decide_eq_false_iff_not, ite_not, Bool.false_eq_true, if_true, if_false, reduceCtorEq, and_false, false_and, exists_false, or_false, false_or, ↓reduceIte, eq_self, reduceIte]
      rw [if_neg (by omega)]
      refine ⟨_, hk, ?_⟩
      rw [if_pos (isi_tup_ne ne)]
      exact ⟨by decide, e _ (Same.refl _)⟩
    | nil T =>
      simp only [tRaise, slots, Option.getD_some, Option.getD_none, tSeq, tAsg, gName, tOp, tC, tVar, tCB, tCons, tNil, tCall, rI0, tRet, tIfS, tTest, tB, tAnd, tOr, tNot, tTup, tNext, rEq, rIsi, rIxT, isi_non_bl, isi_non_int, isi_non_str, isi_non_lst, isi_non_tup, isi_bl_bl, isi_bl_int, isi_bl_str, isi_bl_lst, isi_bl_tup, isi_int_bl, isi_int_int, isi_int_str, isi_int_lst, isi_int_tup, isi_str_bl, isi_str_int, isi_str_str, isi_str_lst, isi_str_tup, isi_lst_bl, isi_lst_int, isi_lst_str, isi_lst_lst, isi_lst_tup, isi_tup_bl, isi_tup_int, isi_tup_str, isi_tup_lst, isi_tup_tup, isi_dct_bl, isi_dct_int, isi_dct_str, isi_dct_lst, isi_dct_tup, Kd_non, Kd_bl, Kd_int, Kd_str, sc_non_non, sc_non_int, sc_int_non, sc_non_bl, sc_bl_non, sc_non_str, sc_str_non, sc_int_int, sc_bl_bl, sc_str_str, sc_int_str, sc_str_int, sc_bl_str, sc_str_bl, decide_true, decide_false, tyK_int, tyK_bool, tyK_str, tyK_list, tyK_tuple, L2.start, cxK, Int.reduceToNat, List.map_cons, List.map_nil, List.length_cons, List.length_nil, Nat.reduceAdd, Nat.reduceSub, Nat.zero_add, List.replicate_succ, List.replicate_zero, List.cons_append, List.nil_append, List.append_nil, List.getElem?_cons_zero, List.getElem?_cons_succ, List.set_cons_zero, List.set_cons_succ, Option.some.injEq, V.int.injEq, V.bl.injEq, V.ref.injEq, V.str.injEq, V.ty.injEq, List.cons.injEq, exists_eq_left', exists_eq_left, exists_eq_right, exists_and_left, exists_and_right, and_true, true_and, and_assoc, exists_const, decide_eq_true_eq, Bool.not_eq_true', Bool.not_true, Bool.not_false, Bool.not_not, decide_eq_false_iff_not, ite_not, Bool.false_eq_true, if_true, if_false, reduceCtorEq, and_false, false_and, exists_false, or_false, false_or, ↓reduceIte, eq_self, reduceIte]
      rw [if_neg (by omega)]
      refine ⟨_, Kd.tup T, ?_⟩
      rw [if_neg (by decide)]
      refine ⟨_, .inr T, ?_⟩
      rw [if_pos (by rfl)]
      exact ⟨by decide, e _ (Same.refl _)⟩
    | @head _ p x k xs T hk ne =>
      simp only [tRaise, slots, Option.getD_some, Option.getD_none, tSeq, tAsg, gName, tOp, tC, tVar, tCB, tCons, tNil, tCall, rI0, tRet, tIfS, tTest, tB, tAnd, tOr, tNot, tTup, tNext, rEq, rIsi, rIxT, isi_non_bl, isi_non_int, isi_non_str, isi_non_lst, isi_non_tup, isi_bl_bl, isi_bl_int, isi_bl_str, isi_bl_lst, isi_bl_tup, isi_int_bl, isi_int_int, isi_int_str, isi_int_lst, isi_int_tup, isi_str_bl, isi_str_int, isi_str_str, isi_str_lst, isi_str_tup, isi_lst_bl, isi_lst_int, isi_lst_str, isi_lst_lst, isi_lst_tup, isi_tup_bl, isi_tup_int, isi_tup_str, isi_tup_lst, isi_tup_tup, isi_dct_bl, isi_dct_int, isi_dct_str, isi_dct_lst, isi_dct_tup, Kd_non, Kd_bl, Kd_int, Kd_str, sc_non_non, sc_non_int, sc_int_non, sc_non_bl, sc_bl_non, sc_non_str, sc_str_non, sc_int_int, sc_bl_bl, sc_str_str, sc_int_str, sc_str_int, sc_bl_str, sc_str_bl, decide_true, decide_false, tyK_int, tyK_bool, tyK_str, tyK_list, tyK_tuple, L2.start, cxK, Int.reduceToNat, List.map_cons, List.map_nil, List.length_cons, List.length_nil, Nat.reduceAdd, Nat.reduceSub, Nat.zero_add, List.replicate_succ, List.replicate_zero, List.cons_append, List.nil_append, List.append_nil, List.getElem?_cons_zero, List.getElem?_cons_succ, List.set_cons_zero, List.set_cons_succ, Option.some.injEq, V.int.injEq, V.bl.injEq, V.ref.injEq, V.str.injEq, V.ty.injEq, List.cons.injEq, exists_eq_left', exists_eq_left, exists_eq_right, exists_and_left, exists_and_right, and_true, true_and, and_assoc, exists_const, decide_eq_true_eq, Bool.not_eq_true', Bool.not_true, Bool.not_false, Bool.not_not, decide_eq_false_iff_not, ite_not, Bool.false_eq_true, if_true, if_false, reduceCtorEq, and_false, false_and, exists_false, or_false, false_or, ↓reduceIte, eq_self, reduceIte]
      rw [if_neg (by omega)]
      refine ⟨_, Kd.tup T, ?_⟩
      rw [if_neg (by decide)]
      refine ⟨_, .inr T, ?_⟩
      rw [if_neg (by rw [List.length_cons]; omega)]
      refine ⟨_, T, _, (show atI (x :: xs) ((0 : Nat) : Int) = some _ from atI_nat rfl), _, hk, ?_⟩
      rw [if_pos (isi_str_ne ne)]
      exact ⟨by decide, e _ (Same.refl _)⟩
    | @one _ p z rest T nz B =>
      have last : ∀ H', Same H H' → spOfOne K cs cN [V.ref p] H' Q E := fun H' S => .inr ⟨p, z, rest, rfl, Same.tup S T, B.same S, fun H2 S2 => e _ (S.trans S2)⟩
      simp only [tRaise, slots, Option.getD_some, Option.getD_none, tSeq, tAsg, gName, tOp, tC, tVar, tCB, tCons, tNil, tCall, rI0, tRet, tIfS, tTest, tB, tAnd, tOr, tNot, tTup, tNext, rEq, rIsi, rIxT, isi_non_bl, isi_non_int, isi_non_str, isi_non_lst, isi_non_tup, isi_bl_bl, isi_bl_int, isi_bl_str, isi_bl_lst, isi_bl_tup, isi_int_bl, isi_int_int, isi_int_str, isi_int_lst, isi_int_tup, isi_str_bl, isi_str_int, isi_str_str, isi_str_lst, isi_str_tup, isi_lst_bl, isi_lst_int, isi_lst_str, isi_lst_lst, isi_lst_tup, isi_tup_bl, isi_tup_int, isi_tup_str, isi_tup_lst, isi_tup_tup, isi_dct_bl, isi_dct_int, isi_dct_str, isi_dct_lst, isi_dct_tup, Kd_non, Kd_bl, Kd_int, Kd_str, sc_non_non, sc_non_int, sc_int_non, sc_non_bl, sc_bl_non, sc_non_str, sc_str_non, sc_int_int, sc_bl_bl, sc_str_str, sc_int_str, sc_str_int, sc_bl_str, sc_str_bl, decide_true, decide_false, tyK_int, tyK_bool, tyK_str, tyK_list, tyK_tuple, L2.start, cxK, Int.reduceToNat, List.map_cons, List.map_nil, List.length_cons, List.length_nil, Nat.reduceAdd, Nat.reduceSub, Nat.zero_add, List.replicate_succ, List.replicate_zero, List.cons_append, List.nil_append, List.append_nil, List.getElem?_cons_zero, List.getElem?_cons_succ, List.set_cons_zero, List.set_cons_succ, Option.some.injEq, V.int.injEq, V.bl.injEq, V.ref.injEq, V.str.injEq, V.ty.injEq, List.cons.injEq, exists_eq_left', exists_eq_left, exists_eq_right, exists_and_left, exists_and_right, and_true, true_and, and_assoc, exists_const, decide_eq_true_eq, Bool.not_eq_true', Bool.not_true, Bool.not_false, Bool.not_not, decide_eq_false_iff_not, ite_not, Bool.false_eq_true, if_true, if_false, reduceCtorEq, and_false, false_and, exists_false, or_false, false_or, ↓reduceIte, eq_self, reduceIte]
      rw [if_neg (by omega)]
      refine ⟨_, Kd.tup T, ?_⟩
      rw [if_neg (by decide)]
      refine ⟨_, .inr T, ?_⟩
      rw [if_neg (by rw [List.length_cons]; omega)]
      refine ⟨_, T, _, (show atI (V.str z :: rest) ((0 : Nat) : Int) = some _ from atI_nat rfl), _, (show Kd K H (.str z) .str from rfl), ?_⟩
      rw [if_neg (by decide)]
      refine ⟨_, .inr T, ?_⟩
      by_cases l2 : rest.length = 2
      · rw [if_pos (by rw [List.length_cons]; omega)]
        obtain ⟨u1, u2, rfl⟩ : ∃ u1 u2, rest = [u1, u2] := match rest, l2 with | [u1, u2], _ => ⟨u1, u2, rfl⟩
        rcases nz with h | rfl | rfl
        · exact absurd l2 h
        · skip
          refine ⟨_, T, _, rfl, by decide, fun p1 hp1 => ?_⟩
          obtain ⟨H1, g1, S1, T1⟩ := fresh_tup (K := K) hp1 [V.str (Str.ofString "all"), V.str (Str.ofString "some")]
          rw [← g1]
          clear g1
          refine ⟨p1, _, rfl, .inr T1, rfl, rfl, _, rfl, ?_⟩
          rw [if_neg (by decide)]
          exact last _ S1
        · skip
          refine ⟨_, T, _, rfl, by decide, fun p1 hp1 => ?_⟩
          obtain ⟨H1, g1, S1, T1⟩ := fresh_tup (K := K) hp1 [V.str (Str.ofString "all"), V.str (Str.ofString "some")]
          rw [← g1]
          clear g1
          refine ⟨p1, _, rfl, .inr T1, rfl, rfl, _, rfl, ?_⟩
          rw [if_neg (by decide)]
          exact last _ S1
      · rw [if_neg (by rw [List.length_cons]; omega)]
        exact last _ (Same.refl _)
    | @fst _ p z v1 v2 hz T B =>
      simp only [tRaise, slots, Option.getD_some, Option.getD_none, tSeq, tAsg, gName, tOp, tC, tVar, tCB, tCons, tNil, tCall, rI0, tRet, tIfS, tTest, tB, tAnd, tOr, tNot, tTup, tNext, rEq, rIsi, rIxT, isi_non_bl, isi_non_int, isi_non_str, isi_non_lst, isi_non_tup, isi_bl_bl, isi_bl_int, isi_bl_str, isi_bl_lst, isi_bl_tup, isi_int_bl, isi_int_int, isi_int_str, isi_int_lst, isi_int_tup, isi_str_bl, isi_str_int, isi_str_str, isi_str_lst, isi_str_tup, isi_lst_bl, isi_lst_int, isi_lst_str, isi_lst_lst, isi_lst_tup, isi_tup_bl, isi_tup_int, isi_tup_str, isi_tup_lst, isi_tup_tup, isi_dct_bl, isi_dct_int, isi_dct_str, isi_dct_lst, isi_dct_tup, Kd_non, Kd_bl, Kd_int, Kd_str, sc_non_non, sc_non_int, sc_int_non, sc_non_bl, sc_bl_non, sc_non_str, sc_str_non, sc_int_int, sc_bl_bl, sc_str_str, sc_int_str, sc_str_int, sc_bl_str, sc_str_bl, decide_true, decide_false, tyK_int, tyK_bool, tyK_str, tyK_list, tyK_tuple, L2.start, cxK, Int.reduceToNat, List.map_cons, List.map_nil, List.length_cons, List.length_nil, Nat.reduceAdd, Nat.reduceSub, Nat.zero_add, List.replicate_succ, List.replicate_zero, List.cons_append, List.nil_append, List.append_nil, List.getElem?_cons_zero, List.getElem?_cons_succ, List.set_cons_zero, List.set_cons_succ, Option.some.injEq, V.int.injEq, V.bl.injEq, V.ref.injEq, V.str.injEq, V.ty.injEq, List.cons.injEq, exists_eq_left', exists_eq_left, exists_eq_right, exists_and_left, exists_and_right, and_true, true_and, and_assoc, exists_const, decide_eq_true_eq, Bool.not_eq_true', Bool.not_true, Bool.not_false, Bool.not_not, decide_eq_false_iff_not, ite_not, Bool.false_eq_true, if_true, if_false, reduceCtorEq, and_false, false_and, exists_false, or_false, false_or, ↓reduceIte, eq_self, reduceIte]
      rw [if_neg (by omega)]
      refine ⟨_, Kd.tup T, ?_⟩
      rw [if_neg (by decide)]
      refine ⟨_, .inr T, ?_⟩
      rw [if_neg (by simp)]
      refine ⟨_, T, _, rfl, _, (show Kd K H (.str _) .str from rfl), ?_⟩
      rw [if_neg (by decide)]
      refine ⟨_, .inr T, ?_⟩
      rw [if_pos (by simp)]
      refine ⟨_, T, _, rfl, by decide, fun p1 hp1 => ?_⟩
      obtain ⟨H1, g1, S1, T1⟩ := fresh_tup (K := K) hp1 [V.str (Str.ofString "all"), V.str (Str.ofString "some")]
      rw [← g1]
      clear g1
      refine ⟨p1, _, rfl, .inr T1, rfl, rfl, _, rfl, ?_⟩
      rw [if_pos (by rcases hz with rfl | rfl <;> decide), ed]
      exact ⟨_, Same.tup S1 T, _, rfl, .inr ⟨v1, rfl, B.same S1, fun H2 S2 => e _ (S1.trans S2)⟩⟩
    | @snd _ p z v1 v2 r hz T R1 ok1 dp1 B =>
      obtain ⟨a1, rfl⟩ := told_ref R1
      simp only [tRaise, slots, Option.getD_some, Option.getD_none, tSeq, tAsg, gName, tOp, tC, tVar, tCB, tCons, tNil, tCall, rI0, tRet, tIfS, tTest, tB, tAnd, tOr, tNot, tTup, tNext, rEq, rIsi, rIxT, isi_non_bl, isi_non_int, isi_non_str, isi_non_lst, isi_non_tup, isi_bl_bl, isi_bl_int, isi_bl_str, isi_bl_lst, isi_bl_tup, isi_int_bl, isi_int_int, isi_int_str, isi_int_lst, isi_int_tup, isi_str_bl, isi_str_int, isi_str_str, isi_str_lst, isi_str_tup, isi_lst_bl, isi_lst_int, isi_lst_str, isi_lst_lst, isi_lst_tup, isi_tup_bl, isi_tup_int, isi_tup_str, isi_tup_lst, isi_tup_tup, isi_dct_bl, isi_dct_int, isi_dct_str, isi_dct_lst, isi_dct_tup, Kd_non, Kd_bl, Kd_int, Kd_str, sc_non_non, sc_non_int, sc_int_non, sc_non_bl, sc_bl_non, sc_non_str, sc_str_non, sc_int_int, sc_bl_bl, sc_str_str, sc_int_str, sc_str_int, sc_bl_str, sc_str_bl, decide_true, decide_false, tyK_int, tyK_bool, tyK_str, tyK_list, tyK_tuple, L2.start, cxK, Int.reduceToNat, List.map_cons, List.map_nil, List.length_cons, List.length_nil, Nat.reduceAdd, Nat.reduceSub, Nat.zero_add, List.replicate_succ, List.replicate_zero, List.cons_append, List.nil_append, List.append_nil, List.getElem?_cons_zero, List.getElem?_cons_succ, List.set_cons_zero, List.set_cons_succ, Option.some.injEq, V.int.injEq, V.bl.injEq, V.ref.injEq, V.str.injEq, V.ty.injEq, List.cons.injEq, exists_eq_left', exists_eq_left, exists_eq_right, exists_and_left, exists_and_right, and_true, true_and, and_assoc, exists_const, decide_eq_true_eq, Bool.not_eq_true', Bool.not_true, Bool.not_false, Bool.not_not, decide_eq_false_iff_not, ite_not, Bool.false_eq_true, if_true, if_false, reduceCtorEq, and_false, false_and, exists_false, or_false, false_or, ↓reduceIte, eq_self, reduceIte]
      rw [if_neg (by omega)]
      refine ⟨_, Kd.tup T, ?_⟩
      rw [if_neg (by decide)]
      refine ⟨_, .inr T, ?_⟩
      rw [if_neg (by simp)]
      refine ⟨_, T, _, rfl, _, (show Kd K H (.str _) .str from rfl), ?_⟩
      rw [if_neg (by decide)]
      refine ⟨_, .inr T, ?_⟩
      rw [if_pos (by simp)]
      refine ⟨_, T, _, rfl, by decide, fun p1 hp1 => ?_⟩
      obtain ⟨H1, g1, S1, T1⟩ := fresh_tup (K := K) hp1 [V.str (Str.ofString "all"), V.str (Str.ofString "some")]
      rw [← g1]
      clear g1
      refine ⟨p1, _, rfl, .inr T1, rfl, rfl, _, rfl, ?_⟩
      rw [if_pos (by rcases hz with rfl | rfl <;> decide), ed]
      refine ⟨_, Same.tup S1 T, _, rfl, .inl ⟨a1, r, rfl, R1.same S1, ok1, dp1, fun o1 H2 S2 O1 => ?_⟩⟩
      have S12 := S1.trans S2
      exact ⟨_, Same.tup S12 T, _, rfl, .inr ⟨v2, rfl, B.same S12, fun H3 S3 => e _ (S12.trans S3)⟩⟩
theorem zero_within (F : Fun K "rule_within" "rule_within" s_rule_within f fd) (M : Mg mg) (C_rule_of_one : Cal P w K mg base (CXE P w) "rule_of_one" 4 ["told"] (spOfOne K cs cN)) (C_rule_of_rules : Cal P w K mg base CX0 "rule_of_rules" 3 ["word", "one", "other"] (spOfRules K cs)) (R_NoRule : XRaise K mg "NoRule" cN)
    (C_rule_within : Cal P w K mg base (CXE P w) "rule_within" 4 ["left", "told"] spNo) : FnOk P w K mg base (CXE P w) (4 + 1) f fd ["left", "told"] (spWithin K cs cN 0) := by
  refine F.okX sc_rule_within (fun vs H Q E h => ?_) (fun cdv A outer s H vs Q E hr h => ?_)
  · rcases h with ⟨p, n, rfl, _⟩ | ⟨v, rfl, _⟩ <;> rfl
  refine ⟨_, (@pss_cons _ _ _ _ _ (@ps_if _ _ _ _ _ _ _ _ (@pt_cmpR _ _ _ _ _ _ _ _ (@op_eq _) (@pe_var _ 0 _ _ rfl v_rule_within_0 dn_left dc_left) (@pe_int _ _ _ _) (nomark _)) (@pss_one _ _ _ (@ps_raise _ _ _ _ _ _ _ _ _ _ _ throws_cx hr g_rule_within_NoRule R_NoRule (@pa_cons _ _ _ _ _ (@pe_str _ _ _ _) (@pa_nil _) (star1 rfl)) (star1 rfl) (by rfl) dn_NoRule)) (@pss_nil _)) (@pss_cons _ _ _ _ _ (@ps_if _ _ _ _ _ _ _ _ (@PW.pt _ _ _ (@pw_or _ _ _ _ _ _ _ (@pt_not _ _ _ _ (@pt_val _ _ _ (@pe_callB _ _ _ _ _ _ _ _ _ call_isi g_rule_within_isinstance M.m_isinstance b_isinstance (@pa_cons _ _ _ _ _ (@pe_var _ 1 _ _ rfl v_rule_within_1 dn_told dc_told) (@pa_cons _ _ _ _ _ (@pe_bltn _ _ (.ty "tuple") _ _ g_rule_within_tuple M.m_tuple b_tuple rfl nn_tuple dn_tuple) (@pa_nil _) (star1 rfl)) (star1 rfl)) nn_isinstance dn_isinstance (star1 rfl) (nost1 rfl nost0)) (test1 rfl))) (@pw_or _ _ _ _ _ _ _ (@pt_cmpR _ _ _ _ _ _ _ _ (@op_eq _) (@pe_callB _ _ _ _ _ _ _ _ _ call_len_seq g_rule_within_len M.m_len b_len (@pa_cons _ _ _ _ _ (@pe_var _ 1 _ _ rfl v_rule_within_1 dn_told dc_told) (@pa_nil _) (star1 rfl)) nn_len dn_len (star1 rfl) nost0) (@pe_int _ _ _ _) (nomark _)) (@pw_or1 _ _ _ _ (@pt_not _ _ _ _ (@pt_val _ _ _ (@pe_callB _ _ _ _ _ _ _ _ _ call_isi g_rule_within_isinstance M.m_isinstance b_isinstance (@pa_cons _ _ _ _ _ (@pe_ix _ _ _ _ _ _ _ (@ix_tup _) (@pe_var _ 1 _ _ rfl v_rule_within_1 dn_told dc_told) (@pe_int _ _ _ _) (fun _ _ => rfl)) (@pa_cons _ _ _ _ _ (@pe_bltn _ _ (.ty "str") _ _ g_rule_within_str M.m_str b_str rfl nn_str dn_str) (@pa_nil _) (star1 rfl)) (star1 rfl)) nn_isinstance dn_isinstance (star1 rfl) (nost1 rfl nost0)) (test1 rfl))))))) (@pss_one _ _ _ (@ps_raise _ _ _ _ _ _ _ _ _ _ _ throws_cx hr g_rule_within_NoRule R_NoRule (@pa_cons _ _ _ _ _ (@pe_str _ _ _ _) (@pa_nil _) (star1 rfl)) (star1 rfl) (by rfl) dn_NoRule)) (@pss_nil _)) (@pss_cons _ _ _ _ _ (@ps_if _ _ _ _ _ _ _ _ (@PW.pt _ _ _ (@pw_and _ _ _ _ _ _ _ (@pt_cmpR _ _ _ _ _ _ _ _ (@op_eq _) (@pe_callB _ _ _ _ _ _ _ _ _ call_len_seq g_rule_within_len M.m_len b_len (@pa_cons _ _ _ _ _ (@pe_var _ 1 _ _ rfl v_rule_within_1 dn_told dc_told) (@pa_nil _) (star1 rfl)) nn_len dn_len (star1 rfl) nost0) (@pe_int _ _ _ _) (nomark _)) (@pw_and1 _ _ _ _ (@pt_cmpR _ _ _ _ _ _ _ _ op_in_seq (@pe_ix _ _ _ _ _ _ _ (@ix_tup _) (@pe_var _ 1 _ _ rfl v_rule_within_1 dn_told dc_told) (@pe_int _ _ _ _) (fun _ _ => rfl)) (@pe_tup _ _ _ _ _ (@pa_cons _ _ _ _ _ (@pe_str _ _ _ _) (@pa_cons _ _ _ _ _ (@pe_str _ _ _ _) (@pa_nil _) (star1 rfl)) (star1 rfl))) (by with_unfolding_all rfl))))) (@pss_cons _ _ _ _ _ (@ps_set _ _ 2 _ _ _ _ sc_rule_within.nd rfl l_rule_within_2 (@pe_callX _ _ _ _ _ _ _ _ _ _ _ _ _ C_rule_within hr g_rule_within_rule_within pass_cx (@pa_cons _ _ _ _ _ (@pe_op _ _ _ _ _ _ _ _ (@op_sub _) (@pe_var _ 0 _ _ rfl v_rule_within_0 dn_left dc_left) (@pe_int _ _ _ _)) (@pa_cons _ _ _ _ _ (@pe_ix _ _ _ _ _ _ _ (@ix_tup _) (@pe_var _ 1 _ _ rfl v_rule_within_1 dn_told dc_told) (@pe_int _ _ _ _) (fun _ _ => rfl)) (@pa_nil _) (star1 rfl)) (star1 rfl)) (by omega) dn_rule_within (star1 rfl) (nost1 rfl nost0)) (swap1 rfl) (.inl rfl)) (@pss_cons _ _ _ _ _ (@ps_set _ _ 3 _ _ _ _ sc_rule_within.nd rfl l_rule_within_3 (@pe_callX _ _ _ _ _ _ _ _ _ _ _ _ _ C_rule_within hr g_rule_within_rule_within pass_cx (@pa_cons _ _ _ _ _ (@pe_op _ _ _ _ _ _ _ _ (@op_sub _) (@pe_var _ 0 _ _ rfl v_rule_within_0 dn_left dc_left) (@pe_int _ _ _ _)) (@pa_cons _ _ _ _ _ (@pe_ix _ _ _ _ _ _ _ (@ix_tup _) (@pe_var _ 1 _ _ rfl v_rule_within_1 dn_told dc_told) (@pe_int _ _ _ _) (fun _ _ => rfl)) (@pa_nil _) (star1 rfl)) (star1 rfl)) (by omega) dn_rule_within (star1 rfl) (nost1 rfl nost0)) (swap1 rfl) (.inl rfl)) (@pss_one _ _ _ (@ps_ret _ _ _ _ (@pe_callC _ _ _ _ _ _ _ _ _ _ _ C_rule_of_rules hr g_rule_within_rule_of_rules (@pa_cons _ _ _ _ _ (@pe_ix _ _ _ _ _ _ _ (@ix_tup _) (@pe_var _ 1 _ _ rfl v_rule_within_1 dn_told dc_told) (@pe_int _ _ _ _) (fun _ _ => rfl)) (@pa_cons _ _ _ _ _ (@pe_var _ 2 _ _ rfl v_rule_within_2 dn_one dc_one) (@pa_cons _ _ _ _ _ (@pe_var _ 3 _ _ rfl v_rule_within_3 dn_other dc_other) (@pa_nil _) (star1 rfl)) (star1 rfl)) (star1 rfl)) (by omega) dn_rule_of_rules (star1 rfl) (nost1 rfl (nost1 rfl nost0))))))) (@pss_nil _)) (@pss_one _ _ _ (@ps_ret _ _ _ _ (@pe_callX _ _ _ _ _ _ _ _ _ _ _ _ _ C_rule_of_one hr g_rule_within_rule_of_one pass_cx (@pa_cons _ _ _ _ _ (@pe_var _ 1 _ _ rfl v_rule_within_1 dn_told dc_told) (@pa_nil _) (star1 rfl)) (by omega) dn_rule_of_one (star1 rfl) nost0)))))), ?_⟩
  rcases h with ⟨p, n, rfl, R, ok, dp, q⟩ | ⟨v, rfl, B, e⟩
  · have := Rl.dp_pos n
    omega
  · simp only [tRaise, slots, Option.getD_some, Option.getD_none, tSeq, tAsg, gName, tOp, tC, tVar, tCB, tCons, tNil, tCall, rI0, tRet, tIfS, tTest, tB, tAnd, tOr, tNot, tTup, tNext, rEq, rIsi, rIxT, isi_non_bl, isi_non_int, isi_non_str, isi_non_lst, isi_non_tup, isi_bl_bl, isi_bl_int, isi_bl_str, isi_bl_lst, isi_bl_tup, isi_int_bl, isi_int_int, isi_int_str, isi_int_lst, isi_int_tup, isi_str_bl, isi_str_int, isi_str_str, isi_str_lst, isi_str_tup, isi_lst_bl, isi_lst_int, isi_lst_str, isi_lst_lst, isi_lst_tup, isi_tup_bl, isi_tup_int, isi_tup_str, isi_tup_lst, isi_tup_tup, isi_dct_bl, isi_dct_int, isi_dct_str, isi_dct_lst, isi_dct_tup, Kd_non, Kd_bl, Kd_int, Kd_str, sc_non_non, sc_non_int, sc_int_non, sc_non_bl, sc_bl_non, sc_non_str, sc_str_non, sc_int_int, sc_bl_bl, sc_str_str, sc_int_str, sc_str_int, sc_bl_str, sc_str_bl, decide_true, decide_false, tyK_int, tyK_bool, tyK_str, tyK_list, tyK_tuple, L2.start, cxK, Int.reduceToNat, List.map_cons, List.map_nil, List.length_cons, List.length_nil, Nat.reduceAdd, Nat.reduceSub, Nat.zero_add, List.replicate_succ, List.replicate_zero, List.cons_append, List.nil_append, List.append_nil, List.getElem?_cons_zero, List.getElem?_cons_succ, List.set_cons_zero, List.set_cons_succ, Option.some.injEq, V.int.injEq, V.bl.injEq, V.ref.injEq, V.str.injEq, V.ty.injEq, List.cons.injEq, exists_eq_left', exists_eq_left, exists_eq_right, exists_and_left, exists_and_right, and_true, true_and, and_assoc, exists_const, decide_eq_true_eq, Bool.not_eq_true', Bool.not_true, Bool.not_false, Bool.not_not, decide_eq_false_iff_not, ite_not, Bool.false_eq_true, if_true, if_false, reduceCtorEq, and_false, false_and, exists_false, or_false, false_or, ↓reduceIte, eq_self, reduceIte]
    rw [if_pos (by rfl)]
    exact ⟨by decide, e _ (Same.refl _)⟩
theorem ok_rule_within (F : Fun K "rule_within" "rule_within" s_rule_within f fd) (M : Mg mg) (C_rule_of_one : Cal P w K mg base (CXE P w) "rule_of_one" 4 ["told"] (spOfOne K cs cN)) (C_rule_of_rules : Cal P w K mg base CX0 "rule_of_rules" 3 ["word", "one", "other"] (spOfRules K cs)) (R_NoRule : XRaise K mg "NoRule" cN) (b : Binds K fd ["left", "told"] []) (kp : PySem.W.keepIn K (.ref f) = true) (m : mg "rule_within" = some (.ref f)) : ∀ d : Nat, FnOk P w K mg base (CXE P w) (5 + d) f fd ["left", "told"] (spWithin K cs cN d)
  | 0 => zero_within F M C_rule_of_one C_rule_of_rules R_NoRule ⟨⟨f, fd, fn_no, b, kp, m⟩⟩
  | d + 1 => step_within F M C_rule_of_one C_rule_of_rules R_NoRule ⟨⟨f, fd, ok_rule_within F M C_rule_of_one C_rule_of_rules R_NoRule b kp m d, b, kp, m⟩⟩
theorem ok_rule_of (F : Fun K "rule_of" "rule_of" s_rule_of f fd) (M : Mg mg) (C_rule_within : Cal P w K mg base (CXE P w) "rule_within" 9 ["left", "told"] (spWithin K cs cN 4)) : FnOk P w K mg base (CXE P w) 10 f fd ["told"] (spRuleOf K cs cN) := by
  refine F.okX sc_rule_of (fun vs H Q E h => ?_) (fun cdv A outer s H vs Q E hr h => ?_)
  · rcases h with ⟨p, n, rfl, _⟩ | ⟨v, rfl, _⟩ <;> rfl
  refine ⟨_, (@pss_one _ _ _ (@ps_ret _ _ _ _ (@pe_callX _ _ _ _ _ _ _ _ _ _ _ _ _ C_rule_within hr g_rule_of_rule_within pass_cx (@pa_cons _ _ _ _ _ (@pe_int _ _ _ _) (@pa_cons _ _ _ _ _ (@pe_var _ 0 _ _ rfl v_rule_of_0 dn_told dc_told) (@pa_nil _) (star1 rfl)) (star1 rfl)) (by decide) dn_rule_within (star1 rfl) (nost1 rfl nost0)))), ?_⟩
  rcases h with ⟨p, n, rfl, R, ok, dp, q⟩ | ⟨v, rfl, B, e⟩
  · simp only [slots, Option.getD_some, Option.getD_none, tC, tVar, tCons, tNil, tCall, tRet, Kd_non, Kd_bl, Kd_int, Kd_str, decide_true, decide_false, L2.start, cxK, Int.reduceToNat, List.map_cons, List.map_nil, List.length_cons, List.length_nil, Nat.reduceAdd, Nat.reduceSub, Nat.zero_add, List.replicate_succ, List.replicate_zero, List.cons_append, List.nil_append, List.append_nil, List.getElem?_cons_zero, List.getElem?_cons_succ, List.set_cons_zero, List.set_cons_succ, Option.some.injEq, V.int.injEq, V.bl.injEq, V.ref.injEq, V.str.injEq, V.ty.injEq, List.cons.injEq, exists_eq_left', exists_eq_left, exists_eq_right, exists_and_left, exists_and_right, and_true, true_and, and_assoc, exists_const, decide_eq_true_eq, Bool.not_eq_true', Bool.not_true, Bool.not_false, Bool.not_not, decide_eq_false_iff_not, ite_not, Bool.false_eq_true, if_true, if_false, reduceCtorEq, and_false, false_and, exists_false, or_false, false_or, ↓reduceIte, eq_self, reduceIte]
    exact .inl ⟨p, n, rfl, R, ok, dp, q⟩
  · simp only [slots, Option.getD_some, Option.getD_none, tC, tVar, tCons, tNil, tCall, tRet, Kd_non, Kd_bl, Kd_int, Kd_str, decide_true, decide_false, L2.start, cxK, Int.reduceToNat, List.map_cons, List.map_nil, List.length_cons, List.length_nil, Nat.reduceAdd, Nat.reduceSub, Nat.zero_add, List.replicate_succ, List.replicate_zero, List.cons_append, List.nil_append, List.append_nil, List.getElem?_cons_zero, List.getElem?_cons_succ, List.set_cons_zero, List.set_cons_succ, Option.some.injEq, V.int.injEq, V.bl.injEq, V.ref.injEq, V.str.injEq, V.ty.injEq, List.cons.injEq, exists_eq_left', exists_eq_left, exists_eq_right, exists_and_left, exists_and_right, and_true, true_and, and_assoc, exists_const, decide_eq_true_eq, Bool.not_eq_true', Bool.not_true, Bool.not_false, Bool.not_not, decide_eq_false_iff_not, ite_not, Bool.false_eq_true, if_true, if_false, reduceCtorEq, and_false, false_and, exists_false, or_false, false_or, ↓reduceIte, eq_self, reduceIte]
    exact .inr ⟨v, rfl, B, e⟩
end

def itB : V → Bool
  | .int i => decide (1 ≤ i ∧ i ≤ 99)
  | _ => false
def prefB (xs : List V) : Bool := decide (xs.length ≤ 4) && xs.all itB
def Knd (K : PySem.W.Frag) (H : Hp) (x : V) : Prop := ∃ k, Kd K H x k
theorem Knd.same {K : PySem.W.Frag} {H H' : Hp} {x : V} (h : Knd K H x) (e : Same H H') : Knd K H' x := by
  obtain ⟨k, h⟩ := h
  exact ⟨k, kd_same e h⟩
inductive PrefV (K : PySem.W.Frag) (H : Hp) : V → Bool → Prop
  | no {v : V} {k : Kn} : Kd K H v k → k ≠ .tup → PrefV K H v false
  | tup {p : Addr} {xs : List V} : SqT K H p xs → (∀ x ∈ xs, Knd K H x) → PrefV K H (.ref p) (prefB xs)
inductive NumV (K : PySem.W.Frag) (H : Hp) : V → Bool → Prop
  | no {v : V} {k : Kn} : Kd K H v k → k ≠ .tup → NumV K H v false
  | tup {p : Addr} {xs : List V} : SqT K H p xs → (∀ x ∈ xs, Knd K H x) → NumV K H (.ref p) (prefB xs && decide (1 ≤ xs.length))
def spIsPrefix (K : PySem.W.Frag) : Sp := fun vs H Q _ => ∃ v b, vs = [v] ∧ PrefV K H v b ∧ ∀ H', Same H H' → Q (.bl b) H'
def spIsNumber (K : PySem.W.Frag) : Sp := fun vs H Q _ => ∃ v b, vs = [v] ∧ NumV K H v b ∧ ∀ H', Same H H' → Q (.bl b) H'
theorem whole_it {K : PySem.W.Frag} {H : Hp} {x : V} {k : Kn} (h : Kd K H x k) : (k = .int ∧ ∃ i, x = .int i) ∨ (wholeK k = false ∧ itB x = false) := by
  by_cases e : k = .int
  · subst e
    exact .inl ⟨rfl, kd_int h⟩
  · refine .inr ⟨wholeK_ne e, ?_⟩
    cases x with
    | int i => exact absurd h e
    | _ => rfl
section
variable {P : Program} {w : World} {K : PySem.W.Frag} {mg : Str → Option Value} {base : Heap} {f : Addr} {fd : FuncData}
theorem ok_is_prefix (F : Fun K "is_prefix" "is_prefix" s_is_prefix f fd) (M : Mg mg) (C_is_whole : Cal P w K mg base CX0 "is_whole" 1 ["thing"] (spIsWhole K)) : FnOk P w K mg base CX0 2 f fd ["thing"] (spIsPrefix K) := by
  refine F.ok sc_is_prefix (fun vs H Q E h => ?_) (fun cdv A outer s H vs Q E hr h => ?_)
  · obtain ⟨v, b, rfl, _⟩ := h
    rfl
  obtain ⟨v, b, rfl, N, q⟩ := h
  refine ⟨_, (@pss_cons _ _ _ _ _ (@ps_if _ _ _ _ _ _ _ _ (@PW.pt _ _ _ (@pw_or _ _ _ _ _ _ _ (@pt_not _ _ _ _ (@pt_val _ _ _ (@pe_callB _ _ _ _ _ _ _ _ _ call_isi g_is_prefix_isinstance M.m_isinstance b_isinstance (@pa_cons _ _ _ _ _ (@pe_var _ 0 _ _ rfl v_is_prefix_0 dn_thing dc_thing) (@pa_cons _ _ _ _ _ (@pe_bltn _ _ (.ty "tuple") _ _ g_is_prefix_tuple M.m_tuple b_tuple rfl nn_tuple dn_tuple) (@pa_nil _) (star1 rfl)) (star1 rfl)) nn_isinstance dn_isinstance (star1 rfl) (nost1 rfl nost0)) (test1 rfl))) (@pw_or1 _ _ _ _ (@pt_cmpR _ _ _ _ _ _ _ _ (@op_gt _) (@pe_callB _ _ _ _ _ _ _ _ _ call_len_seq g_is_prefix_len M.m_len b_len (@pa_cons _ _ _ _ _ (@pe_var _ 0 _ _ rfl v_is_prefix_0 dn_thing dc_thing) (@pa_nil _) (star1 rfl)) nn_len dn_len (star1 rfl) nost0) (@pe_int _ _ _ _) (nomark _))))) (@pss_one _ _ _ (@ps_ret _ _ _ _ (@pe_bl _ _ _ _))) (@pss_nil _)) (@pss_one _ _ _ (@ps_ret _ _ _ _ (@pe_callB _ _ _ _ _ _ _ _ _ (call_all1 rfl) g_is_prefix_all M.m_all b_all (@pa_cons _ _ _ _ _ (@pe_comp _ _ _ _ _ _ _ _ _ _ _ _ _ _ _ rfl (CompOk.make (N' := ["part"]) (ix := []) (nl := 1) (by rfl) fm0 (by rfl) (by decide +kernel) rfl (by decide +kernel) rfl True.intro) (@pi_tup _ _ _ _ (@pe_var _ 0 _ _ rfl v_is_prefix_0 dn_thing dc_thing)) (fun _ _ _ _ _ => (@pg_name _ _ 0 _ (show List.Nodup (["part"] : List Str) from by decide) rfl (Or.inl rfl) (by first | exact .inl rfl | exact .inr rfl | assumption))) (fun _ _ _ _ _ => (@pif_nil _)) (fun _ _ _ _ _ => (@pe_and _ _ _ _ _ _ _ (@pe_callC _ _ _ _ _ _ _ _ _ _ _ C_is_whole hr rfl (@pa_cons _ _ _ _ _ (@pv _ 0 _ _ (by rfl) (by first | exact Or.inl rfl | exact Or.inr (Or.inl rfl) | exact Or.inr (Or.inr rfl)) (by decide) (by decide)) (@pa_nil _) (star1 rfl)) (by decide) dn_is_whole (star1 rfl) nost0) (@pe_one _ _ _ _ _ (@pe_chain _ _ _ _ _ _ _ _ _ _ _ _ op_le op_le (@pe_int _ _ _ _) (@pv _ 0 _ _ (by rfl) (by first | exact Or.inl rfl | exact Or.inr (Or.inl rfl) | exact Or.inr (Or.inr rfl)) (by decide) (by decide)) (@pe_int _ _ _ _) (by with_unfolding_all rfl))))) (by intro _; rfl)) (@pa_nil _) (star1 rfl)) nn_all dn_all (star1 rfl) nost0)))), ?_⟩
  cases N with
  | no kd hk =>
    simp only [tComp_eq, tComp1, slots, Option.getD_some, Option.getD_none, tYes, tSeq, gName, tOp, tC, tVar, tCB, tCons, tNil, tCall, rI0, tRet, tIfS, tTest, tB, tOr, tNot, tAndV, tChain, tNext, rIsi, isi_non_bl, isi_non_int, isi_non_str, isi_non_lst, isi_non_tup, isi_bl_bl, isi_bl_int, isi_bl_str, isi_bl_lst, isi_bl_tup, isi_int_bl, isi_int_int, isi_int_str, isi_int_lst, isi_int_tup, isi_str_bl, isi_str_int, isi_str_str, isi_str_lst, isi_str_tup, isi_lst_bl, isi_lst_int, isi_lst_str, isi_lst_lst, isi_lst_tup, isi_tup_bl, isi_tup_int, isi_tup_str, isi_tup_lst, isi_tup_tup, isi_dct_bl, isi_dct_int, isi_dct_str, isi_dct_lst, isi_dct_tup, Kd_non, Kd_bl, Kd_int, Kd_str, decide_true, decide_false, iTup, tyK_int, tyK_bool, tyK_str, tyK_list, tyK_tuple, L2.start, cxK, Int.reduceToNat, List.map_cons, List.map_nil, List.length_cons, List.length_nil, Nat.reduceAdd, Nat.reduceSub, Nat.zero_add, List.replicate_succ, List.replicate_zero, List.cons_append, List.nil_append, List.append_nil, List.getElem?_cons_zero, List.getElem?_cons_succ, List.set_cons_zero, List.set_cons_succ, Option.some.injEq, V.int.injEq, V.bl.injEq, V.ref.injEq, V.str.injEq, V.ty.injEq, List.cons.injEq, exists_eq_left', exists_eq_left, exists_eq_right, exists_and_left, exists_and_right, and_true, true_and, and_assoc, exists_const, decide_eq_true_eq, Bool.not_eq_true', Bool.not_true, Bool.not_false, Bool.not_not, decide_eq_false_iff_not, ite_not, Bool.false_eq_true, if_true, if_false, reduceCtorEq, and_false, false_and, exists_false, or_false, false_or, ↓reduceIte, eq_self, reduceIte]
    refine ⟨_, kd, ?_⟩
    rw [if_pos (isi_tup_ne hk)]
    exact q _ (Same.refl _)
  | @tup p xs T kn =>
    simp only [tComp_eq, tComp1, slots, Option.getD_some, Option.getD_none, tYes, tSeq, gName, tOp, tC, tVar, tCB, tCons, tNil, tCall, rI0, tRet, tIfS, tTest, tB, tOr, tNot, tAndV, tChain, tNext, rIsi, isi_non_bl, isi_non_int, isi_non_str, isi_non_lst, isi_non_tup, isi_bl_bl, isi_bl_int, isi_bl_str, isi_bl_lst, isi_bl_tup, isi_int_bl, isi_int_int, isi_int_str, isi_int_lst, isi_int_tup, isi_str_bl, isi_str_int, isi_str_str, isi_str_lst, isi_str_tup, isi_lst_bl, isi_lst_int, isi_lst_str, isi_lst_lst, isi_lst_tup, isi_tup_bl, isi_tup_int, isi_tup_str, isi_tup_lst, isi_tup_tup, isi_dct_bl, isi_dct_int, isi_dct_str, isi_dct_lst, isi_dct_tup, Kd_non, Kd_bl, Kd_int, Kd_str, decide_true, decide_false, iTup, tyK_int, tyK_bool, tyK_str, tyK_list, tyK_tuple, L2.start, cxK, Int.reduceToNat, List.map_cons, List.map_nil, List.length_cons, List.length_nil, Nat.reduceAdd, Nat.reduceSub, Nat.zero_add, List.replicate_succ, List.replicate_zero, List.cons_append, List.nil_append, List.append_nil, List.getElem?_cons_zero, List.getElem?_cons_succ, List.set_cons_zero, List.set_cons_succ, Option.some.injEq, V.int.injEq, V.bl.injEq, V.ref.injEq, V.str.injEq, V.ty.injEq, List.cons.injEq, exists_eq_left', exists_eq_left, exists_eq_right, exists_and_left, exists_and_right, and_true, true_and, and_assoc, exists_const, decide_eq_true_eq, Bool.not_eq_true', Bool.not_true, Bool.not_false, Bool.not_not, decide_eq_false_iff_not, ite_not, Bool.false_eq_true, if_true, if_false, reduceCtorEq, and_false, false_and, exists_false, or_false, false_or, ↓reduceIte, eq_self, reduceIte]
    refine ⟨_, Kd.tup T, ?_⟩
    rw [if_neg (by decide)]
    refine ⟨_, .inr T, ?_⟩
    by_cases h4 : 4 < (xs.length : Int)
    · rw [if_pos h4]
      have e : prefB xs = false := by
        unfold prefB
        rw [decide_eq_false (by omega)]
        rfl
      rw [← e]
      exact q _ (Same.refl _)
    rw [if_neg h4]
    refine ⟨⟨_, T⟩, fun D hD => ?_⟩
    obtain ⟨Pc, hC⟩ : ∃ Pc : Nat → St → Hp → Prop, Pc = fun i τ H' => ∃ z, H' D = some (.lst (((xs.map itB).take i).map V.bl)) ∧ Same H H' ∧ τ = [z] := ⟨_, rfl⟩
    refine compS_tup xs Pc ?_ (fun i τ H' _ h => by rw [hC] at h; obtain ⟨z, _, e, _⟩ := h; exact Same.tup e T) ?_ ?_
    · rw [hC]
      exact ⟨_, upd_same, same_new hD _, rfl⟩
    · intro i x τ H' R hx h next
      rw [hC] at h
      obtain ⟨z, d1, d2, rfl⟩ := h
      have li : i < xs.length := (List.getElem?_eq_some_iff.mp hx).1
      have key : ∃ ys, H' D = some (.lst ys) ∧ ys.length < sizeLine ∧ R [some x] (upd H' D (.lst (ys ++ [.bl (itB x)]))) := by
        refine ⟨_, d1, ?_, next _ _ ?_⟩
        · rw [List.length_map, List.length_take, List.length_map]
          exact Nat.lt_of_lt_of_le (m := 64) (by omega) (by decide)
        · rw [hC]
          refine ⟨_, ?_, fun b o hb => by rw [upd_ne (ne_of_none hb hD)]; exact d2 _ _ hb, rfl⟩
          rw [upd_same, List.take_add_one, List.getElem?_map, hx, List.map_append]
          rfl
      obtain ⟨k, kd⟩ := (kn x (List.mem_of_getElem? hx)).same d2
      rcases whole_it kd with ⟨rfl, j, rfl⟩ | ⟨e1, e2⟩
      · simp only [tComp_eq, tComp1, slots, Option.getD_some, Option.getD_none, tYes, tSeq, gName, tOp, tC, tVar, tCB, tCons, tNil, tCall, rI0, tRet, tIfS, tTest, tB, tOr, tNot, tAndV, tChain, tNext, rIsi, isi_non_bl, isi_non_int, isi_non_str, isi_non_lst, isi_non_tup, isi_bl_bl, isi_bl_int, isi_bl_str, isi_bl_lst, isi_bl_tup, isi_int_bl, isi_int_int, isi_int_str, isi_int_lst, isi_int_tup, isi_str_bl, isi_str_int, isi_str_str, isi_str_lst, isi_str_tup, isi_lst_bl, isi_lst_int, isi_lst_str, isi_lst_lst, isi_lst_tup, isi_tup_bl, isi_tup_int, isi_tup_str, isi_tup_lst, isi_tup_tup, isi_dct_bl, isi_dct_int, isi_dct_str, isi_dct_lst, isi_dct_tup, Kd_non, Kd_bl, Kd_int, Kd_str, decide_true, decide_false, iTup, tyK_int, tyK_bool, tyK_str, tyK_list, tyK_tuple, L2.start, cxK, Int.reduceToNat, List.map_cons, List.map_nil, List.length_cons, List.length_nil, Nat.reduceAdd, Nat.reduceSub, Nat.zero_add, List.replicate_succ, List.replicate_zero, List.cons_append, List.nil_append, List.append_nil, List.getElem?_cons_zero, List.getElem?_cons_succ, List.set_cons_zero, List.set_cons_succ, Option.some.injEq, V.int.injEq, V.bl.injEq, V.ref.injEq, V.str.injEq, V.ty.injEq, List.cons.injEq, exists_eq_left', exists_eq_left, exists_eq_right, exists_and_left, exists_and_right, and_true, true_and, and_assoc, exists_const, decide_eq_true_eq, Bool.not_eq_true', Bool.not_true, Bool.not_false, Bool.not_not, decide_eq_false_iff_not, ite_not, Bool.false_eq_true, if_true, if_false, reduceCtorEq, and_false, false_and, exists_false, or_false, false_or, ↓reduceIte, eq_self, reduceIte]
        refine spIsWhole_of kd ⟨_, rfl, ?_⟩
        rw [if_pos (by decide)]
        have ei : itB (.int j) = (decide (1 ≤ j) && decide (j ≤ 99)) := by
          show decide (1 ≤ j ∧ j ≤ 99) = _
          by_cases a : 1 ≤ j <;> by_cases b : j ≤ 99 <;> simp [a, b]
        rw [ei] at key
        by_cases h1 : 1 ≤ j
        · rw [decide_eq_true h1, Bool.true_and] at key
          rw [if_pos h1]
          exact key
        · rw [decide_eq_false h1, Bool.false_and] at key
          rw [if_neg h1]
          exact key
      · simp only [tComp_eq, tComp1, slots, Option.getD_some, Option.getD_none, tYes, tSeq, gName, tOp, tC, tVar, tCB, tCons, tNil, tCall, rI0, tRet, tIfS, tTest, tB, tOr, tNot, tAndV, tChain, tNext, rIsi, isi_non_bl, isi_non_int, isi_non_str, isi_non_lst, isi_non_tup, isi_bl_bl, isi_bl_int, isi_bl_str, isi_bl_lst, isi_bl_tup, isi_int_bl, isi_int_int, isi_int_str, isi_int_lst, isi_int_tup, isi_str_bl, isi_str_int, isi_str_str, isi_str_lst, isi_str_tup, isi_lst_bl, isi_lst_int, isi_lst_str, isi_lst_lst, isi_lst_tup, isi_tup_bl, isi_tup_int, isi_tup_str, isi_tup_lst, isi_tup_tup, isi_dct_bl, isi_dct_int, isi_dct_str, isi_dct_lst, isi_dct_tup, Kd_non, Kd_bl, Kd_int, Kd_str, decide_true, decide_false, iTup, tyK_int, tyK_bool, tyK_str, tyK_list, tyK_tuple, L2.start, cxK, Int.reduceToNat, List.map_cons, List.map_nil, List.length_cons, List.length_nil, Nat.reduceAdd, Nat.reduceSub, Nat.zero_add, List.replicate_succ, List.replicate_zero, List.cons_append, List.nil_append, List.append_nil, List.getElem?_cons_zero, List.getElem?_cons_succ, List.set_cons_zero, List.set_cons_succ, Option.some.injEq, V.int.injEq, V.bl.injEq, V.ref.injEq, V.str.injEq, V.ty.injEq, List.cons.injEq, exists_eq_left', exists_eq_left, exists_eq_right, exists_and_left, exists_and_right, and_true, true_and, and_assoc, exists_const, decide_eq_true_eq, Bool.not_eq_true', Bool.not_true, Bool.not_false, Bool.not_not, decide_eq_false_iff_not, ite_not, Bool.false_eq_true, if_true, if_false, reduceCtorEq, and_false, false_and, exists_false, or_false, false_or, ↓reduceIte, eq_self, reduceIte]
        refine spIsWhole_of kd ⟨_, rfl, ?_⟩
        rw [e1, if_neg (by decide)]
        rw [e2] at key
        exact key
    · intro τ H' h
      rw [hC] at h
      obtain ⟨z, d1, d2, rfl⟩ := h
      rw [List.take_of_length_le (by rw [List.length_map]; exact Nat.le_refl _)] at d1
      refine ⟨_, rfl, _, SqL.of d1, ?_⟩
      have e : prefB xs = (xs.map itB).all id := by
        unfold prefB
        rw [decide_eq_true (by omega), Bool.true_and, List.all_map]
        rfl
      rw [← e]
      exact q _ d2
end

abbrev Ah (ps ns : List Int) : Prop := ns.take ps.length = ps
def spBegins (K : PySem.W.Frag) : Sp := fun vs H Q _ => ∃ (p n : Addr) (ps ns : List Int), vs = [.ref p, .ref n] ∧ SqT K H p (ps.map V.int) ∧ SqT K H n (ns.map V.int) ∧ ∀ H', Same H H' → Q (.bl (decide (Ah ps ns))) H'
structure Ps (K : PySem.W.Frag) (H : Hp) (rs : List (Addr × List Int)) : Prop where
  all : ∀ r ∈ rs, SqT K H r.1 (r.2.map V.int) ∧ r.2.length ≤ 4
  len : rs.length ≤ 25
def refs (rs : List (Addr × List Int)) : List V := rs.map fun r => V.ref r.1
theorem Ps.same {K : PySem.W.Frag} {H H' : Hp} {rs : List (Addr × List Int)} (h : Ps K H rs) (e : Same H H') : Ps K H' rs := ⟨fun r hr => ⟨Same.tup e (h.all r hr).1, (h.all r hr).2⟩, h.len⟩
theorem Ps.at {K : PySem.W.Frag} {H : Hp} {rs : List (Addr × List Int)} (h : Ps K H rs) {i : Nat} {r : Addr × List Int} (e : rs[i]? = some r) : SqT K H r.1 (r.2.map V.int) ∧ r.2.length ≤ 4 := h.all r (List.mem_of_getElem? e)
theorem refs_at {rs : List (Addr × List Int)} {i : Nat} {x : V} (h : (refs rs)[i]? = some x) : ∃ r, rs[i]? = some r ∧ x = .ref r.1 := by
  unfold refs at h
  rw [List.getElem?_map] at h
  cases e : rs[i]? with
  | none => rw [e] at h; cases h
  | some r => rw [e] at h; exact ⟨r, rfl, (Option.some.inj h).symm⟩
theorem refs_len (rs : List (Addr × List Int)) : (refs rs).length = rs.length := List.length_map ..
theorem refs_ix {rs : List (Addr × List Int)} {i : Nat} {r : Addr × List Int} (h : rs[i]? = some r) : atI (refs rs) (i : Int) = some (.ref r.1) := by
  refine atI_nat ?_
  unfold refs
  rw [List.getElem?_map, h]
  rfl
theorem refs_ok (rs : List (Addr × List Int)) : (refs rs).all okV = true := by
  rw [List.all_eq_true]
  intro x hx
  obtain ⟨r, _, rfl⟩ := List.mem_map.mp hx
  rfl
def Near (rs : List (Addr × List Int)) (ns : List Int) (i : Nat) : Option Nat → Prop
  | none => ∀ (k : Nat) r, k < i → rs[k]? = some r → ¬ Ah r.2 ns
  | some j => ∃ q, j < i ∧ rs[j]? = some q ∧ Ah q.2 ns ∧ ∀ (k : Nat) r, k < i → rs[k]? = some r → Ah r.2 ns → r.2.length ≤ q.2.length ∧ (r.2.length = q.2.length → j ≤ k)
def fV : Option Nat → V
  | none => .non
  | some j => .int j
theorem Near.miss {rs : List (Addr × List Int)} {ns : List Int} {i : Nat} {f : Option Nat} {r : Addr × List Int} (h : Near rs ns i f) (e : rs[i]? = some r) (n : ¬ Ah r.2 ns) : Near rs ns (i + 1) f := by
  cases f with
  | none =>
    intro k q hk hq
    by_cases hki : k = i
    · subst hki
      rw [e] at hq
      cases hq
      exact n
    · exact h k q (by omega) hq
  | some j =>
    obtain ⟨q, hj, hq, ha, hm⟩ := h
    refine ⟨q, by omega, hq, ha, fun k r' hk hr' ha' => ?_⟩
    by_cases hki : k = i
    · subst hki
      rw [e] at hr'
      cases hr'
      exact absurd ha' n
    · exact hm k r' (by omega) hr' ha'
theorem Near.first {rs : List (Addr × List Int)} {ns : List Int} {i : Nat} {r : Addr × List Int} (h : Near rs ns i none) (e : rs[i]? = some r) (a : Ah r.2 ns) : Near rs ns (i + 1) (some i) := by
  refine ⟨r, by omega, e, a, fun k r' hk hr' ha' => ?_⟩
  by_cases hki : k = i
  · subst hki
    rw [e] at hr'
    cases hr'
    exact ⟨Nat.le_refl _, fun _ => Nat.le_refl _⟩
  · exact absurd ha' (h k r' (by omega) hr')
theorem Near.more {rs : List (Addr × List Int)} {ns : List Int} {i j : Nat} {r q : Addr × List Int} (h : Near rs ns i (some j)) (e : rs[i]? = some r) (a : Ah r.2 ns) (eq : rs[j]? = some q) (l : q.2.length < r.2.length) : Near rs ns (i + 1) (some i) := by
  obtain ⟨q', hj, hq, ha, hm⟩ := h
  rw [eq] at hq
  cases hq
  refine ⟨r, by omega, e, a, fun k r' hk hr' ha' => ?_⟩
  by_cases hki : k = i
  · subst hki
    rw [e] at hr'
    cases hr'
    exact ⟨Nat.le_refl _, fun _ => Nat.le_refl _⟩
  · obtain ⟨l1, l2⟩ := hm k r' (by omega) hr' ha'
    exact ⟨by omega, fun z => by omega⟩
theorem Near.less {rs : List (Addr × List Int)} {ns : List Int} {i j : Nat} {r q : Addr × List Int} (h : Near rs ns i (some j)) (e : rs[i]? = some r) (eq : rs[j]? = some q) (l : ¬ q.2.length < r.2.length) : Near rs ns (i + 1) (some j) := by
  obtain ⟨q', hj, hq, ha, hm⟩ := h
  rw [eq] at hq
  cases hq
  refine ⟨q, by omega, eq, ha, fun k r' hk hr' ha' => ?_⟩
  by_cases hki : k = i
  · subst hki
    rw [e] at hr'
    cases hr'
    exact ⟨by omega, fun _ => by omega⟩
  · exact hm k r' (by omega) hr' ha'
def spNearest (K : PySem.W.Frag) : Sp := fun vs H Q _ => ∃ (a n : Addr) (rs : List (Addr × List Int)) (ns : List Int), vs = [.ref a, .ref n] ∧ SqL K H a (refs rs) ∧ Ps K H rs ∧ SqT K H n (ns.map V.int) ∧
  ∀ f H', Same H H' → Near rs ns rs.length f → Q (fV f) H'
section
variable {P : Program} {w : World} {K : PySem.W.Frag} {mg : Str → Option Value} {base : Heap} {f : Addr} {fd : FuncData}
theorem ok_begins (F : Fun K "begins" "begins" s_begins f fd) (M : Mg mg) : FnOk P w K mg base CX0 1 f fd ["prefix", "number"] (spBegins K) := by
  refine F.ok sc_begins (fun vs H Q E h => ?_) (fun cdv A outer s H vs Q E hr h => ?_)
  · obtain ⟨p, n, ps, ns, rfl, _⟩ := h
    rfl
  obtain ⟨p, n, ps, ns, rfl, hp, hn, q⟩ := h
  refine ⟨_, (@pss_one _ _ _ (@ps_ret _ _ _ _ (@pe_cmpR _ _ _ _ _ _ _ _ (@op_eqS _ (Nat.lt_of_succ_lt (hu_of hr))) (@pe_slice _ _ _ _ _ _ _ _ _ _ (@sl_tupA _) (@pe_var _ 1 _ _ rfl v_begins_1 dn_number dc_number) (@po_none _) (@po_some _ _ _ (@pe_callB _ _ _ _ _ _ _ _ _ call_len_seq g_begins_len M.m_len b_len (@pa_cons _ _ _ _ _ (@pe_var _ 0 _ _ rfl v_begins_0 dn_prefix dc_prefix) (@pa_nil _) (star1 rfl)) nn_len dn_len (star1 rfl) nost0))) (@pe_var _ 0 _ _ rfl v_begins_0 dn_prefix dc_prefix) (nomark _)))), ?_⟩
  simp only [rSlTA, slots, Option.getD_some, Option.getD_none, tOp, tVar, tCB, tCons, tNil, tRet, tSl, tPart, tNoPart, Kd_non, Kd_bl, Kd_int, Kd_str, decide_true, decide_false, L2.start, cxK, Int.reduceToNat, List.map_cons, List.map_nil, List.length_cons, List.length_nil, Nat.reduceAdd, Nat.reduceSub, Nat.zero_add, List.replicate_succ, List.replicate_zero, List.cons_append, List.nil_append, List.append_nil, List.getElem?_cons_zero, List.getElem?_cons_succ, List.set_cons_zero, List.set_cons_succ, Option.some.injEq, V.int.injEq, V.bl.injEq, V.ref.injEq, V.str.injEq, V.ty.injEq, List.cons.injEq, exists_eq_left', exists_eq_left, exists_eq_right, exists_and_left, exists_and_right, and_true, true_and, and_assoc, exists_const, decide_eq_true_eq, Bool.not_eq_true', Bool.not_true, Bool.not_false, Bool.not_not, decide_eq_false_iff_not, ite_not, Bool.false_eq_true, if_true, if_false, reduceCtorEq, and_false, false_and, exists_false, or_false, false_or, ↓reduceIte, eq_self, reduceIte]
  have ec : cutV (ns.map V.int) none (some ((ps.map V.int).length : Int)) = (ns.take ps.length).map V.int := by rw [cut_to, List.length_map, List.map_take]
  refine ⟨_, .inr hp, _, hn, fun e => ?_, fun t ht => ?_⟩
  · rw [ec] at e
    refine rEqS_ints (.inr ⟨by rw [e]; exact hn, hp⟩) ?_
    exact q _ (Same.refl _)
  · rw [ec]
    refine rEqS_ints (.inr ⟨SqT.of upd_same, Same.tup (same_new ht _) hp⟩) ?_
    exact q _ (same_new ht _)
theorem ok_nearest (F : Fun K "nearest" "nearest" s_nearest f fd) (M : Mg mg) (C_begins : Cal P w K mg base CX0 "begins" 1 ["prefix", "number"] (spBegins K)) : FnOk P w K mg base CX0 2 f fd ["prefixes", "number"] (spNearest K) := by
  refine F.ok sc_nearest (fun vs H Q E h => ?_) (fun cdv A outer s H vs Q E hr h => ?_)
  · obtain ⟨a, n, rs, ns, rfl, _⟩ := h
    rfl
  obtain ⟨a, n, rs, ns, rfl, hS, hp, hn, q⟩ := h
  refine ⟨_, (@pss_cons _ _ _ _ _ (@ps_set _ _ 2 _ _ _ _ sc_nearest.nd rfl l_nearest_2 (@pe_non _ _ _) (swap1 rfl) (.inl rfl)) (@pss_cons _ _ _ _ _ (@ps_for _ _ _ _ _ _ _ _ PassesOwn.never rfl (@pi_enumL _ _ _ _ _ _ _ _ g_nearest_enumerate M.m_enumerate (@pa_cons _ _ _ _ _ (@pe_var _ 0 _ _ rfl v_nearest_0 dn_prefixes dc_prefixes) (@pa_nil _) (star1 rfl)) (by rfl)) (@pg_tup _ _ _ _ _ _ rfl (@pgs_cons _ _ _ _ _ (@pg_name _ _ 3 _ sc_nearest.nd rfl l_nearest_3 (.inl rfl)) (@pgs_cons _ _ _ _ _ (@pg_name _ _ 4 _ sc_nearest.nd rfl l_nearest_4 (.inl rfl)) (@pgs_nil _) (by rfl)) (by rfl)) (by rfl) (by rfl)) (@pss_one _ _ _ (@ps_if _ _ _ _ _ _ _ _ (@PW.pt _ _ _ (@pw_and _ _ _ _ _ _ _ (@pt_val _ _ _ (@pe_callC _ _ _ _ _ _ _ _ _ _ _ C_begins hr g_nearest_begins (@pa_cons _ _ _ _ _ (@pe_var _ 4 _ _ rfl v_nearest_4 dn_prefix dc_prefix) (@pa_cons _ _ _ _ _ (@pe_var _ 1 _ _ rfl v_nearest_1 dn_number dc_number) (@pa_nil _) (star1 rfl)) (star1 rfl)) (by decide) dn_begins (star1 rfl) (nost1 rfl nost0)) (test1 rfl)) (@pw_and1 _ _ _ _ (@PW.pt _ _ _ (@pw_or _ _ _ _ _ _ _ (@pt_cmpR _ _ _ _ _ _ _ _ (@op_isN _) (@pe_var _ 2 _ _ rfl v_nearest_2 dn_found dc_found) (@pe_non _ _ _) (nomark _)) (@pw_or1 _ _ _ _ (@pt_cmpR _ _ _ _ _ _ _ _ (@op_gt _) (@pe_callB _ _ _ _ _ _ _ _ _ call_len_seq g_nearest_len M.m_len b_len (@pa_cons _ _ _ _ _ (@pe_var _ 4 _ _ rfl v_nearest_4 dn_prefix dc_prefix) (@pa_nil _) (star1 rfl)) nn_len dn_len (star1 rfl) nost0) (@pe_callB _ _ _ _ _ _ _ _ _ call_len_seq g_nearest_len M.m_len b_len (@pa_cons _ _ _ _ _ (@pe_ix _ _ _ _ _ _ _ (@ix_list _) (@pe_var _ 0 _ _ rfl v_nearest_0 dn_prefixes dc_prefixes) (@pe_var _ 2 _ _ rfl v_nearest_2 dn_found dc_found) (fun _ _ => rfl)) (@pa_nil _) (star1 rfl)) nn_len dn_len (star1 rfl) nost0) (nomark _)))))))) (@pss_one _ _ _ (@ps_set _ _ 2 _ _ _ _ sc_nearest.nd rfl l_nearest_2 (@pe_var _ 3 _ _ rfl v_nearest_3 dn_place dc_place) (swap1 rfl) (.inl rfl))) (@pss_nil _))) (by intro _; rfl)) (@pss_one _ _ _ (@ps_ret _ _ _ _ (@pe_var _ 2 _ _ rfl v_nearest_2 dn_found dc_found))))), ?_⟩
  simp only [iEnumL, slots, Option.getD_some, Option.getD_none, tSeq, tAsg, gName, tOp, tC, tVar, tCB, tCons, tNil, tCall, rI0, tRet, tIfS, tTest, tB, tAnd, tOr, tNext, gTup, gCons, gNil, rIxL, Kd_non, Kd_bl, Kd_int, Kd_str, decide_true, decide_false, tFor_eq, L2.start, cxK, Int.reduceToNat, List.map_cons, List.map_nil, List.length_cons, List.length_nil, Nat.reduceAdd, Nat.reduceSub, Nat.zero_add, List.replicate_succ, List.replicate_zero, List.cons_append, List.nil_append, List.append_nil, List.getElem?_cons_zero, List.getElem?_cons_succ, List.set_cons_zero, List.set_cons_succ, Option.some.injEq, V.int.injEq, V.bl.injEq, V.ref.injEq, V.str.injEq, V.ty.injEq, List.cons.injEq, exists_eq_left', exists_eq_left, exists_eq_right, exists_and_left, exists_and_right, and_true, true_and, and_assoc, exists_const, decide_eq_true_eq, Bool.not_eq_true', Bool.not_true, Bool.not_false, Bool.not_not, decide_eq_false_iff_not, ite_not, Bool.false_eq_true, if_true, if_false, reduceCtorEq, and_false, false_and, exists_false, or_false, false_or, ↓reduceIte, eq_self, reduceIte]
  refine ⟨⟨_, hS⟩, ?_⟩
  obtain ⟨Pv, hP⟩ : ∃ Pv : Nat → St → Hp → Prop, Pv = fun i σ H' => Same H H' ∧ ∃ fo y z, σ = [some (.ref a), some (.ref n), some (fV fo), y, z] ∧ Near rs ns i fo := ⟨_, rfl⟩
  refine forW_enum (refs rs) Pv ?_ ?_ ?_ ?_
  · rw [hP]
    exact ⟨Same.refl H, none, _, _, rfl, fun k r hk => by omega⟩
  · intro i σ H' _ h
    rw [hP] at h
    exact h.1.seq hS
  · intro i v T σ H' hv h hT
    rw [hP] at h
    obtain ⟨e, fo, y, z, rfl, G⟩ := h
    obtain ⟨r, er, rfl⟩ := refs_at hv
    have e2 := e.trans (same_new hT (.tup [.int i, .ref r.1]))
    obtain ⟨s1, s2⟩ := hp.at er
    simp only [iEnumL, slots, Option.getD_some, Option.getD_none, tSeq, tAsg, gName, tOp, tC, tVar, tCB, tCons, tNil, tCall, rI0, tRet, tIfS, tTest, tB, tAnd, tOr, tNext, gTup, gCons, gNil, rIxL, Kd_non, Kd_bl, Kd_int, Kd_str, decide_true, decide_false, tFor_eq, L2.start, cxK, Int.reduceToNat, List.map_cons, List.map_nil, List.length_cons, List.length_nil, Nat.reduceAdd, Nat.reduceSub, Nat.zero_add, List.replicate_succ, List.replicate_zero, List.cons_append, List.nil_append, List.append_nil, List.getElem?_cons_zero, List.getElem?_cons_succ, List.set_cons_zero, List.set_cons_succ, Option.some.injEq, V.int.injEq, V.bl.injEq, V.ref.injEq, V.str.injEq, V.ty.injEq, List.cons.injEq, exists_eq_left', exists_eq_left, exists_eq_right, exists_and_left, exists_and_right, and_true, true_and, and_assoc, exists_const, decide_eq_true_eq, Bool.not_eq_true', Bool.not_true, Bool.not_false, Bool.not_not, decide_eq_false_iff_not, ite_not, Bool.false_eq_true, if_true, if_false, reduceCtorEq, and_false, false_and, exists_false, or_false, false_or, ↓reduceIte, eq_self, reduceIte]
    refine ⟨_, SqT.of upd_same, rfl, ?_⟩
    simp only [iEnumL, slots, Option.getD_some, Option.getD_none, tSeq, tAsg, gName, tOp, tC, tVar, tCB, tCons, tNil, tCall, rI0, tRet, tIfS, tTest, tB, tAnd, tOr, tNext, gTup, gCons, gNil, rIxL, Kd_non, Kd_bl, Kd_int, Kd_str, decide_true, decide_false, tFor_eq, L2.start, cxK, Int.reduceToNat, List.map_cons, List.map_nil, List.length_cons, List.length_nil, Nat.reduceAdd, Nat.reduceSub, Nat.zero_add, List.replicate_succ, List.replicate_zero, List.cons_append, List.nil_append, List.append_nil, List.getElem?_cons_zero, List.getElem?_cons_succ, List.set_cons_zero, List.set_cons_succ, Option.some.injEq, V.int.injEq, V.bl.injEq, V.ref.injEq, V.str.injEq, V.ty.injEq, List.cons.injEq, exists_eq_left', exists_eq_left, exists_eq_right, exists_and_left, exists_and_right, and_true, true_and, and_assoc, exists_const, decide_eq_true_eq, Bool.not_eq_true', Bool.not_true, Bool.not_false, Bool.not_not, decide_eq_false_iff_not, ite_not, Bool.false_eq_true, if_true, if_false, reduceCtorEq, and_false, false_and, exists_false, or_false, false_or, ↓reduceIte, eq_self, reduceIte]
    refine ⟨_, _, _, _, rfl, Same.tup e2 s1, Same.tup e2 hn, fun H2 e3 => ?_⟩
    have e4 := e2.trans e3
    simp only [iEnumL, slots, Option.getD_some, Option.getD_none, tSeq, tAsg, gName, tOp, tC, tVar, tCB, tCons, tNil, tCall, rI0, tRet, tIfS, tTest, tB, tAnd, tOr, tNext, gTup, gCons, gNil, rIxL, Kd_non, Kd_bl, Kd_int, Kd_str, decide_true, decide_false, tFor_eq, L2.start, cxK, Int.reduceToNat, List.map_cons, List.map_nil, List.length_cons, List.length_nil, Nat.reduceAdd, Nat.reduceSub, Nat.zero_add, List.replicate_succ, List.replicate_zero, List.cons_append, List.nil_append, List.append_nil, List.getElem?_cons_zero, List.getElem?_cons_succ, List.set_cons_zero, List.set_cons_succ, Option.some.injEq, V.int.injEq, V.bl.injEq, V.ref.injEq, V.str.injEq, V.ty.injEq, List.cons.injEq, exists_eq_left', exists_eq_left, exists_eq_right, exists_and_left, exists_and_right, and_true, true_and, and_assoc, exists_const, decide_eq_true_eq, Bool.not_eq_true', Bool.not_true, Bool.not_false, Bool.not_not, decide_eq_false_iff_not, ite_not, Bool.false_eq_true, if_true, if_false, reduceCtorEq, and_false, false_and, exists_false, or_false, false_or, ↓reduceIte, eq_self, reduceIte]
    by_cases ha : Ah r.2 ns
    · rw [if_pos ha]
      cases fo with
      | none =>
        unfold fV
        simp only [iEnumL, slots, Option.getD_some, Option.getD_none, tSeq, tAsg, gName, tOp, tC, tVar, tCB, tCons, tNil, tCall, rI0, tRet, tIfS, tTest, tB, tAnd, tOr, tNext, gTup, gCons, gNil, rIxL, Kd_non, Kd_bl, Kd_int, Kd_str, decide_true, decide_false, tFor_eq, L2.start, cxK, Int.reduceToNat, List.map_cons, List.map_nil, List.length_cons, List.length_nil, Nat.reduceAdd, Nat.reduceSub, Nat.zero_add, List.replicate_succ, List.replicate_zero, List.cons_append, List.nil_append, List.append_nil, List.getElem?_cons_zero, List.getElem?_cons_succ, List.set_cons_zero, List.set_cons_succ, Option.some.injEq, V.int.injEq, V.bl.injEq, V.ref.injEq, V.str.injEq, V.ty.injEq, List.cons.injEq, exists_eq_left', exists_eq_left, exists_eq_right, exists_and_left, exists_and_right, and_true, true_and, and_assoc, exists_const, decide_eq_true_eq, Bool.not_eq_true', Bool.not_true, Bool.not_false, Bool.not_not, decide_eq_false_iff_not, ite_not, Bool.false_eq_true, if_true, if_false, reduceCtorEq, and_false, false_and, exists_false, or_false, false_or, ↓reduceIte, eq_self, reduceIte]
        rw [hP]
        exact ⟨e4, some i, _, _, rfl, G.first er ha⟩
      | some j =>
        obtain ⟨q', hj, hq, _⟩ := id G
        obtain ⟨t1, t2⟩ := hp.at hq
        unfold fV
        simp only [iEnumL, slots, Option.getD_some, Option.getD_none, tSeq, tAsg, gName, tOp, tC, tVar, tCB, tCons, tNil, tCall, rI0, tRet, tIfS, tTest, tB, tAnd, tOr, tNext, gTup, gCons, gNil, rIxL, Kd_non, Kd_bl, Kd_int, Kd_str, decide_true, decide_false, tFor_eq, L2.start, cxK, Int.reduceToNat, List.map_cons, List.map_nil, List.length_cons, List.length_nil, Nat.reduceAdd, Nat.reduceSub, Nat.zero_add, List.replicate_succ, List.replicate_zero, List.cons_append, List.nil_append, List.append_nil, List.getElem?_cons_zero, List.getElem?_cons_succ, List.set_cons_zero, List.set_cons_succ, Option.some.injEq, V.int.injEq, V.bl.injEq, V.ref.injEq, V.str.injEq, V.ty.injEq, List.cons.injEq, exists_eq_left', exists_eq_left, exists_eq_right, exists_and_left, exists_and_right, and_true, true_and, and_assoc, exists_const, decide_eq_true_eq, Bool.not_eq_true', Bool.not_true, Bool.not_false, Bool.not_not, decide_eq_false_iff_not, ite_not, Bool.false_eq_true, if_true, if_false, reduceCtorEq, and_false, false_and, exists_false, or_false, false_or, ↓reduceIte, eq_self, reduceIte]
        refine ⟨_, .inr (Same.tup e4 s1), _, e4.seq hS, _, refs_ix hq, _, rfl, _, .inr (Same.tup e4 t1), ?_⟩
        rw [List.length_map, List.length_map]
        by_cases hl : q'.2.length < r.2.length
        · rw [if_pos (by omega), hP]
          exact ⟨e4, some i, _, _, rfl, G.more er ha hq hl⟩
        · rw [if_neg (by omega), hP]
          exact ⟨e4, some j, _, _, rfl, G.less er hq hl⟩
    · rw [if_neg ha]
      rw [hP]
      exact ⟨e4, fo, _, _, rfl, G.miss er ha⟩
  · intro σ H' h
    rw [hP] at h
    obtain ⟨e, fo, y, z, rfl, G⟩ := h
    simp only [iEnumL, slots, Option.getD_some, Option.getD_none, tSeq, tAsg, gName, tOp, tC, tVar, tCB, tCons, tNil, tCall, rI0, tRet, tIfS, tTest, tB, tAnd, tOr, tNext, gTup, gCons, gNil, rIxL, Kd_non, Kd_bl, Kd_int, Kd_str, decide_true, decide_false, tFor_eq, L2.start, cxK, Int.reduceToNat, List.map_cons, List.map_nil, List.length_cons, List.length_nil, Nat.reduceAdd, Nat.reduceSub, Nat.zero_add, List.replicate_succ, List.replicate_zero, List.cons_append, List.nil_append, List.append_nil, List.getElem?_cons_zero, List.getElem?_cons_succ, List.set_cons_zero, List.set_cons_succ, Option.some.injEq, V.int.injEq, V.bl.injEq, V.ref.injEq, V.str.injEq, V.ty.injEq, List.cons.injEq, exists_eq_left', exists_eq_left, exists_eq_right, exists_and_left, exists_and_right, and_true, true_and, and_assoc, exists_const, decide_eq_true_eq, Bool.not_eq_true', Bool.not_true, Bool.not_false, Bool.not_not, decide_eq_false_iff_not, ite_not, Bool.false_eq_true, if_true, if_false, reduceCtorEq, and_false, false_and, exists_false, or_false, false_or, ↓reduceIte, eq_self, reduceIte]
    rw [refs_len] at G
    exact q fo _ e G
end

def Keeps (H H' : Hp) : Prop := ∀ b u, H b = some u → (∀ ys, u ≠ .lst ys) → (∀ kvs, u ≠ .dT kvs) → H' b = some u
theorem Keeps.of {H H' : Hp} (e : Same H H') : Keeps H H' := fun b u h _ _ => e b u h
theorem Keeps.trans {H H' H'' : Hp} (a : Keeps H H') (b : Keeps H' H'') : Keeps H H'' := fun x u h n1 n2 => b x u (a x u h n1 n2) n1 n2
theorem keeps_lst {H : Hp} {l : Addr} {ys : List V} {o : HO} (h : H l = some (.lst ys)) : Keeps H (upd H l o) := fun b u hb n1 _ => by
  rw [upd_ne (fun e => by rw [e, h] at hb; cases hb; exact n1 _ rfl)]
  exact hb
theorem keeps_dT {H : Hp} {l : Addr} {kvs : List (List Key × V)} {o : HO} (h : H l = some (.dT kvs)) : Keeps H (upd H l o) := fun b u hb _ n2 => by
  rw [upd_ne (fun e => by rw [e, h] at hb; cases hb; exact n2 _ rfl)]
  exact hb
theorem Keeps.tup {K : PySem.W.Frag} {H H' : Hp} {a : Addr} {xs : List V} (e : Keeps H H') (h : SqT K H a xs) : SqT K H' a xs := by
  rcases h with (h | ⟨o, h⟩) | h
  · exact .inl (.inl (e _ _ h (fun _ z => by cases z) (fun _ z => by cases z)))
  · exact .inl (.inr ⟨o, e _ _ h (fun _ z => by cases z) (fun _ z => by cases z)⟩)
  · exact .inr h
theorem Keeps.tol {K : PySem.W.Frag} {H H' : Hp} (e : Keeps H H') : ∀ {r : Rl} {v : V}, TolA K H v r → TolA K H' v r
  | .grown, v, R => by
    obtain ⟨p, rfl⟩ := told_ref R
    cases tol_row R with
    | grown T => exact tol_grown (e.tup T)
  | .change d, v, R => by
    obtain ⟨p, rfl⟩ := told_ref R
    cases tol_row R with
    | change T => exact tol_change (e.tup T)
  | .share t b, v, R => by
    obtain ⟨p, rfl⟩ := told_ref R
    cases tol_row R with
    | share T T2 => exact tol_share (e.tup T) (e.tup T2)
  | .al x y, v, R => by
    obtain ⟨p, rfl⟩ := told_ref R
    cases tol_row R with
    | al T R1 R2 => exact tol_al (e.tup T) (Keeps.tol e R1) (Keeps.tol e R2)
  | .so x y, v, R => by
    obtain ⟨p, rfl⟩ := told_ref R
    cases tol_row R with
    | so T R1 R2 => exact tol_so (e.tup T) (Keeps.tol e R1) (Keeps.tol e R2)
structure Rw where
  p : Addr
  pp : Addr
  pf : List Int
  t : V
structure RwAt (K : PySem.W.Frag) (H : Hp) (g : Rw) : Prop where
  row : SqT K H g.p [.ref g.pp, g.t]
  pre : SqT K H g.pp (g.pf.map V.int)
  l4 : g.pf.length ≤ 4
  ins : ∀ i ∈ g.pf, 1 ≤ i ∧ i ≤ 99
theorem RwAt.same {K : PySem.W.Frag} {H H' : Hp} {g : Rw} (h : RwAt K H g) (e : Same H H') : RwAt K H' g := ⟨Same.tup e h.row, Same.tup e h.pre, h.l4, h.ins⟩
theorem RwAt.keeps {K : PySem.W.Frag} {H H' : Hp} {g : Rw} (h : RwAt K H g) (e : Keeps H H') : RwAt K H' g := ⟨e.tup h.row, e.tup h.pre, h.l4, h.ins⟩
def rrefs (gs : List Rw) : List V := gs.map fun g => V.ref g.p
def pfs (gs : List Rw) : List (List Int) := gs.map Rw.pf
theorem rrefs_len (gs : List Rw) : (rrefs gs).length = gs.length := List.length_map ..
theorem rrefs_at {gs : List Rw} {i : Nat} {x : V} (h : (rrefs gs)[i]? = some x) : ∃ g, gs[i]? = some g ∧ x = .ref g.p := by
  unfold rrefs at h
  rw [List.getElem?_map] at h
  obtain ⟨g, hg, rfl⟩ := Option.map_eq_some_iff.mp h
  exact ⟨g, hg, rfl⟩
theorem rrefs_ix {gs : List Rw} {i : Nat} {g : Rw} (h : gs[i]? = some g) : atI (rrefs gs) (i : Int) = some (.ref g.p) := by
  refine atI_nat ?_
  unfold rrefs
  rw [List.getElem?_map, h]
  rfl
theorem rrefs_ok (gs : List Rw) : (rrefs gs).all okV = true := by
  rw [List.all_eq_true]
  intro x hx
  obtain ⟨r, _, rfl⟩ := List.mem_map.mp hx
  rfl
inductive RowV (K : PySem.W.Frag) (H : Hp) : V → Bool → Prop
  | no {v : V} {k : Kn} : Kd K H v k → k ≠ .tup → RowV K H v false
  | len {p : Addr} {xs : List V} : SqT K H p xs → xs.length ≠ 2 → RowV K H (.ref p) false
  | two {p : Addr} {x y : V} {b : Bool} : SqT K H p [x, y] → PrefV K H x b → RowV K H (.ref p) b
theorem PrefV.same {K : PySem.W.Frag} {H H' : Hp} {v : V} {b : Bool} (h : PrefV K H v b) (e : Same H H') : PrefV K H' v b := by
  cases h with
  | no a c => exact .no (kd_same e a) c
  | tup a c => exact .tup (Same.tup e a) fun x hx => (c x hx).same e
theorem RowV.same {K : PySem.W.Frag} {H H' : Hp} {v : V} {b : Bool} (h : RowV K H v b) (e : Same H H') : RowV K H' v b := by
  cases h with
  | no a c => exact .no (kd_same e a) c
  | len a c => exact .len (Same.tup e a) c
  | two a c => exact .two (Same.tup e a) (c.same e)
theorem RwAt.rowV {K : PySem.W.Frag} {H : Hp} {g : Rw} (h : RwAt K H g) : RowV K H (.ref g.p) true := by
  have e : prefB (g.pf.map V.int) = true := by
    unfold prefB
    rw [List.length_map, decide_eq_true h.l4, Bool.true_and, List.all_map]
    exact List.all_eq_true.mpr fun i hi => decide_eq_true (h.ins i hi)
  have := PrefV.tup h.pre (fun x hx => by obtain ⟨i, _, rfl⟩ := List.mem_map.mp hx; exact ⟨.int, rfl⟩)
  rw [e] at this
  exact .two h.row this
inductive RAll (K : PySem.W.Frag) (H : Hp) : List V → List Bool → Prop
  | nil : RAll K H [] []
  | cons {x : V} {b : Bool} {xs : List V} {bs : List Bool} : RowV K H x b → RAll K H xs bs → RAll K H (x :: xs) (b :: bs)
theorem RAll.same {K : PySem.W.Frag} {H H' : Hp} {xs : List V} {bs : List Bool} (h : RAll K H xs bs) (e : Same H H') : RAll K H' xs bs := by
  induction h with
  | nil => exact .nil
  | cons a _ ih => exact .cons (a.same e) ih
theorem RAll.length {K : PySem.W.Frag} {H : Hp} {xs : List V} {bs : List Bool} (h : RAll K H xs bs) : xs.length = bs.length := by
  induction h with
  | nil => rfl
  | cons _ _ ih => rw [List.length_cons, List.length_cons, ih]
theorem RAll.at {K : PySem.W.Frag} {H : Hp} {xs : List V} {bs : List Bool} (h : RAll K H xs bs) : ∀ {i : Nat} {x : V}, xs[i]? = some x → ∃ b, bs[i]? = some b ∧ RowV K H x b := by
  induction h with
  | nil => intro i x e; simp at e
  | cons a _ ih =>
    intro i x e
    cases i with
    | zero => cases e; exact ⟨_, rfl, a⟩
    | succ i => exact ih e
theorem RAll.append {K : PySem.W.Frag} {H : Hp} {xs ys : List V} {bs cs : List Bool} (h : RAll K H xs bs) (g : RAll K H ys cs) : RAll K H (xs ++ ys) (bs ++ cs) := by
  induction h with
  | nil => exact g
  | cons a _ ih => exact .cons a ih
theorem RAll.rows {K : PySem.W.Frag} {H : Hp} : ∀ {gs : List Rw}, (∀ g ∈ gs, RwAt K H g) → RAll K H (rrefs gs) (List.replicate gs.length true)
  | [], _ => .nil
  | g :: gs, h => .cons (h g (List.mem_cons_self ..)).rowV (RAll.rows fun x hx => h x (List.mem_cons_of_mem _ hx))
def okPs (ps : List (List Int)) : Bool := decide ([] ∈ ps) && ps.all fun p => decide (ps.count p = 1)
inductive RowsV (K : PySem.W.Frag) (H : Hp) : V → Bool → Prop
  | no {v : V} {k : Kn} : Kd K H v k → k ≠ .lst → RowsV K H v false
  | len {l : Addr} {xs : List V} : SqL K H l xs → ¬(1 ≤ xs.length ∧ xs.length ≤ 24) → RowsV K H (.ref l) false
  | bad {l : Addr} {xs : List V} {bs : List Bool} : SqL K H l xs → 1 ≤ xs.length → xs.length ≤ 24 → RAll K H xs bs → bs.all id = false → RowsV K H (.ref l) false
  | good {l : Addr} {gs : List Rw} : SqL K H l (rrefs gs) → 1 ≤ gs.length → gs.length ≤ 24 → (∀ g ∈ gs, RwAt K H g) → RowsV K H (.ref l) (okPs (pfs gs))
def spIsRow (K : PySem.W.Frag) : Sp := fun vs H Q _ => ∃ v b, vs = [v] ∧ RowV K H v b ∧ ∀ H', Same H H' → Q (.bl b) H'
def spAreRows (K : PySem.W.Frag) : Sp := fun vs H Q _ => ∃ v b, vs = [v] ∧ RowsV K H v b ∧ ∀ H', Same H H' → Q (.bl b) H'
inductive BadRs (K : PySem.W.Frag) (H : Hp) : V → Prop
  | rows {v : V} : RowsV K H v false → BadRs K H v
  | rule {l : Addr} {gs1 gs2 : List Rw} {g : Rw} : SqL K H l (rrefs (gs1 ++ g :: gs2)) → (gs1 ++ g :: gs2).length ≤ 24 → (∀ x ∈ gs1 ++ g :: gs2, RwAt K H x) → okPs (pfs (gs1 ++ g :: gs2)) = true → (∀ x ∈ gs1, ∃ r : Rl, TolA K H x.t r ∧ r.ok ∧ r.dp ≤ 4) → RBad K H 4 g.t → BadRs K H (.ref l)
def spRulesOf (K : PySem.W.Frag) (cN : Addr) : Sp := fun vs H Q E => (∃ (l : Addr) (gs : List Rw), vs = [.ref l] ∧ SqL K H l (rrefs gs) ∧ 1 ≤ gs.length ∧ gs.length ≤ 24 ∧ (∀ g ∈ gs, RwAt K H g) ∧ okPs (pfs gs) = true ∧ (∀ g ∈ gs, ∃ r : Rl, TolA K H g.t r ∧ r.ok ∧ r.dp ≤ 4) ∧ ∀ l' H', H l' = none → Same H H' → H' l' = some (.lst (rrefs gs)) → Q (.ref l') H') ∨
  ∃ v, vs = [v] ∧ BadRs K H v ∧ ∀ H', Same H H' → E (.ref cN) none H'
def prs (gs : List Rw) : List (Addr × List Int) := gs.map fun g => (g.pp, g.pf)
def spRuleFor (K : PySem.W.Frag) : Sp := fun vs H Q _ => ∃ (l n : Addr) (gs : List Rw) (ns : List Int), vs = [.ref l, .ref n] ∧ SqL K H l (rrefs gs) ∧ gs.length ≤ 24 ∧ (∀ g ∈ gs, RwAt K H g) ∧ [] ∈ pfs gs ∧ SqT K H n (ns.map V.int) ∧ ∀ (j : Nat) (g : Rw) H', Same H H' → gs[j]? = some g → Near (prs gs) ns gs.length (some j) → Q g.t H'
def iD (ns : List Int) : PyData := .tuple (ns.map .int)
theorem ints_rep {K : PySem.W.Frag} {H : Hp} : ∀ ns : List Int, RepAll K H (ns.map V.int) (ns.map PyData.int)
  | [] => .nil
  | _ :: ns => .cons (.int _) (ints_rep ns)
theorem ints_flat : ∀ ns : List Int, PyData.canLayAll0 (ns.map PyData.int) = true ∧ PyData.depthAll (ns.map PyData.int) ≤ 0
  | [] => ⟨rfl, Nat.le_refl _⟩
  | n :: ns => by
    obtain ⟨a, b⟩ := ints_flat ns
    refine ⟨?_, ?_⟩
    · show (true && PyData.canLayAll0 (ns.map PyData.int)) = true
      rw [a]
      rfl
    · show max 0 (PyData.depthAll (ns.map PyData.int)) ≤ 0
      omega
theorem all_flat : ∀ fs : List (List Int), PyData.canLayAll0 (fs.map iD) = true ∧ PyData.depthAll (fs.map iD) ≤ 1
  | [] => ⟨rfl, by decide⟩
  | n :: fs => by
    obtain ⟨a, b⟩ := all_flat fs
    obtain ⟨c, d⟩ := ints_flat n
    refine ⟨?_, ?_⟩
    · show (PyData.canLayAll0 (n.map PyData.int) && PyData.canLayAll0 (fs.map iD)) = true
      rw [a, c]
      rfl
    · show max (PyData.depthAll (n.map PyData.int) + 1) (PyData.depthAll (fs.map iD)) ≤ 1
      omega
theorem eqv_iD (a b : List Int) : PyData.eqv (iD a) (iD b) = decide (a = b) := by
  show PyData.eqvAll (a.map PyData.int) (b.map PyData.int) = _
  rw [HT.eqvAll_ints]
theorem any_iD (a : List Int) : ∀ fs : List (List Int), ((fs.map iD).any fun y => PyData.eqv y (iD a)) = decide (a ∈ fs)
  | [] => rfl
  | c :: fs => by
    rw [List.map_cons, List.any_cons, any_iD a fs, eqv_iD]
    by_cases h : c = a
    · subst h
      rw [decide_eq_true rfl, decide_eq_true (List.mem_cons_self ..)]
      rfl
    · rw [decide_eq_false h, Bool.false_or]
      refine decide_eq_decide.mpr ⟨fun z => List.mem_cons_of_mem _ z, fun z => ?_⟩
      rcases List.mem_cons.mp z with e | e
      · exact absurd e.symm h
      · exact e
theorem count_iD (a : List Int) : ∀ fs : List (List Int), ((fs.map iD).countP fun y => PyData.eqv y (iD a)) = fs.count a
  | [] => rfl
  | c :: fs => by
    rw [List.map_cons, List.countP_cons, count_iD a fs, eqv_iD, List.count_cons]
    by_cases h : c = a
    · rw [if_pos (decide_eq_true h), if_pos (beq_iff_eq.mpr h)]
    · rw [if_neg (fun z => h (of_decide_eq_true z)), if_neg (fun z => h (beq_iff_eq.mp z))]
theorem flat_i (a : List Int) : flatD (iD a) := ⟨(ints_flat a).1, by have := (ints_flat a).2; show PyData.depthAll _ + 1 ≤ 40; omega⟩
theorem flat_is (fs : List (List Int)) : flatD (.list (fs.map iD)) := ⟨(all_flat fs).1, by have := (all_flat fs).2; show PyData.depthAll _ + 1 ≤ 40; omega⟩
theorem pre_rep {K : PySem.W.Frag} {H : Hp} : ∀ {gs : List Rw}, (∀ g ∈ gs, RwAt K H g) → RepAll K H (gs.map fun g => V.ref g.pp) ((pfs gs).map iD)
  | [], _ => .nil
  | g :: gs, h => .cons (.tup (h g (List.mem_cons_self ..)).pre (ints_rep _)) (pre_rep fun x hx => h x (List.mem_cons_of_mem _ hx))

theorem isi_lst_ne {k : Kn} (h : k ≠ .lst) : isiB k .lst = false := by
  cases k <;> first | rfl | exact absurd rfl h
section
variable {P : Program} {w : World} {K : PySem.W.Frag} {mg : Str → Option Value} {base : Heap} {f : Addr} {fd : FuncData} {cs : RC} {cN : Addr}
theorem ok_is_row (F : Fun K "is_row" "is_row" s_is_row f fd) (M : Mg mg) (C_is_prefix : Cal P w K mg base CX0 "is_prefix" 2 ["thing"] (spIsPrefix K)) : FnOk P w K mg base CX0 3 f fd ["thing"] (spIsRow K) := by
  refine F.ok sc_is_row (fun vs H Q E h => ?_) (fun cdv A outer s H vs Q E hr h => ?_)
  · obtain ⟨v, b, rfl, _⟩ := h
    rfl
  obtain ⟨v, b, rfl, B, q⟩ := h
  refine ⟨_, (@pss_one _ _ _ (@ps_ret _ _ _ _ (@pe_and _ _ _ _ _ _ _ (@pe_callB _ _ _ _ _ _ _ _ _ call_isi g_is_row_isinstance M.m_isinstance b_isinstance (@pa_cons _ _ _ _ _ (@pe_var _ 0 _ _ rfl v_is_row_0 dn_thing dc_thing) (@pa_cons _ _ _ _ _ (@pe_bltn _ _ (.ty "tuple") _ _ g_is_row_tuple M.m_tuple b_tuple rfl nn_tuple dn_tuple) (@pa_nil _) (star1 rfl)) (star1 rfl)) nn_isinstance dn_isinstance (star1 rfl) (nost1 rfl nost0)) (@pe_and _ _ _ _ _ _ _ (@pe_cmpR _ _ _ _ _ _ _ _ (@op_eq _) (@pe_callB _ _ _ _ _ _ _ _ _ call_len_seq g_is_row_len M.m_len b_len (@pa_cons _ _ _ _ _ (@pe_var _ 0 _ _ rfl v_is_row_0 dn_thing dc_thing) (@pa_nil _) (star1 rfl)) nn_len dn_len (star1 rfl) nost0) (@pe_int _ _ _ _) (nomark _)) (@pe_one _ _ _ _ _ (@pe_callC _ _ _ _ _ _ _ _ _ _ _ C_is_prefix hr g_is_row_is_prefix (@pa_cons _ _ _ _ _ (@pe_ix _ _ _ _ _ _ _ (@ix_tup _) (@pe_var _ 0 _ _ rfl v_is_row_0 dn_thing dc_thing) (@pe_int _ _ _ _) (fun _ _ => rfl)) (@pa_nil _) (star1 rfl)) (by decide) dn_is_prefix (star1 rfl) nost0)))))), ?_⟩
  cases B with
  | no hk ne =>
    simp only [slots, Option.getD_some, Option.getD_none, tOp, tC, tVar, tCB, tCons, tNil, tCall, tRet, tAndV, rEq, rIsi, rIxT, isi_non_bl, isi_non_int, isi_non_str, isi_non_lst, isi_non_tup, isi_bl_bl, isi_bl_int, isi_bl_str, isi_bl_lst, isi_bl_tup, isi_int_bl, isi_int_int, isi_int_str, isi_int_lst, isi_int_tup, isi_str_bl, isi_str_int, isi_str_str, isi_str_lst, isi_str_tup, isi_lst_bl, isi_lst_int, isi_lst_str, isi_lst_lst, isi_lst_tup, isi_tup_bl, isi_tup_int, isi_tup_str, isi_tup_lst, isi_tup_tup, isi_dct_bl, isi_dct_int, isi_dct_str, isi_dct_lst, isi_dct_tup, Kd_non, Kd_bl, Kd_int, Kd_str, sc_non_non, sc_non_int, sc_int_non, sc_non_bl, sc_bl_non, sc_non_str, sc_str_non, sc_int_int, sc_bl_bl, sc_str_str, sc_int_str, sc_str_int, sc_bl_str, sc_str_bl, decide_true, decide_false, tyK_int, tyK_bool, tyK_str, tyK_list, tyK_tuple, L2.start, cxK, Int.reduceToNat, List.map_cons, List.map_nil, List.length_cons, List.length_nil, Nat.reduceAdd, Nat.reduceSub, Nat.zero_add, List.replicate_succ, List.replicate_zero, List.cons_append, List.nil_append, List.append_nil, List.getElem?_cons_zero, List.getElem?_cons_succ, List.set_cons_zero, List.set_cons_succ, Option.some.injEq, V.int.injEq, V.bl.injEq, V.ref.injEq, V.str.injEq, V.ty.injEq, List.cons.injEq, exists_eq_left', exists_eq_left, exists_eq_right, exists_and_left, exists_and_right, and_true, true_and, and_assoc, exists_const, decide_eq_true_eq, Bool.not_eq_true', Bool.not_true, Bool.not_false, Bool.not_not, decide_eq_false_iff_not, ite_not, Bool.false_eq_true, if_true, if_false, reduceCtorEq, and_false, false_and, exists_false, or_false, false_or, ↓reduceIte, eq_self, reduceIte]
    refine ⟨_, hk, ?_⟩
    rw [isi_tup_ne ne, if_neg (by decide)]
    exact q _ (Same.refl _)
  | @len p xs T ne =>
    simp only [slots, Option.getD_some, Option.getD_none, tOp, tC, tVar, tCB, tCons, tNil, tCall, tRet, tAndV, rEq, rIsi, rIxT, isi_non_bl, isi_non_int, isi_non_str, isi_non_lst, isi_non_tup, isi_bl_bl, isi_bl_int, isi_bl_str, isi_bl_lst, isi_bl_tup, isi_int_bl, isi_int_int, isi_int_str, isi_int_lst, isi_int_tup, isi_str_bl, isi_str_int, isi_str_str, isi_str_lst, isi_str_tup, isi_lst_bl, isi_lst_int, isi_lst_str, isi_lst_lst, isi_lst_tup, isi_tup_bl, isi_tup_int, isi_tup_str, isi_tup_lst, isi_tup_tup, isi_dct_bl, isi_dct_int, isi_dct_str, isi_dct_lst, isi_dct_tup, Kd_non, Kd_bl, Kd_int, Kd_str, sc_non_non, sc_non_int, sc_int_non, sc_non_bl, sc_bl_non, sc_non_str, sc_str_non, sc_int_int, sc_bl_bl, sc_str_str, sc_int_str, sc_str_int, sc_bl_str, sc_str_bl, decide_true, decide_false, tyK_int, tyK_bool, tyK_str, tyK_list, tyK_tuple, L2.start, cxK, Int.reduceToNat, List.map_cons, List.map_nil, List.length_cons, List.length_nil, Nat.reduceAdd, Nat.reduceSub, Nat.zero_add, List.replicate_succ, List.replicate_zero, List.cons_append, List.nil_append, List.append_nil, List.getElem?_cons_zero, List.getElem?_cons_succ, List.set_cons_zero, List.set_cons_succ, Option.some.injEq, V.int.injEq, V.bl.injEq, V.ref.injEq, V.str.injEq, V.ty.injEq, List.cons.injEq, exists_eq_left', exists_eq_left, exists_eq_right, exists_and_left, exists_and_right, and_true, true_and, and_assoc, exists_const, decide_eq_true_eq, Bool.not_eq_true', Bool.not_true, Bool.not_false, Bool.not_not, decide_eq_false_iff_not, ite_not, Bool.false_eq_true, if_true, if_false, reduceCtorEq, and_false, false_and, exists_false, or_false, false_or, ↓reduceIte, eq_self, reduceIte]
    refine ⟨_, Kd.tup T, ?_⟩
    rw [if_pos (by decide)]
    refine ⟨_, .inr T, ?_⟩
    rw [if_neg (by omega)]
    exact q _ (Same.refl _)
  | @two p x y b T hp =>
    simp only [slots, Option.getD_some, Option.getD_none, tOp, tC, tVar, tCB, tCons, tNil, tCall, tRet, tAndV, rEq, rIsi, rIxT, isi_non_bl, isi_non_int, isi_non_str, isi_non_lst, isi_non_tup, isi_bl_bl, isi_bl_int, isi_bl_str, isi_bl_lst, isi_bl_tup, isi_int_bl, isi_int_int, isi_int_str, isi_int_lst, isi_int_tup, isi_str_bl, isi_str_int, isi_str_str, isi_str_lst, isi_str_tup, isi_lst_bl, isi_lst_int, isi_lst_str, isi_lst_lst, isi_lst_tup, isi_tup_bl, isi_tup_int, isi_tup_str, isi_tup_lst, isi_tup_tup, isi_dct_bl, isi_dct_int, isi_dct_str, isi_dct_lst, isi_dct_tup, Kd_non, Kd_bl, Kd_int, Kd_str, sc_non_non, sc_non_int, sc_int_non, sc_non_bl, sc_bl_non, sc_non_str, sc_str_non, sc_int_int, sc_bl_bl, sc_str_str, sc_int_str, sc_str_int, sc_bl_str, sc_str_bl, decide_true, decide_false, tyK_int, tyK_bool, tyK_str, tyK_list, tyK_tuple, L2.start, cxK, Int.reduceToNat, List.map_cons, List.map_nil, List.length_cons, List.length_nil, Nat.reduceAdd, Nat.reduceSub, Nat.zero_add, List.replicate_succ, List.replicate_zero, List.cons_append, List.nil_append, List.append_nil, List.getElem?_cons_zero, List.getElem?_cons_succ, List.set_cons_zero, List.set_cons_succ, Option.some.injEq, V.int.injEq, V.bl.injEq, V.ref.injEq, V.str.injEq, V.ty.injEq, List.cons.injEq, exists_eq_left', exists_eq_left, exists_eq_right, exists_and_left, exists_and_right, and_true, true_and, and_assoc, exists_const, decide_eq_true_eq, Bool.not_eq_true', Bool.not_true, Bool.not_false, Bool.not_not, decide_eq_false_iff_not, ite_not, Bool.false_eq_true, if_true, if_false, reduceCtorEq, and_false, false_and, exists_false, or_false, false_or, ↓reduceIte, eq_self, reduceIte]
    refine ⟨_, Kd.tup T, ?_⟩
    rw [if_pos (by decide)]
    refine ⟨_, .inr T, ?_⟩
    rw [if_pos (by rfl)]
    exact ⟨_, T, _, rfl, _, _, rfl, hp, q⟩
theorem ok_are_rows (F : Fun K "are_rows" "are_rows" s_are_rows f fd) (M : Mg mg) (C_is_row : Cal P w K mg base CX0 "is_row" 3 ["thing"] (spIsRow K)) : FnOk P w K mg base CX0 4 f fd ["thing"] (spAreRows K) := by
  refine F.ok sc_are_rows (fun vs H Q E h => ?_) (fun cdv A outer s H vs Q E hr h => ?_)
  · obtain ⟨v, b, rfl, _⟩ := h
    rfl
  obtain ⟨v, b, rfl, B, q⟩ := h
  refine ⟨_, (@pss_cons _ _ _ _ _ (@ps_if _ _ _ _ _ _ _ _ (@PW.pt _ _ _ (@pw_or _ _ _ _ _ _ _ (@pt_not _ _ _ _ (@pt_val _ _ _ (@pe_callB _ _ _ _ _ _ _ _ _ call_isi g_are_rows_isinstance M.m_isinstance b_isinstance (@pa_cons _ _ _ _ _ (@pe_var _ 0 _ _ rfl v_are_rows_0 dn_thing dc_thing) (@pa_cons _ _ _ _ _ (@pe_bltn _ _ (.ty "list") _ _ g_are_rows_list M.m_list b_list rfl nn_list dn_list) (@pa_nil _) (star1 rfl)) (star1 rfl)) nn_isinstance dn_isinstance (star1 rfl) (nost1 rfl nost0)) (test1 rfl))) (@pw_or1 _ _ _ _ (@pt_not _ _ _ _ (@pt_chain _ _ _ _ _ _ _ _ _ _ _ _ op_le op_le (@pe_int _ _ _ _) (@pe_callB _ _ _ _ _ _ _ _ _ call_len_seq g_are_rows_len M.m_len b_len (@pa_cons _ _ _ _ _ (@pe_var _ 0 _ _ rfl v_are_rows_0 dn_thing dc_thing) (@pa_nil _) (star1 rfl)) nn_len dn_len (star1 rfl) nost0) (@pe_int _ _ _ _) (by with_unfolding_all rfl)))))) (@pss_one _ _ _ (@ps_ret _ _ _ _ (@pe_bl _ _ _ _))) (@pss_nil _)) (@pss_cons _ _ _ _ _ (@ps_if _ _ _ _ _ _ _ _ (@pt_not _ _ _ _ (@pt_val _ _ _ (@pe_callB _ _ _ _ _ _ _ _ _ (call_all1 rfl) g_are_rows_all M.m_all b_all (@pa_cons _ _ _ _ _ (@pe_comp _ _ _ _ _ _ _ _ _ _ _ _ _ _ _ rfl (CompOk.make (N' := ["row"]) (ix := []) (nl := 1) (by rfl) fm0 (by rfl) (by decide +kernel) rfl (by decide +kernel) rfl True.intro) (@pi_list _ _ _ _ (@pe_var _ 0 _ _ rfl v_are_rows_0 dn_thing dc_thing)) (fun _ _ _ _ _ => (@pg_name _ _ 0 _ (show List.Nodup (["row"] : List Str) from by decide) rfl (Or.inl rfl) (by first | exact .inl rfl | exact .inr rfl | assumption))) (fun _ _ _ _ _ => (@pif_nil _)) (fun _ _ _ _ _ => (@pe_callC _ _ _ _ _ _ _ _ _ _ _ C_is_row hr rfl (@pa_cons _ _ _ _ _ (@pv _ 0 _ _ (by rfl) (by first | exact Or.inl rfl | exact Or.inr (Or.inl rfl) | exact Or.inr (Or.inr rfl)) (by decide) (by decide)) (@pa_nil _) (star1 rfl)) (by decide) dn_is_row (star1 rfl) nost0)) (by intro _; rfl)) (@pa_nil _) (star1 rfl)) nn_all dn_all (star1 rfl) nost0) (test1 rfl))) (@pss_one _ _ _ (@ps_ret _ _ _ _ (@pe_bl _ _ _ _))) (@pss_nil _)) (@pss_cons _ _ _ _ _ (@ps_set _ _ 1 _ _ _ _ sc_are_rows.nd rfl l_are_rows_1 (@pe_comp _ _ _ _ _ _ _ _ _ _ _ _ _ _ _ rfl (CompOk.make (N' := ["row"]) (ix := []) (nl := 1) (by rfl) fm0 (by rfl) (by decide +kernel) rfl (by decide +kernel) rfl True.intro) (@pi_list _ _ _ _ (@pe_var _ 0 _ _ rfl v_are_rows_0 dn_thing dc_thing)) (fun _ _ _ _ _ => (@pg_name _ _ 0 _ (show List.Nodup (["row"] : List Str) from by decide) rfl (Or.inl rfl) (by first | exact .inl rfl | exact .inr rfl | assumption))) (fun _ _ _ _ _ => (@pif_nil _)) (fun _ _ _ _ _ => (@pe_ix _ _ _ _ _ _ _ (ix_tupK (K := K) rfl) (@pv _ 0 _ _ (by rfl) (by first | exact Or.inl rfl | exact Or.inr (Or.inl rfl) | exact Or.inr (Or.inr rfl)) (by decide) (by decide)) (@pe_int _ _ _ _) (fun _ _ => rfl))) (by intro _; rfl)) (by rfl) (.inl rfl)) (@pss_one _ _ _ (@ps_ret _ _ _ _ (@pe_and _ _ _ _ _ _ _ (@pe_cmpR _ _ _ _ _ _ _ _ (op_inD (hu60 hr)) (@pe_tup _ _ _ _ _ (@pa_nil _)) (@pe_var _ 1 _ _ rfl v_are_rows_1 dn_prefixes dc_prefixes) (by with_unfolding_all rfl)) (@pe_one _ _ _ _ _ (@pe_callB _ _ _ _ _ _ _ _ _ (call_all1 rfl) g_are_rows_all M.m_all b_all (@pa_cons _ _ _ _ _ (@pe_comp _ _ _ _ _ _ _ _ _ _ _ _ _ _ _ rfl (CompOk.make (N' := ["prefixes", "prefix"]) (ix := [1]) (nl := 1) (by rfl) (fm1 rfl fm0) (by rfl) (by decide +kernel) rfl (by decide +kernel) rfl (And.intro ⟨rfl, .inl rfl, .inl rfl⟩ True.intro)) (@pi_list _ _ _ _ (@pe_var _ 1 _ _ rfl v_are_rows_1 dn_prefixes dc_prefixes)) (fun _ _ _ _ _ => (@pg_name _ _ 1 _ (show List.Nodup (["prefixes", "prefix"] : List Str) from by decide) rfl (Or.inl rfl) (by first | exact .inl rfl | exact .inr rfl | assumption))) (fun _ _ _ _ _ => (@pif_nil _)) (fun _ _ _ _ _ => (@pe_cmpR _ _ _ _ _ _ _ _ (@op_eq _) (@pe_bmK _ K _ _ _ _ _ _ _ _ _ _ _ rfl PySem.F.plainAttrs_list PySem.F.slot_list_count PySem.F.type_list_count (mt_countD (K := K) rfl (hu60 hr)) (@pv _ 0 _ _ (by rfl) (by first | exact Or.inl rfl | exact Or.inr (Or.inl rfl) | exact Or.inr (Or.inr rfl)) (by decide) (by decide)) (@pa_cons _ _ _ _ _ (@pv _ 1 _ _ (by rfl) (by first | exact Or.inl rfl | exact Or.inr (Or.inl rfl) | exact Or.inr (Or.inr rfl)) (by decide) (by decide)) (@pa_nil _) (star1 rfl)) (by rfl) (by rfl) (by rfl) (by rfl) (by rfl)) (@pe_int _ _ _ _) (nomark _))) (by intro _; rfl)) (@pa_nil _) (star1 rfl)) nn_all dn_all (star1 rfl) nost0)))))))), ?_⟩
  cases B with
  | no hk ne =>
    simp only [tComp_eq, tComp1, slots, Option.getD_some, Option.getD_none, tYes, tSeq, tAsg, gName, tOp, tC, tVar, tCB, tCons, tNil, tCall, rI0, tRet, tIfS, tTest, tB, tOr, tNot, tAndV, tChain, tTup, tNext, tBM, rEq, rIsi, rIxT, isi_non_bl, isi_non_int, isi_non_str, isi_non_lst, isi_non_tup, isi_bl_bl, isi_bl_int, isi_bl_str, isi_bl_lst, isi_bl_tup, isi_int_bl, isi_int_int, isi_int_str, isi_int_lst, isi_int_tup, isi_str_bl, isi_str_int, isi_str_str, isi_str_lst, isi_str_tup, isi_lst_bl, isi_lst_int, isi_lst_str, isi_lst_lst, isi_lst_tup, isi_tup_bl, isi_tup_int, isi_tup_str, isi_tup_lst, isi_tup_tup, isi_dct_bl, isi_dct_int, isi_dct_str, isi_dct_lst, isi_dct_tup, Kd_non, Kd_bl, Kd_int, Kd_str, sc_non_non, sc_non_int, sc_int_non, sc_non_bl, sc_bl_non, sc_non_str, sc_str_non, sc_int_int, sc_bl_bl, sc_str_str, sc_int_str, sc_str_int, sc_bl_str, sc_str_bl, decide_true, decide_false, iList, tyK_int, tyK_bool, tyK_str, tyK_list, tyK_tuple, L2.start, cxK, Int.reduceToNat, List.map_cons, List.map_nil, List.length_cons, List.length_nil, Nat.reduceAdd, Nat.reduceSub, Nat.zero_add, List.replicate_succ, List.replicate_zero, List.cons_append, List.nil_append, List.append_nil, List.getElem?_cons_zero, List.getElem?_cons_succ, List.set_cons_zero, List.set_cons_succ, Option.some.injEq, V.int.injEq, V.bl.injEq, V.ref.injEq, V.str.injEq, V.ty.injEq, List.cons.injEq, exists_eq_left', exists_eq_left, exists_eq_right, exists_and_left, exists_and_right, and_true, true_and, and_assoc, exists_const, decide_eq_true_eq, Bool.not_eq_true', Bool.not_true, Bool.not_false, Bool.not_not, decide_eq_false_iff_not, ite_not, Bool.false_eq_true, if_true, if_false, reduceCtorEq, and_false, false_and, exists_false, or_false, false_or, ↓reduceIte, eq_self, reduceIte]
    refine ⟨_, hk, ?_⟩
    rw [if_pos (isi_lst_ne ne)]
    exact q _ (Same.refl _)
  | @len l xs L ne =>
    simp only [tComp_eq, tComp1, slots, Option.getD_some, Option.getD_none, tYes, tSeq, tAsg, gName, tOp, tC, tVar, tCB, tCons, tNil, tCall, rI0, tRet, tIfS, tTest, tB, tOr, tNot, tAndV, tChain, tTup, tNext, tBM, rEq, rIsi, rIxT, isi_non_bl, isi_non_int, isi_non_str, isi_non_lst, isi_non_tup, isi_bl_bl, isi_bl_int, isi_bl_str, isi_bl_lst, isi_bl_tup, isi_int_bl, isi_int_int, isi_int_str, isi_int_lst, isi_int_tup, isi_str_bl, isi_str_int, isi_str_str, isi_str_lst, isi_str_tup, isi_lst_bl, isi_lst_int, isi_lst_str, isi_lst_lst, isi_lst_tup, isi_tup_bl, isi_tup_int, isi_tup_str, isi_tup_lst, isi_tup_tup, isi_dct_bl, isi_dct_int, isi_dct_str, isi_dct_lst, isi_dct_tup, Kd_non, Kd_bl, Kd_int, Kd_str, sc_non_non, sc_non_int, sc_int_non, sc_non_bl, sc_bl_non, sc_non_str, sc_str_non, sc_int_int, sc_bl_bl, sc_str_str, sc_int_str, sc_str_int, sc_bl_str, sc_str_bl, decide_true, decide_false, iList, tyK_int, tyK_bool, tyK_str, tyK_list, tyK_tuple, L2.start, cxK, Int.reduceToNat, List.map_cons, List.map_nil, List.length_cons, List.length_nil, Nat.reduceAdd, Nat.reduceSub, Nat.zero_add, List.replicate_succ, List.replicate_zero, List.cons_append, List.nil_append, List.append_nil, List.getElem?_cons_zero, List.getElem?_cons_succ, List.set_cons_zero, List.set_cons_succ, Option.some.injEq, V.int.injEq, V.bl.injEq, V.ref.injEq, V.str.injEq, V.ty.injEq, List.cons.injEq, exists_eq_left', exists_eq_left, exists_eq_right, exists_and_left, exists_and_right, and_true, true_and, and_assoc, exists_const, decide_eq_true_eq, Bool.not_eq_true', Bool.not_true, Bool.not_false, Bool.not_not, decide_eq_false_iff_not, ite_not, Bool.false_eq_true, if_true, if_false, reduceCtorEq, and_false, false_and, exists_false, or_false, false_or, ↓reduceIte, eq_self, reduceIte]
    refine ⟨_, Kd.lst L, ?_⟩
    rw [if_neg (by decide)]
    refine ⟨_, .inl L, ?_⟩
    by_cases h1 : 1 ≤ (xs.length : Int)
    · rw [if_pos h1]
      rw [if_neg (by omega)]
      exact q _ (Same.refl _)
    · rw [if_neg h1]
      exact q _ (Same.refl _)
  | @bad l xs bs L l1 l24 RA bad =>
    simp only [tComp_eq, tComp1, slots, Option.getD_some, Option.getD_none, tYes, tSeq, tAsg, gName, tOp, tC, tVar, tCB, tCons, tNil, tCall, rI0, tRet, tIfS, tTest, tB, tOr, tNot, tAndV, tChain, tTup, tNext, tBM, rEq, rIsi, rIxT, isi_non_bl, isi_non_int, isi_non_str, isi_non_lst, isi_non_tup, isi_bl_bl, isi_bl_int, isi_bl_str, isi_bl_lst, isi_bl_tup, isi_int_bl, isi_int_int, isi_int_str, isi_int_lst, isi_int_tup, isi_str_bl, isi_str_int, isi_str_str, isi_str_lst, isi_str_tup, isi_lst_bl, isi_lst_int, isi_lst_str, isi_lst_lst, isi_lst_tup, isi_tup_bl, isi_tup_int, isi_tup_str, isi_tup_lst, isi_tup_tup, isi_dct_bl, isi_dct_int, isi_dct_str, isi_dct_lst, isi_dct_tup, Kd_non, Kd_bl, Kd_int, Kd_str, sc_non_non, sc_non_int, sc_int_non, sc_non_bl, sc_bl_non, sc_non_str, sc_str_non, sc_int_int, sc_bl_bl, sc_str_str, sc_int_str, sc_str_int, sc_bl_str, sc_str_bl, decide_true, decide_false, iList, tyK_int, tyK_bool, tyK_str, tyK_list, tyK_tuple, L2.start, cxK, Int.reduceToNat, List.map_cons, List.map_nil, List.length_cons, List.length_nil, Nat.reduceAdd, Nat.reduceSub, Nat.zero_add, List.replicate_succ, List.replicate_zero, List.cons_append, List.nil_append, List.append_nil, List.getElem?_cons_zero, List.getElem?_cons_succ, List.set_cons_zero, List.set_cons_succ, Option.some.injEq, V.int.injEq, V.bl.injEq, V.ref.injEq, V.str.injEq, V.ty.injEq, List.cons.injEq, exists_eq_left', exists_eq_left, exists_eq_right, exists_and_left, exists_and_right, and_true, true_and, and_assoc, exists_const, decide_eq_true_eq, Bool.not_eq_true', Bool.not_true, Bool.not_false, Bool.not_not, decide_eq_false_iff_not, ite_not, Bool.false_eq_true, if_true, if_false, reduceCtorEq, and_false, false_and, exists_false, or_false, false_or, ↓reduceIte, eq_self, reduceIte]
    refine ⟨_, Kd.lst L, ?_⟩
    rw [if_neg (by decide)]
    refine ⟨_, .inl L, ?_⟩
    rw [if_pos (by omega), if_pos (by omega)]
    refine ⟨⟨_, L⟩, fun D hD => ?_⟩
    have lb := RA.length
    obtain ⟨Pc, hC⟩ : ∃ Pc : Nat → St → Hp → Prop, Pc = fun i τ H' => ∃ z, H' D = some (.lst ((bs.take i).map V.bl)) ∧ Same H H' ∧ τ = [z] := ⟨_, rfl⟩
    refine compS_list xs Pc ?_ (fun i τ H' _ h => by rw [hC] at h; obtain ⟨z, _, e, _⟩ := h; exact e.seq L) ?_ ?_
    · rw [hC]
      exact ⟨_, upd_same, same_new hD _, rfl⟩
    · intro i x τ H' R' hx h next
      rw [hC] at h
      obtain ⟨z, d1, d2, rfl⟩ := h
      obtain ⟨b, hb, rv⟩ := (RA.same d2).at hx
      have li := (List.getElem?_eq_some_iff.mp hx).1
      simp only [tComp_eq, tComp1, slots, Option.getD_some, Option.getD_none, tYes, tSeq, tAsg, gName, tOp, tC, tVar, tCB, tCons, tNil, tCall, rI0, tRet, tIfS, tTest, tB, tOr, tNot, tAndV, tChain, tTup, tNext, tBM, rEq, rIsi, rIxT, isi_non_bl, isi_non_int, isi_non_str, isi_non_lst, isi_non_tup, isi_bl_bl, isi_bl_int, isi_bl_str, isi_bl_lst, isi_bl_tup, isi_int_bl, isi_int_int, isi_int_str, isi_int_lst, isi_int_tup, isi_str_bl, isi_str_int, isi_str_str, isi_str_lst, isi_str_tup, isi_lst_bl, isi_lst_int, isi_lst_str, isi_lst_lst, isi_lst_tup, isi_tup_bl, isi_tup_int, isi_tup_str, isi_tup_lst, isi_tup_tup, isi_dct_bl, isi_dct_int, isi_dct_str, isi_dct_lst, isi_dct_tup, Kd_non, Kd_bl, Kd_int, Kd_str, sc_non_non, sc_non_int, sc_int_non, sc_non_bl, sc_bl_non, sc_non_str, sc_str_non, sc_int_int, sc_bl_bl, sc_str_str, sc_int_str, sc_str_int, sc_bl_str, sc_str_bl, decide_true, decide_false, iList, tyK_int, tyK_bool, tyK_str, tyK_list, tyK_tuple, L2.start, cxK, Int.reduceToNat, List.map_cons, List.map_nil, List.length_cons, List.length_nil, Nat.reduceAdd, Nat.reduceSub, Nat.zero_add, List.replicate_succ, List.replicate_zero, List.cons_append, List.nil_append, List.append_nil, List.getElem?_cons_zero, List.getElem?_cons_succ, List.set_cons_zero, List.set_cons_succ, Option.some.injEq, V.int.injEq, V.bl.injEq, V.ref.injEq, V.str.injEq, V.ty.injEq, List.cons.injEq, exists_eq_left', exists_eq_left, exists_eq_right, exists_and_left, exists_and_right, and_true, true_and, and_assoc, exists_const, decide_eq_true_eq, Bool.not_eq_true', Bool.not_true, Bool.not_false, Bool.not_not, decide_eq_false_iff_not, ite_not, Bool.false_eq_true, if_true, if_false, reduceCtorEq, and_false, false_and, exists_false, or_false, false_or, ↓reduceIte, eq_self, reduceIte]
      refine ⟨_, _, rfl, rv, fun H3 S3 => ⟨_, S3 _ _ d1, Nat.lt_of_lt_of_le (m := 64) (by rw [List.length_map, List.length_take]; omega) (by decide), next _ _ ?_⟩⟩
      rw [hC]
      refine ⟨_, ?_, same_upd (d2.trans S3) hD _, rfl⟩
      rw [upd_same, List.take_add_one, hb, List.map_append]
      rfl
    intro τ H1 h
    rw [hC] at h
    obtain ⟨z, d1, S1, rfl⟩ := h
    clear hC Pc
    rw [List.take_of_length_le (by omega)] at d1
    refine ⟨_, rfl, _, SqL.of d1, ?_⟩
    rw [if_pos bad]
    exact q _ S1
  | @good l gs L l1 l24 all =>
    have RA := RAll.rows all
    obtain ⟨xs, hxs⟩ : ∃ xs, rrefs gs = xs := ⟨_, rfl⟩
    obtain ⟨bs, hbs⟩ : ∃ bs, List.replicate gs.length true = bs := ⟨_, rfl⟩
    have lx := rrefs_len gs
    have L0 := L
    rw [hxs, hbs] at RA
    rw [hxs] at L lx
    have tr : bs.all id = true := by rw [← hbs, List.all_replicate]; cases gs.length <;> rfl
    simp only [tComp_eq, tComp1, slots, Option.getD_some, Option.getD_none, tYes, tSeq, tAsg, gName, tOp, tC, tVar, tCB, tCons, tNil, tCall, rI0, tRet, tIfS, tTest, tB, tOr, tNot, tAndV, tChain, tTup, tNext, tBM, rEq, rIsi, rIxT, isi_non_bl, isi_non_int, isi_non_str, isi_non_lst, isi_non_tup, isi_bl_bl, isi_bl_int, isi_bl_str, isi_bl_lst, isi_bl_tup, isi_int_bl, isi_int_int, isi_int_str, isi_int_lst, isi_int_tup, isi_str_bl, isi_str_int, isi_str_str, isi_str_lst, isi_str_tup, isi_lst_bl, isi_lst_int, isi_lst_str, isi_lst_lst, isi_lst_tup, isi_tup_bl, isi_tup_int, isi_tup_str, isi_tup_lst, isi_tup_tup, isi_dct_bl, isi_dct_int, isi_dct_str, isi_dct_lst, isi_dct_tup, Kd_non, Kd_bl, Kd_int, Kd_str, sc_non_non, sc_non_int, sc_int_non, sc_non_bl, sc_bl_non, sc_non_str, sc_str_non, sc_int_int, sc_bl_bl, sc_str_str, sc_int_str, sc_str_int, sc_bl_str, sc_str_bl, decide_true, decide_false, iList, tyK_int, tyK_bool, tyK_str, tyK_list, tyK_tuple, L2.start, cxK, Int.reduceToNat, List.map_cons, List.map_nil, List.length_cons, List.length_nil, Nat.reduceAdd, Nat.reduceSub, Nat.zero_add, List.replicate_succ, List.replicate_zero, List.cons_append, List.nil_append, List.append_nil, List.getElem?_cons_zero, List.getElem?_cons_succ, List.set_cons_zero, List.set_cons_succ, Option.some.injEq, V.int.injEq, V.bl.injEq, V.ref.injEq, V.str.injEq, V.ty.injEq, List.cons.injEq, exists_eq_left', exists_eq_left, exists_eq_right, exists_and_left, exists_and_right, and_true, true_and, and_assoc, exists_const, decide_eq_true_eq, Bool.not_eq_true', Bool.not_true, Bool.not_false, Bool.not_not, decide_eq_false_iff_not, ite_not, Bool.false_eq_true, if_true, if_false, reduceCtorEq, and_false, false_and, exists_false, or_false, false_or, ↓reduceIte, eq_self, reduceIte]
    replace l1 : 1 ≤ xs.length := by omega
    replace l24 : xs.length ≤ 24 := by omega
    refine ⟨_, Kd.lst L, ?_⟩
    rw [if_neg (by decide)]
    refine ⟨_, .inl L, ?_⟩
    rw [if_pos (by omega), if_pos (by omega)]
    refine ⟨⟨_, L⟩, fun D hD => ?_⟩
    have lb := RA.length
    obtain ⟨Pc, hC⟩ : ∃ Pc : Nat → St → Hp → Prop, Pc = fun i τ H' => ∃ z, H' D = some (.lst ((bs.take i).map V.bl)) ∧ Same H H' ∧ τ = [z] := ⟨_, rfl⟩
    refine compS_list xs Pc ?_ (fun i τ H' _ h => by rw [hC] at h; obtain ⟨z, _, e, _⟩ := h; exact e.seq L) ?_ ?_
    · rw [hC]
      exact ⟨_, upd_same, same_new hD _, rfl⟩
    · intro i x τ H' R' hx h next
      rw [hC] at h
      obtain ⟨z, d1, d2, rfl⟩ := h
      obtain ⟨b, hb, rv⟩ := (RA.same d2).at hx
      have li := (List.getElem?_eq_some_iff.mp hx).1
      simp only [tComp_eq, tComp1, slots, Option.getD_some, Option.getD_none, tYes, tSeq, tAsg, gName, tOp, tC, tVar, tCB, tCons, tNil, tCall, rI0, tRet, tIfS, tTest, tB, tOr, tNot, tAndV, tChain, tTup, tNext, tBM, rEq, rIsi, rIxT, isi_non_bl, isi_non_int, isi_non_str, isi_non_lst, isi_non_tup, isi_bl_bl, isi_bl_int, isi_bl_str, isi_bl_lst, isi_bl_tup, isi_int_bl, isi_int_int, isi_int_str, isi_int_lst, isi_int_tup, isi_str_bl, isi_str_int, isi_str_str, isi_str_lst, isi_str_tup, isi_lst_bl, isi_lst_int, isi_lst_str, isi_lst_lst, isi_lst_tup, isi_tup_bl, isi_tup_int, isi_tup_str, isi_tup_lst, isi_tup_tup, isi_dct_bl, isi_dct_int, isi_dct_str, isi_dct_lst, isi_dct_tup, Kd_non, Kd_bl, Kd_int, Kd_str, sc_non_non, sc_non_int, sc_int_non, sc_non_bl, sc_bl_non, sc_non_str, sc_str_non, sc_int_int, sc_bl_bl, sc_str_str, sc_int_str, sc_str_int, sc_bl_str, sc_str_bl, decide_true, decide_false, iList, tyK_int, tyK_bool, tyK_str, tyK_list, tyK_tuple, L2.start, cxK, Int.reduceToNat, List.map_cons, List.map_nil, List.length_cons, List.length_nil, Nat.reduceAdd, Nat.reduceSub, Nat.zero_add, List.replicate_succ, List.replicate_zero, List.cons_append, List.nil_append, List.append_nil, List.getElem?_cons_zero, List.getElem?_cons_succ, List.set_cons_zero, List.set_cons_succ, Option.some.injEq, V.int.injEq, V.bl.injEq, V.ref.injEq, V.str.injEq, V.ty.injEq, List.cons.injEq, exists_eq_left', exists_eq_left, exists_eq_right, exists_and_left, exists_and_right, and_true, true_and, and_assoc, exists_const, decide_eq_true_eq, Bool.not_eq_true', Bool.not_true, Bool.not_false, Bool.not_not, decide_eq_false_iff_not, ite_not, Bool.false_eq_true, if_true, if_false, reduceCtorEq, and_false, false_and, exists_false, or_false, false_or, ↓reduceIte, eq_self, reduceIte]
      refine ⟨_, _, rfl, rv, fun H3 S3 => ⟨_, S3 _ _ d1, Nat.lt_of_lt_of_le (m := 64) (by rw [List.length_map, List.length_take]; omega) (by decide), next _ _ ?_⟩⟩
      rw [hC]
      refine ⟨_, ?_, same_upd (d2.trans S3) hD _, rfl⟩
      rw [upd_same, List.take_add_one, hb, List.map_append]
      rfl
    intro τ H1 h
    rw [hC] at h
    obtain ⟨z, d1, S1, rfl⟩ := h
    clear hC Pc
    rw [List.take_of_length_le (by omega)] at d1
    refine ⟨_, rfl, _, SqL.of d1, ?_⟩
    rw [if_neg (by rw [tr]; decide)]
    have L1 := S1.seq L0
    refine ⟨⟨_, L1⟩, fun D2 hD2 => ?_⟩
    obtain ⟨Pc, hC⟩ : ∃ Pc : Nat → St → Hp → Prop, Pc = fun i τ H' => ∃ z, H' D2 = some (.lst ((gs.take i).map fun g => V.ref g.pp)) ∧ Same H1 H' ∧ τ = [z] := ⟨_, rfl⟩
    refine compS_list (rrefs gs) Pc ?_ (fun i τ H' _ h => by rw [hC] at h; obtain ⟨z, _, e, _⟩ := h; exact e.seq L1) ?_ ?_
    · rw [hC]
      exact ⟨_, upd_same, same_new hD2 _, rfl⟩
    · intro i x τ H' R' hx h next
      rw [hC] at h
      obtain ⟨z, d1, d2, rfl⟩ := h
      obtain ⟨g, hg, rfl⟩ := rrefs_at hx
      have li := (List.getElem?_eq_some_iff.mp hg).1
      have ga := (all g (List.mem_of_getElem? hg)).same (S1.trans d2)
      simp only [tComp_eq, tComp1, slots, Option.getD_some, Option.getD_none, tYes, tSeq, tAsg, gName, tOp, tC, tVar, tCB, tCons, tNil, tCall, rI0, tRet, tIfS, tTest, tB, tOr, tNot, tAndV, tChain, tTup, tNext, tBM, rEq, rIsi, rIxT, isi_non_bl, isi_non_int, isi_non_str, isi_non_lst, isi_non_tup, isi_bl_bl, isi_bl_int, isi_bl_str, isi_bl_lst, isi_bl_tup, isi_int_bl, isi_int_int, isi_int_str, isi_int_lst, isi_int_tup, isi_str_bl, isi_str_int, isi_str_str, isi_str_lst, isi_str_tup, isi_lst_bl, isi_lst_int, isi_lst_str, isi_lst_lst, isi_lst_tup, isi_tup_bl, isi_tup_int, isi_tup_str, isi_tup_lst, isi_tup_tup, isi_dct_bl, isi_dct_int, isi_dct_str, isi_dct_lst, isi_dct_tup, Kd_non, Kd_bl, Kd_int, Kd_str, sc_non_non, sc_non_int, sc_int_non, sc_non_bl, sc_bl_non, sc_non_str, sc_str_non, sc_int_int, sc_bl_bl, sc_str_str, sc_int_str, sc_str_int, sc_bl_str, sc_str_bl, decide_true, decide_false, iList, tyK_int, tyK_bool, tyK_str, tyK_list, tyK_tuple, L2.start, cxK, Int.reduceToNat, List.map_cons, List.map_nil, List.length_cons, List.length_nil, Nat.reduceAdd, Nat.reduceSub, Nat.zero_add, List.replicate_succ, List.replicate_zero, List.cons_append, List.nil_append, List.append_nil, List.getElem?_cons_zero, List.getElem?_cons_succ, List.set_cons_zero, List.set_cons_succ, Option.some.injEq, V.int.injEq, V.bl.injEq, V.ref.injEq, V.str.injEq, V.ty.injEq, List.cons.injEq, exists_eq_left', exists_eq_left, exists_eq_right, exists_and_left, exists_and_right, and_true, true_and, and_assoc, exists_const, decide_eq_true_eq, Bool.not_eq_true', Bool.not_true, Bool.not_false, Bool.not_not, decide_eq_false_iff_not, ite_not, Bool.false_eq_true, if_true, if_false, reduceCtorEq, and_false, false_and, exists_false, or_false, false_or, ↓reduceIte, eq_self, reduceIte]
      refine ⟨_, ga.row, _, rfl, _, d1, Nat.lt_of_lt_of_le (m := 64) (by rw [List.length_map, List.length_take]; omega) (by decide), next _ _ ?_⟩
      rw [hC]
      refine ⟨_, ?_, same_upd d2 hD2 _, rfl⟩
      rw [upd_same, List.take_add_one, hg, List.map_append]
      rfl
    intro τ H2 h
    rw [hC] at h
    obtain ⟨z, d1, S2, rfl⟩ := h
    clear hC Pc
    rw [rrefs_len, List.take_of_length_le (Nat.le_refl _)] at d1
    refine ⟨by decide, fun pe hpe => ?_⟩
    obtain ⟨H3, g3, S3, T3⟩ := fresh_tup (K := K) hpe []
    rw [← g3]
    clear g3
    have S13 := S1.trans (S2.trans S3)
    have RP : Rep K H3 (.ref D2) (.list ((pfs gs).map iD)) := .lst (SqL.of (S3 _ _ d1)) (pre_rep fun g hg => (all g hg).same S13)
    refine ⟨D2, iD [], (pfs gs).map iD, rfl, .tup T3 .nil, .inl RP, flat_i _, flat_is _, ?_⟩
    rw [if_neg (by decide), any_iD]
    refine ⟨_, rfl, ?_⟩
    by_cases he : [] ∈ pfs gs
    · rw [if_pos (decide_eq_true he)]
      have SD := SqL.of (K := K) (S3 _ _ d1)
      refine ⟨_, rfl, ⟨_, SD⟩, fun D4 hD4 => ?_⟩
      obtain ⟨Pc, hC⟩ : ∃ Pc : Nat → St → Hp → Prop, Pc = fun i τ H' => ∃ z, H' D4 = some (.lst ((((pfs gs).map fun p => decide ((pfs gs).count p = 1)).take i).map V.bl)) ∧ Same H3 H' ∧ τ = [some (.ref D2), z] := ⟨_, rfl⟩
      refine compS_list (gs.map fun g => V.ref g.pp) Pc ?_ (fun i τ H' _ h => by rw [hC] at h; obtain ⟨z, _, e, _⟩ := h; exact e.seq SD) ?_ ?_
      · rw [hC]
        exact ⟨_, upd_same, same_new hD4 _, rfl⟩
      · intro i x τ H' R' hx h next
        rw [hC] at h
        obtain ⟨z, d4, d5, rfl⟩ := h
        rw [List.getElem?_map] at hx
        obtain ⟨g, hg, rfl⟩ := Option.map_eq_some_iff.mp hx
        have li := (List.getElem?_eq_some_iff.mp hg).1
        have S03 := S13.trans d5
        have ga := (all g (List.mem_of_getElem? hg)).same S03
        simp only [tComp_eq, tComp1, slots, Option.getD_some, Option.getD_none, tYes, tSeq, tAsg, gName, tOp, tC, tVar, tCB, tCons, tNil, tCall, rI0, tRet, tIfS, tTest, tB, tOr, tNot, tAndV, tChain, tTup, tNext, tBM, rEq, rIsi, rIxT, isi_non_bl, isi_non_int, isi_non_str, isi_non_lst, isi_non_tup, isi_bl_bl, isi_bl_int, isi_bl_str, isi_bl_lst, isi_bl_tup, isi_int_bl, isi_int_int, isi_int_str, isi_int_lst, isi_int_tup, isi_str_bl, isi_str_int, isi_str_str, isi_str_lst, isi_str_tup, isi_lst_bl, isi_lst_int, isi_lst_str, isi_lst_lst, isi_lst_tup, isi_tup_bl, isi_tup_int, isi_tup_str, isi_tup_lst, isi_tup_tup, isi_dct_bl, isi_dct_int, isi_dct_str, isi_dct_lst, isi_dct_tup, Kd_non, Kd_bl, Kd_int, Kd_str, sc_non_non, sc_non_int, sc_int_non, sc_non_bl, sc_bl_non, sc_non_str, sc_str_non, sc_int_int, sc_bl_bl, sc_str_str, sc_int_str, sc_str_int, sc_bl_str, sc_str_bl, decide_true, decide_false, iList, tyK_int, tyK_bool, tyK_str, tyK_list, tyK_tuple, L2.start, cxK, Int.reduceToNat, List.map_cons, List.map_nil, List.length_cons, List.length_nil, Nat.reduceAdd, Nat.reduceSub, Nat.zero_add, List.replicate_succ, List.replicate_zero, List.cons_append, List.nil_append, List.append_nil, List.getElem?_cons_zero, List.getElem?_cons_succ, List.set_cons_zero, List.set_cons_succ, Option.some.injEq, V.int.injEq, V.bl.injEq, V.ref.injEq, V.str.injEq, V.ty.injEq, List.cons.injEq, exists_eq_left', exists_eq_left, exists_eq_right, exists_and_left, exists_and_right, and_true, true_and, and_assoc, exists_const, decide_eq_true_eq, Bool.not_eq_true', Bool.not_true, Bool.not_false, Bool.not_not, decide_eq_false_iff_not, ite_not, Bool.false_eq_true, if_true, if_false, reduceCtorEq, and_false, false_and, exists_false, or_false, false_or, ↓reduceIte, eq_self, reduceIte]
        refine ⟨.inl ⟨rfl, _, d5.seq SD⟩, D2, _, iD g.pf, _, rfl, rfl, .tup ga.pre (ints_rep _), RP.same d5, flat_i _, flat_is _, rfl, ?_⟩
        rw [count_iD]
        refine ⟨_, d4, Nat.lt_of_lt_of_le (m := 64) (by rw [List.length_map, List.length_take, List.length_map]; unfold pfs; rw [List.length_map]; omega) (by decide), next _ _ ?_⟩
        rw [hC]
        refine ⟨_, ?_, same_upd d5 hD4 _, rfl⟩
        rw [upd_same, List.take_add_one, List.getElem?_map, List.map_append]
        have e1 : (pfs gs)[i]? = some g.pf := by unfold pfs; rw [List.getElem?_map, hg]; rfl
        rw [e1]
        have e2 : decide (V.int ((pfs gs).count g.pf : Int) = V.int 1) = decide ((pfs gs).count g.pf = 1) := decide_eq_decide.mpr ⟨fun h => by have := V.int.inj h; omega, fun h => by rw [h]; rfl⟩
        rw [e2]
        rfl
      intro τ H4 h
      rw [hC] at h
      obtain ⟨z, d4, S4, rfl⟩ := h
      rw [List.take_of_length_le (by rw [List.length_map, List.length_map]; unfold pfs; rw [List.length_map]; exact Nat.le_refl _)] at d4
      refine ⟨_, rfl, _, SqL.of d4, ?_⟩
      have e : ((pfs gs).map fun p => decide ((pfs gs).count p = 1)).all id = okPs (pfs gs) := by
        unfold okPs
        rw [decide_eq_true he, Bool.true_and, List.all_map]
        rfl
      rw [e]
      exact q _ (S13.trans S4)
    · rw [if_neg (by rw [decide_eq_false he]; decide)]
      have e : okPs (pfs gs) = false := by
        unfold okPs
        rw [decide_eq_false he]
        rfl
      rw [e] at q
      exact q _ S13
end

section
variable {P : Program} {w : World} {K : PySem.W.Frag} {mg : Str → Option Value} {base : Heap} {f : Addr} {fd : FuncData} {cs : RC} {cN : Addr}
theorem ok_rules_of (F : Fun K "rules_of" "rules_of" s_rules_of f fd) (M : Mg mg) (C_are_rows : Cal P w K mg base CX0 "are_rows" 4 ["thing"] (spAreRows K)) (C_rule_of : Cal P w K mg base (CXE P w) "rule_of" 10 ["told"] (spRuleOf K cs cN)) (R_NoRule : XRaise K mg "NoRule" cN) : FnOk P w K mg base (CXE P w) 11 f fd ["rows"] (spRulesOf K cN) := by
  refine F.okX sc_rules_of (fun vs H Q E h => ?_) (fun cdv A outer s H vs Q E hr h => ?_)
  · rcases h with ⟨l, gs, rfl, _⟩ | ⟨v, rfl, _⟩ <;> rfl
  refine ⟨_, (@pss_cons _ _ _ _ _ (@ps_if _ _ _ _ _ _ _ _ (@pt_not _ _ _ _ (@pt_val _ _ _ (@pe_callC _ _ _ _ _ _ _ _ _ _ _ C_are_rows hr g_rules_of_are_rows (@pa_cons _ _ _ _ _ (@pe_var _ 0 _ _ rfl v_rules_of_0 dn_rows dc_rows) (@pa_nil _) (star1 rfl)) (by decide) dn_are_rows (star1 rfl) nost0) (test1 rfl))) (@pss_one _ _ _ (@ps_raise _ _ _ _ _ _ _ _ _ _ _ throws_cx hr g_rules_of_NoRule R_NoRule (@pa_cons _ _ _ _ _ (@pe_str _ _ _ _) (@pa_nil _) (star1 rfl)) (star1 rfl) (by rfl) dn_NoRule)) (@pss_nil _)) (@pss_cons _ _ _ _ _ (@ps_for _ _ _ _ _ _ _ _ PassesOwn.leaving rfl (@pi_list _ _ _ _ (@pe_var _ 0 _ _ rfl v_rules_of_0 dn_rows dc_rows)) (@pg_name _ _ 1 _ sc_rules_of.nd rfl l_rules_of_1 (.inl rfl)) (@pss_one _ _ _ (@ps_expr _ _ _ _ (@pe_callX _ _ _ _ _ _ _ _ _ _ _ _ _ C_rule_of hr g_rules_of_rule_of pass_cx (@pa_cons _ _ _ _ _ (@pe_ix _ _ _ _ _ _ _ (@ix_tup _) (@pe_var _ 1 _ _ rfl v_rules_of_1 dn_row dc_row) (@pe_int _ _ _ _) (fun _ _ => rfl)) (@pa_nil _) (star1 rfl)) (by decide) dn_rule_of (star1 rfl) nost0) (swap1 rfl))) (by intro _; rfl)) (@pss_one _ _ _ (@ps_ret _ _ _ _ (@pe_callTy _ _ _ _ _ _ _ _ _ call_listL g_rules_of_list M.m_list b_list (@pa_cons _ _ _ _ _ (@pe_var _ 0 _ _ rfl v_rules_of_0 dn_rows dc_rows) (@pa_nil _) (star1 rfl)) nn_list dn_list (star1 rfl) nost0))))), ?_⟩
  rcases h with ⟨l, gs, rfl, L, l1, l24, all, okp, tols, q⟩ | ⟨v, rfl, B, e⟩
  · simp only [tRaise, slots, Option.getD_some, Option.getD_none, tSeq, gName, tOp, tC, tVar, tCB, tCons, tNil, tCall, tRet, tIfS, tB, tNot, tDrop, tNext, rIxT, Kd_non, Kd_bl, Kd_int, Kd_str, decide_true, decide_false, tFor_eq, iList, L2.start, cxK, Int.reduceToNat, List.map_cons, List.map_nil, List.length_cons, List.length_nil, Nat.reduceAdd, Nat.reduceSub, Nat.zero_add, List.replicate_succ, List.replicate_zero, List.cons_append, List.nil_append, List.append_nil, List.getElem?_cons_zero, List.getElem?_cons_succ, List.set_cons_zero, List.set_cons_succ, Option.some.injEq, V.int.injEq, V.bl.injEq, V.ref.injEq, V.str.injEq, V.ty.injEq, List.cons.injEq, exists_eq_left', exists_eq_left, exists_eq_right, exists_and_left, exists_and_right, and_true, true_and, and_assoc, exists_const, decide_eq_true_eq, Bool.not_eq_true', Bool.not_true, Bool.not_false, Bool.not_not, decide_eq_false_iff_not, ite_not, Bool.false_eq_true, if_true, if_false, reduceCtorEq, and_false, false_and, exists_false, or_false, false_or, ↓reduceIte, eq_self, reduceIte]
    have RV := RowsV.good L l1 l24 all
    rw [okp] at RV
    refine ⟨_, _, rfl, RV, fun H1 S1 => ⟨_, rfl, ?_⟩⟩
    rw [if_neg (by decide)]
    refine ⟨⟨_, S1.seq L⟩, ?_⟩
    obtain ⟨Pv, hP⟩ : ∃ Pv : Nat → St → Hp → Prop, Pv = fun i σ H' => ∃ z, Same H1 H' ∧ σ = [some (.ref l), z] := ⟨_, rfl⟩
    refine forW_list (rrefs gs) Pv ?_ (fun i σ H' _ h => by rw [hP] at h; obtain ⟨_, e, _⟩ := h; exact (S1.trans e).seq L) ?_ ?_
    · rw [hP]
      exact ⟨_, Same.refl _, rfl⟩
    · intro i x σ H' hx h
      rw [hP] at h
      obtain ⟨z, e, rfl⟩ := h
      obtain ⟨g, hg, rfl⟩ := rrefs_at hx
      have S0 := S1.trans e
      have ga := (all g (List.mem_of_getElem? hg)).same S0
      obtain ⟨r, R, ok, dp⟩ := tols g (List.mem_of_getElem? hg)
      obtain ⟨a, ha⟩ := told_ref R
      rw [ha] at R
      simp only [tRaise, slots, Option.getD_some, Option.getD_none, tSeq, gName, tOp, tC, tVar, tCB, tCons, tNil, tCall, tRet, tIfS, tB, tNot, tDrop, tNext, rIxT, Kd_non, Kd_bl, Kd_int, Kd_str, decide_true, decide_false, tFor_eq, iList, L2.start, cxK, Int.reduceToNat, List.map_cons, List.map_nil, List.length_cons, List.length_nil, Nat.reduceAdd, Nat.reduceSub, Nat.zero_add, List.replicate_succ, List.replicate_zero, List.cons_append, List.nil_append, List.append_nil, List.getElem?_cons_zero, List.getElem?_cons_succ, List.set_cons_zero, List.set_cons_succ, Option.some.injEq, V.int.injEq, V.bl.injEq, V.ref.injEq, V.str.injEq, V.ty.injEq, List.cons.injEq, exists_eq_left', exists_eq_left, exists_eq_right, exists_and_left, exists_and_right, and_true, true_and, and_assoc, exists_const, decide_eq_true_eq, Bool.not_eq_true', Bool.not_true, Bool.not_false, Bool.not_not, decide_eq_false_iff_not, ite_not, Bool.false_eq_true, if_true, if_false, reduceCtorEq, and_false, false_and, exists_false, or_false, false_or, ↓reduceIte, eq_self, reduceIte]
      refine ⟨_, ga.row, _, rfl, .inl ⟨a, r, by rw [ha], R.same S0, ok, dp, fun o H2 S2 O2 => ?_⟩⟩
      rw [hP]
      exact ⟨_, e.trans S2, rfl⟩
    · intro σ H' h
      rw [hP] at h
      obtain ⟨z, e, rfl⟩ := h
      simp only [tRaise, slots, Option.getD_some, Option.getD_none, tSeq, gName, tOp, tC, tVar, tCB, tCons, tNil, tCall, tRet, tIfS, tB, tNot, tDrop, tNext, rIxT, Kd_non, Kd_bl, Kd_int, Kd_str, decide_true, decide_false, tFor_eq, iList, L2.start, cxK, Int.reduceToNat, List.map_cons, List.map_nil, List.length_cons, List.length_nil, Nat.reduceAdd, Nat.reduceSub, Nat.zero_add, List.replicate_succ, List.replicate_zero, List.cons_append, List.nil_append, List.append_nil, List.getElem?_cons_zero, List.getElem?_cons_succ, List.set_cons_zero, List.set_cons_succ, Option.some.injEq, V.int.injEq, V.bl.injEq, V.ref.injEq, V.str.injEq, V.ty.injEq, List.cons.injEq, exists_eq_left', exists_eq_left, exists_eq_right, exists_and_left, exists_and_right, and_true, true_and, and_assoc, exists_const, decide_eq_true_eq, Bool.not_eq_true', Bool.not_true, Bool.not_false, Bool.not_not, decide_eq_false_iff_not, ite_not, Bool.false_eq_true, if_true, if_false, reduceCtorEq, and_false, false_and, exists_false, or_false, false_or, ↓reduceIte, eq_self, reduceIte]
      refine ⟨_, (S1.trans e).seq L, fun l' hl' => q l' _ ?_ ((S1.trans e).trans (same_new hl' _)) upd_same⟩
      cases h0 : H l' with
      | none => rfl
      | some u =>
        rw [(S1.trans e) _ _ h0] at hl'
        cases hl'
  · cases B with
    | rows RV =>
      simp only [tRaise, slots, Option.getD_some, Option.getD_none, tSeq, gName, tOp, tC, tVar, tCB, tCons, tNil, tCall, tRet, tIfS, tB, tNot, tDrop, tNext, rIxT, Kd_non, Kd_bl, Kd_int, Kd_str, decide_true, decide_false, tFor_eq, iList, L2.start, cxK, Int.reduceToNat, List.map_cons, List.map_nil, List.length_cons, List.length_nil, Nat.reduceAdd, Nat.reduceSub, Nat.zero_add, List.replicate_succ, List.replicate_zero, List.cons_append, List.nil_append, List.append_nil, List.getElem?_cons_zero, List.getElem?_cons_succ, List.set_cons_zero, List.set_cons_succ, Option.some.injEq, V.int.injEq, V.bl.injEq, V.ref.injEq, V.str.injEq, V.ty.injEq, List.cons.injEq, exists_eq_left', exists_eq_left, exists_eq_right, exists_and_left, exists_and_right, and_true, true_and, and_assoc, exists_const, decide_eq_true_eq, Bool.not_eq_true', Bool.not_true, Bool.not_false, Bool.not_not, decide_eq_false_iff_not, ite_not, Bool.false_eq_true, if_true, if_false, reduceCtorEq, and_false, false_and, exists_false, or_false, false_or, ↓reduceIte, eq_self, reduceIte]
      refine ⟨_, _, rfl, RV, fun H1 S1 => ⟨_, rfl, ?_⟩⟩
      rw [if_pos (by decide)]
      exact ⟨by decide, e _ S1⟩
    | @rule l gs1 gs2 g L l24 all okp tols bad =>
      simp only [tRaise, slots, Option.getD_some, Option.getD_none, tSeq, gName, tOp, tC, tVar, tCB, tCons, tNil, tCall, tRet, tIfS, tB, tNot, tDrop, tNext, rIxT, Kd_non, Kd_bl, Kd_int, Kd_str, decide_true, decide_false, tFor_eq, iList, L2.start, cxK, Int.reduceToNat, List.map_cons, List.map_nil, List.length_cons, List.length_nil, Nat.reduceAdd, Nat.reduceSub, Nat.zero_add, List.replicate_succ, List.replicate_zero, List.cons_append, List.nil_append, List.append_nil, List.getElem?_cons_zero, List.getElem?_cons_succ, List.set_cons_zero, List.set_cons_succ, Option.some.injEq, V.int.injEq, V.bl.injEq, V.ref.injEq, V.str.injEq, V.ty.injEq, List.cons.injEq, exists_eq_left', exists_eq_left, exists_eq_right, exists_and_left, exists_and_right, and_true, true_and, and_assoc, exists_const, decide_eq_true_eq, Bool.not_eq_true', Bool.not_true, Bool.not_false, Bool.not_not, decide_eq_false_iff_not, ite_not, Bool.false_eq_true, if_true, if_false, reduceCtorEq, and_false, false_and, exists_false, or_false, false_or, ↓reduceIte, eq_self, reduceIte]
      have RV := RowsV.good L (by rw [List.length_append, List.length_cons]; omega) l24 all
      rw [okp] at RV
      refine ⟨_, _, rfl, RV, fun H1 S1 => ⟨_, rfl, ?_⟩⟩
      rw [if_neg (by decide)]
      refine ⟨⟨_, S1.seq L⟩, ?_⟩
      obtain ⟨Pv, hP⟩ : ∃ Pv : Nat → St → Hp → Prop, Pv = fun i σ H' => ∃ z, i ≤ gs1.length ∧ Same H1 H' ∧ σ = [some (.ref l), z] := ⟨_, rfl⟩
      refine forW_list (rrefs (gs1 ++ g :: gs2)) Pv ?_ (fun i σ H' _ h => by rw [hP] at h; obtain ⟨_, _, e, _⟩ := h; exact (S1.trans e).seq L) ?_ ?_
      · rw [hP]
        exact ⟨_, Nat.zero_le _, Same.refl _, rfl⟩
      · intro i x σ H' hx h
        rw [hP] at h
        obtain ⟨z, hi, e', rfl⟩ := h
        obtain ⟨g', hg, rfl⟩ := rrefs_at hx
        have S0 := S1.trans e'
        have ga := (all g' (List.mem_of_getElem? hg)).same S0
        simp only [tRaise, slots, Option.getD_some, Option.getD_none, tSeq, gName, tOp, tC, tVar, tCB, tCons, tNil, tCall, tRet, tIfS, tB, tNot, tDrop, tNext, rIxT, Kd_non, Kd_bl, Kd_int, Kd_str, decide_true, decide_false, tFor_eq, iList, L2.start, cxK, Int.reduceToNat, List.map_cons, List.map_nil, List.length_cons, List.length_nil, Nat.reduceAdd, Nat.reduceSub, Nat.zero_add, List.replicate_succ, List.replicate_zero, List.cons_append, List.nil_append, List.append_nil, List.getElem?_cons_zero, List.getElem?_cons_succ, List.set_cons_zero, List.set_cons_succ, Option.some.injEq, V.int.injEq, V.bl.injEq, V.ref.injEq, V.str.injEq, V.ty.injEq, List.cons.injEq, exists_eq_left', exists_eq_left, exists_eq_right, exists_and_left, exists_and_right, and_true, true_and, and_assoc, exists_const, decide_eq_true_eq, Bool.not_eq_true', Bool.not_true, Bool.not_false, Bool.not_not, decide_eq_false_iff_not, ite_not, Bool.false_eq_true, if_true, if_false, reduceCtorEq, and_false, false_and, exists_false, or_false, false_or, ↓reduceIte, eq_self, reduceIte]
        by_cases hlt : i < gs1.length
        · rw [List.getElem?_append_left hlt] at hg
          obtain ⟨r, R, ok, dp⟩ := tols g' (List.mem_of_getElem? hg)
          obtain ⟨a, ha⟩ := told_ref R
          rw [ha] at R
          refine ⟨_, ga.row, _, rfl, .inl ⟨a, r, by rw [ha], R.same S0, ok, dp, fun o H2 S2 O2 => ?_⟩⟩
          rw [hP]
          exact ⟨_, by omega, e'.trans S2, rfl⟩
        · have ei : i = gs1.length := by omega
          rw [ei, List.getElem?_append_right (Nat.le_refl _), Nat.sub_self] at hg
          cases hg
          exact ⟨_, ga.row, _, rfl, .inr ⟨_, rfl, bad.same S0, fun H2 S2 => e _ (S0.trans S2)⟩⟩
      · intro σ H' h
        rw [hP] at h
        obtain ⟨z, hi, e', rfl⟩ := h
        rw [rrefs_len, List.length_append, List.length_cons] at hi
        omega
theorem prs_at {gs : List Rw} {j : Nat} {r : Addr × List Int} (h : (prs gs)[j]? = some r) : ∃ g, gs[j]? = some g ∧ r = (g.pp, g.pf) := by
  unfold prs at h
  rw [List.getElem?_map] at h
  obtain ⟨g, hg, rfl⟩ := Option.map_eq_some_iff.mp h
  exact ⟨g, hg, rfl⟩
theorem prs_len (gs : List Rw) : (prs gs).length = gs.length := List.length_map ..
theorem ok_rule_for (F : Fun K "rule_for" "rule_for" s_rule_for f fd) (M : Mg mg) (C_nearest : Cal P w K mg base CX0 "nearest" 2 ["prefixes", "number"] (spNearest K)) : FnOk P w K mg base CX0 3 f fd ["rules", "number"] (spRuleFor K) := by
  refine F.ok sc_rule_for (fun vs H Q E h => ?_) (fun cdv A outer s H vs Q E hr h => ?_)
  · obtain ⟨l, n, gs, ns, rfl, _⟩ := h
    rfl
  obtain ⟨l, n, gs, ns, rfl, L, l24, all, he, TN, q⟩ := h
  refine ⟨_, (@pss_one _ _ _ (@ps_ret _ _ _ _ (@pe_ix _ _ _ _ _ _ _ (@ix_tup _) (@pe_ix _ _ _ _ _ _ _ (@ix_list _) (@pe_var _ 0 _ _ rfl v_rule_for_0 dn_rules dc_rules) (@pe_callC _ _ _ _ _ _ _ _ _ _ _ C_nearest hr g_rule_for_nearest (@pa_cons _ _ _ _ _ (@pe_comp _ _ _ _ _ _ _ _ _ _ _ _ _ _ _ rfl (CompOk.make (N' := ["row"]) (ix := []) (nl := 1) (by rfl) fm0 (by rfl) (by decide +kernel) rfl (by decide +kernel) rfl True.intro) (@pi_list _ _ _ _ (@pe_var _ 0 _ _ rfl v_rule_for_0 dn_rules dc_rules)) (fun _ _ _ _ _ => (@pg_name _ _ 0 _ (show List.Nodup (["row"] : List Str) from by decide) rfl (Or.inl rfl) (by first | exact .inl rfl | exact .inr rfl | assumption))) (fun _ _ _ _ _ => (@pif_nil _)) (fun _ _ _ _ _ => (@pe_ix _ _ _ _ _ _ _ (ix_tupK (K := K) rfl) (@pv _ 0 _ _ (by rfl) (by first | exact Or.inl rfl | exact Or.inr (Or.inl rfl) | exact Or.inr (Or.inr rfl)) (by decide) (by decide)) (@pe_int _ _ _ _) (fun _ _ => rfl))) (by intro _; rfl)) (@pa_cons _ _ _ _ _ (@pe_var _ 1 _ _ rfl v_rule_for_1 dn_number dc_number) (@pa_nil _) (star1 rfl)) (star1 rfl)) (by decide) dn_nearest (star1 rfl) (nost1 rfl nost0)) (fun _ _ => rfl)) (@pe_int _ _ _ _) (fun _ _ => rfl)))), ?_⟩
  simp only [tComp_eq, tComp1, slots, Option.getD_some, Option.getD_none, tYes, gName, tOp, tC, tVar, tCons, tNil, tCall, tRet, rIxL, rIxT, Kd_non, Kd_bl, Kd_int, Kd_str, decide_true, decide_false, iList, L2.start, cxK, Int.reduceToNat, List.map_cons, List.map_nil, List.length_cons, List.length_nil, Nat.reduceAdd, Nat.reduceSub, Nat.zero_add, List.replicate_succ, List.replicate_zero, List.cons_append, List.nil_append, List.append_nil, List.getElem?_cons_zero, List.getElem?_cons_succ, List.set_cons_zero, List.set_cons_succ, Option.some.injEq, V.int.injEq, V.bl.injEq, V.ref.injEq, V.str.injEq, V.ty.injEq, List.cons.injEq, exists_eq_left', exists_eq_left, exists_eq_right, exists_and_left, exists_and_right, and_true, true_and, and_assoc, exists_const, decide_eq_true_eq, Bool.not_eq_true', Bool.not_true, Bool.not_false, Bool.not_not, decide_eq_false_iff_not, ite_not, Bool.false_eq_true, if_true, if_false, reduceCtorEq, and_false, false_and, exists_false, or_false, false_or, ↓reduceIte, eq_self, reduceIte]
  refine ⟨⟨_, L⟩, fun D hD => ?_⟩
  obtain ⟨Pc, hC⟩ : ∃ Pc : Nat → St → Hp → Prop, Pc = fun i τ H' => ∃ z, H' D = some (.lst (refs ((prs gs).take i))) ∧ Same H H' ∧ τ = [z] := ⟨_, rfl⟩
  refine compS_list (rrefs gs) Pc ?_ (fun i τ H' _ h => by rw [hC] at h; obtain ⟨z, _, e, _⟩ := h; exact e.seq L) ?_ ?_
  · rw [hC]
    exact ⟨_, upd_same, same_new hD _, rfl⟩
  · intro i x τ H' R' hx h next
    rw [hC] at h
    obtain ⟨z, d1, d2, rfl⟩ := h
    obtain ⟨g, hg, rfl⟩ := rrefs_at hx
    have li := (List.getElem?_eq_some_iff.mp hg).1
    have ga := (all g (List.mem_of_getElem? hg)).same d2
    simp only [tComp_eq, tComp1, slots, Option.getD_some, Option.getD_none, tYes, gName, tOp, tC, tVar, tCons, tNil, tCall, tRet, rIxL, rIxT, Kd_non, Kd_bl, Kd_int, Kd_str, decide_true, decide_false, iList, L2.start, cxK, Int.reduceToNat, List.map_cons, List.map_nil, List.length_cons, List.length_nil, Nat.reduceAdd, Nat.reduceSub, Nat.zero_add, List.replicate_succ, List.replicate_zero, List.cons_append, List.nil_append, List.append_nil, List.getElem?_cons_zero, List.getElem?_cons_succ, List.set_cons_zero, List.set_cons_succ, Option.some.injEq, V.int.injEq, V.bl.injEq, V.ref.injEq, V.str.injEq, V.ty.injEq, List.cons.injEq, exists_eq_left', exists_eq_left, exists_eq_right, exists_and_left, exists_and_right, and_true, true_and, and_assoc, exists_const, decide_eq_true_eq, Bool.not_eq_true', Bool.not_true, Bool.not_false, Bool.not_not, decide_eq_false_iff_not, ite_not, Bool.false_eq_true, if_true, if_false, reduceCtorEq, and_false, false_and, exists_false, or_false, false_or, ↓reduceIte, eq_self, reduceIte]
    refine ⟨_, ga.row, _, rfl, _, d1, Nat.lt_of_lt_of_le (m := 64) (by rw [refs_len, List.length_take]; omega) (by decide), next _ _ ?_⟩
    rw [hC]
    refine ⟨_, ?_, same_upd d2 hD _, rfl⟩
    have e1 : (prs gs)[i]? = some (g.pp, g.pf) := by unfold prs; rw [List.getElem?_map, hg]; rfl
    rw [upd_same, List.take_add_one, e1]
    unfold refs
    rw [List.map_append]
    rfl
  intro τ H1 h
  rw [hC] at h
  obtain ⟨z, d1, S1, rfl⟩ := h
  rw [List.take_of_length_le (by rw [prs_len, rrefs_len]; exact Nat.le_refl _)] at d1
  have PS1 : Ps K H1 (prs gs) := ⟨fun r hr => by
    obtain ⟨g, hg, rfl⟩ := List.mem_map.mp hr
    exact ⟨((all g hg).same S1).pre, (all g hg).l4⟩, by rw [prs_len]; omega⟩
  refine ⟨D, n, prs gs, ns, rfl, SqL.of d1, PS1, Same.tup S1 TN, fun fo H2 S2 N => ?_⟩
  have S02 := S1.trans S2
  cases fo with
  | none =>
    obtain ⟨g, hg, e⟩ := List.mem_map.mp he
    obtain ⟨k, hk, ek⟩ := List.getElem_of_mem hg
    have e1 : (prs gs)[k]? = some (g.pp, g.pf) := by unfold prs; rw [List.getElem?_map, List.getElem?_eq_getElem hk, ek]; rfl
    have := N k _ (by rw [prs_len]; exact hk) e1
    exact absurd (show Ah g.pf ns by rw [e]; rfl) this
  | some j =>
    obtain ⟨qj, hj, hq, _⟩ := id N
    obtain ⟨g, hg, rfl⟩ := prs_at hq
    have ga := (all g (List.mem_of_getElem? hg)).same S02
    rw [prs_len] at N
    exact ⟨_, _, rfl, S02.seq L, _, rrefs_ix hg, _, rfl, _, ga.row, _, rfl, q j g _ S02 hg N⟩
end

def cellAt (ns : List Int) (k : Int) : Int := if k < (ns.length : Int) then ns.getD k.toNat 0 else 0
def spCellAt (K : PySem.W.Frag) : Sp := fun vs H Q _ => ∃ (a : Addr) (ns : List Int) (k : Int), vs = [.ref a, .int k] ∧ SqL K H a (ns.map V.int) ∧ 0 ≤ k ∧ Q (.int (cellAt ns k)) H
theorem spCellAt_of {K : PySem.W.Frag} {H : Hp} {a : Addr} {ns : List Int} {k : Int} {Q : VK} {E : XK} (h : SqL K H a (ns.map V.int)) (h0 : 0 ≤ k) (q : Q (.int (cellAt ns k)) H) : spCellAt K [.ref a, .int k] H Q E := ⟨a, ns, k, rfl, h, h0, q⟩
section
variable {P : Program} {w : World} {K : PySem.W.Frag} {mg : Str → Option Value} {base : Heap} {f : Addr} {fd : FuncData}
theorem ok_law_cell_at (F : Fun K "_law_cell_at" "_law_cell_at" s_law_cell_at f fd) (M : Mg mg) : FnOk P w K mg base CX0 1 f fd ["_law_script", "_law_k"] (spCellAt K) := by
  refine F.ok sc_law_cell_at (fun vs H Q E h => ?_) (fun cdv A outer s H vs Q E hr h => ?_)
  · obtain ⟨a, ns, k, rfl, _⟩ := h
    rfl
  obtain ⟨a, ns, k, rfl, hS, h0, q⟩ := h
  refine ⟨_, (@pss_cons _ _ _ _ _ (@ps_if _ _ _ _ _ _ _ _ (@pt_cmpR _ _ _ _ _ _ _ _ (@op_lt _) (@pe_var _ 1 _ _ rfl v_law_cell_at_1 dn__law_k dc__law_k) (@pe_callB _ _ _ _ _ _ _ _ _ call_len_seq g_law_cell_at_len M.m_len b_len (@pa_cons _ _ _ _ _ (@pe_var _ 0 _ _ rfl v_law_cell_at_0 dn__law_script dc__law_script) (@pa_nil _) (star1 rfl)) nn_len dn_len (star1 rfl) nost0) (nomark _)) (@pss_one _ _ _ (@ps_ret _ _ _ _ (@pe_ix _ _ _ _ _ _ _ (@ix_list _) (@pe_var _ 0 _ _ rfl v_law_cell_at_0 dn__law_script dc__law_script) (@pe_var _ 1 _ _ rfl v_law_cell_at_1 dn__law_k dc__law_k) (fun _ _ => rfl)))) (@pss_nil _)) (@pss_one _ _ _ (@ps_ret _ _ _ _ (@pe_int _ _ _ _)))), ?_⟩
  unfold cellAt at q
  simp only [slots, Option.getD_some, Option.getD_none, tSeq, tOp, tC, tVar, tCB, tCons, tNil, rI0, tRet, tIfS, tTest, tNext, rIxL, Kd_non, Kd_bl, Kd_int, Kd_str, decide_true, decide_false, L2.start, cxK, Int.reduceToNat, List.map_cons, List.map_nil, List.length_cons, List.length_nil, Nat.reduceAdd, Nat.reduceSub, Nat.zero_add, List.replicate_succ, List.replicate_zero, List.cons_append, List.nil_append, List.append_nil, List.getElem?_cons_zero, List.getElem?_cons_succ, List.set_cons_zero, List.set_cons_succ, Option.some.injEq, V.int.injEq, V.bl.injEq, V.ref.injEq, V.str.injEq, V.ty.injEq, List.cons.injEq, exists_eq_left', exists_eq_left, exists_eq_right, exists_and_left, exists_and_right, and_true, true_and, and_assoc, exists_const, decide_eq_true_eq, Bool.not_eq_true', Bool.not_true, Bool.not_false, Bool.not_not, decide_eq_false_iff_not, ite_not, Bool.false_eq_true, if_true, if_false, reduceCtorEq, and_false, false_and, exists_false, or_false, false_or, ↓reduceIte, eq_self, reduceIte]
  refine ⟨_, .inl hS, ?_⟩
  rw [List.length_map]
  by_cases hk : k < (ns.length : Int)
  · rw [if_pos hk]
    rw [if_pos hk] at q
    exact ⟨_, hS, _, atI_map h0 hk, q⟩
  · rw [if_neg hk]
    rw [if_neg hk] at q
    exact q
end

def spMix : Sp := fun vs H Q _ => ∃ c b, vs = [.int c, .int b] ∧ 0 ≤ b ∧ b ≤ 10 ^ 9 ∧ Q (.int (c % 1000003 * b % 999983)) H
def spNumber (K : PySem.W.Frag) : Sp := fun vs H Q _ => ∃ c : Int, vs = [.int c] ∧ ∀ (r : Addr) (nv : List Int) H', Same H H' → H' r = some (.tup (nv.map V.int)) → 1 ≤ nv.length → nv.length ≤ 4 → (∀ i ∈ nv, 1 ≤ i ∧ i ≤ 99) → Q (.ref r) H'
def spGcd : Sp := fun vs H Q _ => ∃ a b, vs = [.int a, .int b] ∧ 0 ≤ a ∧ 0 ≤ b ∧ Q (.int (Mth.gcd a b)) H
def spPart (K : PySem.W.Frag) : Sp := fun vs H Q _ => ∃ c, vs = [.int c] ∧ ∀ (p : Addr) (H' : Hp) (t b : Int), Same H H' → SqT K H' p [.int t, .int b] → ShOk t b → Q (.ref p) H'
section
variable {P : Program} {w : World} {K : PySem.W.Frag} {mg : Str → Option Value} {base : Heap} {f : Addr} {fd : FuncData} {cs : RC}
theorem ok_law_mix (F : Fun K "_law_mix" "_law_mix" s_law_mix f fd) (M : Mg mg) : FnOk P w K mg base CX0 1 f fd ["_law_cell", "_law_by"] spMix := by
  refine F.ok sc_law_mix (fun vs H Q E h => ?_) (fun cdv A outer s H vs Q E hr h => ?_)
  · obtain ⟨c, b, rfl, _⟩ := h
    rfl
  obtain ⟨c, b, rfl, b0, b9, q⟩ := h
  refine ⟨_, (@pss_one _ _ _ (@ps_ret _ _ _ _ (@pe_op _ _ _ _ _ _ _ _ (@op_mod _) (@pe_op _ _ _ _ _ _ _ _ (@op_mulB _) (@pe_op _ _ _ _ _ _ _ _ (@op_mod _) (@pe_var _ 0 _ _ rfl v_law_mix_0 dn__law_cell dc__law_cell) (@pe_int _ _ _ _)) (@pe_var _ 1 _ _ rfl v_law_mix_1 dn__law_by dc__law_by)) (@pe_int _ _ _ _)))), ?_⟩
  simp only [slots, Option.getD_some, Option.getD_none, tOp, tC, tVar, rI, tRet, Kd_non, Kd_bl, Kd_int, Kd_str, decide_true, decide_false, L2.start, cxK, Int.reduceToNat, List.map_cons, List.map_nil, List.length_cons, List.length_nil, Nat.reduceAdd, Nat.reduceSub, Nat.zero_add, List.replicate_succ, List.replicate_zero, List.cons_append, List.nil_append, List.append_nil, List.getElem?_cons_zero, List.getElem?_cons_succ, List.set_cons_zero, List.set_cons_succ, Option.some.injEq, V.int.injEq, V.bl.injEq, V.ref.injEq, V.str.injEq, V.ty.injEq, List.cons.injEq, exists_eq_left', exists_eq_left, exists_eq_right, exists_and_left, exists_and_right, and_true, true_and, and_assoc, exists_const, decide_eq_true_eq, Bool.not_eq_true', Bool.not_true, Bool.not_false, Bool.not_not, decide_eq_false_iff_not, ite_not, Bool.false_eq_true, if_true, if_false, reduceCtorEq, and_false, false_and, exists_false, or_false, false_or, ↓reduceIte, eq_self, reduceIte]
  have e62 : (10 : Int) ^ 9 ≤ 10 ^ 61 := by decide
  have e63 : (1000003 : Int) ≤ 10 ^ 61 := by decide
  exact ⟨by decide, cmul (by omega) (by omega) (by omega) (by omega), by decide, q⟩
theorem ok_law_number (F : Fun K "_law_number" "_law_number" s_law_number f fd) (M : Mg mg) (C_law_mix : Cal P w K mg base CX0 "_law_mix" 1 ["_law_cell", "_law_by"] spMix) : FnOk P w K mg base CX0 2 f fd ["_law_cell"] (spNumber K) := by
  refine F.ok sc_law_number (fun vs H Q E h => ?_) (fun cdv A outer s H vs Q E hr h => ?_)
  · obtain ⟨c, rfl, _⟩ := h
    rfl
  obtain ⟨c, rfl, q⟩ := h
  refine ⟨_, (@pss_cons _ _ _ _ _ (@ps_set _ _ 1 _ _ _ _ sc_law_number.nd rfl l_law_number_1 (@pe_op _ _ _ _ _ _ _ _ (@op_add _) (@pe_int _ _ _ _) (@pe_op _ _ _ _ _ _ _ _ (@op_mod _) (@pe_var _ 0 _ _ rfl v_law_number_0 dn__law_cell dc__law_cell) (@pe_int _ _ _ _))) (swap1 rfl) (.inl rfl)) (@pss_cons _ _ _ _ _ (@ps_set _ _ 2 _ _ _ _ sc_law_number.nd rfl l_law_number_2 (@pe_menu _ _ _ _ _ _ _ (@pa_cons _ _ _ _ _ (@pe_int _ _ _ _) (@pa_cons _ _ _ _ _ (@pe_int _ _ _ _) (@pa_cons _ _ _ _ _ (@pe_int _ _ _ _) (@pa_cons _ _ _ _ _ (@pe_int _ _ _ _) (@pa_nil _) (star1 rfl)) (star1 rfl)) (star1 rfl)) (star1 rfl)) (@pe_op _ _ _ _ _ _ _ _ (@op_mod _) (@pe_op _ _ _ _ _ _ _ _ (@op_fdivB _) (@pe_var _ 0 _ _ rfl v_law_number_0 dn__law_cell dc__law_cell) (@pe_int _ _ _ _)) (@pe_int _ _ _ _)) (fun _ _ => rfl)) (swap1 rfl) (.inl rfl)) (@pss_cons _ _ _ _ _ (@ps_set _ _ 3 _ _ _ _ sc_law_number.nd rfl l_law_number_3 (@pe_lst _ _ _ _ (@pa_cons _ _ _ _ _ (@pe_int _ _ _ _) (@pa_cons _ _ _ _ _ (@pe_int _ _ _ _) (@pa_cons _ _ _ _ _ (@pe_int _ _ _ _) (@pa_cons _ _ _ _ _ (@pe_int _ _ _ _) (@pa_nil _) (star1 rfl)) (star1 rfl)) (star1 rfl)) (star1 rfl))) (swap1 rfl) (.inl rfl)) (@pss_one _ _ _ (@ps_ret _ _ _ _ (@pe_callTy _ _ _ _ _ _ _ _ _ call_tupleL g_law_number_tuple M.m_tuple b_tuple (@pa_cons _ _ _ _ _ (@pe_comp _ _ _ _ _ _ _ _ _ _ _ _ _ _ _ rfl (CompOk.make (N' := ["_law_wide", "_law_by", "_law_cell", "_law_k"]) (ix := [2, 3, 0]) (nl := 1) (by rfl) (fm1 rfl (fm1 rfl (fm1 rfl fm0))) (by rfl) (by decide +kernel) rfl (by decide +kernel) rfl (And.intro ⟨rfl, .inl rfl, .inl rfl⟩ (And.intro ⟨rfl, .inl rfl, .inl rfl⟩ (And.intro ⟨rfl, .inl rfl, .inl rfl⟩ True.intro)))) (@pi_range1 _ _ _ _ _ _ g_law_number_range M.m_range (@pa_cons _ _ _ _ _ (@pe_var _ 1 _ _ rfl v_law_number_1 dn__law_size dc__law_size) (@pa_nil _) (star1 rfl)) (star1' rfl)) (fun _ _ _ _ _ => (@pg_name _ _ 3 _ (show List.Nodup (["_law_wide", "_law_by", "_law_cell", "_law_k"] : List Str) from by decide) rfl (Or.inl rfl) (by first | exact .inl rfl | exact .inr rfl | assumption))) (fun _ _ _ _ _ => (@pif_nil _)) (fun _ _ _ _ _ => (@pe_op _ _ _ _ _ _ _ _ (@op_add _) (@pe_int _ _ _ _) (@pe_op _ _ _ _ _ _ _ _ (@op_mod _) (@pe_callC _ _ _ _ _ _ _ _ _ _ _ C_law_mix hr rfl (@pa_cons _ _ _ _ _ (@pe_op _ _ _ _ _ _ _ _ (@op_add _) (@pe_op _ _ _ _ _ _ _ _ (@op_fdivB _) (@pv _ 2 _ _ (by rfl) (by first | exact Or.inl rfl | exact Or.inr (Or.inl rfl) | exact Or.inr (Or.inr rfl)) (by decide) (by decide)) (@pe_int _ _ _ _)) (@pe_op _ _ _ _ _ _ _ _ (@op_mulB _) (@pe_int _ _ _ _) (@pv _ 3 _ _ (by rfl) (by first | exact Or.inl rfl | exact Or.inr (Or.inl rfl) | exact Or.inr (Or.inr rfl)) (by decide) (by decide)))) (@pa_cons _ _ _ _ _ (@pe_ix _ _ _ _ _ _ _ (@ix_listK _ K rfl) (@pv _ 1 _ _ (by rfl) (by first | exact Or.inl rfl | exact Or.inr (Or.inl rfl) | exact Or.inr (Or.inr rfl)) (by decide) (by decide)) (@pv _ 3 _ _ (by rfl) (by first | exact Or.inl rfl | exact Or.inr (Or.inl rfl) | exact Or.inr (Or.inr rfl)) (by decide) (by decide)) (fun _ _ => rfl)) (@pa_nil _) (star1 rfl)) (star1 rfl)) (by decide) dn__law_mix (star1 rfl) (nost1 rfl nost0)) (@pv _ 0 _ _ (by rfl) (by first | exact Or.inl rfl | exact Or.inr (Or.inl rfl) | exact Or.inr (Or.inr rfl)) (by decide) (by decide))))) (by intro _; rfl)) (@pa_nil _) (star1 rfl)) nn_tuple dn_tuple (star1 rfl) nost0)))))), ?_⟩
  have c0 := Int.emod_nonneg c (show (4 : Int) ≠ 0 by decide)
  have c1 := Int.emod_lt_of_pos c (show (0 : Int) < 4 by decide)
  have d0 := Int.emod_nonneg (c / 4) (show (4 : Int) ≠ 0 by decide)
  have d1 := Int.emod_lt_of_pos (c / 4) (show (0 : Int) < 4 by decide)
  obtain ⟨wd, hw⟩ : ∃ wd, ([V.int 2, V.int 2, V.int 3, V.int 99] : List V)[(c / 4 % 4).toNat]? = some wd := ⟨_, List.getElem?_eq_getElem (by show (c / 4 % 4).toNat < 4; omega)⟩
  obtain ⟨wi, rfl, w1, w99⟩ : ∃ wi : Int, wd = .int wi ∧ 1 ≤ wi ∧ wi ≤ 99 := by
    have := List.mem_of_getElem? hw
    simp only [List.mem_cons, List.not_mem_nil, or_false] at this
    rcases this with rfl | rfl | rfl | rfl <;> exact ⟨_, rfl, by decide, by decide⟩
  simp only [tComp_eq, tComp1, slots, Option.getD_some, Option.getD_none, tYes, tSeq, tAsg, gName, tOp, tC, tVar, tCB, tCons, tNil, tCall, rI, rI0, tRet, tMenu, tLst, rIxL, Kd_non, Kd_bl, Kd_int, Kd_str, decide_true, decide_false, iRng1, L2.start, cxK, Int.reduceToNat, List.map_cons, List.map_nil, List.length_cons, List.length_nil, Nat.reduceAdd, Nat.reduceSub, Nat.zero_add, List.replicate_succ, List.replicate_zero, List.cons_append, List.nil_append, List.append_nil, List.getElem?_cons_zero, List.getElem?_cons_succ, List.set_cons_zero, List.set_cons_succ, Option.some.injEq, V.int.injEq, V.bl.injEq, V.ref.injEq, V.str.injEq, V.ty.injEq, List.cons.injEq, exists_eq_left', exists_eq_left, exists_eq_right, exists_and_left, exists_and_right, and_true, true_and, and_assoc, exists_const, decide_eq_true_eq, Bool.not_eq_true', Bool.not_true, Bool.not_false, Bool.not_not, decide_eq_false_iff_not, ite_not, Bool.false_eq_true, if_true, if_false, reduceCtorEq, and_false, false_and, exists_false, or_false, false_or, ↓reduceIte, eq_self, reduceIte]
  refine ⟨by decide, by decide, cdiv (by decide) (by decide), by decide, by omega, _, hw, by decide, fun bl hbl => ?_⟩
  obtain ⟨H1, g1, S1, L1⟩ := fresh_lst (K := K) hbl [.int 48271, .int 69621, .int 16807, .int 39373]
  rw [← g1]
  clear g1
  refine ⟨by omega, by omega, fun D hD => ?_⟩
  obtain ⟨Pc, hC⟩ : ∃ Pc : Nat → St → Hp → Prop, Pc = fun i τ H' => ∃ (ks : List Int) (z : Option V), H' D = some (.lst (ks.map V.int)) ∧ ks.length = i ∧ (∀ i ∈ ks, 1 ≤ i ∧ i ≤ 99) ∧ Same H1 H' ∧ τ = [some (.int wi), some (.ref bl), some (.int c), z] := ⟨_, rfl⟩
  refine compS_range Pc ?_ ?_ ?_
  · rw [hC]
    exact ⟨[], _, upd_same, rfl, (fun _ h => by cases h), same_new hD _, rfl⟩
  · intro i τ H' R hi g next
    rw [hC] at g
    obtain ⟨ks, z, e1, kl, ki, e, rfl⟩ := g
    have hi4 : i < 4 := by omega
    obtain ⟨bv, hb⟩ : ∃ bv, ([V.int 48271, V.int 69621, V.int 16807, V.int 39373] : List V)[i]? = some bv := ⟨_, List.getElem?_eq_getElem hi4⟩
    obtain ⟨b, rfl, b0, b1⟩ : ∃ b : Int, bv = .int b ∧ 0 ≤ b ∧ b ≤ 100000 := by
      have := List.mem_of_getElem? hb
      simp only [List.mem_cons, List.not_mem_nil, or_false] at this
      rcases this with rfl | rfl | rfl | rfl <;> exact ⟨_, rfl, by decide, by decide⟩
    have hb' : atI [V.int 48271, V.int 69621, V.int 16807, V.int 39373] (0 + (i : Int)) = some (.int b) := by
      rw [Int.zero_add]
      exact atI_nat hb
    simp only [tComp_eq, tComp1, slots, Option.getD_some, Option.getD_none, tYes, tSeq, tAsg, gName, tOp, tC, tVar, tCB, tCons, tNil, tCall, rI, rI0, tRet, tMenu, tLst, rIxL, Kd_non, Kd_bl, Kd_int, Kd_str, decide_true, decide_false, iRng1, L2.start, cxK, Int.reduceToNat, List.map_cons, List.map_nil, List.length_cons, List.length_nil, Nat.reduceAdd, Nat.reduceSub, Nat.zero_add, List.replicate_succ, List.replicate_zero, List.cons_append, List.nil_append, List.append_nil, List.getElem?_cons_zero, List.getElem?_cons_succ, List.set_cons_zero, List.set_cons_succ, Option.some.injEq, V.int.injEq, V.bl.injEq, V.ref.injEq, V.str.injEq, V.ty.injEq, List.cons.injEq, exists_eq_left', exists_eq_left, exists_eq_right, exists_and_left, exists_and_right, and_true, true_and, and_assoc, exists_const, decide_eq_true_eq, Bool.not_eq_true', Bool.not_true, Bool.not_false, Bool.not_not, decide_eq_false_iff_not, ite_not, Bool.false_eq_true, if_true, if_false, reduceCtorEq, and_false, false_and, exists_false, or_false, false_or, ↓reduceIte, eq_self, reduceIte]
    have b9 : b ≤ 10 ^ 9 := Int.le_trans b1 (by decide)
    refine ⟨cdiv (by decide) (by decide), cmul (by decide) (by decide) (by omega) (by omega), _, e.seq L1, _, hb', _, _, rfl, b0, b9, ?_⟩
    obtain ⟨v, hv⟩ : ∃ v : Int, (c / 16 + 5 * (0 + (i : Int))) % 1000003 * b % 999983 = v := ⟨_, rfl⟩
    rw [hv]
    refine ⟨_, rfl, by omega, _, e1, by rw [List.length_map]; exact Nat.lt_of_lt_of_le (m := 64) (by omega) (by decide), next _ _ ?_⟩
    have x0 := Int.emod_nonneg v (show wi ≠ 0 by omega)
    have x1 := Int.emod_lt_of_pos v (show 0 < wi by omega)
    rw [hC]
    refine ⟨ks ++ [1 + v % wi], _, by rw [upd_same, List.map_append]; rfl, by rw [List.length_append, kl]; rfl, fun j hj => ?_, same_upd e hD _, rfl⟩
    rcases List.mem_append.mp hj with hj | hj
    · exact ki j hj
    · rw [List.mem_singleton.mp hj]
      omega
  · intro τ H' g
    rw [hC] at g
    obtain ⟨ks, z, e1, kl, ki, e, rfl⟩ := g
    refine ⟨_, rfl, _, SqL.of e1, fun t ht => ?_⟩
    exact q _ ks _ (S1.trans (e.trans (same_new ht _))) upd_same (by omega) (by omega) ki
theorem ok_law_common (F : Fun K "_law_common" "_law_common" s_law_common f fd) (M : Mg mg) : FnOk P w K mg base CX0 1 f fd ["_law_one", "_law_other"] spGcd := by
  refine F.ok sc_law_common (fun vs H Q E h => ?_) (fun cdv A outer s H vs Q E hr h => ?_)
  · obtain ⟨a, b, rfl, _⟩ := h
    rfl
  obtain ⟨a, b, rfl, a0, b0, q⟩ := h
  refine ⟨_, (@pss_cons _ _ _ _ _ (@ps_while _ _ _ _ _ _ PassesOwn.never (@pt_cmpR _ _ _ _ _ _ _ _ (@op_gt _) (@pe_var _ 1 _ _ rfl v_law_common_1 dn__law_other dc__law_other) (@pe_int _ _ _ _) (nomark _)) (@pss_cons _ _ _ _ _ (@ps_set _ _ 2 _ _ _ _ sc_law_common.nd rfl l_law_common_2 (@pe_op _ _ _ _ _ _ _ _ (@op_mod _) (@pe_var _ 0 _ _ rfl v_law_common_0 dn__law_one dc__law_one) (@pe_var _ 1 _ _ rfl v_law_common_1 dn__law_other dc__law_other)) (swap1 rfl) (.inl rfl)) (@pss_cons _ _ _ _ _ (@ps_set _ _ 0 _ _ _ _ sc_law_common.nd rfl l_law_common_0 (@pe_var _ 1 _ _ rfl v_law_common_1 dn__law_other dc__law_other) (swap1 rfl) (.inl rfl)) (@pss_one _ _ _ (@ps_set _ _ 1 _ _ _ _ sc_law_common.nd rfl l_law_common_1 (@pe_var _ 2 _ _ rfl v_law_common_2 dn__law_rest dc__law_rest) (swap1 rfl) (.inl rfl)))))) (@pss_one _ _ _ (@ps_ret _ _ _ _ (@pe_var _ 0 _ _ rfl v_law_common_0 dn__law_one dc__law_one)))), ?_⟩
  simp only [slots, Option.getD_some, Option.getD_none, tSeq, tAsg, gName, tOp, tC, tVar, rI, rI0, tRet, tTest, Kd_non, Kd_bl, Kd_int, Kd_str, decide_true, decide_false, L2.start, cxK, Int.reduceToNat, List.map_cons, List.map_nil, List.length_cons, List.length_nil, Nat.reduceAdd, Nat.reduceSub, Nat.zero_add, List.replicate_succ, List.replicate_zero, List.cons_append, List.nil_append, List.append_nil, List.getElem?_cons_zero, List.getElem?_cons_succ, List.set_cons_zero, List.set_cons_succ, Option.some.injEq, V.int.injEq, V.bl.injEq, V.ref.injEq, V.str.injEq, V.ty.injEq, List.cons.injEq, exists_eq_left', exists_eq_left, exists_eq_right, exists_and_left, exists_and_right, and_true, true_and, and_assoc, exists_const, decide_eq_true_eq, Bool.not_eq_true', Bool.not_true, Bool.not_false, Bool.not_not, decide_eq_false_iff_not, ite_not, Bool.false_eq_true, if_true, if_false, reduceCtorEq, and_false, false_and, exists_false, or_false, false_or, ↓reduceIte, eq_self, reduceIte]
  refine ⟨fun m σ H' => H' = H ∧ ∃ l t r, σ = [some (.int l), some (.int t), r] ∧ 0 ≤ l ∧ 0 ≤ t ∧ t.toNat = m ∧ Mth.gcd l t = Mth.gcd a b, ⟨_, rfl, _, _, _, rfl, a0, b0, rfl, rfl⟩, ?_⟩
  rintro m σ H' ⟨rfl, l, t, r, rfl, hl, ht, rfl, hg⟩
  simp only [slots, Option.getD_some, Option.getD_none, tSeq, tAsg, gName, tOp, tC, tVar, rI, rI0, tRet, tTest, Kd_non, Kd_bl, Kd_int, Kd_str, decide_true, decide_false, L2.start, cxK, Int.reduceToNat, List.map_cons, List.map_nil, List.length_cons, List.length_nil, Nat.reduceAdd, Nat.reduceSub, Nat.zero_add, List.replicate_succ, List.replicate_zero, List.cons_append, List.nil_append, List.append_nil, List.getElem?_cons_zero, List.getElem?_cons_succ, List.set_cons_zero, List.set_cons_succ, Option.some.injEq, V.int.injEq, V.bl.injEq, V.ref.injEq, V.str.injEq, V.ty.injEq, List.cons.injEq, exists_eq_left', exists_eq_left, exists_eq_right, exists_and_left, exists_and_right, and_true, true_and, and_assoc, exists_const, decide_eq_true_eq, Bool.not_eq_true', Bool.not_true, Bool.not_false, Bool.not_not, decide_eq_false_iff_not, ite_not, Bool.false_eq_true, if_true, if_false, reduceCtorEq, and_false, false_and, exists_false, or_false, false_or, ↓reduceIte, eq_self, reduceIte]
  by_cases tp : 0 < t
  · rw [if_pos tp]
    have m0 := Int.emod_nonneg l (show t ≠ 0 by omega)
    have m1 := Int.emod_lt_of_pos l tp
    exact ⟨_, fun _ _ h => h, tp, (l % t).toNat, by omega, rfl, t, l % t, ⟨_, rfl⟩, by omega, m0, rfl, by rw [Mth.gcd_step hl tp]; exact hg⟩
  · rw [if_neg tp]
    have e : t = 0 := by omega
    subst e
    rw [Mth.gcd_zero hl] at hg
    rw [hg]
    exact q
theorem ok_law_part (F : Fun K "_law_part" "_law_part" s_law_part f fd) (M : Mg mg) (C_law_mix : Cal P w K mg base CX0 "_law_mix" 1 ["_law_cell", "_law_by"] spMix) (C_law_common : Cal P w K mg base CX0 "_law_common" 1 ["_law_one", "_law_other"] spGcd) : FnOk P w K mg base CX0 2 f fd ["_law_cell"] (spPart K) := by
  refine F.ok sc_law_part (fun vs H Q E h => ?_) (fun cdv A outer s H vs Q E hr h => ?_)
  · obtain ⟨c, rfl, _⟩ := h
    rfl
  obtain ⟨c, rfl, q⟩ := h
  refine ⟨_, (@pss_cons _ _ _ _ _ (@ps_set _ _ 1 _ _ _ _ sc_law_part.nd rfl l_law_part_1 (@pe_op _ _ _ _ _ _ _ _ (@op_add _) (@pe_int _ _ _ _) (@pe_op _ _ _ _ _ _ _ _ (@op_mod _) (@pe_op _ _ _ _ _ _ _ _ (@op_fdivB _) (@pe_var _ 0 _ _ rfl v_law_part_0 dn__law_cell dc__law_cell) (@pe_int _ _ _ _)) (@pe_menu _ _ _ _ _ _ _ (@pa_cons _ _ _ _ _ (@pe_int _ _ _ _) (@pa_cons _ _ _ _ _ (@pe_int _ _ _ _) (@pa_cons _ _ _ _ _ (@pe_int _ _ _ _) (@pa_cons _ _ _ _ _ (@pe_op _ _ _ _ _ _ _ _ (@op_pow _) (@pe_int _ _ _ _) (@pe_int _ _ _ _)) (@pa_nil _) (star1 rfl)) (star1 rfl)) (star1 rfl)) (star1 rfl)) (@pe_op _ _ _ _ _ _ _ _ (@op_mod _) (@pe_var _ 0 _ _ rfl v_law_part_0 dn__law_cell dc__law_cell) (@pe_int _ _ _ _)) (fun _ _ => rfl)))) (swap1 rfl) (.inl rfl)) (@pss_cons _ _ _ _ _ (@ps_set _ _ 2 _ _ _ _ sc_law_part.nd rfl l_law_part_2 (@pe_op _ _ _ _ _ _ _ _ (@op_mod _) (@pe_op _ _ _ _ _ _ _ _ (@op_mulB _) (@pe_callC _ _ _ _ _ _ _ _ _ _ _ C_law_mix hr g_law_part__law_mix (@pa_cons _ _ _ _ _ (@pe_op _ _ _ _ _ _ _ _ (@op_fdivB _) (@pe_var _ 0 _ _ rfl v_law_part_0 dn__law_cell dc__law_cell) (@pe_int _ _ _ _)) (@pa_cons _ _ _ _ _ (@pe_int _ _ _ _) (@pa_nil _) (star1 rfl)) (star1 rfl)) (by decide) dn__law_mix (star1 rfl) (nost1 rfl nost0)) (@pe_int _ _ _ _)) (@pe_op _ _ _ _ _ _ _ _ (@op_add _) (@pe_var _ 1 _ _ rfl v_law_part_1 dn__law_bottom dc__law_bottom) (@pe_int _ _ _ _))) (swap1 rfl) (.inl rfl)) (@pss_cons _ _ _ _ _ (@ps_set _ _ 3 _ _ _ _ sc_law_part.nd rfl l_law_part_3 (@pe_callC _ _ _ _ _ _ _ _ _ _ _ C_law_common hr g_law_part__law_common (@pa_cons _ _ _ _ _ (@pe_var _ 2 _ _ rfl v_law_part_2 dn__law_top dc__law_top) (@pa_cons _ _ _ _ _ (@pe_var _ 1 _ _ rfl v_law_part_1 dn__law_bottom dc__law_bottom) (@pa_nil _) (star1 rfl)) (star1 rfl)) (by decide) dn__law_common (star1 rfl) (nost1 rfl nost0)) (swap1 rfl) (.inl rfl)) (@pss_one _ _ _ (@ps_ret _ _ _ _ (@pe_tup _ _ _ _ _ (@pa_cons _ _ _ _ _ (@pe_op _ _ _ _ _ _ _ _ (@op_fdivB _) (@pe_var _ 2 _ _ rfl v_law_part_2 dn__law_top dc__law_top) (@pe_var _ 3 _ _ rfl v_law_part_3 dn__law_by dc__law_by)) (@pa_cons _ _ _ _ _ (@pe_op _ _ _ _ _ _ _ _ (@op_fdivB _) (@pe_var _ 1 _ _ rfl v_law_part_1 dn__law_bottom dc__law_bottom) (@pe_var _ 3 _ _ rfl v_law_part_3 dn__law_by dc__law_by)) (@pa_nil _) (star1 rfl)) (star1 rfl)))))))), ?_⟩
  simp only [slots, Option.getD_some, Option.getD_none, tSeq, tAsg, gName, tOp, tC, tVar, tCons, tNil, tCall, rI, rI0, tRet, tMenu, tTup, Kd_non, Kd_bl, Kd_int, Kd_str, decide_true, decide_false, L2.start, cxK, Int.reduceToNat, List.map_cons, List.map_nil, List.length_cons, List.length_nil, Nat.reduceAdd, Nat.reduceSub, Nat.zero_add, List.replicate_succ, List.replicate_zero, List.cons_append, List.nil_append, List.append_nil, List.getElem?_cons_zero, List.getElem?_cons_succ, List.set_cons_zero, List.set_cons_succ, Option.some.injEq, V.int.injEq, V.bl.injEq, V.ref.injEq, V.str.injEq, V.ty.injEq, List.cons.injEq, exists_eq_left', exists_eq_left, exists_eq_right, exists_and_left, exists_and_right, and_true, true_and, and_assoc, exists_const, decide_eq_true_eq, Bool.not_eq_true', Bool.not_true, Bool.not_false, Bool.not_not, decide_eq_false_iff_not, ite_not, Bool.false_eq_true, if_true, if_false, reduceCtorEq, and_false, false_and, exists_false, or_false, false_or, ↓reduceIte, eq_self, reduceIte]
  have e9 : (10 : Int) ^ 9 = 1000000000 := by decide
  obtain ⟨mv, hmv, m1, m9⟩ : ∃ mv : Int, [V.int 1, V.int 4, V.int 100, V.int (10 ^ 9)][(c % 4).toNat]? = some (.int mv) ∧ 1 ≤ mv ∧ mv ≤ 10 ^ 9 := by
    have : c % 4 = 0 ∨ c % 4 = 1 ∨ c % 4 = 2 ∨ c % 4 = 3 := by omega
    rcases this with e | e | e | e <;> rw [e]
    · exact ⟨1, rfl, by decide, by decide⟩
    · exact ⟨4, rfl, by decide, by decide⟩
    · exact ⟨100, rfl, by decide, by decide⟩
    · exact ⟨10 ^ 9, rfl, by decide, by decide⟩
  have b00 := Int.emod_nonneg (c / 4) (show mv ≠ 0 by omega)
  have b01 := Int.emod_lt_of_pos (c / 4) (show 0 < mv by omega)
  have i0 := Int.emod_nonneg (c / 7 % 1000003 * 69621) (show (999983 : Int) ≠ 0 by decide)
  have i1 := Int.emod_lt_of_pos (c / 7 % 1000003 * 69621) (show (0 : Int) < 999983 by decide)
  have e61 : (999983 : Int) ≤ 10 ^ 61 := by decide
  have e62 : (10 : Int) ^ 9 ≤ 10 ^ 61 := by decide
  refine ⟨cdiv (by decide) (by decide), cpow, by decide, by decide, by omega, _, hmv, _, rfl, by omega, cdiv (by decide) (by decide), _, _, rfl, by decide, by decide, _, rfl, cmul (by omega) (by omega) (by decide) (by decide), by omega, ?_⟩
  obtain ⟨bb, hbb⟩ : ∃ bb : Int, 1 + c / 4 % mv = bb := ⟨_, rfl⟩
  rw [hbb]
  have t00 := Int.emod_nonneg (c / 7 % 1000003 * 69621 % 999983 * 1009) (show bb + 1 ≠ 0 by omega)
  have t01 := Int.emod_lt_of_pos (c / 7 % 1000003 * 69621 % 999983 * 1009) (show 0 < bb + 1 by omega)
  obtain ⟨tt, htt⟩ : ∃ tt : Int, c / 7 % 1000003 * 69621 % 999983 * 1009 % (bb + 1) = tt := ⟨_, rfl⟩
  rw [htt] at t00 t01 ⊢
  have gp := Mth.gcd_pos (a := tt) (show bb ≠ 0 by omega)
  have gd := Mth.gcd_div (a := tt) (show bb ≠ 0 by omega)
  have gle : Mth.gcd tt bb ≤ bb := Int.le_of_dvd (by omega) (Mth.gcd_dvd_right tt bb)
  refine ⟨_, _, rfl, t00, by omega, _, rfl, cdiv gp (by omega), _, rfl, cdiv gp (by omega), by decide, fun p hp => ?_⟩
  refine q _ _ _ _ (same_new hp _) (SqT.of upd_same) ⟨Int.ediv_nonneg t00 (by omega), Int.ediv_le_ediv gp (by omega), ?_, ?_, gd⟩
  · exact (Int.le_ediv_iff_mul_le gp).mpr (by omega)
  · exact Int.le_trans (Int.ediv_le_self _ (by omega)) (by omega)
end
def spRuleG (K : PySem.W.Frag) (d : Nat) : Sp := fun vs H Q _ => ∃ (c : Int), vs = [.int c, .int (d : Int)] ∧ 1 ≤ d ∧ ∀ (p : Addr) (H' : Hp) (n : Rl), Same H H' → TolA K H' (.ref p) n → n.ok → n.dp ≤ d → Q (.ref p) H'
def spRuleU (K : PySem.W.Frag) : Sp := fun vs H Q E => ∃ d, d ≤ 4 ∧ spRuleG K d vs H Q E
theorem fnok_union {P : Program} {w : World} {K : PySem.W.Frag} {mg : Str → Option Value} {base : Heap} {f : Addr} {fd : FuncData} {ps : List Str} {spd : Nat → Sp} {L n : Nat} (h : ∀ d, FnOk P w K mg base CX0 (L + d) f fd ps (spd d)) : FnOk P w K mg base CX0 (L + n) f fd ps (fun vs H Q E => ∃ d, d ≤ n ∧ spd d vs H Q E) := by
  refine ⟨fun vs H Q E ⟨d, hd, s⟩ => (h d).len _ _ _ _ s, fun A st s H bd us vs Q E hr I hb r ⟨d, hd, sp⟩ => ?_⟩
  exact (h d).run A st s H bd us vs Q E (hr.mono (by omega)) I hb r sp
section
variable {P : Program} {w : World} {K : PySem.W.Frag} {mg : Str → Option Value} {base : Heap} {f : Addr} {fd : FuncData} {cs : RC} {cN : Addr}
theorem step_rule {d : Nat} (F : Fun K "_law_rule" "_law_rule" s_law_rule f fd) (M : Mg mg) (C_law_mix : Cal P w K mg base CX0 "_law_mix" 1 ["_law_cell", "_law_by"] spMix) (C_law_part : Cal P w K mg base CX0 "_law_part" 2 ["_law_cell"] (spPart K))
    (C_law_rule : Cal P w K mg base CX0 "_law_rule" (3 + d) ["_law_cell", "_law_deep"] (spRuleG K d)) : FnOk P w K mg base CX0 (3 + d + 1) f fd ["_law_cell", "_law_deep"] (spRuleG K (d + 1)) := by
  refine F.ok sc_law_rule (fun vs H Q E h => ?_) (fun cdv A outer s H vs Q E hr h => ?_)
  · obtain ⟨c, rfl, _⟩ := h
    rfl
  obtain ⟨c, rfl, d1, q⟩ := h
  refine ⟨_, (@pss_cons _ _ _ _ _ (@ps_set _ _ 2 _ _ _ _ sc_law_rule.nd rfl l_law_rule_2 (@pe_op _ _ _ _ _ _ _ _ (@op_mod _) (@pe_var _ 0 _ _ rfl v_law_rule_0 dn__law_cell dc__law_cell) (@pe_int _ _ _ _)) (swap1 rfl) (.inl rfl)) (@pss_cons _ _ _ _ _ (@ps_set _ _ 3 _ _ _ _ sc_law_rule.nd rfl l_law_rule_3 (@pe_op _ _ _ _ _ _ _ _ (@op_fdivB _) (@pe_var _ 0 _ _ rfl v_law_rule_0 dn__law_cell dc__law_cell) (@pe_int _ _ _ _)) (swap1 rfl) (.inl rfl)) (@pss_cons _ _ _ _ _ (@ps_if _ _ _ _ _ _ _ _ (@PW.pt _ _ _ (@pw_and _ _ _ _ _ _ _ (@pt_cmpR _ _ _ _ _ _ _ _ (@op_gt _) (@pe_var _ 1 _ _ rfl v_law_rule_1 dn__law_deep dc__law_deep) (@pe_int _ _ _ _) (nomark _)) (@pw_and1 _ _ _ _ (@pt_cmpR _ _ _ _ _ _ _ _ (@op_gt _) (@pe_var _ 2 _ _ rfl v_law_rule_2 dn__law_way dc__law_way) (@pe_int _ _ _ _) (nomark _))))) (@pss_cons _ _ _ _ _ (@ps_set _ _ 4 _ _ _ _ sc_law_rule.nd rfl l_law_rule_4 (@pe_callC _ _ _ _ _ _ _ _ _ _ _ C_law_rule hr g_law_rule__law_rule (@pa_cons _ _ _ _ _ (@pe_callC _ _ _ _ _ _ _ _ _ _ _ C_law_mix hr g_law_rule__law_mix (@pa_cons _ _ _ _ _ (@pe_var _ 3 _ _ rfl v_law_rule_3 dn__law_rest dc__law_rest) (@pa_cons _ _ _ _ _ (@pe_int _ _ _ _) (@pa_nil _) (star1 rfl)) (star1 rfl)) (by omega) dn__law_mix (star1 rfl) (nost1 rfl nost0)) (@pa_cons _ _ _ _ _ (@pe_op _ _ _ _ _ _ _ _ (@op_sub _) (@pe_var _ 1 _ _ rfl v_law_rule_1 dn__law_deep dc__law_deep) (@pe_int _ _ _ _)) (@pa_nil _) (star1 rfl)) (star1 rfl)) (by omega) dn__law_rule (star1 rfl) (nost1 rfl nost0)) (swap1 rfl) (.inl rfl)) (@pss_cons _ _ _ _ _ (@ps_set _ _ 5 _ _ _ _ sc_law_rule.nd rfl l_law_rule_5 (@pe_callC _ _ _ _ _ _ _ _ _ _ _ C_law_rule hr g_law_rule__law_rule (@pa_cons _ _ _ _ _ (@pe_callC _ _ _ _ _ _ _ _ _ _ _ C_law_mix hr g_law_rule__law_mix (@pa_cons _ _ _ _ _ (@pe_var _ 3 _ _ rfl v_law_rule_3 dn__law_rest dc__law_rest) (@pa_cons _ _ _ _ _ (@pe_int _ _ _ _) (@pa_nil _) (star1 rfl)) (star1 rfl)) (by omega) dn__law_mix (star1 rfl) (nost1 rfl nost0)) (@pa_cons _ _ _ _ _ (@pe_op _ _ _ _ _ _ _ _ (@op_sub _) (@pe_var _ 1 _ _ rfl v_law_rule_1 dn__law_deep dc__law_deep) (@pe_int _ _ _ _)) (@pa_nil _) (star1 rfl)) (star1 rfl)) (by omega) dn__law_rule (star1 rfl) (nost1 rfl nost0)) (swap1 rfl) (.inl rfl)) (@pss_one _ _ _ (@ps_ret _ _ _ _ (@pe_tup _ _ _ _ _ (@pa_cons _ _ _ _ _ (@pe_menu _ _ _ _ _ _ _ (@pa_cons _ _ _ _ _ (@pe_str _ _ _ _) (@pa_cons _ _ _ _ _ (@pe_str _ _ _ _) (@pa_nil _) (star1 rfl)) (star1 rfl)) (@pe_op _ _ _ _ _ _ _ _ (@op_sub _) (@pe_var _ 2 _ _ rfl v_law_rule_2 dn__law_way dc__law_way) (@pe_int _ _ _ _)) (fun _ _ => rfl)) (@pa_cons _ _ _ _ _ (@pe_var _ 4 _ _ rfl v_law_rule_4 dn__law_one dc__law_one) (@pa_cons _ _ _ _ _ (@pe_var _ 5 _ _ rfl v_law_rule_5 dn__law_other dc__law_other) (@pa_nil _) (star1 rfl)) (star1 rfl)) (star1 rfl))))))) (@pss_nil _)) (@pss_cons _ _ _ _ _ (@ps_if _ _ _ _ _ _ _ _ (@pt_cmpR _ _ _ _ _ _ _ _ (@op_eq _) (@pe_op _ _ _ _ _ _ _ _ (@op_mod _) (@pe_var _ 2 _ _ rfl v_law_rule_2 dn__law_way dc__law_way) (@pe_int _ _ _ _)) (@pe_int _ _ _ _) (nomark _)) (@pss_one _ _ _ (@ps_ret _ _ _ _ (@pe_tup _ _ _ _ _ (@pa_cons _ _ _ _ _ (@pe_str _ _ _ _) (@pa_nil _) (star1 rfl))))) (@pss_nil _)) (@pss_cons _ _ _ _ _ (@ps_if _ _ _ _ _ _ _ _ (@pt_cmpR _ _ _ _ _ _ _ _ (@op_eq _) (@pe_op _ _ _ _ _ _ _ _ (@op_mod _) (@pe_var _ 2 _ _ rfl v_law_rule_2 dn__law_way dc__law_way) (@pe_int _ _ _ _)) (@pe_int _ _ _ _) (nomark _)) (@pss_one _ _ _ (@ps_ret _ _ _ _ (@pe_tup _ _ _ _ _ (@pa_cons _ _ _ _ _ (@pe_str _ _ _ _) (@pa_cons _ _ _ _ _ (@pe_op _ _ _ _ _ _ _ _ (@op_add _) (@pe_int _ _ _ _) (@pe_op _ _ _ _ _ _ _ _ (@op_mod _) (@pe_var _ 3 _ _ rfl v_law_rule_3 dn__law_rest dc__law_rest) (@pe_int _ _ _ _))) (@pa_nil _) (star1 rfl)) (star1 rfl))))) (@pss_nil _)) (@pss_one _ _ _ (@ps_ret _ _ _ _ (@pe_tup _ _ _ _ _ (@pa_cons _ _ _ _ _ (@pe_str _ _ _ _) (@pa_cons _ _ _ _ _ (@pe_callC _ _ _ _ _ _ _ _ _ _ _ C_law_part hr g_law_rule__law_part (@pa_cons _ _ _ _ _ (@pe_var _ 3 _ _ rfl v_law_rule_3 dn__law_rest dc__law_rest) (@pa_nil _) (star1 rfl)) (by omega) dn__law_part (star1 rfl) nost0) (@pa_nil _) (star1 rfl)) (star1 rfl)))))))))), ?_⟩
  simp only [slots, Option.getD_some, Option.getD_none, tSeq, tAsg, gName, tOp, tC, tVar, tCons, tNil, tCall, rI, rI0, tRet, tIfS, tTest, tAnd, tMenu, tTup, tNext, rEq, Kd_non, Kd_bl, Kd_int, Kd_str, sc_non_non, sc_non_int, sc_int_non, sc_non_bl, sc_bl_non, sc_non_str, sc_str_non, sc_int_int, sc_bl_bl, sc_str_str, sc_int_str, sc_str_int, sc_bl_str, sc_str_bl, decide_true, decide_false, L2.start, cxK, Int.reduceToNat, List.map_cons, List.map_nil, List.length_cons, List.length_nil, Nat.reduceAdd, Nat.reduceSub, Nat.zero_add, List.replicate_succ, List.replicate_zero, List.cons_append, List.nil_append, List.append_nil, List.getElem?_cons_zero, List.getElem?_cons_succ, List.set_cons_zero, List.set_cons_succ, Option.some.injEq, V.int.injEq, V.bl.injEq, V.ref.injEq, V.str.injEq, V.ty.injEq, List.cons.injEq, exists_eq_left', exists_eq_left, exists_eq_right, exists_and_left, exists_and_right, and_true, true_and, and_assoc, exists_const, decide_eq_true_eq, Bool.not_eq_true', Bool.not_true, Bool.not_false, Bool.not_not, decide_eq_false_iff_not, ite_not, Bool.false_eq_true, if_true, if_false, reduceCtorEq, and_false, false_and, exists_false, or_false, false_or, ↓reduceIte, eq_self, reduceIte]
  obtain ⟨w5, hw5, w0, w4⟩ : ∃ w5 : Int, c % 5 = w5 ∧ 0 ≤ w5 ∧ w5 ≤ 4 := ⟨_, rfl, by omega, by omega⟩
  obtain ⟨rs, hrs⟩ : ∃ rs : Int, c / 5 = rs := ⟨_, rfl⟩
  refine ⟨by decide, cdiv (by decide) (by decide), ?_⟩
  rw [hw5, hrs]
  have ed : ((d + 1 : Nat) : Int) - 1 = (d : Int) := by omega
  by_cases hd : (1 : Int) < ((d + 1 : Nat) : Int)
  · rw [if_pos hd]
    by_cases hw : (2 : Int) < w5
    · rw [if_pos hw]
      refine ⟨_, _, rfl, by decide, by decide, ?_⟩
      rw [ed]
      refine ⟨_, rfl, by omega, fun p1 H1 x S1 R1 o1 dp1 => ?_⟩
      refine ⟨_, _, rfl, by decide, by decide, _, rfl, by omega, fun p2 H2 y S2 R2 o2 dp2 => ?_⟩
      have R1' := R1.same S2
      have : w5 = 3 ∨ w5 = 4 := by omega
      rcases this with e | e <;> subst e
      · exact ⟨by decide, by decide, _, rfl, by decide, fun t ht => q _ _ (.al x y) (S1.trans (S2.trans (same_new ht _))) (tol_al (SqT.of upd_same) (R1'.same (same_new ht _)) (R2.same (same_new ht _))) ⟨o1, o2⟩ (by show max x.dp y.dp + 1 ≤ d + 1; omega)⟩
      · exact ⟨by decide, by decide, _, rfl, by decide, fun t ht => q _ _ (.so x y) (S1.trans (S2.trans (same_new ht _))) (tol_so (SqT.of upd_same) (R1'.same (same_new ht _)) (R2.same (same_new ht _))) ⟨o1, o2⟩ (by show max x.dp y.dp + 1 ≤ d + 1; omega)⟩
    · rw [if_neg hw]
      refine ⟨by decide, ?_⟩
      by_cases h0 : w5 % 3 = 0
      · rw [if_pos h0]
        exact ⟨by decide, fun p hp => q _ _ .grown (same_new hp _) (tol_grown (SqT.of upd_same)) trivial (by show 1 ≤ d + 1; omega)⟩
      · rw [if_neg h0]
        by_cases h1 : w5 % 3 = 1
        · rw [if_pos h1]
          exact ⟨by decide, by decide, by decide, fun p hp => q _ _ (.change (1 + rs % 4)) (same_new hp _) (tol_change (SqT.of upd_same)) ⟨by omega, by omega⟩ (by show 1 ≤ d + 1; omega)⟩
        · rw [if_neg h1]
          refine ⟨by decide, _, rfl, fun p1 H1 t b S1 T1 ok1 => ⟨by decide, fun p hp => q _ _ (.share t b) (S1.trans (same_new hp _)) (tol_share (SqT.of upd_same) (Same.tup (same_new hp _) T1)) ok1 (by show 1 ≤ d + 1; omega)⟩⟩
  · rw [if_neg hd]
    refine ⟨by decide, ?_⟩
    by_cases h0 : w5 % 3 = 0
    · rw [if_pos h0]
      exact ⟨by decide, fun p hp => q _ _ .grown (same_new hp _) (tol_grown (SqT.of upd_same)) trivial (by show 1 ≤ d + 1; omega)⟩
    · rw [if_neg h0]
      by_cases h1 : w5 % 3 = 1
      · rw [if_pos h1]
        exact ⟨by decide, by decide, by decide, fun p hp => q _ _ (.change (1 + rs % 4)) (same_new hp _) (tol_change (SqT.of upd_same)) ⟨by omega, by omega⟩ (by show 1 ≤ d + 1; omega)⟩
      · rw [if_neg h1]
        refine ⟨by decide, _, rfl, fun p1 H1 t b S1 T1 ok1 => ⟨by decide, fun p hp => q _ _ (.share t b) (S1.trans (same_new hp _)) (tol_share (SqT.of upd_same) (Same.tup (same_new hp _) T1)) ok1 (by show 1 ≤ d + 1; omega)⟩⟩
theorem ok_law_rule (F : Fun K "_law_rule" "_law_rule" s_law_rule f fd) (M : Mg mg) (C_law_mix : Cal P w K mg base CX0 "_law_mix" 1 ["_law_cell", "_law_by"] spMix) (C_law_part : Cal P w K mg base CX0 "_law_part" 2 ["_law_cell"] (spPart K)) (b : Binds K fd ["_law_cell", "_law_deep"] []) (kp : PySem.W.keepIn K (.ref f) = true) (m : mg "_law_rule" = some (.ref f)) : ∀ d : Nat, FnOk P w K mg base CX0 (3 + d) f fd ["_law_cell", "_law_deep"] (spRuleG K d)
  | 0 => by
    refine F.ok (k := 2) sc_law_rule (fun vs H Q E h => ?_) (fun cdv A outer s H vs Q E hr h => ?_)
    · obtain ⟨c, rfl, _⟩ := h
      rfl
    obtain ⟨c, rfl, d1, _⟩ := h
    omega
  | d + 1 => step_rule F M C_law_mix C_law_part ⟨⟨f, fd, ok_law_rule F M C_law_mix C_law_part b kp m d, b, kp, m⟩⟩
end

theorem rl_flat : ∀ r : Rl, PyData.canLay0 r.data = true ∧ PyData.depth r.data ≤ r.dp + 1
  | .grown => ⟨by decide +kernel, by show max 0 0 + 1 ≤ 1 + 1; decide⟩
  | .change d => by
    have e : PyData.canLay0 (.str "change") = true := by decide +kernel
    refine ⟨?_, by show max 0 (max 0 0) + 1 ≤ 1 + 1; decide⟩
    show (PyData.canLay0 (.str "change") && (true && true)) = true
    rw [e]
    rfl
  | .share t b => by
    have e : PyData.canLay0 (.str "share") = true := by decide +kernel
    refine ⟨?_, by show max 0 (max (max 0 (max 0 0) + 1) 0) + 1 ≤ 1 + 1; decide⟩
    show (PyData.canLay0 (.str "share") && ((true && (true && true)) && true)) = true
    rw [e]
    rfl
  | .al x y => by
    have e : PyData.canLay0 (.str "all") = true := by decide +kernel
    obtain ⟨a1, b1⟩ := rl_flat x
    obtain ⟨a2, b2⟩ := rl_flat y
    refine ⟨?_, by show max 0 (max (PyData.depth x.data) (max (PyData.depth y.data) 0)) + 1 ≤ max x.dp y.dp + 1 + 1; omega⟩
    show (PyData.canLay0 (.str "all") && (PyData.canLay0 x.data && (PyData.canLay0 y.data && true))) = true
    rw [e, a1, a2]
    rfl
  | .so x y => by
    have e : PyData.canLay0 (.str "some") = true := by decide +kernel
    obtain ⟨a1, b1⟩ := rl_flat x
    obtain ⟨a2, b2⟩ := rl_flat y
    refine ⟨?_, by show max 0 (max (PyData.depth x.data) (max (PyData.depth y.data) 0)) + 1 ≤ max x.dp y.dp + 1 + 1; omega⟩
    show (PyData.canLay0 (.str "some") && (PyData.canLay0 x.data && (PyData.canLay0 y.data && true))) = true
    rw [e, a1, a2]
    rfl
theorem flat_data {r : Rl} (h : r.dp ≤ 30) : flatD r.data := ⟨(rl_flat r).1, by have := (rl_flat r).2; omega⟩

def spRows (K : PySem.W.Frag) : Sp := fun vs H Q _ => ∃ (a : Addr) (ns : List Int), vs = [.ref a] ∧ SqL K H a (ns.map V.int) ∧ ns.length ≤ 63 ∧ ∀ (l : Addr) (gs : List Rw) H', H l = none → Same H H' → H' l = some (.lst (rrefs gs)) → 1 ≤ gs.length → gs.length ≤ 24 → (∀ g ∈ gs, RwAt K H' g) → (pfs gs).Nodup → [] ∈ pfs gs → (∀ g ∈ gs, ∃ r : Rl, TolA K H' g.t r ∧ r.ok ∧ r.dp ≤ 4) → Q (.ref l) H'
def spDue (K : PySem.W.Frag) : Sp := fun vs H Q _ => ∃ (l n : Addr) (gs : List Rw) (ns : List Int), vs = [.ref l, .ref n] ∧ SqL K H l (rrefs gs) ∧ (∀ g ∈ gs, RwAt K H g) ∧ [] ∈ pfs gs ∧ SqT K H n (ns.map V.int) ∧ ∀ (j : Nat) (g : Rw) H', Same H H' → gs[j]? = some g → Near (prs gs) ns gs.length (some j) → Q g.t H'
def Met (kvs : List (List Key × V)) (ps : List (List Int)) : Prop := ∀ p : List Int, (valV kvs (p.map Sum.inl)).isSome = true ↔ p ∈ ps
theorem inl_inj {a b : List Int} (h : a.map (Sum.inl : Int → Key) = b.map Sum.inl) : a = b := by
  induction a generalizing b with
  | nil => cases b with
    | nil => rfl
    | cons _ _ => cases h
  | cons x xs ih => cases b with
    | nil => cases h
    | cons y ys =>
      rw [List.map_cons, List.map_cons, List.cons.injEq] at h
      rw [ih h.2, Sum.inl.inj h.1]
theorem Met.put {kvs : List (List Key × V)} {ps : List (List Int)} {p : List Int} {v : V} (h : Met kvs ps) : Met (putK kvs (p.map Sum.inl) v) (ps ++ [p]) := fun q => by
  rw [valV_put]
  by_cases e : q = p
  · subst e
    rw [if_pos rfl]
    exact ⟨fun _ => List.mem_append_right _ (List.mem_singleton.mpr rfl), fun _ => rfl⟩
  · rw [if_neg (fun z => e (inl_inj z)), h q]
    constructor
    · exact fun z => List.mem_append_left _ z
    · intro z
      rcases List.mem_append.mp z with z | z
      · exact z
      · exact absurd (List.mem_singleton.mp z) e
theorem kV_map (p : List Int) : (p.map (Sum.inl : Int → Key)).map kV = p.map V.int := by
  rw [List.map_map]
  rfl
section
variable {P : Program} {w : World} {K : PySem.W.Frag} {mg : Str → Option Value} {base : Heap} {f : Addr} {fd : FuncData} {cs : RC} {cN : Addr}
theorem ok_law_rows (F : Fun K "_law_rows" "_law_rows" s_law_rows f fd) (M : Mg mg) (C_law_cell_at : Cal P w K mg base CX0 "_law_cell_at" 1 ["_law_script", "_law_k"] (spCellAt K)) (C_law_mix : Cal P w K mg base CX0 "_law_mix" 1 ["_law_cell", "_law_by"] spMix) (C_law_number : Cal P w K mg base CX0 "_law_number" 2 ["_law_cell"] (spNumber K)) (C_law_rule : Cal P w K mg base CX0 "_law_rule" 7 ["_law_cell", "_law_deep"] (spRuleU K)) : FnOk P w K mg base CX0 8 f fd ["_law_script"] (spRows K) := by
  refine F.ok sc_law_rows (fun vs H Q E h => ?_) (fun cdv A outer s H vs Q E hr h => ?_)
  · obtain ⟨a, ns, rfl, _⟩ := h
    rfl
  obtain ⟨a, ns, rfl, hS, hl, q⟩ := h
  refine ⟨_, (@pss_cons _ _ _ _ _ (@ps_set _ _ 1 _ _ _ _ sc_law_rows.nd rfl l_law_rows_1 (@pe_lst _ _ _ _ (@pa_nil _)) (swap1 rfl) (.inl rfl)) (@pss_cons _ _ _ _ _ (@ps_set _ _ 2 _ _ _ _ sc_law_rows.nd rfl l_law_rows_2 (@pe_dnewT _ _) (swap1 rfl) (.inl rfl)) (@pss_cons _ _ _ _ _ (@ps_for _ _ _ _ _ _ _ _ PassesOwn.never rfl (@pi_range1 _ _ _ _ _ _ g_law_rows_range M.m_range (@pa_cons _ _ _ _ _ (@pe_callB _ _ _ _ _ _ _ _ _ call_len_seq g_law_rows_len M.m_len b_len (@pa_cons _ _ _ _ _ (@pe_slice _ _ _ _ _ _ _ _ _ _ (@sl_list _) (@pe_var _ 0 _ _ rfl v_law_rows_0 dn__law_script dc__law_script) (@po_some _ _ _ (@pe_int _ _ _ _)) (@po_some _ _ _ (@pe_int _ _ _ _))) (@pa_nil _) (star1 rfl)) nn_len dn_len (star1 rfl) nost0) (@pa_nil _) (star1 rfl)) (star1' rfl)) (@pg_name _ _ 3 _ sc_law_rows.nd rfl l_law_rows_3 (.inl rfl)) (@pss_cons _ _ _ _ _ (@ps_set _ _ 4 _ _ _ _ sc_law_rows.nd rfl l_law_rows_4 (@pe_ix _ _ _ _ _ _ _ (@ix_list _) (@pe_var _ 0 _ _ rfl v_law_rows_0 dn__law_script dc__law_script) (@pe_op _ _ _ _ _ _ _ _ (@op_add _) (@pe_int _ _ _ _) (@pe_var _ 3 _ _ rfl v_law_rows_3 dn__law_k dc__law_k)) (fun _ _ => rfl)) (swap1 rfl) (.inl rfl)) (@pss_cons _ _ _ _ _ (@ps_set _ _ 5 _ _ _ _ sc_law_rows.nd rfl l_law_rows_5 (@pe_slice _ _ _ _ _ _ _ _ _ _ sl_tupH (@pe_callC _ _ _ _ _ _ _ _ _ _ _ C_law_number hr g_law_rows__law_number (@pa_cons _ _ _ _ _ (@pe_op _ _ _ _ _ _ _ _ (@op_fdivB _) (@pe_var _ 4 _ _ rfl v_law_rows_4 dn__law_cell dc__law_cell) (@pe_int _ _ _ _)) (@pa_nil _) (star1 rfl)) (by decide) dn__law_number (star1 rfl) nost0) (@po_none _) (@po_some _ _ _ (@pe_op _ _ _ _ _ _ _ _ (@op_add _) (@pe_int _ _ _ _) (@pe_op _ _ _ _ _ _ _ _ (@op_mod _) (@pe_var _ 4 _ _ rfl v_law_rows_4 dn__law_cell dc__law_cell) (@pe_int _ _ _ _))))) (swap1 rfl) (.inl rfl)) (@pss_one _ _ _ (@ps_if _ _ _ _ _ _ _ _ (pt_cmp (@pc_dnotin _ _ _ _ _ (hu_of hr) (@pe_var _ 5 _ _ rfl v_law_rows_5 dn__law_prefix dc__law_prefix) (@pe_var _ 2 _ _ rfl v_law_rows_2 dn__law_ahead dc__law_ahead)) (by rfl)) (@pss_cons _ _ _ _ _ (@ps_dput _ _ _ _ _ _ _ _ _ (hu_of hr) (@pe_var _ 2 _ _ rfl v_law_rows_2 dn__law_ahead dc__law_ahead) (@pe_var _ 5 _ _ rfl v_law_rows_5 dn__law_prefix dc__law_prefix) (@pe_bl _ _ _ _) (swap1 rfl)) (@pss_one _ _ _ (@ps_expr _ _ _ _ (@pe_bm _ _ _ _ _ _ _ _ _ _ _ _ PySem.F.plainAttrs_list PySem.F.slot_list_append PySem.F.type_list_append mt_append (@pe_var _ 1 _ _ rfl v_law_rows_1 dn__law_rows_here dc__law_rows_here) (@pa_cons _ _ _ _ _ (@pe_tup _ _ _ _ _ (@pa_cons _ _ _ _ _ (@pe_var _ 5 _ _ rfl v_law_rows_5 dn__law_prefix dc__law_prefix) (@pa_cons _ _ _ _ _ (@pe_callC _ _ _ _ _ _ _ _ _ _ _ C_law_rule hr g_law_rows__law_rule (@pa_cons _ _ _ _ _ (@pe_callC _ _ _ _ _ _ _ _ _ _ _ C_law_mix hr g_law_rows__law_mix (@pa_cons _ _ _ _ _ (@pe_var _ 4 _ _ rfl v_law_rows_4 dn__law_cell dc__law_cell) (@pa_cons _ _ _ _ _ (@pe_int _ _ _ _) (@pa_nil _) (star1 rfl)) (star1 rfl)) (by decide) dn__law_mix (star1 rfl) (nost1 rfl nost0)) (@pa_cons _ _ _ _ _ (@pe_op _ _ _ _ _ _ _ _ (@op_add _) (@pe_int _ _ _ _) (@pe_op _ _ _ _ _ _ _ _ (@op_mod _) (@pe_op _ _ _ _ _ _ _ _ (@op_fdivB _) (@pe_var _ 4 _ _ rfl v_law_rows_4 dn__law_cell dc__law_cell) (@pe_int _ _ _ _)) (@pe_int _ _ _ _))) (@pa_nil _) (star1 rfl)) (star1 rfl)) (by decide) dn__law_rule (star1 rfl) (nost1 rfl nost0)) (@pa_nil _) (star1 rfl)) (star1 rfl))) (@pa_nil _) (star1 rfl)) (by rfl) (by rfl) (by rfl) (by rfl) (by rfl)) (swap1 rfl)))) (@pss_nil _))))) (by intro _; rfl)) (@pss_cons _ _ _ _ _ (@ps_set _ _ 6 _ _ _ _ sc_law_rows.nd rfl l_law_rows_6 (@pe_tup _ _ _ _ _ (@pa_cons _ _ _ _ _ (@pe_tup _ _ _ _ _ (@pa_nil _)) (@pa_cons _ _ _ _ _ (@pe_callC _ _ _ _ _ _ _ _ _ _ _ C_law_rule hr g_law_rows__law_rule (@pa_cons _ _ _ _ _ (@pe_callC _ _ _ _ _ _ _ _ _ _ _ C_law_cell_at hr g_law_rows__law_cell_at (@pa_cons _ _ _ _ _ (@pe_var _ 0 _ _ rfl v_law_rows_0 dn__law_script dc__law_script) (@pa_cons _ _ _ _ _ (@pe_int _ _ _ _) (@pa_nil _) (star1 rfl)) (star1 rfl)) (by decide) dn__law_cell_at (star1 rfl) (nost1 rfl nost0)) (@pa_cons _ _ _ _ _ (@pe_int _ _ _ _) (@pa_nil _) (star1 rfl)) (star1 rfl)) (by decide) dn__law_rule (star1 rfl) (nost1 rfl nost0)) (@pa_nil _) (star1 rfl)) (star1 rfl))) (swap1 rfl) (.inl rfl)) (@pss_cons _ _ _ _ _ (@ps_expr _ _ _ _ (@pe_bm _ _ _ _ _ _ _ _ _ _ _ _ PySem.F.plainAttrs_list PySem.F.slot_list_insert PySem.F.type_list_insert mt_insert (@pe_var _ 1 _ _ rfl v_law_rows_1 dn__law_rows_here dc__law_rows_here) (@pa_cons _ _ _ _ _ (@pe_op _ _ _ _ _ _ _ _ (@op_mod _) (@pe_callC _ _ _ _ _ _ _ _ _ _ _ C_law_cell_at hr g_law_rows__law_cell_at (@pa_cons _ _ _ _ _ (@pe_var _ 0 _ _ rfl v_law_rows_0 dn__law_script dc__law_script) (@pa_cons _ _ _ _ _ (@pe_int _ _ _ _) (@pa_nil _) (star1 rfl)) (star1 rfl)) (by decide) dn__law_cell_at (star1 rfl) (nost1 rfl nost0)) (@pe_op _ _ _ _ _ _ _ _ (@op_add _) (@pe_callB _ _ _ _ _ _ _ _ _ call_len_seq g_law_rows_len M.m_len b_len (@pa_cons _ _ _ _ _ (@pe_var _ 1 _ _ rfl v_law_rows_1 dn__law_rows_here dc__law_rows_here) (@pa_nil _) (star1 rfl)) nn_len dn_len (star1 rfl) nost0) (@pe_int _ _ _ _))) (@pa_cons _ _ _ _ _ (@pe_var _ 6 _ _ rfl v_law_rows_6 dn__law_for_all dc__law_for_all) (@pa_nil _) (star1 rfl)) (star1 rfl)) (by rfl) (by rfl) (by rfl) (by rfl) (by rfl)) (swap1 rfl)) (@pss_one _ _ _ (@ps_ret _ _ _ _ (@pe_var _ 1 _ _ rfl v_law_rows_1 dn__law_rows_here dc__law_rows_here)))))))), ?_⟩
  simp only [tDNotIn, sDPut, tDNewT, rInsert, slots, Option.getD_some, Option.getD_none, tSeq, tAsg, gName, tOp, tC, tVar, tCB, tCons, tNil, tCall, rI, rI0, tRet, tIfS, tB, tDrop, tTup, tLst, tNext, tSl, tPart, tNoPart, tBM, rAppend, rIxL, rSlL, Kd_non, Kd_bl, Kd_int, Kd_str, decide_true, decide_false, tFor_eq, iRng1, L2.start, cxK, Int.reduceToNat, List.map_cons, List.map_nil, List.length_cons, List.length_nil, Nat.reduceAdd, Nat.reduceSub, Nat.zero_add, List.replicate_succ, List.replicate_zero, List.cons_append, List.nil_append, List.append_nil, List.getElem?_cons_zero, List.getElem?_cons_succ, List.set_cons_zero, List.set_cons_succ, Option.some.injEq, V.int.injEq, V.bl.injEq, V.ref.injEq, V.str.injEq, V.ty.injEq, List.cons.injEq, exists_eq_left', exists_eq_left, exists_eq_right, exists_and_left, exists_and_right, and_true, true_and, and_assoc, exists_const, decide_eq_true_eq, Bool.not_eq_true', Bool.not_true, Bool.not_false, Bool.not_not, decide_eq_false_iff_not, ite_not, Bool.false_eq_true, if_true, if_false, reduceCtorEq, and_false, false_and, exists_false, or_false, false_or, ↓reduceIte, eq_self, reduceIte]
  refine ⟨by decide, fun l hl => ?_⟩
  obtain ⟨H1, g1, S1, L1⟩ : ∃ H1, H1 = upd H l (.lst []) ∧ Same H H1 ∧ H1 l = some (.lst (rrefs [])) := ⟨_, rfl, same_new hl _, upd_same⟩
  rw [← g1]
  clear g1
  intro dd hdd
  obtain ⟨H2, g2, S2, D2⟩ : ∃ H2, H2 = upd H1 dd (.dT []) ∧ Same H1 H2 ∧ H2 dd = some (.dT []) := ⟨_, rfl, same_new hdd _, upd_same⟩
  rw [← g2]
  clear g2
  have hdd0 : H dd = none := by
    cases h0 : H dd with
    | none => rfl
    | some u => rw [S1 _ _ h0] at hdd; cases hdd
  have S02 := S1.trans S2
  refine ⟨_, S02.seq hS, fun sl hsl => ?_⟩
  have lenm : (cutV (ns.map V.int) (some 3) (some 26)).length = min 26 ns.length - min 3 ns.length := by
    unfold cutV
    rw [show (some (3 : Int)) = some ((3 : Nat) : Int) from rfl, show (some (26 : Int)) = some ((26 : Nat) : Int) from rfl, HT.sIx_nat, HT.sIx_nat, List.length_take, List.length_drop, List.length_map]
    omega
  obtain ⟨cut, hcut⟩ : ∃ cut, cutV (ns.map V.int) (some 3) (some 26) = cut := ⟨_, rfl⟩
  rw [hcut] at lenm ⊢
  obtain ⟨H3, g3, S3, L3⟩ : ∃ H3, H3 = upd H2 sl (.lst cut) ∧ Same H2 H3 ∧ SqL K H3 sl cut := ⟨_, rfl, same_new hsl _, SqL.of upd_same⟩
  rw [← g3]
  clear g3
  refine ⟨_, .inl L3, by omega, by omega, ?_⟩
  rw [Int.toNat_natCast]
  have S03 := S02.trans S3
  obtain ⟨Pv, hP⟩ : ∃ Pv : Nat → St → Hp → Prop, Pv = fun i σ H' => ∃ gs kvs o3 o4 o5 o6, σ = [some (V.ref a), some (.ref l), some (.ref dd), o3, o4, o5, o6] ∧ H' l = some (.lst (rrefs gs)) ∧ H' dd = some (.dT kvs) ∧ Met kvs (pfs gs) ∧ kvs.length ≤ i ∧ gs.length ≤ i ∧ (∀ g ∈ gs, RwAt K H' g ∧ g.pf ≠ [] ∧ ∃ r : Rl, TolA K H' g.t r ∧ r.ok ∧ r.dp ≤ 4) ∧ (pfs gs).Nodup ∧ Same H H' := ⟨_, rfl⟩
  refine forW_range Pv ?_ ?_ ?_
  · rw [hP]
    exact ⟨[], [], _, _, _, _, rfl, S3 _ _ (S2 _ _ L1), S3 _ _ D2, (fun p => ⟨fun h => absurd (show (none : Option V).isSome = true from h) (by decide), fun h => by cases h⟩), Nat.le_refl _, Nat.le_refl _, (fun _ h => by cases h), List.nodup_nil, S03⟩
  · intro i σ H' hi h
    rw [hP] at h
    obtain ⟨gs, kvs, o3, o4, o5, o6, rfl, Ll, Dd, met, kl, gl, all, nd, S⟩ := h
    have at3 : atI (ns.map V.int) (3 + (0 + (i : Int))) = some (.int (ns.getD (3 + (0 + (i : Int))).toNat 0)) := atI_map (by omega) (by omega)
    simp only [tDNotIn, sDPut, tDNewT, rInsert, slots, Option.getD_some, Option.getD_none, tSeq, tAsg, gName, tOp, tC, tVar, tCB, tCons, tNil, tCall, rI, rI0, tRet, tIfS, tB, tDrop, tTup, tLst, tNext, tSl, tPart, tNoPart, tBM, rAppend, rIxL, rSlL, Kd_non, Kd_bl, Kd_int, Kd_str, decide_true, decide_false, tFor_eq, iRng1, L2.start, cxK, Int.reduceToNat, List.map_cons, List.map_nil, List.length_cons, List.length_nil, Nat.reduceAdd, Nat.reduceSub, Nat.zero_add, List.replicate_succ, List.replicate_zero, List.cons_append, List.nil_append, List.append_nil, List.getElem?_cons_zero, List.getElem?_cons_succ, List.set_cons_zero, List.set_cons_succ, Option.some.injEq, V.int.injEq, V.bl.injEq, V.ref.injEq, V.str.injEq, V.ty.injEq, List.cons.injEq, exists_eq_left', exists_eq_left, exists_eq_right, exists_and_left, exists_and_right, and_true, true_and, and_assoc, exists_const, decide_eq_true_eq, Bool.not_eq_true', Bool.not_true, Bool.not_false, Bool.not_not, decide_eq_false_iff_not, ite_not, Bool.false_eq_true, if_true, if_false, reduceCtorEq, and_false, false_and, exists_false, or_false, false_or, ↓reduceIte, eq_self, reduceIte]
    refine ⟨_, S.seq hS, _, at3, ?_⟩
    obtain ⟨c, hc⟩ : ∃ c : Int, ns.getD (3 + (0 + (i : Int))).toNat 0 = c := ⟨_, rfl⟩
    rw [hc]
    obtain ⟨m, hm, m1, m4⟩ : ∃ m : Nat, 1 + c % 4 = (m : Int) ∧ 1 ≤ m ∧ m ≤ 4 := ⟨(1 + c % 4).toNat, by omega, by omega, by omega⟩
    refine ⟨_, rfl, cdiv (by decide) (by decide), _, rfl, fun r nv H4 S4 Tr n1 n4 ins => ⟨_, rfl, by decide, r, _, rfl, Tr, fun p5 H5 S5 T5 => ?_⟩⟩
    rw [hm, cut_to, ← List.map_take] at T5
    obtain ⟨pf, hpf⟩ : ∃ pf, nv.take m = pf := ⟨_, rfl⟩
    have pl : pf.length = min m nv.length := by rw [← hpf, List.length_take]
    have pin : ∀ x ∈ pf, 1 ≤ x ∧ x ≤ 99 := fun x hx => ins x (by rw [← hpf] at hx; exact List.mem_of_mem_take hx)
    rw [hpf] at T5
    have S45 := S4.trans S5
    have Dd5 := S45 _ _ Dd
    have Ll5 := S45 _ _ Ll
    have eb : H5 p5 = some (.tup ((pf.map (Sum.inl : Int → Key)).map kV)) := by rw [kV_map]; exact T5
    refine ⟨_, DGet.t Dd5 eb, ?_⟩
    by_cases hin : pf ∈ pfs gs
    · rw [if_neg (by rw [(met pf).mpr hin]; decide), hP]
      exact ⟨gs, kvs, _, _, _, _, rfl, Ll5, Dd5, met, by omega, by omega, (fun g hg => by
        obtain ⟨a1, a2, r, a3, a4, a5⟩ := all g hg
        exact ⟨a1.same S45, a2, r, a3.same S45, a4, a5⟩), nd, S.trans S45⟩
    · have hno : valV kvs (pf.map Sum.inl) = none := by
        cases hv : valV kvs (pf.map Sum.inl) with
        | none => rfl
        | some u => exact absurd ((met pf).mp (by rw [hv]; rfl)) hin
      rw [if_pos (by rw [hno]; rfl)]
      refine ⟨_, DPut.t Dd5 eb (Nat.lt_of_le_of_lt (m := 63) (by omega) (by decide)), ?_⟩
      obtain ⟨H6, g6, K6, D6, S06, ne6⟩ : ∃ H6, H6 = upd H5 dd (.dT (putK kvs (pf.map Sum.inl) (.bl true))) ∧ Keeps H5 H6 ∧ H6 dd = some (.dT (putK kvs (pf.map Sum.inl) (.bl true))) ∧ Same H H6 ∧ H6 l = some (.lst (rrefs gs)) := by
        refine ⟨_, rfl, keeps_dT Dd5, upd_same, same_upd (S.trans S45) hdd0 _, ?_⟩
        rw [upd_ne (fun e => by rw [e, Dd5] at Ll5; cases Ll5)]
        exact Ll5
      rw [← g6]
      clear g6
      obtain ⟨d, hd, d1, d3⟩ : ∃ d : Nat, 1 + c / 4 % 3 = (d : Int) ∧ 1 ≤ d ∧ d ≤ 3 := ⟨(1 + c / 4 % 3).toNat, by omega, by omega, by omega⟩
      refine ⟨.inl ⟨rfl, _, SqL.of ne6⟩, _, _, rfl, by decide, by decide, _, rfl, cdiv (by decide) (by decide), by decide, ?_⟩
      rw [hd]
      refine ⟨d, by omega, _, rfl, d1, fun pt H7 r7 S7 R7 ok7 dp7 => ⟨by decide, fun pr hpr => ?_⟩⟩
      obtain ⟨H8, g8, S8, T8⟩ := fresh_tup (K := K) hpr [V.ref p5, V.ref pt]
      rw [← g8]
      clear g8
      have S78 := S7.trans S8
      have Ll8 := S78 _ _ ne6
      refine ⟨_, Ll8, Nat.lt_of_le_of_lt (m := 63) (by rw [rrefs_len]; omega) (by decide), ?_⟩
      have K59 : Keeps H5 (upd H8 l (.lst (rrefs gs ++ [V.ref pr]))) := K6.trans ((Keeps.of S78).trans (keeps_lst Ll8))
      have K89 : Keeps H8 (upd H8 l (.lst (rrefs gs ++ [V.ref pr]))) := keeps_lst Ll8
      have D9 : upd H8 l (.lst (rrefs gs ++ [V.ref pr])) dd = some (.dT (putK kvs (pf.map Sum.inl) (.bl true))) := by
        rw [upd_ne (fun e => by rw [← e, S78 _ _ D6] at Ll8; cases Ll8)]
        exact S78 _ _ D6
      have er : rrefs gs ++ [V.ref pr] = rrefs (gs ++ [⟨pr, p5, pf, .ref pt⟩]) := by unfold rrefs; rw [List.map_append]; rfl
      have ep : pfs (gs ++ [⟨pr, p5, pf, .ref pt⟩]) = pfs gs ++ [pf] := by unfold pfs; rw [List.map_append]; rfl
      rw [hP]
      refine ⟨gs ++ [⟨pr, p5, pf, .ref pt⟩], _, _, _, _, _, rfl, by rw [upd_same, er], D9, by rw [ep]; exact met.put, ?_, by rw [List.length_append]; show _ + 1 ≤ i + 1; omega, ?_, ?_, same_upd (S06.trans S78) hl _⟩
      · rw [putK_new _ hno, List.length_append]
        show _ + 1 ≤ i + 1
        omega
      · intro g hg
        rcases List.mem_append.mp hg with hg | hg
        · obtain ⟨a1, a2, r, a3, a4, a5⟩ := all g hg
          exact ⟨(a1.same S45).keeps K59, a2, r, K59.tol (a3.same S45), a4, a5⟩
        · rw [List.mem_singleton.mp hg]
          exact ⟨⟨K89.tup T8, K59.tup (SqT.of T5), by show pf.length ≤ 4; omega, pin⟩, (fun z => by have z' : pf = [] := z; rw [z'] at pl; simp at pl; omega), r7, K89.tol (R7.same S8), ok7, by omega⟩
      · rw [ep]
        exact List.nodup_append.mpr ⟨nd, List.nodup_cons.mpr ⟨(fun h => by cases h), List.nodup_nil⟩, fun x hx y hy e => hin (by rw [List.mem_singleton.mp hy] at e; rw [← e]; exact hx)⟩
  · intro σ H' h
    rw [hP] at h
    obtain ⟨gs, kvs, o3, o4, o5, o6, rfl, Ll, Dd, met, kl, gl, all, nd, S⟩ := h
    simp only [tDNotIn, sDPut, tDNewT, rInsert, slots, Option.getD_some, Option.getD_none, tSeq, tAsg, gName, tOp, tC, tVar, tCB, tCons, tNil, tCall, rI, rI0, tRet, tIfS, tB, tDrop, tTup, tLst, tNext, tSl, tPart, tNoPart, tBM, rAppend, rIxL, rSlL, Kd_non, Kd_bl, Kd_int, Kd_str, decide_true, decide_false, tFor_eq, iRng1, L2.start, cxK, Int.reduceToNat, List.map_cons, List.map_nil, List.length_cons, List.length_nil, Nat.reduceAdd, Nat.reduceSub, Nat.zero_add, List.replicate_succ, List.replicate_zero, List.cons_append, List.nil_append, List.append_nil, List.getElem?_cons_zero, List.getElem?_cons_succ, List.set_cons_zero, List.set_cons_succ, Option.some.injEq, V.int.injEq, V.bl.injEq, V.ref.injEq, V.str.injEq, V.ty.injEq, List.cons.injEq, exists_eq_left', exists_eq_left, exists_eq_right, exists_and_left, exists_and_right, and_true, true_and, and_assoc, exists_const, decide_eq_true_eq, Bool.not_eq_true', Bool.not_true, Bool.not_false, Bool.not_not, decide_eq_false_iff_not, ite_not, Bool.false_eq_true, if_true, if_false, reduceCtorEq, and_false, false_and, exists_false, or_false, false_or, ↓reduceIte, eq_self, reduceIte]
    have gl' : gs.length ≤ 23 := by omega
    refine ⟨by decide, fun pe hpe => ?_⟩
    obtain ⟨H4, g4, S4, T4⟩ := fresh_tup (K := K) hpe []
    rw [← g4]
    clear g4
    refine spCellAt_of ((S.trans S4).seq hS) (by decide) ⟨2, by decide, _, rfl, by decide, fun pt H5 r5 S5 R5 ok5 dp5 => ⟨by decide, fun pr hpr => ?_⟩⟩
    obtain ⟨H6, g6, S6, T6⟩ := fresh_tup (K := K) hpr [V.ref pe, V.ref pt]
    rw [← g6]
    clear g6
    have S46 := S4.trans (S5.trans S6)
    have Ll6 := S46 _ _ Ll
    refine ⟨.inl ⟨rfl, _, SqL.of Ll6⟩, spCellAt_of ((S.trans S46).seq hS) (by decide) ⟨_, .inl (SqL.of Ll6), _, rfl, by omega, ?_⟩⟩
    have r0 := Int.emod_nonneg (cellAt ns 1) (show ((rrefs gs).length : Int) + 1 ≠ 0 by omega)
    have r1 := Int.emod_lt_of_pos (cellAt ns 1) (show 0 < ((rrefs gs).length : Int) + 1 by omega)
    obtain ⟨k, hk⟩ : ∃ k : Nat, cellAt ns 1 % (((rrefs gs).length : Int) + 1) = k := ⟨(cellAt ns 1 % (((rrefs gs).length : Int) + 1)).toNat, by omega⟩
    have kle : k ≤ (rrefs gs).length := by omega
    refine ⟨_, k, hk, Ll6, kle, Nat.lt_of_le_of_lt (m := 63) (by rw [rrefs_len]; omega) (by decide), ?_⟩
    have KK : Keeps H6 (upd H6 l (.lst (List.take k (rrefs gs) ++ V.ref pr :: List.drop k (rrefs gs)))) := keeps_lst Ll6
    have er : List.take k (rrefs gs) ++ V.ref pr :: List.drop k (rrefs gs) = rrefs (gs.take k ++ ⟨pr, pe, [], .ref pt⟩ :: gs.drop k) := by
      unfold rrefs
      rw [List.map_append, List.map_cons, List.map_take, List.map_drop]
    have pm : (gs.take k ++ (⟨pr, pe, [], .ref pt⟩ : Rw) :: gs.drop k).Perm (⟨pr, pe, [], .ref pt⟩ :: gs) := by
      have := List.perm_middle (a := (⟨pr, pe, [], .ref pt⟩ : Rw)) (l₁ := gs.take k) (l₂ := gs.drop k)
      rwa [List.take_append_drop] at this
    have each : ∀ g ∈ gs.take k ++ (⟨pr, pe, [], .ref pt⟩ : Rw) :: gs.drop k, RwAt K (upd H6 l (.lst (List.take k (rrefs gs) ++ V.ref pr :: List.drop k (rrefs gs)))) g ∧ ∃ r : Rl, TolA K (upd H6 l (.lst (List.take k (rrefs gs) ++ V.ref pr :: List.drop k (rrefs gs)))) g.t r ∧ r.ok ∧ r.dp ≤ 4 := fun g hg => by
      rcases List.mem_cons.mp (pm.mem_iff.mp hg) with rfl | hg
      · exact ⟨⟨KK.tup T6, KK.tup (Same.tup (S5.trans S6) T4), Nat.zero_le 4, fun _ h => by cases h⟩, r5, KK.tol (R5.same S6), ok5, by omega⟩
      · obtain ⟨a1, a2, r, a3, a4, a5⟩ := all g hg
        exact ⟨(a1.same S46).keeps KK, r, KK.tol (a3.same S46), a4, a5⟩
    have pp : (pfs (gs.take k ++ (⟨pr, pe, [], .ref pt⟩ : Rw) :: gs.drop k)).Perm ([] :: pfs gs) := pm.map Rw.pf
    have ll := pm.length_eq
    rw [List.length_cons] at ll
    refine q l (gs.take k ++ ⟨pr, pe, [], .ref pt⟩ :: gs.drop k) _ hl (same_upd (S.trans S46) hl _) (by rw [upd_same, er]) (by omega) (by omega) (fun g hg => (each g hg).1) (pp.nodup_iff.mpr (List.nodup_cons.mpr ⟨fun h => ?_, nd⟩)) (pp.mem_iff.mpr (List.mem_cons_self ..)) (fun g hg => (each g hg).2)
    obtain ⟨g, hg, e⟩ := List.mem_map.mp h
    exact (all g hg).2.1 e
theorem ok_law_due (F : Fun K "_law_due" "_law_due" s_law_due f fd) (M : Mg mg) : FnOk P w K mg base CX0 1 f fd ["_law_rows_here", "_law_number_here"] (spDue K) := by
  refine F.ok sc_law_due (fun vs H Q E h => ?_) (fun cdv A outer s H vs Q E hr h => ?_)
  · obtain ⟨l, n, gs, ns, rfl, _⟩ := h
    rfl
  obtain ⟨l, n, gs, ns, rfl, L, all, he, TN, q⟩ := h
  refine ⟨_, (@pss_cons _ _ _ _ _ (@ps_set _ _ 2 _ _ _ _ sc_law_due.nd rfl l_law_due_2 (@pe_non _ _ _) (swap1 rfl) (.inl rfl)) (@pss_cons _ _ _ _ _ (@ps_set _ _ 3 _ _ _ _ sc_law_due.nd rfl l_law_due_3 (@pe_un _ _ _ _ _ _ (@un_neg _) (@pe_int _ _ _ _)) (swap1 rfl) (.inl rfl)) (@pss_cons _ _ _ _ _ (@ps_for _ _ _ _ _ _ _ _ PassesOwn.never rfl (@pi_list _ _ _ _ (@pe_var _ 0 _ _ rfl v_law_due_0 dn__law_rows_here dc__law_rows_here)) (@pg_tup _ _ _ _ _ _ rfl (@pgs_cons _ _ _ _ _ (@pg_name _ _ 4 _ sc_law_due.nd rfl l_law_due_4 (.inl rfl)) (@pgs_cons _ _ _ _ _ (@pg_name _ _ 5 _ sc_law_due.nd rfl l_law_due_5 (.inl rfl)) (@pgs_nil _) (by rfl)) (by rfl)) (by rfl) (by rfl)) (@pss_one _ _ _ (@ps_if _ _ _ _ _ _ _ _ (@PW.pt _ _ _ (@pw_and _ _ _ _ _ _ _ (@pt_cmpR _ _ _ _ _ _ _ _ (@op_gt _) (@pe_callB _ _ _ _ _ _ _ _ _ call_len_seq g_law_due_len M.m_len b_len (@pa_cons _ _ _ _ _ (@pe_var _ 4 _ _ rfl v_law_due_4 dn__law_prefix dc__law_prefix) (@pa_nil _) (star1 rfl)) nn_len dn_len (star1 rfl) nost0) (@pe_var _ 3 _ _ rfl v_law_due_3 dn__law_far dc__law_far) (nomark _)) (@pw_and1 _ _ _ _ (@pt_cmpR _ _ _ _ _ _ _ _ (@op_eqS _ (Nat.lt_of_succ_lt (hu_of hr))) (@pe_slice _ _ _ _ _ _ _ _ _ _ (@sl_tupA _) (@pe_var _ 1 _ _ rfl v_law_due_1 dn__law_number_here dc__law_number_here) (@po_none _) (@po_some _ _ _ (@pe_callB _ _ _ _ _ _ _ _ _ call_len_seq g_law_due_len M.m_len b_len (@pa_cons _ _ _ _ _ (@pe_var _ 4 _ _ rfl v_law_due_4 dn__law_prefix dc__law_prefix) (@pa_nil _) (star1 rfl)) nn_len dn_len (star1 rfl) nost0))) (@pe_var _ 4 _ _ rfl v_law_due_4 dn__law_prefix dc__law_prefix) (nomark _))))) (@pss_cons _ _ _ _ _ (@ps_set _ _ 2 _ _ _ _ sc_law_due.nd rfl l_law_due_2 (@pe_var _ 5 _ _ rfl v_law_due_5 dn__law_told dc__law_told) (swap1 rfl) (.inl rfl)) (@pss_one _ _ _ (@ps_set _ _ 3 _ _ _ _ sc_law_due.nd rfl l_law_due_3 (@pe_callB _ _ _ _ _ _ _ _ _ call_len_seq g_law_due_len M.m_len b_len (@pa_cons _ _ _ _ _ (@pe_var _ 4 _ _ rfl v_law_due_4 dn__law_prefix dc__law_prefix) (@pa_nil _) (star1 rfl)) nn_len dn_len (star1 rfl) nost0) (swap1 rfl) (.inl rfl)))) (@pss_nil _))) (by intro _; rfl)) (@pss_one _ _ _ (@ps_ret _ _ _ _ (@pe_var _ 2 _ _ rfl v_law_due_2 dn__law_due_here dc__law_due_here)))))), ?_⟩
  simp only [rSlTA, slots, Option.getD_some, Option.getD_none, tSeq, tAsg, gName, tOp, tUn, tC, tVar, tCB, tCons, tNil, rI0, rU, tRet, tIfS, tTest, tAnd, tNext, tSl, tPart, tNoPart, gTup, gCons, gNil, Kd_non, Kd_bl, Kd_int, Kd_str, decide_true, decide_false, tFor_eq, iList, L2.start, cxK, Int.reduceToNat, List.map_cons, List.map_nil, List.length_cons, List.length_nil, Nat.reduceAdd, Nat.reduceSub, Nat.zero_add, List.replicate_succ, List.replicate_zero, List.cons_append, List.nil_append, List.append_nil, List.getElem?_cons_zero, List.getElem?_cons_succ, List.set_cons_zero, List.set_cons_succ, Option.some.injEq, V.int.injEq, V.bl.injEq, V.ref.injEq, V.str.injEq, V.ty.injEq, List.cons.injEq, exists_eq_left', exists_eq_left, exists_eq_right, exists_and_left, exists_and_right, and_true, true_and, and_assoc, exists_const, decide_eq_true_eq, Bool.not_eq_true', Bool.not_true, Bool.not_false, Bool.not_not, decide_eq_false_iff_not, ite_not, Bool.false_eq_true, if_true, if_false, reduceCtorEq, and_false, false_and, exists_false, or_false, false_or, ↓reduceIte, eq_self, reduceIte]
  refine ⟨⟨_, L⟩, ?_⟩
  obtain ⟨Pv, hP⟩ : ∃ Pv : Nat → St → Hp → Prop, Pv = fun i σ H' => ∃ (fo : Option Nat) (dv : V) (far : Int) (y z : Option V), σ = [some (V.ref l), some (.ref n), some dv, some (.int far), y, z] ∧ Same H H' ∧ Near (prs gs) ns i fo ∧ (match fo with | none => dv = .non ∧ far = -1 | some j => ∃ g, gs[j]? = some g ∧ dv = g.t ∧ far = g.pf.length) := ⟨_, rfl⟩
  refine forW_list (rrefs gs) Pv ?_ (fun i σ H' _ h => by rw [hP] at h; obtain ⟨_, _, _, _, _, _, e, _⟩ := h; exact e.seq L) ?_ ?_
  · rw [hP]
    exact ⟨none, _, _, _, _, rfl, Same.refl _, (fun k r hk => by omega), rfl, rfl⟩
  · intro i x σ H' hx h
    rw [hP] at h
    obtain ⟨fo, dv, far, y, z, rfl, e, N, hf⟩ := h
    obtain ⟨g, hg, rfl⟩ := rrefs_at hx
    have ga := (all g (List.mem_of_getElem? hg)).same e
    have er : (prs gs)[i]? = some (g.pp, g.pf) := by unfold prs; rw [List.getElem?_map, hg]; rfl
    simp only [rSlTA, slots, Option.getD_some, Option.getD_none, tSeq, tAsg, gName, tOp, tUn, tC, tVar, tCB, tCons, tNil, rI0, rU, tRet, tIfS, tTest, tAnd, tNext, tSl, tPart, tNoPart, gTup, gCons, gNil, Kd_non, Kd_bl, Kd_int, Kd_str, decide_true, decide_false, tFor_eq, iList, L2.start, cxK, Int.reduceToNat, List.map_cons, List.map_nil, List.length_cons, List.length_nil, Nat.reduceAdd, Nat.reduceSub, Nat.zero_add, List.replicate_succ, List.replicate_zero, List.cons_append, List.nil_append, List.append_nil, List.getElem?_cons_zero, List.getElem?_cons_succ, List.set_cons_zero, List.set_cons_succ, Option.some.injEq, V.int.injEq, V.bl.injEq, V.ref.injEq, V.str.injEq, V.ty.injEq, List.cons.injEq, exists_eq_left', exists_eq_left, exists_eq_right, exists_and_left, exists_and_right, and_true, true_and, and_assoc, exists_const, decide_eq_true_eq, Bool.not_eq_true', Bool.not_true, Bool.not_false, Bool.not_not, decide_eq_false_iff_not, ite_not, Bool.false_eq_true, if_true, if_false, reduceCtorEq, and_false, false_and, exists_false, or_false, false_or, ↓reduceIte, eq_self, reduceIte]
    refine ⟨_, ga.row, rfl, _, _, rfl, _, _, rfl, rfl, _, rfl, _, .inr ga.pre, ?_⟩
    rw [List.length_map]
    have ec : cutV (ns.map V.int) none (some ((g.pf.length : Nat) : Int)) = (ns.take g.pf.length).map V.int := by rw [cut_to, List.map_take]
    have stay : ∀ H2, Same H' H2 → ¬ (Ah g.pf ns ∧ far < (g.pf.length : Int)) → Pv (i + 1) [some (V.ref l), some (.ref n), some dv, some (.int far), some (.ref g.pp), some g.t] H2 := fun H2 S2 hn => by
      rw [hP]
      refine ⟨fo, dv, far, _, _, rfl, e.trans S2, ?_, hf⟩
      by_cases ha : Ah g.pf ns
      · cases fo with
        | none =>
          obtain ⟨_, rfl⟩ := hf
          exact absurd ⟨ha, by omega⟩ hn
        | some j =>
          obtain ⟨g', hg', _, rfl⟩ := hf
          have ej : (prs gs)[j]? = some (g'.pp, g'.pf) := by unfold prs; rw [List.getElem?_map, hg']; rfl
          exact N.less er ej (fun z => hn ⟨ha, by have z' : g'.pf.length < g.pf.length := z; omega⟩)
      · exact N.miss er ha
    have take : ∀ H2, Same H' H2 → Ah g.pf ns → far < (g.pf.length : Int) → Pv (i + 1) [some (V.ref l), some (.ref n), some g.t, some (.int (g.pf.length : Int)), some (.ref g.pp), some g.t] H2 := fun H2 S2 ha hlt => by
      rw [hP]
      refine ⟨some i, g.t, _, _, _, rfl, e.trans S2, ?_, g, hg, rfl, rfl⟩
      cases fo with
      | none => exact N.first er ha
      | some j =>
        obtain ⟨g', hg', _, rfl⟩ := hf
        have ej : (prs gs)[j]? = some (g'.pp, g'.pf) := by unfold prs; rw [List.getElem?_map, hg']; rfl
        exact N.more er ha ej (show g'.pf.length < g.pf.length by omega)
    by_cases hlt : far < (g.pf.length : Int)
    · rw [if_pos hlt]
      have go : ∀ H2, Same H' H2 → SqT K H2 g.pp (g.pf.map V.int) → ∃ k, V.bl (decide (ns.take g.pf.length = g.pf)) = V.bl k ∧ if k = true then ∃ p, V.ref g.pp = V.ref p ∧ ∃ x, (SqL K H2 p x ∨ SqT K H2 p x) ∧ Pv (i + 1) [some (V.ref l), some (V.ref n), some g.t, some (V.int (x.length : Int)), some (V.ref g.pp), some g.t] H2 else Pv (i + 1) [some (V.ref l), some (V.ref n), some dv, some (V.int far), some (V.ref g.pp), some g.t] H2 := fun H2 S2 T2 => by
        refine ⟨_, rfl, ?_⟩
        by_cases ha : Ah g.pf ns
        · rw [if_pos (decide_eq_true ha)]
          refine ⟨_, rfl, _, .inr T2, ?_⟩
          rw [List.length_map]
          exact take H2 S2 ha hlt
        · rw [if_neg (by rw [decide_eq_false ha]; decide)]
          exact stay H2 S2 fun h => ha h.1
      refine ⟨_, rfl, _, .inr ga.pre, _, Same.tup e TN, fun ee => ?_, fun p hp => ?_⟩
      · rw [List.length_map, ec] at ee
        exact rEqS_ints (.inr ⟨by rw [ee]; exact Same.tup e TN, ga.pre⟩) (go _ (Same.refl _) ga.pre)
      · rw [List.length_map, ec]
        exact rEqS_ints (.inr ⟨SqT.of upd_same, Same.tup (same_new hp _) ga.pre⟩) (go _ (same_new hp _) (Same.tup (same_new hp _) ga.pre))
    · rw [if_neg hlt]
      exact stay _ (Same.refl _) fun h => hlt h.2
  · intro σ H' h
    rw [hP] at h
    obtain ⟨fo, dv, far, y, z, rfl, e, N, hf⟩ := h
    simp only [rSlTA, slots, Option.getD_some, Option.getD_none, tSeq, tAsg, gName, tOp, tUn, tC, tVar, tCB, tCons, tNil, rI0, rU, tRet, tIfS, tTest, tAnd, tNext, tSl, tPart, tNoPart, gTup, gCons, gNil, Kd_non, Kd_bl, Kd_int, Kd_str, decide_true, decide_false, tFor_eq, iList, L2.start, cxK, Int.reduceToNat, List.map_cons, List.map_nil, List.length_cons, List.length_nil, Nat.reduceAdd, Nat.reduceSub, Nat.zero_add, List.replicate_succ, List.replicate_zero, List.cons_append, List.nil_append, List.append_nil, List.getElem?_cons_zero, List.getElem?_cons_succ, List.set_cons_zero, List.set_cons_succ, Option.some.injEq, V.int.injEq, V.bl.injEq, V.ref.injEq, V.str.injEq, V.ty.injEq, List.cons.injEq, exists_eq_left', exists_eq_left, exists_eq_right, exists_and_left, exists_and_right, and_true, true_and, and_assoc, exists_const, decide_eq_true_eq, Bool.not_eq_true', Bool.not_true, Bool.not_false, Bool.not_not, decide_eq_false_iff_not, ite_not, Bool.false_eq_true, if_true, if_false, reduceCtorEq, and_false, false_and, exists_false, or_false, false_or, ↓reduceIte, eq_self, reduceIte]
    cases fo with
    | none =>
      obtain ⟨g, hg, eg⟩ := List.mem_map.mp he
      obtain ⟨k, hk, ek⟩ := List.getElem_of_mem hg
      have e1 : (prs gs)[k]? = some (g.pp, g.pf) := by unfold prs; rw [List.getElem?_map, List.getElem?_eq_getElem hk, ek]; rfl
      have := N k _ (by rw [rrefs_len]; exact hk) e1
      exact absurd (show Ah g.pf ns by rw [eg]; rfl) this
    | some j =>
      obtain ⟨g, hg, rfl, _⟩ := hf
      rw [rrefs_len] at N
      exact q j g _ e hg N
end

def spSpoilt (K : PySem.W.Frag) : Sp := fun vs H Q _ => ∃ (l : Addr) (c : Int) (gs : List Rw), vs = [.ref l, .int c] ∧ SqL K H l (rrefs gs) ∧ 1 ≤ gs.length ∧ gs.length ≤ 24 ∧ (∀ g ∈ gs, RwAt K H g) ∧ (pfs gs).Nodup ∧ [] ∈ pfs gs ∧ (∀ g ∈ gs, ∃ r : Rl, TolA K H g.t r ∧ r.ok ∧ r.dp ≤ 4) ∧ ∀ v H', Same H H' → BadRs K H' v → Q v H'
theorem count_one {ps : List (List Int)} (nd : ps.Nodup) : ∀ p ∈ ps, ps.count p = 1 := by
  induction ps with
  | nil => intro p h; cases h
  | cons x xs ih =>
    intro p hp
    rw [List.nodup_cons] at nd
    rw [List.count_cons]
    rcases List.mem_cons.mp hp with rfl | hp
    · rw [List.count_eq_zero.mpr nd.1, if_pos (beq_self_eq_true _)]
    · rw [ih nd.2 p hp, if_neg (fun e => nd.1 (by rw [beq_iff_eq.mp e]; exact hp))]
theorem okPs_of {ps : List (List Int)} (nd : ps.Nodup) (h : [] ∈ ps) : okPs ps = true := by
  unfold okPs
  rw [decide_eq_true h, Bool.true_and]
  exact List.all_eq_true.mpr fun p hp => decide_eq_true (count_one nd p hp)
theorem okPs_dup {ps qs : List (List Int)} {p : List Int} (h : p ∈ qs) (e : ps.Perm (p :: qs)) : okPs ps = false := by
  unfold okPs
  rw [Bool.and_eq_false_iff]
  right
  refine Bool.eq_false_iff.mpr fun z => ?_
  have a := of_decide_eq_true (List.all_eq_true.mp z p (e.mem_iff.mpr (List.mem_cons_self ..)))
  rw [e.count_eq, List.count_cons, if_pos (beq_self_eq_true _)] at a
  have := List.count_pos_iff.mpr h
  omega
structure Kp (K : PySem.W.Frag) (H H' : Hp) : Prop where
  kd : ∀ v k, Kd K H v k → Kd K H' v k
  tp : ∀ p xs, SqT K H p xs → SqT K H' p xs
theorem Kp.of {K : PySem.W.Frag} {H H' : Hp} (e : Same H H') : Kp K H H' := ⟨fun _ _ h => kd_same e h, fun _ _ h => Same.tup e h⟩
theorem Kp.trans {K : PySem.W.Frag} {H H' H'' : Hp} (a : Kp K H H') (b : Kp K H' H'') : Kp K H H'' := ⟨fun _ _ h => b.kd _ _ (a.kd _ _ h), fun _ _ h => b.tp _ _ (a.tp _ _ h)⟩
theorem kp_lst {K : PySem.W.Frag} {H : Hp} {l : Addr} {ys zs : List V} (hl : H l = some (.lst ys)) : Kp K H (upd H l (.lst zs)) := by
  refine ⟨fun v k h => ?_, fun p xs h => (keeps_lst hl).tup h⟩
  cases v with
  | ref a =>
    rcases h with ⟨z, xs, h⟩ | ⟨z, xs, h⟩ | ⟨z, h⟩
    · by_cases e : a = l
      · rw [e]
        exact .inl ⟨z, zs, SqL.of upd_same⟩
      · refine .inl ⟨z, xs, ?_⟩
        rcases h with (h | ⟨o, h⟩) | h
        · exact .inl (.inl (by rw [upd_ne e]; exact h))
        · exact .inl (.inr ⟨o, by rw [upd_ne e]; exact h⟩)
        · exact .inr h
    · exact .inr (.inl ⟨z, xs, (keeps_lst hl).tup h⟩)
    · refine .inr (.inr ⟨z, ?_⟩)
      rw [upd_ne (fun e => by rw [e, hl] at h; cases h)]
      exact h
  | _ => exact h
theorem pref_kp {K : PySem.W.Frag} {H H' : Hp} {v : V} {b : Bool} (h : PrefV K H v b) (e : Kp K H H') : PrefV K H' v b := by
  cases h with
  | no a c => exact .no (e.kd _ _ a) c
  | tup a c => exact .tup (e.tp _ _ a) fun x hx => by obtain ⟨k, hk⟩ := c x hx; exact ⟨k, e.kd _ _ hk⟩
theorem row_kp {K : PySem.W.Frag} {H H' : Hp} {v : V} {b : Bool} (h : RowV K H v b) (e : Kp K H H') : RowV K H' v b := by
  cases h with
  | no a c => exact .no (e.kd _ _ a) c
  | len a c => exact .len (e.tp _ _ a) c
  | two a c => exact .two (e.tp _ _ a) (pref_kp c e)
theorem rw_kp {K : PySem.W.Frag} {H H' : Hp} {g : Rw} (h : RwAt K H g) (e : Kp K H H') : RwAt K H' g := ⟨e.tp _ _ h.row, e.tp _ _ h.pre, h.l4, h.ins⟩
theorem bad_share {K : PySem.W.Frag} {H : Hp} {p : Addr} {v : V} (T : SqT K H p [.str "share", v]) (h : SoV K H v false) (d : Nat) : RBad K H (d + 1) (.ref p) := .one T (.inl (by simp)) ⟨(fun h => nomatch h), (fun v _ h => absurd h (by decide)), (fun u e _ => by cases e; exact h)⟩
theorem bad_change {K : PySem.W.Frag} {H : Hp} {p : Addr} {v : V} (T : SqT K H p [.str "change", v]) (h : DeV K H v false) (d : Nat) : RBad K H (d + 1) (.ref p) := .one T (.inl (by simp)) ⟨(fun h => nomatch h), (fun u e _ => by cases e; exact h), (fun v _ h => absurd h (by decide))⟩
theorem bad_mid {K : PySem.W.Frag} {H : Hp} {l : Addr} {gs1 gs2 : List Rw} {y : V} (L : SqL K H l (rrefs gs1 ++ y :: rrefs gs2)) (rv : RowV K H y false) (a1 : ∀ g ∈ gs1, RwAt K H g) (a2 : ∀ g ∈ gs2, RwAt K H g) : BadRs K H (.ref l) := by
  by_cases h24 : (rrefs gs1 ++ y :: rrefs gs2).length ≤ 24
  · exact .rows (.bad L (by rw [List.length_append, List.length_cons]; omega) h24 ((RAll.rows a1).append (.cons rv (RAll.rows a2))) (by rw [List.all_append, List.all_cons]; simp))
  · exact .rows (.len L fun h => h24 h.2)
theorem ins_eq (gs : List Rw) (k : Nat) (y : V) : List.take k (rrefs gs) ++ y :: List.drop k (rrefs gs) = rrefs (gs.take k) ++ y :: rrefs (gs.drop k) := by
  unfold rrefs
  rw [List.map_take, List.map_drop]
theorem set_eq {gs : List Rw} {j : Nat} (h : j < gs.length) (y : V) : (rrefs gs).set j y = rrefs (gs.take j) ++ y :: rrefs (gs.drop (j + 1)) := by
  rw [List.set_eq_take_append_cons_drop, if_pos (by rw [rrefs_len]; exact h)]
  unfold rrefs
  rw [List.map_take, List.map_drop]
section
variable {P : Program} {w : World} {K : PySem.W.Frag} {mg : Str → Option Value} {base : Heap} {f : Addr} {fd : FuncData} {cs : RC} {cN : Addr}
theorem ok_law_spoilt (F : Fun K "_law_spoilt" "_law_spoilt" s_law_spoilt f fd) (M : Mg mg) : FnOk P w K mg base CX0 1 f fd ["_law_rows_here", "_law_cell"] (spSpoilt K) := by
  refine F.ok sc_law_spoilt (fun vs H Q E h => ?_) (fun cdv A outer s H vs Q E hr h => ?_)
  · obtain ⟨l, c, gs, rfl, _⟩ := h
    rfl
  obtain ⟨l, c, gs, rfl, L, l1, l24, all, nd, he, tols, q⟩ := h
  have ll := rrefs_len gs
  refine ⟨_, (@pss_cons _ _ _ _ _ (@ps_set _ _ 2 _ _ _ _ sc_law_spoilt.nd rfl l_law_spoilt_2 (@pe_op _ _ _ _ _ _ _ _ (@op_mod _) (@pe_var _ 1 _ _ rfl v_law_spoilt_1 dn__law_cell dc__law_cell) (@pe_int _ _ _ _)) (swap1 rfl) (.inl rfl)) (@pss_cons _ _ _ _ _ (@ps_set _ _ 3 _ _ _ _ sc_law_spoilt.nd rfl l_law_spoilt_3 (@pe_op _ _ _ _ _ _ _ _ (@op_mod _) (@pe_op _ _ _ _ _ _ _ _ (@op_fdivB _) (@pe_var _ 1 _ _ rfl v_law_spoilt_1 dn__law_cell dc__law_cell) (@pe_int _ _ _ _)) (@pe_callB _ _ _ _ _ _ _ _ _ call_len_seq g_law_spoilt_len M.m_len b_len (@pa_cons _ _ _ _ _ (@pe_var _ 0 _ _ rfl v_law_spoilt_0 dn__law_rows_here dc__law_rows_here) (@pa_nil _) (star1 rfl)) nn_len dn_len (star1 rfl) nost0)) (swap1 rfl) (.inl rfl)) (@pss_cons _ _ _ _ _ (@ps_set _ _ 4 _ _ _ _ sc_law_spoilt.nd rfl l_law_spoilt_4 (@pe_op _ _ _ _ _ _ _ _ (@op_fdivB _) (@pe_var _ 1 _ _ rfl v_law_spoilt_1 dn__law_cell dc__law_cell) (@pe_int _ _ _ _)) (swap1 rfl) (.inl rfl)) (@pss_cons _ _ _ _ _ (@ps_set _ _ 5 _ _ _ _ sc_law_spoilt.nd rfl l_law_spoilt_5 (@pe_callTy _ _ _ _ _ _ _ _ _ call_listL g_law_spoilt_list M.m_list b_list (@pa_cons _ _ _ _ _ (@pe_var _ 0 _ _ rfl v_law_spoilt_0 dn__law_rows_here dc__law_rows_here) (@pa_nil _) (star1 rfl)) nn_list dn_list (star1 rfl) nost0) (swap1 rfl) (.inl rfl)) (@pss_cons _ _ _ _ _ (@ps_if _ _ _ _ _ _ _ _ (@pt_cmpR _ _ _ _ _ _ _ _ (@op_eq _) (@pe_var _ 2 _ _ rfl v_law_spoilt_2 dn__law_way dc__law_way) (@pe_int _ _ _ _) (nomark _)) (@pss_one _ _ _ (@ps_ret _ _ _ _ (@pe_menu _ _ _ _ _ _ _ (@pa_cons _ _ _ _ _ (@pe_callTy _ _ _ _ _ _ _ _ _ call_tupleL g_law_spoilt_tuple M.m_tuple b_tuple (@pa_cons _ _ _ _ _ (@pe_var _ 0 _ _ rfl v_law_spoilt_0 dn__law_rows_here dc__law_rows_here) (@pa_nil _) (star1 rfl)) nn_tuple dn_tuple (star1 rfl) nost0) (@pa_cons _ _ _ _ _ (@pe_lst _ _ _ _ (@pa_nil _)) (@pa_cons _ _ _ _ _ (@pe_non _ _ _) (@pa_cons _ _ _ _ _ (@pe_str _ _ _ _) (@pa_nil _) (star1 rfl)) (star1 rfl)) (star1 rfl)) (star1 rfl)) (@pe_op _ _ _ _ _ _ _ _ (@op_mod _) (@pe_var _ 4 _ _ rfl v_law_spoilt_4 dn__law_pick dc__law_pick) (@pe_int _ _ _ _)) (fun _ _ => rfl)))) (@pss_nil _)) (@pss_cons _ _ _ _ _ (@ps_if _ _ _ _ _ _ _ _ (@pt_cmpR _ _ _ _ _ _ _ _ (@op_eq _) (@pe_var _ 2 _ _ rfl v_law_spoilt_2 dn__law_way dc__law_way) (@pe_int _ _ _ _) (nomark _)) (@pss_one _ _ _ (@ps_ret _ _ _ _ (@pe_comp _ _ _ _ _ _ _ _ _ _ _ _ _ _ _ rfl (CompOk.make (N' := ["_law_row"]) (ix := []) (nl := 1) (by rfl) fm0 (by rfl) (by decide +kernel) rfl (by decide +kernel) rfl True.intro) (@pi_list _ _ _ _ (@pe_var _ 0 _ _ rfl v_law_spoilt_0 dn__law_rows_here dc__law_rows_here)) (fun _ _ _ _ _ => (@pg_name _ _ 0 _ (show List.Nodup (["_law_row"] : List Str) from by decide) rfl (Or.inl rfl) (by first | exact .inl rfl | exact .inr rfl | assumption))) (fun _ _ _ _ _ => (@pif_one _ _ _ (@pt_cmpR _ _ _ _ _ _ _ _ (op_neSK (K := K) rfl (Nat.lt_of_succ_lt (hu_of hr))) (@pe_ix _ _ _ _ _ _ _ (ix_tupK (K := K) rfl) (@pv _ 0 _ _ (by rfl) (by first | exact Or.inl rfl | exact Or.inr (Or.inl rfl) | exact Or.inr (Or.inr rfl)) (by decide) (by decide)) (@pe_int _ _ _ _) (fun _ _ => rfl)) (@pe_tup _ _ _ _ _ (@pa_nil _)) (nomark _)))) (fun _ _ _ _ _ => (@pv _ 0 _ _ (by rfl) (by first | exact Or.inl rfl | exact Or.inr (Or.inl rfl) | exact Or.inr (Or.inr rfl)) (by decide) (by decide))) (by intro _; rfl)))) (@pss_nil _)) (@pss_cons _ _ _ _ _ (@ps_if _ _ _ _ _ _ _ _ (@pt_cmpR _ _ _ _ _ _ _ _ (@op_eq _) (@pe_var _ 2 _ _ rfl v_law_spoilt_2 dn__law_way dc__law_way) (@pe_int _ _ _ _) (nomark _)) (@pss_one _ _ _ (@ps_expr _ _ _ _ (@pe_bm _ _ _ _ _ _ _ _ _ _ _ _ PySem.F.plainAttrs_list PySem.F.slot_list_insert PySem.F.type_list_insert mt_insert (@pe_var _ 5 _ _ rfl v_law_spoilt_5 dn__law_some dc__law_some) (@pa_cons _ _ _ _ _ (@pe_op _ _ _ _ _ _ _ _ (@op_mod _) (@pe_var _ 4 _ _ rfl v_law_spoilt_4 dn__law_pick dc__law_pick) (@pe_op _ _ _ _ _ _ _ _ (@op_add _) (@pe_callB _ _ _ _ _ _ _ _ _ call_len_seq g_law_spoilt_len M.m_len b_len (@pa_cons _ _ _ _ _ (@pe_var _ 0 _ _ rfl v_law_spoilt_0 dn__law_rows_here dc__law_rows_here) (@pa_nil _) (star1 rfl)) nn_len dn_len (star1 rfl) nost0) (@pe_int _ _ _ _))) (@pa_cons _ _ _ _ _ (@pe_tup _ _ _ _ _ (@pa_cons _ _ _ _ _ (@pe_ix _ _ _ _ _ _ _ (@ix_tup _) (@pe_ix _ _ _ _ _ _ _ (@ix_list _) (@pe_var _ 0 _ _ rfl v_law_spoilt_0 dn__law_rows_here dc__law_rows_here) (@pe_var _ 3 _ _ rfl v_law_spoilt_3 dn__law_at dc__law_at) (fun _ _ => rfl)) (@pe_int _ _ _ _) (fun _ _ => rfl)) (@pa_cons _ _ _ _ _ (@pe_tup _ _ _ _ _ (@pa_cons _ _ _ _ _ (@pe_str _ _ _ _) (@pa_nil _) (star1 rfl))) (@pa_nil _) (star1 rfl)) (star1 rfl))) (@pa_nil _) (star1 rfl)) (star1 rfl)) (by rfl) (by rfl) (by rfl) (by rfl) (by rfl)) (swap1 rfl))) (@pss_one _ _ _ (@ps_if _ _ _ _ _ _ _ _ (@pt_cmpR _ _ _ _ _ _ _ _ (@op_eq _) (@pe_var _ 2 _ _ rfl v_law_spoilt_2 dn__law_way dc__law_way) (@pe_int _ _ _ _) (nomark _)) (@pss_one _ _ _ (@ps_ret _ _ _ _ (@pe_op _ _ _ _ _ _ _ _ (@op_cat _) (@pe_lst _ _ _ _ (@pa_cons _ _ _ _ _ (@pe_tup _ _ _ _ _ (@pa_cons _ _ _ _ _ (@pe_tup _ _ _ _ _ (@pa_nil _)) (@pa_cons _ _ _ _ _ (@pe_tup _ _ _ _ _ (@pa_cons _ _ _ _ _ (@pe_str _ _ _ _) (@pa_nil _) (star1 rfl))) (@pa_nil _) (star1 rfl)) (star1 rfl))) (@pa_nil _) (star1 rfl))) (@pe_comp _ _ _ _ _ _ _ _ _ _ _ _ _ _ _ rfl (CompOk.make (N' := ["_law_k"]) (ix := []) (nl := 1) (by rfl) fm0 (by rfl) (by decide +kernel) rfl (by decide +kernel) rfl True.intro) (@pi_range1 _ _ _ _ _ _ g_law_spoilt_range M.m_range (@pa_cons _ _ _ _ _ (@pe_int _ _ _ _) (@pa_nil _) (star1 rfl)) (star1' rfl)) (fun _ _ _ _ _ => (@pg_name _ _ 0 _ (show List.Nodup (["_law_k"] : List Str) from by decide) rfl (Or.inl rfl) (by first | exact .inl rfl | exact .inr rfl | assumption))) (fun _ _ _ _ _ => (@pif_nil _)) (fun _ _ _ _ _ => (@pe_tup _ _ _ _ _ (@pa_cons _ _ _ _ _ (@pe_tup _ _ _ _ _ (@pa_cons _ _ _ _ _ (@pe_op _ _ _ _ _ _ _ _ (@op_add _) (@pv _ 0 _ _ (by rfl) (by first | exact Or.inl rfl | exact Or.inr (Or.inl rfl) | exact Or.inr (Or.inr rfl)) (by decide) (by decide)) (@pe_int _ _ _ _)) (@pa_nil _) (star1 rfl))) (@pa_cons _ _ _ _ _ (@pe_tup _ _ _ _ _ (@pa_cons _ _ _ _ _ (@pe_str _ _ _ _) (@pa_nil _) (star1 rfl))) (@pa_nil _) (star1 rfl)) (star1 rfl)))) (by intro _; rfl))))) (@pss_one _ _ _ (@ps_if _ _ _ _ _ _ _ _ (@pt_cmpR _ _ _ _ _ _ _ _ (@op_eq _) (@pe_var _ 2 _ _ rfl v_law_spoilt_2 dn__law_way dc__law_way) (@pe_int _ _ _ _) (nomark _)) (@pss_one _ _ _ (@ps_asg _ _ _ _ _ _ (@pe_callTy _ _ _ _ _ _ _ _ _ call_list_of g_law_spoilt_list M.m_list b_list (@pa_cons _ _ _ _ _ (@pe_ix _ _ _ _ _ _ _ (@ix_list _) (@pe_var _ 0 _ _ rfl v_law_spoilt_0 dn__law_rows_here dc__law_rows_here) (@pe_var _ 3 _ _ rfl v_law_spoilt_3 dn__law_at dc__law_at) (fun _ _ => rfl)) (@pa_nil _) (star1 rfl)) nn_list dn_list (star1 rfl) nost0) (@pg_sub _ _ _ _ _ _ _ (@pe_var _ 5 _ _ rfl v_law_spoilt_5 dn__law_some dc__law_some) (@pe_var _ 3 _ _ rfl v_law_spoilt_3 dn__law_at dc__law_at) set_list (by intro _; rfl)) (by rfl) (by rfl) (by rfl))) (@pss_one _ _ _ (@ps_if _ _ _ _ _ _ _ _ (@pt_cmpR _ _ _ _ _ _ _ _ (@op_eq _) (@pe_var _ 2 _ _ rfl v_law_spoilt_2 dn__law_way dc__law_way) (@pe_int _ _ _ _) (nomark _)) (@pss_one _ _ _ (@ps_asg _ _ _ _ _ _ (@pe_op _ _ _ _ _ _ _ _ op_catTQ (@pe_ix _ _ _ _ _ _ _ (@ix_list _) (@pe_var _ 0 _ _ rfl v_law_spoilt_0 dn__law_rows_here dc__law_rows_here) (@pe_var _ 3 _ _ rfl v_law_spoilt_3 dn__law_at dc__law_at) (fun _ _ => rfl)) (@pe_tup _ _ _ _ _ (@pa_cons _ _ _ _ _ (@pe_int _ _ _ _) (@pa_nil _) (star1 rfl)))) (@pg_sub _ _ _ _ _ _ _ (@pe_var _ 5 _ _ rfl v_law_spoilt_5 dn__law_some dc__law_some) (@pe_var _ 3 _ _ rfl v_law_spoilt_3 dn__law_at dc__law_at) set_list (by intro _; rfl)) (by rfl) (by rfl) (by rfl))) (@pss_one _ _ _ (@ps_if _ _ _ _ _ _ _ _ (@pt_cmpR _ _ _ _ _ _ _ _ (@op_eq _) (@pe_var _ 2 _ _ rfl v_law_spoilt_2 dn__law_way dc__law_way) (@pe_int _ _ _ _) (nomark _)) (@pss_one _ _ _ (@ps_asg _ _ _ _ _ _ (@pe_ix _ _ _ _ _ _ _ (@ix_tup _) (@pe_ix _ _ _ _ _ _ _ (@ix_list _) (@pe_var _ 0 _ _ rfl v_law_spoilt_0 dn__law_rows_here dc__law_rows_here) (@pe_var _ 3 _ _ rfl v_law_spoilt_3 dn__law_at dc__law_at) (fun _ _ => rfl)) (@pe_int _ _ _ _) (fun _ _ => rfl)) (@pg_sub _ _ _ _ _ _ _ (@pe_var _ 5 _ _ rfl v_law_spoilt_5 dn__law_some dc__law_some) (@pe_var _ 3 _ _ rfl v_law_spoilt_3 dn__law_at dc__law_at) set_list (by intro _; rfl)) (by rfl) (by rfl) (by rfl))) (@pss_one _ _ _ (@ps_if _ _ _ _ _ _ _ _ (@pt_cmpR _ _ _ _ _ _ _ _ (@op_lt _) (@pe_var _ 2 _ _ rfl v_law_spoilt_2 dn__law_way dc__law_way) (@pe_int _ _ _ _) (nomark _)) (@pss_cons _ _ _ _ _ (@ps_set _ _ 6 _ _ _ _ sc_law_spoilt.nd rfl l_law_spoilt_6 (@pe_menu _ _ _ _ _ _ _ (@pa_cons _ _ _ _ _ (@pe_lst _ _ _ _ (@pa_cons _ _ _ _ _ (@pe_int _ _ _ _) (@pa_nil _) (star1 rfl))) (@pa_cons _ _ _ _ _ (@pe_tup _ _ _ _ _ (@pa_cons _ _ _ _ _ (@pe_int _ _ _ _) (@pa_nil _) (star1 rfl))) (@pa_cons _ _ _ _ _ (@pe_tup _ _ _ _ _ (@pa_cons _ _ _ _ _ (@pe_int _ _ _ _) (@pa_nil _) (star1 rfl))) (@pa_cons _ _ _ _ _ (@pe_tup _ _ _ _ _ (@pa_cons _ _ _ _ _ (@pe_int _ _ _ _) (@pa_cons _ _ _ _ _ (@pe_int _ _ _ _) (@pa_cons _ _ _ _ _ (@pe_int _ _ _ _) (@pa_cons _ _ _ _ _ (@pe_int _ _ _ _) (@pa_cons _ _ _ _ _ (@pe_int _ _ _ _) (@pa_nil _) (star1 rfl)) (star1 rfl)) (star1 rfl)) (star1 rfl)) (star1 rfl))) (@pa_cons _ _ _ _ _ (@pe_non _ _ _) (@pa_cons _ _ _ _ _ (@pe_tup _ _ _ _ _ (@pa_cons _ _ _ _ _ (@pe_bl _ _ _ _) (@pa_nil _) (star1 rfl))) (@pa_cons _ _ _ _ _ (@pe_str _ _ _ _) (@pa_nil _) (star1 rfl)) (star1 rfl)) (star1 rfl)) (star1 rfl)) (star1 rfl)) (star1 rfl)) (star1 rfl)) (@pe_op _ _ _ _ _ _ _ _ (@op_mod _) (@pe_var _ 4 _ _ rfl v_law_spoilt_4 dn__law_pick dc__law_pick) (@pe_int _ _ _ _)) (fun _ _ => rfl)) (swap1 rfl) (.inl rfl)) (@pss_one _ _ _ (@ps_expr _ _ _ _ (@pe_bm _ _ _ _ _ _ _ _ _ _ _ _ PySem.F.plainAttrs_list PySem.F.slot_list_insert PySem.F.type_list_insert mt_insert (@pe_var _ 5 _ _ rfl v_law_spoilt_5 dn__law_some dc__law_some) (@pa_cons _ _ _ _ _ (@pe_var _ 3 _ _ rfl v_law_spoilt_3 dn__law_at dc__law_at) (@pa_cons _ _ _ _ _ (@pe_tup _ _ _ _ _ (@pa_cons _ _ _ _ _ (@pe_var _ 6 _ _ rfl v_law_spoilt_6 dn__law_prefix dc__law_prefix) (@pa_cons _ _ _ _ _ (@pe_ix _ _ _ _ _ _ _ (@ix_tup _) (@pe_ix _ _ _ _ _ _ _ (@ix_list _) (@pe_var _ 0 _ _ rfl v_law_spoilt_0 dn__law_rows_here dc__law_rows_here) (@pe_var _ 3 _ _ rfl v_law_spoilt_3 dn__law_at dc__law_at) (fun _ _ => rfl)) (@pe_int _ _ _ _) (fun _ _ => rfl)) (@pa_nil _) (star1 rfl)) (star1 rfl))) (@pa_nil _) (star1 rfl)) (star1 rfl)) (by rfl) (by rfl) (by rfl) (by rfl) (by rfl)) (swap1 rfl)))) (@pss_cons _ _ _ _ _ (@ps_set _ _ 7 _ _ _ _ sc_law_spoilt.nd rfl l_law_spoilt_7 (@pe_menu _ _ _ _ _ _ _ (@pa_cons _ _ _ _ _ (@pe_tup _ _ _ _ _ (@pa_cons _ _ _ _ _ (@pe_str _ _ _ _) (@pa_cons _ _ _ _ _ (@pe_int _ _ _ _) (@pa_nil _) (star1 rfl)) (star1 rfl))) (@pa_cons _ _ _ _ _ (@pe_tup _ _ _ _ _ (@pa_cons _ _ _ _ _ (@pe_str _ _ _ _) (@pa_cons _ _ _ _ _ (@pe_tup _ _ _ _ _ (@pa_cons _ _ _ _ _ (@pe_int _ _ _ _) (@pa_cons _ _ _ _ _ (@pe_int _ _ _ _) (@pa_nil _) (star1 rfl)) (star1 rfl))) (@pa_nil _) (star1 rfl)) (star1 rfl))) (@pa_cons _ _ _ _ _ (@pe_tup _ _ _ _ _ (@pa_nil _)) (@pa_cons _ _ _ _ _ (@pe_non _ _ _) (@pa_cons _ _ _ _ _ (@pe_lst _ _ _ _ (@pa_cons _ _ _ _ _ (@pe_str _ _ _ _) (@pa_nil _) (star1 rfl))) (@pa_cons _ _ _ _ _ (@pe_tup _ _ _ _ _ (@pa_cons _ _ _ _ _ (@pe_str _ _ _ _) (@pa_cons _ _ _ _ _ (@pe_int _ _ _ _) (@pa_nil _) (star1 rfl)) (star1 rfl))) (@pa_nil _) (star1 rfl)) (star1 rfl)) (star1 rfl)) (star1 rfl)) (star1 rfl)) (star1 rfl)) (@pe_op _ _ _ _ _ _ _ _ (@op_mod _) (@pe_var _ 4 _ _ rfl v_law_spoilt_4 dn__law_pick dc__law_pick) (@pe_int _ _ _ _)) (fun _ _ => rfl)) (swap1 rfl) (.inl rfl)) (@pss_one _ _ _ (@ps_asg _ _ _ _ _ _ (@pe_tup _ _ _ _ _ (@pa_cons _ _ _ _ _ (@pe_ix _ _ _ _ _ _ _ (@ix_tup _) (@pe_ix _ _ _ _ _ _ _ (@ix_list _) (@pe_var _ 0 _ _ rfl v_law_spoilt_0 dn__law_rows_here dc__law_rows_here) (@pe_var _ 3 _ _ rfl v_law_spoilt_3 dn__law_at dc__law_at) (fun _ _ => rfl)) (@pe_int _ _ _ _) (fun _ _ => rfl)) (@pa_cons _ _ _ _ _ (@pe_var _ 7 _ _ rfl v_law_spoilt_7 dn__law_told dc__law_told) (@pa_nil _) (star1 rfl)) (star1 rfl))) (@pg_sub _ _ _ _ _ _ _ (@pe_var _ 5 _ _ rfl v_law_spoilt_5 dn__law_some dc__law_some) (@pe_var _ 3 _ _ rfl v_law_spoilt_3 dn__law_at dc__law_at) set_list (by intro _; rfl)) (by rfl) (by rfl) (by rfl))))))))))))))) (@pss_one _ _ _ (@ps_ret _ _ _ _ (@pe_var _ 5 _ _ rfl v_law_spoilt_5 dn__law_some dc__law_some)))))))))), ?_⟩
  simp only [rInsert, tComp_eq, tComp1, slots, Option.getD_some, Option.getD_none, tYes, tSeq, tAsg, gName, tOp, tC, tVar, tCB, tCons, tNil, rI, rI0, tRet, tIfS, tTest, tMenu, tDrop, tTup, tLst, tNext, gSub, rSetL, tBM, rEq, rIxL, rIxT, Kd_non, Kd_bl, Kd_int, Kd_str, sc_non_non, sc_non_int, sc_int_non, sc_non_bl, sc_bl_non, sc_non_str, sc_str_non, sc_int_int, sc_bl_bl, sc_str_str, sc_int_str, sc_str_int, sc_bl_str, sc_str_bl, decide_true, decide_false, iList, iRng1, L2.start, cxK, Int.reduceToNat, List.map_cons, List.map_nil, List.length_cons, List.length_nil, Nat.reduceAdd, Nat.reduceSub, Nat.zero_add, List.replicate_succ, List.replicate_zero, List.cons_append, List.nil_append, List.append_nil, List.getElem?_cons_zero, List.getElem?_cons_succ, List.set_cons_zero, List.set_cons_succ, Option.some.injEq, V.int.injEq, V.bl.injEq, V.ref.injEq, V.str.injEq, V.ty.injEq, List.cons.injEq, exists_eq_left', exists_eq_left, exists_eq_right, exists_and_left, exists_and_right, and_true, true_and, and_assoc, exists_const, decide_eq_true_eq, Bool.not_eq_true', Bool.not_true, Bool.not_false, Bool.not_not, decide_eq_false_iff_not, ite_not, Bool.false_eq_true, if_true, if_false, reduceCtorEq, and_false, false_and, exists_false, or_false, false_or, ↓reduceIte, eq_self, reduceIte]
  have p0 := Int.emod_nonneg (c / 11) (show ((rrefs gs).length : Int) ≠ 0 by omega)
  have p1 := Int.emod_lt_of_pos (c / 11) (show 0 < ((rrefs gs).length : Int) by omega)
  refine ⟨by decide, cdiv (by decide) (by decide), _, .inl L, by omega, cdiv (by decide) (by decide), _, L, fun sm hsm => ?_⟩
  obtain ⟨j, hj⟩ : ∃ j : Nat, c / 11 % ((rrefs gs).length : Int) = j := ⟨(c / 11 % ((rrefs gs).length : Int)).toNat, by omega⟩
  have jl : j < gs.length := by omega
  obtain ⟨G, hG⟩ : ∃ G, gs[j]? = some G := ⟨_, List.getElem?_eq_getElem jl⟩
  have GA := all G (List.mem_of_getElem? hG)
  have hix := rrefs_ix hG
  have hin : ixN (rrefs gs).length (j : Int) = some j := ixN_nat (by omega)
  have tk : ∀ (m : Nat) g, g ∈ gs.take m → g ∈ gs := fun m g h => List.mem_of_mem_take h
  have dk : ∀ (m : Nat) g, g ∈ gs.drop m → g ∈ gs := fun m g h => List.mem_of_mem_drop h
  rw [hj]
  clear hj p0 p1
  obtain ⟨H1, g1, S1, L1⟩ : ∃ H1, H1 = upd H sm (.lst (rrefs gs)) ∧ Same H H1 ∧ H1 sm = some (.lst (rrefs gs)) := ⟨_, rfl, same_new hsm _, upd_same⟩
  rw [← g1]
  clear g1
  have sm63 : (rrefs gs).length < sizeLine := Nat.lt_of_le_of_lt (m := 63) (by omega) (by decide)
  have set_bad : ∀ J y, Same H1 J → RowV K J y false → Q (.ref sm) (upd J sm (.lst ((rrefs gs).set j y))) := fun J y U rv => by
    have LJ := U _ _ L1
    have kp : Kp K J (upd J sm (.lst ((rrefs gs).set j y))) := kp_lst LJ
    refine q _ _ (same_upd (S1.trans U) hsm _) (bad_mid (gs1 := gs.take j) (gs2 := gs.drop (j + 1)) (by rw [← set_eq jl]; exact SqL.of upd_same) (row_kp rv kp) (fun g hg => rw_kp ((all g (tk _ _ hg)).same (S1.trans U)) kp) (fun g hg => rw_kp ((all g (dk _ _ hg)).same (S1.trans U)) kp))
  have ins_bad : ∀ J y (k : Nat), Same H1 J → RowV K J y false → Q (.ref sm) (upd J sm (.lst (List.take k (rrefs gs) ++ y :: List.drop k (rrefs gs)))) := fun J y k U rv => by
    have LJ := U _ _ L1
    have kp : Kp K J (upd J sm (.lst (List.take k (rrefs gs) ++ y :: List.drop k (rrefs gs)))) := kp_lst LJ
    refine q _ _ (same_upd (S1.trans U) hsm _) (bad_mid (gs1 := gs.take k) (gs2 := gs.drop k) (by rw [← ins_eq]; exact SqL.of upd_same) (row_kp rv kp) (fun g hg => rw_kp ((all g (tk _ _ hg)).same (S1.trans U)) kp) (fun g hg => rw_kp ((all g (dk _ _ hg)).same (S1.trans U)) kp))
  by_cases e0 : c % 11 = 0
  · rw [if_pos e0]
    refine ⟨_, S1.seq L, fun tp htp => ?_⟩
    obtain ⟨J0, g, U0, X0⟩ := fresh_tup (K := K) htp (rrefs gs)
    rw [← g]
    clear g
    refine ⟨by decide, fun le hle => ?_⟩
    obtain ⟨J1, g, U1, X1⟩ := fresh_lst (K := K) hle []
    rw [← g]
    clear g
    obtain ⟨i, hi, li⟩ : ∃ i : Nat, c / 3 % 4 = (i : Int) ∧ i < 4 := ⟨(c / 3 % 4).toNat, by omega, by omega⟩
    have each : ∀ v ∈ [V.ref tp, V.ref le, V.non, V.str (Str.ofString "all")], BadRs K J1 v := by
      simp only [List.forall_mem_cons]
      exact ⟨.rows (.no (Kd.tup (Same.tup U1 X0)) (by decide)), .rows (.len X1 (by simp)), .rows (.no (k := .non) rfl (by decide)), .rows (.no (k := .str) rfl (by decide)), fun _ h => by cases h⟩
    obtain ⟨v, hv⟩ : ∃ v, ([V.ref tp, V.ref le, V.non, V.str (Str.ofString "all")] : List V)[i]? = some v := ⟨_, List.getElem?_eq_getElem (by show i < 4; omega)⟩
    exact ⟨by decide, by decide, by omega, _, (by rw [hi, Int.toNat_natCast]; exact hv), q _ _ (S1.trans (U0.trans U1)) (each v (List.mem_of_getElem? hv))⟩
  rw [if_neg e0]
  by_cases e1 : c % 11 = 1
  · rw [if_pos e1]
    refine ⟨⟨_, S1.seq L⟩, fun D hD => ?_⟩
    obtain ⟨Pc, hC⟩ : ∃ Pc : Nat → St → Hp → Prop, Pc = fun i τ H' => ∃ z, H' D = some (.lst (rrefs ((gs.take i).filter fun g => !decide (g.pf = [])))) ∧ Same H1 H' ∧ τ = [z] := ⟨_, rfl⟩
    refine compS_list (rrefs gs) Pc ?_ (fun i τ H' _ h => by rw [hC] at h; obtain ⟨z, _, e, _⟩ := h; exact (S1.trans e).seq L) ?_ ?_
    · rw [hC]
      exact ⟨_, upd_same, same_new hD _, rfl⟩
    · intro i x τ H' R' hx h next
      rw [hC] at h
      obtain ⟨z, d1, d2, rfl⟩ := h
      obtain ⟨g, hg, rfl⟩ := rrefs_at hx
      have li := (List.getElem?_eq_some_iff.mp hg).1
      have ga := (all g (List.mem_of_getElem? hg)).same (S1.trans d2)
      simp only [rInsert, tComp_eq, tComp1, slots, Option.getD_some, Option.getD_none, tYes, tSeq, tAsg, gName, tOp, tC, tVar, tCB, tCons, tNil, rI, rI0, tRet, tIfS, tTest, tMenu, tDrop, tTup, tLst, tNext, gSub, rSetL, tBM, rEq, rIxL, rIxT, Kd_non, Kd_bl, Kd_int, Kd_str, sc_non_non, sc_non_int, sc_int_non, sc_non_bl, sc_bl_non, sc_non_str, sc_str_non, sc_int_int, sc_bl_bl, sc_str_str, sc_int_str, sc_str_int, sc_bl_str, sc_str_bl, decide_true, decide_false, iList, iRng1, L2.start, cxK, Int.reduceToNat, List.map_cons, List.map_nil, List.length_cons, List.length_nil, Nat.reduceAdd, Nat.reduceSub, Nat.zero_add, List.replicate_succ, List.replicate_zero, List.cons_append, List.nil_append, List.append_nil, List.getElem?_cons_zero, List.getElem?_cons_succ, List.set_cons_zero, List.set_cons_succ, Option.some.injEq, V.int.injEq, V.bl.injEq, V.ref.injEq, V.str.injEq, V.ty.injEq, List.cons.injEq, exists_eq_left', exists_eq_left, exists_eq_right, exists_and_left, exists_and_right, and_true, true_and, and_assoc, exists_const, decide_eq_true_eq, Bool.not_eq_true', Bool.not_true, Bool.not_false, Bool.not_not, decide_eq_false_iff_not, ite_not, Bool.false_eq_true, if_true, if_false, reduceCtorEq, and_false, false_and, exists_false, or_false, false_or, ↓reduceIte, eq_self, reduceIte]
      refine ⟨_, ga.row, _, rfl, by decide, fun pe hpe => ?_⟩
      have T0 : SqT K (upd H' pe (.tup [])) pe (([] : List Int).map V.int) := SqT.of upd_same
      refine rEqS_ints (.inr ⟨Same.tup (same_new hpe _) ga.pre, T0⟩) ⟨_, rfl, ?_⟩
      have d1' := same_new hpe (.tup []) _ _ d1
      have d2' := d2.trans (same_new hpe (.tup []))
      rw [if_pos rfl]
      by_cases hp : g.pf = []
      · rw [decide_eq_true hp, if_neg (by decide)]
        refine next _ _ ?_
        rw [hC]
        refine ⟨_, ?_, d2', rfl⟩
        rw [d1', List.take_add_one, hg, List.filter_append]
        have : (Option.some g).toList.filter (fun g => !decide (g.pf = [])) = [] := by simp [hp]
        rw [this, List.append_nil]
      · rw [decide_eq_false hp, if_pos (by decide)]
        refine ⟨_, d1', Nat.lt_of_le_of_lt (m := 63) (by rw [rrefs_len]; have := List.length_filter_le (fun g : Rw => !decide (g.pf = [])) (gs.take i); rw [List.length_take] at this; omega) (by decide), next _ _ ?_⟩
        rw [hC]
        refine ⟨_, ?_, same_upd d2' hD _, rfl⟩
        rw [upd_same, List.take_add_one, hg, List.filter_append]
        have : (Option.some g).toList.filter (fun g => !decide (g.pf = [])) = [g] := by simp [hp]
        rw [this]
        unfold rrefs
        rw [List.map_append]
        rfl
    intro τ H2 h
    rw [hC] at h
    obtain ⟨z, d1, d2, rfl⟩ := h
    rw [rrefs_len, List.take_of_length_le (Nat.le_refl _)] at d1
    refine q _ _ (S1.trans d2) ?_
    obtain ⟨fs, hfs⟩ : ∃ fs, gs.filter (fun g => !decide (g.pf = [])) = fs := ⟨_, rfl⟩
    have fl : fs.length ≤ gs.length := by rw [← hfs]; exact List.length_filter_le ..
    have fin : ∀ g ∈ fs, g ∈ gs ∧ g.pf ≠ [] := fun g hg => by
      rw [← hfs] at hg
      have := List.mem_filter.mp hg
      exact ⟨this.1, fun z => by rw [z] at this; simp at this⟩
    rw [hfs] at d1
    by_cases f1 : 1 ≤ fs.length
    · have := RowsV.good (K := K) (SqL.of d1) f1 (by omega) (fun g hg => (all g (fin g hg).1).same (S1.trans d2))
      have no : okPs (pfs fs) = false := by
        unfold okPs
        rw [decide_eq_false, Bool.false_and]
        intro h
        obtain ⟨g, hg, e⟩ := List.mem_map.mp h
        exact (fin g hg).2 e
      rw [no] at this
      exact .rows this
    · exact .rows (.len (SqL.of d1) (by rw [rrefs_len]; omega))
  rw [if_neg e1]
  by_cases e2 : c % 11 = 2
  · rw [if_pos e2]
    have r0 := Int.emod_nonneg (c / 3) (show ((rrefs gs).length : Int) + 1 ≠ 0 by omega)
    have r1 := Int.emod_lt_of_pos (c / 3) (show 0 < ((rrefs gs).length : Int) + 1 by omega)
    obtain ⟨k, hk⟩ : ∃ k : Nat, c / 3 % (((rrefs gs).length : Int) + 1) = k := ⟨(c / 3 % (((rrefs gs).length : Int) + 1)).toNat, by omega⟩
    refine ⟨.inl ⟨rfl, _, SqL.of L1⟩, _, .inl (S1.seq L), by omega, _, S1.seq L, _, hix, _, rfl, _, Same.tup S1 GA.row, _, rfl, ?_⟩
    refine ⟨by decide, fun pg hpg => ?_⟩
    obtain ⟨J0, g, U0, X0⟩ := fresh_tup (K := K) hpg [V.str (Str.ofString "grown")]
    rw [← g]
    clear g
    refine ⟨by decide, fun pr hpr => ?_⟩
    obtain ⟨J1, g, U1, X1⟩ := fresh_tup (K := K) hpr [V.ref G.pp, V.ref pg]
    rw [← g]
    clear g
    have U01 := U0.trans U1
    have LJ := U01 _ _ L1
    refine ⟨_, k, hk, LJ, by omega, sm63, q _ _ (same_upd (S1.trans U01) hsm _) ?_⟩
    have kp : Kp K J1 (upd J1 sm (.lst (List.take k (rrefs gs) ++ V.ref pr :: List.drop k (rrefs gs)))) := kp_lst LJ
    have pm : (gs.take k ++ (⟨pr, G.pp, G.pf, .ref pg⟩ : Rw) :: gs.drop k).Perm (⟨pr, G.pp, G.pf, .ref pg⟩ :: gs) := by
      have := List.perm_middle (a := (⟨pr, G.pp, G.pf, .ref pg⟩ : Rw)) (l₁ := gs.take k) (l₂ := gs.drop k)
      rwa [List.take_append_drop] at this
    have er : List.take k (rrefs gs) ++ V.ref pr :: List.drop k (rrefs gs) = rrefs (gs.take k ++ ⟨pr, G.pp, G.pf, .ref pg⟩ :: gs.drop k) := by
      unfold rrefs
      rw [List.map_append, List.map_cons, List.map_take, List.map_drop]
    have LF : SqL K (upd J1 sm (.lst (List.take k (rrefs gs) ++ V.ref pr :: List.drop k (rrefs gs)))) sm (rrefs (gs.take k ++ ⟨pr, G.pp, G.pf, .ref pg⟩ :: gs.drop k)) := by
      rw [← er]
      exact SqL.of upd_same
    have ln := pm.length_eq
    rw [List.length_cons] at ln
    by_cases l24' : gs.length + 1 ≤ 24
    · have := RowsV.good LF (by omega) (by omega) (fun g hg => by
        rcases List.mem_cons.mp (pm.mem_iff.mp hg) with rfl | hg
        · exact ⟨kp.tp _ _ X1, kp.tp _ _ (Same.tup (S1.trans U01) GA.pre), GA.l4, GA.ins⟩
        · exact rw_kp ((all g hg).same (S1.trans U01)) kp)
      rw [okPs_dup (ps := pfs (gs.take k ++ (⟨pr, G.pp, G.pf, .ref pg⟩ : Rw) :: gs.drop k)) (qs := pfs gs) (p := G.pf) (List.mem_map.mpr ⟨G, List.mem_of_getElem? hG, rfl⟩) (pm.map Rw.pf)] at this
      exact .rows this
    · exact .rows (.len LF (by rw [rrefs_len]; omega))
  rw [if_neg e2]
  by_cases e3 : c % 11 = 3
  · rw [if_pos e3]
    refine ⟨by decide, fun x0 h0 => ?_⟩
    obtain ⟨J0, g, U0, X0⟩ := fresh_tup (K := K) h0 []
    rw [← g]
    clear g
    refine ⟨by decide, fun x1 h1 => ?_⟩
    obtain ⟨J1, g, U1, X1⟩ := fresh_tup (K := K) h1 [V.str (Str.ofString "grown")]
    rw [← g]
    clear g
    refine ⟨by decide, fun x2 h2 => ?_⟩
    obtain ⟨J2, g, U2, X2⟩ := fresh_tup (K := K) h2 [V.ref x0, V.ref x1]
    rw [← g]
    clear g
    refine ⟨by decide, fun x3 h3 => ?_⟩
    obtain ⟨J3, g, U3, X3⟩ : ∃ J3, J3 = upd J2 x3 (.lst [V.ref x2]) ∧ Same J2 J3 ∧ J3 x3 = some (.lst [V.ref x2]) := ⟨_, rfl, same_new h3 _, upd_same⟩
    rw [← g]
    clear g
    refine ⟨by decide, by decide, fun D hD => ?_⟩
    obtain ⟨Pc, hC⟩ : ∃ Pc : Nat → St → Hp → Prop, Pc = fun i τ H' => ∃ z xs, H' D = some (.lst xs) ∧ xs.length = i ∧ Same J3 H' ∧ τ = [z] := ⟨_, rfl⟩
    refine compS_range Pc ?_ ?_ ?_
    · rw [hC]
      exact ⟨_, [], upd_same, rfl, same_new hD _, rfl⟩
    · intro i τ H' R' hi h next
      rw [hC] at h
      obtain ⟨z, xs, d1, lx, d2, rfl⟩ := h
      simp only [rInsert, tComp_eq, tComp1, slots, Option.getD_some, Option.getD_none, tYes, tSeq, tAsg, gName, tOp, tC, tVar, tCB, tCons, tNil, rI, rI0, tRet, tIfS, tTest, tMenu, tDrop, tTup, tLst, tNext, gSub, rSetL, tBM, rEq, rIxL, rIxT, Kd_non, Kd_bl, Kd_int, Kd_str, sc_non_non, sc_non_int, sc_int_non, sc_non_bl, sc_bl_non, sc_non_str, sc_str_non, sc_int_int, sc_bl_bl, sc_str_str, sc_int_str, sc_str_int, sc_bl_str, sc_str_bl, decide_true, decide_false, iList, iRng1, L2.start, cxK, Int.reduceToNat, List.map_cons, List.map_nil, List.length_cons, List.length_nil, Nat.reduceAdd, Nat.reduceSub, Nat.zero_add, List.replicate_succ, List.replicate_zero, List.cons_append, List.nil_append, List.append_nil, List.getElem?_cons_zero, List.getElem?_cons_succ, List.set_cons_zero, List.set_cons_succ, Option.some.injEq, V.int.injEq, V.bl.injEq, V.ref.injEq, V.str.injEq, V.ty.injEq, List.cons.injEq, exists_eq_left', exists_eq_left, exists_eq_right, exists_and_left, exists_and_right, and_true, true_and, and_assoc, exists_const, decide_eq_true_eq, Bool.not_eq_true', Bool.not_true, Bool.not_false, Bool.not_not, decide_eq_false_iff_not, ite_not, Bool.false_eq_true, if_true, if_false, reduceCtorEq, and_false, false_and, exists_false, or_false, false_or, ↓reduceIte, eq_self, reduceIte]
      refine ⟨by decide, fun y0 hy0 => ?_⟩
      obtain ⟨I0, g, V0, Y0⟩ := fresh_tup (K := K) hy0 [V.int (0 + (i : Int) + 1)]
      rw [← g]
      clear g
      refine ⟨by decide, fun y1 hy1 => ?_⟩
      obtain ⟨I1, g, V1, Y1⟩ := fresh_tup (K := K) hy1 [V.str (Str.ofString "grown")]
      rw [← g]
      clear g
      refine ⟨by decide, fun y2 hy2 => ?_⟩
      obtain ⟨I2, g, V2, Y2⟩ := fresh_tup (K := K) hy2 [V.ref y0, V.ref y1]
      rw [← g]
      clear g
      have V02 := V0.trans (V1.trans V2)
      refine ⟨_, V02 _ _ d1, Nat.lt_of_le_of_lt (m := 63) (by omega) (by decide), next _ _ ?_⟩
      rw [hC]
      exact ⟨_, _, upd_same, by rw [List.length_append, lx]; rfl, same_upd (d2.trans V02) hD _, rfl⟩
    intro τ H2 h
    rw [hC] at h
    obtain ⟨z, xs, d1, lx, d2, rfl⟩ := h
    refine ⟨x3, D, [V.ref x2], xs, rfl, rfl, d2 _ _ X3, d1, Nat.le_trans (m := 64) (by rw [lx]; show 1 + 24 ≤ 64; decide) (by decide), fun nl hnl => ?_⟩
    refine q _ _ (S1.trans (U0.trans (U1.trans (U2.trans (U3.trans (d2.trans (same_new hnl _))))))) (.rows (.len (SqL.of upd_same) ?_))
    rw [List.length_append, lx]
    show ¬(1 ≤ 1 + 24 ∧ 1 + 24 ≤ 24)
    decide
  rw [if_neg e3]
  by_cases e4 : c % 11 = 4
  · rw [if_pos e4]
    refine ⟨_, S1.seq L, _, hix, _, rfl, _, .inr (Same.tup S1 GA.row), fun ln hln => ?_⟩
    obtain ⟨J0, g, U0, X0⟩ := fresh_lst (K := K) hln [V.ref G.pp, G.t]
    rw [← g]
    clear g
    exact ⟨_, U0 _ _ L1, j, hin, set_bad _ _ U0 (.no (Kd.lst X0) (by decide))⟩
  rw [if_neg e4]
  by_cases e5 : c % 11 = 5
  · rw [if_pos e5]
    refine ⟨_, S1.seq L, _, hix, ?_⟩
    refine ⟨by decide, fun x0 h0 => ?_⟩
    obtain ⟨J0, g, U0, X0⟩ := fresh_tup (K := K) h0 [V.int 1]
    rw [← g]
    clear g
    refine ⟨G.p, x0, _, _, rfl, rfl, Same.tup (S1.trans U0) GA.row, X0, (show 3 ≤ sizeLine by decide), fun p4 J1 U1 T4 => ?_⟩
    have U01 := U0.trans U1
    exact ⟨_, U01 _ _ L1, j, hin, set_bad _ _ U01 (.len T4 (by simp))⟩
  rw [if_neg e5]
  by_cases e6 : c % 11 = 6
  · rw [if_pos e6]
    refine ⟨_, S1.seq L, _, hix, _, rfl, _, Same.tup S1 GA.row, _, rfl, _, L1, j, hin, set_bad _ _ (Same.refl _) ?_⟩
    have TP := Same.tup S1 GA.pre
    by_cases h2 : G.pf.length = 2
    · obtain ⟨u1, u2, e⟩ : ∃ u1 u2, G.pf = [u1, u2] := match G.pf, h2 with | [u1, u2], _ => ⟨u1, u2, rfl⟩
      rw [e] at TP
      exact .two TP (.no (k := .int) rfl (by decide))
    · exact .len TP (by rw [List.length_map]; exact h2)
  rw [if_neg e6]
  by_cases e9 : c % 11 < 9
  · rw [if_pos e9]
    refine ⟨by decide, fun x0 h0 => ?_⟩
    obtain ⟨J0, g, U0, X0⟩ := fresh_lst (K := K) h0 [V.int 1]
    rw [← g]
    clear g
    refine ⟨by decide, fun x1 h1 => ?_⟩
    obtain ⟨J1, g, U1, X1⟩ := fresh_tup (K := K) h1 [V.int 0]
    rw [← g]
    clear g
    refine ⟨by decide, fun x2 h2 => ?_⟩
    obtain ⟨J2, g, U2, X2⟩ := fresh_tup (K := K) h2 [V.int 100]
    rw [← g]
    clear g
    refine ⟨by decide, fun x3 h3 => ?_⟩
    obtain ⟨J3, g, U3, X3⟩ := fresh_tup (K := K) h3 [V.int 1, V.int 2, V.int 3, V.int 4, V.int 5]
    rw [← g]
    clear g
    refine ⟨by decide, fun x4 h4 => ?_⟩
    obtain ⟨J4, g, U4, X4⟩ := fresh_tup (K := K) h4 [V.bl true]
    rw [← g]
    clear g
    have U04 := U0.trans (U1.trans (U2.trans (U3.trans U4)))
    obtain ⟨i, hi, li⟩ : ∃ i : Nat, c / 3 % 7 = (i : Int) ∧ i < 7 := ⟨(c / 3 % 7).toNat, by omega, by omega⟩
    have ki : ∀ {xs : List V}, (∀ x ∈ xs, (∃ i, x = V.int i) ∨ ∃ b, x = V.bl b) → ∀ x ∈ xs, Knd K J4 x := fun h x hx => by
      rcases h x hx with ⟨i, rfl⟩ | ⟨b, rfl⟩
      · exact ⟨.int, rfl⟩
      · exact ⟨.bl, rfl⟩
    have pv : ∀ {p : Addr} {xs : List V}, SqT K J4 p xs → prefB xs = false → (∀ x ∈ xs, (∃ i, x = V.int i) ∨ ∃ b, x = V.bl b) → PrefV K J4 (.ref p) false := fun T e h => by
      have := PrefV.tup T (ki h)
      rwa [e] at this
    have each : ∀ v ∈ [V.ref x0, V.ref x1, V.ref x2, V.ref x3, V.non, V.ref x4, V.str (Str.ofString "all")], PrefV K J4 v false := by
      simp only [List.forall_mem_cons]
      exact ⟨.no (Kd.lst ((U1.trans (U2.trans (U3.trans U4))).seq X0)) (by decide), pv (Same.tup (U2.trans (U3.trans U4)) X1) (by decide) (by simp), pv (Same.tup (U3.trans U4) X2) (by decide) (by simp), pv (Same.tup U4 X3) (by decide) (by simp), .no (k := .non) rfl (by decide), pv X4 (by decide) (by simp), .no (k := .str) rfl (by decide), fun _ h => by cases h⟩
    obtain ⟨v, hv⟩ : ∃ v, ([V.ref x0, V.ref x1, V.ref x2, V.ref x3, V.non, V.ref x4, V.str (Str.ofString "all")] : List V)[i]? = some v := ⟨_, List.getElem?_eq_getElem (by show i < 7; omega)⟩
    have pb := each v (List.mem_of_getElem? hv)
    refine ⟨by decide, by decide, by omega, _, (by rw [hi, Int.toNat_natCast]; exact hv), .inl ⟨rfl, _, SqL.of (U04 _ _ L1)⟩, _, (S1.trans U04).seq L, _, hix, _, rfl, _, Same.tup (S1.trans U04) GA.row, _, rfl, ?_⟩
    refine ⟨by decide, fun x5 h5 => ?_⟩
    obtain ⟨J5, g, U5, X5⟩ := fresh_tup (K := K) h5 [v, G.t]
    rw [← g]
    clear g
    have U05 := U04.trans U5
    exact ⟨_, j, rfl, U05 _ _ L1, by omega, sm63, ins_bad _ _ j U05 (.two X5 (pb.same U5))⟩
  rw [if_neg e9]
  refine ⟨by decide, fun x0 h0 => ?_⟩
  obtain ⟨J0, g, U0, X0⟩ := fresh_tup (K := K) h0 [V.str (Str.ofString "change"), V.int 0]
  rw [← g]
  clear g
  refine ⟨by decide, fun x1 h1 => ?_⟩
  obtain ⟨J1, g, U1, X1⟩ := fresh_tup (K := K) h1 [V.int 2, V.int 1]
  rw [← g]
  clear g
  refine ⟨by decide, fun x2 h2 => ?_⟩
  obtain ⟨J2, g, U2, X2⟩ := fresh_tup (K := K) h2 [V.str (Str.ofString "share"), V.ref x1]
  rw [← g]
  clear g
  refine ⟨by decide, fun x3 h3 => ?_⟩
  obtain ⟨J3, g, U3, X3⟩ := fresh_tup (K := K) h3 []
  rw [← g]
  clear g
  refine ⟨by decide, fun x4 h4 => ?_⟩
  obtain ⟨J4, g, U4, X4⟩ := fresh_lst (K := K) h4 [V.str (Str.ofString "grown")]
  rw [← g]
  clear g
  refine ⟨by decide, fun x5 h5 => ?_⟩
  obtain ⟨J5, g, U5, X5⟩ := fresh_tup (K := K) h5 [V.str (Str.ofString "grown"), V.int 1]
  rw [← g]
  clear g
  have U05 := U0.trans (U1.trans (U2.trans (U3.trans (U4.trans U5))))
  obtain ⟨i, hi, li⟩ : ∃ i : Nat, c / 3 % 6 = (i : Int) ∧ i < 6 := ⟨(c / 3 % 6).toNat, by omega, by omega⟩
  have each : ∀ v ∈ [V.ref x0, V.ref x2, V.ref x3, V.non, V.ref x4, V.ref x5], ∀ H', Kp K J5 H' → RBad K H' 4 v := by
    simp only [List.forall_mem_cons]
    refine ⟨fun H' kp => bad_change (kp.tp _ _ (Same.tup (U1.trans (U2.trans (U3.trans (U4.trans U5)))) X0)) ?_ 3, fun H' kp => bad_share (kp.tp _ _ (Same.tup (U3.trans (U4.trans U5)) X2)) ?_ 3, fun H' kp => .nil (kp.tp _ _ (Same.tup (U4.trans U5) X3)), fun H' kp => .no (k := .non) rfl (by decide), fun H' kp => .no (kp.kd _ _ (Kd.lst (U5.seq X4))) (by decide), fun H' kp => .one (kp.tp _ _ X5) (.inl (by decide)) ⟨(fun h => nomatch h), (fun v _ h => absurd h (by decide)), (fun v _ h => absurd h (by decide))⟩, fun _ h => by cases h⟩
    · have e1 : DeV K H' (.int 0) (decide ((1 : Int) ≤ 0 ∧ (0 : Int) ≤ 4)) := .int
      exact e1
    · have e2 : SoV K H' (.ref x1) (decide (ShOk 2 1)) := .two (kp.tp _ _ (Same.tup (U2.trans (U3.trans (U4.trans U5))) X1))
      rw [decide_eq_false (fun h : ShOk 2 1 => absurd h.2.1 (by decide))] at e2
      exact e2
  obtain ⟨v, hv⟩ : ∃ v, ([V.ref x0, V.ref x2, V.ref x3, V.non, V.ref x4, V.ref x5] : List V)[i]? = some v := ⟨_, List.getElem?_eq_getElem (by show i < 6; omega)⟩
  have rb := each v (List.mem_of_getElem? hv)
  refine ⟨by decide, by decide, by omega, _, (by rw [hi, Int.toNat_natCast]; exact hv), _, (S1.trans U05).seq L, _, hix, _, rfl, _, Same.tup (S1.trans U05) GA.row, _, rfl, ?_⟩
  refine ⟨by decide, fun x6 h6 => ?_⟩
  obtain ⟨J6, g, U6, X6⟩ := fresh_tup (K := K) h6 [V.ref G.pp, v]
  rw [← g]
  clear g
  have U06 := U05.trans U6
  have LJ := U06 _ _ L1
  refine ⟨_, LJ, j, hin, q _ _ (same_upd (S1.trans U06) hsm _) ?_⟩
  have kp : Kp K J6 (upd J6 sm (.lst ((rrefs gs).set j (.ref x6)))) := kp_lst LJ
  have kp5 : Kp K J5 (upd J6 sm (.lst ((rrefs gs).set j (.ref x6)))) := (Kp.of U6).trans kp
  have er : (rrefs gs).set j (.ref x6) = rrefs (gs.take j ++ ⟨x6, G.pp, G.pf, v⟩ :: gs.drop (j + 1)) := by
    rw [set_eq jl]
    unfold rrefs
    rw [List.map_append, List.map_cons]
  have ep : pfs (gs.take j ++ ⟨x6, G.pp, G.pf, v⟩ :: gs.drop (j + 1)) = pfs gs := by
    have hs : gs = gs.take j ++ G :: gs.drop (j + 1) := by
      have := List.take_append_drop j gs
      rw [List.drop_eq_getElem_cons jl] at this
      have e : gs[j] = G := Option.some.inj ((List.getElem?_eq_getElem jl).symm.trans hG)
      rw [e] at this
      exact this.symm
    have h2 := congrArg pfs hs
    unfold pfs at h2 ⊢
    rw [List.map_append, List.map_cons] at h2 ⊢
    exact h2.symm
  have tol : ∀ {g : Rw} {r : Rl}, TolA K H g.t r → TolA K (upd J6 sm (.lst ((rrefs gs).set j (.ref x6)))) g.t r := fun R => (keeps_lst LJ).tol (R.same (S1.trans U06))
  refine .rule (gs1 := gs.take j) (gs2 := gs.drop (j + 1)) (g := ⟨x6, G.pp, G.pf, v⟩) (by rw [← er]; exact SqL.of upd_same) ?_ ?_ (by rw [ep]; exact okPs_of nd he) ?_ (rb _ kp5)
  · rw [List.length_append, List.length_cons, List.length_take, List.length_drop]
    omega
  · intro x hx
    rcases List.mem_append.mp hx with hx | hx
    · exact rw_kp ((all x (tk _ _ hx)).same (S1.trans U06)) kp
    · rcases List.mem_cons.mp hx with rfl | hx
      · exact ⟨kp.tp _ _ X6, kp.tp _ _ (Same.tup (S1.trans U06) GA.pre), GA.l4, GA.ins⟩
      · exact rw_kp ((all x (dk _ _ hx)).same (S1.trans U06)) kp
  · intro x hx
    obtain ⟨r, R, o, dd⟩ := tols x (tk _ _ hx)
    exact ⟨r, tol R, o, dd⟩
end

theorem rEqD_self {K : PySem.W.Frag} {H : Hp} {x y : V} {d : PyData} {neg : Bool} {Q : VK} (h1 : Rep K H x d) (h2 : Rep K H y d) (fd : flatD d) (hq : Q (.bl (!neg)) H) : rEqD K neg x y H Q :=
  ⟨d, d, h1, h2, fd, fd, by
    rw [SeqAt.eqv_refl d fd.1]
    cases neg with
    | true => exact hq
    | false => exact hq⟩

def spRefused (K : PySem.W.Frag) : Sp := fun vs H Q _ => ∃ v, vs = [v] ∧ BadRs K H v ∧ ∀ H', Same H H' → Q (.bl true) H'
theorem near_one {rs : List (Addr × List Int)} {ns : List Int} {n j k : Nat} (a : Near rs ns n (some j)) (b : Near rs ns n (some k)) : j = k := by
  obtain ⟨p, hj, hp, ap, mp⟩ := a
  obtain ⟨r, hk, hr, ar, mr⟩ := b
  obtain ⟨x1, x2⟩ := mp k r hk hr ar
  obtain ⟨y1, y2⟩ := mr j p hj hp ap
  have e : r.2.length = p.2.length := Nat.le_antisymm x1 y1
  have := x2 e
  have := y2 e.symm
  omega
section
variable {P : Program} {w : World} {K : PySem.W.Frag} {mg : Str → Option Value} {base : Heap} {f : Addr} {fd : FuncData} {cs : RC}
theorem ok_law_refused {c_NoRule c_TariffError c_NoLot c_NoNumber : Addr} (F : Fun K "_law_refused" "_law_refused" s_law_refused f fd) (M : Mg mg) (C_rules_of : Cal P w K mg base (CXE P w) "rules_of" 11 ["rows"] (spRulesOf K c_NoRule))
    (A_NoRule : mg "NoRule" = some (.ref c_NoRule)) (A_NoLot : mg "NoLot" = some (.ref c_NoLot)) (A_NoNumber : mg "NoNumber" = some (.ref c_NoNumber))
    (X_TariffError : XCatch K mg "TariffError" c_TariffError) (K_N : XCls K c_NoRule) (sub : PySem.W.subIn K (.ref c_NoRule) (.ref c_TariffError) = some true) (f1 : PySem.W.kitOne K (.ref c_NoRule) (.ref c_NoLot) = some false) (f2 : PySem.W.kitOne K (.ref c_NoRule) (.ref c_NoNumber) = some false) (t1 : PySem.W.kitOne K (.ref c_NoRule) (.ref c_NoRule) = some true) :
    FnOk P w K mg base CX0 12 f fd ["_law_rows_here"] (spRefused K) := by
  refine F.ok sc_law_refused (fun vs H Q E h => ?_) (fun cdv A outer s H vs Q E hr h => ?_)
  · obtain ⟨v, rfl, _⟩ := h
    rfl
  obtain ⟨v, rfl, B, q⟩ := h
  refine ⟨_, (@pss_cons _ _ _ _ _ (@ps_try _ _ _ _ _ _ 1 _ _ _ _ _ _ _ _ _ _ _ _ _ _ _ rfl rfl rfl rfl C_rules_of hr g_law_refused_rules_of (@pa_cons _ _ _ _ _ (@pe_var _ 0 _ _ rfl v_law_refused_0 dn__law_rows_here dc__law_rows_here) (@pa_nil _) (star1 rfl)) g_law_refused_TariffError X_TariffError sc_law_refused.nd rfl rfl rfl (fun _ => (@pss_one _ _ _ (@ps_ret _ _ _ _ (@pe_and _ _ _ _ _ _ _ (@pe_callB _ _ _ _ _ _ _ _ _ (call_isiX (K := K) rfl) g_law_refused_isinstance M.m_isinstance b_isinstance (@pa_cons _ _ _ _ _ (@pe_var _ 1 _ _ rfl v_law_refused_1 dn_e dc_e) (@pa_cons _ _ _ _ _ (@pe_glob _ _ _ _ _ g_law_refused_NoRule A_NoRule (show RelV (.ref c_NoRule) _ from rfl) dn_NoRule) (@pa_nil _) (star1 rfl)) (star1 rfl)) nn_isinstance dn_isinstance (star1 rfl) (nost1 rfl nost0)) (@pe_and _ _ _ _ _ _ _ (@pe_not _ _ _ _ (@pe_callB _ _ _ _ _ _ _ _ _ (call_isiX (K := K) rfl) g_law_refused_isinstance M.m_isinstance b_isinstance (@pa_cons _ _ _ _ _ (@pe_var _ 1 _ _ rfl v_law_refused_1 dn_e dc_e) (@pa_cons _ _ _ _ _ (@pe_glob _ _ _ _ _ g_law_refused_NoLot A_NoLot (show RelV (.ref c_NoLot) _ from rfl) dn_NoLot) (@pa_nil _) (star1 rfl)) (star1 rfl)) nn_isinstance dn_isinstance (star1 rfl) (nost1 rfl nost0))) (@pe_one _ _ _ _ _ (@pe_not _ _ _ _ (@pe_callB _ _ _ _ _ _ _ _ _ (call_isiX (K := K) rfl) g_law_refused_isinstance M.m_isinstance b_isinstance (@pa_cons _ _ _ _ _ (@pe_var _ 1 _ _ rfl v_law_refused_1 dn_e dc_e) (@pa_cons _ _ _ _ _ (@pe_glob _ _ _ _ _ g_law_refused_NoNumber A_NoNumber (show RelV (.ref c_NoNumber) _ from rfl) dn_NoNumber) (@pa_nil _) (star1 rfl)) (star1 rfl)) nn_isinstance dn_isinstance (star1 rfl) (nost1 rfl nost0))))))))) (by decide) dn_rules_of dn_TariffError (star1 rfl) nost0 (swap1 rfl)) (@pss_one _ _ _ (@ps_ret _ _ _ _ (@pe_bl _ _ _ _)))), ?_⟩
  simp only [tTry, slots, Option.getD_some, Option.getD_none, tSeq, tC, tVar, tCB, tCons, tNil, tRet, tAndV, tNotV, Kd_non, Kd_bl, Kd_int, Kd_str, decide_true, decide_false, L2.start, cxK, Int.reduceToNat, List.map_cons, List.map_nil, List.length_cons, List.length_nil, Nat.reduceAdd, Nat.reduceSub, Nat.zero_add, List.replicate_succ, List.replicate_zero, List.cons_append, List.nil_append, List.append_nil, List.getElem?_cons_zero, List.getElem?_cons_succ, List.set_cons_zero, List.set_cons_succ, Option.some.injEq, V.int.injEq, V.bl.injEq, V.ref.injEq, V.str.injEq, V.ty.injEq, List.cons.injEq, exists_eq_left', exists_eq_left, exists_eq_right, exists_and_left, exists_and_right, and_true, true_and, and_assoc, exists_const, decide_eq_true_eq, Bool.not_eq_true', Bool.not_true, Bool.not_false, Bool.not_not, decide_eq_false_iff_not, ite_not, Bool.false_eq_true, if_true, if_false, reduceCtorEq, and_false, false_and, exists_false, or_false, false_or, ↓reduceIte, eq_self, reduceIte]
  refine .inr ⟨_, rfl, B, fun H' e => ⟨_, rfl, sub, fun a ha => ?_⟩⟩
  have hx : upd H' a (excO a c_NoRule) a = some (excO a c_NoRule) := upd_same
  refine isiX_one hx K_N t1 ?_
  simp only [tTry, slots, Option.getD_some, Option.getD_none, tSeq, tC, tVar, tCB, tCons, tNil, tRet, tAndV, tNotV, Kd_non, Kd_bl, Kd_int, Kd_str, decide_true, decide_false, L2.start, cxK, Int.reduceToNat, List.map_cons, List.map_nil, List.length_cons, List.length_nil, Nat.reduceAdd, Nat.reduceSub, Nat.zero_add, List.replicate_succ, List.replicate_zero, List.cons_append, List.nil_append, List.append_nil, List.getElem?_cons_zero, List.getElem?_cons_succ, List.set_cons_zero, List.set_cons_succ, Option.some.injEq, V.int.injEq, V.bl.injEq, V.ref.injEq, V.str.injEq, V.ty.injEq, List.cons.injEq, exists_eq_left', exists_eq_left, exists_eq_right, exists_and_left, exists_and_right, and_true, true_and, and_assoc, exists_const, decide_eq_true_eq, Bool.not_eq_true', Bool.not_true, Bool.not_false, Bool.not_not, decide_eq_false_iff_not, ite_not, Bool.false_eq_true, if_true, if_false, reduceCtorEq, and_false, false_and, exists_false, or_false, false_or, ↓reduceIte, eq_self, reduceIte]
  refine isiX_one hx K_N f1 ?_
  simp only [tTry, slots, Option.getD_some, Option.getD_none, tSeq, tC, tVar, tCB, tCons, tNil, tRet, tAndV, tNotV, Kd_non, Kd_bl, Kd_int, Kd_str, decide_true, decide_false, L2.start, cxK, Int.reduceToNat, List.map_cons, List.map_nil, List.length_cons, List.length_nil, Nat.reduceAdd, Nat.reduceSub, Nat.zero_add, List.replicate_succ, List.replicate_zero, List.cons_append, List.nil_append, List.append_nil, List.getElem?_cons_zero, List.getElem?_cons_succ, List.set_cons_zero, List.set_cons_succ, Option.some.injEq, V.int.injEq, V.bl.injEq, V.ref.injEq, V.str.injEq, V.ty.injEq, List.cons.injEq, exists_eq_left', exists_eq_left, exists_eq_right, exists_and_left, exists_and_right, and_true, true_and, and_assoc, exists_const, decide_eq_true_eq, Bool.not_eq_true', Bool.not_true, Bool.not_false, Bool.not_not, decide_eq_false_iff_not, ite_not, Bool.false_eq_true, if_true, if_false, reduceCtorEq, and_false, false_and, exists_false, or_false, false_or, ↓reduceIte, eq_self, reduceIte]
  refine isiX_one hx K_N f2 ?_
  simp only [tTry, slots, Option.getD_some, Option.getD_none, tSeq, tC, tVar, tCB, tCons, tNil, tRet, tAndV, tNotV, Kd_non, Kd_bl, Kd_int, Kd_str, decide_true, decide_false, L2.start, cxK, Int.reduceToNat, List.map_cons, List.map_nil, List.length_cons, List.length_nil, Nat.reduceAdd, Nat.reduceSub, Nat.zero_add, List.replicate_succ, List.replicate_zero, List.cons_append, List.nil_append, List.append_nil, List.getElem?_cons_zero, List.getElem?_cons_succ, List.set_cons_zero, List.set_cons_succ, Option.some.injEq, V.int.injEq, V.bl.injEq, V.ref.injEq, V.str.injEq, V.ty.injEq, List.cons.injEq, exists_eq_left', exists_eq_left, exists_eq_right, exists_and_left, exists_and_right, and_true, true_and, and_assoc, exists_const, decide_eq_true_eq, Bool.not_eq_true', Bool.not_true, Bool.not_false, Bool.not_not, decide_eq_false_iff_not, ite_not, Bool.false_eq_true, if_true, if_false, reduceCtorEq, and_false, false_and, exists_false, or_false, false_or, ↓reduceIte, eq_self, reduceIte]
  exact q _ (e.trans (same_new ha _))
theorem ok_law {cN : Addr} (F : Fun K "law" "law" s_law f fd) (M : Mg mg) (C_rules_of : Cal P w K mg base (CXE P w) "rules_of" 11 ["rows"] (spRulesOf K cN)) (C_rule_for : Cal P w K mg base CX0 "rule_for" 3 ["rules", "number"] (spRuleFor K)) (C_law_cell_at : Cal P w K mg base CX0 "_law_cell_at" 1 ["_law_script", "_law_k"] (spCellAt K)) (C_law_mix : Cal P w K mg base CX0 "_law_mix" 1 ["_law_cell", "_law_by"] spMix) (C_law_number : Cal P w K mg base CX0 "_law_number" 2 ["_law_cell"] (spNumber K))
    (C_law_rows : Cal P w K mg base CX0 "_law_rows" 8 ["_law_script"] (spRows K)) (C_law_spoilt : Cal P w K mg base CX0 "_law_spoilt" 1 ["_law_rows_here", "_law_cell"] (spSpoilt K)) (C_law_refused : Cal P w K mg base CX0 "_law_refused" 12 ["_law_rows_here"] (spRefused K)) (C_law_due : Cal P w K mg base CX0 "_law_due" 1 ["_law_rows_here", "_law_number_here"] (spDue K)) : FnOk P w K mg base CX0 13 f fd ["_law_script"] (spLaw K) := by
  refine F.ok sc_law (fun vs H Q E h => ?_) (fun cdv A outer s H vs Q E hr h => ?_)
  · obtain ⟨a, ns, rfl, _⟩ := h
    rfl
  obtain ⟨a, ns, rfl, hS, hl, q⟩ := h
  refine ⟨_, (@pss_cons _ _ _ _ _ (@ps_set _ _ 1 _ _ _ _ sc_law.nd rfl l_law_1 (@pe_callC _ _ _ _ _ _ _ _ _ _ _ C_law_rows hr g_law__law_rows (@pa_cons _ _ _ _ _ (@pe_var _ 0 _ _ rfl v_law_0 dn__law_script dc__law_script) (@pa_nil _) (star1 rfl)) (by decide) dn__law_rows (star1 rfl) nost0) (swap1 rfl) (.inl rfl)) (@pss_cons _ _ _ _ _ (@ps_set _ _ 2 _ _ _ _ sc_law.nd rfl l_law_2 (@pe_callTy _ _ _ _ _ _ _ _ _ call_listL g_law_list M.m_list b_list (@pa_cons _ _ _ _ _ (@pe_var _ 1 _ _ rfl v_law_1 dn__law_rows_here dc__law_rows_here) (@pa_nil _) (star1 rfl)) nn_list dn_list (star1 rfl) nost0) (swap1 rfl) (.inl rfl)) (@pss_cons _ _ _ _ _ (@ps_set _ _ 3 _ _ _ _ sc_law.nd rfl l_law_3 (@pe_callN _ _ _ _ _ _ _ _ _ _ _ C_rules_of hr g_law_rules_of (@pa_cons _ _ _ _ _ (@pe_var _ 2 _ _ rfl v_law_2 dn__law_handed dc__law_handed) (@pa_nil _) (star1 rfl)) (by decide) dn_rules_of (star1 rfl) nost0) (swap1 rfl) (.inl rfl)) (@pss_cons _ _ _ _ _ (@ps_if _ _ _ _ _ _ _ _ (@PW.pt _ _ _ (@pw_or _ _ _ _ _ _ _ (@pt_not _ _ _ _ (@pt_val _ _ _ (@pe_callB _ _ _ _ _ _ _ _ _ call_isi g_law_isinstance M.m_isinstance b_isinstance (@pa_cons _ _ _ _ _ (@pe_var _ 3 _ _ rfl v_law_3 dn__law_rules dc__law_rules) (@pa_cons _ _ _ _ _ (@pe_bltn _ _ (.ty "list") _ _ g_law_list M.m_list b_list rfl nn_list dn_list) (@pa_nil _) (star1 rfl)) (star1 rfl)) nn_isinstance dn_isinstance (star1 rfl) (nost1 rfl nost0)) (test1 rfl))) (@pw_or _ _ _ _ _ _ _ (@pt_cmpR _ _ _ _ _ _ _ _ (@op_neS _ (Nat.lt_of_succ_lt (hu_of hr))) (@pe_var _ 3 _ _ rfl v_law_3 dn__law_rules dc__law_rules) (@pe_var _ 1 _ _ rfl v_law_1 dn__law_rows_here dc__law_rows_here) (nomark _)) (@pw_or1 _ _ _ _ (@pt_cmpR _ _ _ _ _ _ _ _ (@op_neS _ (Nat.lt_of_succ_lt (hu_of hr))) (@pe_var _ 2 _ _ rfl v_law_2 dn__law_handed dc__law_handed) (@pe_var _ 1 _ _ rfl v_law_1 dn__law_rows_here dc__law_rows_here) (nomark _)))))) (@pss_one _ _ _ (@ps_ret _ _ _ _ (@pe_bl _ _ _ _))) (@pss_nil _)) (@pss_cons _ _ _ _ _ (@ps_if _ _ _ _ _ _ _ _ (@pt_not _ _ _ _ (@pt_val _ _ _ (@pe_callC _ _ _ _ _ _ _ _ _ _ _ C_law_refused hr g_law__law_refused (@pa_cons _ _ _ _ _ (@pe_callC _ _ _ _ _ _ _ _ _ _ _ C_law_spoilt hr g_law__law_spoilt (@pa_cons _ _ _ _ _ (@pe_var _ 1 _ _ rfl v_law_1 dn__law_rows_here dc__law_rows_here) (@pa_cons _ _ _ _ _ (@pe_callC _ _ _ _ _ _ _ _ _ _ _ C_law_mix hr g_law__law_mix (@pa_cons _ _ _ _ _ (@pe_callC _ _ _ _ _ _ _ _ _ _ _ C_law_cell_at hr g_law__law_cell_at (@pa_cons _ _ _ _ _ (@pe_var _ 0 _ _ rfl v_law_0 dn__law_script dc__law_script) (@pa_cons _ _ _ _ _ (@pe_int _ _ _ _) (@pa_nil _) (star1 rfl)) (star1 rfl)) (by decide) dn__law_cell_at (star1 rfl) (nost1 rfl nost0)) (@pa_cons _ _ _ _ _ (@pe_int _ _ _ _) (@pa_nil _) (star1 rfl)) (star1 rfl)) (by decide) dn__law_mix (star1 rfl) (nost1 rfl nost0)) (@pa_nil _) (star1 rfl)) (star1 rfl)) (by decide) dn__law_spoilt (star1 rfl) (nost1 rfl nost0)) (@pa_nil _) (star1 rfl)) (by decide) dn__law_refused (star1 rfl) nost0) (test1 rfl))) (@pss_one _ _ _ (@ps_ret _ _ _ _ (@pe_bl _ _ _ _))) (@pss_nil _)) (@pss_cons _ _ _ _ _ (@ps_for _ _ _ _ _ _ _ _ PassesOwn.never rfl (@pi_range1 _ _ _ _ _ _ g_law_range M.m_range (@pa_cons _ _ _ _ _ (@pe_int _ _ _ _) (@pa_nil _) (star1 rfl)) (star1' rfl)) (@pg_name _ _ 4 _ sc_law.nd rfl l_law_4 (.inl rfl)) (@pss_one _ _ _ (@ps_for _ _ _ _ _ _ _ _ PassesOwn.never rfl (@pi_list _ _ _ _ (@pe_op _ _ _ _ _ _ _ _ (@op_cat _) (@pe_slice _ _ _ _ _ _ _ _ _ _ (@sl_list _) (@pe_var _ 0 _ _ rfl v_law_0 dn__law_script dc__law_script) (@po_some _ _ _ (@pe_int _ _ _ _)) (@po_some _ _ _ (@pe_int _ _ _ _))) (@pe_lst _ _ _ _ (@pa_cons _ _ _ _ _ (@pe_callC _ _ _ _ _ _ _ _ _ _ _ C_law_cell_at hr g_law__law_cell_at (@pa_cons _ _ _ _ _ (@pe_var _ 0 _ _ rfl v_law_0 dn__law_script dc__law_script) (@pa_cons _ _ _ _ _ (@pe_int _ _ _ _) (@pa_nil _) (star1 rfl)) (star1 rfl)) (by decide) dn__law_cell_at (star1 rfl) (nost1 rfl nost0)) (@pa_nil _) (star1 rfl))))) (@pg_name _ _ 5 _ sc_law.nd rfl l_law_5 (.inl rfl)) (@pss_cons _ _ _ _ _ (@ps_set _ _ 6 _ _ _ _ sc_law.nd rfl l_law_6 (@pe_callC _ _ _ _ _ _ _ _ _ _ _ C_law_number hr g_law__law_number (@pa_cons _ _ _ _ _ (@pe_op _ _ _ _ _ _ _ _ (@op_fdivB _) (@pe_var _ 5 _ _ rfl v_law_5 dn__law_cell dc__law_cell) (@pe_int _ _ _ _)) (@pa_nil _) (star1 rfl)) (by decide) dn__law_number (star1 rfl) nost0) (swap1 rfl) (.inl rfl)) (@pss_cons _ _ _ _ _ (@ps_set _ _ 7 _ _ _ _ sc_law.nd rfl l_law_7 (@pe_callC _ _ _ _ _ _ _ _ _ _ _ C_rule_for hr g_law_rule_for (@pa_cons _ _ _ _ _ (@pe_var _ 3 _ _ rfl v_law_3 dn__law_rules dc__law_rules) (@pa_cons _ _ _ _ _ (@pe_var _ 6 _ _ rfl v_law_6 dn__law_number_here dc__law_number_here) (@pa_nil _) (star1 rfl)) (star1 rfl)) (by decide) dn_rule_for (star1 rfl) (nost1 rfl nost0)) (swap1 rfl) (.inl rfl)) (@pss_one _ _ _ (@ps_if _ _ _ _ _ _ _ _ (@PW.pt _ _ _ (@pw_or _ _ _ _ _ _ _ (@pt_not _ _ _ _ (@pt_val _ _ _ (@pe_callB _ _ _ _ _ _ _ _ _ call_isi g_law_isinstance M.m_isinstance b_isinstance (@pa_cons _ _ _ _ _ (@pe_var _ 7 _ _ rfl v_law_7 dn__law_found dc__law_found) (@pa_cons _ _ _ _ _ (@pe_bltn _ _ (.ty "tuple") _ _ g_law_tuple M.m_tuple b_tuple rfl nn_tuple dn_tuple) (@pa_nil _) (star1 rfl)) (star1 rfl)) nn_isinstance dn_isinstance (star1 rfl) (nost1 rfl nost0)) (test1 rfl))) (@pw_or1 _ _ _ _ (@pt_cmpR _ _ _ _ _ _ _ _ (op_neD (hu60 hr)) (@pe_var _ 7 _ _ rfl v_law_7 dn__law_found dc__law_found) (@pe_callC _ _ _ _ _ _ _ _ _ _ _ C_law_due hr g_law__law_due (@pa_cons _ _ _ _ _ (@pe_var _ 1 _ _ rfl v_law_1 dn__law_rows_here dc__law_rows_here) (@pa_cons _ _ _ _ _ (@pe_var _ 6 _ _ rfl v_law_6 dn__law_number_here dc__law_number_here) (@pa_nil _) (star1 rfl)) (star1 rfl)) (by decide) dn__law_due (star1 rfl) (nost1 rfl nost0)) (nomark _))))) (@pss_one _ _ _ (@ps_ret _ _ _ _ (@pe_bl _ _ _ _))) (@pss_nil _))))) (by intro _; rfl))) (by intro _; rfl)) (@pss_cons _ _ _ _ _ (@ps_expr _ _ _ _ (@pe_bm _ _ _ _ _ _ _ _ _ _ _ _ PySem.F.plainAttrs_list PySem.F.slot_list_append PySem.F.type_list_append mt_append (@pe_var _ 2 _ _ rfl v_law_2 dn__law_handed dc__law_handed) (@pa_cons _ _ _ _ _ (@pe_non _ _ _) (@pa_nil _) (star1 rfl)) (by rfl) (by rfl) (by rfl) (by rfl) (by rfl)) (swap1 rfl)) (@pss_cons _ _ _ _ _ (@ps_set _ _ 8 _ _ _ _ sc_law.nd rfl l_law_8 (@pe_op _ _ _ _ _ _ _ _ (@op_cat _) (@pe_lst _ _ _ _ (@pa_cons _ _ _ _ _ (@pe_tup _ _ _ _ _ (@pa_cons _ _ _ _ _ (@pe_tup _ _ _ _ _ (@pa_nil _)) (@pa_cons _ _ _ _ _ (@pe_tup _ _ _ _ _ (@pa_cons _ _ _ _ _ (@pe_str _ _ _ _) (@pa_nil _) (star1 rfl))) (@pa_nil _) (star1 rfl)) (star1 rfl))) (@pa_nil _) (star1 rfl))) (@pe_comp _ _ _ _ _ _ _ _ _ _ _ _ _ _ _ rfl (CompOk.make (N' := ["_law_k"]) (ix := []) (nl := 1) (by rfl) fm0 (by rfl) (by decide +kernel) rfl (by decide +kernel) rfl True.intro) (@pi_range1 _ _ _ _ _ _ g_law_range M.m_range (@pa_cons _ _ _ _ _ (@pe_int _ _ _ _) (@pa_nil _) (star1 rfl)) (star1' rfl)) (fun _ _ _ _ _ => (@pg_name _ _ 0 _ (show List.Nodup (["_law_k"] : List Str) from by decide) rfl (Or.inl rfl) (by first | exact .inl rfl | exact .inr rfl | assumption))) (fun _ _ _ _ _ => (@pif_nil _)) (fun _ _ _ _ _ => (@pe_tup _ _ _ _ _ (@pa_cons _ _ _ _ _ (@pe_tup _ _ _ _ _ (@pa_cons _ _ _ _ _ (@pe_op _ _ _ _ _ _ _ _ (@op_add _) (@pv _ 0 _ _ (by rfl) (by first | exact Or.inl rfl | exact Or.inr (Or.inl rfl) | exact Or.inr (Or.inr rfl)) (by decide) (by decide)) (@pe_int _ _ _ _)) (@pa_nil _) (star1 rfl))) (@pa_cons _ _ _ _ _ (@pe_tup _ _ _ _ _ (@pa_cons _ _ _ _ _ (@pe_str _ _ _ _) (@pa_nil _) (star1 rfl))) (@pa_nil _) (star1 rfl)) (star1 rfl)))) (by intro _; rfl))) (swap1 rfl) (.inl rfl)) (@pss_one _ _ _ (@ps_ret _ _ _ _ (@pe_and _ _ _ _ _ _ _ (@pe_cmpR _ _ _ _ _ _ _ _ (@op_eqS _ (Nat.lt_of_succ_lt (hu_of hr))) (@pe_var _ 3 _ _ rfl v_law_3 dn__law_rules dc__law_rules) (@pe_var _ 1 _ _ rfl v_law_1 dn__law_rows_here dc__law_rows_here) (nomark _)) (@pe_and _ _ _ _ _ _ _ (@pe_cmpR _ _ _ _ _ _ _ _ (@op_eqS _ (Nat.lt_of_succ_lt (hu_of hr))) (@pe_callN _ _ _ _ _ _ _ _ _ _ _ C_rules_of hr g_law_rules_of (@pa_cons _ _ _ _ _ (@pe_callTy _ _ _ _ _ _ _ _ _ call_listL g_law_list M.m_list b_list (@pa_cons _ _ _ _ _ (@pe_var _ 1 _ _ rfl v_law_1 dn__law_rows_here dc__law_rows_here) (@pa_nil _) (star1 rfl)) nn_list dn_list (star1 rfl) nost0) (@pa_nil _) (star1 rfl)) (by decide) dn_rules_of (star1 rfl) nost0) (@pe_var _ 1 _ _ rfl v_law_1 dn__law_rows_here dc__law_rows_here) (nomark _)) (@pe_one _ _ _ _ _ (@pe_cmpR _ _ _ _ _ _ _ _ (@op_eqS _ (Nat.lt_of_succ_lt (hu_of hr))) (@pe_callN _ _ _ _ _ _ _ _ _ _ _ C_rules_of hr g_law_rules_of (@pa_cons _ _ _ _ _ (@pe_callTy _ _ _ _ _ _ _ _ _ call_listL g_law_list M.m_list b_list (@pa_cons _ _ _ _ _ (@pe_var _ 8 _ _ rfl v_law_8 dn__law_most dc__law_most) (@pa_nil _) (star1 rfl)) nn_list dn_list (star1 rfl) nost0) (@pa_nil _) (star1 rfl)) (by decide) dn_rules_of (star1 rfl) nost0) (@pe_var _ 8 _ _ rfl v_law_8 dn__law_most dc__law_most) (nomark _))))))))))))))), ?_⟩
  simp only [tComp_eq, tComp1, slots, Option.getD_some, Option.getD_none, tYes, tSeq, tAsg, gName, tOp, tC, tVar, tCB, tCons, tNil, tCall, rI, rI0, tRet, tIfS, tTest, tB, tOr, tNot, tAndV, tDrop, tTup, tLst, tNext, tSl, tPart, tBM, rAppend, rIsi, rSlL, isi_non_bl, isi_non_int, isi_non_str, isi_non_lst, isi_non_tup, isi_bl_bl, isi_bl_int, isi_bl_str, isi_bl_lst, isi_bl_tup, isi_int_bl, isi_int_int, isi_int_str, isi_int_lst, isi_int_tup, isi_str_bl, isi_str_int, isi_str_str, isi_str_lst, isi_str_tup, isi_lst_bl, isi_lst_int, isi_lst_str, isi_lst_lst, isi_lst_tup, isi_tup_bl, isi_tup_int, isi_tup_str, isi_tup_lst, isi_tup_tup, isi_dct_bl, isi_dct_int, isi_dct_str, isi_dct_lst, isi_dct_tup, Kd_non, Kd_bl, Kd_int, Kd_str, decide_true, decide_false, tFor_eq, iList, iRng1, tyK_int, tyK_bool, tyK_str, tyK_list, tyK_tuple, L2.start, cxK, Int.reduceToNat, List.map_cons, List.map_nil, List.length_cons, List.length_nil, Nat.reduceAdd, Nat.reduceSub, Nat.zero_add, List.replicate_succ, List.replicate_zero, List.cons_append, List.nil_append, List.append_nil, List.getElem?_cons_zero, List.getElem?_cons_succ, List.set_cons_zero, List.set_cons_succ, Option.some.injEq, V.int.injEq, V.bl.injEq, V.ref.injEq, V.str.injEq, V.ty.injEq, List.cons.injEq, exists_eq_left', exists_eq_left, exists_eq_right, exists_and_left, exists_and_right, and_true, true_and, and_assoc, exists_const, decide_eq_true_eq, Bool.not_eq_true', Bool.not_true, Bool.not_false, Bool.not_not, decide_eq_false_iff_not, ite_not, Bool.false_eq_true, if_true, if_false, reduceCtorEq, and_false, false_and, exists_false, or_false, false_or, ↓reduceIte, eq_self, reduceIte]
  refine ⟨a, ns, rfl, hS, hl, fun l gs H1 hl0 S1 L l1 l24 all nd he tols => ?_⟩
  refine ⟨l, rfl, _, SqL.of L, fun hd hhd => ?_⟩
  obtain ⟨H2, g2, S2, Lh⟩ : ∃ H2, H2 = upd H1 hd (.lst (rrefs gs)) ∧ Same H1 H2 ∧ H2 hd = some (.lst (rrefs gs)) := ⟨_, rfl, same_new hhd _, upd_same⟩
  rw [← g2]
  clear g2
  have okp := okPs_of nd he
  have tolsS : ∀ {H'}, Same H1 H' → ∀ g ∈ gs, ∃ r : Rl, TolA K H' g.t r ∧ r.ok ∧ r.dp ≤ 4 := fun e g hg => by
    obtain ⟨r, R, o, d⟩ := tols g hg
    exact ⟨r, R.same e, o, d⟩
  have allS : ∀ {H'}, Same H1 H' → ∀ g ∈ gs, RwAt K H' g := fun e g hg => (all g hg).same e
  refine .inl ⟨hd, gs, rfl, SqL.of Lh, l1, l24, allS S2, okp, tolsS S2, fun rl H3 hrl S3 Lr => ?_⟩
  have S13 := S2.trans S3
  have rne : rl ≠ hd := fun e => by rw [e, Lh] at hrl; cases hrl
  have hne : hd ≠ l := fun e => by rw [e, L] at hhd; cases hhd
  have L3 := S13 _ _ L
  refine ⟨_, Kd.lst (SqL.of Lr), ?_⟩
  rw [if_neg (by decide)]
  refine rEqS_same (.inl ⟨SqL.of Lr, SqL.of L3⟩) (rrefs_ok gs) ⟨_, rfl, ?_⟩
  rw [if_neg (by decide)]
  refine rEqS_same (.inl ⟨SqL.of (S3 _ _ Lh), SqL.of L3⟩) (rrefs_ok gs) ⟨_, rfl, ?_⟩
  rw [if_neg (by decide)]
  have S03 := S1.trans S13
  refine spCellAt_of (S03.seq hS) (by decide) ⟨_, _, rfl, by decide, by decide, ?_⟩
  refine ⟨l, _, gs, rfl, SqL.of L3, l1, l24, allS S13, nd, he, tolsS S13, fun v H4 S4 B => ⟨v, rfl, B, fun H5 S5 => ⟨_, rfl, ?_⟩⟩⟩
  rw [if_neg (by decide)]
  refine ⟨by decide, by decide, ?_⟩
  have S35 := S4.trans S5
  have S15 := S13.trans S35
  have S05 := S1.trans S15
  obtain ⟨Pv, hP⟩ : ∃ Pv : Nat → St → Hp → Prop, Pv = fun _ σ H' => ∃ o4 o5 o6 o7 o8, σ = [some (V.ref a), some (.ref l), some (.ref hd), some (.ref rl), o4, o5, o6, o7, o8] ∧ Same H5 H' := ⟨_, rfl⟩
  refine forW_range Pv ?_ ?_ ?_
  · rw [hP]
    exact ⟨_, _, _, _, _, rfl, Same.refl _⟩
  · intro i σ H' hi h
    rw [hP] at h
    obtain ⟨o4, o5, o6, o7, o8, rfl, S6⟩ := h
    simp only [tComp_eq, tComp1, slots, Option.getD_some, Option.getD_none, tYes, tSeq, tAsg, gName, tOp, tC, tVar, tCB, tCons, tNil, tCall, rI, rI0, tRet, tIfS, tTest, tB, tOr, tNot, tAndV, tDrop, tTup, tLst, tNext, tSl, tPart, tBM, rAppend, rIsi, rSlL, isi_non_bl, isi_non_int, isi_non_str, isi_non_lst, isi_non_tup, isi_bl_bl, isi_bl_int, isi_bl_str, isi_bl_lst, isi_bl_tup, isi_int_bl, isi_int_int, isi_int_str, isi_int_lst, isi_int_tup, isi_str_bl, isi_str_int, isi_str_str, isi_str_lst, isi_str_tup, isi_lst_bl, isi_lst_int, isi_lst_str, isi_lst_lst, isi_lst_tup, isi_tup_bl, isi_tup_int, isi_tup_str, isi_tup_lst, isi_tup_tup, isi_dct_bl, isi_dct_int, isi_dct_str, isi_dct_lst, isi_dct_tup, Kd_non, Kd_bl, Kd_int, Kd_str, decide_true, decide_false, tFor_eq, iList, iRng1, tyK_int, tyK_bool, tyK_str, tyK_list, tyK_tuple, L2.start, cxK, Int.reduceToNat, List.map_cons, List.map_nil, List.length_cons, List.length_nil, Nat.reduceAdd, Nat.reduceSub, Nat.zero_add, List.replicate_succ, List.replicate_zero, List.cons_append, List.nil_append, List.append_nil, List.getElem?_cons_zero, List.getElem?_cons_succ, List.set_cons_zero, List.set_cons_succ, Option.some.injEq, V.int.injEq, V.bl.injEq, V.ref.injEq, V.str.injEq, V.ty.injEq, List.cons.injEq, exists_eq_left', exists_eq_left, exists_eq_right, exists_and_left, exists_and_right, and_true, true_and, and_assoc, exists_const, decide_eq_true_eq, Bool.not_eq_true', Bool.not_true, Bool.not_false, Bool.not_not, decide_eq_false_iff_not, ite_not, Bool.false_eq_true, if_true, if_false, reduceCtorEq, and_false, false_and, exists_false, or_false, false_or, ↓reduceIte, eq_self, reduceIte]
    refine ⟨_, (S05.trans S6).seq hS, fun sl hsl => ?_⟩
    obtain ⟨cut, hcut⟩ : ∃ cut, cutV (ns.map V.int) (some 3) (some 43) = cut := ⟨_, rfl⟩
    have cin : ∀ x ∈ cut, ∃ c, x = V.int c := fun x hx => by
      rw [← hcut] at hx
      unfold cutV at hx
      obtain ⟨c, _, rfl⟩ := List.mem_map.mp (List.mem_of_mem_drop (List.mem_of_mem_take hx))
      exact ⟨c, rfl⟩
    have clen : cut.length ≤ 63 := by
      rw [← hcut]
      have := cutV_length (ns.map V.int) (some 3) (some 43)
      rw [List.length_map] at this
      omega
    rw [hcut]
    obtain ⟨J0, g, U0, X0⟩ : ∃ J0, J0 = upd H' sl (.lst cut) ∧ Same H' J0 ∧ J0 sl = some (.lst cut) := ⟨_, rfl, same_new hsl _, upd_same⟩
    rw [← g]
    clear g
    refine spCellAt_of ((S05.trans (S6.trans U0)).seq hS) (by decide) ⟨by decide, fun s2 hs2 => ?_⟩
    obtain ⟨J1, g, U1, X1⟩ : ∃ J1, J1 = upd J0 s2 (.lst [V.int (cellAt ns 0)]) ∧ Same J0 J1 ∧ J1 s2 = some (.lst [V.int (cellAt ns 0)]) := ⟨_, rfl, same_new hs2 _, upd_same⟩
    rw [← g]
    clear g
    refine ⟨sl, s2, cut, _, rfl, rfl, U1 _ _ X0, X1, Nat.le_trans (m := 64) (by show cut.length + 1 ≤ 64; omega) (by decide), fun s3 hs3 => ?_⟩
    obtain ⟨J2, g, U2, X2⟩ : ∃ J2, J2 = upd J1 s3 (.lst (cut ++ [V.int (cellAt ns 0)])) ∧ Same J1 J2 ∧ J2 s3 = some (.lst (cut ++ [V.int (cellAt ns 0)])) := ⟨_, rfl, same_new hs3 _, upd_same⟩
    rw [← g]
    clear g
    have U02 := U0.trans (U1.trans U2)
    have cin2 : ∀ x ∈ cut ++ [V.int (cellAt ns 0)], ∃ c, x = V.int c := fun x hx => by
      rcases List.mem_append.mp hx with h | h
      · exact cin x h
      · exact ⟨_, List.mem_singleton.mp h⟩
    refine ⟨_, rfl, ⟨_, SqL.of X2⟩, ?_⟩
    obtain ⟨Pw, hW⟩ : ∃ Pw : Nat → St → Hp → Prop, Pw = fun _ σ H' => ∃ o5 o6 o7, σ = [some (V.ref a), some (.ref l), some (.ref hd), some (.ref rl), some (.int (0 + (i : Int))), o5, o6, o7, o8] ∧ Same J2 H' := ⟨_, rfl⟩
    refine forW_list (cut ++ [V.int (cellAt ns 0)]) Pw ?_ (fun i σ H' _ h => by rw [hW] at h; obtain ⟨_, _, _, _, e⟩ := h; exact SqL.of (e _ _ X2)) ?_ ?_
    · rw [hW]
      exact ⟨_, _, _, rfl, Same.refl _⟩
    · intro k x σ I hx h
      rw [hW] at h
      obtain ⟨o5, o6, o7, rfl, V0⟩ := h
      obtain ⟨c, rfl⟩ := cin2 x (List.mem_of_getElem? hx)
      simp only [tComp_eq, tComp1, slots, Option.getD_some, Option.getD_none, tYes, tSeq, tAsg, gName, tOp, tC, tVar, tCB, tCons, tNil, tCall, rI, rI0, tRet, tIfS, tTest, tB, tOr, tNot, tAndV, tDrop, tTup, tLst, tNext, tSl, tPart, tBM, rAppend, rIsi, rSlL, isi_non_bl, isi_non_int, isi_non_str, isi_non_lst, isi_non_tup, isi_bl_bl, isi_bl_int, isi_bl_str, isi_bl_lst, isi_bl_tup, isi_int_bl, isi_int_int, isi_int_str, isi_int_lst, isi_int_tup, isi_str_bl, isi_str_int, isi_str_str, isi_str_lst, isi_str_tup, isi_lst_bl, isi_lst_int, isi_lst_str, isi_lst_lst, isi_lst_tup, isi_tup_bl, isi_tup_int, isi_tup_str, isi_tup_lst, isi_tup_tup, isi_dct_bl, isi_dct_int, isi_dct_str, isi_dct_lst, isi_dct_tup, Kd_non, Kd_bl, Kd_int, Kd_str, decide_true, decide_false, tFor_eq, iList, iRng1, tyK_int, tyK_bool, tyK_str, tyK_list, tyK_tuple, L2.start, cxK, Int.reduceToNat, List.map_cons, List.map_nil, List.length_cons, List.length_nil, Nat.reduceAdd, Nat.reduceSub, Nat.zero_add, List.replicate_succ, List.replicate_zero, List.cons_append, List.nil_append, List.append_nil, List.getElem?_cons_zero, List.getElem?_cons_succ, List.set_cons_zero, List.set_cons_succ, Option.some.injEq, V.int.injEq, V.bl.injEq, V.ref.injEq, V.str.injEq, V.ty.injEq, List.cons.injEq, exists_eq_left', exists_eq_left, exists_eq_right, exists_and_left, exists_and_right, and_true, true_and, and_assoc, exists_const, decide_eq_true_eq, Bool.not_eq_true', Bool.not_true, Bool.not_false, Bool.not_not, decide_eq_false_iff_not, ite_not, Bool.false_eq_true, if_true, if_false, reduceCtorEq, and_false, false_and, exists_false, or_false, false_or, ↓reduceIte, eq_self, reduceIte]
      refine ⟨cdiv (by decide) (by decide), _, rfl, fun nr nv I1 W1 Tr n1 n4 ins => ?_⟩
      have Z5 : Same H5 I1 := S6.trans (U02.trans (V0.trans W1))
      have Z1 : Same H1 I1 := S15.trans Z5
      refine ⟨rl, nr, gs, nv, rfl, SqL.of (Z5 _ _ (S35 _ _ Lr)), l24, allS Z1, he, SqT.of Tr, fun j g I2 W2 hg N => ?_⟩
      have Z12 := Z1.trans W2
      obtain ⟨r, R, ok, dp⟩ := tolsS Z12 g (List.mem_of_getElem? hg)
      obtain ⟨at', ha⟩ := told_ref R
      have R' := R
      rw [ha] at R'
      obtain ⟨xs, T, _⟩ := rep_any R'
      refine ⟨_, (by rw [ha]; exact Kd.tup T), ?_⟩
      rw [if_neg (by decide)]
      refine ⟨l, nr, gs, nv, rfl, SqL.of (Z12 _ _ L), allS Z12, he, SqT.of (W2 _ _ Tr), fun j' g' I3 W3 hg' N' => ?_⟩
      have ej : j = j' := near_one N N'
      subst ej
      cases hg.symm.trans hg'
      refine rEqD_self (R.same W3) (R.same W3) (flat_data (by omega)) ⟨_, rfl, ?_⟩
      rw [if_neg (by decide), hW]
      exact ⟨_, _, _, rfl, V0.trans (W1.trans (W2.trans W3))⟩
    · intro σ I h
      rw [hW] at h
      obtain ⟨o5, o6, o7, rfl, V0⟩ := h
      rw [hP]
      exact ⟨_, _, _, _, _, rfl, S6.trans (U02.trans V0)⟩
  · intro σ H' h
    rw [hP] at h
    obtain ⟨o4, o5, o6, o7, o8, rfl, S6⟩ := h
    simp only [tComp_eq, tComp1, slots, Option.getD_some, Option.getD_none, tYes, tSeq, tAsg, gName, tOp, tC, tVar, tCB, tCons, tNil, tCall, rI, rI0, tRet, tIfS, tTest, tB, tOr, tNot, tAndV, tDrop, tTup, tLst, tNext, tSl, tPart, tBM, rAppend, rIsi, rSlL, isi_non_bl, isi_non_int, isi_non_str, isi_non_lst, isi_non_tup, isi_bl_bl, isi_bl_int, isi_bl_str, isi_bl_lst, isi_bl_tup, isi_int_bl, isi_int_int, isi_int_str, isi_int_lst, isi_int_tup, isi_str_bl, isi_str_int, isi_str_str, isi_str_lst, isi_str_tup, isi_lst_bl, isi_lst_int, isi_lst_str, isi_lst_lst, isi_lst_tup, isi_tup_bl, isi_tup_int, isi_tup_str, isi_tup_lst, isi_tup_tup, isi_dct_bl, isi_dct_int, isi_dct_str, isi_dct_lst, isi_dct_tup, Kd_non, Kd_bl, Kd_int, Kd_str, decide_true, decide_false, tFor_eq, iList, iRng1, tyK_int, tyK_bool, tyK_str, tyK_list, tyK_tuple, L2.start, cxK, Int.reduceToNat, List.map_cons, List.map_nil, List.length_cons, List.length_nil, Nat.reduceAdd, Nat.reduceSub, Nat.zero_add, List.replicate_succ, List.replicate_zero, List.cons_append, List.nil_append, List.append_nil, List.getElem?_cons_zero, List.getElem?_cons_succ, List.set_cons_zero, List.set_cons_succ, Option.some.injEq, V.int.injEq, V.bl.injEq, V.ref.injEq, V.str.injEq, V.ty.injEq, List.cons.injEq, exists_eq_left', exists_eq_left, exists_eq_right, exists_and_left, exists_and_right, and_true, true_and, and_assoc, exists_const, decide_eq_true_eq, Bool.not_eq_true', Bool.not_true, Bool.not_false, Bool.not_not, decide_eq_false_iff_not, ite_not, Bool.false_eq_true, if_true, if_false, reduceCtorEq, and_false, false_and, exists_false, or_false, false_or, ↓reduceIte, eq_self, reduceIte]
    have Z1 : Same H1 H' := S15.trans S6
    have Lh6 : H' hd = some (.lst (rrefs gs)) := S6 _ _ (S35 _ _ (S3 _ _ Lh))
    have Ll6 := Z1 _ _ L
    have Lr6 := S6 _ _ (S35 _ _ Lr)
    refine ⟨.inl ⟨rfl, _, SqL.of Lh6⟩, _, Lh6, Nat.lt_of_le_of_lt (m := 63) (by rw [rrefs_len]; omega) (by decide), ?_⟩
    obtain ⟨J, g, KJ, LlJ, LrJ⟩ : ∃ J, J = upd H' hd (.lst (rrefs gs ++ [V.non])) ∧ Keeps H' J ∧ J l = some (.lst (rrefs gs)) ∧ J rl = some (.lst (rrefs gs)) := by
      refine ⟨_, rfl, keeps_lst Lh6, ?_, ?_⟩
      · rw [upd_ne (Ne.symm hne)]
        exact Ll6
      · rw [upd_ne rne]
        exact Lr6
    rw [← g]
    clear g
    have allJ : ∀ {I}, Same J I → ∀ g ∈ gs, RwAt K I g := fun e g hg => ((allS Z1 g hg).keeps KJ).same e
    have tolsJ : ∀ {I}, Same J I → ∀ g ∈ gs, ∃ r : Rl, TolA K I g.t r ∧ r.ok ∧ r.dp ≤ 4 := fun e g hg => by
      obtain ⟨r, R, o, d⟩ := tolsS Z1 g hg
      exact ⟨r, (KJ.tol R).same e, o, d⟩
    refine ⟨by decide, fun x0 h0 => ?_⟩
    obtain ⟨J0, g, U0, X0⟩ := fresh_tup (K := K) h0 []
    rw [← g]
    clear g
    refine ⟨by decide, fun x1 h1 => ?_⟩
    obtain ⟨J1, g, U1, X1⟩ := fresh_tup (K := K) h1 [V.str (Str.ofString "grown")]
    rw [← g]
    clear g
    refine ⟨by decide, fun x2 h2 => ?_⟩
    obtain ⟨J2, g, U2, X2⟩ := fresh_tup (K := K) h2 [V.ref x0, V.ref x1]
    rw [← g]
    clear g
    refine ⟨by decide, fun x3 h3 => ?_⟩
    obtain ⟨J3, g, U3, X3⟩ : ∃ J3, J3 = upd J2 x3 (.lst [V.ref x2]) ∧ Same J2 J3 ∧ J3 x3 = some (.lst [V.ref x2]) := ⟨_, rfl, same_new h3 _, upd_same⟩
    rw [← g]
    clear g
    refine ⟨by decide, by decide, fun D hD => ?_⟩
    have U03 := U0.trans (U1.trans (U2.trans U3))
    obtain ⟨Pc, hC⟩ : ∃ Pc : Nat → St → Hp → Prop, Pc = fun i τ H' => ∃ (z : Option V) (ms : List Rw), H' D = some (.lst (rrefs ms)) ∧ pfs ms = (List.range i).map (fun k : Nat => [(k : Int) + 1]) ∧ (∀ g ∈ ms, RwAt K H' g ∧ TolA K H' g.t .grown) ∧ Same J3 H' ∧ τ = [z] := ⟨_, rfl⟩
    refine compS_range Pc ?_ ?_ ?_
    · rw [hC]
      exact ⟨_, [], upd_same, rfl, (fun _ h => by cases h), same_new hD _, rfl⟩
    · intro i τ I R' hi h next
      rw [hC] at h
      obtain ⟨z, ms, d1, pe, am, d2, rfl⟩ := h
      have lm : ms.length = i := by
        have := congrArg List.length pe
        unfold pfs at this
        rw [List.length_map, List.length_map, List.length_range] at this
        exact this
      simp only [tComp_eq, tComp1, slots, Option.getD_some, Option.getD_none, tYes, tSeq, tAsg, gName, tOp, tC, tVar, tCB, tCons, tNil, tCall, rI, rI0, tRet, tIfS, tTest, tB, tOr, tNot, tAndV, tDrop, tTup, tLst, tNext, tSl, tPart, tBM, rAppend, rIsi, rSlL, isi_non_bl, isi_non_int, isi_non_str, isi_non_lst, isi_non_tup, isi_bl_bl, isi_bl_int, isi_bl_str, isi_bl_lst, isi_bl_tup, isi_int_bl, isi_int_int, isi_int_str, isi_int_lst, isi_int_tup, isi_str_bl, isi_str_int, isi_str_str, isi_str_lst, isi_str_tup, isi_lst_bl, isi_lst_int, isi_lst_str, isi_lst_lst, isi_lst_tup, isi_tup_bl, isi_tup_int, isi_tup_str, isi_tup_lst, isi_tup_tup, isi_dct_bl, isi_dct_int, isi_dct_str, isi_dct_lst, isi_dct_tup, Kd_non, Kd_bl, Kd_int, Kd_str, decide_true, decide_false, tFor_eq, iList, iRng1, tyK_int, tyK_bool, tyK_str, tyK_list, tyK_tuple, L2.start, cxK, Int.reduceToNat, List.map_cons, List.map_nil, List.length_cons, List.length_nil, Nat.reduceAdd, Nat.reduceSub, Nat.zero_add, List.replicate_succ, List.replicate_zero, List.cons_append, List.nil_append, List.append_nil, List.getElem?_cons_zero, List.getElem?_cons_succ, List.set_cons_zero, List.set_cons_succ, Option.some.injEq, V.int.injEq, V.bl.injEq, V.ref.injEq, V.str.injEq, V.ty.injEq, List.cons.injEq, exists_eq_left', exists_eq_left, exists_eq_right, exists_and_left, exists_and_right, and_true, true_and, and_assoc, exists_const, decide_eq_true_eq, Bool.not_eq_true', Bool.not_true, Bool.not_false, Bool.not_not, decide_eq_false_iff_not, ite_not, Bool.false_eq_true, if_true, if_false, reduceCtorEq, and_false, false_and, exists_false, or_false, false_or, ↓reduceIte, eq_self, reduceIte]
      refine ⟨by decide, fun y0 hy0 => ?_⟩
      obtain ⟨I0, g, V0, Y0⟩ := fresh_tup (K := K) hy0 [V.int (0 + (i : Int) + 1)]
      rw [← g]
      clear g
      refine ⟨by decide, fun y1 hy1 => ?_⟩
      obtain ⟨I1, g, V1, Y1⟩ := fresh_tup (K := K) hy1 [V.str (Str.ofString "grown")]
      rw [← g]
      clear g
      refine ⟨by decide, fun y2 hy2 => ?_⟩
      obtain ⟨I2, g, V2, Y2⟩ := fresh_tup (K := K) hy2 [V.ref y0, V.ref y1]
      rw [← g]
      clear g
      have V02 := V0.trans (V1.trans V2)
      have d1' := V02 _ _ d1
      refine ⟨_, d1', Nat.lt_of_le_of_lt (m := 63) (by rw [rrefs_len]; omega) (by decide), next _ _ ?_⟩
      rw [hC]
      have KI : Keeps I2 (upd I2 D (.lst (rrefs ms ++ [V.ref y2]))) := keeps_lst d1'
      refine ⟨_, ms ++ [⟨y2, y0, [(i : Int) + 1], .ref y1⟩], ?_, ?_, ?_, same_upd (d2.trans V02) hD _, rfl⟩
      · rw [upd_same]
        unfold rrefs
        rw [List.map_append]
        rfl
      · unfold pfs at pe ⊢
        rw [List.map_append, pe, List.range_succ, List.map_append]
        rfl
      · intro g hg
        rcases List.mem_append.mp hg with hg | hg
        · exact ⟨((am g hg).1.same V02).keeps KI, KI.tol ((am g hg).2.same V02)⟩
        · rw [List.mem_singleton.mp hg]
          have e1 : V.int (0 + (i : Int) + 1) = V.int ((i : Int) + 1) := by rw [Int.zero_add]
          rw [e1] at Y0
          refine ⟨⟨KI.tup Y2, KI.tup (Same.tup (V1.trans V2) Y0), by show 1 ≤ 4; decide, fun x hx => ?_⟩, KI.tol (tol_grown (Same.tup V2 Y1))⟩
          have hx' : x ∈ [(i : Int) + 1] := hx
          rw [List.mem_singleton.mp hx']
          omega
    intro τ I h
    rw [hC] at h
    obtain ⟨z, ms, d1, pe, am, d2, rfl⟩ := h
    have lm : ms.length = 23 := by
      have := congrArg List.length pe
      unfold pfs at this
      rw [List.length_map, List.length_map, List.length_range] at this
      exact this
    refine ⟨x3, D, [V.ref x2], rrefs ms, rfl, rfl, d2 _ _ X3, d1, Nat.le_trans (m := 64) (by rw [rrefs_len, lm]; show 1 + 23 ≤ 64; decide) (by decide), fun mo hmo => ?_⟩
    obtain ⟨g0, hg0⟩ : ∃ g0 : Rw, g0 = ⟨x2, x0, [], .ref x1⟩ := ⟨_, rfl⟩
    have er : [V.ref x2] ++ rrefs ms = rrefs (g0 :: ms) := by rw [hg0]; rfl
    rw [er]
    obtain ⟨I1, g, V1, X1'⟩ : ∃ I1, I1 = upd I mo (.lst (rrefs (g0 :: ms))) ∧ Same I I1 ∧ I1 mo = some (.lst (rrefs (g0 :: ms))) := ⟨_, rfl, same_new hmo _, upd_same⟩
    rw [← g]
    clear g
    have W1 : Same J I1 := U03.trans (d2.trans V1)
    have am1 : ∀ g ∈ g0 :: ms, RwAt K I1 g ∧ TolA K I1 g.t .grown := fun g hg => by
      rcases List.mem_cons.mp hg with rfl | hg
      · have W2 : Same J2 I1 := U3.trans (d2.trans V1)
        rw [hg0]
        exact ⟨⟨Same.tup W2 X2, Same.tup (U1.trans (U2.trans W2)) X0, Nat.zero_le 4, fun _ h => by cases h⟩, tol_grown (Same.tup (U2.trans W2) X1)⟩
      · exact ⟨(am g hg).1.same V1, (am g hg).2.same V1⟩
    have okm : okPs (pfs (g0 :: ms)) = true := by
      have : pfs (g0 :: ms) = [] :: (List.range 23).map (fun k : Nat => [(k : Int) + 1]) := by
        rw [← pe, hg0]
        rfl
      rw [this]
      decide
    refine rEqS_same (.inl ⟨SqL.of (W1 _ _ LrJ), SqL.of (W1 _ _ LlJ)⟩) (rrefs_ok gs) ⟨_, rfl, ?_⟩
    rw [if_pos (by rfl)]
    refine ⟨_, SqL.of (W1 _ _ LlJ), fun c1 hc1 => ?_⟩
    obtain ⟨I2, g, V2, Xc1⟩ : ∃ I2, I2 = upd I1 c1 (.lst (rrefs gs)) ∧ Same I1 I2 ∧ I2 c1 = some (.lst (rrefs gs)) := ⟨_, rfl, same_new hc1 _, upd_same⟩
    rw [← g]
    clear g
    have W2 := W1.trans V2
    refine .inl ⟨c1, gs, rfl, SqL.of Xc1, l1, l24, allJ W2, okp, tolsJ W2, fun r2 I3 hr2 V3 Lr2 => ?_⟩
    refine rEqS_same (.inl ⟨SqL.of Lr2, SqL.of (V3 _ _ (W2 _ _ LlJ))⟩) (rrefs_ok gs) ⟨_, rfl, ?_⟩
    rw [if_pos (by rfl)]
    have Xm3 := V3 _ _ (V2 _ _ X1')
    refine ⟨_, rfl, _, SqL.of Xm3, fun c2 hc2 => ?_⟩
    obtain ⟨I4, g, V4, Xc2⟩ : ∃ I4, I4 = upd I3 c2 (.lst (rrefs (g0 :: ms))) ∧ Same I3 I4 ∧ I4 c2 = some (.lst (rrefs (g0 :: ms))) := ⟨_, rfl, same_new hc2 _, upd_same⟩
    rw [← g]
    clear g
    have V24 := V2.trans (V3.trans V4)
    refine .inl ⟨c2, g0 :: ms, rfl, SqL.of Xc2, by rw [List.length_cons]; omega, by rw [List.length_cons]; omega, (fun g hg => (am1 g hg).1.same V24), okm, (fun g hg => ⟨.grown, (am1 g hg).2.same V24, trivial, by show 1 ≤ 4; decide⟩), fun r3 I5 hr3 V5 Lr3 => ?_⟩
    exact rEqS_same (.inl ⟨SqL.of Lr3, SqL.of (V5 _ _ (V4 _ _ Xm3))⟩) (rrefs_ok _) (q _)
end

theorem all_mk {l : PySem.W.OpenLaw} {w : World} {K : PySem.W.Frag} {h : Heap} {mg : Str → Option Value} {fa f1 f2 f3 f4 f5 f6 f7 f8 f9 f10 f11 f12 f13 f14 f15 f16 f17 f18 f19 f20 f21 f22 f23 f24 f25 f26 f27 f28 f29 f30 : Addr} (X : K.In h) (G : h.Ns mainGlobals mg) (hfa : mg "law" = some (.ref fa))
    {c_TariffError c_NoNumber c_NoRule c_NoLot c_Rule c_OfRules c_Grown c_Change c_Worked c_AllOf c_OneOf : Addr}
    {od1 an1 od2 an2 od3 an3 od4 an4 od5 an5 od6 an6 od7 an7 od8 an8 od9 an9 od10 an10 od11 an11 od12 an12 od13 an13 od14 an14 od15 an15 od16 an16 od17 an17 od18 an18 od19 an19 od20 an20 od21 an21 od22 an22 od23 an23 od24 an24 od25 an25 od26 an26 od27 an27 od28 an28 od29 an29 od30 an30 : Option Addr} {sl1 sl2 sl3 sl4 sl5 sl6 sl7 sl8 sl9 sl10 sl11 sl12 sl13 sl14 sl15 sl16 sl17 sl18 sl19 sl20 sl21 sl22 sl23 sl24 sl25 sl26 sl27 sl28 sl29 sl30 : Array (Option Value)} {oc1 kV1 dc1 pm1 cd1 ct1 oc2 kV2 dc2 pm2 cd2 ct2 oc3 kV3 dc3 pm3 cd3 ct3 oc4 kV4 dc4 pm4 cd4 ct4 oc5 kV5 dc5 pm5 cd5 ct5 oc6 kV6 dc6 pm6 cd6 ct6 oc7 kV7 dc7 pm7 cd7 ct7 oc8 kV8 dc8 pm8 cd8 ct8 oc9 kV9 dc9 pm9 cd9 ct9 oc10 kV10 dc10 pm10 cd10 ct10 oc11 kV11 dc11 pm11 cd11 ct11 oc12 kV12 dc12 pm12 cd12 ct12 oc13 kV13 dc13 pm13 cd13 ct13 oc14 kV14 dc14 pm14 cd14 ct14 oc15 kV15 dc15 pm15 cd15 ct15 oc16 kV16 dc16 pm16 cd16 ct16 oc17 kV17 dc17 pm17 cd17 ct17 oc18 kV18 dc18 pm18 cd18 ct18 oc19 kV19 dc19 pm19 cd19 ct19 oc20 kV20 dc20 pm20 cd20 ct20 oc21 kV21 dc21 pm21 cd21 ct21 oc22 kV22 dc22 pm22 cd22 ct22 oc23 kV23 dc23 pm23 cd23 ct23 oc24 kV24 dc24 pm24 cd24 ct24 oc25 kV25 dc25 pm25 cd25 ct25 oc26 kV26 dc26 pm26 cd26 ct26 oc27 kV27 dc27 pm27 cd27 ct27 oc28 kV28 dc28 pm28 cd28 ct28 oc29 kV29 dc29 pm29 cd29 ct29 oc30 kV30 dc30 pm30 cd30 ct30 : Value}
    (n_TariffError : PySem.W.nsIn K mainGlobals "TariffError" = some (some (.ref c_TariffError)))
    (n_NoNumber : PySem.W.nsIn K mainGlobals "NoNumber" = some (some (.ref c_NoNumber)))
    (n_NoRule : PySem.W.nsIn K mainGlobals "NoRule" = some (some (.ref c_NoRule)))
    (n_NoLot : PySem.W.nsIn K mainGlobals "NoLot" = some (some (.ref c_NoLot)))
    (n_Rule : PySem.W.nsIn K mainGlobals "Rule" = some (some (.ref c_Rule)))
    (n_OfRules : PySem.W.nsIn K mainGlobals "OfRules" = some (some (.ref c_OfRules)))
    (n_Grown : PySem.W.nsIn K mainGlobals "Grown" = some (some (.ref c_Grown)))
    (n_Change : PySem.W.nsIn K mainGlobals "Change" = some (some (.ref c_Change)))
    (n_Worked : PySem.W.nsIn K mainGlobals "Worked" = some (some (.ref c_Worked)))
    (n_AllOf : PySem.W.nsIn K mainGlobals "AllOf" = some (some (.ref c_AllOf)))
    (n_OneOf : PySem.W.nsIn K mainGlobals "OneOf" = some (some (.ref c_OneOf)))
    (a1 : PySem.W.nsIn K mainGlobals "is_whole" = some (some (.ref f1))) (l1 : K.lookup f1 = some ⟨oc1, od1, .func (PySem.W.fnOf "is_whole" "is_whole" (defArgs s_is_whole) (defBody s_is_whole) (defScope s_is_whole) .none kV1 dc1 pm1 an1 cd1 ct1), sl1⟩) (c1 : PySem.W.codeIn K cd1 "is_whole" = true) (k1 : PySem.W.keepIn K (.ref f1) = true)
    (a2 : PySem.W.nsIn K mainGlobals "common_of" = some (some (.ref f2))) (l2 : K.lookup f2 = some ⟨oc2, od2, .func (PySem.W.fnOf "common_of" "common_of" (defArgs s_common_of) (defBody s_common_of) (defScope s_common_of) .none kV2 dc2 pm2 an2 cd2 ct2), sl2⟩) (c2 : PySem.W.codeIn K cd2 "common_of" = true) (k2 : PySem.W.keepIn K (.ref f2) = true)
    (a3 : PySem.W.nsIn K mainGlobals "is_share" = some (some (.ref f3))) (l3 : K.lookup f3 = some ⟨oc3, od3, .func (PySem.W.fnOf "is_share" "is_share" (defArgs s_is_share) (defBody s_is_share) (defScope s_is_share) .none kV3 dc3 pm3 an3 cd3 ct3), sl3⟩) (c3 : PySem.W.codeIn K cd3 "is_share" = true) (k3 : PySem.W.keepIn K (.ref f3) = true)
    (a4 : PySem.W.nsIn K mainGlobals "is_deep" = some (some (.ref f4))) (l4 : K.lookup f4 = some ⟨oc4, od4, .func (PySem.W.fnOf "is_deep" "is_deep" (defArgs s_is_deep) (defBody s_is_deep) (defScope s_is_deep) .none kV4 dc4 pm4 an4 cd4 ct4), sl4⟩) (c4 : PySem.W.codeIn K cd4 "is_deep" = true) (k4 : PySem.W.keepIn K (.ref f4) = true)
    (a5 : PySem.W.nsIn K mainGlobals "is_share_of_one" = some (some (.ref f5))) (l5 : K.lookup f5 = some ⟨oc5, od5, .func (PySem.W.fnOf "is_share_of_one" "is_share_of_one" (defArgs s_is_share_of_one) (defBody s_is_share_of_one) (defScope s_is_share_of_one) .none kV5 dc5 pm5 an5 cd5 ct5), sl5⟩) (c5 : PySem.W.codeIn K cd5 "is_share_of_one" = true) (k5 : PySem.W.keepIn K (.ref f5) = true)
    (a6 : PySem.W.findIn K (.ref c_Change) "__init__" = some (some (.ref f6))) (l6 : K.lookup f6 = some ⟨oc6, od6, .func (PySem.W.fnOf "__init__" "Change.__init__" (defArgs s_Change_init) (defBody s_Change_init) (defScope s_Change_init) .none kV6 dc6 pm6 an6 cd6 ct6), sl6⟩) (c6 : PySem.W.codeIn K cd6 "Change.__init__" = true) (k6 : PySem.W.keepIn K (.ref f6) = true)
    (t6 : PySem.W.isFn K (.ref f6) = true)
    (a7 : PySem.W.findIn K (.ref c_Worked) "__init__" = some (some (.ref f7))) (l7 : K.lookup f7 = some ⟨oc7, od7, .func (PySem.W.fnOf "__init__" "Worked.__init__" (defArgs s_Worked_init) (defBody s_Worked_init) (defScope s_Worked_init) .none kV7 dc7 pm7 an7 cd7 ct7), sl7⟩) (c7 : PySem.W.codeIn K cd7 "Worked.__init__" = true) (k7 : PySem.W.keepIn K (.ref f7) = true)
    (t7 : PySem.W.isFn K (.ref f7) = true)
    (a8 : PySem.W.findIn K (.ref c_OfRules) "__init__" = some (some (.ref f8))) (l8 : K.lookup f8 = some ⟨oc8, od8, .func (PySem.W.fnOf "__init__" "OfRules.__init__" (defArgs s_OfRules_init) (defBody s_OfRules_init) (defScope s_OfRules_init) .none kV8 dc8 pm8 an8 cd8 ct8), sl8⟩) (c8 : PySem.W.codeIn K cd8 "OfRules.__init__" = true) (k8 : PySem.W.keepIn K (.ref f8) = true)
    (t8 : PySem.W.isFn K (.ref f8) = true)
    (a9 : PySem.W.nsIn K mainGlobals "rule_of_rules" = some (some (.ref f9))) (l9 : K.lookup f9 = some ⟨oc9, od9, .func (PySem.W.fnOf "rule_of_rules" "rule_of_rules" (defArgs s_rule_of_rules) (defBody s_rule_of_rules) (defScope s_rule_of_rules) .none kV9 dc9 pm9 an9 cd9 ct9), sl9⟩) (c9 : PySem.W.codeIn K cd9 "rule_of_rules" = true) (k9 : PySem.W.keepIn K (.ref f9) = true)
    (a10 : PySem.W.nsIn K mainGlobals "rule_of_one" = some (some (.ref f10))) (l10 : K.lookup f10 = some ⟨oc10, od10, .func (PySem.W.fnOf "rule_of_one" "rule_of_one" (defArgs s_rule_of_one) (defBody s_rule_of_one) (defScope s_rule_of_one) .none kV10 dc10 pm10 an10 cd10 ct10), sl10⟩) (c10 : PySem.W.codeIn K cd10 "rule_of_one" = true) (k10 : PySem.W.keepIn K (.ref f10) = true)
    (a11 : PySem.W.nsIn K mainGlobals "rule_within" = some (some (.ref f11))) (l11 : K.lookup f11 = some ⟨oc11, od11, .func (PySem.W.fnOf "rule_within" "rule_within" (defArgs s_rule_within) (defBody s_rule_within) (defScope s_rule_within) .none kV11 dc11 pm11 an11 cd11 ct11), sl11⟩) (c11 : PySem.W.codeIn K cd11 "rule_within" = true) (k11 : PySem.W.keepIn K (.ref f11) = true)
    (a12 : PySem.W.nsIn K mainGlobals "rule_of" = some (some (.ref f12))) (l12 : K.lookup f12 = some ⟨oc12, od12, .func (PySem.W.fnOf "rule_of" "rule_of" (defArgs s_rule_of) (defBody s_rule_of) (defScope s_rule_of) .none kV12 dc12 pm12 an12 cd12 ct12), sl12⟩) (c12 : PySem.W.codeIn K cd12 "rule_of" = true) (k12 : PySem.W.keepIn K (.ref f12) = true)
    (a13 : PySem.W.nsIn K mainGlobals "is_prefix" = some (some (.ref f13))) (l13 : K.lookup f13 = some ⟨oc13, od13, .func (PySem.W.fnOf "is_prefix" "is_prefix" (defArgs s_is_prefix) (defBody s_is_prefix) (defScope s_is_prefix) .none kV13 dc13 pm13 an13 cd13 ct13), sl13⟩) (c13 : PySem.W.codeIn K cd13 "is_prefix" = true) (k13 : PySem.W.keepIn K (.ref f13) = true)
    (a14 : PySem.W.nsIn K mainGlobals "begins" = some (some (.ref f14))) (l14 : K.lookup f14 = some ⟨oc14, od14, .func (PySem.W.fnOf "begins" "begins" (defArgs s_begins) (defBody s_begins) (defScope s_begins) .none kV14 dc14 pm14 an14 cd14 ct14), sl14⟩) (c14 : PySem.W.codeIn K cd14 "begins" = true) (k14 : PySem.W.keepIn K (.ref f14) = true)
    (a15 : PySem.W.nsIn K mainGlobals "nearest" = some (some (.ref f15))) (l15 : K.lookup f15 = some ⟨oc15, od15, .func (PySem.W.fnOf "nearest" "nearest" (defArgs s_nearest) (defBody s_nearest) (defScope s_nearest) .none kV15 dc15 pm15 an15 cd15 ct15), sl15⟩) (c15 : PySem.W.codeIn K cd15 "nearest" = true) (k15 : PySem.W.keepIn K (.ref f15) = true)
    (a16 : PySem.W.nsIn K mainGlobals "is_row" = some (some (.ref f16))) (l16 : K.lookup f16 = some ⟨oc16, od16, .func (PySem.W.fnOf "is_row" "is_row" (defArgs s_is_row) (defBody s_is_row) (defScope s_is_row) .none kV16 dc16 pm16 an16 cd16 ct16), sl16⟩) (c16 : PySem.W.codeIn K cd16 "is_row" = true) (k16 : PySem.W.keepIn K (.ref f16) = true)
    (a17 : PySem.W.nsIn K mainGlobals "are_rows" = some (some (.ref f17))) (l17 : K.lookup f17 = some ⟨oc17, od17, .func (PySem.W.fnOf "are_rows" "are_rows" (defArgs s_are_rows) (defBody s_are_rows) (defScope s_are_rows) .none kV17 dc17 pm17 an17 cd17 ct17), sl17⟩) (c17 : PySem.W.codeIn K cd17 "are_rows" = true) (k17 : PySem.W.keepIn K (.ref f17) = true)
    (a18 : PySem.W.nsIn K mainGlobals "rules_of" = some (some (.ref f18))) (l18 : K.lookup f18 = some ⟨oc18, od18, .func (PySem.W.fnOf "rules_of" "rules_of" (defArgs s_rules_of) (defBody s_rules_of) (defScope s_rules_of) .none kV18 dc18 pm18 an18 cd18 ct18), sl18⟩) (c18 : PySem.W.codeIn K cd18 "rules_of" = true) (k18 : PySem.W.keepIn K (.ref f18) = true)
    (a19 : PySem.W.nsIn K mainGlobals "rule_for" = some (some (.ref f19))) (l19 : K.lookup f19 = some ⟨oc19, od19, .func (PySem.W.fnOf "rule_for" "rule_for" (defArgs s_rule_for) (defBody s_rule_for) (defScope s_rule_for) .none kV19 dc19 pm19 an19 cd19 ct19), sl19⟩) (c19 : PySem.W.codeIn K cd19 "rule_for" = true) (k19 : PySem.W.keepIn K (.ref f19) = true)
    (a20 : PySem.W.nsIn K mainGlobals "_law_cell_at" = some (some (.ref f20))) (l20 : K.lookup f20 = some ⟨oc20, od20, .func (PySem.W.fnOf "_law_cell_at" "_law_cell_at" (defArgs s_law_cell_at) (defBody s_law_cell_at) (defScope s_law_cell_at) .none kV20 dc20 pm20 an20 cd20 ct20), sl20⟩) (c20 : PySem.W.codeIn K cd20 "_law_cell_at" = true) (k20 : PySem.W.keepIn K (.ref f20) = true)
    (a21 : PySem.W.nsIn K mainGlobals "_law_mix" = some (some (.ref f21))) (l21 : K.lookup f21 = some ⟨oc21, od21, .func (PySem.W.fnOf "_law_mix" "_law_mix" (defArgs s_law_mix) (defBody s_law_mix) (defScope s_law_mix) .none kV21 dc21 pm21 an21 cd21 ct21), sl21⟩) (c21 : PySem.W.codeIn K cd21 "_law_mix" = true) (k21 : PySem.W.keepIn K (.ref f21) = true)
    (a22 : PySem.W.nsIn K mainGlobals "_law_number" = some (some (.ref f22))) (l22 : K.lookup f22 = some ⟨oc22, od22, .func (PySem.W.fnOf "_law_number" "_law_number" (defArgs s_law_number) (defBody s_law_number) (defScope s_law_number) .none kV22 dc22 pm22 an22 cd22 ct22), sl22⟩) (c22 : PySem.W.codeIn K cd22 "_law_number" = true) (k22 : PySem.W.keepIn K (.ref f22) = true)
    (a23 : PySem.W.nsIn K mainGlobals "_law_common" = some (some (.ref f23))) (l23 : K.lookup f23 = some ⟨oc23, od23, .func (PySem.W.fnOf "_law_common" "_law_common" (defArgs s_law_common) (defBody s_law_common) (defScope s_law_common) .none kV23 dc23 pm23 an23 cd23 ct23), sl23⟩) (c23 : PySem.W.codeIn K cd23 "_law_common" = true) (k23 : PySem.W.keepIn K (.ref f23) = true)
    (a24 : PySem.W.nsIn K mainGlobals "_law_part" = some (some (.ref f24))) (l24 : K.lookup f24 = some ⟨oc24, od24, .func (PySem.W.fnOf "_law_part" "_law_part" (defArgs s_law_part) (defBody s_law_part) (defScope s_law_part) .none kV24 dc24 pm24 an24 cd24 ct24), sl24⟩) (c24 : PySem.W.codeIn K cd24 "_law_part" = true) (k24 : PySem.W.keepIn K (.ref f24) = true)
    (a25 : PySem.W.nsIn K mainGlobals "_law_rule" = some (some (.ref f25))) (l25 : K.lookup f25 = some ⟨oc25, od25, .func (PySem.W.fnOf "_law_rule" "_law_rule" (defArgs s_law_rule) (defBody s_law_rule) (defScope s_law_rule) .none kV25 dc25 pm25 an25 cd25 ct25), sl25⟩) (c25 : PySem.W.codeIn K cd25 "_law_rule" = true) (k25 : PySem.W.keepIn K (.ref f25) = true)
    (a26 : PySem.W.nsIn K mainGlobals "_law_rows" = some (some (.ref f26))) (l26 : K.lookup f26 = some ⟨oc26, od26, .func (PySem.W.fnOf "_law_rows" "_law_rows" (defArgs s_law_rows) (defBody s_law_rows) (defScope s_law_rows) .none kV26 dc26 pm26 an26 cd26 ct26), sl26⟩) (c26 : PySem.W.codeIn K cd26 "_law_rows" = true) (k26 : PySem.W.keepIn K (.ref f26) = true)
    (a27 : PySem.W.nsIn K mainGlobals "_law_due" = some (some (.ref f27))) (l27 : K.lookup f27 = some ⟨oc27, od27, .func (PySem.W.fnOf "_law_due" "_law_due" (defArgs s_law_due) (defBody s_law_due) (defScope s_law_due) .none kV27 dc27 pm27 an27 cd27 ct27), sl27⟩) (c27 : PySem.W.codeIn K cd27 "_law_due" = true) (k27 : PySem.W.keepIn K (.ref f27) = true)
    (a28 : PySem.W.nsIn K mainGlobals "_law_spoilt" = some (some (.ref f28))) (l28 : K.lookup f28 = some ⟨oc28, od28, .func (PySem.W.fnOf "_law_spoilt" "_law_spoilt" (defArgs s_law_spoilt) (defBody s_law_spoilt) (defScope s_law_spoilt) .none kV28 dc28 pm28 an28 cd28 ct28), sl28⟩) (c28 : PySem.W.codeIn K cd28 "_law_spoilt" = true) (k28 : PySem.W.keepIn K (.ref f28) = true)
    (a29 : PySem.W.nsIn K mainGlobals "_law_refused" = some (some (.ref f29))) (l29 : K.lookup f29 = some ⟨oc29, od29, .func (PySem.W.fnOf "_law_refused" "_law_refused" (defArgs s_law_refused) (defBody s_law_refused) (defScope s_law_refused) .none kV29 dc29 pm29 an29 cd29 ct29), sl29⟩) (c29 : PySem.W.codeIn K cd29 "_law_refused" = true) (k29 : PySem.W.keepIn K (.ref f29) = true)
    (a30 : PySem.W.nsIn K mainGlobals "law" = some (some (.ref f30))) (l30 : K.lookup f30 = some ⟨oc30, od30, .func (PySem.W.fnOf "law" "law" (defArgs s_law) (defBody s_law) (defScope s_law) .none kV30 dc30 pm30 an30 cd30 ct30), sl30⟩) (c30 : PySem.W.codeIn K cd30 "law" = true) (k30 : PySem.W.keepIn K (.ref f30) = true)
    (pg_Grown : PySem.W.plainGet K c_Grown Str.empty = true)
    (hd_Grown : PySem.W.hasDictIn K c_Grown = true)
    (po_Grown : PySem.W.plainOver K c_Grown = true)
    (sa_Grown : PySem.W.findIn K (.ref c_Grown) "__setattr__" = some (some (.builtin "object.__setattr__")))
    (ia_Grown : PySem.W.findIn K (.ref c_Grown) "__class__" = some (some (.builtin "object.__class__")))
    (im_Grown : PySem.W.mroIn K c_Grown (.type "object") = some true)
    (mk_Grown : PySem.W.makesIn K c_Grown = true)
    (kc_Grown : PySem.W.keepIn K (.ref c_Grown) = true)
    (in_Grown : PySem.W.findIn K (.ref c_Grown) "__init__" = some (some (.builtin "object.__init__")))
    (pg_Change : PySem.W.plainGet K c_Change Str.empty = true)
    (hd_Change : PySem.W.hasDictIn K c_Change = true)
    (po_Change : PySem.W.plainOver K c_Change = true)
    (sa_Change : PySem.W.findIn K (.ref c_Change) "__setattr__" = some (some (.builtin "object.__setattr__")))
    (ia_Change : PySem.W.findIn K (.ref c_Change) "__class__" = some (some (.builtin "object.__class__")))
    (im_Change : PySem.W.mroIn K c_Change (.type "object") = some true)
    (mk_Change : PySem.W.makesIn K c_Change = true)
    (kc_Change : PySem.W.keepIn K (.ref c_Change) = true)
    (pg_Worked : PySem.W.plainGet K c_Worked Str.empty = true)
    (hd_Worked : PySem.W.hasDictIn K c_Worked = true)
    (po_Worked : PySem.W.plainOver K c_Worked = true)
    (sa_Worked : PySem.W.findIn K (.ref c_Worked) "__setattr__" = some (some (.builtin "object.__setattr__")))
    (ia_Worked : PySem.W.findIn K (.ref c_Worked) "__class__" = some (some (.builtin "object.__class__")))
    (im_Worked : PySem.W.mroIn K c_Worked (.type "object") = some true)
    (mk_Worked : PySem.W.makesIn K c_Worked = true)
    (kc_Worked : PySem.W.keepIn K (.ref c_Worked) = true)
    (pg_AllOf : PySem.W.plainGet K c_AllOf Str.empty = true)
    (hd_AllOf : PySem.W.hasDictIn K c_AllOf = true)
    (po_AllOf : PySem.W.plainOver K c_AllOf = true)
    (sa_AllOf : PySem.W.findIn K (.ref c_AllOf) "__setattr__" = some (some (.builtin "object.__setattr__")))
    (ia_AllOf : PySem.W.findIn K (.ref c_AllOf) "__class__" = some (some (.builtin "object.__class__")))
    (im_AllOf : PySem.W.mroIn K c_AllOf (.type "object") = some true)
    (mk_AllOf : PySem.W.makesIn K c_AllOf = true)
    (kc_AllOf : PySem.W.keepIn K (.ref c_AllOf) = true)
    (pg_OneOf : PySem.W.plainGet K c_OneOf Str.empty = true)
    (hd_OneOf : PySem.W.hasDictIn K c_OneOf = true)
    (po_OneOf : PySem.W.plainOver K c_OneOf = true)
    (sa_OneOf : PySem.W.findIn K (.ref c_OneOf) "__setattr__" = some (some (.builtin "object.__setattr__")))
    (ia_OneOf : PySem.W.findIn K (.ref c_OneOf) "__class__" = some (some (.builtin "object.__class__")))
    (im_OneOf : PySem.W.mroIn K c_OneOf (.type "object") = some true)
    (mk_OneOf : PySem.W.makesIn K c_OneOf = true)
    (kc_OneOf : PySem.W.keepIn K (.ref c_OneOf) = true)
    (oget : PySem.W.specialIn K (.builtin "object.__class__") "__get__" = some (some (.builtin "getset_descriptor.__get__")))
    (otakes : PySem.W.takesIn K (.builtin "object.__class__") = some true)
    (e_NoRule : PySem.W.excIn K c_NoRule bmVE "ValueError.__new__" = true)
    (ci_TariffError : PySem.W.isClsIn K c_TariffError = true)
    (ct_TariffError : PySem.W.typeIn K (.ref c_TariffError) = some (.type "type"))
    (cb_TariffError : PySem.W.mroIn K c_TariffError (.type "BaseException") = some true)
    (xga_NoRule : PySem.W.findIn K (.ref c_NoRule) "__getattribute__" = some (some (.builtin "BaseException.__getattribute__")))
    (xgt_NoRule : PySem.W.findIn K (.ref c_NoRule) "__getattr__" = some none)
    (xca_NoRule : PySem.W.findIn K (.ref c_NoRule) "__class__" = some (some (.builtin "object.__class__")))
    (xcn_NoRule : PySem.W.specialIn K (.builtin "object.__class__") "__get__" = some (some (.builtin "getset_descriptor.__get__")))
    (xtk_NoRule : PySem.W.takesIn K (.builtin "object.__class__") = some true)
    (xmo_NoRule : PySem.W.mroIn K c_NoRule (.type "object") = some true)
    (xmb_NoRule : PySem.W.mroIn K c_NoRule (.type "BaseException") = some true)
    (xis_NoRule : PySem.W.isClsIn K c_NoRule = true)
    (sub2 : PySem.W.subIn K (.ref c_NoRule) (.ref c_TariffError) = some true)
    (kf1 : PySem.W.kitOne K (.ref c_NoRule) (.ref c_NoLot) = some false)
    (f2 : PySem.W.kitOne K (.ref c_NoRule) (.ref c_NoNumber) = some false)
    (kn1 : PySem.W.kitOne K (.ref c_NoRule) (.ref c_NoRule) = some true)
    (nad : PySem.W.findIn K (.ref c_Change) "deep" = some none)
    (nas : PySem.W.findIn K (.ref c_Worked) "share" = some none)
    (na1 : PySem.W.findIn K (.ref c_AllOf) "one" = some none)
    (na2 : PySem.W.findIn K (.ref c_AllOf) "other" = some none)
    (na3 : PySem.W.findIn K (.ref c_OneOf) "one" = some none)
    (na4 : PySem.W.findIn K (.ref c_OneOf) "other" = some none)
    (ini1 : PySem.W.findIn K (.ref c_AllOf) "__init__" = some (some (.ref f8)))
    (ini2 : PySem.W.findIn K (.ref c_OneOf) "__init__" = some (some (.ref f8)))
    (z_len : PySem.W.nsIn K mainGlobals "len" = some none)
    (z_range : PySem.W.nsIn K mainGlobals "range" = some none)
    (z_abs : PySem.W.nsIn K mainGlobals "abs" = some none)
    (z_max : PySem.W.nsIn K mainGlobals "max" = some none)
    (z_min : PySem.W.nsIn K mainGlobals "min" = some none)
    (z_isinstance : PySem.W.nsIn K mainGlobals "isinstance" = some none)
    (z_int : PySem.W.nsIn K mainGlobals "int" = some none)
    (z_bool : PySem.W.nsIn K mainGlobals "bool" = some none)
    (z_str : PySem.W.nsIn K mainGlobals "str" = some none)
    (z_list : PySem.W.nsIn K mainGlobals "list" = some none)
    (z_tuple : PySem.W.nsIn K mainGlobals "tuple" = some none)
    (z_sum : PySem.W.nsIn K mainGlobals "sum" = some none)
    (z_all : PySem.W.nsIn K mainGlobals "all" = some none)
    (z_enumerate : PySem.W.nsIn K mainGlobals "enumerate" = some none)
    (z_zip : PySem.W.nsIn K mainGlobals "zip" = some none)
    (z_ValueError : PySem.W.nsIn K mainGlobals "ValueError" = some none)
    (z_any : PySem.W.nsIn K mainGlobals "any" = some none)
    (z_set : PySem.W.nsIn K mainGlobals "set" = some none)
    (z_sorted : PySem.W.nsIn K mainGlobals "sorted" = some none)
    : ∃ fd : FuncData, (∀ (s : Shared) (v : Value), BindsTo s fd ⟨[v], []⟩ [("_law_script", v)]) ∧ ∀ base : Heap, K.In base → base.Ns mainGlobals mg → FnOk l.prog w K mg base CX0 13 fa fd ["_law_script"] (spLaw K) := by
  have e := hfa.symm.trans (PySem.W.mg_of X G a30)
  cases e
  have F1 := fun_mk (st := s_is_whole) l1 c1 k1
  have F2 := fun_mk (st := s_common_of) l2 c2 k2
  have F3 := fun_mk (st := s_is_share) l3 c3 k3
  have F4 := fun_mk (st := s_is_deep) l4 c4 k4
  have F5 := fun_mk (st := s_is_share_of_one) l5 c5 k5
  have F6 := fun_mk (st := s_Change_init) l6 c6 k6
  have F7 := fun_mk (st := s_Worked_init) l7 c7 k7
  have F8 := fun_mk (st := s_OfRules_init) l8 c8 k8
  have F9 := fun_mk (st := s_rule_of_rules) l9 c9 k9
  have F10 := fun_mk (st := s_rule_of_one) l10 c10 k10
  have F11 := fun_mk (st := s_rule_within) l11 c11 k11
  have F12 := fun_mk (st := s_rule_of) l12 c12 k12
  have F13 := fun_mk (st := s_is_prefix) l13 c13 k13
  have F14 := fun_mk (st := s_begins) l14 c14 k14
  have F15 := fun_mk (st := s_nearest) l15 c15 k15
  have F16 := fun_mk (st := s_is_row) l16 c16 k16
  have F17 := fun_mk (st := s_are_rows) l17 c17 k17
  have F18 := fun_mk (st := s_rules_of) l18 c18 k18
  have F19 := fun_mk (st := s_rule_for) l19 c19 k19
  have F20 := fun_mk (st := s_law_cell_at) l20 c20 k20
  have F21 := fun_mk (st := s_law_mix) l21 c21 k21
  have F22 := fun_mk (st := s_law_number) l22 c22 k22
  have F23 := fun_mk (st := s_law_common) l23 c23 k23
  have F24 := fun_mk (st := s_law_part) l24 c24 k24
  have F25 := fun_mk (st := s_law_rule) l25 c25 k25
  have F26 := fun_mk (st := s_law_rows) l26 c26 k26
  have F27 := fun_mk (st := s_law_due) l27 c27 k27
  have F28 := fun_mk (st := s_law_spoilt) l28 c28 k28
  have F29 := fun_mk (st := s_law_refused) l29 c29 k29
  have F30 := fun_mk (st := s_law) l30 c30 k30
  have b1 := F1.binds (ps := ["thing"]) fun _ _ _ _ _ _ us hl => match us, hl with | [_], _ => rfl
  have b2 := F2.binds (ps := ["one", "other"]) fun _ _ _ _ _ _ us hl => match us, hl with | [_, _], _ => rfl
  have b3 := F3.binds (ps := ["thing"]) fun _ _ _ _ _ _ us hl => match us, hl with | [_], _ => rfl
  have b4 := F4.binds (ps := ["thing"]) fun _ _ _ _ _ _ us hl => match us, hl with | [_], _ => rfl
  have b5 := F5.binds (ps := ["thing"]) fun _ _ _ _ _ _ us hl => match us, hl with | [_], _ => rfl
  have b6 := F6.binds (ps := ["self", "deep"]) fun _ _ _ _ _ _ us hl => match us, hl with | [_, _], _ => rfl
  have b7 := F7.binds (ps := ["self", "share"]) fun _ _ _ _ _ _ us hl => match us, hl with | [_, _], _ => rfl
  have b8 := F8.binds (ps := ["self", "one", "other"]) fun _ _ _ _ _ _ us hl => match us, hl with | [_, _, _], _ => rfl
  have b9 := F9.binds (ps := ["word", "one", "other"]) fun _ _ _ _ _ _ us hl => match us, hl with | [_, _, _], _ => rfl
  have b10 := F10.binds (ps := ["told"]) fun _ _ _ _ _ _ us hl => match us, hl with | [_], _ => rfl
  have b11 := F11.binds (ps := ["left", "told"]) fun _ _ _ _ _ _ us hl => match us, hl with | [_, _], _ => rfl
  have b12 := F12.binds (ps := ["told"]) fun _ _ _ _ _ _ us hl => match us, hl with | [_], _ => rfl
  have b13 := F13.binds (ps := ["thing"]) fun _ _ _ _ _ _ us hl => match us, hl with | [_], _ => rfl
  have b14 := F14.binds (ps := ["prefix", "number"]) fun _ _ _ _ _ _ us hl => match us, hl with | [_, _], _ => rfl
  have b15 := F15.binds (ps := ["prefixes", "number"]) fun _ _ _ _ _ _ us hl => match us, hl with | [_, _], _ => rfl
  have b16 := F16.binds (ps := ["thing"]) fun _ _ _ _ _ _ us hl => match us, hl with | [_], _ => rfl
  have b17 := F17.binds (ps := ["thing"]) fun _ _ _ _ _ _ us hl => match us, hl with | [_], _ => rfl
  have b18 := F18.binds (ps := ["rows"]) fun _ _ _ _ _ _ us hl => match us, hl with | [_], _ => rfl
  have b19 := F19.binds (ps := ["rules", "number"]) fun _ _ _ _ _ _ us hl => match us, hl with | [_, _], _ => rfl
  have b20 := F20.binds (ps := ["_law_script", "_law_k"]) fun _ _ _ _ _ _ us hl => match us, hl with | [_, _], _ => rfl
  have b21 := F21.binds (ps := ["_law_cell", "_law_by"]) fun _ _ _ _ _ _ us hl => match us, hl with | [_, _], _ => rfl
  have b22 := F22.binds (ps := ["_law_cell"]) fun _ _ _ _ _ _ us hl => match us, hl with | [_], _ => rfl
  have b23 := F23.binds (ps := ["_law_one", "_law_other"]) fun _ _ _ _ _ _ us hl => match us, hl with | [_, _], _ => rfl
  have b24 := F24.binds (ps := ["_law_cell"]) fun _ _ _ _ _ _ us hl => match us, hl with | [_], _ => rfl
  have b25 := F25.binds (ps := ["_law_cell", "_law_deep"]) fun _ _ _ _ _ _ us hl => match us, hl with | [_, _], _ => rfl
  have b26 := F26.binds (ps := ["_law_script"]) fun _ _ _ _ _ _ us hl => match us, hl with | [_], _ => rfl
  have b27 := F27.binds (ps := ["_law_rows_here", "_law_number_here"]) fun _ _ _ _ _ _ us hl => match us, hl with | [_, _], _ => rfl
  have b28 := F28.binds (ps := ["_law_rows_here", "_law_cell"]) fun _ _ _ _ _ _ us hl => match us, hl with | [_, _], _ => rfl
  have b29 := F29.binds (ps := ["_law_rows_here"]) fun _ _ _ _ _ _ us hl => match us, hl with | [_], _ => rfl
  have M : Mg mg := ⟨PySem.W.mg_none_of X G z_len, PySem.W.mg_none_of X G z_range, PySem.W.mg_none_of X G z_abs, PySem.W.mg_none_of X G z_max, PySem.W.mg_none_of X G z_min, PySem.W.mg_none_of X G z_isinstance, PySem.W.mg_none_of X G z_int, PySem.W.mg_none_of X G z_bool, PySem.W.mg_none_of X G z_str, PySem.W.mg_none_of X G z_list, PySem.W.mg_none_of X G z_tuple, PySem.W.mg_none_of X G z_sum, PySem.W.mg_none_of X G z_all, PySem.W.mg_none_of X G z_enumerate, PySem.W.mg_none_of X G z_zip, PySem.W.mg_none_of X G z_ValueError, PySem.W.mg_none_of X G z_any, PySem.W.mg_none_of X G z_set, PySem.W.mg_none_of X G z_sorted⟩
  refine ⟨PySem.W.fnOf "law" "law" (defArgs s_law) (defBody s_law) (defScope s_law) .none kV30 dc30 pm30 an30 cd30 ct30, fun s v => .of_eq rfl, fun base _ _ => ?_⟩
  have A_TariffError := PySem.W.mg_of X G n_TariffError
  have A_NoNumber := PySem.W.mg_of X G n_NoNumber
  have A_NoRule := PySem.W.mg_of X G n_NoRule
  have A_NoLot := PySem.W.mg_of X G n_NoLot
  have A_Rule := PySem.W.mg_of X G n_Rule
  have A_OfRules := PySem.W.mg_of X G n_OfRules
  have A_Grown := PySem.W.mg_of X G n_Grown
  have A_Change := PySem.W.mg_of X G n_Change
  have A_Worked := PySem.W.mg_of X G n_Worked
  have A_AllOf := PySem.W.mg_of X G n_AllOf
  have A_OneOf := PySem.W.mg_of X G n_OneOf
  have cls_Grown : Cls K c_Grown := ⟨pg_Grown, hd_Grown, po_Grown, sa_Grown⟩
  have ic_Grown : ICls K c_Grown := ⟨cls_Grown, ia_Grown, oget, otakes, im_Grown⟩
  have Z_Grown : Mk0 K c_Grown := ⟨mk_Grown, in_Grown, kc_Grown⟩
  have cls_Change : Cls K c_Change := ⟨pg_Change, hd_Change, po_Change, sa_Change⟩
  have ic_Change : ICls K c_Change := ⟨cls_Change, ia_Change, oget, otakes, im_Change⟩
  have cls_Worked : Cls K c_Worked := ⟨pg_Worked, hd_Worked, po_Worked, sa_Worked⟩
  have ic_Worked : ICls K c_Worked := ⟨cls_Worked, ia_Worked, oget, otakes, im_Worked⟩
  have cls_AllOf : Cls K c_AllOf := ⟨pg_AllOf, hd_AllOf, po_AllOf, sa_AllOf⟩
  have ic_AllOf : ICls K c_AllOf := ⟨cls_AllOf, ia_AllOf, oget, otakes, im_AllOf⟩
  have cls_OneOf : Cls K c_OneOf := ⟨pg_OneOf, hd_OneOf, po_OneOf, sa_OneOf⟩
  have ic_OneOf : ICls K c_OneOf := ⟨cls_OneOf, ia_OneOf, oget, otakes, im_OneOf⟩
  have R_NoRule : XRaise K mg "NoRule" c_NoRule := ⟨A_NoRule, e_NoRule⟩
  have X_TariffError : XCatch K mg "TariffError" c_TariffError := ⟨A_TariffError, (fun z => by unfold PySem.W.isClsIn at ci_TariffError; rw [z] at ci_TariffError; cases ci_TariffError), ct_TariffError, cb_TariffError⟩
  have K_NoRule : XCls K c_NoRule := ⟨xga_NoRule, xgt_NoRule, xca_NoRule, xcn_NoRule, xtk_NoRule, xmo_NoRule, xmb_NoRule, xis_NoRule⟩
  have tc1 : TwoC K c_AllOf := ⟨cls_AllOf, na1, na2⟩
  have tc2 : TwoC K c_OneOf := ⟨cls_OneOf, na3, na4⟩
  have C_is_whole : Cal l.prog w K mg base CX0 "is_whole" 1 ["thing"] (spIsWhole K) := ⟨⟨_, _, ok_is_whole F1 M, b1, k1, PySem.W.mg_of X G a1⟩⟩
  have C_common_of : Cal l.prog w K mg base CX0 "common_of" 1 ["one", "other"] (spCommon) := ⟨⟨_, _, ok_common_of F2 M, b2, k2, PySem.W.mg_of X G a2⟩⟩
  have C_is_share : Cal l.prog w K mg base CX0 "is_share" 2 ["thing"] (spShareV K) := ⟨⟨_, _, ok_is_share F3 M C_is_whole C_common_of, b3, k3, PySem.W.mg_of X G a3⟩⟩
  have C_is_deep : Cal l.prog w K mg base CX0 "is_deep" 2 ["thing"] (spDeepV K) := ⟨⟨_, _, ok_is_deep F4 M C_is_whole, b4, k4, PySem.W.mg_of X G a4⟩⟩
  have C_is_share_of_one : Cal l.prog w K mg base CX0 "is_share_of_one" 3 ["thing"] (spShareO K) := ⟨⟨_, _, ok_is_share_of_one F5 M C_is_share, b5, k5, PySem.W.mg_of X G a5⟩⟩
  have Z_Change : MkC l.prog w K mg base "Change" c_Change 1 ["self", "deep"] (spInit1 c_Change "deep") := ⟨⟨_, _, ⟨mk_Change, a6, t6, kc_Change⟩, ok_Change_init F6 M (cs:=⟨c_Grown,c_Change,c_Worked,c_AllOf,c_OneOf⟩) cls_Change nad, b6⟩, A_Change⟩
  have Z_Worked : MkC l.prog w K mg base "Worked" c_Worked 1 ["self", "share"] (spInit1 c_Worked "share") := ⟨⟨_, _, ⟨mk_Worked, a7, t7, kc_Worked⟩, ok_Worked_init F7 M (cs:=⟨c_Grown,c_Change,c_Worked,c_AllOf,c_OneOf⟩) cls_Worked nas, b7⟩, A_Worked⟩
  have Z_AllOf : MkC l.prog w K mg base "AllOf" c_AllOf 1 ["self", "one", "other"] (spInit2 K) := ⟨⟨_, _, ⟨mk_AllOf, ini1, t8, kc_AllOf⟩, ok_OfRules_init F8 M, b8⟩, A_AllOf⟩
  have Z_OneOf : MkC l.prog w K mg base "OneOf" c_OneOf 1 ["self", "one", "other"] (spInit2 K) := ⟨⟨_, _, ⟨mk_OneOf, ini2, t8, kc_OneOf⟩, ok_OfRules_init F8 M, b8⟩, A_OneOf⟩
  have C_rule_of_rules : Cal l.prog w K mg base CX0 "rule_of_rules" 3 ["word", "one", "other"] (spOfRules K ⟨c_Grown, c_Change, c_Worked, c_AllOf, c_OneOf⟩) := ⟨⟨_, _, ok_rule_of_rules F9 M Z_AllOf Z_OneOf tc1 tc2, b9, k9, PySem.W.mg_of X G a9⟩⟩
  have C_rule_of_one : Cal l.prog w K mg base (CXE l.prog w) "rule_of_one" 4 ["told"] (spOfOne K ⟨c_Grown, c_Change, c_Worked, c_AllOf, c_OneOf⟩ c_NoRule) := ⟨⟨_, _, ok_rule_of_one F10 M C_is_deep C_is_share_of_one Z_Grown A_Grown Z_Change Z_Worked R_NoRule, b10, k10, PySem.W.mg_of X G a10⟩⟩
  have C_rule_within : Cal l.prog w K mg base (CXE l.prog w) "rule_within" 9 ["left", "told"] (spWithin K ⟨c_Grown, c_Change, c_Worked, c_AllOf, c_OneOf⟩ c_NoRule 4) := ⟨⟨_, _, ok_rule_within F11 M C_rule_of_one C_rule_of_rules R_NoRule b11 k11 (PySem.W.mg_of X G a11) 4, b11, k11, PySem.W.mg_of X G a11⟩⟩
  have C_rule_of : Cal l.prog w K mg base (CXE l.prog w) "rule_of" 10 ["told"] (spRuleOf K ⟨c_Grown, c_Change, c_Worked, c_AllOf, c_OneOf⟩ c_NoRule) := ⟨⟨_, _, ok_rule_of F12 M C_rule_within, b12, k12, PySem.W.mg_of X G a12⟩⟩
  have C_is_prefix : Cal l.prog w K mg base CX0 "is_prefix" 2 ["thing"] (spIsPrefix K) := ⟨⟨_, _, ok_is_prefix F13 M C_is_whole, b13, k13, PySem.W.mg_of X G a13⟩⟩
  have C_begins : Cal l.prog w K mg base CX0 "begins" 1 ["prefix", "number"] (spBegins K) := ⟨⟨_, _, ok_begins F14 M, b14, k14, PySem.W.mg_of X G a14⟩⟩
  have C_nearest : Cal l.prog w K mg base CX0 "nearest" 2 ["prefixes", "number"] (spNearest K) := ⟨⟨_, _, ok_nearest F15 M C_begins, b15, k15, PySem.W.mg_of X G a15⟩⟩
  have C_is_row : Cal l.prog w K mg base CX0 "is_row" 3 ["thing"] (spIsRow K) := ⟨⟨_, _, ok_is_row F16 M C_is_prefix, b16, k16, PySem.W.mg_of X G a16⟩⟩
  have C_are_rows : Cal l.prog w K mg base CX0 "are_rows" 4 ["thing"] (spAreRows K) := ⟨⟨_, _, ok_are_rows F17 M C_is_row, b17, k17, PySem.W.mg_of X G a17⟩⟩
  have C_rules_of : Cal l.prog w K mg base (CXE l.prog w) "rules_of" 11 ["rows"] (spRulesOf K c_NoRule) := ⟨⟨_, _, ok_rules_of F18 M C_are_rows C_rule_of R_NoRule, b18, k18, PySem.W.mg_of X G a18⟩⟩
  have C_rule_for : Cal l.prog w K mg base CX0 "rule_for" 3 ["rules", "number"] (spRuleFor K) := ⟨⟨_, _, ok_rule_for F19 M C_nearest, b19, k19, PySem.W.mg_of X G a19⟩⟩
  have C_law_cell_at : Cal l.prog w K mg base CX0 "_law_cell_at" 1 ["_law_script", "_law_k"] (spCellAt K) := ⟨⟨_, _, ok_law_cell_at F20 M, b20, k20, PySem.W.mg_of X G a20⟩⟩
  have C_law_mix : Cal l.prog w K mg base CX0 "_law_mix" 1 ["_law_cell", "_law_by"] (spMix) := ⟨⟨_, _, ok_law_mix F21 M, b21, k21, PySem.W.mg_of X G a21⟩⟩
  have C_law_number : Cal l.prog w K mg base CX0 "_law_number" 2 ["_law_cell"] (spNumber K) := ⟨⟨_, _, ok_law_number F22 M C_law_mix, b22, k22, PySem.W.mg_of X G a22⟩⟩
  have C_law_common : Cal l.prog w K mg base CX0 "_law_common" 1 ["_law_one", "_law_other"] (spGcd) := ⟨⟨_, _, ok_law_common F23 M, b23, k23, PySem.W.mg_of X G a23⟩⟩
  have C_law_part : Cal l.prog w K mg base CX0 "_law_part" 2 ["_law_cell"] (spPart K) := ⟨⟨_, _, ok_law_part F24 M C_law_mix C_law_common, b24, k24, PySem.W.mg_of X G a24⟩⟩
  have C_law_rule : Cal l.prog w K mg base CX0 "_law_rule" 7 ["_law_cell", "_law_deep"] (spRuleU K) := ⟨⟨_, _, fnok_union (L := 3) (n := 4) (ok_law_rule F25 M C_law_mix C_law_part b25 k25 (PySem.W.mg_of X G a25)), b25, k25, PySem.W.mg_of X G a25⟩⟩
  have C_law_rows : Cal l.prog w K mg base CX0 "_law_rows" 8 ["_law_script"] (spRows K) := ⟨⟨_, _, ok_law_rows F26 M C_law_cell_at C_law_mix C_law_number C_law_rule, b26, k26, PySem.W.mg_of X G a26⟩⟩
  have C_law_due : Cal l.prog w K mg base CX0 "_law_due" 1 ["_law_rows_here", "_law_number_here"] (spDue K) := ⟨⟨_, _, ok_law_due F27 M, b27, k27, PySem.W.mg_of X G a27⟩⟩
  have C_law_spoilt : Cal l.prog w K mg base CX0 "_law_spoilt" 1 ["_law_rows_here", "_law_cell"] (spSpoilt K) := ⟨⟨_, _, ok_law_spoilt F28 M, b28, k28, PySem.W.mg_of X G a28⟩⟩
  have C_law_refused : Cal l.prog w K mg base CX0 "_law_refused" 12 ["_law_rows_here"] (spRefused K) := ⟨⟨_, _, ok_law_refused F29 M C_rules_of A_NoRule A_NoLot A_NoNumber X_TariffError K_NoRule sub2 kf1 f2 kn1, b29, k29, PySem.W.mg_of X G a29⟩⟩
  exact ok_law F30 M C_rules_of C_rule_for C_law_cell_at C_law_mix C_law_number C_law_rows C_law_spoilt C_law_refused C_law_due
theorem walk {l : PySem.W.OpenLaw} {q : Program} {loose : List Str} {XP : (Str → Option Value) → Heap → Prop} {YP : World → Heap → Prop} {d : DefRec} {K : Params → PySem.W.Frag} (hn : l.most = some 63) (hdf : d.params.defaults = [])
    (hY : ∀ (w : World) (h : Heap), YP w h → (K w.params).In h)
    (F : ∀ (w : World) (mg : Str → Option Value) (fa : Addr) (h : Heap), (K w.params).In h → h.Ns mainGlobals mg → mg d.name = some (.ref fa) →
      ∃ fd : FuncData, (∀ (s : Shared) (u : Value), BindsTo s fd ⟨[u], []⟩ [("_law_script", u)]) ∧ ∀ base : Heap, (K w.params).In base → base.Ns mainGlobals mg → FnOk l.prog w (K w.params) mg base CX0 13 fa fd ["_law_script"] (spLaw (K w.params))) :
    PySem.W.WalkO q loose XP YP l.row.toRowW d [] (fun f vs => PySem.call f vs) :=
  L2.walk_of (n := 63) (k := 13) (x := "_law_script") (CX := fun _ => CX0) (sp := fun w => spLaw (K w.params)) hn (by decide) hdf ⟨rfl, by decide, by decide⟩ hY F (fun _ _ a ns hl _ hS => ⟨a, ns, rfl, hS, hl, fun _ => rfl⟩) fun _ _ _ _ _ z => z
end My
theorem PySem.W.Fast.tw5602580043102482601 : True := trivial
theorem PySem.W.Fast.tw17109253575677356846 : True := trivial
theorem PySem.W.Fast.tw18365730550398365397 : True := trivial
theorem PySem.W.Fast.tw8915206870016181634 : True := trivial
theorem PySem.W.Fast.tw13494019413021510406 : True := trivial
theorem PySem.W.Fast.tw4574382074139910044 : True := trivial
theorem PySem.W.Fast.tw18381628063688864314 : True := trivial
theorem PySem.W.Fast.tw17033093490910616903 : True := trivial
theorem PySem.W.Fast.tw16541169534486758998 : True := trivial
theorem PySem.W.Fast.tw5150692709702866481 : True := trivial
theorem PySem.W.Fast.tw12379259232535138970 : True := trivial
theorem PySem.W.Fast.tw9519972921504639701 : True := trivial
theorem PySem.W.Fast.tw18143974918338245471 : True := trivial
theorem PySem.W.Fast.tw7412505865520979458 : True := trivial
theorem PySem.W.Fast.tw17166400547287877551 : True := trivial
theorem PySem.W.Fast.tw7165169159114324481 : True := trivial
theorem PySem.W.Fast.tw2419884001836259522 : True := trivial
theorem PySem.W.Fast.tw11935483689876176848 : True := trivial
theorem PySem.W.Fast.tw7869570997472198984 : True := trivial
theorem PySem.W.Fast.tw1530690344103061553 : True := trivial
theorem PySem.W.Fast.tw2291248944387589555 : True := trivial
theorem PySem.W.Fast.tw17809371523661092807 : True := trivial
theorem PySem.W.Fast.tw13974294425937870966 : True := trivial
theorem PySem.W.Fast.tw418398372652435332 : True := trivial
theorem PySem.W.Fast.tw4150855213812297844 : True := trivial
theorem PySem.W.Fast.tw9077706186336428638 : True := trivial
theorem PySem.W.Fast.tw15322323439157781015 : True := trivial
theorem PySem.W.Fast.tw6082698446070031589 : True := trivial
theorem PySem.W.Fast.tw2312294729004859248 : True := trivial
theorem PySem.W.Fast.tw139278432018886719 : True := trivial
theorem PySem.W.Fast.tw8987088176275654321 : True := trivial
theorem PySem.W.Fast.tw18215172330737256731 : True := trivial
theorem PySem.W.Fast.tw8519015074933573884 : True := trivial
theorem PySem.W.Fast.tw3679670870347376386 : True := trivial
theorem PySem.W.Fast.tw1111592875963889585 : True := trivial
theorem PySem.W.Fast.tw11951638770854092910 : True := trivial
theorem PySem.W.Fast.tw4909801695804947251 : True := trivial
theorem PySem.W.Fast.tw11109522915178104993 : True := trivial
theorem PySem.W.Fast.tw14804452648418500092 : True := trivial
theorem PySem.W.Fast.tw7968816375063660570 : True := trivial
theorem PySem.W.Fast.tw16910488969273728027 : True := trivial
theorem PySem.W.Fast.tw12761186036022844438 : True := trivial
theorem PySem.W.Fast.tw17184627576890520831 : True := trivial
theorem PySem.W.Fast.tw4760010970709658327 : True := trivial
theorem PySem.W.Fast.tw7397837987480833137 : True := trivial
theorem PySem.W.Fast.tw1333227673948486830 : True := trivial
theorem PySem.W.Fast.tw13389241174770705262 : True := trivial
theorem PySem.W.Fast.tw3503212828944336716 : True := trivial
theorem PySem.W.Fast.tw17029429969868031990 : True := trivial
theorem PySem.W.Fast.tw2479257739105215215 : True := trivial
theorem PySem.W.Fast.tw13887016991788919537 : True := trivial
theorem PySem.W.Fast.tw12367730472120865859 : True := trivial
theorem PySem.W.Fast.tw3428107208541237215 : True := trivial
theorem PySem.W.Fast.tw2444462091280138486 : True := trivial
theorem PySem.W.Fast.tw10849830267381650258 : True := trivial
theorem PySem.W.Fast.tw4298486443454554123 : True := trivial
theorem PySem.W.Fast.tw7760280265567048388 : True := trivial
theorem PySem.W.Fast.tw13213758059291694094 : True := trivial
theorem PySem.W.Fast.tw3013687098348488777 : True := trivial
theorem PySem.W.Fast.tw170390159015048896 : True := trivial
theorem PySem.W.Fast.tw11307715691072054129 : True := trivial
theorem PySem.W.Fast.tw9753530343494350002 : True := trivial
theorem PySem.W.Fast.tw6407585484568114366 : True := trivial
theorem PySem.W.Fast.tw12417566334213221879 : True := trivial
theorem PySem.W.Fast.tw15853399804543267573 : True := trivial
theorem PySem.W.Fast.tw14495927078417100190 : True := trivial
theorem PySem.W.Fast.tw7456329678148321164 : True := trivial
theorem PySem.W.Fast.tw17525308413973032665 : True := trivial
theorem PySem.W.Fast.tw12064268654334806998 : True := trivial
theorem PySem.W.Fast.tw371648951207219174 : True := trivial
theorem PySem.W.Fast.tw15054827880543808786 : True := trivial
theorem PySem.W.Fast.tw5820582788783548565 : True := trivial
theorem PySem.W.Fast.tw455958051417557156 : True := trivial
theorem PySem.W.Fast.tw12917052277681714330 : True := trivial
theorem PySem.W.Fast.tw3266736377446341327 : True := trivial
theorem PySem.W.Fast.tw12121880814544383342 : True := trivial
theorem PySem.W.Fast.tw15889388470919387255 : True := trivial
theorem PySem.W.Fast.tw6741138005393154495 : True := trivial
theorem PySem.W.Fast.tw6130833454716940129 : True := trivial
theorem PySem.W.Fast.tw15331846046123937311 : True := trivial
theorem PySem.W.Fast.tw7415493979115088234 : True := trivial
theorem PySem.W.Fast.tw12751337777849141681 : True := trivial
theorem PySem.W.Fast.tw17012899029261924399 : True := trivial
theorem PySem.W.Fast.tw763061059191005392 : True := trivial
theorem PySem.W.Fast.tw17858661740154405612 : True := trivial
theorem PySem.W.Fast.tw18245068142737318583 : True := trivial
theorem PySem.W.Fast.tw955319492203229285 : True := trivial
theorem PySem.W.Fast.tw1635525537643332914 : True := trivial
theorem PySem.W.Fast.tw17522771514052874500 : True := trivial
theorem PySem.W.Fast.tw16021889308860165871 : True := trivial
theorem PySem.W.Fast.tw224102155429097618 : True := trivial
theorem PySem.W.Fast.tw17366249877160161335 : True := trivial
theorem PySem.W.Fast.tw9058633217300404588 : True := trivial
theorem PySem.W.Fast.tw7301166451911968832 : True := trivial
theorem PySem.W.Fast.tw16235229115657486288 : True := trivial
theorem PySem.W.Fast.tw12753169068788708367 : True := trivial
theorem PySem.W.Fast.tw6404731488350023581 : True := trivial
theorem PySem.W.Fast.tw5098388287276329434 : True := trivial
theorem PySem.W.Fast.tw6468010353691986493 : True := trivial
theorem PySem.W.Fast.tw16615594372292682261 : True := trivial
theorem PySem.W.Fast.tw9184510548603845906 : True := trivial
theorem PySem.W.Fast.tw693038581525945402 : True := trivial
theorem PySem.W.Fast.tw1130740717943058026 : True := trivial
theorem PySem.W.Fast.tw2586043864082137566 : True := trivial
theorem PySem.W.Fast.tw14355980497081353930 : True := trivial
theorem PySem.W.Fast.tw15144061206050541367 : True := trivial
theorem PySem.W.Fast.tw12074313956603380775 : True := trivial
theorem PySem.W.Fast.tw10830215148431559882 : True := trivial
theorem PySem.W.Fast.tw17303113325824407471 : True := trivial
theorem PySem.W.Fast.tw8651836833813761392 : True := trivial
theorem PySem.W.Fast.tw17249917906792504620 : True := trivial
theorem PySem.W.Fast.tw10124036317320872063 : True := trivial
theorem PySem.W.Fast.tw11703969960370239427 : True := trivial
theorem PySem.W.Fast.tw2362636060876809692 : True := trivial
theorem PySem.W.Fast.tw15995047692397273535 : True := trivial
theorem PySem.W.Fast.tw8288248533831013306 : True := trivial
theorem PySem.W.Fast.tw16610263072933845614 : True := trivial
theorem PySem.W.Fast.tw16549617091858498721 : True := trivial
theorem PySem.W.Fast.tw3782726152192809116 : True := trivial
theorem PySem.W.Fast.tw12776212002397772035 : True := trivial
theorem PySem.W.Fast.tw15312722906897503848 : True := trivial
theorem PySem.W.Fast.tw8067359356040621415 : True := trivial
theorem PySem.W.Fast.tw14030738625892860249 : True := trivial
theorem PySem.W.Fast.tw1705538668414817651 : True := trivial
theorem PySem.W.Fast.tw3941933347434337141 : True := trivial
theorem PySem.W.Fast.tw6887555853064198592 : True := trivial
theorem PySem.W.Fast.tw14813120606485343681 : True := trivial
theorem PySem.W.Fast.tw3238173309893015300 : True := trivial
theorem PySem.W.Fast.tw8693718886794170953 : True := trivial
theorem PySem.W.Fast.tw4657742737438481885 : True := trivial
theorem PySem.W.Fast.tw16832434890799591313 : True := trivial
theorem PySem.W.Fast.tw3760097308996567003 : True := trivial
theorem PySem.W.Fast.tw6123959019956937490 : True := trivial
theorem PySem.W.Fast.tw12010030532271988521 : True := trivial
theorem PySem.W.Fast.tw7719269433133407691 : True := trivial
theorem PySem.W.Fast.tw9306817754810571264 : True := trivial
theorem PySem.W.Fast.tw6646825001103955396 : True := trivial
theorem PySem.W.Fast.tw9921083498702319392 : True := trivial
theorem PySem.W.Fast.tw5597523963328809339 : True := trivial
theorem PySem.W.Fast.tw13090276668192263915 : True := trivial
theorem PySem.W.Fast.tw9823494922799605566 : True := trivial
theorem PySem.W.Fast.tw7102017243092527512 : True := trivial
theorem PySem.W.Fast.tw2731810276946131243 : True := trivial
theorem PySem.W.Fast.tw8030342220033764494 : True := trivial
theorem PySem.W.Fast.tw4824842025847876385 : True := trivial
theorem PySem.W.Fast.tw7589844942178375149 : True := trivial
theorem PySem.W.Fast.tw799060603695672940 : True := trivial
theorem PySem.W.Fast.tw6574622920483051756 : True := trivial
theorem PySem.W.Fast.tw14270719482592262233 : True := trivial
theorem PySem.W.Fast.tw16234749006160796642 : True := trivial
theorem PySem.W.Fast.tw3834135128161987709 : True := trivial
theorem PySem.W.Fast.tw17703254443948400545 : True := trivial
theorem PySem.W.Fast.tw10652991085774392330 : True := trivial
theorem PySem.W.Fast.tw4978523534494712393 : True := trivial
theorem PySem.W.Fast.tw4638676399435068922 : True := trivial
theorem PySem.W.Fast.tw84425735969931787 : True := trivial
theorem PySem.W.Fast.tw15616113798387830559 : True := trivial
theorem PySem.W.Fast.tw14575799565056437003 : True := trivial
theorem PySem.W.Fast.tw11007216174254513933 : True := trivial
theorem PySem.W.Fast.tw17394921577396619589 : True := trivial
theorem PySem.W.Fast.tw14614352361463582156 : True := trivial
theorem PySem.W.Fast.tw16856589717378881860 : True := trivial
theorem PySem.W.Fast.tw6739166638326473356 : True := trivial
theorem PySem.W.Fast.tw17534561822394467385 : True := trivial
theorem PySem.W.Fast.tw4880417508094407686 : True := trivial
theorem PySem.W.Fast.tw15038342760884756623 : True := trivial
theorem PySem.W.Fast.tw14122489847295820002 : True := trivial
theorem PySem.W.Fast.tw77741737836681971 : True := trivial
theorem PySem.W.Fast.tw4904107666524758437 : True := trivial
theorem PySem.W.Fast.tw6529644215373628001 : True := trivial
theorem PySem.W.Fast.tw5401964576911067872 : True := trivial
theorem PySem.W.Fast.tw12552564844033286808 : True := trivial
theorem PySem.W.Fast.tw13594361353779927449 : True := trivial
theorem PySem.W.Fast.tw10374032601921416807 : True := trivial
theorem PySem.W.Fast.tw12735811956987748545 : True := trivial
theorem PySem.W.Fast.tw16181619487371445173 : True := trivial
theorem PySem.W.Fast.tw9045886759548139752 : True := trivial
theorem PySem.W.Fast.tw5313213594676900111 : True := trivial
theorem PySem.W.Fast.tw5088565305264673032 : True := trivial
theorem PySem.W.Fast.tw13358728499288477046 : True := trivial
theorem PySem.W.Fast.tw18348731502204939064 : True := trivial
theorem PySem.W.Fast.tw8323413881416320299 : True := trivial
theorem PySem.W.Fast.tw10923507967753030621 : True := trivial
theorem PySem.W.Fast.tw11707343673417364405 : True := trivial
theorem PySem.W.Fast.tw7405514108597044978 : True := trivial
theorem PySem.W.Fast.tw5350059847602628882 : True := trivial
theorem PySem.W.Fast.tw3720538497479862220 : True := trivial
theorem PySem.W.Fast.tw4699179830515265798 : True := trivial
theorem PySem.W.Fast.tw11225667237641760221 : True := trivial
theorem PySem.W.Fast.tw14147453087987101988 : True := trivial
theorem PySem.W.Fast.tw8715934581480829245 : True := trivial
theorem PySem.W.Fast.tw1818200000949857452 : True := trivial
theorem PySem.W.Fast.tw6977559566996190235 : True := trivial
theorem PySem.W.Fast.tw737319509022313111 : True := trivial
theorem PySem.W.Fast.tw3200246875749962039 : True := trivial
theorem PySem.W.Fast.tw5416616476776204480 : True := trivial
theorem PySem.W.Fast.tw6719895187075543742 : True := trivial
theorem PySem.W.Fast.tw3159770463595541557 : True := trivial
theorem PySem.W.Fast.tw12828161784344259525 : True := trivial
theorem PySem.W.Fast.tw1646779975471143094 : True := trivial
theorem PySem.W.Fast.tw8351810161079859614 : True := trivial
theorem PySem.W.Fast.tw11062190260966856654 : True := trivial
theorem PySem.W.Fast.tw8361972201994732544 : True := trivial
theorem PySem.W.Fast.tw11050028295590767127 : True := trivial
theorem PySem.W.Fast.tw13893683156871313576 : True := trivial
theorem PySem.W.Fast.tw12758267482581810964 : True := trivial
theorem PySem.W.Fast.tw1658949599909662398 : True := trivial
theorem PySem.W.Fast.tw2437502645077814452 : True := trivial
theorem PySem.W.Fast.tw7517818022224273644 : True := trivial
theorem PySem.W.Fast.tw8216412729416438330 : True := trivial
theorem PySem.W.Fast.tw8253822080719059063 : True := trivial
theorem PySem.W.Fast.tw18126382443329332881 : True := trivial
theorem PySem.W.Fast.tw9144565090817278923 : True := trivial
theorem PySem.W.Fast.tw14735807765960975127 : True := trivial
theorem PySem.W.Fast.tw9594355296975398480 : True := trivial
theorem PySem.W.Fast.tw10228665079581146988 : True := trivial
theorem PySem.W.Fast.tw136417048626011127 : True := trivial
theorem PySem.W.Fast.tw313899746175115220 : True := trivial
theorem PySem.W.Fast.tw5621990193827337272 : True := trivial
theorem PySem.W.Fast.tw13887283256007367624 : True := trivial
theorem PySem.W.Fast.tw3487213372726451863 : True := trivial
theorem PySem.W.Fast.tw11895424992837584324 : True := trivial
theorem PySem.W.Fast.tw9236603088528338965 : True := trivial
theorem PySem.W.Fast.tw5595482816698690184 : True := trivial
theorem PySem.W.Fast.tw2998821021204634910 : True := trivial
theorem PySem.W.Fast.tw16573190035329925814 : True := trivial
theorem PySem.W.Fast.tw13133024361161519714 : True := trivial
theorem PySem.W.Fast.tw3452667932821560344 : True := trivial
theorem PySem.W.Fast.tw18271763015082462926 : True := trivial
theorem PySem.W.Fast.tw5322006422482479925 : True := trivial
theorem PySem.W.Fast.tw9779969591283840270 : True := trivial
theorem PySem.W.Fast.tw9816196652267367013 : True := trivial
theorem PySem.W.Fast.tw13010583799482811767 : True := trivial
theorem PySem.W.Fast.tw14703066485643553549 : True := trivial
theorem PySem.W.Fast.tw9907773453720749585 : True := trivial
theorem PySem.W.Fast.tw18278090347353092526 : True := trivial
theorem PySem.W.Fast.tw11504929356256894898 : True := trivial
theorem PySem.W.Fast.tw10619114651105139371 : True := trivial
theorem PySem.W.Fast.tw10151521067067181553 : True := trivial
theorem PySem.W.Fast.tw8342319478683633734 : True := trivial
theorem PySem.W.Fast.tw5129501314646949137 : True := trivial
theorem PySem.W.Fast.tw13343811140196813381 : True := trivial
theorem PySem.W.Fast.tw8997714566121072747 : True := trivial
theorem PySem.W.Fast.tw9478390310355573206 : True := trivial
theorem PySem.W.Fast.tw2784611187480930594 : True := trivial
theorem PySem.W.Fast.tw11484810184050169660 : True := trivial
theorem PySem.W.Fast.tw6350127809067167155 : True := trivial
theorem PySem.W.Fast.tw4481010073697678281 : True := trivial
theorem PySem.W.Fast.tw7259805683178676014 : True := trivial
theorem PySem.W.Fast.tw3573675616352040759 : True := trivial
theorem PySem.W.Fast.tw15040090098129985645 : True := trivial
theorem PySem.W.Fast.tw3453146780172912169 : True := trivial
theorem PySem.W.Fast.tw1052754853068127744 : True := trivial
theorem PySem.W.Fast.tw2246527507724442904 : True := trivial
theorem PySem.W.Fast.tw11811627573173752166 : True := trivial
theorem PySem.W.Fast.tw5991149940826450344 : True := trivial
theorem PySem.W.Fast.tw13706344905040937149 : True := trivial
theorem PySem.W.Fast.tw14344889038046203090 : True := trivial
theorem PySem.W.Fast.tw10846309279136039467 : True := trivial
theorem PySem.W.Fast.tw13108516006797829348 : True := trivial
theorem PySem.W.Fast.tw9234483459012390556 : True := trivial
theorem PySem.W.Fast.tw18284387509131179786 : True := trivial
theorem PySem.W.Fast.tw10954086005589781694 : True := trivial
theorem PySem.W.Fast.tw1054981632310965807 : True := trivial
theorem PySem.W.Fast.tw16791749685139917847 : True := trivial
theorem PySem.W.Fast.tw15039533741619883799 : True := trivial
theorem PySem.W.Fast.tw16105204684175696477 : True := trivial
theorem PySem.W.Fast.tw5905515914802963209 : True := trivial
theorem PySem.W.Fast.tw4607890454444008905 : True := trivial
theorem PySem.W.Fast.tw13745586636902796087 : True := trivial
theorem PySem.W.Fast.tw8960229907634619763 : True := trivial
theorem PySem.W.Fast.tw12315839015753124025 : True := trivial
theorem PySem.W.Fast.tw4826700566892644290 : True := trivial
theorem PySem.W.Fast.tw13387169282547664652 : True := trivial
theorem PySem.W.Fast.tw15391695631910104638 : True := trivial
theorem PySem.W.Fast.tw13485467127810927542 : True := trivial
theorem PySem.W.Fast.tw456299587798432598 : True := trivial
theorem PySem.W.Fast.tw8132948435064989617 : True := trivial
theorem PySem.W.Fast.tw17240435865409075046 : True := trivial
theorem PySem.W.Fast.tw2304786197074598513 : True := trivial
theorem PySem.W.Fast.tw5493023634034815949 : True := trivial
theorem PySem.W.Fast.tw3899961064824438694 : True := trivial
theorem PySem.W.Fast.tw12056522335722959552 : True := trivial
theorem PySem.W.Fast.tw8258069803411926655 : True := trivial
theorem PySem.W.Fast.tw10478533507287557940 : True := trivial
theorem PySem.W.Fast.tw3018506550377803250 : True := trivial
theorem PySem.W.Fast.tw13891112857479945515 : True := trivial
theorem PySem.W.Fast.tw15091641918149963333 : True := trivial
theorem PySem.W.Fast.tw10749916562913977974 : True := trivial
theorem PySem.W.Fast.tw1003700466228491948 : True := trivial
theorem PySem.W.Fast.tw5835288351243364139 : True := trivial
theorem PySem.W.Fast.tw5386434769422438629 : True := trivial
theorem PySem.W.Fast.tw2504304769630245843 : True := trivial
theorem PySem.W.Fast.tw9950689861130365250 : True := trivial
theorem PySem.W.Fast.tw5426931594738686210 : True := trivial
theorem PySem.W.Fast.tw11406368445757948615 : True := trivial
theorem PySem.W.Fast.tw17042427905534980158 : True := trivial
theorem PySem.W.Fast.tw3871213988672734869 : True := trivial
theorem PySem.W.Fast.tw4861367064644166428 : True := trivial
theorem PySem.W.Fast.tw12660265502373611505 : True := trivial
theorem PySem.W.Fast.tw702245206338433070 : True := trivial
theorem PySem.W.Fast.tw452023115327210310 : True := trivial
theorem PySem.W.Fast.tw1236020996989372075 : True := trivial
theorem PySem.W.Fast.tw15008103512191968437 : True := trivial
theorem PySem.W.Fast.tw11171391037750353094 : True := trivial
theorem PySem.W.Fast.tw8513560020012269574 : True := trivial
theorem PySem.W.Fast.tw4243769275359404337 : True := trivial
theorem PySem.W.Fast.tw17742611537444704484 : True := trivial
theorem PySem.W.Fast.tw12266837320514711421 : True := trivial
theorem PySem.W.Fast.tw10079918575644392005 : True := trivial
theorem PySem.W.Fast.tw5133220654374314351 : True := trivial
theorem PySem.W.Fast.tw15200541670345211431 : True := trivial
theorem PySem.W.Fast.tw1560490859264439534 : True := trivial
theorem PySem.W.Fast.tw7966494318253515255 : True := trivial
theorem PySem.W.Fast.tw12298751815406456436 : True := trivial
theorem PySem.W.Fast.tw14492314424220499846 : True := trivial
theorem PySem.W.Fast.tw7030260326892820379 : True := trivial
theorem PySem.W.Fast.tw11630648647186084105 : True := trivial
theorem PySem.W.Fast.tw17956767646491054198 : True := trivial
theorem PySem.W.Fast.tw14569124595835450746 : True := trivial
theorem PySem.W.Fast.tw9737817917868617044 : True := trivial
theorem PySem.W.Fast.tw8436540483308777537 : True := trivial
theorem PySem.W.Fast.tw3927965253607903751 : True := trivial
theorem PySem.W.Fast.tw5392539016271000908 : True := trivial
theorem PySem.W.Fast.tw15443268266986466239 : True := trivial
theorem PySem.W.Fast.tw872028179448708393 : True := trivial
theorem PySem.W.Fast.tw13256000864321019006 : True := trivial
theorem PySem.W.Fast.tw1197680026611043774 : True := trivial
theorem PySem.W.Fast.tw14216082478229771663 : True := trivial
theorem PySem.W.Fast.tw18295027502875881302 : True := trivial
theorem PySem.W.Fast.tw768798642270773000 : True := trivial
theorem PySem.W.Fast.tw5193339541269653451 : True := trivial
theorem PySem.W.Fast.tw14475960351312331413 : True := trivial
theorem PySem.W.Fast.tw9399229336654194920 : True := trivial
theorem PySem.W.Fast.tw17642477891554493278 : True := trivial
theorem PySem.W.Fast.tw13013058711770577235 : True := trivial
theorem PySem.W.Fast.tw2377529643821608109 : True := trivial
theorem PySem.W.Fast.tw7879428349320418569 : True := trivial
theorem PySem.W.Fast.tw5470877587599268890 : True := trivial
theorem PySem.W.Fast.tw5955148771149704618 : True := trivial
theorem PySem.W.Fast.tw9353724763098395431 : True := trivial
theorem PySem.W.Fast.tw11320990229859927995 : True := trivial
theorem PySem.W.Fast.tw1308080782219432787 : True := trivial
theorem PySem.W.Fast.tw1827166551537561921 : True := trivial
theorem PySem.W.Fast.tw11121035687448803628 : True := trivial
theorem PySem.W.Fast.tw13917098441674422065 : True := trivial
theorem PySem.W.Fast.tw4605517534654603626 : True := trivial
theorem PySem.W.Fast.tw7332187479230712739 : True := trivial
theorem PySem.W.Fast.tw7540805423687389352 : True := trivial
theorem PySem.W.Fast.tw2878660251405204342 : True := trivial
theorem PySem.W.Fast.tw18184919007880484523 : True := trivial
theorem PySem.W.Fast.tw10528535676941638009 : True := trivial
theorem PySem.W.Fast.tw15050330901367575537 : True := trivial
theorem PySem.W.Fast.tw7621378331138212291 : True := trivial
theorem PySem.W.Fast.tw11462113046289933350 : True := trivial
theorem PySem.W.Fast.tw12177344429251120194 : True := trivial
theorem PySem.W.Fast.tw5070989604221846432 : True := trivial
theorem PySem.W.Fast.tw7309406073336242320 : True := trivial
theorem PySem.W.Fast.tw18137717957155219797 : True := trivial
theorem PySem.W.Fast.tw14015536872763007135 : True := trivial
theorem PySem.W.Fast.tw8617981949792196609 : True := trivial
theorem PySem.W.Fast.tw5353786309018618763 : True := trivial
theorem PySem.W.Fast.tw5970150404144389026 : True := trivial
theorem PySem.W.Fast.tw5765574262241642463 : True := trivial
theorem PySem.W.Fast.tw7436358525095289431 : True := trivial
theorem PySem.W.Fast.tw5871589500801190280 : True := trivial
theorem PySem.W.Fast.tw9859607772209128492 : True := trivial
theorem PySem.W.Fast.tw12539915240269689853 : True := trivial
theorem PySem.W.Fast.tw5800090986478683600 : True := trivial
theorem PySem.W.Fast.tw14288033397734856223 : True := trivial
theorem PySem.W.Fast.tw11416816094206489705 : True := trivial
theorem PySem.W.Fast.tw1391742239797990999 : True := trivial
theorem PySem.W.Fast.tw11476754323254695839 : True := trivial
theorem PySem.W.Fast.tw7419948623986554786 : True := trivial
theorem PySem.W.Fast.tw9716539368747563790 : True := trivial
theorem PySem.W.Fast.tw13986088106531489050 : True := trivial
theorem PySem.W.Fast.tw9329777166708287639 : True := trivial
theorem PySem.W.Fast.tw5352545883694259487 : True := trivial
theorem PySem.W.Fast.tw548071196503995855 : True := trivial
theorem PySem.W.Fast.tw11870310553886209031 : True := trivial
theorem PySem.W.Fast.tw16637676107967027776 : True := trivial
theorem PySem.W.Fast.tw1102219869919118420 : True := trivial
theorem PySem.W.Fast.tw6165449310194153047 : True := trivial
theorem PySem.W.Fast.tw12901205048148906170 : True := trivial
theorem PySem.W.Fast.tw11812993051396374021 : True := trivial
theorem PySem.W.Fast.tw17506829753635691522 : True := trivial
theorem PySem.W.Fast.tw4737986629159325130 : True := trivial
theorem PySem.W.Fast.tw2823677811197893200 : True := trivial
theorem PySem.W.Fast.tw4361738643428541296 : True := trivial
theorem PySem.W.Fast.tw11603001500322872432 : True := trivial
theorem PySem.W.Fast.tw18141260449888888561 : True := trivial
theorem PySem.W.Fast.tw8428856406883514135 : True := trivial
theorem PySem.W.Fast.tw8525184701281599003 : True := trivial
theorem PySem.W.Fast.tw15941317722192663683 : True := trivial
theorem PySem.W.Fast.tw1184898633895747223 : True := trivial
theorem PySem.W.Fast.tw11196227266224553443 : True := trivial
theorem PySem.W.Fast.tw7806187554452193365 : True := trivial
theorem PySem.W.Fast.tw7509836617701941282 : True := trivial
theorem PySem.W.Fast.tw17205493090907586580 : True := trivial
theorem PySem.W.Fast.tw2888729606642358420 : True := trivial
theorem PySem.W.Fast.tw15599368346029116960 : True := trivial
theorem PySem.W.Fast.tw6908980850173635622 : True := trivial
theorem PySem.W.Fast.tw15132585696832669318 : True := trivial
theorem PySem.W.Fast.tw17530283595081254096 : True := trivial
theorem PySem.W.Fast.tw8504130575657722497 : True := trivial
theorem PySem.W.Fast.tw285810526491113223 : True := trivial
theorem PySem.W.Fast.tw11100758758565270480 : True := trivial
theorem PySem.W.Fast.tw2041549789764440572 : True := trivial
theorem PySem.W.Fast.tw7118137512709087208 : True := trivial
theorem PySem.W.Fast.tw7738447365086352460 : True := trivial
theorem PySem.W.Fast.tw7921903094297954091 : True := trivial
theorem PySem.W.Fast.tw17704819936065251042 : True := trivial
theorem PySem.W.Fast.tw9352821361973361744 : True := trivial
theorem PySem.W.Fast.tw7150432743314408711 : True := trivial
theorem PySem.W.Fast.tw8728220237715521934 : True := trivial
theorem PySem.W.Fast.tw1205686332713913763 : True := trivial
theorem PySem.W.Fast.tw7987674649930188169 : True := trivial
theorem PySem.W.Fast.tw550498406607097098 : True := trivial
theorem PySem.W.Fast.tw17131142955387307015 : True := trivial
theorem PySem.W.Fast.tw11751836885118880844 : True := trivial
theorem PySem.W.Fast.tw13441619108620409313 : True := trivial
theorem PySem.W.Fast.tw12639053909172412004 : True := trivial
theorem PySem.W.Fast.tw13499982201090722937 : True := trivial
theorem PySem.W.Fast.tw6210584849896738861 : True := trivial
theorem PySem.W.Fast.tw15260299187654637746 : True := trivial
theorem PySem.W.Fast.tw17020084834819222578 : True := trivial
theorem PySem.W.Fast.tw10309309370277457426 : True := trivial
theorem PySem.W.Fast.tw13209806298500539338 : True := trivial
theorem PySem.W.Fast.tw16112351231373984426 : True := trivial
theorem PySem.W.Fast.tw1228650998419784487 : True := trivial
theorem PySem.W.Fast.tw6831605225237637182 : True := trivial
theorem PySem.W.Fast.tw17589439405990274797 : True := trivial
theorem PySem.W.Fast.tw13580360282647514519 : True := trivial
theorem PySem.W.Fast.tw1093214756080869967 : True := trivial
theorem PySem.W.Fast.tw7546223336603034940 : True := trivial
theorem PySem.W.Fast.tw6459187926038785891 : True := trivial
theorem PySem.W.Fast.tw7285070142010683257 : True := trivial
theorem PySem.W.Fast.tw6730065391894217992 : True := trivial
theorem PySem.W.Fast.tw4748685464307613074 : True := trivial
theorem PySem.W.Fast.tw6959828666540988968 : True := trivial
theorem PySem.W.Fast.tw2173853862348889463 : True := trivial
theorem PySem.W.Fast.tw15323809528130267961 : True := trivial
theorem PySem.W.Fast.tw1307276625253173788 : True := trivial
theorem PySem.W.Fast.tw9812403179824356894 : True := trivial
theorem PySem.W.Fast.tw16114396020149572079 : True := trivial
theorem PySem.W.Fast.tw748792052069781189 : True := trivial
theorem PySem.W.Fast.tw9567442655697286690 : True := trivial
theorem PySem.W.Fast.tw17541053830807349798 : True := trivial
theorem PySem.W.Fast.tw9129094982002800034 : True := trivial
theorem PySem.W.Fast.tw501091646937580722 : True := trivial
theorem PySem.W.Fast.tw9760151006763024704 : True := trivial
theorem PySem.W.Fast.tw13476473662084733972 : True := trivial
theorem PySem.W.Fast.tw11709923598598763502 : True := trivial
theorem PySem.W.Fast.tw12501871417486051776 : True := trivial
theorem PySem.W.Fast.tw10405497678687259378 : True := trivial
theorem PySem.W.Fast.tw13272933395742572047 : True := trivial
theorem PySem.W.Fast.tw13275382859154146722 : True := trivial
theorem PySem.W.Fast.tw1531197710950130254 : True := trivial
theorem PySem.W.Fast.tw13888818072924792333 : True := trivial
theorem PySem.W.Fast.tw12748489780711380796 : True := trivial
theorem PySem.W.Fast.tw5720243665571038247 : True := trivial
theorem PySem.W.Fast.tw14736289093780396418 : True := trivial
theorem PySem.W.Fast.tw323488000674291871 : True := trivial
theorem PySem.W.Fast.tw3380312369949389990 : True := trivial
theorem PySem.W.Fast.tw13671288428758621046 : True := trivial
theorem PySem.W.Fast.tw4543136342209239156 : True := trivial
theorem PySem.W.Fast.tw11037467899318925596 : True := trivial
theorem PySem.W.Fast.tw6335359964613475059 : True := trivial
theorem PySem.W.Fast.tw8487660826718049538 : True := trivial
theorem PySem.W.Fast.tw2593690688112747894 : True := trivial
theorem PySem.W.Fast.tw12093171101913849336 : True := trivial
theorem PySem.W.Fast.tw8155117521617916982 : True := trivial
theorem PySem.W.Fast.tw13156176047796860203 : True := trivial
theorem PySem.W.Fast.tw17335727497422560200 : True := trivial
theorem PySem.W.Fast.tw4767371670900742125 : True := trivial
theorem PySem.W.Fast.tw10081853115315158366 : True := trivial
theorem PySem.W.Fast.tw15754945179648452337 : True := trivial
theorem PySem.W.Fast.tw17050878823420185257 : True := trivial
theorem PySem.W.Fast.tw16272549086961127779 : True := trivial
theorem PySem.W.Fast.tw3192574935995829452 : True := trivial
theorem PySem.W.Fast.tw7637545616891253136 : True := trivial
theorem PySem.W.Fast.tw4303191974850889462 : True := trivial
theorem PySem.W.Fast.tw11840134018575305053 : True := trivial
theorem PySem.W.Fast.tw2778401676813479903 : True := trivial
theorem PySem.W.Fast.tw9209600854670227330 : True := trivial
theorem PySem.W.Fast.tw7823836421968550474 : True := trivial
theorem PySem.W.Fast.tw13275802687156743050 : True := trivial
theorem PySem.W.Fast.tw12266646598526705771 : True := trivial
theorem PySem.W.Fast.tw12284880567013679475 : True := trivial
theorem PySem.W.Fast.tw5582113355136872230 : True := trivial
theorem PySem.W.Fast.tw13760495024277635455 : True := trivial
theorem PySem.W.Fast.tw7575644577129107894 : True := trivial
theorem PySem.W.Fast.tw9290376254617624470 : True := trivial
theorem PySem.W.Fast.tw8006544853450584186 : True := trivial
theorem PySem.W.Fast.tw8758413406607726823 : True := trivial
theorem PySem.W.Fast.tw13542690254243249972 : True := trivial
theorem PySem.W.Fast.tw2595357857323067788 : True := trivial
theorem PySem.W.Fast.tw14784333544268552430 : True := trivial
theorem PySem.W.Fast.tw11712434903623374457 : True := trivial
theorem PySem.W.Fast.tw14219340118688879080 : True := trivial
theorem PySem.W.Fast.tw12195866658534812260 : True := trivial
theorem PySem.W.Fast.tw10368744680883691559 : True := trivial
open PySem PySem.W PyProof.Rows
set_option maxRecDepth 100000 in
set_option maxHeartbeats 0 in
theorem PySem.Challenge.cw_tariffgate_k55_rules_for_numbers_holds : PySem.Challenge.rw_tariffgate_k55_rules_for_numbers.Holds := by
  w_on; o_law; k_head; (case hw => w_witness2)
  k_fill
  refine My.walk (l := PySem.Challenge.rw_tariffgate_k55_rules_for_numbers) rfl rfl (fun w h Y => PySem.W.kIn_of Y) ?F
  case F =>
    intro w mg fa h KX G hmg
    refine' My.all_mk KX G hmg ?n_TariffError ?n_NoNumber ?n_NoRule ?n_NoLot ?n_Rule ?n_OfRules ?n_Grown ?n_Change ?n_Worked ?n_AllOf ?n_OneOf ?a1 ?l1 ?c1 ?k1 ?a2 ?l2 ?c2 ?k2 ?a3 ?l3 ?c3 ?k3 ?a4 ?l4 ?c4 ?k4 ?a5 ?l5 ?c5 ?k5 ?a6 ?l6 ?c6 ?k6 ?t6 ?a7 ?l7 ?c7 ?k7 ?t7 ?a8 ?l8 ?c8 ?k8 ?t8 ?a9 ?l9 ?c9 ?k9 ?a10 ?l10 ?c10 ?k10 ?a11 ?l11 ?c11 ?k11 ?a12 ?l12 ?c12 ?k12 ?a13 ?l13 ?c13 ?k13 ?a14 ?l14 ?c14 ?k14 ?a15 ?l15 ?c15 ?k15 ?a16 ?l16 ?c16 ?k16 ?a17 ?l17 ?c17 ?k17 ?a18 ?l18 ?c18 ?k18 ?a19 ?l19 ?c19 ?k19 ?a20 ?l20 ?c20 ?k20 ?a21 ?l21 ?c21 ?k21 ?a22 ?l22 ?c22 ?k22 ?a23 ?l23 ?c23 ?k23 ?a24 ?l24 ?c24 ?k24 ?a25 ?l25 ?c25 ?k25 ?a26 ?l26 ?c26 ?k26 ?a27 ?l27 ?c27 ?k27 ?a28 ?l28 ?c28 ?k28 ?a29 ?l29 ?c29 ?k29 ?a30 ?l30 ?c30 ?k30 ?pg_Grown ?hd_Grown ?po_Grown ?sa_Grown ?ia_Grown ?im_Grown ?mk_Grown ?kc_Grown ?in_Grown ?pg_Change ?hd_Change ?po_Change ?sa_Change ?ia_Change ?im_Change ?mk_Change ?kc_Change ?pg_Worked ?hd_Worked ?po_Worked ?sa_Worked ?ia_Worked ?im_Worked ?mk_Worked ?kc_Worked ?pg_AllOf ?hd_AllOf ?po_AllOf ?sa_AllOf ?ia_AllOf ?im_AllOf ?mk_AllOf ?kc_AllOf ?pg_OneOf ?hd_OneOf ?po_OneOf ?sa_OneOf ?ia_OneOf ?im_OneOf ?mk_OneOf ?kc_OneOf ?oget ?otakes ?e_NoRule ?ci_TariffError ?ct_TariffError ?cb_TariffError ?xga_NoRule ?xgt_NoRule ?xca_NoRule ?xcn_NoRule ?xtk_NoRule ?xmo_NoRule ?xmb_NoRule ?xis_NoRule ?sub2 ?kf1 ?f2 ?kn1 ?nad ?nas ?na1 ?na2 ?na3 ?na4 ?ini1 ?ini2 ?z_len ?z_range ?z_abs ?z_max ?z_min ?z_isinstance ?z_int ?z_bool ?z_str ?z_list ?z_tuple ?z_sum ?z_all ?z_enumerate ?z_zip ?z_ValueError ?z_any ?z_set ?z_sorted
    (case n_TariffError => first | k_is | k_exc | kit_is)
    (case n_NoNumber => first | k_is | k_exc | kit_is)
    (case n_NoRule => first | k_is | k_exc | kit_is)
    (case n_NoLot => first | k_is | k_exc | kit_is)
    (case n_Rule => first | k_is | k_exc | kit_is)
    (case n_OfRules => first | k_is | k_exc | kit_is)
    (case n_Grown => first | k_is | k_exc | kit_is)
    (case n_Change => first | k_is | k_exc | kit_is)
    (case n_Worked => first | k_is | k_exc | kit_is)
    (case n_AllOf => first | k_is | k_exc | kit_is)
    (case n_OneOf => first | k_is | k_exc | kit_is)
    (case a1 => first | k_is | k_exc | kit_is)
    (case l1 => first | k_is | k_exc | kit_is)
    (case c1 => first | k_is | k_exc | kit_is)
    (case k1 => first | k_is | k_exc | kit_is)
    (case a2 => first | k_is | k_exc | kit_is)
    (case l2 => first | k_is | k_exc | kit_is)
    (case c2 => first | k_is | k_exc | kit_is)
    (case k2 => first | k_is | k_exc | kit_is)
    (case a3 => first | k_is | k_exc | kit_is)
    (case l3 => first | k_is | k_exc | kit_is)
    (case c3 => first | k_is | k_exc | kit_is)
    (case k3 => first | k_is | k_exc | kit_is)
    (case a4 => first | k_is | k_exc | kit_is)
    (case l4 => first | k_is | k_exc | kit_is)
    (case c4 => first | k_is | k_exc | kit_is)
    (case k4 => first | k_is | k_exc | kit_is)
    (case a5 => first | k_is | k_exc | kit_is)
    (case l5 => first | k_is | k_exc | kit_is)
    (case c5 => first | k_is | k_exc | kit_is)
    (case k5 => first | k_is | k_exc | kit_is)
    (case a6 => first | k_is | k_exc | kit_is)
    (case l6 => first | k_is | k_exc | kit_is)
    (case c6 => first | k_is | k_exc | kit_is)
    (case k6 => first | k_is | k_exc | kit_is)
    (case t6 => first | k_is | k_exc | kit_is)
    (case a7 => first | k_is | k_exc | kit_is)
    (case l7 => first | k_is | k_exc | kit_is)
    (case c7 => first | k_is | k_exc | kit_is)
    (case k7 => first | k_is | k_exc | kit_is)
    (case t7 => first | k_is | k_exc | kit_is)
    (case a8 => first | k_is | k_exc | kit_is)
    (case l8 => first | k_is | k_exc | kit_is)
    (case c8 => first | k_is | k_exc | kit_is)
    (case k8 => first | k_is | k_exc | kit_is)
    (case t8 => first | k_is | k_exc | kit_is)
    (case a9 => first | k_is | k_exc | kit_is)
    (case l9 => first | k_is | k_exc | kit_is)
    (case c9 => first | k_is | k_exc | kit_is)
    (case k9 => first | k_is | k_exc | kit_is)
    (case a10 => first | k_is | k_exc | kit_is)
    (case l10 => first | k_is | k_exc | kit_is)
    (case c10 => first | k_is | k_exc | kit_is)
    (case k10 => first | k_is | k_exc | kit_is)
    (case a11 => first | k_is | k_exc | kit_is)
    (case l11 => first | k_is | k_exc | kit_is)
    (case c11 => first | k_is | k_exc | kit_is)
    (case k11 => first | k_is | k_exc | kit_is)
    (case a12 => first | k_is | k_exc | kit_is)
    (case l12 => first | k_is | k_exc | kit_is)
    (case c12 => first | k_is | k_exc | kit_is)
    (case k12 => first | k_is | k_exc | kit_is)
    (case a13 => first | k_is | k_exc | kit_is)
    (case l13 => first | k_is | k_exc | kit_is)
    (case c13 => first | k_is | k_exc | kit_is)
    (case k13 => first | k_is | k_exc | kit_is)
    (case a14 => first | k_is | k_exc | kit_is)
    (case l14 => first | k_is | k_exc | kit_is)
    (case c14 => first | k_is | k_exc | kit_is)
    (case k14 => first | k_is | k_exc | kit_is)
    (case a15 => first | k_is | k_exc | kit_is)
    (case l15 => first | k_is | k_exc | kit_is)
    (case c15 => first | k_is | k_exc | kit_is)
    (case k15 => first | k_is | k_exc | kit_is)
    (case a16 => first | k_is | k_exc | kit_is)
    (case l16 => first | k_is | k_exc | kit_is)
    (case c16 => first | k_is | k_exc | kit_is)
    (case k16 => first | k_is | k_exc | kit_is)
    (case a17 => first | k_is | k_exc | kit_is)
    (case l17 => first | k_is | k_exc | kit_is)
    (case c17 => first | k_is | k_exc | kit_is)
    (case k17 => first | k_is | k_exc | kit_is)
    (case a18 => first | k_is | k_exc | kit_is)
    (case l18 => first | k_is | k_exc | kit_is)
    (case c18 => first | k_is | k_exc | kit_is)
    (case k18 => first | k_is | k_exc | kit_is)
    (case a19 => first | k_is | k_exc | kit_is)
    (case l19 => first | k_is | k_exc | kit_is)
    (case c19 => first | k_is | k_exc | kit_is)
    (case k19 => first | k_is | k_exc | kit_is)
    (case a20 => first | k_is | k_exc | kit_is)
    (case l20 => first | k_is | k_exc | kit_is)
    (case c20 => first | k_is | k_exc | kit_is)
    (case k20 => first | k_is | k_exc | kit_is)
    (case a21 => first | k_is | k_exc | kit_is)
    (case l21 => first | k_is | k_exc | kit_is)
    (case c21 => first | k_is | k_exc | kit_is)
    (case k21 => first | k_is | k_exc | kit_is)
    (case a22 => first | k_is | k_exc | kit_is)
    (case l22 => first | k_is | k_exc | kit_is)
    (case c22 => first | k_is | k_exc | kit_is)
    (case k22 => first | k_is | k_exc | kit_is)
    (case a23 => first | k_is | k_exc | kit_is)
    (case l23 => first | k_is | k_exc | kit_is)
    (case c23 => first | k_is | k_exc | kit_is)
    (case k23 => first | k_is | k_exc | kit_is)
    (case a24 => first | k_is | k_exc | kit_is)
    (case l24 => first | k_is | k_exc | kit_is)
    (case c24 => first | k_is | k_exc | kit_is)
    (case k24 => first | k_is | k_exc | kit_is)
    (case a25 => first | k_is | k_exc | kit_is)
    (case l25 => first | k_is | k_exc | kit_is)
    (case c25 => first | k_is | k_exc | kit_is)
    (case k25 => first | k_is | k_exc | kit_is)
    (case a26 => first | k_is | k_exc | kit_is)
    (case l26 => first | k_is | k_exc | kit_is)
    (case c26 => first | k_is | k_exc | kit_is)
    (case k26 => first | k_is | k_exc | kit_is)
    (case a27 => first | k_is | k_exc | kit_is)
    (case l27 => first | k_is | k_exc | kit_is)
    (case c27 => first | k_is | k_exc | kit_is)
    (case k27 => first | k_is | k_exc | kit_is)
    (case a28 => first | k_is | k_exc | kit_is)
    (case l28 => first | k_is | k_exc | kit_is)
    (case c28 => first | k_is | k_exc | kit_is)
    (case k28 => first | k_is | k_exc | kit_is)
    (case a29 => first | k_is | k_exc | kit_is)
    (case l29 => first | k_is | k_exc | kit_is)
    (case c29 => first | k_is | k_exc | kit_is)
    (case k29 => first | k_is | k_exc | kit_is)
    (case a30 => first | k_is | k_exc | kit_is)
    (case l30 => first | k_is | k_exc | kit_is)
    (case c30 => first | k_is | k_exc | kit_is)
    (case k30 => first | k_is | k_exc | kit_is)
    (case pg_Grown => first | k_is | k_exc | kit_is)
    (case hd_Grown => first | k_is | k_exc | kit_is)
    (case po_Grown => first | k_is | k_exc | kit_is)
    (case sa_Grown => first | k_is | k_exc | kit_is)
    (case ia_Grown => first | k_is | k_exc | kit_is)
    (case im_Grown => first | k_is | k_exc | kit_is)
    (case mk_Grown => first | k_is | k_exc | kit_is)
    (case kc_Grown => first | k_is | k_exc | kit_is)
    (case in_Grown => first | k_is | k_exc | kit_is)
    (case pg_Change => first | k_is | k_exc | kit_is)
    (case hd_Change => first | k_is | k_exc | kit_is)
    (case po_Change => first | k_is | k_exc | kit_is)
    (case sa_Change => first | k_is | k_exc | kit_is)
    (case ia_Change => first | k_is | k_exc | kit_is)
    (case im_Change => first | k_is | k_exc | kit_is)
    (case mk_Change => first | k_is | k_exc | kit_is)
    (case kc_Change => first | k_is | k_exc | kit_is)
    (case pg_Worked => first | k_is | k_exc | kit_is)
    (case hd_Worked => first | k_is | k_exc | kit_is)
    (case po_Worked => first | k_is | k_exc | kit_is)
    (case sa_Worked => first | k_is | k_exc | kit_is)
    (case ia_Worked => first | k_is | k_exc | kit_is)
    (case im_Worked => first | k_is | k_exc | kit_is)
    (case mk_Worked => first | k_is | k_exc | kit_is)
    (case kc_Worked => first | k_is | k_exc | kit_is)
    (case pg_AllOf => first | k_is | k_exc | kit_is)
    (case hd_AllOf => first | k_is | k_exc | kit_is)
    (case po_AllOf => first | k_is | k_exc | kit_is)
    (case sa_AllOf => first | k_is | k_exc | kit_is)
    (case ia_AllOf => first | k_is | k_exc | kit_is)
    (case im_AllOf => first | k_is | k_exc | kit_is)
    (case mk_AllOf => first | k_is | k_exc | kit_is)
    (case kc_AllOf => first | k_is | k_exc | kit_is)
    (case pg_OneOf => first | k_is | k_exc | kit_is)
    (case hd_OneOf => first | k_is | k_exc | kit_is)
    (case po_OneOf => first | k_is | k_exc | kit_is)
    (case sa_OneOf => first | k_is | k_exc | kit_is)
    (case ia_OneOf => first | k_is | k_exc | kit_is)
    (case im_OneOf => first | k_is | k_exc | kit_is)
    (case mk_OneOf => first | k_is | k_exc | kit_is)
    (case kc_OneOf => first | k_is | k_exc | kit_is)
    (case oget => first | k_is | k_exc | kit_is)
    (case otakes => first | k_is | k_exc | kit_is)
    (case e_NoRule => first | k_is | k_exc | kit_is)
    (case ci_TariffError => first | k_is | k_exc | kit_is)
    (case ct_TariffError => first | k_is | k_exc | kit_is)
    (case cb_TariffError => first | k_is | k_exc | kit_is)
    (case xga_NoRule => first | k_is | k_exc | kit_is)
    (case xgt_NoRule => first | k_is | k_exc | kit_is)
    (case xca_NoRule => first | k_is | k_exc | kit_is)
    (case xcn_NoRule => first | k_is | k_exc | kit_is)
    (case xtk_NoRule => first | k_is | k_exc | kit_is)
    (case xmo_NoRule => first | k_is | k_exc | kit_is)
    (case xmb_NoRule => first | k_is | k_exc | kit_is)
    (case xis_NoRule => first | k_is | k_exc | kit_is)
    (case sub2 => first | k_is | k_exc | kit_is)
    (case kf1 => first | k_is | k_exc | kit_is)
    (case f2 => first | k_is | k_exc | kit_is)
    (case kn1 => first | k_is | k_exc | kit_is)
    (case nad => first | k_is | k_exc | kit_is)
    (case nas => first | k_is | k_exc | kit_is)
    (case na1 => first | k_is | k_exc | kit_is)
    (case na2 => first | k_is | k_exc | kit_is)
    (case na3 => first | k_is | k_exc | kit_is)
    (case na4 => first | k_is | k_exc | kit_is)
    (case ini1 => first | k_is | k_exc | kit_is)
    (case ini2 => first | k_is | k_exc | kit_is)
    (case z_len => first | k_is | k_exc | kit_is)
    (case z_range => first | k_is | k_exc | kit_is)
    (case z_abs => first | k_is | k_exc | kit_is)
    (case z_max => first | k_is | k_exc | kit_is)
    (case z_min => first | k_is | k_exc | kit_is)
    (case z_isinstance => first | k_is | k_exc | kit_is)
    (case z_int => first | k_is | k_exc | kit_is)
    (case z_bool => first | k_is | k_exc | kit_is)
    (case z_str => first | k_is | k_exc | kit_is)
    (case z_list => first | k_is | k_exc | kit_is)
    (case z_tuple => first | k_is | k_exc | kit_is)
    (case z_sum => first | k_is | k_exc | kit_is)
    (case z_all => first | k_is | k_exc | kit_is)
    (case z_enumerate => first | k_is | k_exc | kit_is)
    (case z_zip => first | k_is | k_exc | kit_is)
    (case z_ValueError => first | k_is | k_exc | kit_is)
    (case z_any => first | k_is | k_exc | kit_is)
    (case z_set => first | k_is | k_exc | kit_is)
    (case z_sorted => first | k_is | k_exc | kit_is)
#print axioms PySem.Challenge.cw_tariffgate_k55_rules_for_numbers_holds

