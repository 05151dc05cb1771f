import PyProof.Rows.All
import Wide.All
import OpenK.AllK
import Wide.FinOn
import Lean
import PyProof.EqAt
import PyProof.EqKinds
import PyProof.TupleCall
import PyProof.NeKinds
import PyProof.Draws
import PyProof.EnumMake
import PyProof.WalksEnum
import PyProof.Rows.EnumRows
import PyProof.ExcArgsOwn
import PyProof.ExcAttrAll.ValueError
import PyProof.ExcBaseAll.ValueError
import KE.KIsAll
import KE.KTryOn
import KE.RegKIsAll
import OpenK.KOwn
import PyProof.ZipIter
import PyProof.StrWalks
import PyProof.DictTable
import PyProof.SetNew
import PyProof.SetRoads
import PyProof.P3In
import PyProof.NeData
import PySem.Challenge.RW_tariffgate_k36_whole_no_other_truth
set_option Elab.async false
set_option linter.all false
set_option maxRecDepth 100000
namespace L2
open PySem PySem.Spec PyProof.Rows

abbrev Key := Sum Int Str
def keyIs : Key → Value → Bool
  | .inl k, v => Value.isInt k v
  | .inr x, v => Value.isStrOf x v
def keyH (w : World) : Key → Int
  | .inl k => hashInt k
  | .inr x => hashStr w x
theorem keyIs_shape : ∀ {k : Key} {v : Value}, keyIs k v = true → (∃ i t, k = Sum.inl i ∧ v = Value.int i t) ∨ (∃ x t, k = Sum.inr x ∧ v = Value.str x t)
  | .inl i, v, h => by
    obtain ⟨t, e⟩ := Value.isInt_shape (k := i) (v := v) h
    exact .inl ⟨i, t, rfl, e⟩
  | .inr x, v, h => by
    obtain ⟨t, e⟩ := Value.isStrOf_shape (x := x) (v := v) h
    exact .inr ⟨x, t, rfl, e⟩
theorem keyIs_int (i : Int) (t : Tok) : keyIs (.inl i) (.int i t) = true := by simp [keyIs, Value.isInt]
theorem keyIs_str (x : Str) (t : Tok) : keyIs (.inr x) (.str x t) = true := by simp [keyIs, Value.isStrOf]
theorem key_ll (a b : Int) : decide ((Sum.inl a : Key) = Sum.inl b) = (a == b) := by
  by_cases e : a = b
  · subst e; simp
  · have h : ¬ (Sum.inl a : Key) = Sum.inl b := fun q => e (Sum.inl.inj q)
    rw [decide_eq_false h]
    exact (beq_eq_false_iff_ne.mpr e).symm
theorem key_rr (a b : Str) : decide ((Sum.inr a : Key) = Sum.inr b) = decide (a = b) := by
  by_cases e : a = b
  · subst e; simp
  · have h : ¬ (Sum.inr a : Key) = Sum.inr b := fun q => e (Sum.inr.inj q)
    rw [decide_eq_false h, decide_eq_false e]
theorem key_lr (a : Int) (b : Str) : decide ((Sum.inl a : Key) = Sum.inr b) = false := decide_eq_false (fun q => nomatch q)
theorem key_rl (a : Str) (b : Int) : decide ((Sum.inr a : Key) = Sum.inl b) = false := decide_eq_false (fun q => nomatch q)

def mixKind (prog : Program) (w : World) : PySem.KeyKind prog w Key where
  is := keyIs
  hash := keyH w
  inj := fun v a b ha hb => by
    rcases keyIs_shape ha with ⟨i, t, rfl, rfl⟩ | ⟨x, t, rfl, rfl⟩
    · rcases keyIs_shape hb with ⟨j, u, rfl, e⟩ | ⟨y, u, rfl, e⟩
      · injection e with e1 _; rw [e1]
      · exact nomatch e
    · rcases keyIs_shape hb with ⟨j, u, rfl, e⟩ | ⟨y, u, rfl, e⟩
      · exact nomatch e
      · injection e with e1 _; rw [e1]
  byValue := fun k v h => by
    rcases keyIs_shape h with ⟨i, t, rfl, rfl⟩ | ⟨x, t, rfl, rfl⟩ <;> rfl
  pyHash := fun hv h => by
    rcases keyIs_shape hv with ⟨i, t, rfl, rfl⟩ | ⟨x, t, rfl, rfl⟩
    · exact wpAny_pyHash_int h
    · exact wpAny_pyHash_str h
  eqBool := fun hu hv h => by
    rcases keyIs_shape hu with ⟨i, t, rfl, rfl⟩ | ⟨x, t, rfl, rfl⟩
    · rcases keyIs_shape hv with ⟨j, u, rfl, rfl⟩ | ⟨y, u, rfl, rfl⟩
      · rw [key_ll] at h; exact wpAny_eqBool_int h
      · rw [key_lr] at h; exact SeqAt.EqAt.int_str i t y u _ _ _ _ h
    · rcases keyIs_shape hv with ⟨j, u, rfl, rfl⟩ | ⟨y, u, rfl, rfl⟩
      · rw [key_rl] at h; exact SeqAt.EqAt.str_int x t j u _ _ _ _ h
      · rw [key_rr] at h; exact wpAny_eqBool_str h
  «strs» := fun k x t v h => by
    rcases keyIs_shape h with ⟨i, u, rfl, e⟩ | ⟨y, u, rfl, e⟩
    · exact nomatch e
    · injection e with e1 _
      subst e1
      cases v <;> rfl

theorem mixKind_int (prog : Program) (w : World) (i : Int) (t : Tok) : (mixKind prog w).is (.inl i) (.int i t) = true := keyIs_int i t
theorem mixKind_str (prog : Program) (w : World) (x : Str) (t : Tok) : (mixKind prog w).is (.inr x) (.str x t) = true := keyIs_str x t
end L2

namespace L2
open PySem PySem.Spec PyProof.Rows

inductive V where
  | non | bl (b : Bool) | int (i : Int) | str (x : Str) | byt (b : Array UInt8) | flt (b : UInt64) | ref (a : Addr) | ty (n : String)
  deriving DecidableEq

def RelV : V → Value → Prop
  | .non, u => u = Value.none
  | .bl b, u => u = Value.bool b
  | .int i, u => ∃ t, u = Value.int i t
  | .str x, u => ∃ t, u = Value.str x t
  | .byt b, u => ∃ t, u = Value.bytes b t
  | .flt b, u => ∃ t, u = Value.float b t
  | .ref a, u => u = Value.ref a
  | .ty n, u => u = Value.type n

abbrev Vals : List V → List Value → Prop := Paired RelV
theorem Vals.length {xs : List V} {us : List Value} (r : Vals xs us) : xs.length = us.length := Paired.length r
theorem Vals.get : ∀ {xs : List V} {us : List Value} {i : Nat} {x : V}, Vals xs us → xs[i]? = some x → ∃ u, us[i]? = some u ∧ RelV x u
  | _, _, _, _, .nil, e => by simp at e
  | _, _, 0, _, .cons r _, e => by simp at e; subst e; exact ⟨_, rfl, r⟩
  | _, _, i + 1, x, .cons _ t, e => by
    obtain ⟨u, h1, h2⟩ := Vals.get (i := i) (x := x) t (by simpa using e)
    exact ⟨u, by simpa using h1, h2⟩
theorem Vals.set {x : V} {u : Value} (r : RelV x u) : ∀ {xs : List V} {us : List Value} (i : Nat), Vals xs us → Vals (xs.set i x) (us.set i u)
  | _, _, _, .nil => .nil
  | _, _, 0, .cons _ t => .cons r t
  | _, _, i + 1, .cons q t => .cons q (Vals.set r i t)
theorem Vals.append : ∀ {xs ys : List V} {us ws : List Value}, Vals xs us → Vals ys ws → Vals (xs ++ ys) (us ++ ws)
  | _, _, _, _, .nil, s => s
  | _, _, _, _, .cons r t, s => .cons r (Vals.append t s)
theorem Vals.take : ∀ {xs : List V} {us : List Value} (n : Nat), Vals xs us → Vals (xs.take n) (us.take n)
  | _, _, 0, _ => .nil
  | _, _, _ + 1, .nil => .nil
  | _, _, n + 1, .cons r t => .cons r (Vals.take n t)
theorem Vals.drop : ∀ {xs : List V} {us : List Value} (n : Nat), Vals xs us → Vals (xs.drop n) (us.drop n)
  | _, _, 0, r => r
  | _, _, _ + 1, .nil => .nil
  | _, _, n + 1, .cons _ t => Vals.drop n t
def RelO : Option V → Option Value → Prop
  | some v, some u => RelV v u
  | none, none => True
  | _, _ => False
def KV {κ : Type} : List (κ × V) → List (κ × Value) → Prop := Paired fun (p : κ × V) (q : κ × Value) => p.1 = q.1 ∧ RelV p.2 q.2

def kV : Key → V
  | .inl i => .int i
  | .inr x => .str x

inductive HO where
  /-- a list -/
  | lst (xs : List V)
  /-- a tuple (never changes) -/
  | tup (xs : List V)
  /-- a dict whose keys are ints and texts; one whose keys are tuples of ints and texts (the empty one is both) -/
  | dK (kvs : List (Key × V)) | dT (kvs : List (List Key × V))
  /-- a set of ints: its members, its size -/
  | set (S : Int → Bool) (n : Nat)
  /-- an instance of the class at C, its dict at dx, its attributes -/
  | ins (C dx : Addr) (fs : List (Str × V))
  /-- the dict of the instance at x -/
  | own (x : Addr)
  /-- the dict of an exception -/
  | xd (fs : List (Str × V))
  /-- a bound method, f of x -/
  | met (f x : Addr)
  /-- a range object lo, lo + 1, .. below hi -/
  | rng (lo hi : Int)
  /-- a thing that is known to the object (the script; a dict while a loop walks it): read, never written while it is so -/
  | frz (o : Obj) (u : HO)
  /-- a code object's table -/
  | tbl (ps : Array Value)
  /-- any other thing, by what is true of its one object (a def of one's own: SetO a S n := HO.ext fun h => ..) -/
  | ext (φ : Heap → Prop)

abbrev Hp := Addr → Option HO
def upd (H : Hp) (a : Addr) (o : HO) : Hp := fun b => if b = a then some o else H b
theorem upd_same {H : Hp} {a : Addr} {o : HO} : upd H a o a = some o := by unfold upd; rw [if_pos rfl]
theorem upd_ne {H : Hp} {a b : Addr} {o : HO} (h : b ≠ a) : upd H a o b = H b := by unfold upd; rw [if_neg h]
theorem ne_of {H : Hp} {a b : Addr} {o u : HO} (h : H a = some o) (h' : H b = some u) (d : o ≠ u) : a ≠ b := by
  intro e; subst e; rw [h] at h'; exact d (Option.some.inj h')
theorem ne_of_none {H : Hp} {a b : Addr} {o : HO} (h : H a = some o) (h' : H b = none) : a ≠ b := by
  intro e; subst e; rw [h] at h'; cases h'

section
variable (P : Program) (w : World)
def NoD (h : Heap) (a : Addr) : Prop := ∃ o, h.get? a = some o ∧ o.dict = none
def ObjOk (H : Hp) (h : Heap) (a : Addr) : HO → Prop
  | .lst xs => xs.length ≤ sizeLine ∧ ∃ (its : List Value) (n : Nat), Vals xs its ∧ h.get? a = some { cls := .type "list", data := .seq its.toArray n }
  | .tup xs => xs.length ≤ sizeLine ∧ ∃ its : List Value, Vals xs its ∧ IsTup h a its.toArray ∧ NoD h a
  | .dK kvs => kvs.length ≤ sizeLine ∧ (a == sysModules) = false ∧ ∃ vs, KV kvs vs ∧ h.DictOf (mixKind P w) a vs
  | .dT kvs => kvs.length ≤ sizeLine ∧ (a == sysModules) = false ∧ ∃ xs : List (List Key × Addr × Value),
      Paired (fun (p : List Key × V) (q : List Key × Addr × Value) => p.1 = q.1 ∧ H q.2.1 = some (.tup (p.1.map kV)) ∧ RelV p.2 q.2.2) kvs xs ∧
      ∃ o es ep, h.get? a = some o ∧ o.ExactDict ∧ o.data = .dict es ep ∧ es.toList = xs.map (entryOfKey (tupleKind (mixKind P w))) ∧ (xs.map (·.1)).Nodup
  | .set S n => h.SetOf (intKind P w) a S n
  | .ins C dx fs => H dx = some (.own a) ∧ fs.length ≤ 1000 ∧ dx ≠ a ∧ h.get? a = some (PySem.W.instObj C dx) ∧
      ∃ mA, h.Ns1 dx mA ∧ (∀ f, RelO (fs.lookup f) (mA f)) ∧ PySem.Within mA (fs.map (·.1))
  | .own _ => ∃ o, h.get? a = some o
  | .xd fs => ∃ mA, h.Ns1 a mA ∧ ∀ f, RelO (fs.lookup f) (mA f)
  | .rng lo hi => ∃ t u v, h.get? a = some { cls := .type "range", data := .fields #[.int lo t, .int hi u, .int 1 v] }
  | .frz o u => h.get? a = some o ∧ ObjOk H h a u
  | .tbl ps => h.get? a = some { cls := .none, data := .fields ps }
  | .met f x => h.get? a = some (PySem.W.methodObj (.ref f) (.ref x))
  | .ext φ => φ h ∧ (∃ o, h.get? a = some o) ∧ ∀ h1 h2 : Heap, φ h1 → (∀ o, h1.get? a = some o → h2.get? a = some o) → φ h2
def HOk (H : Hp) (h : Heap) : Prop := ∀ a o, H a = some o → ObjOk P w H h a o
end

section
variable {P : Program} {w : World} {H H' : Hp} {h h' : Heap} {a : Addr} {o : HO}
theorem ObjOk.lt (x : ObjOk P w H h a o) : a < h.objs.size := by
  cases o with
  | lst xs => obtain ⟨_, _, _, _, e⟩ := x; exact Heap.lt_size e
  | tup xs => obtain ⟨_, _, _, p, _⟩ := x; exact p.lt
  | dK kvs => obtain ⟨_, _, _, _, o, _, _, e, _⟩ := x; exact Heap.lt_size e
  | dT kvs => obtain ⟨_, _, _, _, o, _, _, e, _⟩ := x; exact Heap.lt_size e
  | set S n => obtain ⟨o, _, _, _, e, _⟩ := x; exact Heap.lt_size e
  | ins C dx fs => obtain ⟨_, _, _, e, _⟩ := x; exact Heap.lt_size e
  | own y => obtain ⟨_, e⟩ := x; exact Heap.lt_size e
  | xd fs => obtain ⟨_, ⟨_, _, _, e, _⟩, _⟩ := x; exact Heap.lt_size e
  | rng lo hi => obtain ⟨_, _, _, e⟩ := x; exact Heap.lt_size e
  | frz ob u => obtain ⟨e, _⟩ := x; exact Heap.lt_size e
  | tbl ps => exact Heap.lt_size (show h.get? a = some _ from x)
  | met f y => exact Heap.lt_size (show h.get? a = some _ from x)
  | ext φ => obtain ⟨_, ⟨_, e⟩, _⟩ := x; exact Heap.lt_size e
theorem Paired.mapP {α β : Type} {F G : α → β → Prop} : ∀ {l₁ : List α} {l₂ : List β}, Paired F l₁ l₂ → (∀ a b, F a b → G a b) → Paired G l₁ l₂
  | _, _, .nil, _ => .nil
  | _, _, .cons r t, f => .cons (f _ _ r) (Paired.mapP t f)
theorem ObjOk.stay (x : ObjOk P w H h a o) (k : ∀ b u, (b = a ∨ H b = some (.own a)) → h.get? b = some u → h'.get? b = some u)
    (ho : ∀ b, H b = some (.own a) → H' b = some (.own a)) (ht : ∀ b xs, H b = some (.tup xs) → H' b = some (.tup xs)) : ObjOk P w H' h' a o := by
  induction o with
  | lst xs => obtain ⟨z, its, n, r, e⟩ := x; exact ⟨z, its, n, r, k _ _ (.inl rfl) e⟩
  | tup xs => obtain ⟨z, its, r, ⟨ob, e, c⟩, o2, e2, d2⟩ := x; exact ⟨z, its, r, ⟨ob, k _ _ (.inl rfl) e, c⟩, o2, k _ _ (.inl rfl) e2, d2⟩
  | dK kvs => obtain ⟨z, y, vs, r, ob, es, ep, e, c⟩ := x; exact ⟨z, y, vs, r, ob, es, ep, k _ _ (.inl rfl) e, c⟩
  | dT kvs =>
    obtain ⟨z, y, xs, r, ob, es, ep, e, c⟩ := x
    exact ⟨z, y, xs, Paired.mapP r fun p q z => ⟨z.1, ht _ _ z.2.1, z.2.2⟩, ob, es, ep, k _ _ (.inl rfl) e, c⟩
  | set S n => obtain ⟨ob, es, ep, t, e, c⟩ := x; exact ⟨ob, es, ep, t, k _ _ (.inl rfl) e, c⟩
  | ins C dx fs =>
    obtain ⟨d, z, ne, e, mA, ⟨od, es, ep, e2, c⟩, r⟩ := x
    exact ⟨ho _ d, z, ne, k _ _ (.inl rfl) e, mA, ⟨od, es, ep, k _ _ (.inr d) e2, c⟩, r⟩
  | own y => obtain ⟨ob, e⟩ := x; exact ⟨ob, k _ _ (.inl rfl) e⟩
  | xd fs => obtain ⟨mA, ⟨od, es, ep, e, c⟩, r⟩ := x; exact ⟨mA, ⟨od, es, ep, k _ _ (.inl rfl) e, c⟩, r⟩
  | rng lo hi => obtain ⟨t, u, v, e⟩ := x; exact ⟨t, u, v, k _ _ (.inl rfl) e⟩
  | frz ob u ih => obtain ⟨e, q⟩ := x; exact ⟨k _ _ (.inl rfl) e, ih q⟩
  | tbl ps =>
    have e : h.get? a = some { cls := .none, data := .fields ps } := x
    show h'.get? a = some { cls := .none, data := .fields ps }
    exact k a _ (.inl rfl) e
  | met f y =>
    have e : h.get? a = some (PySem.W.methodObj (.ref f) (.ref y)) := x
    show h'.get? a = some (PySem.W.methodObj (.ref f) (.ref y))
    exact k a _ (.inl rfl) e
  | ext φ => obtain ⟨p, ⟨o, e⟩, st⟩ := x; exact ⟨st _ _ p fun o q => k _ _ (.inl rfl) q, ⟨o, k _ _ (.inl rfl) e⟩, st⟩
theorem HOk.lt (x : HOk P w H h) (e : H a = some o) : a < h.objs.size := (x a o e).lt
theorem HOk.fresh (x : HOk P w H h) (e : h.objs.size ≤ a) : H a = none := by
  cases q : H a with
  | none => rfl
  | some u => exact absurd (Nat.lt_of_lt_of_le (x.lt q) e) (Nat.lt_irrefl _)
theorem HOk.kept (x : HOk P w H h) (k : ∀ b u, h.get? b = some u → h'.get? b = some u) : HOk P w H h' := fun a o e =>
  (x a o e).stay (fun b u _ q => k b u q) (fun _ q => q) fun _ _ q => q
theorem HOk.laid (x : HOk P w H h) (k : ∀ b u, h.get? b = some u → h'.get? b = some u) (hp : h.objs.size ≤ a) (new : ObjOk P w (upd H a o) h' a o) : HOk P w (upd H a o) h' := fun b u e => by
  have hn := x.fresh hp
  by_cases hb : b = a
  · subst hb; rw [upd_same] at e; cases e; exact new
  · rw [upd_ne hb] at e
    exact (x b u e).stay (fun c v _ q => k c v q) (fun c q => by rw [upd_ne (ne_of_none q hn)]; exact q) fun c xs q => by rw [upd_ne (ne_of_none q hn)]; exact q
end

def Rd (H : Hp) (a : Addr) (u : HO) : Prop := H a = some u ∨ ∃ o, H a = some (.frz o u)
theorem Rd.of {H : Hp} {a : Addr} {u : HO} (h : H a = some u) : Rd H a u := .inl h
theorem Rd.ok {P : Program} {w : World} {H : Hp} {h : Heap} {a : Addr} {u : HO} (r : Rd H a u) (x : HOk P w H h) : ObjOk P w H h a u := by
  rcases r with r | ⟨o, r⟩
  · exact x a u r
  · obtain ⟨_, q⟩ := x a _ r
    exact q
def Mut : Option HO → Prop
  | some (.lst _) => True
  | some (.dK _) => True
  | some (.dT _) => True
  | some (.set _ _) => True
  | some (.ins _ _ _) => True
  | some (.ext _) => True
  | _ => False
section
variable {P : Program} {w : World} {H : Hp} {h h' : Heap} {x e : Addr} {o' : HO}
theorem HOk.write (ok : HOk P w H h) (mu : Mut (H x)) (he : e = x ∨ H e = some (.own x)) (k : ∀ b u, b ≠ e → h.get? b = some u → h'.get? b = some u) (heo : ∃ u, h'.get? e = some u)
    (new : ObjOk P w (upd H x o') h' x o') : HOk P w (upd H x o') h' := fun b u q => by
  have nown : ∀ c y, H c = some (.own y) → c ≠ x := fun c y r z => by subst z; rw [r] at mu; exact mu
  have ntup : ∀ c xs, H c = some (.tup xs) → c ≠ x := fun c xs r z => by subst z; rw [r] at mu; exact mu
  by_cases hb : b = x
  · subst hb; rw [upd_same] at q; cases q; exact new
  · rw [upd_ne hb] at q
    by_cases hbe : b = e
    · have q' : H b = some (.own x) := by
        rcases he with z | z
        · exact absurd (hbe.trans z) hb
        · rw [hbe]; exact z
      rw [q] at q'; cases q'
      obtain ⟨v, hv⟩ := heo
      exact ⟨v, by rw [hbe]; exact hv⟩
    · refine (ok b u q).stay (fun c v hc r => k c v ?_ r) (fun c r => by rw [upd_ne (nown c b r)]; exact r) fun c xs r => by rw [upd_ne (ntup c xs r)]; exact r
      rcases hc with rfl | hc
      · exact hbe
      · rintro rfl
        rcases he with z | z
        · exact nown c b hc z
        · rw [hc] at z; cases z; exact hb rfl
end

structure Un (fs ex : List Addr) (H H' : Hp) (h h' : Heap) : Prop where
  keep : ∀ b o, h.get? b = some o → H b = none → b ∉ fs → b ∉ ex → h'.get? b = some o
  slot : ∀ b o, h.get? b = some o → H b = none → b ∈ fs → b ∉ ex → ∃ sl, h'.get? b = some { o with slots := sl }
  free : ∀ b o, h.get? b = some o → H b = none → b ∉ ex → H' b = none
  there : ∀ b o, h.get? b = some o → b ∉ ex → ∃ o', h'.get? b = some o'
  tups : ∀ b xs, H b = some (.tup xs) → H' b = some (.tup xs)
  frzs : ∀ b o u, H b = some (.frz o u) → H' b = some (.frz o u)
  tbls : ∀ b ps, H b = some (.tbl ps) → ∃ more, H' b = some (.tbl (ps ++ more))
section
variable {fs fs' ex ex' : List Addr} {H H1 H2 : Hp} {h h1 h2 h' : Heap} {a x e : Addr} {o : HO}
theorem Un.any (u : Un fs ex H H1 h h1) {b : Addr} {ob : Obj} (q : h.get? b = some ob) (n : H b = none) (hx : b ∉ ex) : ∃ sl, h1.get? b = some { ob with slots := sl } := by
  by_cases hb : b ∈ fs
  · exact u.slot b ob q n hb hx
  · exact ⟨ob.slots, u.keep b ob q n hb hx⟩
theorem Un.trans (a : Un fs ex H H1 h h1) (b : Un fs ex H1 H2 h1 h2) : Un fs ex H H2 h h2 where
  keep := fun c ob q n hc hx => b.keep c ob (a.keep c ob q n hc hx) (a.free c ob q n hx) hc hx
  slot := fun c ob q n hc hx => by
    obtain ⟨sl, e1⟩ := a.slot c ob q n hc hx
    obtain ⟨sl', e2⟩ := b.slot c _ e1 (a.free c ob q n hx) hc hx
    exact ⟨sl', e2⟩
  free := fun c ob q n hx => by
    obtain ⟨o', e1⟩ := a.there c ob q hx
    exact b.free c o' e1 (a.free c ob q n hx) hx
  there := fun c ob q hx => by
    obtain ⟨o', e1⟩ := a.there c ob q hx
    exact b.there c o' e1 hx
  tups := fun c xs q => b.tups c xs (a.tups c xs q)
  frzs := fun c ob xs q => b.frzs c ob xs (a.frzs c ob xs q)
  tbls := fun c ps q => by
    obtain ⟨m1, e1⟩ := a.tbls c ps q
    obtain ⟨m2, e2⟩ := b.tbls c _ e1
    exact ⟨m1 ++ m2, by rw [e2, Array.append_assoc]⟩
theorem Un.kept (k : ∀ b u, h.get? b = some u → h'.get? b = some u) : Un fs ex H H h h' :=
  ⟨fun b ob q _ _ _ => k b ob q, fun b ob q _ _ _ => ⟨ob.slots, k b ob q⟩, fun _ _ _ n _ => n, fun b ob q _ => ⟨ob, k b ob q⟩, fun _ _ q => q, fun _ _ _ q => q, fun _ ps q => ⟨#[], by rw [q]; simp⟩⟩
theorem Un.refl : Un fs ex H H h h := Un.kept fun _ _ q => q
theorem Un.laid (k : ∀ b u, h.get? b = some u → h'.get? b = some u) (hp : h.objs.size ≤ a) (hn : H a = none) : Un fs ex H (upd H a o) h h' where
  keep := fun b u q _ _ _ => k b u q
  slot := fun b u q _ _ _ => ⟨u.slots, k b u q⟩
  free := fun b u q n _ => by rw [upd_ne (Nat.ne_of_lt (Nat.lt_of_lt_of_le (Heap.lt_size q) hp))]; exact n
  there := fun b u q _ => ⟨u, k b u q⟩
  tups := fun b xs q => by rw [upd_ne (ne_of_none q hn)]; exact q
  frzs := fun b u xs q => by rw [upd_ne (ne_of_none q hn)]; exact q
  tbls := fun b ps q => ⟨#[], by rw [upd_ne (ne_of_none q hn), q]; simp⟩
theorem Un.write (mu : Mut (H x)) (he : e = x ∨ H e = some (.own x)) (k : ∀ b u, b ≠ e → h.get? b = some u → h'.get? b = some u) (heo : ∃ u, h'.get? e = some u) : Un fs ex H (upd H x o) h h' := by
  have hx : ∀ b, H b = none → b ≠ x := fun b n z => by subst z; rw [n] at mu; exact mu
  have hb : ∀ b, H b = none → b ≠ e := fun b n z => by
    subst z
    rcases he with r | r
    · exact hx b n r
    · rw [n] at r; cases r
  have hm : ∀ b u, H b = some u → ¬ Mut (some u) → b ≠ x := fun b u q nm z => by subst z; rw [q] at mu; exact nm mu
  refine ⟨fun b u q n _ _ => k b u (hb b n) q, fun b u q n _ _ => ⟨u.slots, k b u (hb b n) q⟩, fun b u q n _ => by rw [upd_ne (hx b n)]; exact n, fun b u q _ => ?_,
    fun b xs q => by rw [upd_ne (hm b _ q fun z => z)]; exact q, fun b u xs q => by rw [upd_ne (hm b _ q fun z => z)]; exact q, fun b ps q => ⟨#[], by rw [upd_ne (hm b _ q fun z => z), q]; simp⟩⟩
  by_cases hbe : b = e
  · subst hbe; exact heo
  · exact ⟨u, k b u hbe q⟩
theorem Un.mono (u : Un fs ex H H1 h h1) (hs : ∀ b ∈ fs, b ∈ fs') (hx : ∀ b ∈ ex, b ∈ ex') : Un fs' ex' H H1 h h1 :=
  ⟨fun b ob q n hb he => u.keep b ob q n (fun z => hb (hs b z)) fun z => he (hx b z), fun _ _ q n _ he => u.any q n fun z => he (hx _ z), fun b ob q n he => u.free b ob q n fun z => he (hx b z), fun b ob q he => u.there b ob q fun z => he (hx b z), u.tups, u.frzs, u.tbls⟩
end

def trk (h : Heap) (H : Hp) : List Addr := (List.range h.objs.size).filter fun a => (H a).isSome
def hidT (h : Heap) (H : Hp) : Heap := PySem.W.hideAll h (trk h H)
theorem hidT_size (h : Heap) (H : Hp) : (hidT h H).objs.size = h.objs.size := PySem.W.hideAll_size _ _
theorem hidT_get {h : Heap} {H : Hp} {b : Addr} {o : Obj} (e : h.get? b = some o) (n : H b = none) : (hidT h H).get? b = some o :=
  PySem.W.hideAll_get _ e fun hm => by
    have q : (H b).isSome = true := (List.mem_filter.mp hm).2
    rw [n] at q; simp at q
theorem of_hidT {h : Heap} {H : Hp} {b : Addr} {o : Obj} (e : (hidT h H).get? b = some o) : h.get? b = some o ∧ H b = none := by
  have e' : h.get? b = some o := PySem.W.of_hideAll (trk h H) e
  refine ⟨e', ?_⟩
  cases q : H b with
  | none => rfl
  | some x =>
    have hm : b ∈ trk h H := List.mem_filter.mpr ⟨List.mem_range.mpr (Heap.lt_size e'), by simp [q]⟩
    have z : (hidT h H).get? b = none := PySem.W.hideAll_none (trk h H) hm
    rw [z] at e; cases e

def allNews (g h : Heap) (L : Addr) : List (Addr × Obj) := (List.range h.objs.size).filterMap fun a => if a = L ∨ (g.get? a).isSome = true then none else (h.get? a).map fun o => (a, o)
def rest (g h : Heap) (L d : Addr) : List (Addr × Obj) := (allNews g h L).filter fun p => decide (p.1 ≠ d)
end L2

namespace L2
open PySem PySem.Spec PyProof.Rows

structure Mod (K : PySem.W.Frag) (mg : Str → Option Value) (base : Heap) : Prop where
  kin : K.In base
  glob : base.Ns mainGlobals mg
  blt : ∃ mb, base.Ns builtinsNs mb ∧ ∀ x : Str, x ≠ "__name__" → mb x = bootBuiltins x
  nolimit : base.NoLimit

structure Cx where
  prog : Program
  w : World
  K : PySem.W.Frag
  mg : Str → Option Value
  base : Heap
  A : Around
  N : List Str
  s₀ : Shared
  H₀ : Hp
  env : Env
  outer : List Env
  stack : List Env
  ex : List Addr
  fn : Str → Bool
  calm : Bool
  pn : List (Addr × Obj)
  xe : Value → Shared → Prop
def frs (l : List Env) : List Addr := l.filterMap (·.frame)
abbrev Cx.fs (X : Cx) : List Addr := frs X.outer

def Vis (sc : Scope) (x : Str) : Prop := sc.names.lookup x = some .local ∨ sc.names.lookup x = some .cell ∨ sc.names.lookup x = some .free
def Loc (sc : Scope) (x : Str) : Prop := sc.names.lookup x = some .local ∨ sc.names.lookup x = some .cell
def Look (env : Env) (h : Heap) (m : Str → Option Value) (x : Str) (u : Value) : Prop :=
  (env.kindOf x = some .local ∧ m x = some u) ∨ ((env.kindOf x = some .cell ∨ env.kindOf x = some .free) ∧ ∃ c, env.cells.lookup x = some c ∧ h.IsCell c (some u))

structure Cx.Ok (X : Cx) : Prop where
  mod : Mod X.K X.mg X.base
  kind : X.env.scope.kind = .function
  glob : X.env.globals = mainGlobals
  blt : X.env.builtins = builtinsNs
  above : X.s₀.heap.objs.size ≤ X.env.locals
  inj : ∀ x y c, X.env.cells.lookup x = some c → X.env.cells.lookup y = some c → x = y
  has : ∀ x, (X.env.kindOf x = some .cell ∨ X.env.kindOf x = some .free) → ∃ c, X.env.cells.lookup x = some c
  cab : ∀ x c, X.fn x = true → X.env.cells.lookup x = some c → X.s₀.heap.objs.size ≤ c
  hd : X.calm = true → X.A.handled = none
  frames : X.A.frames = some X.stack
  stk : X.stack = X.outer ∨ (X.stack = X.env :: X.outer ∧ X.env.frame = some X.env.locals)
  exf : ∀ b ∈ X.ex, b ≠ X.env.locals ∧ ∀ x c, X.env.cells.lookup x = some c → c ≠ b
  bs : ∀ b o, X.base.get? b = some o → X.s₀.heap.get? b = some o ∧ X.H₀ b = none
  bsz : X.base.objs.size ≤ X.s₀.heap.objs.size
  noex : ∀ b o, X.base.get? b = some o → b ∉ X.ex
  exfs : ∀ b ∈ X.ex, b ∉ X.fs
  funs : X.s₀.heap.FunFrames X.base X.outer
  frf : ∀ b ∈ X.fs, X.H₀ b = none

structure Inv (X : Cx) (pins : List (Addr × Obj)) (σ : List (Option V)) (H : Hp) (s : Shared) : Prop where
  ok : X.Ok
  os : s.os = X.s₀.os
  bare : AllBare s.gens
  base : Un X.fs X.ex X.H₀ H X.s₀.heap s.heap
  loc : ∃ m, s.heap.Ns X.env.locals m ∧ ∀ (i : Nat) (x : Str) (v : V), X.N[i]? = some x → σ[i]? = some (some v) → Vis X.env.scope x → ∃ u, RelV v u ∧ Look X.env s.heap m x u
  cell : ∀ x c, X.env.cells.lookup x = some c → ∃ v, s.heap.IsCell c v
  free : H X.env.locals = none
  freeC : ∀ x c, X.env.cells.lookup x = some c → H c = none
  pin : ∀ p ∈ X.pn ++ pins, s.heap.get? p.1 = some p.2 ∧ H p.1 = none ∧ p.1 ≠ X.env.locals ∧ p.1 ∉ X.fs ∧ ∀ v, p.2.data ≠ .cell v
  hok : HOk X.prog X.w H s.heap
  len : σ.length = X.N.length

section
variable {X : Cx} {pins : List (Addr × Obj)} {σ : List (Option V)} {H H' : Hp} {s : Shared} {h' : Heap}

theorem Cx.Ok.nofr (ok : X.Ok) {b : Addr} {o : Obj} (e : X.base.get? b = some o) : b ∉ X.fs := fun hb => by
  have := (ok.funs.mem hb).1
  rw [e] at this; cases this
theorem Inv.bs (I : Inv X pins σ H s) : ∀ b o, X.base.get? b = some o → s.heap.get? b = some o ∧ H b = none := fun b o e =>
  ⟨I.base.keep b o (I.ok.bs b o e).1 (I.ok.bs b o e).2 (I.ok.nofr e) (I.ok.noex b o e), I.base.free b o (I.ok.bs b o e).1 (I.ok.bs b o e).2 (I.ok.noex b o e)⟩
theorem Inv.bk (I : Inv X pins σ H s) : ∀ b o, X.base.get? b = some o → s.heap.get? b = some o := fun b o e => (I.bs b o e).1
theorem Inv.mod (I : Inv X pins σ H s) : Mod X.K X.mg X.base := I.ok.mod
theorem Inv.kIn (I : Inv X pins σ H s) : X.K.In s.heap := I.ok.mod.kin.keeps I.bk
theorem Inv.nolimit (I : Inv X pins σ H s) : s.heap.NoLimit := I.ok.mod.nolimit.keeps I.bk
theorem Inv.fr (I : Inv X pins σ H s) : ∃ m, Fr X.base X.env.locals s.heap m :=
  let ⟨m, hn, _⟩ := I.loc
  ⟨m, hn, I.bk, Nat.le_trans I.ok.bsz I.ok.above⟩
theorem Inv.lt (I : Inv X pins σ H s) : X.env.locals < s.heap.objs.size := let ⟨_, hn, _⟩ := I.loc; hn.lt
theorem Inv.sz (I : Inv X pins σ H s) : X.s₀.heap.objs.size ≤ s.heap.objs.size := Nat.le_trans I.ok.above (Nat.le_of_lt I.lt)
theorem Inv.nofs (I : Inv X pins σ H s) {a : Addr} (h : s.heap.objs.size ≤ a) : a ∉ X.fs := fun hb => by
  obtain ⟨_, o, ho, _⟩ := I.ok.funs.mem hb
  exact absurd (Nat.lt_of_lt_of_le (Heap.lt_size ho) (Nat.le_trans I.sz h)) (Nat.lt_irrefl _)
theorem Inv.cne (I : Inv X pins σ H s) : ∀ x c, X.env.cells.lookup x = some c → c ≠ X.env.locals := fun x c e z => by
  obtain ⟨v, o, ho, hd⟩ := I.cell x c e
  obtain ⟨m, ⟨o', es, ep, ho', hd', _⟩, _⟩ := I.loc
  rw [z, ho'] at ho; cases ho; rw [hd'] at hd; cases hd
theorem Inv.funs (I : Inv X pins σ H s) : s.heap.FunFrames X.base X.outer := by
  have all : ∀ (l : List Env), (∀ b ∈ frs l, b ∈ X.fs) → X.s₀.heap.FunFrames X.base l → s.heap.FunFrames X.base l := by
    intro l
    induction l with
    | nil => intro _ _; trivial
    | cons env r ih =>
      intro hs hl
      obtain ⟨hk, ⟨L, o, hf, hn, ho, hd⟩, hr⟩ := hl
      have hL : L ∈ X.fs := hs L (by unfold frs; rw [List.filterMap_cons, hf]; exact List.mem_cons_self)
      obtain ⟨sl, e⟩ := I.base.slot L o ho (I.ok.frf L hL) hL fun z => I.ok.exfs L z hL
      exact ⟨hk, ⟨L, _, hf, hn, e, hd⟩, ih (fun b hb => hs b (by unfold frs; rw [List.filterMap_cons, hf]; exact List.mem_cons_of_mem _ hb)) hr⟩
  exact all X.outer (fun _ hb => hb) I.ok.funs

theorem Inv.stack (I : Inv X pins σ H s) : s.heap.FunFrames X.base X.stack := by
  rcases I.ok.stk with e | ⟨e, hf⟩
  · rw [e]; exact I.funs
  · rw [e]
    obtain ⟨m, hn, _⟩ := I.loc
    refine .cons (by rw [I.ok.kind]; decide) hf hn ?_ I.funs
    exact Heap.get?_none_of_le (Nat.le_trans I.ok.bsz I.ok.above)
theorem Inv.stkSub (I : Inv X pins σ H s) : ∀ b ∈ frs X.stack, b ∈ X.env.locals :: X.fs := fun b hb => by
  rcases I.ok.stk with e | ⟨e, hf⟩
  · rw [e] at hb; exact List.mem_cons_of_mem _ hb
  · rw [e] at hb
    unfold frs at hb
    rw [List.filterMap_cons, hf] at hb
    exact hb
theorem Inv.stkFree (I : Inv X pins σ H s) : ∀ b ∈ frs X.stack, H b = none := fun b hb => by
  rcases List.mem_cons.mp (I.stkSub b hb) with e | hb
  · rw [e]; exact I.free
  · obtain ⟨_, o, ho, _⟩ := I.ok.funs.mem hb
    exact I.base.free b o ho (I.ok.frf b hb) fun z => I.ok.exfs b z hb

theorem Inv.step {g' : Array GenState} {t' : Nat} {d' : Drawn} {ch : List Addr} (I : Inv X pins σ H s)
    (hch : ∀ b ∈ ch, (b ∈ X.ex ∨ X.s₀.heap.objs.size ≤ b) ∧ b ≠ X.env.locals ∧ (∀ x c, X.env.cells.lookup x = some c → c ≠ b) ∧ ∀ p ∈ X.pn ++ pins, p.1 ≠ b)
    (keep : ∀ b o, b ≠ X.env.locals → b ∉ X.fs → b ∉ ch → s.heap.get? b = some o → H b = none → h'.get? b = some o)
    (slot : ∀ b o, b ≠ X.env.locals → b ∈ X.fs → b ∉ ch → s.heap.get? b = some o → H b = none → ∃ sl, h'.get? b = some { o with slots := sl }) (free : ∀ b o, b ∉ ch → s.heap.get? b = some o → H b = none → H' b = none)
    (there : ∀ b o, b ∉ ch → s.heap.get? b = some o → ∃ o', h'.get? b = some o')
    (tups : ∀ b xs, H b = some (.tup xs) → H' b = some (.tup xs)) (frzs : ∀ b o u, H b = some (.frz o u) → H' b = some (.frz o u)) (tbls : ∀ b ps, H b = some (.tbl ps) → ∃ more, H' b = some (.tbl (ps ++ more)))
    (ns : ∀ m, s.heap.Ns X.env.locals m → h'.Ns X.env.locals m) (hok : HOk X.prog X.w H' h') (hg : AllBare g') :
    Inv X pins σ H' { s with heap := h', gens := g', drawn := d', toks := t' } := by
  have neL : ∀ b o, X.s₀.heap.get? b = some o → b ≠ X.env.locals := fun b o e => Nat.ne_of_lt (Nat.lt_of_lt_of_le (Heap.lt_size e) I.ok.above)
  have neC : ∀ b o, X.s₀.heap.get? b = some o → b ∉ X.ex → b ∉ ch := fun b o e hx hb => by
    rcases (hch b hb).1 with z | z
    · exact hx z
    · exact absurd (Nat.lt_of_lt_of_le (Heap.lt_size e) z) (Nat.lt_irrefl _)
  have cellK : ∀ x c, X.env.cells.lookup x = some c → ∀ v, s.heap.IsCell c v → h'.IsCell c v := fun x c e v ⟨o, ho, hd⟩ => by
    have nch : c ∉ ch := fun z => (hch c z).2.2.1 x c e rfl
    by_cases hc : c ∈ X.fs
    · obtain ⟨sl, q⟩ := slot c o (I.cne x c e) hc nch ho (I.freeC x c e)
      exact ⟨_, q, hd⟩
    · exact ⟨o, keep c o (I.cne x c e) hc nch ho (I.freeC x c e), hd⟩
  refine ⟨I.ok, I.os, hg, ⟨fun b o e n hb hx => ?_, fun b o e n hb hx => ?_, fun b o e n hx => ?_, fun b o e hx => ?_, fun b xs e => tups b xs (I.base.tups b xs e), fun b o xs e => frzs b o xs (I.base.frzs b o xs e), fun b ps e => ?_⟩, ?_, fun x c e => ?_, ?_, fun x c e => ?_, fun p hp => ?_, hok, I.len⟩
  · exact keep b o (neL b o e) hb (neC b o e hx) (I.base.keep b o e n hb hx) (I.base.free b o e n hx)
  · obtain ⟨sl, e1⟩ := I.base.slot b o e n hb hx
    obtain ⟨sl', e2⟩ := slot b _ (neL b o e) hb (neC b o e hx) e1 (I.base.free b o e n hx)
    exact ⟨sl', e2⟩
  · obtain ⟨o', e1⟩ := I.base.there b o e hx
    exact free b o' (neC b o e hx) e1 (I.base.free b o e n hx)
  · obtain ⟨o', e1⟩ := I.base.there b o e hx
    exact there b o' (neC b o e hx) e1
  · obtain ⟨m1, e1⟩ := I.base.tbls b ps e
    obtain ⟨m2, e2⟩ := tbls b _ e1
    exact ⟨m1 ++ m2, by rw [e2, Array.append_assoc]⟩
  · obtain ⟨m, hn, hl⟩ := I.loc
    refine ⟨m, ns m hn, fun i x v e1 e2 e3 => ?_⟩
    obtain ⟨u, r, l⟩ := hl i x v e1 e2 e3
    refine ⟨u, r, ?_⟩
    rcases l with l | ⟨k, c, e, z⟩
    · exact .inl l
    · exact .inr ⟨k, c, e, cellK x c e _ z⟩
  · obtain ⟨v, z⟩ := I.cell x c e
    exact ⟨v, cellK x c e v z⟩
  · obtain ⟨m, ⟨o, _, _, ho, _⟩, _⟩ := I.loc
    exact free _ o (fun z => (hch _ z).2.1 rfl) ho I.free
  · obtain ⟨v, o, ho, hd⟩ := I.cell x c e
    exact free c o (fun z => (hch c z).2.2.1 x c e rfl) ho (I.freeC x c e)
  · obtain ⟨e, n, ne, nf, d⟩ := I.pin p hp
    have nch : p.1 ∉ ch := fun z => (hch p.1 z).2.2.2 p hp rfl
    exact ⟨keep p.1 p.2 ne nf nch e n, free p.1 p.2 nch e n, ne, nf, d⟩
theorem Inv.un {t' : Nat} (I : Inv X pins σ H s) (u : Un X.fs [] H H' s.heap h') (hok : HOk X.prog X.w H' h') : Inv X pins σ H' { s with heap := h', toks := t' } := by
  obtain ⟨m, ⟨o, es, ep, ho, r⟩, _⟩ := id I.loc
  obtain ⟨sl, hL⟩ := u.any ho I.free (by simp)
  exact I.step (g' := s.gens) (d' := s.drawn) (ch := []) (fun _ z => nomatch z) (fun b o _ hb _ e n => u.keep b o e n hb (by simp)) (fun b o _ hb _ e n => u.slot b o e n hb (by simp)) (fun b o _ e n => u.free b o e n (by simp)) (fun b o _ e => u.there b o e (by simp)) u.tups u.frzs u.tbls (fun m' hm => by
    obtain ⟨o', es', ep', ho', r'⟩ := hm
    rw [ho] at ho'; cases ho'
    exact ⟨_, es', ep', hL, r'⟩) hok I.bare
theorem Inv.call {g' : Array GenState} {t' : Nat} {d' : Drawn} {ch : List Addr} (I : Inv X pins σ H s) (u : Un (frs X.stack) ch H H' s.heap h') (hok : HOk X.prog X.w H' h') (hg : AllBare g')
    (hch : ∀ b ∈ ch, (b ∈ X.ex ∨ X.s₀.heap.objs.size ≤ b) ∧ b ≠ X.env.locals ∧ (∀ x c, X.env.cells.lookup x = some c → c ≠ b) ∧ ∀ p ∈ X.pn ++ pins, p.1 ≠ b) :
    Inv X pins σ H' { s with heap := h', gens := g', drawn := d', toks := t' } := by
  obtain ⟨m, ⟨o, es, ep, ho, r⟩, _⟩ := id I.loc
  obtain ⟨sl, hL⟩ := u.any ho I.free fun z => (hch _ z).2.1 rfl
  exact I.step (ch := ch) hch (fun b o hL hb hc e n => u.keep b o e n (fun z => (List.mem_cons.mp (I.stkSub b z)).elim hL hb) hc) (fun b o _ _ hc e n => u.any e n hc) (fun b o hc e n => u.free b o e n hc) (fun b o hc e => u.there b o e hc) u.tups u.frzs u.tbls (fun m' hm => by
    obtain ⟨o', es', ep', ho', r'⟩ := hm
    rw [ho] at ho'; cases ho'
    exact ⟨_, es', ep', hL, r'⟩) hok hg
theorem Inv.turned {t' : Nat} {it : Addr} (I : Inv X pins σ H s) (k : ∀ b o, b ≠ it → s.heap.get? b = some o → h'.get? b = some o) (hn : H it = none) (hL : it ≠ X.env.locals)
    (h1 : it ∈ X.ex ∨ X.s₀.heap.objs.size ≤ it) (h2 : ∀ x c, X.env.cells.lookup x = some c → c ≠ it) (h3 : ∀ p ∈ X.pn ++ pins, p.1 ≠ it) : Inv X pins σ H { s with heap := h', toks := t' } := by
  have nit : ∀ b u, H b = some u → b ≠ it := fun b u e z => by rw [z, hn] at e; cases e
  refine I.step (g' := s.gens) (d' := s.drawn) (ch := [it]) (fun b hb => ?_) (fun b o _ _ hc e _ => k b o (fun z => hc (by simp [z])) e) (fun b o _ _ hc e _ => ⟨o.slots, k b o (fun z => hc (by simp [z])) e⟩) (fun _ _ _ _ n => n)
    (fun b o hc e => ⟨o, k b o (fun z => hc (by simp [z])) e⟩) (fun _ _ e => e) (fun _ _ _ e => e) (fun b ps e => ⟨#[], by rw [e]; simp⟩) (fun m hm => ?_) (fun b u e => ?_) I.bare
  · have e : b = it := by simpa using hb
    subst e
    exact ⟨h1, hL, h2, h3⟩
  · obtain ⟨o, es, ep, ho, r⟩ := hm
    exact ⟨o, es, ep, k _ o (Ne.symm hL) ho, r⟩
  · refine (I.hok b u e).stay (fun c v hc q => k c v ?_ q) (fun _ q => q) fun _ _ q => q
    rcases hc with z | z
    · rw [z]; exact nit b u e
    · exact nit c _ z
theorem Inv.tok (I : Inv X pins σ H s) (t : Nat) : Inv X pins σ H { s with toks := t } := I.un (h' := s.heap) (t' := t) Un.refl I.hok
theorem Inv.kept {t' : Nat} (I : Inv X pins σ H s) (k : ∀ b u, s.heap.get? b = some u → h'.get? b = some u) : Inv X pins σ H { s with heap := h', toks := t' } := I.un (Un.kept k) (I.hok.kept k)
theorem Inv.laid {a : Addr} {o : HO} {t' : Nat} (I : Inv X pins σ H s) (k : ∀ b u, s.heap.get? b = some u → h'.get? b = some u) (hp : s.heap.objs.size ≤ a) (new : ObjOk X.prog X.w (upd H a o) h' a o) :
    Inv X pins σ (upd H a o) { s with heap := h', toks := t' } := I.un (Un.laid k hp (I.hok.fresh hp)) (I.hok.laid k hp new)
theorem Inv.write {x e : Addr} {o : HO} {t' : Nat} (I : Inv X pins σ H s) (mu : Mut (H x)) (he : e = x ∨ H e = some (.own x)) (k : ∀ b u, b ≠ e → s.heap.get? b = some u → h'.get? b = some u) (heo : ∃ u, h'.get? e = some u)
    (new : ObjOk X.prog X.w (upd H x o) h' x o) : Inv X pins σ (upd H x o) { s with heap := h', toks := t' } := I.un (Un.write mu he k heo) (I.hok.write mu he k heo new)
theorem Inv.pins_of {pins' : List (Addr × Obj)} (I : Inv X pins σ H s) (h : ∀ p ∈ pins', s.heap.get? p.1 = some p.2 ∧ H p.1 = none ∧ p.1 ≠ X.env.locals ∧ p.1 ∉ X.fs ∧ ∀ v, p.2.data ≠ .cell v) : Inv X pins' σ H s :=
  ⟨I.ok, I.os, I.bare, I.base, I.loc, I.cell, I.free, I.freeC, fun p hp => (List.mem_append.mp hp).elim (fun z => I.pin p (List.mem_append_left _ z)) (h p), I.hok, I.len⟩

theorem nodup_ix {N : List Str} (hN : N.Nodup) {i j : Nat} {x : Str} (a : N[i]? = some x) (b : N[j]? = some x) : i = j := by
  obtain ⟨h1, e1⟩ := List.getElem?_eq_some_iff.mp a
  obtain ⟨h2, e2⟩ := List.getElem?_eq_some_iff.mp b
  exact (List.getElem_inj hN).mp (e1.trans e2.symm)

theorem store_ok2 {M : Model} {A : Around} {E : Value → Shared → Prop} {i : Nat} {x : Str} {v : V} {u : Value} {Q : Unit → Shared → Prop} (I : Inv X pins σ H s) (hN : X.N.Nodup) (hi : X.N[i]? = some x) (hx : Loc X.env.scope x) (r : RelV v u)
    (h : ∀ s', Inv X pins (σ.set i (some v)) H s' → (∃ a, Heap.SameBut a s.heap s'.heap ∧ (a = X.env.locals ∨ X.env.cells.lookup x = some a)) → Q () s') (hf : X.fn x = true ∨ X.env.scope.names.lookup x = some .local := by first | exact .inl rfl | exact .inr rfl | assumption) : wpAny M A (storeName X.env x u) Q E s := by
  obtain ⟨m, hn, hl⟩ := id I.loc
  have hcls : (X.env.scope.kind == .class || (X.env.scope.kind == .module && X.env.locals != X.env.globals)) = false := by rw [I.ok.kind]; rfl
  have hiσ : i < σ.length := by rw [I.len]; exact (List.getElem?_eq_some_iff.mp hi).1
  have cne := I.cne
  have tracked : ∀ {a : Addr} {h' : Heap}, (∃ o, s.heap.get? a = some o ∧ H a = none) → Heap.SameBut a s.heap h' → HOk X.prog X.w H h' := fun {a h'} ha hs b ob e => by
    obtain ⟨_, _, hfree⟩ := ha
    refine (I.hok b ob e).stay (fun c w' hc q => (hs.2 c ?_).trans q) (fun _ q => q) fun _ _ q => q
    rintro rfl
    rcases hc with rfl | hc
    · rw [hfree] at e; cases e
    · rw [hfree] at hc; cases hc
  rcases hx with hk | hk
  · refine wpAny_storeName_local hk hn (fun h' hn' hs => ?_) hcls
    obtain ⟨oL, _, _, hoL, _⟩ := id hn
    refine h _ ⟨I.ok, I.os, I.bare, ⟨fun b o e n hb hx => ?_, fun b o e n hb hx => ?_, I.base.free, fun b o e hx => ?_, I.base.tups, I.base.frzs, I.base.tbls⟩, ⟨_, hn', fun j y v' e1 e2 e3 => ?_⟩, fun y c e => ?_, I.free, I.freeC, fun p hp => ?_, tracked ⟨oL, hoL, I.free⟩ hs, by simpa using I.len⟩ ⟨_, hs, .inl rfl⟩
    · exact (hs.2 b (Nat.ne_of_lt (Nat.lt_of_lt_of_le (Heap.lt_size e) I.ok.above))).trans (I.base.keep b o e n hb hx)
    · obtain ⟨sl, e1⟩ := I.base.slot b o e n hb hx
      exact ⟨sl, (hs.2 b (Nat.ne_of_lt (Nat.lt_of_lt_of_le (Heap.lt_size e) I.ok.above))).trans e1⟩
    · obtain ⟨o', e1⟩ := I.base.there b o e hx
      exact ⟨o', (hs.2 b (Nat.ne_of_lt (Nat.lt_of_lt_of_le (Heap.lt_size e) I.ok.above))).trans e1⟩
    · by_cases hj : j = i
      · subst hj
        rw [hi] at e1; cases e1
        rw [List.getElem?_set_self hiσ] at e2
        cases e2
        exact ⟨u, r, .inl ⟨hk, by simp⟩⟩
      · rw [List.getElem?_set_ne (Ne.symm hj)] at e2
        obtain ⟨u', r', q⟩ := hl j y v' e1 e2 e3
        refine ⟨u', r', ?_⟩
        rcases q with ⟨k, e⟩ | ⟨k, c, e, z⟩
        · refine .inl ⟨k, ?_⟩
          have : y ≠ x := fun e => hj (nodup_ix hN e1 (e ▸ hi))
          simp [this, e]
        · exact .inr ⟨k, c, e, z.sameBut hs (cne y c e)⟩
    · obtain ⟨w', z⟩ := I.cell y c e
      exact ⟨w', z.sameBut hs (cne y c e)⟩
    · obtain ⟨e, n, ne, nf, d⟩ := I.pin p hp
      exact ⟨(hs.2 p.1 ne).trans e, n, ne, nf, d⟩
  · have hfn : X.fn x = true := by
      rcases hf with z | z
      · exact z
      · rw [z] at hk; cases hk
    obtain ⟨c, hc⟩ := I.ok.has x (.inl hk)
    obtain ⟨w', z⟩ := I.cell x c hc
    refine wpAny_storeName_cell I.ok.kind hk hc z (fun h' hc' hs => ?_)
    obtain ⟨oc, hoc, hocd⟩ := id z
    refine h { s with heap := h' } ⟨I.ok, I.os, I.bare, ⟨fun b o e n hb hx => ?_, fun b o e n hb hx => ?_, I.base.free, fun b o e hx => ?_, I.base.tups, I.base.frzs, I.base.tbls⟩, ⟨m, hn.sameBut hs (Ne.symm (cne x c hc)), fun j y v' e1 e2 e3 => ?_⟩, fun y c' e => ?_, I.free, I.freeC, fun p hp => ?_, tracked ⟨oc, hoc, I.freeC x c hc⟩ hs, by simpa using I.len⟩ ⟨c, hs, .inr hc⟩
    · exact (hs.2 b (Nat.ne_of_lt (Nat.lt_of_lt_of_le (Heap.lt_size e) (I.ok.cab x c hfn hc)))).trans (I.base.keep b o e n hb hx)
    · obtain ⟨sl, e1⟩ := I.base.slot b o e n hb hx
      exact ⟨sl, (hs.2 b (Nat.ne_of_lt (Nat.lt_of_lt_of_le (Heap.lt_size e) (I.ok.cab x c hfn hc)))).trans e1⟩
    · obtain ⟨o', e1⟩ := I.base.there b o e hx
      exact ⟨o', (hs.2 b (Nat.ne_of_lt (Nat.lt_of_lt_of_le (Heap.lt_size e) (I.ok.cab x c hfn hc)))).trans e1⟩
    · by_cases hj : j = i
      · subst hj
        rw [hi] at e1; cases e1
        rw [List.getElem?_set_self hiσ] at e2
        cases e2
        exact ⟨u, r, .inr ⟨.inl hk, c, hc, hc'⟩⟩
      · rw [List.getElem?_set_ne (Ne.symm hj)] at e2
        obtain ⟨u', r', q⟩ := hl j y v' e1 e2 e3
        refine ⟨u', r', ?_⟩
        rcases q with q | ⟨k, c', e, z'⟩
        · exact .inl q
        · refine .inr ⟨k, c', e, z'.sameBut hs ?_⟩
          rintro rfl
          exact hj (nodup_ix hN e1 (I.ok.inj _ _ _ e hc ▸ hi))
    · by_cases hcc : c' = c
      · subst hcc; exact ⟨_, hc'⟩
      · obtain ⟨w2, z2⟩ := I.cell y c' e
        exact ⟨w2, z2.sameBut hs hcc⟩
    · obtain ⟨e, n, ne, nf, d⟩ := I.pin p hp
      refine ⟨(hs.2 p.1 ?_).trans e, n, ne, nf, d⟩
      intro q
      rw [q, hoc] at e
      have q' : oc = p.2 := Option.some.inj e
      exact d w' (by rw [← q']; exact hocd)
theorem store_ok {M : Model} {A : Around} {E : Value → Shared → Prop} {i : Nat} {x : Str} {v : V} {u : Value} {Q : Unit → Shared → Prop} (I : Inv X pins σ H s) (hN : X.N.Nodup) (hi : X.N[i]? = some x) (hx : Loc X.env.scope x) (r : RelV v u)
    (h : ∀ s', Inv X pins (σ.set i (some v)) H s' → Q () s') (hf : X.fn x = true ∨ X.env.scope.names.lookup x = some .local := by first | exact .inl rfl | exact .inr rfl | assumption) : wpAny M A (storeName X.env x u) Q E s :=
  store_ok2 I hN hi hx r (fun s' I' _ => h s' I') hf
theorem Inv.call' {s' : Shared} {ch : List Addr} (I : Inv X pins σ H s) (ho : s'.os = s.os) (u : Un (frs X.stack) ch H H' s.heap s'.heap) (hok : HOk X.prog X.w H' s'.heap) (hg : AllBare s'.gens)
    (hch : ∀ b ∈ ch, (b ∈ X.ex ∨ X.s₀.heap.objs.size ≤ b) ∧ b ≠ X.env.locals ∧ (∀ x c, X.env.cells.lookup x = some c → c ≠ b) ∧ ∀ p ∈ X.pn ++ pins, p.1 ≠ b) : Inv X pins σ H' s' := by
  obtain ⟨h', g', d', t', o'⟩ := s'
  have e : o' = s.os := ho
  subst e
  exact I.call (g' := g') (t' := t') (d' := d') u hok hg hch
end

abbrev XK := Value → Option Addr → Hp → Prop
abbrev St := List (Option V)
abbrev VK := V → Hp → Prop
abbrev TE := St → Hp → VK → Prop
abbrev TT := St → Hp → (Bool → Hp → Prop) → Prop
abbrev TA := St → Hp → (List V → Hp → Prop) → Prop
structure Ends where
  nx : St → Hp → Prop
  rt : VK
  bk : St → Hp → Prop := fun _ _ => False
  ct : St → Hp → Prop := fun _ _ => False
abbrev TS := Ends → St → Hp → Prop

def EP (X : Cx) (pins : List (Addr × Obj)) (σ : St) (Q : VK) (u : Value) (s' : Shared) : Prop := ∃ v H', Inv X pins σ H' s' ∧ RelV v u ∧ Q v H'
def TP (X : Cx) (pins : List (Addr × Obj)) (σ : St) (Q : Bool → Hp → Prop) (b : Bool) (s' : Shared) : Prop := ∃ H', Inv X pins σ H' s' ∧ Q b H'
def AP (X : Cx) (pins : List (Addr × Obj)) (σ : St) (Q : List V → Hp → Prop) (us : List Value) (s' : Shared) : Prop := ∃ vs H', Inv X pins σ H' s' ∧ Vals vs us ∧ Q vs H'
def SP (X : Cx) (pins : List (Addr × Obj)) (D : Ends) (f : Flow) (s' : Shared) : Prop :=
  match f with
  | .next => ∃ σ' H', Inv X pins σ' H' s' ∧ D.nx σ' H'
  | .brk => ∃ σ' H', Inv X pins σ' H' s' ∧ D.bk σ' H'
  | .cont => ∃ σ' H', Inv X pins σ' H' s' ∧ D.ct σ' H'
  | .ret u => ∃ v σ' H', Inv X pins σ' H' s' ∧ RelV v u ∧ D.rt v H'

def PE (X : Cx) (e : Expr) (t : TE) : Prop :=
  ∀ (pins : List (Addr × Obj)) (s : Shared) (σ : St) (H : Hp) (Q : VK), Inv X pins σ H s → t σ H Q → wpAny (model X.prog X.w) X.A (eval e X.env) (EP X pins σ Q) X.xe s
def PT (X : Cx) (e : Expr) (t : TT) : Prop :=
  ∀ (pins : List (Addr × Obj)) (s : Shared) (σ : St) (H : Hp) (Q : Bool → Hp → Prop), Inv X pins σ H s → t σ H Q → wpAny (model X.prog X.w) X.A (isTrue e X.env (eval e X.env)) (TP X pins σ Q) X.xe s
def PW (X : Cx) (e : Expr) (t : TT) : Prop :=
  ∀ (whole : Sem Value) (pins : List (Addr × Obj)) (s : Shared) (σ : St) (H : Hp) (Q : Bool → Hp → Prop), Inv X pins σ H s → t σ H Q → wpAny (model X.prog X.w) X.A (isTrue e X.env whole) (TP X pins σ Q) X.xe s
theorem PW.pt {X : Cx} {e : Expr} {t : TT} (h : PW X e t) : PT X e t := h _
def PA (X : Cx) (es : List Expr) (t : TA) : Prop :=
  ∀ (pos : Pos) (pins : List (Addr × Obj)) (s : Shared) (σ : St) (H : Hp) (Q : List V → Hp → Prop), Inv X pins σ H s → t σ H Q → wpAny (model X.prog X.w) X.A (spliced (backTo pos (starEach es X.env))) (AP X pins σ Q) X.xe s
def PS (X : Cx) (st : Stmt) (t : TS) : Prop :=
  ∀ (pins : List (Addr × Obj)) (s : Shared) (σ : St) (H : Hp) (D : Ends), Inv X pins σ H s → t D σ H → wpAny (model X.prog X.w) X.A (exec st X.env) (SP X pins D) X.xe s
def PSs (X : Cx) (st : List Stmt) (t : TS) : Prop :=
  ∀ (pins : List (Addr × Obj)) (s : Shared) (σ : St) (H : Hp) (D : Ends), Inv X pins σ H s → t D σ H → wpAny (model X.prog X.w) X.A (execs st X.env) (SP X pins D) X.xe s
theorem thn {α : Type} {t : Sem α} {Q Q' : α → Shared → Prop} {M : Model} {A : Around} {E : Value → Shared → Prop} {s : Shared} (h : wpAny M A t Q E s) (hQ : ∀ a s, Q a s → Q' a s) : wpAny M A t Q' E s := wpAny_mono h hQ fun _ _ x => x
end L2

namespace L2
open PySem PySem.Spec PyProof.Rows
section
variable {X : Cx}

def tVar (i : Nat) : TE := fun σ H Q => ∃ v, σ[i]? = some (some v) ∧ Q v H
def tC (v : V) : TE := fun _ H Q => Q v H
theorem pe_var {i : Nat} {x : Str} {pos : Pos} (hN : X.N[i]? = some x) (hv : Vis X.env.scope x) (hd : (x == ("__debug__" : Str)) = false := by decide) (hcd : (x == ("__classdict__" : Str)) = false := by decide) : PE X (.Name x pos) (tVar i) := by
  intro pins s σ H Q I h
  obtain ⟨v, e, h⟩ := h
  obtain ⟨m, hn, hl⟩ := I.loc
  obtain ⟨u, r, l⟩ := hl i x v hN e hv
  have fin : EP X pins σ Q u s := ⟨v, H, I, r, h⟩
  rcases l with ⟨hk, hm⟩ | ⟨hk, c, hc, hcell⟩
  · exact wpAny_Name (wpAny_loadName_local I.ok.kind hk hn hm fin) hd
  · rcases hk with hk | hk
    · exact wpAny_Name (wpAny_loadName_cell I.ok.kind hk hc hcell fin) hd
    · exact wpAny_Name (wpAny_loadName_free I.ok.kind hk hc hcell fin hcd) hd
theorem pe_int {i j pos} : PE X (.Constant (.int i) j pos) (tC (.int i)) := fun _ _ _ H _ I h => wpAny_Constant_int ⟨.int i, H, I.tok _, ⟨_, rfl⟩, h⟩
theorem pe_bl {b j pos} : PE X (.Constant (.bool b) j pos) (tC (.bl b)) := fun _ _ _ H _ I h => Constant_bool ⟨.bl b, H, I, rfl, h⟩
theorem pe_non {j pos} : PE X (.Constant .none j pos) (tC .non) := fun _ _ _ H _ I h => Constant_none ⟨.non, H, I, rfl, h⟩
theorem pe_str {x j pos} : PE X (.Constant (.str x) j pos) (tC (.str x)) := fun _ _ _ H _ I h => Calls.Constant_str ⟨.str x, H, I.tok _, ⟨_, rfl⟩, h⟩

def Gl (X : Cx) (x : Str) : Prop := X.env.kindOf x = some .globalImplicit
theorem ld_glob {E : Value → Shared → Prop} {pins : List (Addr × Obj)} {s : Shared} {σ : St} {H : Hp} {x : Str} {u : Value} {pos : Pos} {Q : Value → Shared → Prop} (I : Inv X pins σ H s) (hg : Gl X x) (hm : X.mg x = some u) (h : Q u s)
    (hd : (x == ("__debug__" : Str)) = false := by decide) : wpAny (model X.prog X.w) X.A (eval (.Name x pos) X.env) Q E s :=
  Calls.Name_function_global I.ok.kind hg (Calls.loadGlobal_global (by rw [I.ok.glob]; exact I.mod.glob.keeps I.bk) hm h) hd
theorem ld_blt {E : Value → Shared → Prop} {pins : List (Addr × Obj)} {s : Shared} {σ : St} {H : Hp} {x : Str} {u : Value} {pos : Pos} {Q : Value → Shared → Prop} (I : Inv X pins σ H s) (hg : Gl X x) (hm : X.mg x = none) (hv : bootBuiltins x = some u) (h : Q u s)
    (hn : x ≠ "__name__" := by decide) (hd : (x == ("__debug__" : Str)) = false := by decide) : wpAny (model X.prog X.w) X.A (eval (.Name x pos) X.env) Q E s := by
  obtain ⟨mb, h1, h2⟩ := I.mod.blt
  exact Calls.Name_function_global I.ok.kind hg (Calls.loadGlobal_builtin (by rw [I.ok.glob]; exact I.mod.glob.keeps I.bk) hm (by rw [I.ok.blt]; exact h1.keeps I.bk) ((h2 x hn).trans hv) h) hd
theorem pe_glob {x : Str} {v : V} {u : Value} {pos : Pos} (hg : Gl X x) (hm : X.mg x = some u) (r : RelV v u) (hd : (x == ("__debug__" : Str)) = false := by decide) : PE X (.Name x pos) (tC v) :=
  fun _ _ _ H _ I h => ld_glob I hg hm ⟨v, H, I, r, h⟩ hd
theorem pe_bltn {x : Str} {v : V} {u : Value} {pos : Pos} (hg : Gl X x) (hm : X.mg x = none) (hv : bootBuiltins x = some u) (r : RelV v u) (hn : x ≠ "__name__" := by decide) (hd : (x == ("__debug__" : Str)) = false := by decide) : PE X (.Name x pos) (tC v) :=
  fun _ _ _ H _ I h => ld_blt I hg hm hv ⟨v, H, I, r, h⟩ hn hd

variable {a b : Expr} {ta tb : TE} {pos : Pos}
def PC (X : Cx) (op : CmpOp) (a b : Expr) (t : TE) : Prop :=
  ∀ (pins : List (Addr × Obj)) (s : Shared) (σ : St) (H : Hp) (Q : VK), Inv X pins σ H s → t σ H Q →
    wpAny (model X.prog X.w) X.A (eval a X.env) (fun v s₁ => wpAny (model X.prog X.w) X.A (eval b X.env) (fun u s₂ => wpAny (model X.prog X.w) X.A (compareOp op v u) (EP X pins σ Q) X.xe s₂) X.xe s₁) X.xe s
theorem nobehind (b : Expr) {op : CmpOp} (h : op ≠ .In) (h2 : op ≠ .NotIn) : behindInMarks op b = false := by
  have e1 : (op == CmpOp.In) = false := by cases op <;> first | rfl | exact absurd rfl h
  have e2 : (op == CmpOp.NotIn) = false := by cases op <;> first | rfl | exact absurd rfl h2
  cases b <;> simp [behindInMarks, e1, e2]
def tB (t : TE) : TT := fun σ H Q => t σ H fun x H1 => ∃ c, x = .bl c ∧ Q c H1
theorem pt_cmp {op : CmpOp} {t : TE} (h : PC X op a b t) (h1 : behindInMarks op b = false := by first | exact nobehind _ (by decide) (by decide) | rfl) : PT X (.Compare a [op] [b] pos) (tB t) := by
  intro pins s σ H Q I hw
  refine wpAny_isTrue_Compare1 (thn (h pins s σ H _ I hw) fun v s1 h1 => thn h1 fun u s2 h2 => thn h2 fun c s3 ⟨x, H1, I1, r1, q1⟩ => ?_) h1
  obtain ⟨d, rfl, q⟩ := q1
  cases r1
  exact wpAny_truthy_bool ⟨H1, I1, q⟩
theorem pt_val {e : Expr} {t : TE} (h : PE X e t) (he : ∀ whole, isTrue e X.env whole = (do let v ← whole; standAt e.pos; holding [v] (truthy v)) := by intro _; rfl) : PT X e (tB t) := by
  intro pins s σ H Q I hw
  refine isTrue_plain (thn (h pins s σ H _ I hw) fun v s1 ⟨x, H1, I1, r1, q1⟩ => ?_) (he _)
  obtain ⟨d, rfl, q⟩ := q1
  cases r1
  exact wpAny_truthy_bool ⟨H1, I1, q⟩

variable {tA tB' : TT} {rest : List Expr}
def tAnd (t u : TT) : TT := fun σ H Q => t σ H fun c H1 => if c = true then u σ H1 Q else Q false H1
def tOr (t u : TT) : TT := fun σ H Q => t σ H fun c H1 => if c = true then Q true H1 else u σ H1 Q
def tNot (t : TT) : TT := fun σ H Q => t σ H fun c H1 => Q (!c) H1
theorem pw_and1 (ha : PT X a tA) : PW X (.BoolOp .And [a] pos) tA := by
  intro wh pins s σ H Q I h
  refine isTrue_and (thn (ha pins s σ H Q I h) fun c s1 e => ?_)
  cases c with
  | true => exact isTrue_and_nil e
  | false => exact e
theorem pw_or1 (ha : PT X a tA) : PW X (.BoolOp .Or [a] pos) tA := by
  intro wh pins s σ H Q I h
  refine isTrue_or (thn (ha pins s σ H Q I h) fun c s1 e => ?_)
  cases c with
  | false => exact isTrue_or_nil e
  | true => exact e
theorem pw_and (ha : PT X a tA) (hb : PW X (.BoolOp .And (b :: rest) pos) tB') : PW X (.BoolOp .And (a :: b :: rest) pos) (tAnd tA tB') := by
  intro wh pins s σ H Q I h
  refine isTrue_and (thn (ha pins s σ H _ I h) fun c s1 ⟨H1, I1, q1⟩ => ?_)
  cases c with
  | true => exact hb wh pins s1 σ H1 Q I1 q1
  | false => exact ⟨H1, I1, q1⟩
theorem pw_or (ha : PT X a tA) (hb : PW X (.BoolOp .Or (b :: rest) pos) tB') : PW X (.BoolOp .Or (a :: b :: rest) pos) (tOr tA tB') := by
  intro wh pins s σ H Q I h
  refine isTrue_or (thn (ha pins s σ H _ I h) fun c s1 ⟨H1, I1, q1⟩ => ?_)
  cases c with
  | true => exact ⟨H1, I1, q1⟩
  | false => exact hb wh pins s1 σ H1 Q I1 q1
theorem pt_not (ha : PT X a tA) : PT X (.UnaryOp .Not a pos) (tNot tA) := by
  intro pins s σ H Q I h
  exact isTrue_not (ha pins s σ H (fun c H1 => Q (!c) H1) I h)
def tAndV (ta tb : TE) : TE := fun σ H Q => ta σ H fun x H1 => ∃ c, x = .bl c ∧ if c = true then tb σ H1 Q else Q (.bl false) H1
def tOrV (ta tb : TE) : TE := fun σ H Q => ta σ H fun x H1 => ∃ c, x = .bl c ∧ if c = true then Q (.bl true) H1 else tb σ H1 Q
def tNotV (ta : TE) : TE := fun σ H Q => ta σ H fun x H1 => ∃ c, x = .bl c ∧ Q (.bl (!c)) H1
theorem pe_one {op} {t : TE} (h : PE X a t) : PE X (.BoolOp op [a] pos) t := fun pins s σ H Q I hw => BoolOp_one (h pins s σ H Q I hw)
theorem pe_and (ha : PE X a ta) (hb : PE X (.BoolOp .And (b :: rest) pos) tb) : PE X (.BoolOp .And (a :: b :: rest) pos) (tAndV ta tb) := by
  intro pins s σ H Q I h
  refine BoolOp_and (thn (ha pins s σ H _ I h) fun v s1 ⟨x, H1, I1, r1, q1⟩ => ?_)
  obtain ⟨c, rfl, q1⟩ := q1
  cases r1
  refine wpAny_truthy_bool ?_
  cases c with
  | true => exact hb pins s1 σ H1 Q I1 q1
  | false => exact ⟨.bl false, H1, I1, rfl, q1⟩
theorem pe_or (ha : PE X a ta) (hb : PE X (.BoolOp .Or (b :: rest) pos) tb) : PE X (.BoolOp .Or (a :: b :: rest) pos) (tOrV ta tb) := by
  intro pins s σ H Q I h
  refine BoolOp_or (thn (ha pins s σ H _ I h) fun v s1 ⟨x, H1, I1, r1, q1⟩ => ?_)
  obtain ⟨c, rfl, q1⟩ := q1
  cases r1
  refine wpAny_truthy_bool ?_
  cases c with
  | false => exact hb pins s1 σ H1 Q I1 q1
  | true => exact ⟨.bl true, H1, I1, rfl, q1⟩
theorem pe_not (ha : PE X a ta) : PE X (.UnaryOp .Not a pos) (tNotV ta) := by
  intro pins s σ H Q I h
  refine UnaryOp_ (thn (ha pins s σ H _ I h) fun v s1 ⟨x, H1, I1, r1, q1⟩ => ?_)
  obtain ⟨c, rfl, q1⟩ := q1
  cases r1
  exact not_of (wpAny_truthy_bool ⟨.bl (!c), H1, I1, rfl, q1⟩)
end
end L2

namespace L2
open PySem PySem.Spec PyProof.Rows

def SqL (K : PySem.W.Frag) (H : Hp) (a : Addr) (xs : List V) : Prop :=
  Rd H a (.lst xs) ∨
    ∃ (o : Obj) (its : Array Value) (n : Nat), K.lookup a = some o ∧ o.cls = .type "list" ∧ o.dict = none ∧ o.data = .seq its n ∧ its.size ≤ sizeLine ∧ Vals xs its.toList
def SqT (K : PySem.W.Frag) (H : Hp) (a : Addr) (xs : List V) : Prop :=
  Rd H a (.tup xs) ∨
    ∃ (o : Obj) (its : Array Value) (n : Nat), K.lookup a = some o ∧ o.cls = .type "tuple" ∧ o.data = .seq its n ∧ its.size ≤ sizeLine ∧ Vals xs its.toList
def absV : Value → Option V
  | .none => some .non
  | .bool b => some (.bl b)
  | .int i _ => some (.int i)
  | .str x _ => some (.str x)
  | .bytes b _ => some (.byt b)
  | .float b _ => some (.flt b)
  | .ref a => some (.ref a)
  | .type n => some (.ty n)
  | _ => none
theorem RelV.abs {x : V} {u : Value} (r : RelV x u) : absV u = some x := by
  cases x with
  | non => cases r; rfl
  | bl _ => cases r; rfl
  | int _ => obtain ⟨t, rfl⟩ := r; rfl
  | str _ => obtain ⟨t, rfl⟩ := r; rfl
  | byt _ => obtain ⟨t, rfl⟩ := r; rfl
  | flt _ => obtain ⟨t, rfl⟩ := r; rfl
  | ref _ => cases r; rfl
  | ty _ => cases r; rfl
theorem RelV.inj {x y : V} {u : Value} (r : RelV x u) (q : RelV y u) : x = y := Option.some.inj (r.abs.symm.trans q.abs)
theorem Vals.inj : ∀ {xs ys : List V} {us : List Value}, Vals xs us → Vals ys us → xs = ys
  | _, _, _, .nil, .nil => rfl
  | _, _, _, .cons r t, .cons r' t' => by rw [r.inj r', Vals.inj t t']
section
variable {X : Cx} {pins : List (Addr × Obj)} {σ : St} {H : Hp} {s : Shared} {a : Addr} {xs ys : List V}
theorem SqL.of {K : PySem.W.Frag} (h : H a = some (.lst xs)) : SqL K H a xs := .inl (.inl h)
theorem SqT.of {K : PySem.W.Frag} (h : H a = some (.tup xs)) : SqT K H a xs := .inl (.inl h)
theorem Inv.list (I : Inv X pins σ H s) (h : SqL X.K H a xs) : ∃ its : List Value, Vals xs its ∧ PlainL s.heap a its.toArray ∧ xs.length ≤ sizeLine := by
  rcases h with h | ⟨o, its, n, hk, hc, hd, hs, hz, r⟩
  · obtain ⟨z, its, n, r, e⟩ := h.ok I.hok
    exact ⟨its, r, ⟨_, n, e, rfl, rfl, rfl⟩, z⟩
  · refine ⟨its.toList, r, ⟨o, n, I.kIn a o hk, hc, hd, by simpa using hs⟩, ?_⟩
    have e := r.length
    simp only [Array.length_toList] at e
    omega
theorem Inv.tuple (I : Inv X pins σ H s) (h : SqT X.K H a xs) : ∃ its : List Value, Vals xs its ∧ IsTup s.heap a its.toArray ∧ xs.length ≤ sizeLine := by
  rcases h with h | ⟨o, its, n, hk, hc, hs, hz, r⟩
  · obtain ⟨z, its, r, p, _⟩ := h.ok I.hok
    exact ⟨its, r, p, z⟩
  · refine ⟨its.toList, r, ⟨o, I.kIn a o hk, hc, n, by simpa using hs⟩, ?_⟩
    have e := r.length
    simp only [Array.length_toList] at e
    omega
theorem Inv.list_inj (I : Inv X pins σ H s) (h : SqL X.K H a xs) (h' : SqL X.K H a ys) : xs = ys := by
  obtain ⟨its, r, ⟨o, n, e, _, _, d⟩, _⟩ := I.list h
  obtain ⟨its', r', ⟨o', n', e', _, _, d'⟩, _⟩ := I.list h'
  rw [e] at e'; cases e'
  rw [d] at d'
  injection d' with d1 _
  have : its = its' := by simpa using congrArg Array.toList d1
  subst this
  exact r.inj r'
theorem Inv.tuple_inj (I : Inv X pins σ H s) (h : SqT X.K H a xs) (h' : SqT X.K H a ys) : xs = ys := by
  obtain ⟨its, r, ⟨o, e, _, n, d⟩, _⟩ := I.tuple h
  obtain ⟨its', r', ⟨o', e', _, n', d'⟩, _⟩ := I.tuple h'
  rw [e] at e'; cases e'
  rw [d] at d'
  injection d' with d1 _
  have : its = its' := by simpa using congrArg Array.toList d1
  subst this
  exact r.inj r'
end

abbrev Cx.wish (X : Cx) (E : Value → Shared → Prop) : Cx := { X with xe := E }
abbrev Cx.nox (X : Cx) : Cx := X.wish fun _ _ => False
theorem Cx.Ok.wish {X : Cx} (ok : X.Ok) (E : Value → Shared → Prop) : (X.wish E).Ok :=
  ⟨ok.mod, ok.kind, ok.glob, ok.blt, ok.above, ok.inj, ok.has, ok.cab, ok.hd, ok.frames, ok.stk, ok.exf, ok.bs, ok.bsz, ok.noex, ok.exfs, ok.funs, ok.frf⟩
theorem Cx.Ok.unwish {X : Cx} {E : Value → Shared → Prop} (ok : (X.wish E).Ok) : X.Ok :=
  ⟨ok.mod, ok.kind, ok.glob, ok.blt, ok.above, ok.inj, ok.has, ok.cab, ok.hd, ok.frames, ok.stk, ok.exf, ok.bs, ok.bsz, ok.noex, ok.exfs, ok.funs, ok.frf⟩
section
variable {X : Cx} {pins : List (Addr × Obj)} {σ : St} {H : Hp} {s : Shared} {E : Value → Shared → Prop}
theorem Inv.wish (I : Inv X pins σ H s) (E : Value → Shared → Prop) : Inv (X.wish E) pins σ H s := ⟨I.ok.wish E, I.os, I.bare, I.base, I.loc, I.cell, I.free, I.freeC, I.pin, I.hok, I.len⟩
theorem Inv.unwish (I : Inv (X.wish E) pins σ H s) : Inv X pins σ H s := ⟨I.ok.unwish, I.os, I.bare, I.base, I.loc, I.cell, I.free, I.freeC, I.pin, I.hok, I.len⟩
theorem SP.unwish {D : Ends} {f : Flow} {s' : Shared} (h : SP (X.wish E) pins D f s') : SP X pins D f s' := by
  cases f with
  | next => obtain ⟨σ', H', I, q⟩ := h; exact ⟨σ', H', I.unwish, q⟩
  | brk => obtain ⟨σ', H', I, q⟩ := h; exact ⟨σ', H', I.unwish, q⟩
  | cont => obtain ⟨σ', H', I, q⟩ := h; exact ⟨σ', H', I.unwish, q⟩
  | ret u => obtain ⟨v, σ', H', I, r, q⟩ := h; exact ⟨v, σ', H', I.unwish, r, q⟩
theorem PE.nox {e : Expr} {t : TE} (h : PE X.nox e t) : PE X e t := fun pins s σ H Q I hw =>
  wpAny_mono (h pins s σ H Q (I.wish _) hw) (fun _ _ ⟨v, H', I', r, q⟩ => ⟨v, H', I'.unwish, r, q⟩) fun _ _ z => False.elim z
theorem PT.nox {e : Expr} {t : TT} (h : PT X.nox e t) : PT X e t := fun pins s σ H Q I hw =>
  wpAny_mono (h pins s σ H Q (I.wish _) hw) (fun _ _ ⟨H', I', q⟩ => ⟨H', I'.unwish, q⟩) fun _ _ z => False.elim z
theorem PSs.nox {st : List Stmt} {t : TS} (h : PSs X.nox st t) : PSs X st t := fun pins s σ H D I hw =>
  wpAny_mono (h pins s σ H D (I.wish _) hw) (fun _ _ q => q.unwish) fun _ _ z => False.elim z
end

section
variable {X : Cx} {st : Stmt} {rest : List Stmt} {t u : TS} {e : Expr} {te : TE} {pos : Pos}
def tNext : TS := fun D σ H => D.nx σ H
def tSeq (t u : TS) : TS := fun D σ H => t { D with nx := u D } σ H
theorem pss_nil : PSs X [] tNext := fun _ _ σ H _ I h => wpAny_execs_nil ⟨σ, H, I, h⟩
theorem pss_cons (h1 : PS X st t) (h2 : PSs X rest u) : PSs X (st :: rest) (tSeq t u) := by
  intro pins s σ H D I h
  refine wpAny_execs_cons (thn (h1 pins s σ H { D with nx := u D } I h) fun f s1 q => ?_)
  cases f with
  | next =>
    obtain ⟨σ', H', I', q⟩ := q
    exact h2 pins s1 σ' H' D I' q
  | ret v => exact q
  | brk => exact q
  | cont => exact q
theorem pss_one (h1 : PS X st t) : PSs X [st] t := by
  intro pins s σ H D I h
  refine wpAny_execs_cons (thn (h1 pins s σ H D I h) fun f s1 q => ?_)
  cases f with
  | next => exact wpAny_execs_nil q
  | ret v => exact q
  | brk => exact q
  | cont => exact q
theorem Inv.quiet {pins : List (Addr × Obj)} {σ : St} {H : Hp} {s : Shared} (I : Inv X pins σ H s) : interactive X.env = false := by simp [interactive, I.ok.kind]
def tDrop (te : TE) : TS := fun D σ H => te σ H fun _ H1 => D.nx σ H1
theorem ps_expr (he : PE X e te) (hs : swapsWith e none pos.line X.env = pure false := by rfl) : PS X (.Expr e pos) (tDrop te) := by
  intro pins s σ H D I h
  exact wpAny_Expr_any (thn (he pins s σ H _ I h) fun v s1 ⟨x, H1, I1, r1, q1⟩ => ⟨σ, H1, I1, q1⟩) I.quiet hs
def tRet (te : TE) : TS := fun D σ H => te σ H D.rt
theorem ps_ret (he : PE X e te) : PS X (.Return (some e) pos) (tRet te) := by
  intro pins s σ H D I h
  exact wpAny_Return_some (thn (he pins s σ H _ I h) fun v s1 ⟨x, H1, I1, r1, q1⟩ => ⟨x, σ, H1, I1, r1, q1⟩)
def tIfS (c : TT) (t u : TS) : TS := fun D σ H => c σ H fun b H1 => if b = true then t D σ H1 else u D σ H1
theorem ps_if {c : Expr} {a b : List Stmt} {tc : TT} (hc : PT X c tc) (ha : PSs X a t) (hb : PSs X b u) : PS X (.If c a b pos) (tIfS tc t u) := by
  intro pins s σ H D I h
  refine wpAny_If (thn (hc pins s σ H _ I h) fun d s1 ⟨H1, I1, q1⟩ => ?_)
  cases d with
  | true => exact ha pins s1 σ H1 D I1 q1
  | false => exact hb pins s1 σ H1 D I1 q1
end

abbrev TG := V → St → Hp → (St → Hp → Prop) → Prop
abbrev TGs := List V → St → Hp → (St → Hp → Prop) → Prop
def PG (X : Cx) (target : Expr) (t : TG) : Prop :=
  ∀ (pins : List (Addr × Obj)) (s : Shared) (σ : St) (H : Hp) (v : V) (u : Value) (Q : St → Hp → Prop), Inv X pins σ H s → RelV v u → t v σ H Q →
    wpAny (model X.prog X.w) X.A (assign target X.env u) (fun _ s' => ∃ σ' H', Inv X pins σ' H' s' ∧ Q σ' H') X.xe s
def PGs (X : Cx) (ts : List Expr) (t : TGs) : Prop :=
  ∀ (pins : List (Addr × Obj)) (s : Shared) (σ : St) (H : Hp) (vs : List V) (us : List Value) (Q : St → Hp → Prop), Inv X pins σ H s → Vals vs us → t vs σ H Q →
    wpAny (model X.prog X.w) X.A (assignInOrder ((assignEach ts X.env).map (·.2)) us) (fun _ s' => ∃ σ' H', Inv X pins σ' H' s' ∧ Q σ' H') X.xe s
abbrev TSet := V → V → V → Hp → (Hp → Prop) → Prop
def PSet (X : Cx) (t : TSet) : Prop :=
  ∀ (pins : List (Addr × Obj)) (s : Shared) (σ : St) (H : Hp) (o i v : V) (ov iv u : Value) (Q : Hp → Prop), Inv X pins σ H s → RelV o ov → RelV i iv → RelV v u → t o i v H Q →
    wpAny (model X.prog X.w) X.A (setItem ov iv u) (fun _ s' => ∃ H', Inv X pins σ H' s' ∧ Q H') X.xe s
section
variable {X : Cx} {pos : Pos}
def gName (i : Nat) : TG := fun v σ H Q => Q (σ.set i (some v)) H
theorem pg_name {i : Nat} {x : Str} (hN : X.N.Nodup) (hi : X.N[i]? = some x) (hx : Loc X.env.scope x) (hf : X.fn x = true ∨ X.env.scope.names.lookup x = some .local := by first | exact .inl rfl | exact .inr rfl | assumption) : PG X (.Name x pos) (gName i) := by
  intro pins s σ H v u Q I r h
  exact wpAny_assign_Name (store_ok I hN hi hx r (fun s' I' => ⟨_, H, I', h⟩) hf)
def gNil : TGs := fun vs σ H Q => vs = [] ∧ Q σ H
def gCons (t : TG) (u : TGs) : TGs := fun vs σ H Q => ∃ v r, vs = v :: r ∧ t v σ H fun σ' H' => u r σ' H' Q
theorem pgs_nil : PGs X [] gNil := by
  intro pins s σ H vs us Q I r h
  obtain ⟨e, h⟩ := h
  subst e
  cases r
  exact assignInOrder_nil ⟨σ, H, I, h⟩
theorem pgs_cons {e : Expr} {es : List Expr} {t : TG} {u : TGs} (h1 : PG X e t) (h2 : PGs X es u)
    (hs : (assignEach (e :: es) X.env).map (·.2) = assign e X.env :: (assignEach es X.env).map (·.2) := by rfl) : PGs X (e :: es) (gCons t u) := by
  intro pins s σ H vs us Q I r h
  obtain ⟨v, vr, e1, h⟩ := h
  subst e1
  cases r with
  | cons r rr =>
    rw [hs]
    refine assignInOrder_cons (thn (h1 pins s σ H _ _ _ I r h) fun _ s1 ⟨σ1, H1, I1, q1⟩ => ?_)
    exact h2 pins s1 σ1 H1 _ _ Q I1 rr q1
def gTup (K : PySem.W.Frag) (n : Nat) (t : TGs) : TG := fun v σ H Q => ∃ a xs, v = .ref a ∧ SqT K H a xs ∧ xs.length = n ∧ t xs σ H Q
theorem pg_tup {es : List Expr} {k : Nat} {t : TGs} {n : Nat} (hc : X.calm = true) (h : PGs X es t)
    (hn : (assignEach es X.env).length = n := by rfl) (hst : (assignEach es X.env).findIdx? (·.1) = none := by rfl) : PG X (.Tuple es k pos) (gTup X.K n t) := by
  intro pins s σ H v u Q I r hw
  obtain ⟨a, xs, e1, hq, hl, hw⟩ := hw
  subst e1
  cases r
  obtain ⟨its, rv, ht, hz⟩ := I.tuple hq
  refine assign_Tuple_tuple (I.ok.hd hc) ht (by simp [hn, ← hl, rv.length]) hst fun h' hx => ?_
  have I1 : Inv X pins σ H { s with heap := h' } := I.kept (t' := s.toks) fun b o e => hx b o (Nat.ne_of_lt (Heap.lt_size e)) e
  exact h pins _ σ H xs _ Q I1 (by simpa using rv) hw
def gSub (to ti : TE) (t : TSet) : TG := fun v σ H Q => to σ H fun o H1 => ti σ H1 fun i H2 => t o i v H2 fun H3 => Q σ H3
theorem pg_sub {o i : Expr} {to ti : TE} {t : TSet} (ho : PE X o to) (hi : PE X i ti) (hs : PSet X t)
    (ha : ∀ v, assign (.Subscript o i pos) X.env v = (do
      let ov ← holding [v] (eval o X.env)
      let iv ← holding [v, ov] (eval i X.env)
      standAt pos
      holding [v, ov, iv] (setItem ov iv v)
      release [v, ov, iv] []) := by intro _; rfl) : PG X (.Subscript o i pos) (gSub to ti t) := by
  intro pins s σ H v u Q I r h
  rw [ha]
  refine wpAny_bind (wpAny_holding (thn (ho pins s σ H _ I h) fun ov s1 ⟨x, H1, I1, r1, q1⟩ => ?_))
  refine wpAny_bind (wpAny_holding (thn (hi pins s1 σ H1 _ I1 q1) fun iv s2 ⟨y, H2, I2, r2, q2⟩ => ?_))
  refine wpAny_bind (wpAny_standAt (wpAny_bind (wpAny_holding (thn (hs pins s2 σ H2 x y v ov iv u _ I2 r1 r2 r q2) fun _ s3 ⟨H3, I3, q3⟩ => ?_))))
  exact wpAny_release ⟨σ, H3, I3, q3⟩
def tAsg (te : TE) (g : TG) : TS := fun D σ H => te σ H fun x H1 => g x σ H1 D.nx
theorem ps_asg {tg e : Expr} {te : TE} {g : TG} (he : PE X e te) (hg : PG X tg g) (hs : swapsWithSole [tg] e pos.line X.env = pure false := by rfl) (hw : swappedStores [tg] e X.env = pure none := by rfl)
    (h1 : (assignEach [tg] X.env).map (·.2) = [assign tg X.env] := by rfl) : PS X (.Assign [tg] e pos) (tAsg te g) := by
  intro pins s σ H D I h
  refine wpAny_Assign_stores (thn (he pins s σ H _ I h) fun v s1 ⟨x, H1, I1, r1, q1⟩ => ?_) hs hw
  rw [h1]
  exact thn (hg pins s1 σ H1 x v _ I1 r1 q1) fun _ s2 q => q
theorem ps_set {i : Nat} {x : Str} {e : Expr} {te : TE} {pos' : Pos} (hN : X.N.Nodup) (hi : X.N[i]? = some x) (hx : Loc X.env.scope x) (he : PE X e te) (hs : swapsWith e (some (.Name x pos')) pos.line X.env = pure false := by rfl) (hf : X.fn x = true ∨ X.env.scope.names.lookup x = some .local := by first | exact .inl rfl | exact .inr rfl | assumption) :
    PS X (.Assign [.Name x pos'] e pos) (tAsg te (gName i)) := by
  intro pins s σ H D I h
  refine wpAny_Assign_Name (thn (he pins s σ H _ I h) fun v s1 ⟨y, H1, I1, r1, q1⟩ => ?_) hs
  exact store_ok I1 hN hi hx r1 (fun s2 I2 => ⟨_, H1, I2, q1⟩) hf
end

section
variable {X : Cx} {pos : Pos}
end

structure It where
  go : Nat → Hp → Prop
  yld : Nat → Hp → V → Hp → Prop
  stop : Nat → Hp → Prop
def FpOk (X : Cx) (pins : List (Addr × Obj)) (H : Hp) (b : Addr) : Prop :=
  H b = none ∧ b ≠ X.env.locals ∧ b ∉ X.fs ∧ (b ∈ X.ex ∨ X.s₀.heap.objs.size ≤ b) ∧ (∀ x c, X.env.cells.lookup x = some c → c ≠ b) ∧ ∀ p ∈ X.pn ++ pins, p.1 ≠ b
theorem Inv.fpOk {X : Cx} {pins : List (Addr × Obj)} {σ : St} {H H' : Hp} {s : Shared} {b : Addr} (I : Inv X pins σ H s) (hb : s.heap.objs.size ≤ b) (hn : H' b = none) : FpOk X pins H' b := by
  refine ⟨hn, Nat.ne_of_gt (Nat.lt_of_lt_of_le I.lt hb), I.nofs hb, .inr (Nat.le_trans I.sz hb), fun x c e z => ?_, fun p hp z => ?_⟩
  · obtain ⟨v, q⟩ := I.cell x c e
    exact absurd (Nat.lt_of_lt_of_le q.lt (by rw [z]; exact hb)) (Nat.lt_irrefl _)
  · exact absurd (Nat.lt_of_lt_of_le (Heap.lt_size (I.pin p hp).1) (by rw [z]; exact hb)) (Nat.lt_irrefl _)
structure Turn (P : Program) (w : World) (K : PySem.W.Frag) (tg : Expr) (J : It) (fp : List Addr) (it : Addr) (tn : Nat → Heap → Prop) : Prop where
  mem : it ∈ fp
  obj : ∀ i h, tn i h → ∀ b ∈ fp, ∃ o, h.get? b = some o ∧ ∀ v, o.data ≠ .cell v
  keep : ∀ i h h', tn i h → (∀ b ∈ fp, ∀ o, h.get? b = some o → h'.get? b = some o) → tn i h'
  item : ∀ (X : Cx), X.prog = P → X.w = w → X.K = K → X.calm = true → ∀ (i : Nat) (pins : List (Addr × Obj)) (s : Shared) (σ : St) (H : Hp) (E : Value → Shared → Prop), Inv X pins σ H s → (∀ b ∈ fp, FpOk X pins H b) → tn i s.heap → J.go i H →
    wpAny (model P w) X.A (pyNext (.ref it)) (fun r s1 => ∃ u, r = some u ∧
      wpAny (model P w) X.A (letOwnedTupleGo tg (.ref it) u) (fun _ s2 => ∃ x H', Inv X pins σ H' s2 ∧ RelV x u ∧ J.yld i H x H' ∧ tn (i + 1) s2.heap ∧ ∀ b ∈ fp, H' b = none) E s1) E s
  done : ∀ (X : Cx), X.prog = P → X.w = w → X.K = K → X.calm = true → ∀ (i : Nat) (pins : List (Addr × Obj)) (s : Shared) (σ : St) (H : Hp) (E : Value → Shared → Prop), Inv X pins σ H s → (∀ b ∈ fp, FpOk X pins H b) → tn i s.heap → J.stop i H →
    wpAny (model P w) X.A (pyNext (.ref it)) (fun r s1 => r = none ∧ Inv X pins σ H s1) E s
  self : ∀ (A : Around) (i : Nat) (s : Shared) (Q : Value → Shared → Prop) (E : Value → Shared → Prop), tn i s.heap → Q (.ref it) s → wpAny (model P w) A (pyIter (.ref it)) Q E s
abbrev TI := St → Hp → (It → Hp → Prop) → Prop
def PIE (X : Cx) (pins : List (Addr × Obj)) (σ : St) (tg : Expr) (R : It → Hp → Prop) (itv : Value) (s2 : Shared) : Prop :=
  ∃ (it : Addr) (fp : List Addr) (tn : Nat → Heap → Prop) (J : It) (H' : Hp), itv = .ref it ∧ Inv X pins σ H' s2 ∧ Turn X.prog X.w X.K tg J fp it tn ∧ tn 0 s2.heap ∧ (∀ b ∈ fp, FpOk X pins H' b) ∧ R J H'
def PI (X : Cx) (tg iter : Expr) (wi : TI) : Prop :=
  ∀ (pins : List (Addr × Obj)) (s : Shared) (σ : St) (H : Hp) (R : It → Hp → Prop), Inv X pins σ H s → wi σ H R →
    wpAny (model X.prog X.w) X.A (eval iter X.env) (fun v s1 => wpAny (model X.prog X.w) X.A (pyIter v) (PIE X pins σ tg R) X.xe s1) X.xe s

theorem go_of {M : Model} {A : Around} {E : Value → Shared → Prop} {s : Shared} {tg : Expr} {it : Addr} {u : Value} {o : Obj} {n : String} {vs : Array Value} {Q : Unit → Shared → Prop} (ho : s.heap.get? it = some o) (hc : o.cls = .type n) (hd : o.data = .fields vs)
    (hn : ["enumerate", "zip", "dict_itemiterator", "dict_reverseitemiterator", "odict_iterator", "itertools.zip_longest", "itertools.pairwise"].contains n = false) (hQ : Q () s) : wpAny M A (letOwnedTupleGo tg (.ref it) u) Q E s := by
  unfold letOwnedTupleGo
  cases tg <;> first
    | exact wpAny_pure hQ
    | (cases u <;> first
        | exact wpAny_pure hQ
        | (refine wpAny_bind (wpAny_load ho ?_)
           rw [hc, hd]
           show wpAny M A (if (["enumerate", "zip", "dict_itemiterator", "dict_reverseitemiterator", "odict_iterator", "itertools.zip_longest", "itertools.pairwise"].contains n && vs[0]? == some (rawInt _)) = true then _ else _) Q E s
           rw [if_neg (by intro h; rw [hn, Bool.false_and] at h; cases h)]
           exact wpAny_pure hQ))

def Itl (K : PySem.W.Frag) (a : Addr) : It :=
  ⟨fun i H => ∃ xs x, SqL K H a xs ∧ xs[i]? = some x, fun i H x H' => H' = H ∧ ∀ xs, SqL K H a xs → xs[i]? = some x, fun i H => ∃ xs, SqL K H a xs ∧ xs.length ≤ i⟩
def Itr (lo : Int) (n : Nat) : It := ⟨fun i _ => i < n, fun i H x H' => H' = H ∧ x = .int (lo + i), fun i _ => n ≤ i⟩
theorem turn_list {P : Program} {w : World} {K : PySem.W.Frag} {tg : Expr} (a it : Addr) : Turn P w K tg (Itl K a) [it] it (fun i h => h.IsListIter it a i) where
  mem := by simp
  obj := fun i h st b hb => by
    have e : b = it := by simpa using hb
    subst e
    obtain ⟨o, e, c, d⟩ := st
    exact ⟨o, e, fun v z => by rw [d] at z; cases z⟩
  keep := fun i h h' st k => st.at fun o e => k it (by simp) o e
  item := by
    intro X hP hw hK hc i pins s σ H E I hf st hg
    subst hP hw hK
    obtain ⟨xs, x, hq, hx⟩ := hg
    obtain ⟨its, rv, p, hz⟩ := I.list hq
    obtain ⟨u, hu, ru⟩ := rv.get hx
    obtain ⟨f0, f1, f2, f3, f4, f5⟩ := hf it (by simp)
    refine wpAny_pyNext_list_item st p.isList (x := u) (by simpa using hu) fun h' st' sb => ?_
    have I1 : Inv X pins σ H { s with heap := h' } := I.turned (t' := s.toks) (fun b o hb e => (sb.2 b hb).trans e) f0 f1 f3 f4 f5
    obtain ⟨o, e, c, d⟩ := id st'
    exact ⟨u, rfl, go_of (s := { s with heap := h' }) e c d (by decide) ⟨x, H, I1, ru, ⟨rfl, fun ys hy => by rw [I.list_inj hy hq]; exact hx⟩, st', fun b hb => (hf b hb).1⟩⟩
  done := by
    intro X hP hw hK hc i pins s σ H E I hf st hg
    subst hP hw hK
    obtain ⟨xs, hq, hx⟩ := hg
    obtain ⟨its, rv, p, hz⟩ := I.list hq
    obtain ⟨f0, f1, f2, f3, f4, f5⟩ := hf it (by simp)
    have hl := rv.length
    exact wpAny_pyNext_list_end (I.ok.hd hc) st p.isList (by simp; omega) fun h' eb => ⟨rfl, I.turned (t' := s.toks) (fun b o hb e => eb b o hb e) f0 f1 f3 f4 f5⟩
  self := fun _ _ _ _ _ st h => wpAny_pyIter_listiter st h
theorem turn_range {P : Program} {w : World} {K : PySem.W.Frag} {tg : Expr} (it : Addr) (lo : Int) (n : Nat) : Turn P w K tg (Itr lo n) [it] it (fun i h => IsRangeIter h it (lo + (i : Nat) * 1) ((n : Int) - (i : Nat)) 1) where
  mem := by simp
  obj := fun i h st b hb => by
    have e : b = it := by simpa using hb
    subst e
    exact ⟨_, st, fun v z => by
      have z' : Data.fields _ = Data.cell v := z
      cases z'⟩
  keep := fun i h h' st k => k it (by simp) _ st
  item := by
    intro X hP hw hK hc i pins s σ H E I hf st hg
    subst hP hw hK
    obtain ⟨f0, f1, f2, f3, f4, f5⟩ := hf it (by simp)
    have W := Walks.range (prog := X.prog) (w := X.w) (I.ok.hd hc) it lo 1 n
    refine W.item i s _ _ hg st fun v h' tk hv st' kk => ?_
    obtain ⟨t, rfl⟩ := hv
    have I1 : Inv X pins σ H { s with heap := h', toks := tk } := I.turned (fun b o hb e => kk b o (by simpa using hb) e) f0 f1 f3 f4 f5
    refine ⟨_, rfl, go_of (s := { s with heap := h', toks := tk }) (n := "range_iterator") st' rfl rfl (by decide) ⟨.int (lo + i), H, I1, ⟨t, ?_⟩, ⟨rfl, rfl⟩, st', fun b hb => (hf b hb).1⟩⟩
    rw [Int.mul_one]
  done := by
    intro X hP hw hK hc i pins s σ H E I hf st hg
    subst hP hw hK
    obtain ⟨f0, f1, f2, f3, f4, f5⟩ := hf it (by simp)
    exact wpAny_pyNext_range_end (I.ok.hd hc) st (by have : n ≤ i := hg; omega) fun h' eb => ⟨rfl, I.turned (t' := s.toks) (fun b o hb e => eb b o hb e) f0 f1 f3 f4 f5⟩
  self := fun _ _ _ _ _ st h => wpAny_pyIter_rangeiter st h
end L2

namespace L2
open PySem PySem.Spec PyProof.Rows
section
variable {X : Cx} {tg : Expr}
def iList (K : PySem.W.Frag) (tl : TE) : TI := fun σ H R => tl σ H fun x H1 => ∃ a, x = .ref a ∧ (∃ xs, SqL K H1 a xs) ∧ R (Itl K a) H1
theorem pi_list {l : Expr} {tl : TE} (hl : PE X l tl) : PI X tg l (iList X.K tl) := by
  intro pins s σ H R I h
  refine thn (hl pins s σ H _ I h) fun v s1 ⟨x, H1, I1, r1, q1⟩ => ?_
  obtain ⟨a, e, ⟨xs, hq⟩, q⟩ := q1
  subst e
  cases r1
  obtain ⟨its, rv, p, hz⟩ := I1.list hq
  refine wpAny_pyIter_list p.isList ?_
  refine ⟨s1.heap.objs.size, [s1.heap.objs.size], _, _, H1, rfl, I1.kept (t' := s1.toks) fun b o e => Heap.get?_push_of_some _ e, turn_list a _, ⟨_, Heap.get?_push_size _ rfl, rfl, rfl⟩, fun b hb => ?_, q⟩
  have e : b = s1.heap.objs.size := by simpa using hb
  subst e
  exact I1.fpOk (Nat.le_refl _) (I1.hok.fresh (Nat.le_refl _))
theorem range_it {pins : List (Addr × Obj)} {σ : St} {H : Hp} {s : Shared} {R : It → Hp → Prop} {E : Value → Shared → Prop} {lo hi : Int} {t u v : Tok} {tk : Nat} (I : Inv X pins σ H s) (h1 : -(2 ^ 62) ≤ lo) (h2 : lo < 2 ^ 62) (h3 : -(2 ^ 62) ≤ hi) (h4 : hi < 2 ^ 62)
    (q : R (Itr lo (hi - lo).toNat) H) : wpAny (model X.prog X.w) X.A (pyIter (.ref s.heap.objs.size)) (PIE X pins σ tg R) E { s with heap := s.heap.push { cls := .type "range", data := .fields #[.int lo t, .int hi u, .int 1 v] }, toks := tk } := by
  refine wpAny_pyIter_range (IsRange.new ..) (small_one h1 h2 h3 h4) ?_
  have I1 : Inv X pins σ H { s with heap := s.heap.push { cls := .type "range", data := .fields #[.int lo t, .int hi u, .int 1 v] }, toks := tk } := I.kept fun b o e => Heap.get?_push_of_some _ e
  refine ⟨(s.heap.push { cls := .type "range", data := .fields #[.int lo t, .int hi u, .int 1 v] }).objs.size, [(s.heap.push { cls := .type "range", data := .fields #[.int lo t, .int hi u, .int 1 v] }).objs.size], _, _, H, rfl,
    I1.kept (t' := tk) fun b o e => Heap.get?_push_of_some _ e, turn_range _ lo (hi - lo).toNat, ?_, fun b hb => ?_, q⟩
  · have e1 : lo + ((0 : Nat) : Int) * 1 = lo := by simp
    have e2 : (((hi - lo).toNat : Nat) : Int) - ((0 : Nat) : Int) = Builtin.Range.rangeSize lo hi 1 := by rw [rangeSize_one]; split <;> omega
    show IsRangeIter _ _ (lo + ((0 : Nat) : Int) * 1) ((((hi - lo).toNat : Nat) : Int) - ((0 : Nat) : Int)) 1
    rw [e1, e2]
    exact Heap.get?_push_size _ rfl
  · have e : b = (s.heap.push { cls := .type "range", data := .fields #[.int lo t, .int hi u, .int 1 v] }).objs.size := by simpa using hb
    subst e
    exact I1.fpOk (Nat.le_refl _) (I1.hok.fresh (Nat.le_refl _))
def iRng1 (ta : TA) : TI := fun σ H R => ta σ H fun vs H1 => ∃ j : Int, vs = [.int j] ∧ -(2 ^ 62) ≤ j ∧ j < 2 ^ 62 ∧ R (Itr 0 j.toNat) H1
def iRng2 (ta : TA) : TI := fun σ H R => ta σ H fun vs H1 => ∃ i j : Int, vs = [.int i, .int j] ∧ (-(2 ^ 62) ≤ i ∧ i < 2 ^ 62 ∧ -(2 ^ 62) ≤ j ∧ j < 2 ^ 62) ∧ R (Itr i (j - i).toNat) H1
theorem pi_range1 {a : Expr} {ta : TA} {p pos : Pos} (hg : Gl X "range") (hm : X.mg "range" = none) (ha : PA X [a] ta) (hs : starEach [a] X.env = [(false, eval a X.env)] := by rfl) : PI X tg (.Call (.Name "range" p) [a] [] pos) (iRng1 ta) := by
  intro pins s σ H R I h
  refine Call_ (ld_blt I hg hm boot_range (PyProof.Rows.callWith_type1 (thn (ha pos pins s σ H _ I h) fun us s1 ⟨vs, H1, I1, r1, q1⟩ => ?_) hs rfl))
  obtain ⟨j, e, q1, q2, q⟩ := q1
  subst e
  cases r1 with
  | cons r rr =>
    cases rr
    obtain ⟨t, rfl⟩ := r
    exact call_range_1 (range_it I1 (by omega) (by omega) q1 q2 (by simpa using q))
theorem pi_range2 {a b : Expr} {ta : TA} {p pos : Pos} (hg : Gl X "range") (hm : X.mg "range" = none) (ha : PA X [a, b] ta) (hs : starEach [a, b] X.env = [(false, eval a X.env), (false, eval b X.env)] := by rfl) (hs2 : starEach [b] X.env = [(false, eval b X.env)] := by rfl) :
    PI X tg (.Call (.Name "range" p) [a, b] [] pos) (iRng2 ta) := by
  intro pins s σ H R I h
  refine Call_ (ld_blt I hg hm boot_range (PyProof.Rows.callWith_type1 (thn (ha pos pins s σ H _ I h) fun us s1 ⟨vs, H1, I1, r1, q1⟩ => ?_) (by rw [hs, hs2]) (by rw [hs2]; rfl)))
  obtain ⟨i, j, e, ⟨q1, q2, q3, q4⟩, q⟩ := q1
  subst e
  cases r1 with
  | cons r rr =>
    cases rr with
    | cons r' rr =>
      cases rr
      obtain ⟨t, rfl⟩ := r
      obtain ⟨t', rfl⟩ := r'
      exact call_range_2 (range_it I1 q1 q2 q3 q4 q)

def tFor (wi : TI) (g : TG) (tb : TS) : TS := fun D σ H => wi σ H fun J H1 => ∃ W : Nat → Nat → St → Hp → Prop, (∃ m, W 0 m σ H1) ∧ ∀ i m σ H, W i m σ H →
  (J.stop i H ∧ D.nx σ H) ∨ (J.go i H ∧ ∃ N : St → Hp → Prop, (∀ σ' H', N σ' H' → ∃ m', m' < m ∧ W (i + 1) m' σ' H') ∧ ∀ x H', J.yld i H x H' → g x σ H' fun σ2 H2 => tb { D with nx := N, ct := N, bk := D.nx } σ2 H2)
def pinsAt (fp : List Addr) (h : Heap) : List (Addr × Obj) := fp.filterMap fun b => (h.get? b).map fun o => (b, o)
theorem mem_pinsAt {fp : List Addr} {h : Heap} {b : Addr} {o : Obj} (hb : b ∈ fp) (e : h.get? b = some o) : (b, o) ∈ pinsAt fp h := List.mem_filterMap.mpr ⟨b, hb, by rw [e]; rfl⟩
theorem of_pinsAt {fp : List Addr} {h : Heap} {p : Addr × Obj} (hp : p ∈ pinsAt fp h) : p.1 ∈ fp ∧ h.get? p.1 = some p.2 := by
  obtain ⟨b, hb, e⟩ := List.mem_filterMap.mp hp
  cases q : h.get? b with
  | none => rw [q] at e; cases e
  | some o =>
    rw [q] at e
    have e' : (b, o) = p := Option.some.inj e
    subst e'
    exact ⟨hb, q⟩
theorem Inv.pinned {pins : List (Addr × Obj)} {σ : St} {H : Hp} {s : Shared} {fp : List Addr} (I : Inv X pins σ H s) (hf : ∀ b ∈ fp, FpOk X pins H b) (ho : ∀ b ∈ fp, ∃ o, s.heap.get? b = some o ∧ ∀ v, o.data ≠ .cell v) : Inv X (pins ++ pinsAt fp s.heap) σ H s :=
  I.pins_of fun p hp => (List.mem_append.mp hp).elim (fun z => I.pin p (List.mem_append_right _ z)) fun z => by
    obtain ⟨hb, e⟩ := of_pinsAt z
    obtain ⟨f0, f1, f2, _⟩ := hf p.1 hb
    obtain ⟨o, e', d⟩ := ho p.1 hb
    rw [e] at e'; cases e'
    exact ⟨e, f0, f1, f2, d⟩
theorem Inv.unpinned {pins pl : List (Addr × Obj)} {σ : St} {H : Hp} {s : Shared} (I : Inv X (pins ++ pl) σ H s) : Inv X pins σ H s := I.pins_of fun p hp => I.pin p (List.mem_append_right _ (List.mem_append_left _ hp))
theorem ps_for {iter : Expr} {body : List Stmt} {wi : TI} {g : TG} {tb : TS} {pos : Pos} (hp : PassesOwn (model X.prog X.w) X.A X.env X.xe) (hc : X.calm = true) (hi : PI X tg iter wi) (hg : PG X tg g) (hb : PSs X body tb)
    (hs : ∀ x, foldedSetIterable iter X.env x = pure x := by intro _; rfl) : PS X (.For tg iter body [] pos) (tFor wi g tb) := by
  intro pins s σ H D I h
  refine wpAny_For (thn (hi pins s σ H _ I h) fun v s1 h1 => thn h1 fun itv s2 h2 => ?_) hs
  obtain ⟨it, fp, tn, J, H2, e, I2, T, st2, f2, W, ⟨m0, w0⟩, turn⟩ := h2
  subst e
  -- what stays true of the iterator's objects through the loop
  have stat : ∀ {H' : Hp}, (∀ b ∈ fp, H' b = none) → ∀ b ∈ fp, FpOk X pins H' b := fun hn b hb => ⟨hn b hb, (f2 b hb).2⟩
  refine codeAny_forLoop_any (fun n s' => ∃ i σ' H', Inv X pins σ' H' s' ∧ tn i s'.heap ∧ (∀ b ∈ fp, H' b = none) ∧ W i n σ' H') ?_ m0 ⟨0, σ, H2, I2, st2, fun b hb => (f2 b hb).1, w0⟩
  rintro n s3 ⟨i, σ3, H3, I3, st3, fr3, w3⟩
  rcases turn i n σ3 H3 w3 with ⟨stop, qn⟩ | ⟨go, N, hN, step⟩
  · refine wpAny_passesOwn hp (thn (T.done X rfl rfl rfl hc i pins s3 σ3 H3 X.xe I3 (stat fr3) st3 stop) fun r s4 ⟨hr, I4⟩ => ?_)
    subst hr
    exact wpAny_execs_nil ⟨σ3, H3, I4, qn⟩
  · refine wpAny_passesOwn hp (thn (T.item X rfl rfl rfl hc i pins s3 σ3 H3 X.xe I3 (stat fr3) st3 go) fun r s4 ⟨u, hr, h4⟩ => ?_)
    subst hr
    refine wpAny_passesOwn hp (thn h4 fun _ s5 ⟨x, H5, I5, r5, y5, st5, fr5⟩ => ?_)
    have I5' := I5.pinned (stat fr5) (T.obj _ _ st5)
    refine wpAny_passesOwn hp (thn (hg _ s5 σ3 H5 x u _ I5' r5 (step x H5 y5)) fun _ s6 ⟨σ6, H6, I6, q6⟩ => ?_)
    refine wpAny_passesOwn hp (thn (hb _ s6 σ6 H6 _ I6 q6) fun f s7 q7 => ?_)
    have again : ∀ {σ7 : St} {H7 : Hp}, Inv X (pins ++ pinsAt fp s5.heap) σ7 H7 s7 → N σ7 H7 → ∃ m, m < n ∧ ∃ i σ' H', Inv X pins σ' H' s7 ∧ tn i s7.heap ∧ (∀ b ∈ fp, H' b = none) ∧ W i m σ' H' := fun {σ7 H7} I7 n7 => by
      obtain ⟨m', hm, w7⟩ := hN σ7 H7 n7
      refine ⟨m', hm, i + 1, σ7, H7, I7.unpinned, T.keep _ _ _ st5 fun b hb o e => (I7.pin (b, o) (List.mem_append_right _ (List.mem_append_right _ (mem_pinsAt hb e)))).1, fun b hb => ?_, w7⟩
      obtain ⟨o, e, d⟩ := T.obj _ _ st5 b hb
      exact (I7.pin (b, o) (List.mem_append_right _ (List.mem_append_right _ (mem_pinsAt hb e)))).2.1
    cases f with
    | next => obtain ⟨σ7, H7, I7, n7⟩ := q7; exact again I7 n7
    | cont => obtain ⟨σ7, H7, I7, n7⟩ := q7; exact again I7 n7
    | brk => obtain ⟨σ7, H7, I7, q7⟩ := q7; exact ⟨σ7, H7, I7.unpinned, q7⟩
    | ret v => obtain ⟨x7, σ7, H7, I7, r7, q7⟩ := q7; exact ⟨x7, σ7, H7, I7.unpinned, r7, q7⟩
end

theorem for_range {lo : Int} {n : Nat} {g : TG} {tb : TS} {D : Ends} {σ : St} {H : Hp} (Pv : Nat → St → Hp → Prop) (h0 : Pv 0 σ H)
    (hs : ∀ i σ H, i < n → Pv i σ H → g (.int (lo + i)) σ H fun σ2 H2 => tb { D with nx := Pv (i + 1), ct := Pv (i + 1), bk := D.nx } σ2 H2) (hd : ∀ σ H, Pv n σ H → D.nx σ H) :
    ∃ W : Nat → Nat → St → Hp → Prop, (∃ m, W 0 m σ H) ∧ ∀ i m σ H, W i m σ H →
      ((Itr lo n).stop i H ∧ D.nx σ H) ∨ ((Itr lo n).go i H ∧ ∃ N : St → Hp → Prop, (∀ σ' H', N σ' H' → ∃ m', m' < m ∧ W (i + 1) m' σ' H') ∧ ∀ x H', (Itr lo n).yld i H x H' → g x σ H' fun σ2 H2 => tb { D with nx := N, ct := N, bk := D.nx } σ2 H2) := by
  refine ⟨fun i m σ H => m = n - i ∧ i ≤ n ∧ Pv i σ H, ⟨n, by simp, Nat.zero_le _, h0⟩, ?_⟩
  rintro i m σ H ⟨rfl, hi, p⟩
  by_cases hlt : i < n
  · refine .inr ⟨hlt, Pv (i + 1), fun σ' H' p' => ⟨n - (i + 1), by omega, rfl, hlt, p'⟩, fun x H' y => ?_⟩
    obtain ⟨e, y⟩ := y
    subst e y
    exact hs i σ _ hlt p
  · have e : i = n := by omega
    subst e
    exact .inl ⟨Nat.le_refl _, hd σ H p⟩
end L2

namespace L2
open PySem PySem.Spec PyProof.Rows

abbrev R2 := V → V → Hp → VK → Prop
def OpR (X : Cx) (f : Value → Value → Sem Value) (r : R2) : Prop :=
  ∀ (pins : List (Addr × Obj)) (s : Shared) (σ : St) (H : Hp) (x y : V) (v u : Value) (Q : VK), Inv X pins σ H s → RelV x v → RelV y u → r x y H Q →
    wpAny (model X.prog X.w) X.A (f v u) (EP X pins σ Q) X.xe s
def UnR (X : Cx) (f : Value → Sem Value) (r : V → Hp → VK → Prop) : Prop :=
  ∀ (pins : List (Addr × Obj)) (s : Shared) (σ : St) (H : Hp) (x : V) (v : Value) (Q : VK), Inv X pins σ H s → RelV x v → r x H Q →
    wpAny (model X.prog X.w) X.A (f v) (EP X pins σ Q) X.xe s
def CallR (X : Cx) (f : Value) (r : List V → Hp → VK → Prop) : Prop :=
  ∀ (pins : List (Addr × Obj)) (s : Shared) (σ : St) (H : Hp) (xs : List V) (us : List Value) (Q : VK), Inv X pins σ H s → Vals xs us → r xs H Q →
    wpAny (model X.prog X.w) X.A (call f us) (EP X pins σ Q) X.xe s
def tOp (r : R2) (ta tb : TE) : TE := fun σ H Q => ta σ H fun x H1 => tb σ H1 fun y H2 => r x y H2 Q
def tUn (r : V → Hp → VK → Prop) (ta : TE) : TE := fun σ H Q => ta σ H fun x H1 => r x H1 Q
def rI (C : Int → Int → Prop) (g : Int → Int → V) : R2 := fun x y H Q => ∃ i j, x = .int i ∧ y = .int j ∧ C i j ∧ Q (g i j) H
def rI0 (g : Int → Int → V) : R2 := fun x y H Q => ∃ i j, x = .int i ∧ y = .int j ∧ Q (g i j) H
def rU (g : Int → V) : V → Hp → VK → Prop := fun x H Q => ∃ i, x = .int i ∧ Q (g i) H

section
variable {X : Cx} {a b c : Expr} {ta tb tc : TE} {pos : Pos}

theorem binT (ha : PE X a ta) (hb : PE X b tb) {pins : List (Addr × Obj)} {s : Shared} {σ : St} {H : Hp} {R : V → V → Hp → Prop} (I : Inv X pins σ H s)
    (h : ta σ H fun x H1 => tb σ H1 fun y H2 => R x y H2) {Q : Value → Shared → Prop} {f : Value → Value → Sem Value}
    (hf : ∀ v u s2 x y H2, Inv X pins σ H2 s2 → RelV x v → RelV y u → R x y H2 → wpAny (model X.prog X.w) X.A (f v u) Q X.xe s2) :
    wpAny (model X.prog X.w) X.A (eval a X.env) (fun v s₁ => wpAny (model X.prog X.w) X.A (eval b X.env) (fun u s₂ => wpAny (model X.prog X.w) X.A (f v u) Q X.xe s₂) X.xe s₁) X.xe s := by
  refine thn (ha pins s σ H _ I h) fun v s1 ⟨x, H1, I1, r1, q1⟩ => ?_
  refine thn (hb pins s1 σ H1 _ I1 q1) fun u s2 ⟨y, H2, I2, r2, q2⟩ => ?_
  exact hf v u s2 x y H2 I2 r1 r2 q2

theorem pe_op {op : Operator} {r : R2} (ho : OpR X (binaryOp op) r) (ha : PE X a ta) (hb : PE X b tb) : PE X (.BinOp a op b pos) (tOp r ta tb) := by
  intro pins s σ H Q I h
  exact wpAny_BinOp (binT ha hb I h fun v u s2 x y H2 I2 rx ry q => ho pins s2 σ H2 x y v u Q I2 rx ry q)
theorem pe_un {op : UnaryOp} {r : V → Hp → VK → Prop} (ho : UnR X (unaryOp op) r) (ha : PE X a ta) : PE X (.UnaryOp op a pos) (tUn r ta) := by
  intro pins s σ H Q I h
  exact UnaryOp_ (thn (ha pins s σ H _ I h) fun v s1 ⟨x, H1, I1, r1, q1⟩ => ho pins s1 σ H1 x v Q I1 r1 q1)
theorem opI {f : Value → Value → Sem Value} {C : Int → Int → Prop} {g : Int → Int → Int}
    (rule : ∀ (i j : Int) (t u : Tok) (s : Shared) (Q : Value → Shared → Prop) (E : Value → Shared → Prop), C i j → Q (.int (g i j) s.toks) { s with toks := s.toks + 1 } → wpAny (model X.prog X.w) X.A (f (.int i t) (.int j u)) Q E s) :
    OpR X f (rI C fun i j => .int (g i j)) := by
  intro pins s σ H x y v u Q I rx ry h
  obtain ⟨i, j, rfl, rfl, hc, q⟩ := h
  obtain ⟨t, rfl⟩ := rx
  obtain ⟨t', rfl⟩ := ry
  exact rule i j t t' s _ _ hc ⟨.int (g i j), H, I.tok _, ⟨_, rfl⟩, q⟩
theorem opI0 {f : Value → Value → Sem Value} {g : Int → Int → Int}
    (rule : ∀ (i j : Int) (t u : Tok) (s : Shared) (Q : Value → Shared → Prop) (E : Value → Shared → Prop), Q (.int (g i j) s.toks) { s with toks := s.toks + 1 } → wpAny (model X.prog X.w) X.A (f (.int i t) (.int j u)) Q E s) :
    OpR X f (rI0 fun i j => .int (g i j)) := by
  intro pins s σ H x y v u Q I rx ry h
  obtain ⟨i, j, rfl, rfl, q⟩ := h
  obtain ⟨t, rfl⟩ := rx
  obtain ⟨t', rfl⟩ := ry
  exact rule i j t t' s _ _ ⟨.int (g i j), H, I.tok _, ⟨_, rfl⟩, q⟩
theorem opB0 {f : Value → Value → Sem Value} {g : Int → Int → Bool}
    (rule : ∀ (i j : Int) (t u : Tok) (s : Shared) (Q : Value → Shared → Prop) (E : Value → Shared → Prop), Q (.bool (g i j)) s → wpAny (model X.prog X.w) X.A (f (.int i t) (.int j u)) Q E s) :
    OpR X f (rI0 fun i j => .bl (g i j)) := by
  intro pins s σ H x y v u Q I rx ry h
  obtain ⟨i, j, rfl, rfl, q⟩ := h
  obtain ⟨t, rfl⟩ := rx
  obtain ⟨t', rfl⟩ := ry
  exact rule i j t t' s _ _ ⟨.bl (g i j), H, I, rfl, q⟩

def CPow (i j : Int) : Prop := 0 ≤ j ∧ j ≤ 1000000 ∧ i.natAbs < 2 ^ 64
theorem op_add : OpR X (binaryOp .Add) (rI0 fun i j => .int (i + j)) := opI0 fun _ _ _ _ _ _ _ q => add_int q
theorem op_sub : OpR X (binaryOp .Sub) (rI0 fun i j => .int (i - j)) := opI0 fun _ _ _ _ _ _ _ q => sub_int q
theorem op_mod : OpR X (binaryOp .Mod) (rI (fun _ j => 0 < j) fun i j => .int (i % j)) := opI fun i j _ _ _ _ _ hc q => by
  have h1 : (0 : Int) < j := hc
  exact mod_int' (by omega) (by rw [Int.fmod_eq_emod_of_nonneg i (by omega)]; exact q)
theorem op_pow : OpR X (binaryOp .Pow) (rI CPow fun i j => .int (i ^ j.toNat)) := opI fun _ _ _ _ _ _ _ hc q => pow_int_small hc.1 hc.2.1 hc.2.2 q
theorem unI {f : Value → Sem Value} {g : Int → Int}
    (rule : ∀ (i : Int) (t : Tok) (s : Shared) (Q : Value → Shared → Prop) (E : Value → Shared → Prop), Q (.int (g i) s.toks) { s with toks := s.toks + 1 } → wpAny (model X.prog X.w) X.A (f (.int i t)) Q E s) :
    UnR X f (rU fun i => .int (g i)) := by
  intro pins s σ H x v Q I rx h
  obtain ⟨i, rfl, q⟩ := h
  obtain ⟨t, rfl⟩ := rx
  exact rule i t s _ _ ⟨.int (g i), H, I.tok _, ⟨_, rfl⟩, q⟩
theorem un_neg : UnR X (unaryOp .USub) (rU fun i => .int (-i)) := unI fun _ _ _ _ _ q => neg_int q
end

def scal : V → V → Bool
  | .non, .non => true | .non, .int _ => true | .int _, .non => true | .non, .bl _ => true | .bl _, .non => true | .non, .str _ => true | .str _, .non => true
  | .int _, .int _ => true | .bl _, .bl _ => true | .str _, .str _ => true | .byt _, .byt _ => true
  | .int _, .str _ => true | .str _, .int _ => true | .bl _, .str _ => true | .str _, .bl _ => true
  | _, _ => false
def rEq : R2 := fun x y H Q => scal x y = true ∧ Q (.bl (decide (x = y))) H
def rNe : R2 := fun x y H Q => scal x y = true ∧ Q (.bl (!decide (x = y))) H

theorem dec_int {i j : Int} : decide (V.int i = V.int j) = (i == j) := by
  rw [Bool.eq_iff_iff]
  simp
theorem dec_bl {i j : Bool} : decide (V.bl i = V.bl j) = (i == j) := by
  rw [Bool.eq_iff_iff]
  simp
theorem dec_str {i j : Str} : decide (V.str i = V.str j) = (i == j) := by
  rw [Bool.eq_iff_iff]
  simp
theorem dec_byt {i j : Array UInt8} : decide (V.byt i = V.byt j) = (i.toList == j.toList) := by
  rw [Bool.eq_iff_iff]
  cases i
  cases j
  simp

section
variable {X : Cx} {a b c : Expr} {ta tb tc : TE} {pos : Pos}
theorem fin_bl {pins : List (Addr × Obj)} {σ : St} {H : Hp} {s : Shared} {Q : VK} {k k' : Bool} (I : Inv X pins σ H s) (q : Q (.bl k) H) (e : k = k') : EP X pins σ Q (.bool k') s := by
  subst e
  exact ⟨.bl k, H, I, rfl, q⟩
theorem op_eq : OpR X (compareOp .Eq) rEq := by
  intro pins s σ H x y v u Q I rx ry h
  obtain ⟨hs, q⟩ := h
  cases x with
  | non =>
    cases rx
    cases y with
    | non => cases ry; exact PySem.EqNone.eq_none_none (fin_bl I q (by simp))
    | bl j => cases ry; exact PySem.EqNone.eq_none_bool (fin_bl I q (by simp))
    | int j => obtain ⟨t', rfl⟩ := ry; exact PySem.EqNone.eq_none_int (fin_bl I q (by simp))
    | str j => obtain ⟨t', rfl⟩ := ry; exact PySem.EqNone.eq_none_str (fin_bl I q (by simp))
    | _ => exact absurd (show false = true from hs) Bool.false_ne_true
  | bl i =>
    cases rx
    cases y with
    | non => cases ry; exact PySem.EqNone.eq_bool_none (fin_bl I q (by simp))
    | bl j => cases ry; exact eq_bool (fin_bl I q dec_bl)
    | str j => obtain ⟨t', rfl⟩ := ry; exact PySem.EqMixed.eq_bool_str (fin_bl I q (by simp))
    | _ => exact absurd (show false = true from hs) Bool.false_ne_true
  | int i =>
    obtain ⟨t, rfl⟩ := rx
    cases y with
    | non => cases ry; exact PySem.EqNone.eq_int_none (fin_bl I q (by simp))
    | int j => obtain ⟨t', rfl⟩ := ry; exact eq_int (fin_bl I q dec_int)
    | str j => obtain ⟨t', rfl⟩ := ry; exact PySem.EqMixed.eq_int_str (fin_bl I q (by simp))
    | _ => exact absurd (show false = true from hs) Bool.false_ne_true
  | str i =>
    obtain ⟨t, rfl⟩ := rx
    cases y with
    | non => cases ry; exact PySem.EqNone.eq_str_none (fin_bl I q (by simp))
    | bl j => cases ry; exact PySem.EqMixed.eq_str_bool (fin_bl I q (by simp))
    | int j => obtain ⟨t', rfl⟩ := ry; exact PySem.EqMixed.eq_str_int (fin_bl I q (by simp))
    | str j => obtain ⟨t', rfl⟩ := ry; exact eq_str (fin_bl I q dec_str)
    | _ => exact absurd (show false = true from hs) Bool.false_ne_true
  | byt i =>
    obtain ⟨t, rfl⟩ := rx
    cases y with
    | byt j => obtain ⟨t', rfl⟩ := ry; exact PySem.W.eq_bytes (fin_bl I q dec_byt)
    | _ => exact absurd (show false = true from hs) Bool.false_ne_true
  | _ => cases y <;> exact absurd (show false = true from hs) Bool.false_ne_true
theorem op_ne : OpR X (compareOp .NotEq) rNe := by
  intro pins s σ H x y v u Q I rx ry h
  obtain ⟨hs, q⟩ := h
  cases x with
  | non =>
    cases rx
    cases y with
    | non => cases ry; exact PySem.EqNone.ne_none_none (fin_bl I q (by simp))
    | bl j => cases ry; exact PySem.EqNone.ne_none_bool (fin_bl I q (by simp))
    | int j => obtain ⟨t', rfl⟩ := ry; exact PySem.EqNone.ne_none_int (fin_bl I q (by simp))
    | str j => obtain ⟨t', rfl⟩ := ry; exact PySem.EqNone.ne_none_str (fin_bl I q (by simp))
    | _ => exact absurd (show false = true from hs) Bool.false_ne_true
  | bl i =>
    cases rx
    cases y with
    | non => cases ry; exact PySem.EqNone.ne_bool_none (fin_bl I q (by simp))
    | bl j => cases ry; exact ne_bool (fin_bl I q (congrArg not dec_bl))
    | str j => obtain ⟨t', rfl⟩ := ry; exact PySem.EqMixed.ne_bool_str (fin_bl I q (by simp))
    | _ => exact absurd (show false = true from hs) Bool.false_ne_true
  | int i =>
    obtain ⟨t, rfl⟩ := rx
    cases y with
    | non => cases ry; exact PySem.EqNone.ne_int_none (fin_bl I q (by simp))
    | int j => obtain ⟨t', rfl⟩ := ry; exact ne_int (fin_bl I q (congrArg not dec_int))
    | str j => obtain ⟨t', rfl⟩ := ry; exact PySem.EqMixed.ne_int_str (fin_bl I q (by simp))
    | _ => exact absurd (show false = true from hs) Bool.false_ne_true
  | str i =>
    obtain ⟨t, rfl⟩ := rx
    cases y with
    | non => cases ry; exact PySem.EqNone.ne_str_none (fin_bl I q (by simp))
    | bl j => cases ry; exact PySem.EqMixed.ne_str_bool (fin_bl I q (by simp))
    | int j => obtain ⟨t', rfl⟩ := ry; exact PySem.EqMixed.ne_str_int (fin_bl I q (by simp))
    | str j => obtain ⟨t', rfl⟩ := ry; exact ne_str (fin_bl I q (congrArg not dec_str))
    | _ => exact absurd (show false = true from hs) Bool.false_ne_true
  | byt i =>
    obtain ⟨t, rfl⟩ := rx
    cases y with
    | byt j => obtain ⟨t', rfl⟩ := ry; exact PySem.W.ne_bytes (fin_bl I q (congrArg not dec_byt))
    | _ => exact absurd (show false = true from hs) Bool.false_ne_true
  | _ => cases y <;> exact absurd (show false = true from hs) Bool.false_ne_true

theorem op_lt : OpR X (compareOp .Lt) (rI0 fun i j => .bl (decide (i < j))) := opB0 fun _ _ _ _ _ _ _ q => lt_int q
theorem op_le : OpR X (compareOp .LtE) (rI0 fun i j => .bl (decide (i ≤ j))) := opB0 fun _ _ _ _ _ _ _ q => le_int q
theorem op_gt : OpR X (compareOp .Gt) (rI0 fun i j => .bl (decide (j < i))) := opB0 fun _ _ _ _ _ _ _ q => gt_int q
theorem op_ge : OpR X (compareOp .GtE) (rI0 fun i j => .bl (decide (j ≤ i))) := opB0 fun _ _ _ _ _ _ _ q => ge_int q
theorem op_isN : OpR X (compareOp .Is) (fun x y H Q => y = .non ∧ Q (.bl (decide (x = .non))) H) := by
  intro pins s σ H x y v u Q I rx ry h
  obtain ⟨rfl, q⟩ := h
  cases ry
  refine is_none_gen (fin_bl I q ?_)
  cases x <;> first
    | (cases rx; rfl)
    | (obtain ⟨t, rfl⟩ := rx; rfl)
theorem nomark (b : Expr) {op : CmpOp} (h : op ≠ .In := by decide) (h2 : op ≠ .NotIn := by decide) : behindInMarks op b = false := by
  have e1 : (op == CmpOp.In) = false := by cases op <;> first | rfl | exact absurd rfl h
  have e2 : (op == CmpOp.NotIn) = false := by cases op <;> first | rfl | exact absurd rfl h2
  cases b <;> simp [behindInMarks, e1, e2]
theorem pe_cmpR {op : CmpOp} {r : R2} (ho : OpR X (compareOp op) r) (ha : PE X a ta) (hb : PE X b tb) (hm : behindInMarks op b = false) : PE X (.Compare a [op] [b] pos) (tOp r ta tb) := by
  intro pins s σ H Q I h
  exact wpAny_Compare1 (binT ha hb I h fun v u s2 x y H2 I2 rx ry q => ho pins s2 σ H2 x y v u Q I2 rx ry q) hm
def tTest (t : TE) : TT := fun σ H Q => t σ H fun x H' => ∃ k, x = .bl k ∧ Q k H'
theorem pt_cmpR {op : CmpOp} {r : R2} (ho : OpR X (compareOp op) r) (ha : PE X a ta) (hb : PE X b tb) (hm : behindInMarks op b = false) : PT X (.Compare a [op] [b] pos) (tTest (tOp r ta tb)) := by
  intro pins s σ H Q I h
  refine wpAny_isTrue_Compare1 (thn (ha pins s σ H _ I h) fun v s1 ⟨x, H1, I1, r1, q1⟩ => thn (hb pins s1 σ H1 _ I1 q1) fun u s2 ⟨y, H2, I2, r2, q2⟩ =>
    thn (ho pins s2 σ H2 x y v u _ I2 r1 r2 q2) fun c s3 ⟨z, H3, I3, r3, k, e, q3⟩ => ?_) hm
  subst e
  cases r3
  exact wpAny_truthy_bool ⟨H3, I3, q3⟩
def tChain (r r' : R2) (ta tb tc : TE) : TE := fun σ H Q => ta σ H fun x H1 => tb σ H1 fun y H2 => r x y H2 fun z H3 => ∃ k, z = .bl k ∧
  (if k = true then tc σ H3 fun w' H4 => r' y w' H4 Q else Q (.bl false) H3)
theorem pt_chain {op op' : CmpOp} {r r' : R2} (ho : OpR X (compareOp op) r) (ho' : OpR X (compareOp op') r') (ha : PE X a ta) (hb : PE X b tb) (hc : PE X c tc)
    (hm : lastMarks [op, op'] [b, c] = false := by with_unfolding_all rfl) : PT X (.Compare a [op, op'] [b, c] pos) (tTest (tChain r r' ta tb tc)) := by
  intro pins s σ H Q I h
  refine isTrue_chain (thn (ha pins s σ H _ I h) fun v s1 ⟨x, H1, I1, r1, q1⟩ => test_link (thn (hb pins s1 σ H1 _ I1 q1) fun u s2 ⟨y, H2, I2, r2, q2⟩ =>
    thn (ho pins s2 σ H2 x y v u _ I2 r1 r2 q2) fun d s3 ⟨z, H3, I3, r3, k, e, q3⟩ => ?_)) hm
  subst e
  cases r3
  refine wpAny_truthy_bool ?_
  cases k with
  | false =>
    obtain ⟨k', e', q'⟩ := q3
    cases e'
    exact ite_ff ⟨H3, I3, q'⟩
  | true =>
    refine ite_tt (test_last (thn (hc pins s3 σ H3 _ I3 q3) fun w' s4 ⟨z', H4, I4, r4, q4⟩ => thn (ho' pins s4 σ H4 y z' u w' _ I4 r2 r4 q4) fun d' s5 ⟨z2, H5, I5, r5, k2, e2, q5⟩ => ?_))
    subst e2
    cases r5
    exact wpAny_truthy_bool ⟨H5, I5, q5⟩

theorem line63 : (sizeLine : Nat) < 2 ^ 63 := by rw [sizeLine_eq]; decide
theorem op_add_str : OpR X (binaryOp .Add) (fun x y H Q => ∃ i j, x = .str i ∧ y = .str j ∧ i.length + j.length ≤ sizeLine ∧ Q (.str (i ++ j)) H) := by
  intro pins s σ H x y v u Q I rx ry h
  obtain ⟨i, j, rfl, rfl, hz, q⟩ := h
  obtain ⟨t, rfl⟩ := rx
  obtain ⟨t', rfl⟩ := ry
  exact add_str (fun t' tk => ⟨.str (i ++ j), H, I.tok _, ⟨_, rfl⟩, q⟩) hz
theorem vals1 {x : V} {us : List Value} (r : Vals [x] us) : ∃ u, us = [u] ∧ RelV x u := by
  cases r with
  | cons r1 r2 => cases r2; exact ⟨_, rfl, r1⟩
theorem vals2 {x y : V} {us : List Value} (r : Vals [x, y] us) : ∃ u w', us = [u, w'] ∧ RelV x u ∧ RelV y w' := by
  cases r with
  | cons r1 r2 =>
    cases r2 with
    | cons r3 r4 => cases r4; exact ⟨_, _, rfl, r1, r3⟩
theorem call_max2 (hc : X.calm = true) : CallR X (.builtin "max") (fun xs H Q => ∃ i j, xs = [.int i, .int j] ∧ Q (.int (if j > i then j else i)) H) := by
  intro pins s σ H xs us Q I r h
  obtain ⟨i, j, rfl, q⟩ := h
  obtain ⟨u, w', rfl, ⟨t, rfl⟩, ⟨t', rfl⟩⟩ := vals2 r
  refine max_two_ints (I.ok.hd hc) fun h' tk k => ⟨_, H, I.kept k, ?_, q⟩
  by_cases hj : j > i
  · rw [if_pos hj, if_pos hj]; exact ⟨_, rfl⟩
  · rw [if_neg hj, if_neg hj]; exact ⟨_, rfl⟩
theorem call_min2 (hc : X.calm = true) : CallR X (.builtin "min") (fun xs H Q => ∃ i j, xs = [.int i, .int j] ∧ Q (.int (if j < i then j else i)) H) := by
  intro pins s σ H xs us Q I r h
  obtain ⟨i, j, rfl, q⟩ := h
  obtain ⟨u, w', rfl, ⟨t, rfl⟩, ⟨t', rfl⟩⟩ := vals2 r
  refine min_two_ints (I.ok.hd hc) fun h' tk k => ⟨_, H, I.kept k, ?_, q⟩
  by_cases hj : j < i
  · rw [if_pos hj, if_pos hj]; exact ⟨_, rfl⟩
  · rw [if_neg hj, if_neg hj]; exact ⟨_, rfl⟩
theorem call_str_int : CallR X (.type "str") (fun xs H Q => ∃ i, xs = [.int i] ∧ i.natAbs.log2 < 1920 ∧ Q (.str (toString i)) H) := by
  intro pins s σ H xs us Q I r h
  obtain ⟨i, rfl, hz, q⟩ := h
  obtain ⟨u, rfl, t, rfl⟩ := vals1 r
  exact PySem.P.str_of_int hz ⟨.str _, H, I.tok _, ⟨_, rfl⟩, q⟩
end
end L2

namespace L2
open PySem PySem.Spec PyProof.Rows

structure ObjM (h : Heap) (x dx C : Addr) (mA : Str → Option Value) : Prop where
  obj : h.get? x = some (PySem.W.instObj C dx)
  ns : h.Ns1 dx mA
  ne : dx ≠ x

theorem lookIn_ns {h : Heap} {dx : Addr} {mA : Str → Option Value} (n : h.Ns1 dx mA) : ∃ od, h.get? dx = some od ∧ ∀ name, PySem.W.lookIn name od = some (mA name) := by
  obtain ⟨o, es, ep, ho, hd, hk, _, hm⟩ := n
  refine ⟨o, ho, fun name => ?_⟩
  have e := hm name
  unfold nsFind findBy at e
  rw [← Array.find?_toList] at e
  unfold PySem.W.lookIn
  rw [hd]
  dsimp only
  split
  · rename_i y q
    rw [q] at e
    exact congrArg some e
  · rename_i q
    rw [q] at e
    have a : es.toList.any (·.refKey) = false := by
      rw [List.any_eq_false]
      intro y hy
      obtain ⟨z, t, hkey⟩ := hk y (Array.mem_toList_iff.mp hy)
      simp [DictEntry.refKey, hkey]
    have a' : ¬ es.toList.any (·.refKey) = true := by rw [a]; exact Bool.false_ne_true
    rw [if_neg a']
    exact congrArg some e

theorem ObjM.look {h : Heap} {x dx C : Addr} {mA : Str → Option Value} (I : ObjM h x dx C mA) : ∃ od, PySem.W.InstAt h x (PySem.W.instObj C dx) C (some od) ∧ ∀ name, PySem.W.lookIn name od = some (mA name) :=
  let ⟨od, ho, hl⟩ := lookIn_ns I.ns
  ⟨od, ⟨I.obj, rfl, rfl, ho⟩, hl⟩

section
variable {prog : Program} {w : World} {A : Around} {E : Value → Shared → Prop} {s : Shared} {K : PySem.W.Frag} {x dx C f : Addr} {mA : Str → Option Value} {name : Str} {v : Value}

end

theorem RelO.some_of {v : V} {o : Option Value} (r : RelO (some v) o) : ∃ u, o = some u ∧ RelV v u := by
  cases o with
  | none => exact (show False from r).elim
  | some u => exact ⟨u, rfl, r⟩
section
variable {P : Program} {w : World} {H H' : Hp} {h h' : Heap} {a C dx : Addr} {fs fs' : List (Str × V)}
end

structure Cls (K : PySem.W.Frag) (C : Addr) : Prop where
  pg : PySem.W.plainGet K C Str.empty = true
  hd : PySem.W.hasDictIn K C = true
  po : PySem.W.plainOver K C = true
  sa : PySem.W.findIn K (.ref C) "__setattr__" = some (some (.builtin "object.__setattr__"))
theorem Cls.get {K : PySem.W.Frag} {C : Addr} (c : Cls K C) (f : Str) : PySem.W.plainGet K C f = true := c.pg
structure Con (K : PySem.W.Frag) (C : Addr) (f : Str) (v : V) (u : Value) : Prop where
  at_ : PySem.W.findIn K (.ref C) f = some (some u)
  rel : RelV v u
  get : PySem.W.specialIn K u "__get__" = some none
  cp : PySem.W.copiedNames.contains f = false
structure Meth (K : PySem.W.Frag) (C : Addr) (m : Str) (f : Addr) : Prop where
  at_ : PySem.W.findIn K (.ref C) m = some (some (.ref f))
  fn : PySem.W.isFn K (.ref f) = true
  kp : PySem.W.keepIn K (.ref f) = true

section
variable {X : Cx} {pins : List (Addr × Obj)} {σ : St} {H : Hp} {s : Shared} {a C dx : Addr} {fs : List (Str × V)} {f : Str} {v : V} {A : Around} {E : Value → Shared → Prop}

theorem Inv.made (I : Inv X pins σ H s) : Inv X pins σ (upd (upd H s.heap.objs.size (.own (s.heap.objs.size + 1))) (s.heap.objs.size + 1) (.ins C s.heap.objs.size []))
    { s with heap := (s.heap.push PySem.W.emptyDict).push (PySem.W.instObj C s.heap.objs.size) } := by
  have e1 : (s.heap.push PySem.W.emptyDict).get? s.heap.objs.size = some PySem.W.emptyDict := Heap.get?_push_size s.heap rfl
  have e2 : ((s.heap.push PySem.W.emptyDict).push (PySem.W.instObj C s.heap.objs.size)).get? (s.heap.objs.size + 1) = some (PySem.W.instObj C s.heap.objs.size) := by
    have := Heap.get?_push_size (s.heap.push PySem.W.emptyDict) (o := PySem.W.instObj C s.heap.objs.size) rfl
    rwa [Heap.size_push] at this
  have e3 : (s.heap.push PySem.W.emptyDict).Ns s.heap.objs.size (fun _ => none) := ⟨PySem.W.emptyDict, #[], _, e1, rfl, (fun e he => absurd he (by simp)), fun _ => rfl⟩
  have I1 := I.laid (a := s.heap.objs.size) (o := .own (s.heap.objs.size + 1)) (h' := s.heap.push PySem.W.emptyDict) (t' := s.toks) (fun b u q => Heap.get?_push_of_some _ q) (Nat.le_refl _) ⟨_, e1⟩
  refine I1.laid (a := s.heap.objs.size + 1) (o := .ins C s.heap.objs.size []) (t' := s.toks) (fun b u q => Heap.get?_push_of_some _ q) (Nat.le_of_eq (Heap.size_push _ _)) ?_
  have ne : s.heap.objs.size ≠ s.heap.objs.size + 1 := Nat.ne_of_lt (Nat.lt_succ_self _)
  refine ⟨by rw [upd_ne ne, upd_same], Nat.zero_le _, ne, e2, fun _ => none, (Heap.Ns1.of_empty e3).at fun o q => Heap.get?_push_of_some _ q, fun _ => True.intro, fun y hy => absurd rfl hy⟩

end

section
variable {X : Cx} {o e value : Expr} {f : Str} {pos pos' tpos : Pos} {ta tv : TE}
end

section
variable {X : Cx} {pins : List (Addr × Obj)} {σ : St} {H : Hp} {s : Shared} {A : Around} {E : Value → Shared → Prop} {Q : Value → Shared → Prop} {c : Value} {b : Bool}
inductive TyOf (K : PySem.W.Frag) (H : Hp) : V → Value → Prop where
  | non : TyOf K H .non (.type "NoneType")
  | bl (x : Bool) : TyOf K H (.bl x) (.type "bool")
  | int (i : Int) : TyOf K H (.int i) (.type "int")
  | str (x : Str) : TyOf K H (.str x) (.type "str")
  | flt (x : UInt64) : TyOf K H (.flt x) (.type "float")
  | lst {a : Addr} {xs : List V} (e : H a = some (.lst xs)) : TyOf K H (.ref a) (.type "list")
  | frz {a : Addr} {o : Obj} {xs : List V} (e : H a = some (.frz o (.lst xs))) : TyOf K H (.ref a) (.type "list")
  | tup {a : Addr} {xs : List V} (e : H a = some (.tup xs)) : TyOf K H (.ref a) (.type "tuple")
  | dK {a : Addr} {kvs : List (Key × V)} (e : H a = some (.dK kvs)) : TyOf K H (.ref a) (.type "dict")
  | dT {a : Addr} {kvs : List (List Key × V)} (e : H a = some (.dT kvs)) : TyOf K H (.ref a) (.type "dict")
  | ins {a C dx : Addr} {fs : List (Str × V)} (e : H a = some (.ins C dx fs)) (cl : Cls K C) (ha : PySem.W.findIn K (.ref C) "__class__" = some (some (.builtin "object.__class__")))
      (hn : PySem.W.specialIn K (.builtin "object.__class__") "__get__" = some (some (.builtin "getset_descriptor.__get__"))) (htk : PySem.W.takesIn K (.builtin "object.__class__") = some true)
      (hm : PySem.W.mroIn K C (.type "object") = some true) : TyOf K H (.ref a) (.ref C)
end
end L2

namespace L2
open PySem PySem.Spec PyProof.Rows

structure Room (k : Nat) (A : Around) : Prop where
  hd : A.handled = none
  dp : A.depth + 3 * k + 5 < recursionLimit
  un : A.units + 16 * k + 200 < cLine
theorem Room.mono {j k : Nat} {A : Around} (r : Room k A) (h : j ≤ k) : Room j A := ⟨r.hd, by have := r.dp; omega, by have := r.un; omega⟩
theorem Room.deeper {k : Nat} {A : Around} (r : Room (k + 1) A) (env : Env) : Room k (A.deeper env) :=
  ⟨r.hd, by have := r.dp; show A.depth + 1 + 3 * k + 5 < _; omega, by have := r.un; show A.units + 3 + 16 * k + 200 < _; omega⟩
theorem Room.in1 {k : Nat} {A : Around} (r : Room (k + 1) A) : Room k A.in1 :=
  ⟨r.hd, by have := r.dp; show A.depth + 3 * k + 5 < _; omega, by have := r.un; show A.units + 1 + 16 * k + 200 < _; omega⟩
theorem make_depth {A : Around} {C : Addr} {us : List Value} {kw : List (Str × Value)} : (A.under (.builtin "type.__call__" ⟨.ref C :: us, kw⟩)).depth = A.depth + 1 := by
  first | rfl | simp [Around.under, Code.weight, Code.isCreation, Code.isGuard, Code.isCaller, Code.frames, Code.isFrame, guardIds]
theorem make_units {A : Around} {C : Addr} {us : List Value} {kw : List (Str × Value)} : (A.under (.builtin "type.__call__" ⟨.ref C :: us, kw⟩)).units = A.units + 1 := by
  first | rfl | simp [Around.under, Code.cUnits, Code.frames, Code.isFrame]
theorem Room.make {k : Nat} {A : Around} (r : Room (k + 1) A) (C : Addr) (us : List Value) (kw : List (Str × Value)) : Room k (A.under (.builtin "type.__call__" ⟨.ref C :: us, kw⟩)) :=
  ⟨r.hd, by have := r.dp; rw [make_depth]; omega, by have := r.un; rw [make_units]; omega⟩
theorem Room.depth {k : Nat} {A : Around} (r : Room k A) : A.depth < recursionLimit := by have := r.dp; omega
theorem Room.units {k : Nat} {A : Around} (r : Room k A) : A.units + 64 < cLine := by have := r.un; omega
def tNil : TA := fun _ H Q => Q [] H
def tCons (ta : TE) (tr : TA) : TA := fun σ H Q => ta σ H fun x H1 => tr σ H1 fun xs H2 => Q (x :: xs) H2
section
variable {X : Cx} {e : Expr} {es : List Expr} {te : TE} {t : TA} {pos : Pos}
theorem pa_nil : PA X [] tNil := fun _ _ _ _ H Q I h => Calls.spliced_nil ⟨[], H, I, .nil, h⟩
theorem pa_cons (ha : PE X e te) (hr : PA X es t) (hs : starEach (e :: es) X.env = (false, eval e X.env) :: starEach es X.env := by rfl) : PA X (e :: es) (tCons te t) := by
  intro pos pins s σ H Q I h
  rw [hs]
  show wpAny _ _ (spliced ((false, eval e X.env) :: backTo pos (starEach es X.env))) _ _ s
  refine Calls.spliced_cons (thn (ha pins s σ H _ I h) fun u s1 ⟨x, H1, I1, r1, q1⟩ => ?_)
  exact thn (hr pos pins s1 σ H1 _ I1 q1) fun us s2 ⟨xs, H2, I2, r2, q2⟩ => ⟨x :: xs, H2, I2, .cons r1 r2, q2⟩

def tTup (t : TA) : TE := fun σ H Q => t σ H fun xs H1 => xs.length ≤ sizeLine ∧ ∀ p, H1 p = none → Q (.ref p) (upd H1 p (.tup xs))
def tLst (t : TA) : TE := fun σ H Q => t σ H fun xs H1 => xs.length ≤ sizeLine ∧ ∀ p, H1 p = none → Q (.ref p) (upd H1 p (.lst xs))
theorem pe_tup {x1} (h : PA X es t) : PE X (.Tuple es x1 pos) (tTup t) := by
  intro pins s σ H Q I hq
  refine wpAny_Tuple_spliced (thn (h pos pins s σ H _ I hq) fun us s1 ⟨xs, H1, I1, r, z, q⟩ => ⟨by rw [← r.length]; exact z, ?_⟩)
  have hf : H1 s1.heap.objs.size = none := I1.hok.fresh (Nat.le_refl _)
  refine ⟨.ref s1.heap.objs.size, upd H1 s1.heap.objs.size (.tup xs), I1.laid (t' := s1.toks) (fun b u e => Heap.get?_push_of_some _ e) (Nat.le_refl _) ?_, rfl, q _ hf⟩
  exact ⟨z, us, r, ⟨_, Heap.get?_push_size _ rfl, rfl, _, rfl⟩, _, Heap.get?_push_size _ rfl, rfl⟩
theorem pe_lst (h : PA X es t) : PE X (.List es pos) (tLst t) := by
  intro pins s σ H Q I hq
  refine wpAny_List_spliced (thn (h pos pins s σ H _ I hq) fun us s1 ⟨xs, H1, I1, r, z, q⟩ => ⟨by rw [← r.length]; exact z, ?_⟩)
  have hf : H1 s1.heap.objs.size = none := I1.hok.fresh (Nat.le_refl _)
  refine ⟨.ref s1.heap.objs.size, upd H1 s1.heap.objs.size (.lst xs), I1.laid (t' := s1.toks) (fun b u e => Heap.get?_push_of_some _ e) (Nat.le_refl _) ?_, rfl, q _ hf⟩
  exact ⟨z, us, 0, r, Heap.get?_push_size _ rfl⟩
end

abbrev Sp := List V → Hp → VK → XK → Prop
abbrev CXT := List Env → Hp → Shared → XK → Value → Shared → Prop

structure Env0 (P : Program) (w : World) (K : PySem.W.Frag) (mg : Str → Option Value) (base : Heap) (A : Around) (outer : List Env) (s : Shared) (H : Hp) : Prop where
  frames : A.frames = some outer
  mod : Mod K mg base
  bs : ∀ b o, base.get? b = some o → s.heap.get? b = some o ∧ H b = none
  bsz : base.objs.size ≤ s.heap.objs.size
  funs : s.heap.FunFrames base outer
  frf : ∀ b ∈ frs outer, H b = none
  hok : HOk P w H s.heap
  bare : AllBare s.gens
def CE (outer : List Env) (P : Program) (w : World) (H : Hp) (s : Shared) (Q : VK) (u : Value) (s' : Shared) : Prop :=
  ∃ v H', s'.os = s.os ∧ AllBare s'.gens ∧ Un (frs outer) [] H H' s.heap s'.heap ∧ HOk P w H' s'.heap ∧ RelV v u ∧ Q v H'
def CR (CX : CXT) (outer : List Env) (P : Program) (w : World) (H : Hp) (s : Shared) (Q : VK) (E : XK) (r : Result) (s' : Shared) : Prop :=
  match r with
  | .ok (.ret u) => CE outer P w H s Q u s'
  | .ok _ => False
  | .error e => CX outer H s E e s'
structure FnOk (P : Program) (w : World) (K : PySem.W.Frag) (mg : Str → Option Value) (base : Heap) (CX : CXT) (k : Nat) (f : Addr) (fd : FuncData) (ps : List Str) (sp : Sp) : Prop where
  len : ∀ vs H Q E, sp vs H Q E → vs.length = ps.length
  run : ∀ (A : Around) (outer : List Env) (s : Shared) (H : Hp) (args : Args) (us : List Value) (vs : List V) (Q : VK) (E : XK), Room k A → Env0 P w K mg base A outer s H → BindsTo s fd args (ps.zip us) → Vals vs us → sp vs H Q E →
    codeAny (model P w) A (.call (.ref f) args) (CR CX outer P w H s Q E) s
theorem FnOk.mono {P : Program} {w : World} {K : PySem.W.Frag} {mg : Str → Option Value} {base : Heap} {CX : CXT} {j k : Nat} {f : Addr} {fd : FuncData} {ps : List Str} {sp : Sp} (F : FnOk P w K mg base CX j f fd ps sp) (h : j ≤ k) :
    FnOk P w K mg base CX k f fd ps sp := ⟨F.len, fun A outer s H args us vs Q E hr => F.run A outer s H args us vs Q E (hr.mono h)⟩
theorem Env0.make {P : Program} {w : World} {K : PySem.W.Frag} {mg : Str → Option Value} {base : Heap} {A : Around} {outer : List Env} {s : Shared} {H : Hp} (e : Env0 P w K mg base A outer s H) (C : Addr) (us : List Value) (kw : List (Str × Value)) :
    Env0 P w K mg base (A.under (.builtin "type.__call__" ⟨.ref C :: us, kw⟩)) outer s H := ⟨by first | exact e.frames | (simpa [Around.under, Code.envs, Code.isFrame, pushEnvs] using e.frames), e.mod, e.bs, e.bsz, e.funs, e.frf, e.hok, e.bare⟩
theorem Env0.in1 {P : Program} {w : World} {K : PySem.W.Frag} {mg : Str → Option Value} {base : Heap} {A : Around} {outer : List Env} {s : Shared} {H : Hp} (e : Env0 P w K mg base A outer s H) :
    Env0 P w K mg base A.in1 outer s H := ⟨e.frames, e.mod, e.bs, e.bsz, e.funs, e.frf, e.hok, e.bare⟩

section
variable {X : Cx} {pins : List (Addr × Obj)} {σ : St} {H : Hp} {s s' : Shared}
theorem Inv.env0 (I : Inv X pins σ H s) : Env0 X.prog X.w X.K X.mg X.base X.A X.stack s H :=
  ⟨I.ok.frames, I.ok.mod, I.bs, Nat.le_trans I.ok.bsz I.sz, I.stack, I.stkFree, I.hok, I.bare⟩
theorem Inv.after {Q : VK} {u : Value} (I : Inv X pins σ H s) (h : CE X.stack X.prog X.w H s Q u s') : EP X pins σ Q u s' := by
  obtain ⟨v, H', os, bare, un, hok, r, q⟩ := h
  obtain ⟨hh, g, d, t, os'⟩ := s'
  obtain rfl : os' = s.os := os
  exact ⟨v, H', I.call (h' := hh) (g' := g) (d' := d) (t' := t) (ch := []) un hok bare (fun b z => absurd z (by simp)), r, q⟩
end

def tCall (sp : Sp) (dvs : List V) (E : XK) (t : TA) : TE := fun σ H Q => t σ H fun vs H1 => sp (vs ++ dvs) H1 Q E
def Binds (K : PySem.W.Frag) (fd : FuncData) (ps : List Str) (ds : List Value) : Prop :=
  ∀ (s : Shared) (us : List Value), K.In s.heap → (us ++ ds).length = ps.length → BindsTo s fd ⟨us, []⟩ (ps.zip (us ++ ds))
theorem Binds.all {K : PySem.W.Frag} {fd : FuncData} {ps : List Str} (h : ∀ us : List Value, us.length = ps.length → bindArgs fd ⟨us, []⟩ = pure (ps.zip us)) : Binds K fd ps [] := fun s us _ hl => by
  rw [List.append_nil] at hl ⊢
  exact .of_eq (h us hl)

def Passes (CX : CXT) (X : Cx) (E : XK) : Prop := ∀ (pins : List (Addr × Obj)) (σ : St) (H : Hp) (s : Shared) (e : Value) (s' : Shared), Inv X pins σ H s → CX X.stack H s E e s' → X.xe e s'

section
variable {X : Cx} {CX : CXT} {k : Nat} {f C : Addr} {fd : FuncData} {ps : List Str} {sp : Sp} {dvs : List V} {ds : List Value} {E : XK} {x m : Str} {p pos apos : Pos} {e o : Expr} {es : List Expr} {ta : TE} {t : TA}

theorem run_fn {pins : List (Addr × Obj)} {σ : St} {H : Hp} {s : Shared} {Q : VK} {us : List Value} {vs : List V} (F : FnOk X.prog X.w X.K X.mg X.base CX k f fd ps sp) (hr : Room k X.A) (hb : Binds X.K fd ps ds) (hd : Vals dvs ds) (hx : Passes CX X E)
    (I : Inv X pins σ H s) (r : Vals vs us) (h : sp (vs ++ dvs) H Q E) : wpAny (model X.prog X.w) X.A (call (.ref f) us) (EP X pins σ Q) X.xe s := by
  have r2 : Vals (vs ++ dvs) (us ++ ds) := r.append hd
  have hl : (us ++ ds).length = ps.length := by rw [← r2.length]; exact F.len _ _ _ _ h
  refine wpAny_call (codeAny_mono (F.run X.A X.stack s H ⟨us, []⟩ (us ++ ds) (vs ++ dvs) Q E hr I.env0 (hb s us I.kIn hl) r2 h) fun r s' hq => ?_)
  cases r with
  | error e => exact hx pins σ H s e s' I hq
  | ok fl =>
    cases fl with
    | ret u => exact I.after hq
    | next => exact False.elim hq
    | brk => exact False.elim hq
    | cont => exact False.elim hq

theorem pe_call (F : FnOk X.prog X.w X.K X.mg X.base CX k f fd ps sp) (hr : Room k X.A) (hg : Gl X x) (hm : X.mg x = some (.ref f)) (hk : PySem.W.keepIn X.K (.ref f) = true) (hb : Binds X.K fd ps ds) (hd : Vals dvs ds) (hx : Passes CX X E)
    (ha : PA X (e :: es) t) (hdb : (x == ("__debug__" : Str)) = false := by decide) (he : starEach (e :: es) X.env = (false, eval e X.env) :: starEach es X.env := by rfl) (hpl : (backTo pos (starEach es X.env)).any (·.1) = false := by rfl) :
    PE X (.Call (.Name x p) (e :: es) [] pos) (tCall sp dvs E t) := by
  intro pins s σ H Q I h
  refine wpAny_Call_Name_kw (ld_glob I hg hm ?_ hdb)
  refine PySem.W.callWith_K (h₀ := X.base) I.ok.mod.kin hk (thn (ha pos pins s σ H _ I h) fun us s1 ⟨vs, H1, I1, r, q⟩ => ⟨I1.kIn, ?_⟩) he hpl
  exact run_fn F hr hb hd hx I1 r q
structure Mk (K : PySem.W.Frag) (C f : Addr) : Prop where
  makes : PySem.W.makesIn K C = true
  init : PySem.W.findIn K (.ref C) "__init__" = some (some (.ref f))
  fn : PySem.W.isFn K (.ref f) = true
  kp : PySem.W.keepIn K (.ref C) = true

end

section
variable {X : Cx} {CX : CXT} {k : Nat} {f C : Addr} {fd : FuncData} {ps ks : List Str} {sp : Sp} {E : XK} {x m : Str} {p pos apos kpos : Pos} {e o : Expr} {es : List Expr} {kws : List Keyword} {te ta : TE} {t tk : TA} {nm : Option Str}
structure KBinds (K : PySem.W.Frag) (fd : FuncData) (ps ks : List Str) (g : List Value → List Value → List Value) (gV : List V → List V → List V) : Prop where
  to : ∀ (s : Shared) (us ws : List Value), K.In s.heap → (g us ws).length = ps.length → BindsTo s fd ⟨us, ks.zip ws⟩ (ps.zip (g us ws))
  rel : ∀ {vs : List V} {us : List Value} {zs : List V} {ws : List Value}, Vals vs us → Vals zs ws → Vals (gV vs zs) (g us ws)
variable {g : List Value → List Value → List Value} {gV : List V → List V → List V}
end

structure FnScope (N P : List Str) (sc : Scope) : Prop where
  kind : sc.kind = .function
  co : sc.isCoroutine = false
  gen : sc.isGenerator = false
  nd : N.Nodup
  pre : N.take P.length = P
  par : ∀ x ∈ P, sc.names.lookup x = some .local ∨ sc.names.lookup x = some .cell
  nofree : ∀ y ∈ sc.names, y.2 ≠ .free

theorem bindL_out {kindOf : Str → Option NameKind} {x : Str} : ∀ {binds : List (Str × Value)} {m : Str → Option Value}, (∀ v, (x, v) ∉ binds) → bindL kindOf binds m x = m x
  | [], _, _ => rfl
  | (n, v) :: r, m, h => by
    unfold bindL
    rw [bindL_out fun w hw => h w (List.mem_cons_of_mem _ hw)]
    split
    · have : x ≠ n := by rintro rfl; exact h v List.mem_cons_self
      simp [this]
    · rfl
theorem bindC_out {kindOf : Str → Option NameKind} {x : Str} : ∀ {binds : List (Str × Value)} {m : Str → Option Value}, (∀ v, (x, v) ∉ binds) → bindC kindOf binds m x = m x
  | [], _, _ => rfl
  | (n, v) :: r, m, h => by
    unfold bindC
    rw [bindC_out fun w hw => h w (List.mem_cons_of_mem _ hw)]
    split
    · rfl
    · have : x ≠ n := by rintro rfl; exact h v List.mem_cons_self
      simp [this]
theorem bindL_get {kindOf : Str → Option NameKind} {x : Str} {v : Value} : ∀ {P : List Str} {vs : List Value} {i : Nat} {m : Str → Option Value}, P.Nodup → P[i]? = some x → vs[i]? = some v → kindOf x = some .local →
    bindL kindOf (P.zip vs) m x = some v
  | [], _, _, _, _, h, _, _ => by simp at h
  | _ :: _, [], _, _, _, _, h, _ => by simp at h
  | p :: P, w :: vs, 0, m, nd, h1, h2, hk => by
    simp at h1 h2; subst h1; subst h2
    show bindL kindOf ((p, w) :: P.zip vs) m p = _
    unfold bindL
    rw [bindL_out fun v hv => (List.nodup_cons.mp nd).1 (List.of_mem_zip hv).1, if_pos hk]
    simp
  | p :: P, w :: vs, i + 1, m, nd, h1, h2, hk => by
    show bindL kindOf ((p, w) :: P.zip vs) m x = _
    unfold bindL
    exact bindL_get (i := i) (List.nodup_cons.mp nd).2 (by simpa using h1) (by simpa using h2) hk
theorem bindC_get {kindOf : Str → Option NameKind} {x : Str} {v : Value} : ∀ {P : List Str} {vs : List Value} {i : Nat} {m : Str → Option Value}, P.Nodup → P[i]? = some x → vs[i]? = some v → kindOf x ≠ some .local →
    bindC kindOf (P.zip vs) m x = some v
  | [], _, _, _, _, h, _, _ => by simp at h
  | _ :: _, [], _, _, _, _, h, _ => by simp at h
  | p :: P, w :: vs, 0, m, nd, h1, h2, hk => by
    simp at h1 h2; subst h1; subst h2
    show bindC kindOf ((p, w) :: P.zip vs) m p = _
    unfold bindC
    rw [bindC_out fun v hv => (List.nodup_cons.mp nd).1 (List.of_mem_zip hv).1, if_neg hk]
    simp
  | p :: P, w :: vs, i + 1, m, nd, h1, h2, hk => by
    show bindC kindOf ((p, w) :: P.zip vs) m x = _
    unfold bindC
    exact bindC_get (i := i) (List.nodup_cons.mp nd).2 (by simpa using h1) (by simpa using h2) hk

def start (N : List Str) (vs : List V) : St := vs.map some ++ List.replicate (N.length - vs.length) none

def cxOf (CX : CXT) (P : Program) (w : World) (K : PySem.W.Frag) (mg : Str → Option Value) (base : Heap) (N : List Str) (qual : Str) (scope : Scope) (f : Addr) (cd : Value) (A : Around) (outer : List Env) (s : Shared) (H : Hp) (E : XK) : Cx where
  prog := P
  w := w
  K := K
  mg := mg
  base := base
  A := A.deeper (envOfC qual scope s.heap.objs.size f cd)
  N := N
  s₀ := s
  H₀ := H
  env := envOfC qual scope s.heap.objs.size f cd
  outer := outer
  stack := envOfC qual scope s.heap.objs.size f cd :: outer
  ex := []
  calm := true
  fn := fun _ => true
  pn := []
  xe := fun e s' => wpAny (model P w) (A.deeper (envOfC qual scope s.heap.objs.size f cd)) (leaving (envOfC qual scope s.heap.objs.size f cd) e) (fun _ s'' => CX outer H s E e s'') (fun e' s'' => CX outer H s E e' s'') s'

theorem cell_has {sc : Scope} {n : Nat} {x : Str} (h : sc.names.lookup x = some .cell) : ∃ c, (cellsFrom n sc.names []).lookup x = some c := by
  have q := PySem.W.cellsFrom_some sc.names n [] (.inl h)
  exact Option.isSome_iff_exists.mp q

theorem inv_start {CX : CXT} {P : Program} {w : World} {K : PySem.W.Frag} {mg : Str → Option Value} {base : Heap} {N ps : List Str} {qual : Str} {scope : Scope} {f : Addr} {cd : Value} {A : Around} {outer : List Env} {s s1 : Shared} {H : Hp} {E : XK} {us : List Value} {vs : List V}
    (S : FnScope N ps scope) (hd : A.handled = none) (e0 : Env0 P w K mg base A outer s H) (hl : vs.length = ps.length) (r : Vals vs us)
    (x : InCallC s s.heap.objs.size (bindL (envOfC qual scope s.heap.objs.size f cd).kindOf (ps.zip us) fun _ => none) (cellsFrom (s.heap.objs.size + 1) scope.names []) (bindC (envOfC qual scope s.heap.objs.size f cd).kindOf (ps.zip us) fun _ => none) s1) :
    Inv (cxOf CX P w K mg base N qual scope f cd A outer s H E) [] (start N vs) H s1 := by
  have hpl : ps.length ≤ N.length := by have := congrArg List.length S.pre; rw [List.length_take] at this; omega
  obtain ⟨h1, tk, rfl, hk⟩ := x.done
  have noA : ∀ b : Addr, b ∉ (cxOf CX P w K mg base N qual scope f cd A outer s H E).ex := fun b z => absurd (show b ∈ ([] : List Addr) from z) (by simp)
  refine ⟨⟨e0.mod, S.kind, rfl, rfl, Nat.le_refl _, fun y z c h1 h2 => ?_, fun y hy => ?_, fun y c _ h => ?_, fun _ => hd, Around.frames_deeper e0.frames, .inr ⟨rfl, rfl⟩, fun b z => absurd z (noA b), e0.bs, e0.bsz, fun b _ _ => noA b, fun b z => absurd z (noA b), e0.funs, e0.frf⟩,
    rfl, e0.bare, Un.kept hk, ⟨_, x.toInCall.ns, fun i y v h1 h2 h3 => ?_⟩, fun y c h => ⟨_, x.cell y c h⟩, e0.hok.fresh (Nat.le_refl _), fun y c h => ?_, fun p hp => absurd (show p ∈ ([] : List (Addr × Obj)) from hp) (by simp), e0.hok.kept hk, ?_⟩
  · exact name_of_addr x.apart (PySem.mem_of_lookup h1) (PySem.mem_of_lookup h2)
  · have hy : scope.names.lookup y = some .cell ∨ scope.names.lookup y = some .free := hy
    rcases hy with hy | hy
    · exact cell_has hy
    · exact absurd rfl (S.nofree _ (PySem.mem_of_lookup hy))
  · exact Nat.le_of_lt (x.above y c (PySem.mem_of_lookup h))
  · have hi : i < vs.length := by
      unfold start at h2
      by_cases hi : i < vs.length
      · exact hi
      · rw [List.getElem?_append_right (by simpa using hi)] at h2
        rw [List.getElem?_replicate] at h2
        split at h2 <;> cases h2
    have ha : vs[i]? = some v := by
      unfold start at h2
      rw [List.getElem?_append_left (by simpa using hi), List.getElem?_map] at h2
      cases e : vs[i]? with
      | none => rw [e] at h2; cases h2
      | some a => rw [e] at h2; cases h2; rfl
    obtain ⟨u, hu, rv⟩ := r.get ha
    have hp : ps[i]? = some y := by
      rw [← S.pre, List.getElem?_take_of_lt (by omega)]; exact h1
    have ndP : ps.Nodup := by rw [← S.pre]; exact S.nd.sublist (List.take_sublist _ _)
    refine ⟨u, rv, ?_⟩
    rcases S.par y (List.mem_of_getElem? hp) with k | k
    · exact .inl ⟨k, bindL_get ndP hp hu k⟩
    · obtain ⟨c, e⟩ := cell_has (n := s.heap.objs.size + 1) k
      refine .inr ⟨.inl k, c, e, ?_⟩
      have q := x.cell y c e
      rw [bindC_get ndP hp hu (by show scope.names.lookup y ≠ _; rw [k]; decide)] at q
      exact q
  · exact e0.hok.fresh (Nat.le_of_lt (x.above y c (PySem.mem_of_lookup h)))
  · unfold start
    show _ = N.length
    rw [List.length_append, List.length_map, List.length_replicate]
    omega

theorem fn_of {CX : CXT} {P : Program} {w : World} {K : PySem.W.Frag} {mg : Str → Option Value} {base : Heap} {k : Nat} {f : Addr} {name qual : Str} {params : Arguments} {body : List Stmt} {scope : Scope} {dV kV doc pm cdv ct oc : Value} {an od : Option Addr}
    {osl : Array (Option Value)} {N ps : List Str} {sp : Sp} (lk : K.lookup f = some ⟨oc, od, .func (PySem.W.fnOf name qual params body scope dV kV doc pm an cdv ct), osl⟩) (hcd : PySem.W.codeIn K cdv qual = true) (S : FnScope N ps scope)
    (len : ∀ vs H Q E, sp vs H Q E → vs.length = ps.length)
    (hbody : ∀ (A : Around) (outer : List Env) (s : Shared) (H : Hp) (vs : List V) (Q : VK) (E : XK), Room k (A.deeper (envOfC qual scope s.heap.objs.size f cdv)) → sp vs H Q E →
      ∃ t, PSs (cxOf CX P w K mg base N qual scope f cdv A outer s H E) body t ∧ t { nx := fun _ H' => Q .non H', rt := Q } (start N vs) H) :
    FnOk P w K mg base CX (k + 1) f (PySem.W.fnOf name qual params body scope dV kV doc pm an cdv ct) ps sp := by
  refine ⟨len, fun A outer s H args us vs Q E hr e0 hb r hsp => ?_⟩
  have hl := len _ _ _ _ hsp
  have KX : K.In s.heap := e0.mod.kin.keeps fun b o e => (e0.bs b o e).1
  have lim : s.heap.NoLimit := e0.mod.nolimit.keeps fun b o e => (e0.bs b o e).1
  have hkind : ∀ y ∈ ps.zip us, scope.names.lookup y.1 = some .local ∨ (scope.names.lookup y.1 = some .cell ∧ ((cellsFrom (s.heap.objs.size + 1) scope.names []).lookup y.1).isSome = true) := fun ⟨n, v⟩ hy => by
    rcases S.par n (List.of_mem_zip hy).1 with q | q
    · exact .inl q
    · exact .inr ⟨q, PySem.W.cellsFrom_some _ _ _ (.inl q)⟩
  refine codeAny_call_function hr.depth (KX _ _ lk) rfl S.co S.gen rfl (PySem.W.codeRec_of KX hcd) (hb _ _ _ _ ?_)
  refine wpAny_newFunctionEnv_cells S.kind hkind fun env he s1 x => ?_
  subst he
  refine ⟨lim.keeps x.toInCall.keep, codeAny_func ?_⟩
  obtain ⟨t, ht, hq⟩ := hbody A outer s H vs Q E (hr.deeper _) hsp
  have I : Inv (cxOf CX P w K mg base N qual scope f cdv A outer s H E) [] (start N vs) H s1 := inv_start S hr.hd e0 hl r x
  refine wpAny_mono (ht [] s1 (start N vs) H _ I hq) (fun fl s' hs => ?_) fun e s' hs => hs
  have fin : ∀ {σ' : St} {H' : Hp} {v : V} {u : Value}, Inv (cxOf CX P w K mg base N qual scope f cdv A outer s H E) [] σ' H' s' → RelV v u → Q v H' → CE outer P w H s Q u s' :=
    fun {σ' H' v u} J rv q => ⟨v, H', J.os, J.bare, J.base, J.hok, rv, q⟩
  cases fl with
  | ret u =>
    obtain ⟨v, σ', H', J, rv, q⟩ := hs
    exact fin J rv q
  | next =>
    obtain ⟨σ', H', J, q⟩ := hs
    exact fin (v := V.non) (u := Value.none) J rfl q
  | brk =>
    obtain ⟨_, _, _, q⟩ := hs
    exact False.elim q
  | cont =>
    obtain ⟨_, _, _, q⟩ := hs
    exact False.elim q
end L2

namespace L2
open PySem PySem.Spec PyProof.Rows
section
variable {X : Cx} {x : Str} {p pos : Pos} {e : Expr} {es : List Expr} {t : TA} {id T : String} {r : List V → Hp → VK → Prop}

def tCB (r : List V → Hp → VK → Prop) (t : TA) : TE := fun σ H Q => t σ H fun vs H1 => r vs H1 Q
theorem pe_callB (hc : CallR X (.builtin id) r) (hg : Gl X x) (hm : X.mg x = none) (hv : bootBuiltins x = some (.builtin id)) (ha : PA X (e :: es) t) (hn : x ≠ "__name__" := by decide) (hdb : (x == ("__debug__" : Str)) = false := by decide)
    (he : starEach (e :: es) X.env = (false, eval e X.env) :: starEach es X.env := by rfl) (hpl : (backTo pos (starEach es X.env)).any (·.1) = false := by rfl) : PE X (.Call (.Name x p) (e :: es) [] pos) (tCB r t) := by
  intro pins s σ H Q I h
  refine wpAny_Call_Name_kw (ld_blt I hg hm hv ?_ hn hdb)
  exact PyProof.Rows.callWith_builtin1 (thn (ha pos pins s σ H _ I h) fun us s1 ⟨vs, H1, I1, r1, q1⟩ => hc pins s1 σ H1 vs us Q I1 r1 q1) he hpl
theorem pe_callTy (hc : CallR X (.type T) r) (hg : Gl X x) (hm : X.mg x = none) (hv : bootBuiltins x = some (.type T)) (ha : PA X (e :: es) t) (hn : x ≠ "__name__" := by decide) (hdb : (x == ("__debug__" : Str)) = false := by decide)
    (he : starEach (e :: es) X.env = (false, eval e X.env) :: starEach es X.env := by rfl) (hpl : (backTo pos (starEach es X.env)).any (·.1) = false := by rfl) : PE X (.Call (.Name x p) (e :: es) [] pos) (tCB r t) := by
  intro pins s σ H Q I h
  refine wpAny_Call_Name_kw (ld_blt I hg hm hv ?_ hn hdb)
  exact PyProof.Rows.callWith_type1 (thn (ha pos pins s σ H _ I h) fun us s1 ⟨vs, H1, I1, r1, q1⟩ => hc pins s1 σ H1 vs us Q I1 r1 q1) he hpl
end
end L2

namespace HT
open PySem PyProof.Rows

section
open PySem.SeqAt
open PySem.AutoSeq1 (wpAny_loadPart')
open PySem.MeetsSeq PySem.MeetsSeq2 PySem.MeetsSeq3

end

section
variable {prog : Program} {w : World} {A : Around} {E : Value → Shared → Prop} {s : Shared}

theorem cat_tup {t b : Addr} {vs ws : List Value} {Q : Value → Shared → Prop} (ht : IsTup s.heap t vs.toArray) (hb : IsTup s.heap b ws.toArray) (hv : vs ≠ [])
    (h1 : ws = [] → Q (.ref t) s) (h2 : ws ≠ [] → Q (.ref s.heap.objs.size) { s with heap := s.heap.push { cls := .type "tuple", data := .seq (vs ++ ws).toArray } })
    (hsz : vs.length + ws.length ≤ sizeLine) : wpAny (model prog w) A (binaryOp .Add (.ref t) (.ref b)) Q E s := by
  obtain ⟨⟨cls, dd, data, sl⟩, ho, hc, n, hd⟩ := id ht
  obtain ⟨⟨cls2, dd2, data2, sl2⟩, ho2, hc2, n2, hd2⟩ := id hb
  simp only at hc hd hc2 hd2
  subst hc hd hc2 hd2
  have e : vs.toArray ++ ws.toArray = (vs ++ ws).toArray := by simp
  by_cases hw : ws = []
  · exact concat_meets ⟨_, ho, rfl⟩ ⟨_, ho2, rfl⟩ noFill_tuple_add seq_tuple_add PySem.F.slot_tuple_add PySem.F.entry_tuple_add (PySem.F.args_tuple_add_2 _ _)
      (tuple_addW1 t b vs.toArray ws.toArray n n2 dd dd2 sl sl2 (by simpa using hv) (by simp [hw])) ⟨ho, ho2, h1 hw⟩
  · refine concat_meets ⟨_, ho, rfl⟩ ⟨_, ho2, rfl⟩ noFill_tuple_add seq_tuple_add PySem.F.slot_tuple_add PySem.F.entry_tuple_add (PySem.F.args_tuple_add_2 _ _)
      (tuple_addW2 t b vs.toArray ws.toArray n n2 dd dd2 sl sl2 (by simpa using hv) (by simpa using hw) (by rw [List.size_toArray, List.size_toArray]; exact hsz)) ⟨ho, ho2, ?_⟩
    rw [e]
    exact h2 hw

def sIx (n d : Nat) : Option Int → Nat
  | none => d
  | some v => if v < 0 then (v + (n : Int)).toNat else min v.toNat n
theorem sIx_le (n d : Nat) (hd : d ≤ n) (o : Option Int) : sIx n d o ≤ n := by
  cases o with
  | none => exact hd
  | some v =>
    show (if v < 0 then (v + (n : Int)).toNat else min v.toNat n) ≤ n
    by_cases hv : v < 0
    · rw [if_pos hv]; omega
    · rw [if_neg hv]; exact Nat.min_le_right _ _
theorem clip_eq (v : Int) (n d : Nat) : (if v < 0 then max (v + (n : Int)) 0 else min v (n : Int)) = ((sIx n d (some v) : Nat) : Int) := by
  show (if v < 0 then max (v + (n : Int)) 0 else min v (n : Int)) = (((if v < 0 then (v + (n : Int)).toNat else min v.toNat n) : Nat) : Int)
  by_cases hv : v < 0
  · simp only [if_pos hv]; omega
  · simp only [if_neg hv]; omega
theorem adjust_gen (lo hi : Option Int) (n : Nat) : Builtin.Slice.sliceAdjust lo hi 1 (n : Int) = (((sIx n 0 lo : Nat) : Int), ((sIx n n hi : Nat) : Int)) := by
  have h1 : ¬ ((1 : Int) < 0) := by omega
  unfold Builtin.Slice.sliceAdjust
  simp only [h1, if_false]
  refine Prod.ext ?_ ?_
  · cases lo with
    | none => rfl
    | some v => exact clip_eq v n 0
  · cases hi with
    | none => rfl
    | some v => exact clip_eq v n n
theorem places_gen (i j : Nat) : Builtin.Slice.slicePlaces (i : Int) (j : Int) 1 = j - i := by
  unfold Builtin.Slice.slicePlaces
  have h1 : (1 : Int) > 0 := by omega
  simp only [h1, if_true, Int.ediv_one]
  split <;> omega
theorem slicePart_ {v : Value} {o : Option Int} {Q : Option Int → Shared → Prop} (p : IsPart v o) (h : Q o s) : wpAny (model prog w) A (Builtin.Slice.slicePartIndex v) Q E s := by
  cases p with
  | none => exact slicePart_none h
  | int i t => exact slicePart_int h
theorem sliceApplied_gen {sl : Addr} {vl vu : Value} {lo hi : Option Int} {n : Nat} {Q : Int × Int × Nat → Shared → Prop} (hs : s.heap.IsSliceOf sl vl vu .none) (pl : IsPart vl lo) (pu : IsPart vu hi)
    (h : Q (((sIx n 0 lo : Nat) : Int), 1, sIx n n hi - sIx n 0 lo) s) : wpAny (model prog w) A (Builtin.Slice.sliceApplied (.ref sl) (pure (n : Int))) Q E s := by
  obtain ⟨os, hos, hcs, hds⟩ := id hs
  unfold Builtin.Slice.sliceApplied Builtin.Slice.sliceFields
  refine wpAny_bind (wpAny_bind (wpAny_field hos hds (x := vl) rfl (wpAny_bind (wpAny_field hos hds (x := vu) rfl (wpAny_bind (wpAny_field hos hds (x := .none) rfl (wpAny_pure ?_)))))))
  refine wpAny_bind (slicePart_none ?_)
  show wpAny _ _ (if ((1 : Int) == 0) = true then _ else _) _ _ s
  rw [if_neg (by decide)]
  refine wpAny_bind (slicePart_ pl (wpAny_bind (slicePart_ pu (wpAny_bind (wpAny_pure ?_)))))
  show wpAny _ _ (match Builtin.Slice.sliceAdjust lo hi 1 (n : Int) with | (lo, hi) => pure (lo, (1 : Int), Builtin.Slice.slicePlaces lo hi 1)) _ _ s
  rw [adjust_gen lo hi n]
  show wpAny _ _ (pure (((sIx n 0 lo : Nat) : Int), (1 : Int), Builtin.Slice.slicePlaces ((sIx n 0 lo : Nat) : Int) ((sIx n n hi : Nat) : Int) 1)) _ _ s
  rw [places_gen]
  exact wpAny_pure h
theorem pick_gen (xs : Array Value) (i k : Nat) : ((List.range k).filterMap fun (m : Nat) => xs[((i : Int) + (m : Int) * 1).toNat]?).toArray = ((xs.toList.drop i).take k).toArray := by
  have e : (fun (m : Nat) => xs[((i : Int) + (m : Int) * 1).toNat]?) = fun m => xs[i + m]? := by
    funext m
    have : ((i : Int) + (m : Int) * 1).toNat = i + m := by omega
    rw [this]
  rw [e]
  have := pick_run xs i k
  rw [List.filterMap_map] at this
  have e2 : ((fun x => xs[x]?) ∘ fun x => i + x) = fun m => xs[i + m]? := rfl
  rw [e2] at this
  rw [this]

theorem getItem_tuple_cut {t sl : Addr} {items : Array Value} {vl vu : Value} {lo hi : Option Int} {Q : Value → Shared → Prop} (ht : IsTup s.heap t items) (hs : s.heap.IsSliceOf sl vl vu .none) (pl : IsPart vl lo) (pu : IsPart vu hi)
    (hw : ¬ (sIx items.size 0 lo = 0 ∧ sIx items.size items.size hi = items.size))
    (h : Q (.ref s.heap.objs.size) { s with heap := s.heap.push { cls := .type "tuple", data := .seq ((items.toList.drop (sIx items.size 0 lo)).take (sIx items.size items.size hi - sIx items.size 0 lo)).toArray } })
    (hsz : items.size ≤ sizeLine) : wpAny (model prog w) A (getItem (.ref t) (.ref sl)) Q E s := by
  have htake : sizeOk (.seq ((items.toList.drop (sIx items.size 0 lo)).take (sIx items.size items.size hi - sIx items.size 0 lo)).toArray) := by
    show ((items.toList.drop (sIx items.size 0 lo)).take (sIx items.size items.size hi - sIx items.size 0 lo)).toArray.size ≤ sizeLine
    rw [List.size_toArray, List.length_take, List.length_drop, Array.length_toList]
    omega
  have hj : sIx items.size items.size hi ≤ items.size := sIx_le _ _ (Nat.le_refl _) hi
  obtain ⟨os, hos, hcs, hds⟩ := id hs
  have hTs : s.TypeIs (.ref sl) "slice" := ⟨os, hos, hcs⟩
  unfold getItem
  try with_reducible refine wpAny_holding ?_
  first | refine wpAny_bind (wpAny_pure ?_) | skip
  refine wpAny_bind (wpAny_sequenceKey ht.typeIs (by decide) ?_)
  refine wpAny_bind (wpAny_callSpecial?_slot (name := Str.ofString "__getitem__") ht.typeIs PyProof.Rows.slot_tuple_getitem
    (wpAny_call_entry PyProof.Rows.slot_tuple_getitem ht.typeIs entry_tuple_getitem ?_ (args_tuple_getitem _ _)))
  show wpAny _ _ (Builtin.Tuple.tupleItemsOf (.ref t) >>= _) _ _ s
  refine wpAny_bind (tupleItemsOf_ ht ?_)
  refine wpAny_bind (wpAny_typeOf hTs ?_)
  rw [if_pos (by decide)]
  refine wpAny_bind (sliceApplied_gen hs pl pu ?_)
  have hno : ¬ ((((sIx items.size 0 lo : Nat) : Int) == 0 && (1 : Int) == 1 && (sIx items.size items.size hi - sIx items.size 0 lo) == items.size) = true) := by
    intro q
    rw [Bool.and_eq_true, Bool.and_eq_true] at q
    have q1 : ((sIx items.size 0 lo : Nat) : Int) = 0 := eq_of_beq q.1.1
    have q2 : sIx items.size items.size hi - sIx items.size 0 lo = items.size := eq_of_beq q.2
    exact hw ⟨by omega, by omega⟩
  show wpAny _ _ (if (((sIx items.size 0 lo : Nat) : Int) == 0 && (1 : Int) == 1 && (sIx items.size items.size hi - sIx items.size 0 lo) == items.size) = true then _ else _) _ _ s
  rw [if_neg hno, pick_gen]
  first
    | exact wpAny_bind (m := Builtin.Tuple.tupleExact _) (wpAny_newObj_type (wpAny_pure ⟨_, rfl, wpAny_pure h⟩) htake)
    | exact wpAny_bind (m := Builtin.Tuple.tupleExact _) (wpAny_newObj_type (wpAny_bind (wpAny_pure (wpAny_pure ⟨_, rfl, wpAny_pure h⟩))) htake)
    | exact wpAny_bind (wpAny_bind (m := Builtin.Tuple.tupleExact _) (wpAny_newObj_type (wpAny_pure (wpAny_pure ⟨_, rfl, wpAny_pure h⟩)) htake))
    | exact wpAny_bind (wpAny_bind (m := Builtin.Tuple.tupleExact _) (wpAny_newObj_type (wpAny_pure ⟨_, rfl, wpAny_pure h⟩) htake))
end
end HT

namespace L2
open PySem PySem.Spec PyProof.Rows

abbrev TO := St → Hp → (Option Int → Hp → Prop) → Prop
def PO (X : Cx) (e : Option Expr) (t : TO) : Prop :=
  ∀ (pins : List (Addr × Obj)) (s : Shared) (σ : St) (H : Hp) (Q : Option Int → Hp → Prop), Inv X pins σ H s → t σ H Q →
    wpAny (model X.prog X.w) X.A (evalPart e X.env) (fun u s' => ∃ o H', Inv X pins σ H' s' ∧ IsPart u o ∧ Q o H') X.xe s
def tNoPart : TO := fun _ H Q => Q none H
def tPart (t : TE) : TO := fun σ H Q => t σ H fun x H1 => ∃ i, x = .int i ∧ Q (some i) H1

section
variable {X : Cx} {e : Expr} {te : TE} {lo hi : Option Expr} {tl th : TO} {pos p2 : Pos}

theorem po_none : PO X none tNoPart := by
  intro pins s σ H Q I h
  rw [evalPart_none]
  exact wpAny_pure ⟨none, H, I, .none, h⟩
theorem po_some (h : PE X e te) : PO X (some e) (tPart te) := by
  intro pins s σ H Q I hw
  rw [evalPart_some]
  refine thn (h pins s σ H _ I hw) fun u s1 ⟨x, H1, I1, r1, q1⟩ => ?_
  obtain ⟨i, rfl, q⟩ := q1
  obtain ⟨t, rfl⟩ := r1
  exact ⟨some i, H1, I1, .int i t, q⟩

def SlR (X : Cx) (r : V → Option Int → Option Int → Hp → VK → Prop) : Prop :=
  ∀ (pins : List (Addr × Obj)) (s : Shared) (σ : St) (H : Hp) (x : V) (v vl vu : Value) (lo hi : Option Int) (sl : Addr) (Q : VK), Inv X pins σ H s → RelV x v → s.heap.IsSliceOf sl vl vu .none → IsPart vl lo → IsPart vu hi → r x lo hi H Q →
    ∃ T id, typeLookup (.type T) "__getitem__" = pure (some (.builtin id)) ∧ s.TypeIs v T ∧ wpAny (model X.prog X.w) X.A (getItem v (.ref sl)) (EP X pins σ Q) X.xe s
def tSl (r : V → Option Int → Option Int → Hp → VK → Prop) (te : TE) (tl th : TO) : TE := fun σ H Q => te σ H fun x H1 => tl σ H1 fun l H2 => th σ H2 fun u H3 => r x l u H3 Q
theorem pe_slice {r : V → Option Int → Option Int → Hp → VK → Prop} (hr : SlR X r) (he : PE X e te) (hl : PO X lo tl) (hu : PO X hi th) : PE X (.Subscript e (.Slice lo hi none p2) pos) (tSl r te tl th) := by
  intro pins s σ H Q I h
  refine Subscript_ (thn (he pins s σ H _ I h) fun v s1 ⟨x, H1, I1, r1, q1⟩ => ?_)
  refine wpAny_Slice (thn (hl pins s1 σ H1 _ I1 q1) fun vl s2 ⟨l, H2, I2, pl, q2⟩ => thn (hu pins s2 σ H2 _ I2 q2) fun vu s3 ⟨u, H3, I3, pu, q3⟩ => ?_)
  rw [evalPart_none]
  refine wpAny_pure ?_
  have I4 : Inv X pins σ H3 { s3 with heap := s3.heap.push { cls := .type "slice", data := .fields #[vl, vu, .none] } } := I3.kept (t' := s3.toks) fun b ob q => Heap.get?_push_of_some _ q
  obtain ⟨T, id, hT, ht, hg⟩ := hr pins { s3 with heap := s3.heap.push { cls := .type "slice", data := .fields #[vl, vu, .none] } } σ H3 x v vl vu l u s3.heap.objs.size Q I4 r1 (Heap.IsSliceOf.new ..) pl pu q3
  show wpAny (model X.prog X.w) X.A (subscriptTail e (.Slice lo hi none p2) v (.ref s3.heap.objs.size)) (EP X pins σ Q) X.xe { s3 with heap := s3.heap.push { cls := .type "slice", data := .fields #[vl, vu, .none] } }
  exact tail_any (ops := [.ref s3.heap.objs.size, v]) ht hT hg (by with_unfolding_all rfl)

def cutV (xs : List V) (lo hi : Option Int) : List V := (xs.drop (HT.sIx xs.length 0 lo)).take (HT.sIx xs.length xs.length hi - HT.sIx xs.length 0 lo)
theorem cutV_length (xs : List V) (lo hi : Option Int) : (cutV xs lo hi).length ≤ xs.length := by
  unfold cutV
  rw [List.length_take, List.length_drop]
  omega
def rSlT (K : PySem.W.Frag) : V → Option Int → Option Int → Hp → VK → Prop := fun x lo hi H Q => ∃ a xs, x = .ref a ∧ SqT K H a xs ∧
  ¬ (HT.sIx xs.length 0 lo = 0 ∧ HT.sIx xs.length xs.length hi = xs.length) ∧ ∀ p, H p = none → Q (.ref p) (upd H p (.tup (cutV xs lo hi)))
theorem sl_tup : SlR X (rSlT X.K) := by
  intro pins s σ H x v vl vu lo hi sl Q I rx hs pl pu h
  obtain ⟨a, xs, rfl, hx, hw, q⟩ := h
  cases rx
  obtain ⟨its, r, ht, hz⟩ := I.tuple hx
  have hlen : its.toArray.size = xs.length := by rw [List.size_toArray]; exact r.length.symm
  refine ⟨"tuple", _, PyProof.Rows.slot_tuple_getitem.lookup, ht.typeIs, ?_⟩
  refine HT.getItem_tuple_cut ht hs pl pu (by rw [hlen]; exact hw) ?_ (by rw [hlen]; exact hz)
  rw [hlen]
  refine ⟨.ref s.heap.objs.size, _, I.laid (t' := s.toks) (o := .tup (cutV xs lo hi)) (fun b ob q => Heap.get?_push_of_some _ q) (Nat.le_refl _) ?_, rfl, q _ (I.hok.fresh (Nat.le_refl _))⟩
  exact ⟨Nat.le_trans (cutV_length xs lo hi) hz, _, (r.drop (HT.sIx xs.length 0 lo)).take (HT.sIx xs.length xs.length hi - HT.sIx xs.length 0 lo), IsTup.new _ _, _, Heap.get?_push_size _ rfl, rfl⟩

def rCatT (K : PySem.W.Frag) : R2 := fun x y H Q => ∃ a b xs ys, x = .ref a ∧ y = .ref b ∧ SqT K H a xs ∧ SqT K H b ys ∧ xs ≠ [] ∧ xs.length + ys.length ≤ sizeLine ∧
  (ys = [] → Q (.ref a) H) ∧ (ys ≠ [] → ∀ p, H p = none → Q (.ref p) (upd H p (.tup (xs ++ ys))))
theorem Vals.nil_iff {xs : List V} {us : List Value} (r : Vals xs us) : us = [] ↔ xs = [] := by
  cases r with
  | nil => simp
  | cons _ _ => simp
theorem op_catT : OpR X (binaryOp .Add) (rCatT X.K) := by
  intro pins s σ H x y v u Q I rx ry h
  obtain ⟨a, b, xs, ys, rfl, rfl, ha, hb, hx, hz, q1, q2⟩ := h
  cases rx
  cases ry
  obtain ⟨its, r1, p1, _⟩ := I.tuple ha
  obtain ⟨its2, r2, p2, _⟩ := I.tuple hb
  refine HT.cat_tup p1 p2 (fun z => hx (r1.nil_iff.mp z)) (fun z => ⟨.ref a, H, I, rfl, q1 (r2.nil_iff.mp z)⟩) (fun z => ?_) (by rw [← r1.length, ← r2.length]; exact hz)
  refine ⟨.ref s.heap.objs.size, _, I.laid (t' := s.toks) (o := .tup (xs ++ ys)) (fun b ob q => Heap.get?_push_of_some _ q) (Nat.le_refl _) ?_, rfl, q2 (fun w => z (r2.nil_iff.mpr w)) _ (I.hok.fresh (Nat.le_refl _))⟩
  exact ⟨by rw [List.length_append]; exact hz, _, r1.append r2, IsTup.new _ _, _, Heap.get?_push_size _ rfl, rfl⟩
end
end L2

namespace L2
open PySem PySem.Spec PyProof.Rows

def ixN (n : Nat) (i : Int) : Option Nat := if 0 ≤ i then (if i < n then some i.toNat else none) else if -(n : Int) ≤ i then some (i + n).toNat else none
def atI {α : Type} (xs : List α) (i : Int) : Option α := (ixN xs.length i).bind fun j => xs[j]?
theorem ixN_seq {n : Nat} {i : Int} {j : Nat} (h : ixN n i = some j) : seqIndex? i n = some j ∧ j < n ∧ -(n : Int) ≤ i ∧ i < n := by
  unfold ixN at h
  by_cases h0 : 0 ≤ i
  · rw [if_pos h0] at h
    by_cases h1 : i < n
    · rw [if_pos h1] at h
      have e : i.toNat = j := Option.some.inj h
      exact ⟨by rw [seqIndex_of h0 h1, e], by omega, by omega, h1⟩
    · rw [if_neg h1] at h; cases h
  · rw [if_neg h0] at h
    by_cases h1 : -(n : Int) ≤ i
    · rw [if_pos h1] at h
      have e : (i + n).toNat = j := Option.some.inj h
      exact ⟨by rw [seqIndex_neg (by omega) h1, e], by omega, h1, by omega⟩
    · rw [if_neg h1] at h; cases h
theorem atI_get {α : Type} {xs : List α} {i : Int} {v : α} (h : atI xs i = some v) : ∃ j, seqIndex? i xs.length = some j ∧ xs[j]? = some v ∧ j < xs.length ∧ -(xs.length : Int) ≤ i ∧ i < xs.length := by
  unfold atI at h
  cases e : ixN xs.length i with
  | none => rw [e] at h; cases h
  | some j =>
    rw [e] at h
    obtain ⟨h1, h2, h3, h4⟩ := ixN_seq e
    exact ⟨j, h1, h, h2, h3, h4⟩
theorem atI_nat {α : Type} {xs : List α} {j : Nat} {v : α} (h : xs[j]? = some v) : atI xs (j : Int) = some v := by
  have hj : j < xs.length := (List.getElem?_eq_some_iff.mp h).1
  have e : ixN xs.length (j : Int) = some j := by
    unfold ixN
    rw [if_pos (by omega), if_pos (by omega)]; simp
  unfold atI; rw [e]; exact h
theorem atI_last {α : Type} (xs : List α) (v : α) : atI (xs ++ [v]) (-1) = some v := by
  have hl : (xs ++ [v]).length = xs.length + 1 := by simp
  have e : ixN (xs ++ [v]).length (-1) = some xs.length := by
    unfold ixN
    rw [hl, if_neg (by decide), if_pos (by omega)]
    congr 1
    omega
  unfold atI
  rw [e]
  show (xs ++ [v])[xs.length]? = some v
  simp

def PlainIx (b : Expr) : Prop := ∀ o i, subscripted b false o i = operate [o, i] (getItem o i)
def IxR (X : Cx) (r : R2) : Prop :=
  ∀ (value slice : Expr) (pins : List (Addr × Obj)) (s : Shared) (σ : St) (H : Hp) (x y : V) (v u : Value) (Q : VK), Inv X pins σ H s → RelV x v → RelV y u → r x y H Q →
    subscripted slice false v u = operate [v, u] (getItem v u) → wpAny (model X.prog X.w) X.A (subscriptTail value slice v u) (EP X pins σ Q) X.xe s
def MtR (X : Cx) (id : String) (r : V → List V → Hp → VK → Prop) : Prop :=
  ∀ (pins : List (Addr × Obj)) (s : Shared) (σ : St) (H : Hp) (x : V) (xs : List V) (v : Value) (us : List Value) (Q : VK), Inv X pins σ H s → RelV x v → Vals xs us → r x xs H Q →
    wpAny (model X.prog X.w) X.A (call (.builtin id) (v :: us)) (EP X pins σ Q) X.xe s
section
variable {X : Cx} {a b : Expr} {ta tb : TE} {pos : Pos}
theorem pe_ix {r : R2} (hr : IxR X r) (ha : PE X a ta) (hb : PE X b tb) (hs : PlainIx b) : PE X (.Subscript a b pos) (tOp r ta tb) := by
  intro pins s σ H Q I h
  exact Subscript_ (binT ha hb I h fun v u s2 x y H2 I2 rx ry q => hr a b pins s2 σ H2 x y v u Q I2 rx ry q (hs _ _))

def rIxL (K : PySem.W.Frag) : R2 := fun x y H Q => ∃ p xs i v, x = .ref p ∧ y = .int i ∧ SqL K H p xs ∧ atI xs i = some v ∧ Q v H
def rIxT (K : PySem.W.Frag) : R2 := fun x y H Q => ∃ p xs i v, x = .ref p ∧ y = .int i ∧ SqT K H p xs ∧ atI xs i = some v ∧ Q v H
def rIxS : R2 := fun x y H Q => ∃ z i c, x = .str z ∧ y = .int i ∧ z.length ≤ sizeLine ∧ atI z.cps.toList i = some c ∧ Q (.str ⟨#[c]⟩) H
theorem ix_list : IxR X (rIxL X.K) := by
  intro value slice pins s σ H x y v u Q I rx ry h hs
  obtain ⟨p, xs, i, z, rfl, rfl, hq, he, q⟩ := h
  cases rx
  obtain ⟨t, rfl⟩ := ry
  obtain ⟨its, r, pl, hz⟩ := I.list hq
  obtain ⟨j, h1, h2, h3, h4, h5⟩ := atI_get he
  obtain ⟨w, ew, rw'⟩ := r.get h2
  have hl := r.length
  have hn := line63
  have fin : EP X pins σ Q w s := ⟨z, H, I, rw', q⟩
  by_cases h0 : 0 ≤ i
  · have hj : i.toNat = j := by
      rw [seqIndex_of h0 h5] at h1
      exact Option.some.inj h1
    exact item_listR pl.isList h0 (by omega) (by rw [hj]; simpa using ew) fin hs
  · have hj : (i + (its.toArray.size : Int)).toNat = j := by
      rw [seqIndex_neg (by omega) h4] at h1
      rw [List.size_toArray, ← hl]
      exact Option.some.inj h1
    exact subscriptTail_builtinR (x := w) pl.isList.typeIs slot_list_getitem.lookup
      (wpAny_getItem_list_neg (Q := fun r s' => r = w ∧ EP X pins σ Q r s') pl.isList (by omega) (by rw [List.size_toArray] <;> omega) (by omega) (by rw [hj]; simpa using ew) ⟨rfl, fin⟩) hs
theorem ix_tup : IxR X (rIxT X.K) := by
  intro value slice pins s σ H x y v u Q I rx ry h hs
  obtain ⟨p, xs, i, z, rfl, rfl, hq, he, q⟩ := h
  cases rx
  obtain ⟨t, rfl⟩ := ry
  obtain ⟨its, r, pl, hz⟩ := I.tuple hq
  obtain ⟨j, h1, h2, h3, h4, h5⟩ := atI_get he
  obtain ⟨w, ew, rw'⟩ := r.get h2
  have hl := r.length
  have hn := line63
  have fin : EP X pins σ Q w s := ⟨z, H, I, rw', q⟩
  exact subscriptTail_builtinR (x := w) pl.typeIs slot_tuple_getitem.lookup
    (getItem_tuple (j := j) (Q := fun r s' => r = w ∧ EP X pins σ Q r s') pl (by omega) (by omega) (by rw [List.size_toArray, ← hl]; exact h1) (by simpa using ew) ⟨rfl, fin⟩) hs
theorem ix_str : IxR X rIxS := by
  intro value slice pins s σ H x y v u Q I rx ry h hs
  obtain ⟨z, i, c, rfl, rfl, hz, he, q⟩ := h
  obtain ⟨t, rfl⟩ := rx
  obtain ⟨t', rfl⟩ := ry
  obtain ⟨j, h1, h2, h3, h4, h5⟩ := atI_get he
  have hl : z.cps.toList.length = z.length := by simp [Str.length]
  rw [hl] at h1 h4 h5
  have hn := line63
  exact tail_any (typeIs_str s z t) slot_str_getitem.lookup (getItem_str (c := c) (by
    have e1 : decide (i < -(2 ^ 63 : Int)) = false := decide_eq_false (by omega)
    have e2 : decide (i ≥ 2 ^ 63) = false := decide_eq_false (by omega)
    rw [e1, e2, Bool.or_false]) (by rw [h1]; simpa using h2) ⟨.str ⟨#[c]⟩, H, I.tok _, ⟨_, rfl⟩, q⟩) hs
theorem mapSeq_set (its : List Value) (n j : Nat) (u : Value) : Obj.mapSeq (·.setIfInBounds j u) { cls := .type "list", data := .seq its.toArray n } = { cls := .type "list", data := .seq (its.set j u).toArray n } := by
  simp [Obj.mapSeq]
theorem Inv.lst {pins : List (Addr × Obj)} {σ : St} {H : Hp} {s : Shared} {p : Addr} {xs : List V} (I : Inv X pins σ H s) (h : H p = some (.lst xs)) :
    ∃ (its : List Value) (n : Nat), Vals xs its ∧ s.heap.get? p = some { cls := .type "list", data := .seq its.toArray n } ∧ xs.length ≤ sizeLine := by
  obtain ⟨z, its, n, r, e⟩ := I.hok p _ h
  exact ⟨its, n, r, e, z⟩
theorem Inv.lstUpd {pins : List (Addr × Obj)} {σ : St} {H : Hp} {s : Shared} {p : Addr} {xs ys : List V} {its its' : List Value} {n n' : Nat} {f : Obj → Obj} (I : Inv X pins σ H s) (h : H p = some (.lst xs))
    (ho : s.heap.get? p = some { cls := .type "list", data := .seq its.toArray n }) (hf : f { cls := .type "list", data := .seq its.toArray n } = { cls := .type "list", data := .seq its'.toArray n' }) (r : Vals ys its') (hz : ys.length ≤ sizeLine) (t : Nat) :
    Inv X pins σ (upd H p (.lst ys)) { s with heap := s.heap.update p f, toks := t } := by
  have e : (s.heap.update p f).get? p = some { cls := .type "list", data := .seq its'.toArray n' } := by
    rw [Heap.get?_update_self f ho (by rw [hf] <;> rfl), hf]
  refine I.write (x := p) (e := p) (by rw [h]; trivial) (.inl rfl) (fun b u hb q => (Heap.get?_update_other _ _ (Ne.symm hb)).trans q) ⟨_, e⟩ ?_
  exact ⟨hz, its', n', r, e⟩
def rSetL : V → V → V → Hp → (Hp → Prop) → Prop := fun o i v H Q => ∃ p xs k j, o = .ref p ∧ i = .int k ∧ H p = some (.lst xs) ∧ ixN xs.length k = some j ∧ Q (upd H p (.lst (xs.set j v)))
theorem set_list : PSet X rSetL := by
  intro pins s σ H o i v ov iv u Q I ro ri rv h
  obtain ⟨p, xs, k, j, rfl, rfl, hp, hj, q⟩ := h
  cases ro
  obtain ⟨t, rfl⟩ := ri
  obtain ⟨its, n, r, ho, hz⟩ := I.lst hp
  obtain ⟨h1, h2, h3, h4⟩ := ixN_seq hj
  have hl := r.length
  have hn := line63
  have I' : Inv X pins σ (upd H p (.lst (xs.set j v))) { s with heap := s.heap.update p (Obj.mapSeq (·.setIfInBounds j u)) } :=
    I.lstUpd hp ho (mapSeq_set its n j u) (r.set rv j) (by rw [List.length_set]; exact hz) s.toks
  by_cases h0 : 0 ≤ k
  · have hk : k.toNat = j := by
      rw [seqIndex_of h0 h4] at h1
      exact Option.some.inj h1
    exact PySem.W.ki_setAt ho h0 (by omega) (by rw [List.size_toArray, ← hl]; exact h4) (by rw [hk]; exact ⟨_, I', q⟩)
  · have hk : (k + (its.toArray.size : Int)).toNat = j := by
      rw [seqIndex_neg (by omega) h3] at h1
      rw [List.size_toArray, ← hl]
      exact Option.some.inj h1
    exact PySem.W.ki_setBack ho (by omega) (by rw [List.size_toArray, ← hl]; exact h3) (by omega) (by rw [hk]; exact ⟨_, I', q⟩)

def flatV : V → Bool
  | .non => true
  | .bl _ => true
  | .int _ => true
  | .str _ => true
  | _ => false
def eqV : V → V → Bool
  | .non, .non => true
  | .bl a, .bl b => a == b
  | .bl a, .int b => (if a then 1 else 0) == b
  | .int a, .bl b => a == (if b then 1 else 0)
  | .int a, .int b => a == b
  | .str a, .str b => a == b
  | _, _ => false
theorem eqAt_V {A : Around} {s : Shared} {y x : V} {u v : Value} (ry : RelV y u) (rx : RelV x v) (fy : flatV y = true) (fx : flatV x = true) : SeqAt.EqAt A s u v (eqV y x) := by
  cases y with
  | non =>
    cases ry
    cases x with
    | non => cases rx; exact SeqAt.EqAt.same _
    | bl b => cases rx; exact SeqAt.EqAt.none_bool b
    | int b => obtain ⟨t, rfl⟩ := rx; exact SeqAt.EqAt.none_int b t
    | str b => obtain ⟨t, rfl⟩ := rx; exact SeqAt.EqAt.none_str b t
    | _ => exact absurd (show false = true from fx) Bool.false_ne_true
  | bl a =>
    cases ry
    cases x with
    | non => cases rx; exact SeqAt.EqAt.bool_none a
    | bl b => cases rx; exact SeqAt.EqAt.bool_bool a b
    | int b => obtain ⟨t, rfl⟩ := rx; exact SeqAt.EqAt.bool_int a b t
    | str b => obtain ⟨t, rfl⟩ := rx; exact SeqAt.EqAt.bool_str a b t
    | _ => exact absurd (show false = true from fx) Bool.false_ne_true
  | int a =>
    obtain ⟨t', rfl⟩ := ry
    cases x with
    | non => cases rx; exact SeqAt.EqAt.int_none a t'
    | bl b => cases rx; exact SeqAt.EqAt.int_bool a t' b
    | int b => obtain ⟨t, rfl⟩ := rx; exact SeqAt.EqAt.int_int a t' b t
    | str b => obtain ⟨t, rfl⟩ := rx; exact SeqAt.EqAt.int_str a t' b t
    | _ => exact absurd (show false = true from fx) Bool.false_ne_true
  | str a =>
    obtain ⟨t', rfl⟩ := ry
    cases x with
    | non => cases rx; exact SeqAt.EqAt.str_none a t'
    | bl b => cases rx; exact SeqAt.EqAt.str_bool a t' b
    | int b => obtain ⟨t, rfl⟩ := rx; exact SeqAt.EqAt.str_int a t' b t
    | str b => obtain ⟨t, rfl⟩ := rx; exact SeqAt.EqAt.str_str a t' b t
    | _ => exact absurd (show false = true from fx) Bool.false_ne_true
  | _ => exact absurd (show false = true from fy) Bool.false_ne_true
def eqU (x : V) (u : Value) : Bool := match u with
  | .none => eqV .non x
  | .bool b => eqV (.bl b) x
  | .int i _ => eqV (.int i) x
  | .str z _ => eqV (.str z) x
  | _ => false
theorem eqU_of {x y : V} {u : Value} (r : RelV y u) (f : flatV y = true) : eqU x u = eqV y x := by
  cases y with
  | non => cases r; rfl
  | bl b => cases r; rfl
  | int i => obtain ⟨t, rfl⟩ := r; rfl
  | str z => obtain ⟨t, rfl⟩ := r; rfl
  | _ => exact absurd (show false = true from f) Bool.false_ne_true
theorem any_eqU {x : V} : ∀ {xs : List V} {us : List Value}, Vals xs us → xs.all flatV = true → us.any (eqU x) = xs.any fun y => eqV y x
  | _, _, .nil, _ => rfl
  | y :: xs, u :: us, .cons r t, f => by
    rw [List.all_cons, Bool.and_eq_true] at f
    rw [List.any_cons, List.any_cons, eqU_of r f.1, any_eqU t f.2]
theorem mem_eqAt {A : Around} {s : Shared} {x : V} {v : Value} (rx : RelV x v) (fx : flatV x = true) : ∀ {xs : List V} {us : List Value}, Vals xs us → xs.all flatV = true → ∀ u ∈ us, SeqAt.EqAt A s u v (eqU x u)
  | _, _, .nil, _ => fun u hu => by cases hu
  | y :: xs, u :: us, .cons r t, f => fun u' hu => by
    rw [List.all_cons, Bool.and_eq_true] at f
    rcases List.mem_cons.mp hu with rfl | hu
    · rw [eqU_of r f.1]; exact eqAt_V r rx f.1 fx
    · exact mem_eqAt rx fx t f.2 u' hu
def inV (x : V) (xs : List V) : Bool := xs.any fun y => eqV y x
def rIn (K : PySem.W.Frag) (neg : Bool) : R2 := fun x y H Q => ∃ p xs, y = .ref p ∧ (SqL K H p xs ∨ SqT K H p xs) ∧ flatV x = true ∧ xs.all flatV = true ∧ Q (.bl (if neg then !inV x xs else inV x xs)) H
theorem op_in_seq : OpR X (compareOp .In) (rIn X.K false) := by
  intro pins s σ H x y v u Q I rx ry h
  obtain ⟨p, xs, rfl, hq, fx, fs, q⟩ := h
  cases ry
  rcases hq with hq | hq
  · obtain ⟨its, r, pl, hz⟩ := I.list hq
    refine SeqAt.in_listAt (eqU x) pl.isList (fun w hw => mem_eqAt rx fx r fs w (by simpa using hw)) ⟨.bl _, H, I, rfl, ?_⟩
    rw [show its.toArray.any (eqU x) = its.any (eqU x) by simp, any_eqU r fs]
    exact q
  · obtain ⟨its, r, pl, hz⟩ := I.tuple hq
    refine SeqAt.in_tupleAt (eqU x) pl (fun w hw => mem_eqAt rx fx r fs w (by simpa using hw)) ⟨.bl _, H, I, rfl, ?_⟩
    rw [show its.toArray.any (eqU x) = its.any (eqU x) by simp, any_eqU r fs]
    exact q
theorem op_notIn_seq : OpR X (compareOp .NotIn) (rIn X.K true) := by
  intro pins s σ H x y v u Q I rx ry h
  obtain ⟨p, xs, rfl, hq, fx, fs, q⟩ := h
  cases ry
  rcases hq with hq | hq
  · obtain ⟨its, r, pl, hz⟩ := I.list hq
    refine SeqAt.notIn_listAt (eqU x) pl.isList (fun w hw => mem_eqAt rx fx r fs w (by simpa using hw)) ⟨.bl _, H, I, rfl, ?_⟩
    rw [show its.toArray.any (eqU x) = its.any (eqU x) by simp, any_eqU r fs]
    exact q
  · obtain ⟨its, r, pl, hz⟩ := I.tuple hq
    refine SeqAt.notIn_tupleAt (eqU x) pl (fun w hw => mem_eqAt rx fx r fs w (by simpa using hw)) ⟨.bl _, H, I, rfl, ?_⟩
    rw [show its.toArray.any (eqU x) = its.any (eqU x) by simp, any_eqU r fs]
    exact q
theorem call_len_seq : CallR X (.builtin "len") (fun xs H Q => ∃ p ys, xs = [.ref p] ∧ (SqL X.K H p ys ∨ SqT X.K H p ys) ∧ Q (.int ys.length) H) := by
  intro pins s σ H xs us Q I r h
  obtain ⟨p, ys, rfl, hq, q⟩ := h
  obtain ⟨u, rfl, rx⟩ := vals1 r
  cases rx
  have hn := line63
  rcases hq with hq | hq
  · obtain ⟨its, r', pl, hz⟩ := I.list hq
    have hlen := r'.length
    exact Calls.call_len_list pl.isList (by simp only [List.size_toArray] <;> omega) ⟨.int ys.length, H, I.tok _, ⟨s.toks + 1, by rw [List.size_toArray, hlen]⟩, q⟩
  · obtain ⟨its, r', pl, hz⟩ := I.tuple hq
    have hlen := r'.length
    exact len_tuple pl (by simp only [List.size_toArray] <;> omega) ⟨.int ys.length, H, I.tok _, ⟨s.toks + 1, by rw [List.size_toArray, hlen]⟩, q⟩
theorem call_list_of : CallR X (.type "list") (fun xs H Q => ∃ p ys, xs = [.ref p] ∧ (SqL X.K H p ys ∨ SqT X.K H p ys) ∧ ∀ l, H l = none → Q (.ref l) (upd H l (.lst ys))) := by
  intro pins s σ H xs us Q I r h
  obtain ⟨p, ys, rfl, hq, q⟩ := h
  obtain ⟨u, rfl, rx⟩ := vals1 r
  cases rx
  have fin : ∀ (its : List Value), Vals ys its → ys.length ≤ sizeLine → ∀ (h' : Heap) (c' : Nat), (∀ b o', s.heap.get? b = some o' → h'.get? b = some o') →
      h'.get? s.heap.objs.size = some { cls := .type "list", dict := none, data := .seq its.toArray c', slots := #[] } → EP X pins σ Q (.ref s.heap.objs.size) { s with heap := h' } := fun its r' hz h' c' kp e =>
    ⟨.ref s.heap.objs.size, _, I.laid (t' := s.toks) kp (Nat.le_refl _) (show ObjOk X.prog X.w _ h' _ (.lst ys) from ⟨hz, its, c', r', e⟩), rfl, q _ (I.hok.fresh (Nat.le_refl _))⟩
  rcases hq with hq | hq
  · obtain ⟨its, r', pl, hz⟩ := I.list hq
    have hlen := r'.length
    obtain ⟨o, ho, hc, n, hd⟩ := pl.isList
    exact call_list_seq p (.inl rfl) ho hc hd (fun h' c' kp e => fin its r' hz h' c' kp e) (by simp only [List.size_toArray] <;> omega)
  · obtain ⟨its, r', pl, hz⟩ := I.tuple hq
    have hlen := r'.length
    obtain ⟨o, ho, hc, n, hd⟩ := pl
    exact call_list_seq p (.inr rfl) ho hc hd (fun h' c' kp e => fin its r' hz h' c' kp e) (by simp only [List.size_toArray] <;> omega)
theorem call_tuple_of : CallR X (.type "tuple") (fun xs H Q => ∃ p ys, xs = [.ref p] ∧ ((SqL X.K H p ys ∧ ∀ l, H l = none → Q (.ref l) (upd H l (.tup ys))) ∨ (SqT X.K H p ys ∧ Q (.ref p) H))) := by
  intro pins s σ H xs us Q I r h
  obtain ⟨p, ys, rfl, h⟩ := h
  obtain ⟨u, rfl, rx⟩ := vals1 r
  cases rx
  rcases h with ⟨hq, q⟩ | ⟨hq, q⟩
  · obtain ⟨its, r', pl, hz⟩ := I.list hq
    have hlen := r'.length
    refine call_tuple_list pl.isList (fun h' kp => ?_) (by simp only [List.size_toArray] <;> omega)
    have I1 : Inv X pins σ H { s with heap := h' } := I.kept (t' := s.toks) kp
    have I2 : Inv X pins σ (upd H h'.objs.size (.tup ys)) { s with heap := h'.push { cls := .type "tuple", data := .seq its.toArray } } :=
      I1.laid (t' := s.toks) (fun b o e => Heap.get?_push_of_some _ e) (Nat.le_refl _) (show ObjOk X.prog X.w _ _ _ (.tup ys) from ⟨hz, its, r', IsTup.new _ _, _, Heap.get?_push_size _ rfl, rfl⟩)
    exact ⟨.ref h'.objs.size, _, I2, rfl, q _ (I1.hok.fresh (Nat.le_refl _))⟩
  · obtain ⟨its, r', pl, hz⟩ := I.tuple hq
    exact call_tuple_same pl ⟨.ref p, H, I, rfl, q⟩

def tyV (K : PySem.W.Frag) (T : String) (x : V) (H : Hp) : Prop := match x with
  | .str _ => T = "str"
  | .int _ => T = "int"
  | .ref p => (T = "list" ∧ ∃ xs, SqL K H p xs) ∨ (T = "tuple" ∧ ∃ o, K.lookup p = some o ∧ o.cls = .type "tuple" ∧ o.dict = none) ∨
      (T = "dict" ∧ ((∃ kvs, H p = some (.dK kvs)) ∨ ∃ kvs, H p = some (.dT kvs))) ∨ (T = "set" ∧ ∃ S n, H p = some (.set S n))
  | _ => False
theorem tyV_is {pins : List (Addr × Obj)} {σ : St} {H : Hp} {s : Shared} {T : String} {x : V} {v : Value} (I : Inv X pins σ H s) (r : RelV x v) (ty : tyV X.K T x H) :
    s.TypeIs v T ∧ ∀ a, v = .ref a → ∃ ob, s.heap.get? a = some ob ∧ ob.dict = none := by
  cases x with
  | str z =>
    obtain ⟨t, rfl⟩ := r
    cases (show T = "str" from ty)
    exact ⟨typeIs_str s z t, fun _ e => nomatch e⟩
  | int i =>
    obtain ⟨t, rfl⟩ := r
    cases (show T = "int" from ty)
    exact ⟨typeIs_int s i t, fun _ e => nomatch e⟩
  | ref p =>
    cases r
    rcases ty with ⟨rfl, xs, hq⟩ | ⟨rfl, o, hk, hc, hd⟩ | ⟨rfl, hk⟩ | ⟨rfl, S, n, hk⟩
    · obtain ⟨its, _, pl, _⟩ := I.list hq
      refine ⟨pl.isList.typeIs, fun a e => ?_⟩
      cases e
      obtain ⟨o, n, e, c, hd, _⟩ := pl
      exact ⟨o, e, hd⟩
    · refine ⟨⟨o, I.kIn p o hk, hc⟩, fun a e => ?_⟩
      cases e
      exact ⟨o, I.kIn _ o hk, hd⟩
    · have z : ∃ o, s.heap.get? p = some o ∧ o.ExactDict := by
        rcases hk with ⟨kvs, hk⟩ | ⟨kvs, hk⟩
        · obtain ⟨_, _, _, _, o, _, _, e, ex, _⟩ := I.hok p _ hk
          exact ⟨o, e, ex⟩
        · obtain ⟨_, _, _, _, o, _, _, e, ex, _⟩ := I.hok p _ hk
          exact ⟨o, e, ex⟩
      obtain ⟨o, e, ex⟩ := z
      refine ⟨⟨o, e, ex.1⟩, fun a e2 => ?_⟩
      cases e2
      exact ⟨o, e, ex.2.1⟩
    · obtain ⟨o, _, _, _, e, ex, _⟩ := I.hok p _ hk
      refine ⟨⟨o, e, ex.1⟩, fun a e2 => ?_⟩
      cases e2
      exact ⟨o, e, ex.2.1⟩
  | _ => exact False.elim ty
def tBM (K : PySem.W.Frag) (T : String) (r : V → List V → Hp → VK → Prop) (to : TE) (t : TA) : TE := fun σ H Q => to σ H fun x H1 => tyV K T x H1 ∧ t σ H1 fun xs H2 => r x xs H2 Q
variable {o e : Expr} {es : List Expr} {to : TE} {t : TA} {name : Str} {apos cpos : Pos} {T id : String} {r : V → List V → Hp → VK → Prop}
theorem pe_bm (pa : PlainAttrs T) (slot : Slot T name id) (hty : typeOf (.builtin id) = pure (.type "method_descriptor")) (hm : MtR X id r) (ho : PE X o to) (ha : PA X (e :: es) t)
    (hbase : attributeBase o name X.env (eval o X.env) = eval o X.env := by rfl)
    (hfew : ((backTo cpos (starEach (e :: es) X.env)).all (fun x => !x.1) && (backToKw cpos (keywordEach [] X.env)).all (fun x => x.1.isSome)
      && decide ((e :: es).length + ([] : List Keyword).length + (if ([] : List Keyword).isEmpty then 0 else 1) < 30)) = true := by rfl)
    (hline : (apos.endLine == cpos.line) = true := by rfl) (hs : starEach (e :: es) X.env = (false, eval e X.env) :: starEach es X.env := by rfl) (hplain : (backTo cpos (starEach es X.env)).any (·.1) = false := by rfl) :
    PE X (.Call (.Attribute o name apos) (e :: es) [] cpos) (tBM X.K T r to t) := by
  intro pins s σ H Q I h
  refine wpAny_Call_method_late hbase hfew hline rfl (thn (ho pins s σ H _ I h) fun v s1 ⟨x, H1, I1, r1, ty, q1⟩ => ?_)
  obtain ⟨h1, h2⟩ := tyV_is I1 r1 ty
  refine ⟨T, id, pa, slot, hty, h1, h2, ?_⟩
  have hA := ha cpos pins s1 σ H1 _ I1 q1
  rw [hs] at hA ⊢
  refine Calls.callWith_builtin (by show (false || (backTo cpos (starEach es X.env)).any (·.1)) = false; rw [hplain] <;> rfl) (Calls.evalArgs_plain ?_)
  exact thn hA fun us s2 ⟨vs, H2, I2, r2, q2⟩ => hm pins s2 σ H2 x vs v us Q I2 r1 r2 q2
end
end L2

namespace L2
open PySem PySem.Spec PyProof.Rows

def MtM (X : Cx) (id : String) (r : V → List V → Hp → VK → Prop) : Prop :=
  ∀ (pins : List (Addr × Obj)) (s : Shared) (σ : St) (H : Hp) (x : V) (xs : List V) (v : Value) (us : List Value) (Q : VK), Inv X pins σ H s → RelV x v → Vals xs us → r x xs H Q →
    wpAny (model X.prog X.w) X.A (call (.builtin id) (v :: us)) (EP X pins σ Q) X.xe s

theorem Vals.one : ∀ {x : V} {us : List Value}, Vals [x] us → ∃ u, us = [u] ∧ RelV x u
  | _, _, .cons r .nil => ⟨_, rfl, r⟩
theorem Vals.two : ∀ {x y : V} {us : List Value}, Vals [x, y] us → ∃ u v, us = [u, v] ∧ RelV x u ∧ RelV y v
  | _, _, _, .cons r (.cons q .nil) => ⟨_, _, rfl, r, q⟩
theorem Vals.zero : ∀ {us : List Value}, Vals [] us → us = []
  | _, .nil => rfl
theorem Vals.rep {xs : List V} {us : List Value} (h : Vals xs us) : ∀ k : Nat, Vals (List.replicate k xs).flatten (List.replicate k us).flatten
  | 0 => .nil
  | k + 1 => by
    rw [List.replicate_succ, List.replicate_succ, List.flatten_cons, List.flatten_cons]
    exact Vals.append h (Vals.rep h k)
section
variable {X : Cx} {pins : List (Addr × Obj)} {σ : St} {H : Hp} {s : Shared} {l b : Addr} {xs ys zs : List V}

theorem Inv.lset {its its' : List Value} {n : Nat} {f : Array Value → Array Value} {t' : Nat} (I : Inv X pins σ H s) (hH : H l = some (.lst xs))
    (e : s.heap.get? l = some { cls := .type "list", data := .seq its.toArray n }) (hf : f its.toArray = its'.toArray) (hv : Vals ys its') (hz : ys.length ≤ sizeLine) :
    Inv X pins σ (upd H l (.lst ys)) { s with heap := s.heap.update l (Obj.mapSeq f), toks := t' } := by
  have q := PySem.IsL.update e f
  rw [hf] at q
  refine I.write (x := l) (e := l) (by rw [hH]; exact trivial) (.inl rfl) (fun b' u hb hu => (Heap.get?_update_other s.heap (Obj.mapSeq f) (Ne.symm hb)).trans hu) ⟨_, q⟩ ?_
  exact ⟨hz, its', _, hv, q⟩
theorem Inv.lnew {its : List Value} {t' : Nat} (I : Inv X pins σ H s) (hv : Vals ys its) (hz : ys.length ≤ sizeLine) :
    Inv X pins σ (upd H s.heap.objs.size (.lst ys)) { s with heap := s.heap.push { cls := .type "list", data := .seq its.toArray }, toks := t' } :=
  I.laid (fun _ _ q => Heap.get?_push_of_some _ q) (Nat.le_refl _) ⟨hz, its, 0, hv, Heap.get?_push_size _ rfl⟩
theorem Inv.fresh (I : Inv X pins σ H s) : H s.heap.objs.size = none := I.hok.fresh (Nat.le_refl _)
theorem Inv.lstM (I : Inv X pins σ H s) (hH : H l = some (.lst xs)) : xs.length ≤ sizeLine ∧ ∃ (its : List Value) (n : Nat), Vals xs its ∧ xs.length = its.length ∧ s.heap.get? l = some { cls := .type "list", data := .seq its.toArray n } := by
  obtain ⟨z, its, n, r, e⟩ := I.hok l _ hH
  exact ⟨z, its, n, r, r.length, e⟩

end

section
variable {X : Cx}

def rAppend : V → List V → Hp → VK → Prop := fun x vs H Q => ∃ l xs y, x = .ref l ∧ vs = [y] ∧ H l = some (.lst xs) ∧ xs.length < sizeLine ∧ Q .non (upd H l (.lst (xs ++ [y])))
theorem mt_append : MtM X "list.append" rAppend := by
  intro pins s σ H x vs v us Q I rx rv h
  obtain ⟨l, xs, y, rfl, rfl, hH, hz, q⟩ := h
  cases rx
  obtain ⟨u, rfl, ru⟩ := rv.one
  obtain ⟨z, its, n, r, hl, e⟩ := I.lstM hH
  refine call_meets F.slot_list_append ⟨_, e, rfl⟩ F.entry_list_append (F.args_list_append_2 _ _) (PySem.list_append l its.toArray n u (by rw [List.size_toArray]; omega)) ⟨e, ?_⟩
  refine ⟨.non, _, I.lset (its' := its ++ [u]) hH e (by simp) (r.append (.cons ru .nil)) ?_, rfl, q⟩
  rw [List.length_append, List.length_singleton]
  omega

def rCat : R2 := fun x y H Q => ∃ l b xs zs, x = .ref l ∧ y = .ref b ∧ H l = some (.lst xs) ∧ H b = some (.lst zs) ∧ xs.length + zs.length ≤ sizeLine ∧ ∀ p, H p = none → Q (.ref p) (upd H p (.lst (xs ++ zs)))
theorem op_cat : OpR X (binaryOp .Add) rCat := by
  intro pins s σ H x y v u Q I rx ry h
  obtain ⟨l, b, xs, zs, rfl, rfl, hH, hB, hz, q⟩ := h
  cases rx
  cases ry
  obtain ⟨z, its, n, r, hl, e⟩ := I.lstM hH
  obtain ⟨z2, its2, n2, r2, hl2, e2⟩ := I.lstM hB
  refine PySem.P.add_list e e2 ?_ (by rw [List.size_toArray, List.size_toArray]; omega)
  have ea : its.toArray ++ its2.toArray = (its ++ its2).toArray := by simp
  rw [ea]
  exact ⟨.ref _, _, I.lnew (t' := s.toks) (r.append r2) (by rw [List.length_append]; omega), rfl, q _ I.fresh⟩
end

section
variable {prog : Program} {w : World} {A : Around} {E : Value → Shared → Prop} {s : Shared}
end

section
variable {X : Cx}
end
end L2

namespace Att
open PySem PySem.W PySem.Calls PyProof.Rows

theorem ints_of_wellAll {P : Params} {h : Heap} : ∀ (ns : List Int) (vs : List Value), WellAll P h vs (ns.map WData.int) → IntsAre vs ns := by
  intro ns
  induction ns with
  | nil =>
    intro vs w
    rw [List.map_nil] at w
    cases w
    exact .nil
  | cons n ns ih =>
    intro vs w
    rw [List.map_cons] at w
    cases w with
    | cons a b =>
      cases a
      exact .cons _ _ (ih _ b)

theorem script_of {l : OpenLaw} {n : Nat} (hn : l.most = some n) {P : Params} {h : Heap} {args : List WData} {vals : List Value}
    (hpre : l.row.toRowW.claim.pre args = true) (hwl : WellAll P h vals args) :
    ∃ a vs ns, vals = [Value.ref a] ∧ args = [WData.list (ns.map WData.int)] ∧ h.get? a = some { cls := .type "list", data := .seq vs.toArray } ∧ IntsAre vs ns ∧ ns.length ≤ n := by
  have hsh : WShape.hasAll [] args [.list .int] = true := (pre_splitW hpre).1
  have hc : l.pre.holds [] { args := args } = true := (pre_splitW hpre).2
  obtain ⟨d, r, rfl, h1, h2⟩ := hasAllW_cons hsh
  obtain rfl := hasAllW_nil h2
  obtain ⟨xs, rfl, h3⟩ := hasW_list h1
  obtain ⟨ns, rfl⟩ := items_int h3
  have hlen : ns.length ≤ n := by
    unfold OpenLaw.pre at hc
    have h4 : (WTm.not (.lt (.lit (.int (n : Int))) (.len (.arg 0)))).holds [] { args := [.list (ns.map .int)] } = true := by
      have h4 := (holds_andW hc).1
      rw [hn] at h4
      exact h4
    have h5 := condW_of h4 (w_not (w_lt w_lit (w_len_list (w_arg rfl))))
    rw [List.length_map] at h5
    refine Nat.le_of_not_lt fun q => ?_
    have q' : (n : Int) < ((ns.length : Nat) : Int) := by omega
    first
      | (rw [decide_eq_true q'] at h5; exact absurd h5 (by decide))
      | (simp at h5; omega)
  cases hwl with
  | cons w1 w2 =>
    cases w2
    cases w1 with
    | list ho hall => exact ⟨_, _, ns, rfl, rfl, ho, ints_of_wellAll ns _ hall, hlen⟩

theorem post_true (l : OpenLaw) (args : List WData) : l.row.toRowW.claim.post args (.bool true) args = true :=
  postW_of (r := l.row.toRowW) (X := (true == true))
    (show WShape.has [] (.bool true) .bool = true by first | rfl | decide | simp [WShape.has, WShape.arms, WShape.armsAll])
    (show (WTm.eq .res (.lit (.bool true))).value [] { args := args, res := some (.bool true), after := args } = some (.bool (true == true)) from w_eq_bool (w_res rfl) w_lit) rfl

theorem attach_call {l : OpenLaw} {n : Nat} {q : Program} {loose : List Str} {XP : (Str → Option Value) → Heap → Prop} {YP : World → Heap → Prop} {d : DefRec}
    (hn : l.most = some n) (hdf : d.params.defaults = [])
    (call : ∀ (w : World) (s₀ s₁ : Shared) (mg mb : Str → Option Value) (fa : Addr) (o : Obj) (pm cd doc : Value) (a : Addr) (vs : List Value) (ns : List Int),
      Ground q loose [] XP w s₀ mg mb s₁.heap → YP w s₁.heap →
      s₁.heap.get? fa = some o → o.data = .func (docDef d.name d.params d.body d.scope pm cd doc) → s₁.heap.CodeRec cd d.name → mg d.name = some (.ref fa) →
      s₁.heap.get? a = some { cls := .type "list", data := .seq vs.toArray } → IntsAre vs ns → ns.length ≤ n → s₁.gens = #[] →
      codeAny (model l.prog w) callerA (.call (.ref fa) ⟨[.ref a], []⟩) (fun r s' => r = .ok (.ret (.bool true)) ∧ OldK s₁.heap s'.heap ∧ s'.os = s₁.os ∧ AllBare s'.gens) s₁) :
    WalkO q loose XP YP l.row.toRowW d [] (fun f vs => PySem.call f vs) := by
  intro w s₀ s₁ mg mb G Y fa o pm cd doc dV kV ho hd hcd hD hmg hg args vals as hpre hlay hrd hwl hlo
  obtain rfl : dV = .none := Dflts.none hD hdf
  obtain rfl : kV = .none := Dflts.noKw hD
  obtain ⟨a, vs, ns, rfl, rfl, hobj, hints, hlen⟩ := script_of hn hpre hwl
  refine enter_call (codeAny_mono (call w s₀ s₁ mg mb fa o pm cd doc a vs ns G Y ho (fd_plain hd) hcd hmg hobj hints hlen hg) fun r s' hq => ?_)
  obtain ⟨rfl, h2, h3, h4⟩ := hq
  exact ⟨.inl ⟨.bool true, .bool true, [], rfl, fun _ => rfl, .bool true, post_true l _, fun _ => ⟨List.Pairwise.nil, fun _ hm => (nomatch hm)⟩⟩, h2, h3, h4⟩

section
variable {prog : Program} {w : World} {A : Around} {E : Value → Shared → Prop} {s : Shared} {K : Frag}

end
end Att

namespace L2
open PySem PySem.Spec PyProof.Rows

theorem vals_ints : ∀ {vs : List Value} {ns : List Int}, IntsAre vs ns → Vals (ns.map V.int) vs
  | _, _, .nil => .nil
  | _, _, .cons n t h => .cons ⟨t, rfl⟩ (vals_ints h)

def Only (H : Hp) : Prop := ∀ b, H b = none ∨ ∃ o xs, H b = some (.frz o (.lst xs))

theorem law_call {P : Program} {w : World} {K : PySem.W.Frag} {mg mb : Str → Option Value} {CX : CXT} {k : Nat} {fa a : Addr} {fd : FuncData} {x : Str} {sp : Sp} {s₁ : Shared} {vs : List Value} {ns : List Int}
    (KX : K.In s₁.heap) (hns : s₁.heap.Ns mainGlobals mg) (hb : s₁.heap.Ns builtinsNs mb) (hbb : ∀ x : Str, x ≠ "__name__" → mb x = bootBuiltins x) (hlim : s₁.heap.NoLimit) (hg : s₁.gens = #[])
    (ha : s₁.heap.get? a = some { cls := .type "list", data := .seq vs.toArray }) (hi : IntsAre vs ns) (hl : ns.length ≤ sizeLine) (hr : Room k callerA)
    (F : ∀ base : Heap, K.In base → base.Ns mainGlobals mg → FnOk P w K mg base CX k fa fd [x] sp) (hbind : ∀ (s : Shared) (u : Value), BindsTo s fd ⟨[u], []⟩ [(x, u)])
    (hsp : ∀ H : Hp, Only H → SqL K H a (ns.map V.int) → sp [.ref a] H (fun v _ => v = .bl true) fun _ _ _ => False)
    (hCX : ∀ H e s', CX [] H s₁ (fun _ _ _ => False) e s' → False) :
    codeAny (model P w) callerA (.call (.ref fa) ⟨[.ref a], []⟩) (fun r s' => r = .ok (.ret (.bool true)) ∧ OldK s₁.heap s'.heap ∧ s'.os = s₁.os ∧ AllBare s'.gens) s₁ := by
  have rv := vals_ints hi
  have lenV := hi.length
  -- from an abstract heap in which nothing but the script may be tracked
  have core : ∀ H : Hp, Only H → SqL K H a (ns.map V.int) → HOk P w H s₁.heap → (∀ b, H b ≠ none → b = a) → (H a ≠ none → K.lookup a = none) →
      codeAny (model P w) callerA (.call (.ref fa) ⟨[.ref a], []⟩) (fun r s' => r = .ok (.ret (.bool true)) ∧ OldK s₁.heap s'.heap ∧ s'.os = s₁.os ∧ AllBare s'.gens) s₁ := by
    intro H hO hS hok hA hK
    have base_of : ∀ {b : Addr} {o : Obj}, s₁.heap.get? b = some o → H b = none → (hidT s₁.heap H).get? b = some o := fun e n => hidT_get e n
    have noA : ∀ {b : Addr} {o : Obj} {es : Array DictEntry} {ep : Nat}, s₁.heap.get? b = some o → o.data = .dict es ep → H b = none := fun {b o es ep} e d => by
      cases q : H b with
      | none => rfl
      | some u =>
        have e' : b = a := hA b (by rw [q]; simp)
        subst e'
        rw [ha] at e; cases e
        have d' : Data.seq vs.toArray _ = Data.dict es ep := d
        cases d'
    have nsK : ∀ {b : Addr} {m : Str → Option Value}, s₁.heap.Ns b m → (hidT s₁.heap H).Ns b m := fun {b m} ⟨o, es, ep, e, d, r⟩ => ⟨o, es, ep, base_of e (noA e d), d, r⟩
    have hKb : K.In (hidT s₁.heap H) := fun b o e => base_of (KX b o e) (by
      cases q : H b with
      | none => rfl
      | some u =>
        have e' : b = a := hA b (by rw [q]; simp)
        subst e'
        rw [hK (by rw [q]; simp)] at e; cases e)
    have hM : Mod K mg (hidT s₁.heap H) := ⟨hKb, nsK hns, ⟨mb, nsK hb, hbb⟩, let ⟨mc, h1, h2⟩ := hlim; ⟨mc, nsK h1, h2⟩⟩
    have e0 : Env0 P w K mg (hidT s₁.heap H) callerA [] s₁ H := ⟨rfl, hM, fun b o e => of_hidT e, Nat.le_of_eq (hidT_size _ _), trivial, fun b hb => absurd (show b ∈ ([] : List Addr) from hb) (by simp), hok, .of_eq hg⟩
    refine codeAny_mono ((F _ hKb (nsK hns)).run callerA [] s₁ H ⟨[.ref a], []⟩ [.ref a] [.ref a] _ _ hr e0 (hbind s₁ (.ref a)) (.cons rfl .nil) (hsp H hO hS)) fun r s' h => ?_
    cases r with
    | error e => exact (hCX H e s' h).elim
    | ok fl =>
      cases fl with
      | next => exact False.elim h
      | brk => exact False.elim h
      | cont => exact False.elim h
      | ret u =>
        obtain ⟨v, H', os, bare, un, hok', r', q⟩ := h
        have q' : v = .bl true := q
        subst q'
        obtain rfl : u = Value.bool true := r'
        refine ⟨rfl, OldK.of_keep fun b o e => ?_, os, bare⟩
        cases q : H b with
        | none => exact un.keep b o e q (by intro z; exact absurd (show b ∈ ([] : List Addr) from z) (by simp)) (by simp)
        | some u =>
          rcases hO b with z | ⟨ob, xs, z⟩
          · rw [q] at z; cases z
          · have z2 := un.frzs b ob _ z
            obtain ⟨e1, _⟩ := hok b _ z
            obtain ⟨e2, _⟩ := hok' b _ z2
            rw [e] at e1; cases e1
            exact e2
  cases hk : K.lookup a with
  | some o =>
    -- the script is one of the module's own objects
    have e := KX a o hk
    rw [ha] at e
    cases e
    refine core (fun _ => none) (fun _ => .inl rfl) (.inr ⟨_, vs.toArray, _, hk, rfl, rfl, rfl, by rw [List.size_toArray, lenV]; exact hl, by simpa using rv⟩) (fun b u z => by have z' : (none : Option HO) = some u := z; cases z') (fun b z => absurd rfl z) fun z => absurd rfl z
  | none =>
    refine core (fun b => if b = a then some (.frz { cls := .type "list", data := .seq vs.toArray } (.lst (ns.map V.int))) else none) (fun b => ?_) (.inl (.inr ⟨{ cls := .type "list", data := .seq vs.toArray }, if_pos rfl⟩)) (fun b u z => ?_) (fun b z => ?_) fun _ => hk
    · by_cases hb : b = a
      · exact .inr ⟨_, _, if_pos hb⟩
      · exact .inl (if_neg hb)
    · by_cases hb : b = a
      · have z' := (if_pos hb).symm.trans z
        cases z'
        subst hb
        exact ⟨ha, by rw [List.length_map]; exact hl, vs, _, rv, ha⟩
      · have z' := (if_neg hb).symm.trans z
        cases z'
    · by_cases hb : b = a
      · exact hb
      · exact absurd (if_neg hb) z
end L2

namespace L2
open PySem PySem.Spec PyProof.Rows

theorem walk_of {l : PySem.W.OpenLaw} {n k : Nat} {q : Program} {loose : List Str} {XP : (Str → Option Value) → Heap → Prop} {YP : World → Heap → Prop} {d : DefRec} {K : Params → PySem.W.Frag} {CX : World → CXT} {sp : World → Sp} {x : Str}
    (hn : l.most = some n) (hn2 : n ≤ sizeLine) (hdf : d.params.defaults = []) (hr : Room k callerA)
    (hY : ∀ (w : World) (h : Heap), YP w h → (K w.params).In h)
    (F : ∀ (w : World) (mg : Str → Option Value) (fa : Addr) (h : Heap), (K w.params).In h → h.Ns mainGlobals mg → mg d.name = some (.ref fa) →
      ∃ fd : FuncData, (∀ (s : Shared) (u : Value), BindsTo s fd ⟨[u], []⟩ [(x, u)]) ∧
        ∀ base : Heap, (K w.params).In base → base.Ns mainGlobals mg → FnOk l.prog w (K w.params) mg base (CX w) k fa fd [x] (sp w))
    (hsp : ∀ (w : World) (H : Hp) (a : Addr) (ns : List Int), ns.length ≤ n → Only H → SqL (K w.params) H a (ns.map V.int) → sp w [.ref a] H (fun v _ => v = .bl true) fun _ _ _ => False)
    (hCX : ∀ (w : World) (H : Hp) (s : Shared) (e : Value) (s' : Shared), CX w [] H s (fun _ _ _ => False) e s' → False) :
    PySem.W.WalkO q loose XP YP l.row.toRowW d [] (fun f vs => PySem.call f vs) := by
  refine Att.attach_call hn hdf fun w s₀ s₁ mg mb fa o pm cd doc a vs ns G Y ho hd hcd hmg hobj hints hlen hg => ?_
  have KX := hY w _ Y
  obtain ⟨fd, hb, hF⟩ := F w mg fa _ KX G.T.g hmg
  exact law_call KX G.T.g G.T.b G.T.builtins G.T.nolimit hg hobj hints (Nat.le_trans hlen hn2) hr hF hb (fun H hO hS => hsp w H a ns hlen hO hS) fun H e s' => hCX w H s₁ e s'
end L2


namespace L2
open PySem PySem.Spec PyProof.Rows

def defArgs (s : Stmt) : Arguments := match s with
  | .FunctionDef _ a _ _ _ _ _ _ _ _ => a
  | _ => { posonlyargs := [], args := [], vararg := none, kwonlyargs := [], kw_defaults := [], kwarg := none, defaults := [] }
def defBody (s : Stmt) : List Stmt := match s with
  | .FunctionDef _ _ b _ _ _ _ _ _ _ => b
  | _ => []
def defScope (s : Stmt) : Scope := match s with
  | .FunctionDef _ _ _ _ _ _ sc _ _ _ => sc
  | _ => { kind := .function, names := [], isGenerator := false, isCoroutine := false }

abbrev CX0 : CXT := fun _ _ _ _ _ _ => False
abbrev E0 : XK := fun _ _ _ => False
theorem pass0 {X : Cx} : Passes CX0 X E0 := fun _ _ _ _ _ _ _ h => h.elim

structure Fun (K : PySem.W.Frag) (x qual : Str) (st : Stmt) (f : Addr) (fd : FuncData) : Prop where
  ex : ∃ (oc : Value) (od : Option Addr) (kV doc pm : Value) (an : Option Addr) (cdv ct : Value) (osl : Array (Option Value)),
    fd = PySem.W.fnOf x qual (defArgs st) (defBody st) (defScope st) .none kV doc pm an cdv ct ∧ K.lookup f = some ⟨oc, od, .func fd, osl⟩ ∧ PySem.W.codeIn K cdv qual = true
  kp : PySem.W.keepIn K (.ref f) = true
section
variable {P : Program} {w : World} {K : PySem.W.Frag} {mg : Str → Option Value} {base : Heap}
theorem Fun.ok {x qual : Str} {st : Stmt} {f : Addr} {fd : FuncData} {N ps : List Str} {k : Nat} {sp : Sp} (F : Fun K x qual st f fd) (S : FnScope N ps (defScope st)) (len : ∀ vs H Q E, sp vs H Q E → vs.length = ps.length)
    (hbody : ∀ (cdv : Value) (A : Around) (outer : List Env) (s : Shared) (H : Hp) (vs : List V) (Q : VK) (E : XK), Room k (A.deeper (envOfC qual (defScope st) s.heap.objs.size f cdv)) → sp vs H Q E →
      ∃ t, PSs (cxOf CX0 P w K mg base N qual (defScope st) f cdv A outer s H E).nox (defBody st) t ∧ t { nx := fun _ H' => Q .non H', rt := Q } (start N vs) H) : FnOk P w K mg base CX0 (k + 1) f fd ps sp := by
  obtain ⟨oc, od, kV, doc, pm, an, cdv, ct, osl, rfl, lk, hcd⟩ := F.ex
  refine fn_of lk hcd S len fun A outer s H vs Q E hr hsp => ?_
  obtain ⟨t, h, q⟩ := hbody cdv A outer s H vs Q E hr hsp
  exact ⟨t, h.nox, q⟩
theorem Fun.binds {x qual : Str} {st : Stmt} {f : Addr} {fd : FuncData} {ps : List Str} (F : Fun K x qual st f fd)
    (h : ∀ (kV doc pm : Value) (an : Option Addr) (cdv ct : Value) (us : List Value), us.length = ps.length → bindArgs (PySem.W.fnOf x qual (defArgs st) (defBody st) (defScope st) .none kV doc pm an cdv ct) ⟨us, []⟩ = pure (ps.zip us)) : Binds K fd ps [] := by
  obtain ⟨oc, od, kV, doc, pm, an, cdv, ct, osl, rfl, lk, hcd⟩ := F.ex
  exact .all (h kV doc pm an cdv ct)
theorem fun_mk {x qual : Str} {st : Stmt} {f : Addr} {oc : Value} {od an : Option Addr} {osl : Array (Option Value)} {kV doc pm cdv ct : Value} (l : K.lookup f = some ⟨oc, od, .func (PySem.W.fnOf x qual (defArgs st) (defBody st) (defScope st) .none kV doc pm an cdv ct), osl⟩)
    (c : PySem.W.codeIn K cdv qual = true) (k : PySem.W.keepIn K (.ref f) = true) : Fun K x qual st f (PySem.W.fnOf x qual (defArgs st) (defBody st) (defScope st) .none kV doc pm an cdv ct) := ⟨⟨oc, od, kV, doc, pm, an, cdv, ct, osl, rfl, l, c⟩, k⟩
end
section
variable {X : Cx}
theorem pv (i : Nat) {x : Str} {pos : Pos} (hN : X.N[i]? = some x := by rfl) (hv : Vis X.env.scope x := by first | exact Or.inl rfl | exact Or.inr (Or.inl rfl) | exact Or.inr (Or.inr rfl)) (hd : (x == ("__debug__" : Str)) = false := by decide)
    (hcd : (x == ("__classdict__" : Str)) = false := by decide) : PE X (.Name x pos) (tVar i) := pe_var hN hv hd hcd
end

def Same (H H' : Hp) : Prop := ∀ b o, H b = some o → H' b = some o
theorem Same.refl (H : Hp) : Same H H := fun _ _ h => h
theorem Same.trans {H H1 H2 : Hp} (a : Same H H1) (b : Same H1 H2) : Same H H2 := fun c o h => b c o (a c o h)
theorem Same.free {H H' : Hp} (e : Same H H') {l : Addr} (h : H' l = Option.none) : H l = Option.none := by
  cases q : H l with
  | none => rfl
  | some o =>
    rw [e l o q] at h
    cases h
theorem Same.seq {K : PySem.W.Frag} {H H' : Hp} {a : Addr} {xs : List V} (e : Same H H') (h : SqL K H a xs) : SqL K H' a xs := by
  rcases h with (h | ⟨o, h⟩) | h
  · exact .inl (.inl (e _ _ h))
  · exact .inl (.inr ⟨o, e _ _ h⟩)
  · exact .inr h

end L2

namespace L2
open PySem PySem.Spec PyProof.Rows

structure Cal (P : Program) (w : World) (K : PySem.W.Frag) (mg : Str → Option Value) (base : Heap) (CX : CXT) (x : Str) (k : Nat) (ps : List Str) (sp : Sp) : Prop where
  ex : ∃ f fd, FnOk P w K mg base CX k f fd ps sp ∧ Binds K fd ps [] ∧ PySem.W.keepIn K (.ref f) = true ∧ mg x = some (.ref f)

section
variable {X : Cx} {CX : CXT} {x : Str} {j k : Nat} {ps : List Str} {sp : Sp} {E : XK} {p pos : Pos} {e : Expr} {es : List Expr} {t : TA}
theorem pe_callX (C : Cal X.prog X.w X.K X.mg X.base CX x j ps sp) (hr : Room k X.A) (hg : Gl X x) (hx : Passes CX X E) (ha : PA X (e :: es) t) (hj : j ≤ k := by decide) (hdb : (x == ("__debug__" : Str)) = false := by decide)
    (he : starEach (e :: es) X.env = (false, eval e X.env) :: starEach es X.env := by rfl) (hpl : (backTo pos (starEach es X.env)).any (·.1) = false := by rfl) :
    PE X (.Call (.Name x p) (e :: es) [] pos) (tCall sp [] E t) := by
  obtain ⟨f, fd, F, b, kp, m⟩ := C.ex
  exact pe_call F (hr.mono hj) hg m kp b .nil hx ha hdb he hpl
theorem pe_callC (C : Cal X.prog X.w X.K X.mg X.base CX0 x j ps sp) (hr : Room k X.A) (hg : Gl X x) (ha : PA X (e :: es) t) (hj : j ≤ k := by decide) (hdb : (x == ("__debug__" : Str)) = false := by decide)
    (he : starEach (e :: es) X.env = (false, eval e X.env) :: starEach es X.env := by rfl) (hpl : (backTo pos (starEach es X.env)).any (·.1) = false := by rfl) :
    PE X (.Call (.Name x p) (e :: es) [] pos) (tCall sp [] E0 t) := pe_callX C hr hg pass0 ha hj hdb he hpl
end

inductive Kn where
  | non | bl | int | str | lst | tup | dct
def tyK (T : String) : Option Kn :=
  if T = "int" then some .int else if T = "bool" then some .bl else if T = "str" then some .str else if T = "list" then some .lst else if T = "tuple" then some .tup else none
theorem tyK_int : tyK "int" = some .int := rfl
theorem tyK_bool : tyK "bool" = some .bl := rfl
theorem tyK_str : tyK "str" = some .str := rfl
theorem tyK_list : tyK "list" = some .lst := rfl
theorem tyK_tuple : tyK "tuple" = some .tup := rfl
def isiB : Kn → Kn → Bool
  | .int, .int => true
  | .bl, .int => true
  | .bl, .bl => true
  | .str, .str => true
  | .lst, .lst => true
  | .tup, .tup => true
  | _, _ => false
def dctO (a : Addr) : HO := .ext fun h => ∃ o, h.get? a = some o ∧ o.cls = .type "dict"
def Kd (K : PySem.W.Frag) (H : Hp) : V → Kn → Prop
  | .non, k => k = .non
  | .bl _, k => k = .bl
  | .int _, k => k = .int
  | .str _, k => k = .str
  | .ref a, k => (k = .lst ∧ ∃ xs, SqL K H a xs) ∨ (k = .tup ∧ ∃ xs, SqT K H a xs) ∨ (k = .dct ∧ H a = some (dctO a))
  | _, _ => False
def rIsi (K : PySem.W.Frag) : List V → Hp → VK → Prop := fun xs H Q => ∃ x T kt k, xs = [x, .ty T] ∧ tyK T = some kt ∧ Kd K H x k ∧ Q (.bl (isiB k kt)) H
theorem tyK_some {T : String} {kt : Kn} (h : tyK T = some kt) : (T = "int" ∧ kt = .int) ∨ (T = "bool" ∧ kt = .bl) ∨ (T = "str" ∧ kt = .str) ∨ (T = "list" ∧ kt = .lst) ∨ (T = "tuple" ∧ kt = .tup) := by
  unfold tyK at h
  split at h
  · next e => exact .inl ⟨e, (Option.some.inj h).symm⟩
  split at h
  · next e => exact .inr (.inl ⟨e, (Option.some.inj h).symm⟩)
  split at h
  · next e => exact .inr (.inr (.inl ⟨e, (Option.some.inj h).symm⟩))
  split at h
  · next e => exact .inr (.inr (.inr (.inl ⟨e, (Option.some.inj h).symm⟩)))
  split at h
  · next e => exact .inr (.inr (.inr (.inr ⟨e, (Option.some.inj h).symm⟩)))
  · cases h
section
variable {X : Cx}
theorem call_isi : CallR X (.builtin "isinstance") (rIsi X.K) := by
  intro pins s σ H xs us Q I r h
  obtain ⟨x, T, kt, k, rfl, ht, hk, q⟩ := h
  obtain ⟨u, w', rfl, rx, rt⟩ := vals2 r
  obtain rfl : w' = Value.type T := rt
  have f1 : EP X pins σ Q (.bool (isiB k kt)) s := ⟨.bl _, H, I, rfl, q⟩
  have f2 : EP X pins σ Q (.bool (isiB k kt)) { s with toks := s.toks + 1 } := ⟨.bl _, H, I.tok _, rfl, q⟩
  have hT := tyK_some ht
  clear ht q
  cases x with
  | non =>
    obtain rfl : u = Value.none := rx
    obtain rfl : k = .non := hk
    rcases hT with ⟨rfl, rfl⟩ | ⟨rfl, rfl⟩ | ⟨rfl, rfl⟩ | ⟨rfl, rfl⟩ | ⟨rfl, rfl⟩
    · exact IsiPair.NoneType_int f2
    · exact IsiPair.NoneType_bool f2
    · exact IsiPair.NoneType_str f2
    · exact IsiPair.NoneType_list f2
    · exact IsiPair.NoneType_tuple f2
  | bl b =>
    obtain rfl : u = Value.bool b := rx
    obtain rfl : k = .bl := hk
    rcases hT with ⟨rfl, rfl⟩ | ⟨rfl, rfl⟩ | ⟨rfl, rfl⟩ | ⟨rfl, rfl⟩ | ⟨rfl, rfl⟩
    · first | exact IsiPair.bool_int f1 | exact IsiPair.bool_int f2
    · exact IsiPair.bool_bool f1
    · exact IsiPair.bool_str f2
    · exact IsiPair.bool_list f2
    · exact IsiPair.bool_tuple f2
  | int i =>
    obtain ⟨t, rfl⟩ := rx
    obtain rfl : k = .int := hk
    rcases hT with ⟨rfl, rfl⟩ | ⟨rfl, rfl⟩ | ⟨rfl, rfl⟩ | ⟨rfl, rfl⟩ | ⟨rfl, rfl⟩
    · exact IsiPair.int_int f1
    · exact IsiPair.int_bool f2
    · exact IsiPair.int_str f2
    · exact IsiPair.int_list f2
    · exact IsiPair.int_tuple f2
  | str z =>
    obtain ⟨t, rfl⟩ := rx
    obtain rfl : k = .str := hk
    rcases hT with ⟨rfl, rfl⟩ | ⟨rfl, rfl⟩ | ⟨rfl, rfl⟩ | ⟨rfl, rfl⟩ | ⟨rfl, rfl⟩
    · exact IsiPair.str_int f2
    · exact IsiPair.str_bool f2
    · exact IsiPair.str_str f1
    · exact IsiPair.str_list f2
    · exact IsiPair.str_tuple f2
  | ref a =>
    obtain rfl : u = Value.ref a := rx
    rcases hk with ⟨rfl, xs, hq⟩ | ⟨rfl, xs, hq⟩ | ⟨rfl, hq⟩
    · obtain ⟨its, _, ⟨o, n, e, c, _, _⟩, _⟩ := I.list hq
      rcases hT with ⟨rfl, rfl⟩ | ⟨rfl, rfl⟩ | ⟨rfl, rfl⟩ | ⟨rfl, rfl⟩ | ⟨rfl, rfl⟩
      · exact IsiPair.list_int e c f2
      · exact IsiPair.list_bool e c f2
      · exact IsiPair.list_str e c f2
      · exact IsiPair.list_list e c f1
      · exact IsiPair.list_tuple e c f2
    · obtain ⟨its, _, ⟨o, e, c, _⟩, _⟩ := I.tuple hq
      rcases hT with ⟨rfl, rfl⟩ | ⟨rfl, rfl⟩ | ⟨rfl, rfl⟩ | ⟨rfl, rfl⟩ | ⟨rfl, rfl⟩
      · exact IsiPair.tuple_int e c f2
      · exact IsiPair.tuple_bool e c f2
      · exact IsiPair.tuple_str e c f2
      · exact IsiPair.tuple_list e c f2
      · exact IsiPair.tuple_tuple e c f1
    · obtain ⟨⟨o, e, c⟩, _⟩ := I.hok a _ hq
      rcases hT with ⟨rfl, rfl⟩ | ⟨rfl, rfl⟩ | ⟨rfl, rfl⟩ | ⟨rfl, rfl⟩ | ⟨rfl, rfl⟩
      · exact IsiPair.dict_int e c f2
      · exact IsiPair.dict_bool e c f2
      · exact IsiPair.dict_str e c f2
      · exact IsiPair.dict_list e c f2
      · exact IsiPair.dict_tuple e c f2
  | _ => exact False.elim hk
end

section
variable {X : Cx} {tg : Expr}
end
def ForW (J : It) (g : TG) (tb : TS) (D : Ends) (σ : St) (H : Hp) : Prop := ∃ W : Nat → Nat → St → Hp → Prop, (∃ m, W 0 m σ H) ∧ ∀ i m σ H, W i m σ H →
  (J.stop i H ∧ D.nx σ H) ∨ (J.go i H ∧ ∃ N : St → Hp → Prop, (∀ σ' H', N σ' H' → ∃ m', m' < m ∧ W (i + 1) m' σ' H') ∧ ∀ x H', J.yld i H x H' → g x σ H' fun σ2 H2 => tb { D with nx := N, ct := N, bk := D.nx } σ2 H2)
theorem tFor_eq {wi : TI} {g : TG} {tb : TS} {D : Ends} {σ : St} {H : Hp} : tFor wi g tb D σ H = wi σ H fun J H1 => ForW J g tb D σ H1 := rfl
section
variable {K : PySem.W.Frag} {a : Addr} {xs : List V} {g : TG} {tb : TS} {D : Ends} {σ : St} {H : Hp} {lo : Int} {n : Nat}
theorem forW_range (Pv : Nat → St → Hp → Prop) (h0 : Pv 0 σ H)
    (hs : ∀ i σ H, i < n → Pv i σ H → g (.int (lo + i)) σ H fun σ2 H2 => tb { D with nx := Pv (i + 1), ct := Pv (i + 1), bk := D.nx } σ2 H2) (hd : ∀ σ H, Pv n σ H → D.nx σ H) : ForW (Itr lo n) g tb D σ H := for_range Pv h0 hs hd
end

theorem menu_at {xs : List Int} {m : Int} (h0 : 0 ≤ m) (h1 : m < xs.length) : ∃ z, z ∈ xs ∧ (xs.map V.int)[m.toNat]? = some (.int z) := by
  have h : m.toNat < xs.length := by omega
  exact ⟨xs[m.toNat], List.getElem_mem h, by rw [List.getElem?_map, List.getElem?_eq_getElem h]; rfl⟩

structure Bits (n : Nat) (i : Int) : Prop where
  lt : i.natAbs < 2 ^ n
theorem Bits.mono {m n : Nat} {i : Int} (h : Bits m i) (le : m ≤ n) : Bits n i := ⟨Nat.lt_of_lt_of_le h.lt (Nat.pow_le_pow_right (by decide) le)⟩
theorem Bits.add {n : Nat} {i j : Int} (h : Bits n i) (h' : Bits n j) : Bits (n + 1) (i + j) := ⟨by
  have := Int.natAbs_add_le i j
  have := h.lt
  have := h'.lt
  rw [Nat.pow_succ]
  omega⟩
theorem Bits.neg {n : Nat} {i : Int} (h : Bits n i) : Bits n (-i) := ⟨by rw [Int.natAbs_neg]; exact h.lt⟩
theorem Bits.sub {n : Nat} {i j : Int} (h : Bits n i) (h' : Bits n j) : Bits (n + 1) (i - j) := by
  rw [Int.sub_eq_add_neg]
  exact h.add h'.neg
theorem Bits.of {n : Nat} {i b : Int} (lo : -b ≤ i) (hi : i ≤ b) (hb : b < ((2 ^ n : Nat) : Int)) : Bits n i := ⟨by omega⟩
theorem Bits.le {n : Nat} {i j : Int} (h : Bits n j) (le : i.natAbs ≤ j.natAbs) : Bits n i := ⟨Nat.lt_of_le_of_lt le h.lt⟩
theorem Bits.bits {n : Nat} {i : Int} (h : Bits n i) : Builtin.Int.intBits i ≤ n := by
  unfold Builtin.Int.intBits
  split
  · exact Nat.zero_le _
  · have q := h.lt
    rcases Nat.eq_zero_or_pos i.natAbs with h0 | hp
    · rw [h0] at q ⊢
      have : (0 : Nat).log2 = 0 := by decide
      rename_i hz
      exact absurd (by simp; omega) hz
    · have := (Nat.log2_lt (Nat.ne_of_gt hp)).mpr q
      omega
def CMulB (i j : Int) : Prop := Bits 100000 i ∧ Bits 100000 j
theorem CMulB.ok {i j : Int} (h : CMulB i j) : IntMulOk i j := IntMulOk.of_bits (Nat.le_trans h.1.bits (by decide)) (Nat.le_trans h.2.bits (by decide))
def CDivB (_ j : Int) : Prop := 0 < j ∧ Bits 8999 j
theorem CDivB.ok {i j : Int} (h : CDivB i j) : Builtin.divisionGoesByPylong i j = false := by
  refine PyProof.noPylong_of_log2 ?_
  have q := h.2.lt
  have := (Nat.log2_lt (n := j.natAbs) (k := 8999) (by have := h.1; omega)).mpr q
  omega
section
variable {X : Cx}
theorem op_mulB : OpR X (binaryOp .Mult) (rI CMulB fun i j => .int (i * j)) := opI fun _ _ _ _ _ _ _ hc q => mul_int q hc.ok
theorem op_fdivB : OpR X (binaryOp .FloorDiv) (rI CDivB fun i j => .int (i / j)) := opI fun i j _ _ _ _ _ hc q => by
  have h1 : (0 : Int) < j := hc.1
  exact floordiv_int (by omega) (by rw [Int.fdiv_eq_ediv_of_nonneg i (by omega)]; exact q) (.inl hc.ok)
def tMenu (t : TA) (ti : TE) : TE := fun σ H Q => t σ H fun xs H1 => xs.length ≤ sizeLine ∧ ti σ H1 fun y H2 => ∃ i v, y = .int i ∧ 0 ≤ i ∧ xs[i.toNat]? = some v ∧ Q v H2
end
section
variable {X : Cx} {es : List Expr} {b : Expr} {t : TA} {ti : TE} {pos p2 : Pos}
theorem pe_menu (h : PA X es t) (hb : PE X b ti) (hs : PlainIx b) : PE X (.Subscript (.List es p2) b pos) (tMenu t ti) := by
  intro pins s σ H Q I hq
  refine Subscript_ (wpAny_List_spliced (thn (h p2 pins s σ H _ I hq) fun us s1 ⟨xs, H1, I1, r, z, q⟩ => ⟨by rw [← r.length]; exact z, ?_⟩))
  have hf : H1 s1.heap.objs.size = none := I1.hok.fresh (Nat.le_refl _)
  have I2 : Inv X (pins ++ [(s1.heap.objs.size, { cls := .type "list", data := .seq us.toArray })]) σ H1 { s1 with heap := s1.heap.push { cls := .type "list", data := .seq us.toArray } } := by
    have J : Inv X pins σ H1 { s1 with heap := s1.heap.push { cls := .type "list", data := .seq us.toArray } } := I1.kept (t' := s1.toks) fun b u e => Heap.get?_push_of_some _ e
    refine J.pins_of fun p hp => ?_
    rcases List.mem_append.mp hp with hp | hp
    · exact J.pin p (List.mem_append_right _ hp)
    · have e := List.mem_singleton.mp hp
      subst e
      exact ⟨Heap.get?_push_size _ rfl, hf, Nat.ne_of_gt I1.lt, I1.nofs (Nat.le_refl _), fun v z => by cases z⟩
  refine thn (hb _ _ σ H1 _ I2 q) fun u s2 ⟨y, H2, I3, ry, i, v, e, h0, ha, q2⟩ => ?_
  subst e
  obtain ⟨t', rfl⟩ := ry
  obtain ⟨hp, _⟩ := I3.pin (s1.heap.objs.size, { cls := .type "list", data := .seq us.toArray }) (List.mem_append_right _ (List.mem_append_right _ (List.mem_singleton.mpr rfl)))
  obtain ⟨w, ew, rw'⟩ := r.get ha
  have I4 : Inv X pins σ H2 s2 := I3.pins_of fun p hp => I3.pin p (List.mem_append_right _ (List.mem_append_left _ hp))
  have hl := r.length
  have hn := line63
  have hi : i.toNat < us.length := (List.getElem?_eq_some_iff.mp ew).1
  have fin : EP X pins σ Q w s2 := ⟨v, H2, I4, rw', q2⟩
  exact item_listR (l := s1.heap.objs.size) ⟨_, hp, rfl, _, rfl⟩ h0 (by omega) (by simpa using ew) fin (hs _ _)
end
theorem isi_non_bl : isiB .non .bl = false := rfl
theorem isi_non_int : isiB .non .int = false := rfl
theorem isi_non_str : isiB .non .str = false := rfl
theorem isi_non_lst : isiB .non .lst = false := rfl
theorem isi_non_tup : isiB .non .tup = false := rfl
theorem isi_bl_bl : isiB .bl .bl = true := rfl
theorem isi_bl_int : isiB .bl .int = true := rfl
theorem isi_bl_str : isiB .bl .str = false := rfl
theorem isi_bl_lst : isiB .bl .lst = false := rfl
theorem isi_bl_tup : isiB .bl .tup = false := rfl
theorem isi_int_bl : isiB .int .bl = false := rfl
theorem isi_int_int : isiB .int .int = true := rfl
theorem isi_int_str : isiB .int .str = false := rfl
theorem isi_int_lst : isiB .int .lst = false := rfl
theorem isi_int_tup : isiB .int .tup = false := rfl
theorem isi_str_bl : isiB .str .bl = false := rfl
theorem isi_str_int : isiB .str .int = false := rfl
theorem isi_str_str : isiB .str .str = true := rfl
theorem isi_str_lst : isiB .str .lst = false := rfl
theorem isi_str_tup : isiB .str .tup = false := rfl
theorem isi_lst_bl : isiB .lst .bl = false := rfl
theorem isi_lst_int : isiB .lst .int = false := rfl
theorem isi_lst_str : isiB .lst .str = false := rfl
theorem isi_lst_lst : isiB .lst .lst = true := rfl
theorem isi_lst_tup : isiB .lst .tup = false := rfl
theorem isi_tup_bl : isiB .tup .bl = false := rfl
theorem isi_tup_int : isiB .tup .int = false := rfl
theorem isi_tup_str : isiB .tup .str = false := rfl
theorem isi_tup_lst : isiB .tup .lst = false := rfl
theorem isi_tup_tup : isiB .tup .tup = true := rfl
theorem isi_dct_bl : isiB .dct .bl = false := rfl
theorem isi_dct_int : isiB .dct .int = false := rfl
theorem isi_dct_str : isiB .dct .str = false := rfl
theorem isi_dct_lst : isiB .dct .lst = false := rfl
theorem isi_dct_tup : isiB .dct .tup = false := rfl
theorem Kd_non {K : PySem.W.Frag} {H : Hp} {k : Kn} : Kd K H .non k = (k = .non) := rfl
theorem Kd_bl {K : PySem.W.Frag} {H : Hp} {k : Kn} {b : Bool} : Kd K H (.bl b) k = (k = .bl) := rfl
theorem Kd_int {K : PySem.W.Frag} {H : Hp} {k : Kn} {i : Int} : Kd K H (.int i) k = (k = .int) := rfl
theorem Kd_str {K : PySem.W.Frag} {H : Hp} {k : Kn} {z : Str} : Kd K H (.str z) k = (k = .str) := rfl
theorem Kd.tup {K : PySem.W.Frag} {H : Hp} {a : Addr} {xs : List V} (h : SqT K H a xs) : Kd K H (.ref a) .tup := .inr (.inl ⟨rfl, xs, h⟩)
theorem Kd.lst {K : PySem.W.Frag} {H : Hp} {a : Addr} {xs : List V} (h : SqL K H a xs) : Kd K H (.ref a) .lst := .inl ⟨rfl, xs, h⟩
theorem Kd.dct {K : PySem.W.Frag} {H : Hp} {a : Addr} (h : H a = some (dctO a)) : Kd K H (.ref a) .dct := .inr (.inr ⟨rfl, h⟩)
theorem Kd.ref {K : PySem.W.Frag} {H : Hp} {a : Addr} {k : Kn} (h : Kd K H (.ref a) k) : k ≠ .int ∧ k ≠ .bl ∧ k ≠ .str ∧ k ≠ .non := by
  rcases h with ⟨rfl, _⟩ | ⟨rfl, _⟩ | ⟨rfl, _⟩ <;> exact ⟨(by intro z; cases z), (by intro z; cases z), (by intro z; cases z), (by intro z; cases z)⟩
theorem sc_non_non : scal .non .non = true := rfl
theorem sc_non_int {x2 : Int} : scal .non (.int x2) = true := rfl
theorem sc_int_non {x1 : Int} : scal (.int x1) .non = true := rfl
theorem sc_non_bl {x2 : Bool} : scal .non (.bl x2) = true := rfl
theorem sc_bl_non {x1 : Bool} : scal (.bl x1) .non = true := rfl
theorem sc_non_str {x2 : Str} : scal .non (.str x2) = true := rfl
theorem sc_str_non {x1 : Str} : scal (.str x1) .non = true := rfl
theorem sc_int_int {x1 : Int} {x2 : Int} : scal (.int x1) (.int x2) = true := rfl
theorem sc_bl_bl {x1 : Bool} {x2 : Bool} : scal (.bl x1) (.bl x2) = true := rfl
theorem sc_str_str {x1 : Str} {x2 : Str} : scal (.str x1) (.str x2) = true := rfl
theorem sc_int_str {x1 : Int} {x2 : Str} : scal (.int x1) (.str x2) = true := rfl
theorem sc_str_int {x1 : Str} {x2 : Int} : scal (.str x1) (.int x2) = true := rfl
theorem sc_bl_str {x1 : Bool} {x2 : Str} : scal (.bl x1) (.str x2) = true := rfl
theorem sc_str_bl {x1 : Str} {x2 : Bool} : scal (.str x1) (.bl x2) = true := rfl
theorem cxK {CX : CXT} {P : Program} {w : World} {K : PySem.W.Frag} {mg : Str → Option Value} {base : Heap} {N : List Str} {qual : Str} {scope : Scope} {f : Addr} {cd : Value} {A : Around} {outer : List Env} {s : Shared} {H : Hp} {E : XK} :
    (cxOf CX P w K mg base N qual scope f cd A outer s H E).K = K := rfl
theorem b_len : bootBuiltins "len" = some (.builtin "len") := by decide +kernel
theorem b_max : bootBuiltins "max" = some (.builtin "max") := by decide +kernel
theorem b_min : bootBuiltins "min" = some (.builtin "min") := by decide +kernel
theorem b_isinstance : bootBuiltins "isinstance" = some (.builtin "isinstance") := by decide +kernel
theorem b_int : bootBuiltins "int" = some (.type "int") := by decide +kernel
theorem b_bool : bootBuiltins "bool" = some (.type "bool") := by decide +kernel
theorem b_str : bootBuiltins "str" = some (.type "str") := by decide +kernel
theorem b_list : bootBuiltins "list" = some (.type "list") := by decide +kernel
theorem b_tuple : bootBuiltins "tuple" = some (.type "tuple") := by decide +kernel
theorem b_set : bootBuiltins "set" = some (.type "set") := by decide +kernel
structure Mg (mg : Str → Option Value) : Prop where
  m_len : mg "len" = none
  m_range : mg "range" = none
  m_abs : mg "abs" = none
  m_max : mg "max" = none
  m_min : mg "min" = none
  m_isinstance : mg "isinstance" = none
  m_int : mg "int" = none
  m_bool : mg "bool" = none
  m_str : mg "str" = none
  m_list : mg "list" = none
  m_tuple : mg "tuple" = none
  m_sum : mg "sum" = none
  m_all : mg "all" = none
  m_enumerate : mg "enumerate" = none
  m_zip : mg "zip" = none
  m_ValueError : mg "ValueError" = none
  m_any : mg "any" = none
  m_set : mg "set" = none
  m_sorted : mg "sorted" = none
end L2

set_option maxHeartbeats 1000000
namespace L2
open PySem PySem.Spec PyProof.Rows
section
variable {prog : Program} {w : World} {A : Around} {R : Result → Shared → Prop} {s : Shared}
theorem compLoop_go {elt target iter : Expr} {ifs : List Expr} {scope : Scope} {pos : Pos} {it acc : Value} {env : Env} (I : Nat → Shared → Prop)
    (turn : ∀ n s, I n s → wpAny (model prog w) A (pyNext it) (fun r s₁ => match r with
      | none => R (.ok .next) s₁
      | some v => wpAny (model prog w) A (letOwnedTupleGo target it v) (fun _ s₁' => wpAny (model prog w) A (assign target env v) (fun _ s₂ =>
          wpAny (model prog w) A (forIn ifs true fun c r => if r = true then do let ok ← isTrue c env (eval c env); pure (ForInStep.yield ok) else pure (ForInStep.yield r)) (fun ok s₃ =>
            if ok = true then wpAny (model prog w) A (eval elt env) (fun x s₄ =>
              wpAny (model prog w) A (call (.builtin "list.append") [acc, x]) (fun _ s₅ => ∃ m, m < n ∧ I m s₅) (fun _ _ => False) s₄) (fun _ _ => False) s₃
            else ∃ m, m < n ∧ I m s₃) (fun _ _ => False) s₂) (fun _ _ => False) s₁') (fun _ _ => False) s₁) (fun _ _ => False) s)
    (n : Nat) (h : I n s) :
    codeAny (model prog w) A (.compLoop (.ListComp elt [⟨target, iter, ifs, 0⟩] scope pos) 0 it acc env) R s := by
  refine codeAny_loop rfl I (fun n s hI => ?_) n h
  show wpAny _ A ((compTurn (.ListComp elt [⟨target, iter, ifs, 0⟩] scope pos) 0 it acc env).onRaise (fun x => do noteFrame x env; theTreesLotGoes x)) _ _ s
  refine wpAny_noted ?_
  rw [compTurn_list]
  refine wpAny_bind (wpAny_standAt (wpAny_bind (wpAny_mono (turn n s hI) (fun r s₁ h₁ => ?_) fun _ _ h' => h'.elim)))
  cases r with
  | none => exact wpAny_pure h₁
  | some v =>
    refine wpAny_bind (wpAny_mono h₁ (fun _ s₁' h₁' => wpAny_bind (wpAny_mono h₁' (fun _ s₂ h₂ => wpAny_bind (wpAny_mono h₂ (fun ok s₃ h₃ => ?_) fun _ _ h' => h'.elim)) fun _ _ h' => h'.elim)) fun _ _ h' => h'.elim)
    cases ok with
    | false => exact wpAny_pure ⟨rfl, h₃⟩
    | true =>
      exact wpAny_bind (wpAny_bind (wpAny_mono h₃ (fun x s₄ h₄ => wpAny_bind (wpAny_mono h₄ (fun _ s₅ h₅ => wpAny_pure (wpAny_pure ⟨rfl, h₅⟩)) fun _ _ h' => h'.elim)) fun _ _ h' => h'.elim))
end

def blk (X : Cx) (scope : Scope) (cl : List (Str × Addr)) (N' : List Str) (s₀ : Shared) (H₀ : Hp) (C : Addr) (pn : List (Addr × Obj)) (ex : List Addr) : Cx where
  prog := X.prog
  w := X.w
  K := X.K
  mg := X.mg
  base := X.base
  A := X.A
  N := N'
  s₀ := s₀
  H₀ := H₀
  env := compEnvC scope cl C X.env
  outer := X.stack
  stack := X.stack
  ex := ex
  fn := fun _ => false
  calm := X.calm
  pn := pn
  xe := fun _ _ => False
def PIfs (X : Cx) (ifs : List Expr) (t : TT) : Prop :=
  ∀ (pins : List (Addr × Obj)) (s : Shared) (σ : St) (H : Hp) (Q : Bool → Hp → Prop), Inv X pins σ H s → t σ H Q →
    wpAny (model X.prog X.w) X.A (forIn ifs true fun c r => if r = true then do let ok ← isTrue c X.env (eval c X.env); pure (ForInStep.yield ok) else pure (ForInStep.yield r)) (TP X pins σ Q) X.xe s
def tYes : TT := fun _ H Q => Q true H
theorem pif_nil {X : Cx} : PIfs X [] tYes := fun _ _ _ H _ I h => wpAny_tests_nil ⟨H, I, h⟩
theorem pif_one {X : Cx} {c : Expr} {t : TT} (h : PT X c t) : PIfs X [c] t := fun pins s σ H Q I q => wpAny_tests_one (h pins s σ H Q I q)
def slots (ix : List Nat) (σ : St) : St := ix.map fun j => (σ[j]?).getD none
def compW (D : Addr) (J : It) (g : TG) (tt : TT) (te : TE) (Q : VK) (W : Nat → Nat → St → Hp → Prop) : Prop :=
  ∀ i m τ H2, W i m τ H2 → (J.stop i H2 ∧ Q (.ref D) H2) ∨ (J.go i H2 ∧ ∀ x H3, J.yld i H2 x H3 → g x τ H3 fun τ' H3' => tt τ' H3' fun b H4 =>
    if b = true then te τ' H4 fun v H5 => ∃ ys, H5 D = some (.lst ys) ∧ ys.length < sizeLine ∧ ∃ m', m' < m ∧ W (i + 1) m' τ' (upd H5 D (.lst (ys ++ [v]))) else ∃ m', m' < m ∧ W (i + 1) m' τ' H4)
def tComp (ix : List Nat) (nl : Nat) (wi : TI) (g : TG) (tt : TT) (te : TE) : TE := fun σ H Q => wi σ H fun J H1 => ∀ D, H1 D = none →
  ∃ W : Nat → Nat → St → Hp → Prop, (∃ m, W 0 m (slots ix σ ++ List.replicate nl none) (upd H1 D (.lst []))) ∧ compW D J g tt te Q W

structure CompOk (X : Cx) (scope : Scope) (cl : List (Str × Addr)) (N' : List Str) (ix : List Nat) (nl : Nat) : Prop where
  clos : closureFor scope X.env = pure cl
  sub : ∀ y c, cl.lookup y = some c → X.env.cells.lookup y = some c
  has : ∀ p ∈ (relabel scope X.env).names, (p.2 = .cell ∨ p.2 = .free) → (cl.lookup p.1).isSome = true
  cell : ∀ y ∈ scope.names, y.2 ≠ .cell
  kind : scope.kind = .function
  names : ∀ y ∈ scope.names, y.2 = .local → scope.names.lookup y.1 = some .local
  len : N'.length = ix.length + nl
  out : ∀ (i j : Nat) (y : Str), ix[i]? = some j → N'[i]? = some y → X.N[j]? = some y ∧ (X.env.kindOf y = some .cell ∨ X.env.kindOf y = some .free) ∧ ((relabel scope X.env).names.lookup y = some .cell ∨ (relabel scope X.env).names.lookup y = some .free)

theorem fm0 {α : Type} {P : α → Prop} : ∀ p ∈ ([] : List α), P p := fun _ h => nomatch h
theorem fm1 {α : Type} {P : α → Prop} {a : α} {l : List α} (h : P a) (r : ∀ p ∈ l, P p) : ∀ p ∈ a :: l, P p := List.forall_mem_cons.mpr ⟨h, r⟩
def OutsOk (X : Cx) (scope : Scope) : List Nat → List Str → Prop
  | [], _ => True
  | j :: r, y :: t => (X.N[j]? = some y ∧ (X.env.kindOf y = some .cell ∨ X.env.kindOf y = some .free) ∧ ((relabel scope X.env).names.lookup y = some .cell ∨ (relabel scope X.env).names.lookup y = some .free)) ∧ OutsOk X scope r t
  | _ :: _, [] => False
theorem OutsOk.at {X : Cx} {scope : Scope} : ∀ {ix : List Nat} {N : List Str}, OutsOk X scope ix N → ∀ (i j : Nat) (y : Str), ix[i]? = some j → N[i]? = some y → X.N[j]? = some y ∧ (X.env.kindOf y = some .cell ∨ X.env.kindOf y = some .free) ∧ ((relabel scope X.env).names.lookup y = some .cell ∨ (relabel scope X.env).names.lookup y = some .free)
  | [], _, _, i, j, y, h1, _ => by simp at h1
  | _ :: _, [], h, _, _, _, _, _ => h.elim
  | _ :: _, _ :: _, h, 0, j, y, h1, h2 => by
    simp at h1 h2
    subst h1 h2
    exact h.1
  | _ :: _, _ :: _, h, i + 1, j, y, h1, h2 => OutsOk.at h.2 i j y (by simpa using h1) (by simpa using h2)
theorem CompOk.make {X : Cx} {scope : Scope} {cl : List (Str × Addr)} {N' : List Str} {ix : List Nat} {nl : Nat} (clos : closureFor scope X.env = pure cl) (sub : ∀ p ∈ cl, X.env.cells.lookup p.1 = some p.2)
    (has : ((relabel scope X.env).names.all fun p => !(p.2 == .cell || p.2 == .free) || (cl.lookup p.1).isSome) = true) (cell : ∀ y ∈ scope.names, y.2 ≠ .cell) (kind : scope.kind = .function)
    (names : ∀ y ∈ scope.names, y.2 = .local → scope.names.lookup y.1 = some .local) (len : N'.length = ix.length + nl) (out : OutsOk X scope ix N') : CompOk X scope cl N' ix nl :=
  ⟨clos, fun y c h => sub (y, c) (PySem.mem_of_lookup h), fun p hp hc => by
    have q := List.all_eq_true.mp has p hp
    rcases hc with e | e <;> (rw [e] at q; simpa using q), cell, kind, names, len, out.at⟩

section
variable {X : Cx} {pins : List (Addr × Obj)} {σ : St} {H : Hp} {s : Shared}
theorem blk_ok {scope : Scope} {cl : List (Str × Addr)} {N' : List Str} {ix : List Nat} {nl : Nat} {C : Addr} {fp : List Addr} (O : CompOk X scope cl N' ix nl) (I : Inv X pins σ H s) (hC : s.heap.objs.size ≤ C) (f : ∀ b ∈ fp, FpOk X pins H b) (lt : ∀ b ∈ fp, b < s.heap.objs.size) :
    (blk X scope cl N' s H C (X.pn ++ pins) fp).Ok where
  mod := I.ok.mod
  kind := O.kind
  glob := I.ok.glob
  blt := I.ok.blt
  above := hC
  inj := fun x y c h1 h2 => I.ok.inj x y c (O.sub x c h1) (O.sub y c h2)
  has := fun x hx => by
    have hx' : (relabel scope X.env).names.lookup x = some .cell ∨ (relabel scope X.env).names.lookup x = some .free := hx
    rcases hx' with h | h
    · exact Option.isSome_iff_exists.mp (O.has _ (PySem.mem_of_lookup h) (.inl rfl))
    · exact Option.isSome_iff_exists.mp (O.has _ (PySem.mem_of_lookup h) (.inr rfl))
  cab := fun x c h => nomatch (show false = true from h)
  hd := I.ok.hd
  frames := I.ok.frames
  stk := .inl rfl
  exf := fun b hb => ⟨Nat.ne_of_lt (Nat.lt_of_lt_of_le (lt b hb) hC), fun x c h => (f b hb).2.2.2.2.1 x c (O.sub x c h)⟩
  bs := I.bs
  bsz := Nat.le_trans I.ok.bsz I.sz
  noex := fun b o e hb => by
    rcases (f b hb).2.2.2.1 with z | z
    · exact I.ok.noex b o e z
    · exact absurd (Nat.lt_of_lt_of_le (Heap.lt_size e) (Nat.le_trans I.ok.bsz z)) (Nat.lt_irrefl _)
  exfs := fun b hb z => by
    rcases List.mem_cons.mp (I.stkSub b z) with e | e
    · exact (f b hb).2.1 e
    · exact (f b hb).2.2.1 e
  funs := I.stack
  frf := I.stkFree

theorem blk_inv {scope : Scope} {cl : List (Str × Addr)} {N' : List Str} {ix : List Nat} {nl : Nat} {C : Addr} {fp : List Addr} {h' : Heap} {t' : Nat} (O : CompOk X scope cl N' ix nl) (I : Inv X pins σ H s) (hC : s.heap.objs.size ≤ C) (f : ∀ b ∈ fp, FpOk X pins H b) (lt : ∀ b ∈ fp, b < s.heap.objs.size)
    (hn : h'.Ns C fun _ => none) (k : ∀ b o, s.heap.get? b = some o → h'.get? b = some o) :
    Inv (blk X scope cl N' s H C (X.pn ++ pins) fp) [] (slots ix σ ++ List.replicate nl none) H { s with heap := h', toks := t' } := by
  refine ⟨blk_ok O I hC f lt, rfl, I.bare, Un.kept k, ⟨_, hn, fun i x v e1 e2 e3 => ?_⟩, fun x c e => ?_, I.hok.fresh hC, fun x c e => I.freeC x c (O.sub x c e), fun p hp => ?_, I.hok.kept k, ?_⟩
  · have e1 : N'[i]? = some x := e1
    have hi : i < ix.length := by
      by_cases hi : i < ix.length
      · exact hi
      · rw [List.getElem?_append_right (by simpa [slots] using hi)] at e2
        rw [List.getElem?_replicate] at e2
        split at e2 <;> cases e2
    have e2' : (σ[ix[i]]?).getD none = some v := by
      rw [List.getElem?_append_left (by simpa [slots] using hi)] at e2
      simpa [slots, hi] using e2
    have e4 : σ[ix[i]]? = some (some v) := by
      cases q : σ[ix[i]]? with
      | none => rw [q] at e2'; cases e2'
      | some z => rw [q] at e2'; exact congrArg some e2'
    obtain ⟨o1, o2, o3⟩ := O.out i ix[i] x (by simp [hi]) e1
    obtain ⟨m, hm, hl⟩ := I.loc
    have vis : Vis X.env.scope x := by
      rcases o2 with z | z
      · exact .inr (.inl z)
      · exact .inr (.inr z)
    obtain ⟨u, r, l⟩ := hl _ x v o1 e4 vis
    rcases l with ⟨z, _⟩ | ⟨_, c, hc, o, ho, hd⟩
    · rcases o2 with y | y <;> (rw [y] at z; cases z)
    · obtain ⟨c', hc'⟩ := (blk_ok O I hC f lt).has x o3
      have z := O.sub x c' hc'
      rw [hc] at z
      cases z
      exact ⟨u, r, .inr ⟨o3, c, hc', o, k _ _ ho, hd⟩⟩
  · obtain ⟨v, q⟩ := I.cell x c (O.sub x c e)
    exact ⟨v, by obtain ⟨o, ho, hd⟩ := q; exact ⟨o, k _ _ ho, hd⟩⟩
  · have hp' : p ∈ X.pn ++ pins := by
      have z : p ∈ (X.pn ++ pins) ++ [] := hp
      rwa [List.append_nil] at z
    obtain ⟨a1, a2, a3, a4, a5⟩ := I.pin p hp'
    refine ⟨k _ _ a1, a2, Nat.ne_of_lt (Nat.lt_of_lt_of_le (Heap.lt_size a1) hC), fun z => ?_, a5⟩
    rcases List.mem_cons.mp (I.stkSub p.1 z) with e | e
    · exact a3 e
    · exact a4 e
  · show (slots ix σ ++ List.replicate nl none).length = N'.length
    rw [List.length_append, List.length_replicate, O.len]
    simp [slots]

theorem blk_back {scope : Scope} {cl : List (Str × Addr)} {N' : List Str} {C : Addr} {fp : List Addr} {s' : Shared} {τ : St} {H' : Hp} (I : Inv X pins σ H s) (f : ∀ b ∈ fp, FpOk X pins H b)
    (J : Inv (blk X scope cl N' s H C (X.pn ++ pins) fp) [] τ H' s') : Inv X pins σ H' s' :=
  I.call' J.os J.base J.hok J.bare fun b hb => ⟨(f b hb).2.2.2.1, (f b hb).2.1, (f b hb).2.2.2.2.1, (f b hb).2.2.2.2.2⟩
theorem Inv.letgo {C : Addr} {s' : Shared} {h' : Heap} (J : Inv X pins σ H s') (hsz : X.s₀.heap.objs.size ≤ C) (hL : C ≠ X.env.locals) (hc : ∀ x c, X.env.cells.lookup x = some c → c ≠ C) (hp : ∀ p ∈ X.pn ++ pins, p.1 ≠ C) (hH : H C = none)
    (sb : Heap.SameBut C s'.heap h') : Inv X pins σ H { s' with heap := h' } :=
  J.turned (t' := s'.toks) (it := C) (fun b o hb e => sb.extBut b o hb e) hH hL (.inr hsz) hc hp
theorem blk_loop {elt iter tg : Expr} {ifs : List Expr} {scope : Scope} {pos : Pos} {cl : List (Str × Addr)} {N' : List Str} {C D it : Addr} {fp : List Addr} {tn : Nat → Heap → Prop} {J : It} {g : TG} {tt : TT} {te : TE} {s₄ : Shared} {W : Nat → Nat → St → Hp → Prop} {Q : VK}
    {τ : St} {H₀ : Hp} {s₃ : Shared} {pn : List (Addr × Obj)} {m0 : Nat} {R : Result → Shared → Prop} (hc : X.calm = true) (T : Turn X.prog X.w X.K tg J fp it tn)
    (f : ∀ H', (∀ b ∈ fp, H' b = none) → ∀ b ∈ fp, FpOk (blk X scope cl N' s₃ H₀ C pn fp) [] H' b)
    (hg : PG (blk X scope cl N' s₃ H₀ C pn fp) tg g) (ht : PIfs (blk X scope cl N' s₃ H₀ C pn fp) ifs tt) (he : PE (blk X scope cl N' s₃ H₀ C pn fp) elt te)
    (I4 : Inv (blk X scope cl N' s₃ H₀ C pn fp) [] τ H s₄) (st : tn 0 s₄.heap) (fr : ∀ b ∈ fp, H b = none) (w0 : W 0 m0 τ H) (hW : compW D J g tt te Q W)
    (fin : ∀ τ' H' s', Inv (blk X scope cl N' s₃ H₀ C pn fp) [] τ' H' s' → Q (.ref D) H' → R (.ok .next) s') :
    codeAny (model X.prog X.w) X.A (.compLoop (.ListComp elt [⟨tg, iter, ifs, 0⟩] scope pos) 0 (.ref it) (.ref D) (compEnvC scope cl C X.env)) R s₄ := by
  refine compLoop_go (fun n s' => ∃ i τ' H', Inv (blk X scope cl N' s₃ H₀ C pn fp) [] τ' H' s' ∧ tn i s'.heap ∧ (∀ b ∈ fp, H' b = none) ∧ W i n τ' H') ?_ m0 ⟨0, τ, H, I4, st, fr, w0⟩
  rintro n s5 ⟨i, τ5, H5, I5, st5, fr5, w5⟩
  rcases hW i n τ5 H5 w5 with ⟨stop, q⟩ | ⟨go, step⟩
  · refine thn (T.done (blk X scope cl N' s₃ H₀ C pn fp) rfl rfl rfl hc i [] s5 τ5 H5 (fun _ _ => False) I5 (f H5 fr5) st5 stop) fun r s6 ⟨hr, I6⟩ => ?_
    subst hr
    exact fin τ5 H5 s6 I6 q
  · refine thn (T.item (blk X scope cl N' s₃ H₀ C pn fp) rfl rfl rfl hc i [] s5 τ5 H5 (fun _ _ => False) I5 (f H5 fr5) st5 go) fun r s6 ⟨u, hr, h6⟩ => ?_
    subst hr
    refine thn h6 fun _ s7 ⟨x, H7, I7, r7, y7, st7, fr7⟩ => ?_
    have I7' := I7.pinned (f H7 fr7) (T.obj _ _ st7)
    have keep : ∀ {τ8 : St} {H8 : Hp} {s8 : Shared}, Inv (blk X scope cl N' s₃ H₀ C pn fp) ([] ++ pinsAt fp s7.heap) τ8 H8 s8 → Inv (blk X scope cl N' s₃ H₀ C pn fp) [] τ8 H8 s8 ∧ tn (i + 1) s8.heap ∧ ∀ b ∈ fp, H8 b = none := fun {τ8 H8 s8} I8 => by
      refine ⟨I8.unpinned, T.keep _ _ _ st7 fun b hb o e => (I8.pin (b, o) (List.mem_append_right _ (List.mem_append_right _ (mem_pinsAt hb e)))).1, fun b hb => ?_⟩
      obtain ⟨o, e, d⟩ := T.obj _ _ st7 b hb
      exact (I8.pin (b, o) (List.mem_append_right _ (List.mem_append_right _ (mem_pinsAt hb e)))).2.1
    refine thn (hg _ s7 τ5 H7 x u _ I7' r7 (step x H7 y7)) fun _ s8 ⟨τ8, H8, I8, q8⟩ => ?_
    refine thn (ht _ s8 τ8 H8 _ I8 q8) fun b s9 ⟨H9, I9, q9⟩ => ?_
    cases b with
    | false =>
      obtain ⟨m', hm, w'⟩ := q9
      obtain ⟨k1, k2, k3⟩ := keep I9
      exact ⟨m', hm, i + 1, τ8, H9, k1, k2, k3, w'⟩
    | true =>
      refine thn (he _ s9 τ8 H9 _ I9 q9) fun y s10 ⟨v, H10, I10, r10, ys, hD, hl, m', hm, w'⟩ => ?_
      refine thn (mt_append _ s10 τ8 H10 (.ref D) [v] (.ref D) [y] (fun _ H11 => W (i + 1) m' τ8 H11) I10 rfl (.cons r10 .nil) ⟨D, ys, v, rfl, rfl, hD, hl, w'⟩) fun z s11 ⟨_, H11, I11, _, w11⟩ => ?_
      obtain ⟨k1, k2, k3⟩ := keep I11
      exact ⟨m', hm, i + 1, τ8, H11, k1, k2, k3, w11⟩
end

section
variable {X : Cx} {elt iter tg : Expr} {ifs : List Expr} {scope : Scope} {pos : Pos} {cl : List (Str × Addr)} {N' : List Str} {ix : List Nat} {nl : Nat} {wi : TI} {g : TG} {tt : TT} {te : TE}
structure Left (X : Cx) (pins : List (Addr × Obj)) (σ : St) (C : Addr) (H : Hp) (s : Shared) : Prop where
  inv : Inv X pins σ H s
  ns : ∃ m, s.heap.Ns C m
  sz : X.s₀.heap.objs.size ≤ C
  loc : C ≠ X.env.locals
  cel : ∀ x c, X.env.cells.lookup x = some c → c ≠ C
  pin : ∀ p ∈ X.pn ++ pins, p.1 ≠ C
  non : H C = none
theorem comp_run {pins : List (Addr × Obj)} {σ : St} {H1 : Hp} {s2 : Shared} {Q : VK} {it : Addr} {fp : List Addr} {tn : Nat → Heap → Prop} {J : It} {RR : Value → Addr → Result → Shared → Prop} {E : Value → Shared → Prop}
    (hc : X.calm = true) (O : CompOk X scope cl N' ix nl) (hg : ∀ s₀ H₀ C pn ex, PG (blk X scope cl N' s₀ H₀ C pn ex) tg g) (ht : ∀ s₀ H₀ C pn ex, PIfs (blk X scope cl N' s₀ H₀ C pn ex) ifs tt)
    (he : ∀ s₀ H₀ C pn ex, PE (blk X scope cl N' s₀ H₀ C pn ex) elt te) (I1 : Inv X pins σ H1 s2) (T : Turn X.prog X.w X.K tg J fp it tn) (st : tn 0 s2.heap) (f1 : ∀ b ∈ fp, FpOk X pins H1 b)
    (q : ∀ D, H1 D = none → ∃ W : Nat → Nat → St → Hp → Prop, (∃ m, W 0 m (slots ix σ ++ List.replicate nl none) (upd H1 D (.lst []))) ∧ compW D J g tt te Q W)
    (fin : ∀ D C H' s', Left X pins σ C H' s' → Q (.ref D) H' → RR (.ref D) C (.ok .next) s') :
    wpAny (model X.prog X.w) X.A (newList []) (fun acc s₃ => wpAny (model X.prog X.w) X.A (newFunctionEnv scope X.env.globals cl [] X.env.qual none .none (some X.env)) (fun cenv s₄ =>
      codeAny (model X.prog X.w) X.A (.compStart (.ListComp elt [⟨tg, iter, ifs, 0⟩] scope pos) 0 (.ref it) acc { cenv with scope := relabel scope X.env }) (RR acc cenv.locals) s₄) E s₃) E s2 := by
  refine wpAny_newObj_type (wpAny_newFunctionEnv O.cell (by intro y hy; simp at hy) (fun h₁ hns₁ hsb₁ => ?_) O.kind)
  have hf : H1 s2.heap.objs.size = none := I1.hok.fresh (Nat.le_refl _)
  obtain ⟨W, ⟨m0, w0⟩, hW⟩ := q s2.heap.objs.size hf
  have lt : ∀ b ∈ fp, b < s2.heap.objs.size := fun b hb => by
    obtain ⟨o, e, _⟩ := T.obj _ _ st b hb
    exact Heap.lt_size e
  have I3 : Inv X pins σ (upd H1 s2.heap.objs.size (.lst [])) { s2 with heap := s2.heap.push { cls := .type "list", data := .seq ([] : List Value).toArray } } :=
    I1.laid (t' := s2.toks) (fun b u e => Heap.get?_push_of_some _ e) (Nat.le_refl _) ⟨Nat.zero_le _, [], 0, .nil, Heap.get?_push_size _ rfl⟩
  have f3 : ∀ b ∈ fp, FpOk X pins (upd H1 s2.heap.objs.size (.lst [])) b := fun b hb => ⟨by rw [upd_ne (Nat.ne_of_lt (lt b hb))]; exact (f1 b hb).1, (f1 b hb).2⟩
  have sz : (s2.heap.push { cls := .type "list", data := .seq ([] : List Value).toArray }).objs.size = s2.heap.objs.size + 1 := Heap.size_push ..
  have lt3 : ∀ b ∈ fp, b < (s2.heap.push { cls := .type "list", data := .seq ([] : List Value).toArray }).objs.size := fun b hb => by rw [sz]; exact Nat.lt_succ_of_lt (lt b hb)
  have k3 : ∀ b o, (s2.heap.push { cls := .type "list", data := .seq ([] : List Value).toArray }).get? b = some o → h₁.get? b = some o := fun b o e => hsb₁.extBut b o (Nat.ne_of_lt (Heap.lt_size e)) (Heap.get?_push_of_some _ e)
  have I4 := blk_inv (t' := s2.toks + ([] : List (Str × Value)).length) O I3 (Nat.le_refl _) f3 lt3 hns₁ k3
  have st4 : tn 0 h₁ := T.keep _ _ _ st fun b hb o e => k3 b o (Heap.get?_push_of_some _ e)
  have fB : ∀ H', (∀ b ∈ fp, H' b = none) → ∀ b ∈ fp, FpOk (blk X scope cl N' { s2 with heap := s2.heap.push { cls := .type "list", data := .seq ([] : List Value).toArray } } (upd H1 s2.heap.objs.size (.lst [])) (s2.heap.push { cls := .type "list", data := .seq ([] : List Value).toArray }).objs.size (X.pn ++ pins) fp) [] H' b := fun H' hn b hb => by
    refine ⟨hn b hb, Nat.ne_of_lt (lt3 b hb), ?_, .inl hb, fun x c h => (f1 b hb).2.2.2.2.1 x c (O.sub x c h), fun p hp => ?_⟩
    · intro z
      rcases List.mem_cons.mp (I3.stkSub b z) with e | e
      · exact (f1 b hb).2.1 e
      · exact (f1 b hb).2.2.1 e
    · have hp' : p ∈ X.pn ++ pins := by
        have z : p ∈ (X.pn ++ pins) ++ [] := hp
        rwa [List.append_nil] at z
      exact (f1 b hb).2.2.2.2.2 p hp'
  have loop := blk_loop (pos := pos) (iter := iter) (R := RR (.ref s2.heap.objs.size) (s2.heap.push { cls := .type "list", data := .seq ([] : List Value).toArray }).objs.size) hc T fB (hg _ _ _ _ _) (ht _ _ _ _ _) (he _ _ _ _ _) I4 st4 (fun b hb => (f3 b hb).1) w0 hW (fun τ' H' s' J' qf => by
    obtain ⟨m, hm, _⟩ := J'.loc
    refine fin _ _ H' s' ⟨blk_back I3 f3 J', ⟨m, hm⟩, I3.sz, Nat.ne_of_gt I3.lt, fun x c e z => ?_, fun p hp z => ?_, J'.free⟩ qf
    · obtain ⟨v, o, ho, _⟩ := I3.cell x c e
      exact absurd (Heap.lt_size ho) (by rw [z]; exact Nat.lt_irrefl _)
    · exact absurd (Heap.lt_size (I3.pin p hp).1) (by rw [z]; exact Nat.lt_irrefl _))
  exact codeAny_compStart_list loop (T.self _ 0 _ _ _ st4 loop)
theorem pe_comp (hc : X.calm = true) (O : CompOk X scope cl N' ix nl) (hi : PI X tg iter wi) (hg : ∀ s₀ H₀ C pn ex, PG (blk X scope cl N' s₀ H₀ C pn ex) tg g) (ht : ∀ s₀ H₀ C pn ex, PIfs (blk X scope cl N' s₀ H₀ C pn ex) ifs tt)
    (he : ∀ s₀ H₀ C pn ex, PE (blk X scope cl N' s₀ H₀ C pn ex) elt te) (hs : ∀ x, foldedSetIterable iter X.env x = pure x := by intro _; rfl) :
    PE X (.ListComp elt [⟨tg, iter, ifs, 0⟩] scope pos) (tComp ix nl wi g tt te) := by
  intro pins s σ H Q I h
  rw [eval_ListComp]
  refine wpAny_comprehension_free (use := none) rfl hs O.clos O.kind O.names (thn (hi pins s σ H _ I h) fun xv s1 h1 => thn h1 fun itv s2 h2 => ?_)
  obtain ⟨it, fp, tn, J, H1, rfl, I1, T, st, f1, q⟩ := h2
  refine comp_run (RR := fun acc C => compPost (model X.prog X.w) X.A X.xe none (EP X pins σ Q) acc C) hc O hg ht he I1 T st f1 q (fun D C H' s' L qf => ?_)
  obtain ⟨m, hm⟩ := L.ns
  exact ⟨m, hm, fun h' sb => ⟨.ref D, H', L.inv.letgo L.sz L.loc L.cel L.pin L.non sb, rfl, qf⟩⟩
theorem ps_setComp {i : Nat} {y : Str} {py spos : Pos} (hN : X.N.Nodup) (hiy : X.N[i]? = some y) (hy : Loc X.env.scope y) (hc : X.calm = true) (O : CompOk X scope cl N' ix nl) (hi : PI X tg iter wi) (hg : ∀ s₀ H₀ C pn ex, PG (blk X scope cl N' s₀ H₀ C pn ex) tg g)
    (ht : ∀ s₀ H₀ C pn ex, PIfs (blk X scope cl N' s₀ H₀ C pn ex) ifs tt) (he : ∀ s₀ H₀ C pn ex, PE (blk X scope cl N' s₀ H₀ C pn ex) elt te)
    (hsw : swapsWith (.ListComp elt [⟨tg, iter, ifs, 0⟩] scope pos) (some (.Name y py)) spos.line X.env = pure true) (hs : ∀ x, foldedSetIterable iter X.env x = pure x := by intro _; rfl)
    (hf : X.fn y = true ∨ X.env.scope.names.lookup y = some .local := by first | exact .inl rfl | exact .inr rfl | assumption) :
    PS X (.Assign [.Name y py] (.ListComp elt [⟨tg, iter, ifs, 0⟩] scope pos) spos) (tAsg (tComp ix nl wi g tt te) (gName i)) := by
  intro pins s σ H D0 I h
  rw [exec_Assign_Name_used _ _ _ _ hsw]
  refine wpAny_bind (wpAny_standAt (wpAny_bind ?_))
  show wpAny _ X.A (do let _ ← comprehension (.ListComp elt [⟨tg, iter, ifs, 0⟩] scope pos) scope X.env _ (newList []) false (eval iter X.env) (some (assign (.Name y py) X.env))) _ _ s
  refine wpAny_bind (wpAny_mono (wpAny_comprehension_free (use := some (assign (.Name y py) X.env)) (Q := fun _ s' => SP X pins D0 .next s') rfl hs O.clos O.kind O.names (thn (hi pins s σ H _ I h) fun xv s1 h1 => thn h1 fun itv s2 h2 => ?_)) (fun _ s' hq => wpAny_pure (wpAny_pure hq)) fun _ _ e => e)
  obtain ⟨it, fp, tn, J, H1, rfl, I1, T, st, f1, q⟩ := h2
  refine comp_run (RR := fun acc C => compPost (model X.prog X.w) X.A X.xe (some (assign (.Name y py) X.env)) (fun _ s' => SP X pins D0 .next s') acc C) hc O hg ht he I1 T st f1 q (fun D C H' s' L qf => ?_)
  obtain ⟨m, hm⟩ := L.ns
  show wpAny _ X.A (assign (.Name y py) X.env (.ref D)) _ _ _
  refine wpAny_assign_Name (store_ok2 L.inv hN hiy hy (v := .ref D) rfl (fun s'' I'' z => ?_) hf)
  obtain ⟨a, sb2, ha⟩ := z
  have ne : C ≠ a := by
    rcases ha with e | e
    · rw [e]; exact L.loc
    · exact fun z => L.cel _ a e z.symm
  refine ⟨m, hm.at' fun o e => sb2.extBut C o ne e, fun h' sb => ⟨_, H', I''.letgo L.sz L.loc L.cel L.pin L.non sb, qf⟩⟩
end
end L2

namespace L2
open PySem PySem.Spec PyProof.Rows
theorem vals_at {xs : List V} {its : List Value} (r : Vals xs its) {j : Nat} (h : j < its.length) : ∃ x, xs[j]? = some x ∧ RelV x its[j] := by
  have hl := r.length
  have hj : j < xs.length := by omega
  obtain ⟨u, e, rv⟩ := r.get (i := j) (x := xs[j]) (by simp [hj])
  have e2 : its[j]? = some its[j] := by simp [h]
  rw [e2] at e
  cases e
  exact ⟨xs[j], by simp [hj], rv⟩
section
variable {X : Cx}
end
end L2

namespace L2
open PySem PySem.Spec PyProof.Rows
def tComp1 (D : Addr) (g : TG) (tt : TT) (te : TE) (x : V) (τ : St) (H : Hp) (R : St → Hp → Prop) : Prop := g x τ H fun τ' H' => tt τ' H' fun b H4 =>
  if b = true then te τ' H4 fun v H5 => ∃ ys, H5 D = some (.lst ys) ∧ ys.length < sizeLine ∧ R τ' (upd H5 D (.lst (ys ++ [v]))) else R τ' H4
def CompS (D : Addr) (J : It) (g : TG) (tt : TT) (te : TE) (Q : VK) (τ : St) (H : Hp) : Prop := ∃ W : Nat → Nat → St → Hp → Prop, (∃ m, W 0 m τ H) ∧ compW D J g tt te Q W
theorem tComp_eq {ix : List Nat} {nl : Nat} {wi : TI} {g : TG} {tt : TT} {te : TE} {σ : St} {H : Hp} {Q : VK} :
    tComp ix nl wi g tt te σ H Q = wi σ H fun J H1 => ∀ D, H1 D = none → CompS D J g tt te Q (slots ix σ ++ List.replicate nl none) (upd H1 D (.lst [])) := rfl
section
variable {K : PySem.W.Frag} {D a : Addr} {g : TG} {tt : TT} {te : TE} {Q : VK} {τ : St} {H : Hp}
theorem compS_range {lo : Int} {n : Nat} (Pv : Nat → St → Hp → Prop) (h0 : Pv 0 τ H)
    (hs : ∀ i τ H (R : St → Hp → Prop), i < n → Pv i τ H → (∀ τ' H', Pv (i + 1) τ' H' → R τ' H') → tComp1 D g tt te (.int (lo + i)) τ H R) (hd : ∀ τ H, Pv n τ H → Q (.ref D) H) : CompS D (Itr lo n) g tt te Q τ H := by
  refine ⟨fun i m τ H => m = n - i ∧ i ≤ n ∧ Pv i τ H, ⟨n, by simp, Nat.zero_le _, h0⟩, ?_⟩
  rintro i m τ H2 ⟨rfl, hi, p⟩
  by_cases hlt : i < n
  · refine .inr ⟨hlt, fun x H' y => ?_⟩
    obtain ⟨e, y⟩ := y
    subst e y
    exact hs i τ _ (fun τ' H' => ∃ m', m' < n - i ∧ m' = n - (i + 1) ∧ i + 1 ≤ n ∧ Pv (i + 1) τ' H') hlt p fun τ' H' p' => ⟨_, by omega, rfl, hlt, p'⟩
  · have e : i = n := by omega
    subst e
    exact .inl ⟨Nat.le_refl _, hd τ H2 p⟩
theorem compS_list (xs : List V) (Pv : Nat → St → Hp → Prop) (h0 : Pv 0 τ H) (hl : ∀ i τ H, i ≤ xs.length → Pv i τ H → SqL K H a xs)
    (hs : ∀ i x τ H (R : St → Hp → Prop), xs[i]? = some x → Pv i τ H → (∀ τ' H', Pv (i + 1) τ' H' → R τ' H') → tComp1 D g tt te x τ H R) (hd : ∀ τ H, Pv xs.length τ H → Q (.ref D) H) : CompS D (Itl K a) g tt te Q τ H := by
  refine ⟨fun i m τ H => m = xs.length - i ∧ i ≤ xs.length ∧ Pv i τ H, ⟨xs.length, by simp, Nat.zero_le _, h0⟩, ?_⟩
  rintro i m τ H2 ⟨rfl, hi, p⟩
  have q := hl i τ H2 hi p
  by_cases hlt : i < xs.length
  · have hx : xs[i]? = some xs[i] := by simp [hlt]
    refine .inr ⟨⟨xs, _, q, hx⟩, fun x H' y => ?_⟩
    obtain ⟨e, y⟩ := y
    subst e
    have e2 := y xs q
    rw [hx] at e2
    cases e2
    exact hs i _ τ _ (fun τ' H' => ∃ m', m' < xs.length - i ∧ m' = xs.length - (i + 1) ∧ i + 1 ≤ xs.length ∧ Pv (i + 1) τ' H') hx p fun τ' H' p' => ⟨_, by omega, rfl, hlt, p'⟩
  · have e : i = xs.length := by omega
    subst e
    exact .inl ⟨⟨xs, q, Nat.le_refl _⟩, hd τ H2 p⟩
theorem SqT.lst {H : Hp} {p b : Addr} {xs ys zs : List V} (h : SqT K H b xs) (hp : H p = some (.lst ys)) : SqT K (upd H p (.lst zs)) b xs := by
  rcases h with (h | ⟨o, h⟩) | h
  · exact .inl (.inl (by rw [upd_ne (ne_of h hp (by intro z; cases z))]; exact h))
  · exact .inl (.inr ⟨o, by rw [upd_ne (ne_of h hp (by intro z; cases z))]; exact h⟩)
  · exact .inr h
end
section
variable {X : Cx} {K : PySem.W.Frag}
theorem ix_listK (h : X.K = K) : IxR X (rIxL K) := by subst h; exact ix_list
theorem ix_tupK (h : X.K = K) : IxR X (rIxT K) := by subst h; exact ix_tup
end
end L2

namespace L2
open PySem PySem.Spec PyProof.Rows
section
variable {prog : Program} {w : World} {A : Around} {E : Value → Shared → Prop} {s : Shared}
theorem nextOf_tup_item {it l : Addr} {i : Nat} {items : Array Value} {x : Value} {Q : Value → Shared → Prop} (hit : s.heap.IsTupleIter it l i)
    (hl : s.heap.IsTuple l items) (hx : items[i]? = some x) (hQ : ∀ h', h'.IsTupleIter it l (i + 1) → Heap.SameBut it s.heap h' → Q x { s with heap := h' }) :
    wpAny (model prog w) A (Builtin.SmallTypes.nextOf (.ref it)) Q E s := by
  obtain ⟨o, ho, hc, hd⟩ := id hit
  obtain ⟨ol, hol, _, nl, hdl⟩ := hl
  unfold Builtin.SmallTypes.nextOf
  refine wpAny_bind (wpAny_callSpecial?_slot (name := Str.ofString "__next__") hit.typeIs F.slot_tuple_iterator_next
    (wpAny_call_entry F.slot_tuple_iterator_next hit.typeIs F.entry_tuple_iterator_next ?_ (F.args_tuple_iterator_next_1 _)))
  show wpAny _ _ (field (.ref it) 0 >>= _) _ _ s
  refine wpAny_bind (wpAny_field ho hd (x := .ref l) rfl ?_)
  show wpAny _ _ (if (Value.ref l == Value.none) = true then _ else _) _ _ s
  rw [if_neg (show ¬ ((Value.ref l == Value.none) = true) from Bool.false_ne_true)]
  show wpAny _ _ (field (.ref it) 1 >>= _) _ _ s
  refine wpAny_bind (wpAny_field ho hd (x := .int i 0) rfl ?_)
  show wpAny _ _ (seqItems? (.ref l) >>= _) _ _ s
  refine wpAny_bind (wpAny_seqItems hol hdl ?_)
  simp only [Int.toNat_natCast, hx]
  refine wpAny_bind (wpAny_setField ho hd (by simp) (wpAny_pure ⟨x, rfl, wpAny_pure (hQ _ ?_ (Heap.SameBut.update ..))⟩))
  exact ⟨_, Heap.get?_update_self _ ho (Obj.isFreed_of_fields (Obj.data_mapFields hd _)), (Obj.cls_mapFields ..).trans hc, by
    rw [Obj.data_mapFields hd]; simp [rawInt]⟩
theorem nextOf_tup_end {it l : Addr} {i : Nat} {items : Array Value} {Q : Value → Shared → Prop} (hh : A.handled = none) (hit : s.heap.IsTupleIter it l i) (hl : s.heap.IsTuple l items) (hx : items[i]? = none)
    (hE : ∀ h' e, Heap.ExtBut it s.heap h' → (∃ o, h'.get? e = some o ∧ o.cls = .type "StopIteration") → E (.ref e) { s with heap := h' }) :
    wpAny (model prog w) A (Builtin.SmallTypes.nextOf (.ref it)) Q E s := by
  obtain ⟨o, ho, hc, hd⟩ := id hit
  obtain ⟨ol, hol, _, nl, hdl⟩ := hl
  unfold Builtin.SmallTypes.nextOf
  refine wpAny_bind (wpAny_callSpecial?_slot (name := Str.ofString "__next__") hit.typeIs F.slot_tuple_iterator_next
    (wpAny_call_entry F.slot_tuple_iterator_next hit.typeIs F.entry_tuple_iterator_next ?_ (F.args_tuple_iterator_next_1 _)))
  show wpAny _ _ (field (.ref it) 0 >>= _) _ _ s
  refine wpAny_bind (wpAny_field ho hd (x := .ref l) rfl ?_)
  show wpAny _ _ (if (Value.ref l == Value.none) = true then _ else _) _ _ s
  rw [if_neg (show ¬ ((Value.ref l == Value.none) = true) from Bool.false_ne_true)]
  show wpAny _ _ (field (.ref it) 1 >>= _) _ _ s
  refine wpAny_bind (wpAny_field ho hd (x := .int i 0) rfl ?_)
  show wpAny _ _ (seqItems? (.ref l) >>= _) _ _ s
  refine wpAny_bind (wpAny_seqItems hol hdl ?_)
  simp only [Int.toNat_natCast, hx]
  refine wpAny_bind (wpAny_rule (wpAny_bind (wpAny_setField ho hd (by simp) ?_)))
  show wpAny _ _ (newExc (.type "StopIteration") [] >>= _) _ _ _
  refine wpAny_bind ?_
  simp only [newExc, newTuple]
  refine wpAny_bind (wpAny_newObj_type ?_ (by size_fits))
  refine wpAny_bind (m := firstArgMember _ _) (wpAny_of_eq (a := Value.none) (by first | rfl | (simp only [firstArgMember]; rfl)) ?_)
  refine wpAny_newObj_type ?_ (by size_fits)
  simp only [raiseNew]
  refine wpAny_bind (wpAny_handled ?_)
  first | rw [show A.in1.handled = none from hh] | rw [hh]
  refine wpAny_bind (wpAny_pure (wpAny_throw ?_))
  exact hE _ _ (((Heap.SameBut.update ..).extBut.push _).push _) ⟨_, Heap.get?_push_size _ rfl, rfl⟩
end
theorem Draws.tuple {prog : Program} {w : World} {A : Around} (hh : A.handled = none) (it l : Addr) (hne : l ≠ it) (items : Array Value) :
    Draws prog w A it [it, l] items.size (fun i v => items[i]? = some v) (fun i h => h.IsTupleIter it l i ∧ h.IsTuple l items) where
  live := fun _ _ st => let ⟨o, ho, _⟩ := st.1; ⟨o, ho⟩
  frame := fun _ _ _ st hk => ⟨st.1.at fun o e => hk it (by simp) o e, st.2.at fun o e => hk l (by simp) o e⟩
  item := fun i s Q E hi st hQ => by
    refine nextOf_tup_item st.1 st.2 (x := items[i]) (by simp [hi]) fun h' hit' hs' => ?_
    exact hQ _ h' s.toks (by simp [hi]) ⟨hit', st.2.extBut hs'.extBut hne⟩ hs'
  done := fun s Q E st hE => nextOf_tup_end hh st.1 st.2 (by simp) hE
open AutoSeq1 (wpAny_loadPart') in
theorem meets_enumerate_newT (l : Addr) (items : Array Value) (n : Nat) (dct : Option Addr) (sl : Array (Option Value)) :
    Meets (Builtin.«enumerate.__new__» ⟨[.type "enumerate", .ref l], []⟩) (fun _ R s => s.heap.get? l = some { cls := .type "tuple", dict := dct, data := .seq items n, slots := sl } ∧
      R (.ok (.ret (.ref (s.heap.push { cls := .type "tuple_iterator", data := .fields #[.ref l, .int 0 0] }).objs.size)))
        { s with heap := (s.heap.push { cls := .type "tuple_iterator", data := .fields #[.ref l, .int 0 0] }).push { cls := .type "enumerate", data := .fields #[.none, .bool false, .ref s.heap.objs.size, rawInt 0, .none, .none] } }) :=
  .of_wp fun prog w A R s h => by
    obtain ⟨hp, g, d, tk, os⟩ := s; obtain ⟨hl, h⟩ := h
    have hsub := sub_enumerate
    have hL : Heap.IsTuple (Shared.heap ⟨hp, g, d, tk, os⟩) l items := ⟨_, hl, rfl, n, rfl⟩
    wp_walk using wpAny_loadPart' hl
    refine wpAny_stack_any fun st => wpAny_pure ?_
    split
    · rename_i c _ _ _ _ _
      cases (c == Value.type "enumerate")
      · wp_walk using wpAny_loadPart' hl, wpAny_pyIter_tuple hL
        exact ⟨_, rfl, h⟩
      · wp_walk using wpAny_loadPart' hl, wpAny_pyIter_tuple hL
        exact ⟨_, rfl, h⟩
    · wp_walk using wpAny_loadPart' hl, wpAny_pyIter_tuple hL
      exact ⟨_, rfl, h⟩
section
variable {prog : Program} {w : World} {A : Around} {E : Value → Shared → Prop} {s : Shared}
theorem call_enumerate_tup {l : Addr} {items : Array Value} {Q : Value → Shared → Prop} (hL : s.heap.IsTuple l items)
    (h : ∀ h', IsEnum h' (s.heap.objs.size + 1) s.heap.objs.size 0 .none → h'.IsTupleIter s.heap.objs.size l 0 → h'.objs.size = s.heap.objs.size + 2 →
      (∀ b o, s.heap.get? b = some o → h'.get? b = some o) → Q (.ref (s.heap.objs.size + 1)) { s with heap := h' }) :
    wpAny (model prog w) A (call (.type "enumerate") [.ref l]) Q E s := by
  obtain ⟨⟨c, dct, dt, sl⟩, hl, hc, n, hd⟩ := hL
  replace hc : c = .type "tuple" := hc
  replace hd : dt = .seq items n := hd
  subst hc hd
  refine callType_new F.called_enumerate (by decide) (F.typeCall_enumerate_1 _) (F.newCall_enumerate_1 _) (fun obj => F.args_object_init_2 obj _) F.entry_enumerate_new
    (meets_enumerate_newT l items n dct sl) ⟨hl, ?_⟩
  have hz : (s.heap.push { cls := .type "tuple_iterator", data := .fields #[.ref l, .int 0 0] }).objs.size = s.heap.objs.size + 1 := Heap.size_push ..
  show _ ∧ _
  rw [hz]
  have e1 := Heap.get?_push_size (s.heap.push { cls := .type "tuple_iterator", data := .fields #[.ref l, .int 0 0] }) (o := { cls := .type "enumerate", data := .fields #[.none, .bool false, .ref s.heap.objs.size, rawInt 0, .none, .none] }) rfl
  rw [hz] at e1
  refine ⟨⟨_, e1, rfl⟩, ?_⟩
  exact h _ e1 ⟨_, Heap.get?_push_of_some _ (Heap.get?_push_size _ rfl), rfl, rfl⟩ (by rw [Heap.size_push, hz]) fun b o q => Heap.get?_push_of_some _ (Heap.get?_push_of_some _ q)
end
theorem Inv.drew {X : Cx} {pins : List (Addr × Obj)} {σ : St} {H : Hp} {s : Shared} {ch : List Addr} {T : Addr} {xs : List V} {h' : Heap} {tk : Nat} (I : Inv X pins σ H s) (hf : ∀ b ∈ ch, FpOk X pins H b)
    (k : ∀ b o, b ∉ ch → s.heap.get? b = some o → h'.get? b = some o) (hT : s.heap.objs.size ≤ T) (new : ObjOk X.prog X.w (upd H T (.tup xs)) h' T (.tup xs)) : Inv X pins σ (upd H T (.tup xs)) { s with heap := h', toks := tk } := by
  have hn : H T = none := I.hok.fresh hT
  have nc : ∀ b u, H b = some u → b ∉ ch := fun b u e hb => by
    have z := (hf b hb).1
    rw [e] at z
    cases z
  refine I.call (g' := s.gens) (d' := s.drawn) (ch := ch) ⟨fun b o q n _ hc => k b o hc q, fun b o q n _ hc => ⟨o.slots, k b o hc q⟩, fun b o q n hc => by
    rw [upd_ne (Nat.ne_of_lt (Nat.lt_of_lt_of_le (Heap.lt_size q) hT))]; exact n, fun b o q hc => ⟨o, k b o hc q⟩, fun b ys q => by rw [upd_ne (ne_of_none q hn)]; exact q,
    fun b o u q => by rw [upd_ne (ne_of_none q hn)]; exact q, fun b ps q => ⟨#[], by rw [upd_ne (ne_of_none q hn), q]; simp⟩⟩ (fun b u e => ?_) I.bare fun b hb => ⟨(hf b hb).2.2.2.1, (hf b hb).2.1, (hf b hb).2.2.2.2.1, (hf b hb).2.2.2.2.2⟩
  by_cases hb : b = T
  · subst hb
    rw [upd_same] at e
    cases e
    exact new
  · rw [upd_ne hb] at e
    refine (I.hok b u e).stay (fun c v hc q => k c v ?_ q) (fun c q => by rw [upd_ne (ne_of_none q hn)]; exact q) fun c ys q => by rw [upd_ne (ne_of_none q hn)]; exact q
    rcases hc with rfl | hc
    · exact nc _ _ e
    · exact nc _ _ hc
theorem Inv.turns {X : Cx} {pins : List (Addr × Obj)} {σ : St} {H : Hp} {s : Shared} {ch : List Addr} {h' : Heap} {tk : Nat} (I : Inv X pins σ H s) (hf : ∀ b ∈ ch, FpOk X pins H b)
    (k : ∀ b o, b ∉ ch → s.heap.get? b = some o → h'.get? b = some o) : Inv X pins σ H { s with heap := h', toks := tk } := by
  have nc : ∀ b u, H b = some u → b ∉ ch := fun b u e hb => by
    have z := (hf b hb).1
    rw [e] at z
    cases z
  refine I.call (g' := s.gens) (d' := s.drawn) (ch := ch) ⟨fun b o q n _ hc => k b o hc q, fun b o q n _ hc => ⟨o.slots, k b o hc q⟩, fun b o q n hc => n, fun b o q hc => ⟨o, k b o hc q⟩, fun b ys q => q,
    fun b o u q => q, fun b ps q => ⟨#[], by rw [q]; simp⟩⟩ (fun b u e => ?_) I.bare fun b hb => ⟨(hf b hb).2.2.2.1, (hf b hb).2.1, (hf b hb).2.2.2.2.1, (hf b hb).2.2.2.2.2⟩
  refine (I.hok b u e).stay (fun c v hc q => k c v ?_ q) (fun c q => q) fun c ys q => q
  rcases hc with rfl | hc
  · exact nc _ _ e
  · exact nc _ _ hc
def Ite (sq : Hp → List V → Prop) : It := ⟨fun i H => ∃ xs x, sq H xs ∧ xs[i]? = some x, fun i H x H' => ∃ T v, H T = none ∧ x = .ref T ∧ H' = upd H T (.tup [.int i, v]) ∧ ∀ xs, sq H xs → xs[i]? = some v, fun i H => ∃ xs, sq H xs ∧ xs.length ≤ i⟩
theorem tup2_ok {P : Program} {w : World} {H : Hp} {h : Heap} {T : Addr} {a b : V} {u v : Value} {n : Nat} (ra : RelV a u) (rb : RelV b v) (e : h.get? T = some { cls := .type "tuple", data := .seq #[u, v] n }) : ObjOk P w H h T (.tup [a, b]) :=
  ⟨show 2 ≤ sizeLine by decide, [u, v], .cons ra (.cons rb .nil), ⟨_, e, rfl, _, rfl⟩, _, e, rfl⟩
theorem turn_enumL {P : Program} {w : World} {K : PySem.W.Frag} {elts : List Expr} {kk : Nat} {pos : Pos} (a e it : Addr) (hei : e ≠ it) :
    Turn P w K (.Tuple elts kk pos) (Ite fun H xs => SqL K H a xs) [e, it] e (fun i h => (∃ old, IsEnum h e it i old) ∧ h.IsListIter it a i) where
  mem := by simp
  obj := fun i h st b hb => by
    obtain ⟨⟨old, he⟩, o, ho, c, d⟩ := st
    rcases List.mem_cons.mp hb with rfl | hb
    · exact ⟨_, he, fun v z => by cases z⟩
    · have z := List.mem_singleton.mp hb
      subst z
      exact ⟨o, ho, fun v z => by rw [d] at z; cases z⟩
  keep := fun i h h' st k => by
    obtain ⟨⟨old, he⟩, hit⟩ := st
    exact ⟨⟨old, k e (by simp) _ he⟩, hit.at fun o q => k it (by simp) o q⟩
  item := by
    intro X hP hw hK hc i pins s σ H E I hf st hg
    subst hP hw hK
    obtain ⟨xs, x, hq, hx⟩ := hg
    obtain ⟨⟨old, he⟩, hit⟩ := st
    obtain ⟨its, rv, p, hz⟩ := I.list hq
    obtain ⟨u, hu, ru⟩ := rv.get hx
    refine wpAny_pyNext_enum_item he hit p.isList (x := u) (by simpa using hu) hei fun h' ho hit' hT hsz hk => ⟨_, rfl, ?_⟩
    refine wpAny_letOwnedTupleGo_enum ho fun h2 he2 hs2 => ?_
    have hel : e < s.heap.objs.size := Heap.lt_size he
    have hTe : s.heap.objs.size ≠ e := Nat.ne_of_gt hel
    have hil : it < s.heap.objs.size := by obtain ⟨_, y, _⟩ := hit; exact Heap.lt_size y
    have hT2 : h2.get? s.heap.objs.size = some { cls := .type "tuple", data := .seq #[.int i s.toks, u] } := (hs2.2 _ hTe).trans hT
    have hf' : H s.heap.objs.size = none := I.hok.fresh (Nat.le_refl _)
    refine ⟨.ref s.heap.objs.size, upd H s.heap.objs.size (.tup [.int i, x]), ?_, rfl, ⟨_, x, hf', rfl, rfl, fun ys hy => by rw [I.list_inj hy hq]; exact hx⟩, ⟨⟨u, he2⟩, hit'.at fun o q => (hs2.2 it hei.symm).trans q⟩, fun b hb => ?_⟩
    · exact I.drew (ch := [e, it]) (tk := s.toks + 1) hf (fun b o hb q => (hs2.2 b fun z => hb (by simp [z])).trans (hk b o (fun z => hb (by simp [z])) (fun z => hb (by simp [z])) q)) (Nat.le_refl _) (tup2_ok ⟨_, rfl⟩ ru hT2)
    · have z : b ≠ s.heap.objs.size := by
        rcases List.mem_cons.mp hb with rfl | hb
        · exact hTe.symm
        · rw [List.mem_singleton.mp hb]; exact Nat.ne_of_lt hil
      rw [upd_ne z]
      exact (hf b hb).1
  done := by
    intro X hP hw hK hc i pins s σ H E I hf st hg
    subst hP hw hK
    obtain ⟨xs, hq, hx⟩ := hg
    obtain ⟨⟨old, he⟩, hit⟩ := st
    obtain ⟨its, rv, p, hz⟩ := I.list hq
    have hl := rv.length
    exact wpAny_pyNext_enum_end (I.ok.hd hc) he hit p.isList (by simp; omega) fun h' eb => ⟨rfl, I.turns (ch := [e, it]) (tk := s.toks) hf fun b o hb q => eb b o (fun z => hb (by simp [z])) q⟩
  self := fun A i s Q E st h => by
    obtain ⟨⟨old, he⟩, _⟩ := st
    exact wpAny_pyIter_enum he h
theorem turn_enumT {P : Program} {w : World} {K : PySem.W.Frag} {elts : List Expr} {kk : Nat} {pos : Pos} (a e it : Addr) (hei : e ≠ it) (hea : e ≠ a) (hai : a ≠ it) :
    Turn P w K (.Tuple elts kk pos) (Ite fun H xs => SqT K H a xs) [e, it] e (fun i h => (∃ old, IsEnum h e it i old) ∧ h.IsTupleIter it a i) where
  mem := by simp
  obj := fun i h st b hb => by
    obtain ⟨⟨old, he⟩, o, ho, c, d⟩ := st
    rcases List.mem_cons.mp hb with rfl | hb
    · exact ⟨_, he, fun v z => by cases z⟩
    · have z := List.mem_singleton.mp hb
      subst z
      exact ⟨o, ho, fun v z => by rw [d] at z; cases z⟩
  keep := fun i h h' st k => by
    obtain ⟨⟨old, he⟩, hit⟩ := st
    exact ⟨⟨old, k e (by simp) _ he⟩, hit.at fun o q => k it (by simp) o q⟩
  item := by
    intro X hP hw hK hc i pins s σ H E I hf st hg
    subst hP hw hK
    obtain ⟨xs, x, hq, hx⟩ := hg
    obtain ⟨⟨old, he⟩, hit⟩ := st
    obtain ⟨its, rv, p, hz⟩ := I.tuple hq
    obtain ⟨u, hu, ru⟩ := rv.get hx
    have hu' : its.toArray[i]? = some u := by simpa using hu
    have D := Draws.tuple (prog := X.prog) (w := X.w) (A := X.A.in1) (show X.A.in1.handled = none from I.ok.hd hc) it a hai its.toArray
    refine wpAny_pyNext_enum_itemD D he ⟨hit, p⟩ (Array.getElem?_eq_some_iff.mp hu').1 hei (by simp [hei, hea]) fun x' h' tk hP ho hit' hT hsz hk => ⟨_, rfl, ?_⟩
    rw [hu'] at hP
    cases hP
    refine wpAny_letOwnedTupleGo_enum ho fun h2 he2 hs2 => ?_
    have hel : e < s.heap.objs.size := Heap.lt_size he
    have hTe : s.heap.objs.size ≠ e := Nat.ne_of_gt hel
    have hil : it < s.heap.objs.size := by obtain ⟨_, y, _⟩ := hit; exact Heap.lt_size y
    have hT2 : h2.get? s.heap.objs.size = some { cls := .type "tuple", data := .seq #[.int i tk, u] } := (hs2.2 _ hTe).trans hT
    have hf' : H s.heap.objs.size = none := I.hok.fresh (Nat.le_refl _)
    refine ⟨.ref s.heap.objs.size, upd H s.heap.objs.size (.tup [.int i, x]), ?_, rfl, ⟨_, x, hf', rfl, rfl, fun ys hy => by rw [I.tuple_inj hy hq]; exact hx⟩, ⟨⟨u, he2⟩, hit'.1.at fun o q => (hs2.2 it hei.symm).trans q⟩, fun b hb => ?_⟩
    · exact I.drew (ch := [e, it]) (tk := tk + 1) hf (fun b o hb q => (hs2.2 b fun z => hb (by simp [z])).trans (hk b o (fun z => hb (by simp [z])) (fun z => hb (by simp [z])) q)) (Nat.le_refl _) (tup2_ok ⟨_, rfl⟩ ru hT2)
    · have z : b ≠ s.heap.objs.size := by
        rcases List.mem_cons.mp hb with rfl | hb
        · exact hTe.symm
        · rw [List.mem_singleton.mp hb]; exact Nat.ne_of_lt hil
      rw [upd_ne z]
      exact (hf b hb).1
  done := by
    intro X hP hw hK hc i pins s σ H E I hf st hg
    subst hP hw hK
    obtain ⟨xs, hq, hx⟩ := hg
    obtain ⟨⟨old, he⟩, hit⟩ := st
    obtain ⟨its, rv, p, hz⟩ := I.tuple hq
    have hl := rv.length
    have hT : s.TypeIs (.ref e) "enumerate" := ⟨_, he, rfl⟩
    unfold pyNext
    refine wpAny_bind (wpAny_attempt (wpAny_callSpecial?_slot (name := Str.ofString "__next__") hT F.slot_enumerate_next
      (wpAny_call_entry F.slot_enumerate_next hT F.entry_enumerate_next ?_ (F.args_enumerate_next_1 _))))
    show wpAny _ _ (field (.ref e) 2 >>= _) _ _ _
    refine wpAny_bind (wpAny_field he rfl (x := .ref it) rfl ?_)
    refine wpAny_bind (nextOf_tup_end (show X.A.in1.handled = none from I.ok.hd hc) hit p (by simp; omega) fun h' x he' hx' => ?_)
    obtain ⟨o, ho, hc'⟩ := hx'
    refine wpAny_bind (wpAny_isInstance (T := "StopIteration") (b := true) ⟨o, ho, hc'⟩ isSubtype_stop ?_)
    exact wpAny_pure ⟨rfl, I.turns (ch := [e, it]) (tk := s.toks) hf fun b o hb q => he' b o (fun z => hb (by simp [z])) q⟩
  self := fun A i s Q E st h => by
    obtain ⟨⟨old, he⟩, _⟩ := st
    exact wpAny_pyIter_enum he h
section
variable {X : Cx} {elts : List Expr} {kk : Nat} {tpos : Pos}
def iEnumL (K : PySem.W.Frag) (ta : TA) : TI := fun σ H R => ta σ H fun vs H1 => ∃ a, vs = [.ref a] ∧ (∃ xs, SqL K H1 a xs) ∧ R (Ite fun H xs => SqL K H a xs) H1
def iEnumT (K : PySem.W.Frag) (ta : TA) : TI := fun σ H R => ta σ H fun vs H1 => ∃ a, vs = [.ref a] ∧ (∃ xs, SqT K H1 a xs) ∧ R (Ite fun H xs => SqT K H a xs) H1
theorem pi_enumL {a : Expr} {ta : TA} {p pos : Pos} (hg : Gl X "enumerate") (hm : X.mg "enumerate" = none) (ha : PA X [a] ta) (hs : starEach [a] X.env = [(false, eval a X.env)] := by rfl) :
    PI X (.Tuple elts kk tpos) (.Call (.Name "enumerate" p) [a] [] pos) (iEnumL X.K ta) := by
  intro pins s σ H R I h
  refine Call_ (ld_blt I hg hm boot_enumerate (PyProof.Rows.callWith_type1 (thn (ha pos pins s σ H _ I h) fun us s1 ⟨vs, H1, I1, r1, q1⟩ => ?_) hs rfl))
  obtain ⟨l, e, ⟨xs, hq⟩, q⟩ := q1
  subst e
  cases r1 with
  | cons r rr =>
    cases rr
    cases r
    obtain ⟨its, rv, p, hz⟩ := I1.list hq
    refine call_enumerate_list p.isList fun h' hE hI hsz hk => wpAny_pyIter_enum hE ?_
    refine ⟨_, [s1.heap.objs.size + 1, s1.heap.objs.size], _, _, H1, rfl, I1.kept (t' := s1.toks) hk, turn_enumL l _ _ (Nat.succ_ne_self _), ⟨⟨_, hE⟩, hI⟩, fun b hb => ?_, q⟩
    rcases List.mem_cons.mp hb with rfl | hb
    · exact I1.fpOk (Nat.le_succ _) (I1.hok.fresh (Nat.le_succ _))
    · rw [List.mem_singleton.mp hb]
      exact I1.fpOk (Nat.le_refl _) (I1.hok.fresh (Nat.le_refl _))
theorem pi_enumT {a : Expr} {ta : TA} {p pos : Pos} (hg : Gl X "enumerate") (hm : X.mg "enumerate" = none) (ha : PA X [a] ta) (hs : starEach [a] X.env = [(false, eval a X.env)] := by rfl) :
    PI X (.Tuple elts kk tpos) (.Call (.Name "enumerate" p) [a] [] pos) (iEnumT X.K ta) := by
  intro pins s σ H R I h
  refine Call_ (ld_blt I hg hm boot_enumerate (PyProof.Rows.callWith_type1 (thn (ha pos pins s σ H _ I h) fun us s1 ⟨vs, H1, I1, r1, q1⟩ => ?_) hs rfl))
  obtain ⟨l, e, ⟨xs, hq⟩, q⟩ := q1
  subst e
  cases r1 with
  | cons r rr =>
    cases rr
    cases r
    obtain ⟨its, rv, p, hz⟩ := I1.tuple hq
    have hll : l < s1.heap.objs.size := by obtain ⟨o, ho, _⟩ := p; exact Heap.lt_size ho
    refine call_enumerate_tup p fun h' hE hI hsz hk => wpAny_pyIter_enum hE ?_
    refine ⟨_, [s1.heap.objs.size + 1, s1.heap.objs.size], _, _, H1, rfl, I1.kept (t' := s1.toks) hk, turn_enumT l _ _ (Nat.succ_ne_self _) (Nat.ne_of_gt (Nat.lt_succ_of_lt hll)) (Nat.ne_of_lt hll), ⟨⟨_, hE⟩, hI⟩, fun b hb => ?_, q⟩
    rcases List.mem_cons.mp hb with rfl | hb
    · exact I1.fpOk (Nat.le_succ _) (I1.hok.fresh (Nat.le_succ _))
    · rw [List.mem_singleton.mp hb]
      exact I1.fpOk (Nat.le_refl _) (I1.hok.fresh (Nat.le_refl _))
end
end L2

namespace HT
open PySem PySem.Spec PyProof.Rows
section
variable {prog : Program} {w : World} {A : Around} {E : Value → Shared → Prop} {s : Shared}
theorem getItem_tuple_all {t sl : Addr} {items : Array Value} {vl vu : Value} {lo hi : Option Int} {Q : Value → Shared → Prop} (ht : IsTup s.heap t items) (hs : s.heap.IsSliceOf sl vl vu .none) (pl : IsPart vl lo) (pu : IsPart vu hi)
    (hw : sIx items.size 0 lo = 0 ∧ sIx items.size items.size hi = items.size) (h : Q (.ref t) s) : wpAny (model prog w) A (getItem (.ref t) (.ref sl)) Q E s := by
  obtain ⟨os, hos, hcs, hds⟩ := id hs
  have hTs : s.TypeIs (.ref sl) "slice" := ⟨os, hos, hcs⟩
  unfold getItem
  try with_reducible refine wpAny_holding ?_
  first | refine wpAny_bind (wpAny_pure ?_) | skip
  refine wpAny_bind (wpAny_sequenceKey ht.typeIs (by decide) ?_)
  refine wpAny_bind (wpAny_callSpecial?_slot (name := Str.ofString "__getitem__") ht.typeIs PyProof.Rows.slot_tuple_getitem
    (wpAny_call_entry PyProof.Rows.slot_tuple_getitem ht.typeIs entry_tuple_getitem ?_ (args_tuple_getitem _ _)))
  show wpAny _ _ (Builtin.Tuple.tupleItemsOf (.ref t) >>= _) _ _ s
  refine wpAny_bind (tupleItemsOf_ ht ?_)
  refine wpAny_bind (wpAny_typeOf hTs ?_)
  rw [if_pos (by decide)]
  refine wpAny_bind (sliceApplied_gen hs pl pu ?_)
  have hno : ((((sIx items.size 0 lo : Nat) : Int) == 0 && (1 : Int) == 1 && (sIx items.size items.size hi - sIx items.size 0 lo) == items.size) = true) := by
    rw [hw.1, hw.2]
    simp
  show wpAny _ _ (if (((sIx items.size 0 lo : Nat) : Int) == 0 && (1 : Int) == 1 && (sIx items.size items.size hi - sIx items.size 0 lo) == items.size) = true then _ else _) _ _ s
  rw [if_pos hno]
  show wpAny _ _ (Builtin.Tuple.tupleIsExact (.ref t) >>= _) _ _ s
  refine wpAny_bind (m := Builtin.Tuple.tupleIsExact _) (show wpAny _ _ (typeOf (.ref t) >>= _) _ _ s from wpAny_bind (wpAny_typeOf ht.typeIs (wpAny_pure ?_)))
  rw [if_pos (by decide)]
  exact wpAny_bind (wpAny_rule (wpAny_pure ⟨_, rfl, wpAny_pure h⟩))
end
end HT
namespace L2
open PySem PySem.Spec PyProof.Rows
section
variable {X : Cx}
def rSlTA (K : PySem.W.Frag) : V → Option Int → Option Int → Hp → VK → Prop := fun x lo hi H Q => ∃ a xs, x = .ref a ∧ SqT K H a xs ∧ (cutV xs lo hi = xs → Q (.ref a) H) ∧ ∀ p, H p = none → Q (.ref p) (upd H p (.tup (cutV xs lo hi)))
theorem sl_tupA : SlR X (rSlTA X.K) := by
  intro pins s σ H x v vl vu lo hi sl Q I rx hs pl pu h
  obtain ⟨a, xs, rfl, hx, q1, q2⟩ := h
  by_cases hw : HT.sIx xs.length 0 lo = 0 ∧ HT.sIx xs.length xs.length hi = xs.length
  · cases rx
    obtain ⟨its, r, ht, hz⟩ := I.tuple hx
    have hlen : its.toArray.size = xs.length := by rw [List.size_toArray]; exact r.length.symm
    refine ⟨"tuple", _, PyProof.Rows.slot_tuple_getitem.lookup, ht.typeIs, ?_⟩
    refine HT.getItem_tuple_all ht hs pl pu (by rw [hlen]; exact hw) ⟨.ref a, H, I, rfl, q1 ?_⟩
    unfold cutV
    rw [hw.1, hw.2, List.drop_zero, Nat.sub_zero, List.take_of_length_le (Nat.le_refl _)]
  · exact sl_tup pins s σ H _ v vl vu lo hi sl Q I rx hs pl pu ⟨a, xs, rfl, hx, hw, q2⟩
end
end L2

namespace L2
open PySem PySem.Spec PyProof.Rows
open PySem.Builtin PySem.Builtin.ObjectAttr PySem.Builtin.Getset_descriptor
open PySem.W (Frag Looks looks_findIn looks_specialIn looks_takesIn looks_mroIn looks_subIn looks_typeIn)

structure XCls (K : Frag) (D : Addr) : Prop where
  ga : PySem.W.findIn K (.ref D) "__getattribute__" = some (some (.builtin "BaseException.__getattribute__"))
  gt : PySem.W.findIn K (.ref D) "__getattr__" = some none
  ca : PySem.W.findIn K (.ref D) "__class__" = some (some (.builtin "object.__class__"))
  cn : PySem.W.specialIn K (.builtin "object.__class__") "__get__" = some (some (.builtin "getset_descriptor.__get__"))
  tk : PySem.W.takesIn K (.builtin "object.__class__") = some true
  mo : PySem.W.mroIn K D (.type "object") = some true
  mb : PySem.W.mroIn K D (.type "BaseException") = some true
  is : (PySem.W.clsIn K D).isSome = true
section
variable {prog : Program} {w : World} {A : Around} {E : Value → Shared → Prop} {s : Shared} {K : Frag} {x D : Addr}
end
end L2

namespace L2
open PySem PySem.Spec PyProof.Rows
theorem ObjOk.here {P : Program} {w : World} {H : Hp} {h : Heap} {a : Addr} {o : HO} (x : ObjOk P w H h a o) : ∃ ob, h.get? a = some ob := by
  cases o with
  | lst xs => obtain ⟨_, _, _, _, e⟩ := x; exact ⟨_, e⟩
  | tup xs => obtain ⟨_, _, _, _, ob, e, _⟩ := x; exact ⟨_, e⟩
  | dK kvs => obtain ⟨_, _, _, _, o, _, _, e, _⟩ := x; exact ⟨_, e⟩
  | dT kvs => obtain ⟨_, _, _, _, o, _, _, e, _⟩ := x; exact ⟨_, e⟩
  | set S n => obtain ⟨o, _, _, _, e, _⟩ := x; exact ⟨_, e⟩
  | ins C dx fs => obtain ⟨_, _, _, e, _⟩ := x; exact ⟨_, e⟩
  | own y => exact x
  | xd fs => obtain ⟨_, ⟨_, _, _, e, _⟩, _⟩ := x; exact ⟨_, e⟩
  | rng lo hi => obtain ⟨_, _, _, e⟩ := x; exact ⟨_, e⟩
  | frz ob u => obtain ⟨e, _⟩ := x; exact ⟨_, e⟩
  | tbl ps => exact ⟨_, (show h.get? a = some _ from x)⟩
  | met f y => exact ⟨_, (show h.get? a = some _ from x)⟩
  | ext φ => obtain ⟨_, e, _⟩ := x; exact e
structure Fly (P : Program) (w : World) (outer : List Env) (H : Hp) (s : Shared) (B : Heap) (H' : Hp) (a C : Addr) (a0 : Value) (s' : Shared) : Prop where
  os : s'.os = s.os
  bare : AllBare s'.gens
  un : Un (frs outer) [] H H' s.heap s'.heap
  hok : HOk P w H' s'.heap
  fly : Heap.FlyingW B outer a (.ref C) a0 s'.heap
  old : ∀ b o, s'.heap.get? b = some o → (∃ o', s.heap.get? b = some o') → b ∉ frs outer → B.get? b = some o
  trk : ∀ b u o, H' b = some u → s'.heap.get? b = some o → B.get? b = some o
  new : H' a = none
  fresh : s.heap.get? a = none
section
variable {P : Program} {w : World} {outer : List Env} {H H' : Hp} {s s' : Shared} {B : Heap} {a C : Addr} {a0 : Value} {h6 : Heap}
theorem Fly.on (F : Fly P w outer H s B H' a C a0 s') (fl : Heap.FlyingW B outer a (.ref C) a0 h6) (up : s'.heap.UpToSlots h6) : Fly P w outer H s B H' a C a0 { s' with heap := h6 } := by
  have st := fl.1
  have fr : ∀ b ∈ frs outer, ∀ o, s'.heap.get? b = some o → ∃ sl, h6.get? b = some { o with slots := sl } := fun b hb o e => by
    obtain ⟨_, o', e', hd⟩ := F.fly.2.2.1.mem hb
    rw [e] at e'
    cases e'
    exact up b o e hd
  have inB : ∀ b o, s'.heap.get? b = some o → (∃ o', s.heap.get? b = some o') → b ∉ frs outer → h6.get? b = some o := fun b o e x hb => st b o (F.old b o e x hb)
  refine ⟨F.os, F.bare, ⟨fun b o e n hb hx => ?_, fun b o e n hb hx => ?_, F.un.free, fun b o e hx => ?_, F.un.tups, F.un.frzs, F.un.tbls⟩, fun b u e => ?_, fl, fun b o e x hb => ?_, fun b u o e q => ?_, F.new, F.fresh⟩
  · exact inB b o (F.un.keep b o e n hb hx) ⟨o, e⟩ hb
  · obtain ⟨sl, e1⟩ := F.un.slot b o e n hb hx
    obtain ⟨sl', e2⟩ := fr b hb _ e1
    exact ⟨sl', e2⟩
  · obtain ⟨o', e1⟩ := F.un.there b o e hx
    by_cases hb : b ∈ frs outer
    · obtain ⟨sl, e2⟩ := fr b hb _ e1
      exact ⟨_, e2⟩
    · exact ⟨o', inB b o' e1 ⟨o, e⟩ hb⟩
  · refine (F.hok b u e).stay (fun c v hc q => ?_) (fun _ q => q) fun _ _ q => q
    have tc : ∃ u', H' c = some u' := by
      rcases hc with rfl | hc
      · exact ⟨u, e⟩
      · exact ⟨_, hc⟩
    obtain ⟨u', eu⟩ := tc
    exact st c v (F.trk c u' v eu q)
  · obtain ⟨o', ho'⟩ := x
    obtain ⟨o1, e1⟩ := F.un.there b o' ho' (by simp)
    have z := F.old b o1 e1 ⟨o', ho'⟩ hb
    have z2 : h6.get? b = some o1 := st b o1 z
    rw [show h6.get? b = some o from e] at z2
    cases z2
    exact z
  · obtain ⟨o1, e1⟩ := (F.hok b u e).here
    have z := F.trk b u o1 e e1
    have z2 : h6.get? b = some o1 := st b o1 z
    rw [show h6.get? b = some o from q] at z2
    cases z2
    exact z
end
section
variable {X : Cx} {pins : List (Addr × Obj)} {σ : St} {H H' : Hp} {s s' : Shared} {B : Heap} {a C : Addr} {a0 : Value}
end
section
variable {P : Program} {w : World} {K : PySem.W.Frag} {mg : Str → Option Value} {base : Heap} {N : List Str} {qual : Str} {scope : Scope} {f : Addr} {cd : Value} {A : Around} {outer : List Env} {s : Shared} {H : Hp} {E : XK}
end
abbrev bmVE : List Value := [.type "ValueError", .type "Exception", .type "BaseException", .type "object"]
structure XRaise (K : PySem.W.Frag) (mg : Str → Option Value) (x : Str) (C : Addr) : Prop where
  at_ : mg x = some (.ref C)
  ex : PySem.W.excIn K C bmVE "ValueError.__new__" = true
theorem XRaise.own {K : PySem.W.Frag} {mg : Str → Option Value} {x : Str} {C : Addr} {h : Heap} (R : XRaise K mg x C) (X : K.In h) : OwnCls x C bmVE "ValueError.__new__" mg h := by
  refine ⟨R.at_, ?_⟩
  have q := R.ex
  unfold PySem.W.excIn at q
  split at q
  · rename_i dd cd sl ho
    split at q
    · rename_i C' bm k0 k1 k2 k3 n k5 hm hs
      simp only [Bool.and_eq_true, beq_iff_eq, Bool.not_eq_true'] at q
      obtain ⟨⟨⟨⟨⟨rfl, rfl⟩, hdel⟩, ht⟩, hok⟩, hni⟩ := q
      obtain ⟨nm, bs, mro, ns, qn, hd, sn, sub, ab, col, del⟩ := cd
      dsimp only at hm hdel hok hni
      subst hm hdel
      have hsl : sl = #[k0, k1, k2, k3, some (.builtin "ValueError.__new__"), k5] := by
        obtain ⟨l⟩ := sl
        simp only at hs
        rw [hs]
      subst hsl
      exact ⟨bm, ns, nm, qn, bs, hd, sn, sub, ab, col, dd, k0, k1, k2, k3, k5, _, X _ _ ho, .of_isNs (PySem.W.isNs_of_in X hok), PySem.W.nsMap_none_of_in X hok hni, PySem.W.tail_of_in X ht⟩
    · cases q
  · cases q
abbrev Cx.suite (X : Cx) (a : Addr) : Cx := { X with A := X.A.mark (some (.ref a)), calm := false }
theorem Cx.Ok.suite {X : Cx} (ok : X.Ok) (a : Addr) : (X.suite a).Ok :=
  ⟨ok.mod, ok.kind, ok.glob, ok.blt, ok.above, ok.inj, ok.has, ok.cab, (fun z => nomatch z), ok.frames, ok.stk, ok.exf, ok.bs, ok.bsz, ok.noex, ok.exfs, ok.funs, ok.frf⟩
section
variable {X : Cx} {pins : List (Addr × Obj)} {σ : St} {H : Hp} {s : Shared} {a : Addr}
theorem Inv.suite (I : Inv X pins σ H s) (a : Addr) : Inv (X.suite a) pins σ H s := ⟨I.ok.suite a, I.os, I.bare, I.base, I.loc, I.cell, I.free, I.freeC, I.pin, I.hok, I.len⟩
end
structure XCatch (K : PySem.W.Frag) (mg : Str → Option Value) (x : Str) (C : Addr) : Prop where
  at_ : mg x = some (.ref C)
  is : PySem.W.clsIn K C ≠ none
  ty : PySem.W.typeIn K (.ref C) = some (.type "type")
  mb : PySem.W.mroIn K C (.type "BaseException") = some true
section
variable {X : Cx} {CX : CXT} {x y n : Str} {j k i : Nat} {ps : List Str} {sp : Sp} {p pos tpos hpos np epos : Pos} {e : Expr} {es : List Expr} {t : TA} {C : Addr} {b₀ : Stmt} {suite : List Stmt} {ts : TS}
end
end L2

namespace L2
open PySem PySem.Spec PyProof.Rows
section
variable {X : Cx} {K : PySem.W.Frag}
end
structure RoomS (k : Nat) (A : Around) : Prop where
  dp : A.depth + 3 * k + 5 < recursionLimit
  un : A.units + 16 * k + 200 < cLine
theorem Room.toS {k : Nat} {A : Around} (r : Room k A) : RoomS k A := ⟨r.dp, r.un⟩
theorem Room.suite {k : Nat} {A : Around} (r : Room k A) (v : Option Value) : RoomS k (A.mark v) := ⟨r.dp, r.un⟩
theorem RoomS.mono {j k : Nat} {A : Around} (r : RoomS k A) (h : j ≤ k) : RoomS j A := ⟨by have := r.dp; omega, by have := r.un; omega⟩
theorem RoomS.deeper {k : Nat} {A : Around} (r : RoomS (k + 1) A) (env : Env) : RoomS k (A.deeper env) :=
  ⟨by have := r.dp; show A.depth + 1 + 3 * k + 5 < _; omega, by have := r.un; show A.units + 3 + 16 * k + 200 < _; omega⟩
structure FnOkS (P : Program) (w : World) (K : PySem.W.Frag) (mg : Str → Option Value) (base : Heap) (CX : CXT) (k : Nat) (f : Addr) (fd : FuncData) (ps : List Str) (sp : Sp) : Prop where
  len : ∀ vs H Q E, sp vs H Q E → vs.length = ps.length
  run : ∀ (A : Around) (outer : List Env) (s : Shared) (H : Hp) (args : Args) (us : List Value) (vs : List V) (Q : VK) (E : XK), RoomS k A → Env0 P w K mg base A outer s H → BindsTo s fd args (ps.zip us) → Vals vs us → sp vs H Q E →
    codeAny (model P w) A (.call (.ref f) args) (CR CX outer P w H s Q E) s
theorem FnOkS.fn {P : Program} {w : World} {K : PySem.W.Frag} {mg : Str → Option Value} {base : Heap} {CX : CXT} {k : Nat} {f : Addr} {fd : FuncData} {ps : List Str} {sp : Sp} (F : FnOkS P w K mg base CX k f fd ps sp) : FnOk P w K mg base CX k f fd ps sp :=
  ⟨F.len, fun A outer s H args us vs Q E hr => F.run A outer s H args us vs Q E hr.toS⟩
structure CalS (P : Program) (w : World) (K : PySem.W.Frag) (mg : Str → Option Value) (base : Heap) (CX : CXT) (x : Str) (k : Nat) (ps : List Str) (sp : Sp) : Prop where
  ex : ∃ f fd, FnOkS P w K mg base CX k f fd ps sp ∧ Binds K fd ps [] ∧ PySem.W.keepIn K (.ref f) = true ∧ mg x = some (.ref f)
abbrev Cx.any (X : Cx) (A : Around) : Cx := { X with A := A, calm := false }
theorem Inv.any {X : Cx} {pins : List (Addr × Obj)} {σ : St} {H : Hp} {s : Shared} (I : Inv X pins σ H s) {A : Around} (hf : A.frames = some X.stack) : Inv (X.any A) pins σ H s :=
  ⟨⟨I.ok.mod, I.ok.kind, I.ok.glob, I.ok.blt, I.ok.above, I.ok.inj, I.ok.has, I.ok.cab, (fun z => nomatch z), hf, I.ok.stk, I.ok.exf, I.ok.bs, I.ok.bsz, I.ok.noex, I.ok.exfs, I.ok.funs, I.ok.frf⟩, I.os, I.bare, I.base, I.loc, I.cell, I.free, I.freeC, I.pin, I.hok, I.len⟩
end L2

namespace L2
open PySem PySem.Spec PyProof.Rows
def noStar : Expr → Bool
  | .Starred _ _ => false
  | _ => true
theorem star1 {e : Expr} {es : List Expr} {env : Env} (h : noStar e = true) : starEach (e :: es) env = (false, eval e env) :: starEach es env := by
  cases e <;> first | rfl | cases h
theorem star1' {e : Expr} {env : Env} (h : noStar e = true) : starEach [e] env = [(false, eval e env)] := by rw [star1 h]; rfl
theorem star2' {e e2 : Expr} {env : Env} (h : noStar e = true) (h2 : noStar e2 = true) : starEach [e, e2] env = [(false, eval e env), (false, eval e2 env)] := by rw [star1 h, star1' h2]
theorem nost0 {env : Env} {pos : Pos} : (backTo pos (starEach [] env)).any (·.1) = false := rfl
theorem nost1 {e : Expr} {es : List Expr} {env : Env} {pos : Pos} (h : noStar e = true) (r : (backTo pos (starEach es env)).any (·.1) = false) : (backTo pos (starEach (e :: es) env)).any (·.1) = false := by
  rw [star1 h]
  show (false || (backTo pos (starEach es env)).any (·.1)) = false
  rw [r]
  rfl
def plainT : Expr → Bool
  | .UnaryOp _ _ _ => false
  | .BoolOp _ _ _ => false
  | .IfExp _ _ _ _ => false
  | .Compare _ _ _ _ => false
  | _ => true
theorem test1 {e : Expr} {env : Env} (h : plainT e = true) : ∀ whole, isTrue e env whole = (do let v ← whole; standAt e.pos; holding [v] (truthy v)) := by
  intro whole
  cases e <;> first | rfl | cases h
def noComp : Expr → Bool
  | .ListComp _ _ _ _ => false
  | .SetComp _ _ _ _ => false
  | .DictComp _ _ _ _ _ => false
  | _ => true
theorem swap1 {e : Expr} {tg : Option Expr} {n : Nat} {env : Env} (h : noComp e = true) : swapsWith e tg n env = pure false := by
  cases e <;> first | rfl | cases h
end L2

namespace L2
open PySem PySem.Spec PyProof.Rows
end L2

namespace L2
open PySem PySem.Spec PyProof.Rows
theorem ints_are : ∀ {ns : List Int} {its : List Value}, Vals (ns.map V.int) its → IntsAre its ns
  | [], _, .nil => .nil
  | n :: ns, _, .cons ⟨t, e⟩ r => by subst e; exact .cons n t (ints_are r)
section
variable {X : Cx}
end
end L2

namespace L2
open PySem PySem.Spec PyProof.Rows
structure Apart (z TI TO i1 i2 : Addr) (f1 f2 : List Addr) : Prop where
  zTI : z ≠ TI
  zTO : z ≠ TO
  TITO : TI ≠ TO
  TI1 : TI ≠ i1
  TI2 : TI ≠ i2
  m1 : i1 ∈ f1
  m2 : i2 ∈ f2
  z1 : z ∉ f1
  z2 : z ∉ f2
  t1 : TO ∉ f1
  t2 : TO ∉ f2
  i12 : i1 ∉ f2
  i21 : i2 ∉ f1
section
variable {prog : Program} {w : World} {A : Around} {E : Value → Shared → Prop} {s : Shared} {z TI TO i1 i2 : Addr} {f1 f2 : List Addr} {n1 n2 k : Nat} {P1 P2 : Nat → Value → Prop} {S1 S2 : Nat → Heap → Prop}
end
end L2

namespace L2
open PySem PySem.Spec PyProof.Rows
theorem pg_tupK {X : Cx} {K : PySem.W.Frag} {es : List Expr} {k n : Nat} {t : TGs} {pos : Pos} (hK : X.K = K) (hc : X.calm = true) (h : PGs X es t) (hn : (assignEach es X.env).length = n) (hst : (assignEach es X.env).findIdx? (·.1) = none) : PG X (.Tuple es k pos) (gTup K n t) := by
  subst hK
  exact pg_tup hc h hn hst
end L2

namespace L2
open PySem PySem.Spec PyProof.Rows
section
variable {X : Cx}
theorem ints_at {ns : List Int} {its : List Value} (r : Vals (ns.map V.int) its) {j : Nat} (h : j < its.length) : ∃ t, its[j] = .int (ns.getD j 0) t := by
  obtain ⟨x, e, rv⟩ := vals_at r h
  have hl : j < ns.length := by have := r.length; rw [List.length_map] at this; omega
  rw [List.getElem?_map, List.getElem?_eq_getElem hl] at e
  cases e
  obtain ⟨t, e⟩ := rv
  exact ⟨t, by rw [e]; simp [List.getD, hl]⟩
theorem argBest_max {ns : List Int} (h : 0 < ns.length) : ns.getD (argBest (fun i j => decide (ns.getD i 0 > ns.getD j 0)) (ns.length - 1)) 0 ∈ ns ∧ (∀ a ∈ ns, a ≤ ns.getD (argBest (fun i j => decide (ns.getD i 0 > ns.getD j 0)) (ns.length - 1)) 0) ∧ argBest (fun i j => decide (ns.getD i 0 > ns.getD j 0)) (ns.length - 1) < ns.length := by
  obtain ⟨h1, h2⟩ := argBest_gt (fun i => ns.getD i 0) (ns.length - 1)
  have hb : argBest (fun i j => decide (ns.getD i 0 > ns.getD j 0)) (ns.length - 1) < ns.length := by
    have : argBest (fun i j => decide (ns.getD i 0 > ns.getD j 0)) (ns.length - 1) ≤ ns.length - 1 := h1
    omega
  refine ⟨?_, fun a ha => ?_, hb⟩
  · generalize argBest _ _ = k at hb
    have e : ns.getD k 0 = ns[k] := by simp [List.getD, hb]
    rw [e]
    exact List.getElem_mem hb
  · obtain ⟨j, hj, rfl⟩ := List.getElem_of_mem ha
    have := h2 j (by omega)
    have e : ns.getD j 0 = ns[j] := by simp [List.getD, hj]
    rw [← e]
    exact this
theorem call_max1 (hc : X.calm = true) : CallR X (.builtin "max") (fun xs H Q => ∃ (p : Addr) (ns : List Int), xs = [.ref p] ∧ (SqL X.K H p (ns.map V.int) ∨ SqT X.K H p (ns.map V.int)) ∧ 0 < ns.length ∧ ∀ m, m ∈ ns → (∀ a ∈ ns, a ≤ m) → Q (.int m) H) := by
  intro pins s σ H xs us Q I r h
  obtain ⟨p, ns, rfl, hq, hn, q⟩ := h
  obtain ⟨u, rfl, rx⟩ := vals1 r
  cases rx
  obtain ⟨b1, b2, b3⟩ := argBest_max hn
  rcases hq with hq | hq
  · obtain ⟨its, r', pl, hz⟩ := I.list hq
    have hl := pl.isList
    have hlt : p < s.heap.objs.size := by obtain ⟨_, e, _⟩ := hl; exact Heap.lt_size e
    have len := r'.length
    rw [List.length_map] at len
    refine call_max_walk (wpAny_pyIter_list hl ⟨_, _, _, _, _, _, (fun i j => decide (ns.getD i 0 > ns.getD j 0)), rfl, Walks.list (A := X.A.in1) (I.ok.hd hc) s.heap.objs.size p (Nat.ne_of_lt hlt) its.toArray, ⟨⟨_, Heap.get?_push_size _ rfl, rfl, rfl⟩, hl.push _⟩, ?_, ?_, ?_, ?_⟩)
    · intro b hb
      show b < (s.heap.push _).objs.size
      rw [Heap.size_push]
      rcases List.mem_cons.mp hb with rfl | hb
      · exact Nat.lt_succ_self _
      · rcases List.mem_cons.mp hb with rfl | hb
        · exact Nat.lt_succ_of_lt hlt
        · cases hb
    · rw [List.size_toArray, ← len]
      exact hn
    · refine CmpOf.ints_gt (fun i => ns.getD i 0) fun i v hP => ?_
      have hP' : its[i]? = some v := by simpa using hP
      obtain ⟨hi, e⟩ := List.getElem?_eq_some_iff.mp hP'
      rw [← e]
      exact ints_at r' hi
    · intro v h' tk hP hk
      have hP' : its[argBest (fun i j => decide (ns.getD i 0 > ns.getD j 0)) (ns.length - 1)]? = some v := by
        rw [List.size_toArray, ← len] at hP
        simpa using hP
      obtain ⟨hi, e⟩ := List.getElem?_eq_some_iff.mp hP'
      obtain ⟨t, e2⟩ := ints_at r' hi
      exact ⟨.int _, H, I.kept (old_kept hk), ⟨t, by rw [← e, e2]⟩, q _ b1 b2⟩
  · obtain ⟨its, r', pl, hz⟩ := I.tuple hq
    have hlt : p < s.heap.objs.size := by obtain ⟨_, e, _⟩ := pl; exact Heap.lt_size e
    have len := r'.length
    rw [List.length_map] at len
    refine call_max_walk (wpAny_pyIter_tuple pl ⟨_, _, _, _, _, _, (fun i j => decide (ns.getD i 0 > ns.getD j 0)), rfl, Walks.tuple (A := X.A.in1) (I.ok.hd hc) s.heap.objs.size p (Nat.ne_of_lt hlt) its.toArray, ⟨⟨_, Heap.get?_push_size _ rfl, rfl, rfl⟩, pl.push _⟩, ?_, ?_, ?_, ?_⟩)
    · intro b hb
      show b < (s.heap.push _).objs.size
      rw [Heap.size_push]
      rcases List.mem_cons.mp hb with rfl | hb
      · exact Nat.lt_succ_self _
      · rcases List.mem_cons.mp hb with rfl | hb
        · exact Nat.lt_succ_of_lt hlt
        · cases hb
    · rw [List.size_toArray, ← len]
      exact hn
    · refine CmpOf.ints_gt (fun i => ns.getD i 0) fun i v hP => ?_
      have hP' : its[i]? = some v := by simpa using hP
      obtain ⟨hi, e⟩ := List.getElem?_eq_some_iff.mp hP'
      rw [← e]
      exact ints_at r' hi
    · intro v h' tk hP hk
      have hP' : its[argBest (fun i j => decide (ns.getD i 0 > ns.getD j 0)) (ns.length - 1)]? = some v := by
        rw [List.size_toArray, ← len] at hP
        simpa using hP
      obtain ⟨hi, e⟩ := List.getElem?_eq_some_iff.mp hP'
      obtain ⟨t, e2⟩ := ints_at r' hi
      refine ⟨.int _, H, I.kept (fun b o e => ?_), ⟨t, by rw [← e, e2]⟩, q _ b1 b2⟩
      refine hk b o (fun hm => ?_) (Heap.get?_push_of_some _ e)
      rcases List.mem_cons.mp hm with e1 | hm
      · exact absurd (e1 ▸ Heap.lt_size e) (Nat.lt_irrefl _)
      · cases hm
theorem call_int_bl : CallR X (.type "int") (fun xs H Q => ∃ b, xs = [.bl b] ∧ Q (.int (if b = true then 1 else 0)) H) := by
  intro pins s σ H xs us Q I r h
  obtain ⟨b, rfl, q⟩ := h
  obtain ⟨u, rfl, rfl⟩ := vals1 r
  exact call_int_bool ⟨.int _, H, I.tok _, ⟨_, rfl⟩, q⟩
abbrev Sq (K : PySem.W.Frag) (H : Hp) (a : Addr) (xs : List V) : Prop := SqL K H a xs ∨ SqT K H a xs
section
variable {K : PySem.W.Frag} {D : Ends} {g : TG} {tb : TS} {σ : St} {H : Hp} {a : Addr}
end
section
variable {K : PySem.W.Frag} {D a : Addr} {g : TG} {tt : TT} {te : TE} {Q : VK} {τ : St} {H : Hp}
end
end
end L2

namespace L2
open PySem PySem.Spec PyProof.Rows
abbrev sgn (c : Nat) : V := .str ⟨#[c]⟩
abbrev txt (cs : List Nat) : Str := ⟨cs.toArray⟩
section
variable {X : Cx} {tg : Expr}
end
section
variable {g : TG} {tb : TS} {D : Ends} {σ : St} {H : Hp}
end
section
variable {D : Addr} {g : TG} {tt : TT} {te : TE} {Q : VK} {τ : St} {H : Hp}
end
section
variable {X : Cx}
theorem join_sgn : ∀ cs : List Nat, Str.join "" (cs.map fun c => (⟨#[c]⟩ : Str)) = txt cs
  | [] => rfl
  | [c] => rfl
  | c :: d :: cs => by
    have ih := join_sgn (d :: cs)
    show (⟨#[c]⟩ : Str) ++ "" ++ Str.join "" ((d :: cs).map fun c => (⟨#[c]⟩ : Str)) = txt (c :: d :: cs)
    rw [ih]
    apply Str.ext'
    simp [Str.cps_append]
    rfl
theorem strs_of : ∀ {ts : List Str} {its : List Value}, Vals (ts.map V.str) its → ∃ l : List (Str × Tok), its = strValues l ∧ l.map (·.1) = ts
  | [], _, .nil => ⟨[], rfl, rfl⟩
  | z :: ts, _, .cons ⟨t, e⟩ r => by
    subst e
    obtain ⟨l, e1, e2⟩ := strs_of r
    exact ⟨(z, t) :: l, by rw [e1]; rfl, by rw [List.map_cons, e2]⟩
def rJoin (K : PySem.W.Frag) : V → List V → Hp → VK → Prop := fun x vs H Q => ∃ (p : Addr) (cs : List Nat), x = .str "" ∧ vs = [.ref p] ∧ SqL K H p (cs.map sgn) ∧ cs.length ≤ 1000 ∧ Q (.str (txt cs)) H
theorem join_sum : ∀ (ts : List Str) (n : Nat), (∀ z ∈ ts, z.length = 1) → ts.foldl (fun a p => a + p.length + ("" : Str).length) n = n + ts.length
  | [], n, _ => rfl
  | z :: ts, n, h => by
    rw [List.foldl_cons, join_sum ts _ fun y hy => h y (List.mem_cons_of_mem _ hy), h z (List.mem_cons_self ..), List.length_cons, show ("" : Str).length = 0 from rfl]
    omega
theorem mt_join : MtR X "str.join" (rJoin X.K) := by
  intro pins s σ H x vs v us Q I rx rv h
  obtain ⟨p, cs, rfl, rfl, hq, hz, q⟩ := h
  obtain ⟨t, rfl⟩ := rx
  obtain ⟨u, rfl, ru⟩ := vals1 rv
  cases ru
  obtain ⟨its, r, pl, _⟩ := I.list hq
  have r' : Vals ((cs.map fun c => (⟨#[c]⟩ : Str)).map V.str) its := by rw [List.map_map]; exact r
  obtain ⟨l, e1, e2⟩ := strs_of r'
  have hl := pl.isList
  rw [e1] at hl
  have one : ∀ z ∈ cs.map (fun c => (⟨#[c]⟩ : Str)), z.length = 1 := fun z hz => by
    obtain ⟨c, _, rfl⟩ := List.mem_map.mp hz
    rfl
  have tot : Builtin.Str.tooLong ((l.map (·.1)).toArray.foldl (· + ·.length + ("" : Str).length) 0) = false := by
    rw [e2, List.foldl_toArray, join_sum _ _ one, List.length_map]
    unfold Builtin.Str.tooLong
    rw [sizeLine_eq]
    simp
    omega
  refine call_meets PySem.F.slot_str_join (typeIs_str s _ t) PySem.F.entry_str_join (PySem.F.args_str_join_2 _ _) (meets_str_join_list "" t p l tot) ⟨hl, ?_⟩
  have fin : ∀ (tk' : Tok) (s' : Shared), Inv X pins σ H s' → EP X pins σ Q (.str (txt cs) tk') s' := fun tk' s' I' => ⟨.str (txt cs), H, I', ⟨tk', rfl⟩, q⟩
  have gl : Builtin.Str.glued "" (l.map (·.1)) = txt cs := by
    rw [StrLaws.glued_eq_join, e2, join_sgn]
  have sz : (txt cs).length ≤ sizeLine := by
    show cs.toArray.size ≤ sizeLine
    rw [List.size_toArray, sizeLine_eq]
    omega
  match l, e2, gl with
  | [p1], e2, gl =>
    obtain ⟨z, tz⟩ := p1
    have : z = txt cs := gl
    subst this
    exact fin tz s I
  | [], e2, gl =>
    refine ⟨by rw [gl]; exact sz, ?_⟩
    rw [gl]
    exact fin _ _ (I.tok _)
  | p1 :: p2 :: r2, e2, gl =>
    refine ⟨by rw [gl]; exact sz, ?_⟩
    rw [gl]
    exact fin _ _ (I.tok _)
def isLow (c : Nat) : Bool := decide (97 ≤ c) && decide (c ≤ 122)
end
end L2

namespace L2
open PySem PySem.Spec PyProof.Rows
deriving instance DecidableEq for Kn
section
variable {X : Cx}
theorem call_tupleL : CallR X (.type "tuple") (fun xs H Q => ∃ p ys, xs = [.ref p] ∧ SqL X.K H p ys ∧ ∀ l, H l = none → Q (.ref l) (upd H l (.tup ys))) := by
  intro pins s σ H xs us Q I r h
  obtain ⟨p, ys, rfl, hq, q⟩ := h
  exact call_tuple_of pins s σ H _ us Q I r ⟨p, ys, rfl, .inl ⟨hq, q⟩⟩
theorem call_listL : CallR X (.type "list") (fun xs H Q => ∃ p ys, xs = [.ref p] ∧ SqL X.K H p ys ∧ ∀ l, H l = none → Q (.ref l) (upd H l (.lst ys))) := by
  intro pins s σ H xs us Q I r h
  obtain ⟨p, ys, rfl, hq, q⟩ := h
  exact call_list_of pins s σ H _ us Q I r ⟨p, ys, rfl, .inl hq, q⟩
end
end L2

namespace PySem
open Sem (wp)
namespace SetL
theorem plain_loop : plainId "set.update.loop" = true := by decide +kernel
theorem entry_loop : entryFor table "set.update.loop" = some Builtin.«set.update.loop» := entryFor_of_tree (by kernel_rfl)
def addS (p : (Int → Bool) × Nat) (k : Int) : (Int → Bool) × Nat := (fun k' => p.1 k' || decide (k' = k), if p.1 k = true then p.2 else p.2 + 1)
theorem addS_le (p : (Int → Bool) × Nat) (k : Int) : (addS p k).2 ≤ p.2 + 1 := by
  show (if p.1 k = true then p.2 else p.2 + 1) ≤ _
  split <;> omega
section
variable {prog : Program} {w : World} {A : Around} {R : Result → Shared → Prop} {I : Addr} {fp wr : List Addr} {n : Nat} {P : Nat → Value → Prop} {St : Nat → Heap → Prop}
theorem codeAny_set_loop (W : Walks prog w A.in1 I fp wr n P St) (a : Addr) (ha : a ∉ fp) (hw : a ∉ wr) (val : Nat → Int) (hval : ∀ i v, P i v → ∃ t, v = .int (val i) t) : ∀ (k i : Nat) (s : Shared) (p : (Int → Bool) × Nat), n - i = k → i ≤ n → St i s.heap →
    s.heap.SetOf (intKind prog w) a p.1 p.2 → p.2 + k < scanBound →
    (∀ h' tk, h'.SetOf (intKind prog w) a (((List.range n).drop i).foldl (fun q j => addS q (val j)) p).1 (((List.range n).drop i).foldl (fun q j => addS q (val j)) p).2 → (∀ b o, b ∉ a :: wr → s.heap.get? b = some o → h'.get? b = some o) → R (.ok (.ret .none)) { s with heap := h', toks := tk }) →
    codeAny (model prog w) A (.builtin "set.update.loop" ⟨[.ref a, .ref I], []⟩) R s := by
  intro k
  induction k with
  | zero =>
    intro i s p hk hi hst hS hb hR
    have hin : i = n := by omega
    subst hin
    refine codeAny_builtin entry_loop ?_
    rw [Around.under_plainId plain_loop _]
    show wpAny _ A.in1 (pyNext (.ref I) >>= _) _ _ s
    refine wpAny_bind (W.done s _ _ hst fun h' tk hk' => ?_)
    refine wpAny_pure ?_
    obtain ⟨o, es, ep, t, ho, r⟩ := hS
    refine hR h' tk ?_ fun b o hbw e => hk' b o (fun z => hbw (List.mem_cons_of_mem _ z)) e
    rw [List.drop_of_length_le (by simp)]
    exact ⟨o, es, ep, t, hk' a o hw ho, r⟩
  | succ k ih =>
    intro i s p hk hi hst hS hb hR
    have hlt : i < n := by omega
    have hd : (List.range n).drop i = i :: (List.range n).drop (i + 1) := by
      rw [List.drop_eq_getElem_cons (by simpa using hlt)]; simp
    refine codeAny_builtin entry_loop ?_
    rw [Around.under_plainId plain_loop _]
    show wpAny _ A.in1 (pyNext (.ref I) >>= _) _ _ s
    refine wpAny_bind (W.item i s _ _ hlt hst fun v h' tk hP hst' hk' => ?_)
    obtain ⟨t, rfl⟩ := hval i v hP
    obtain ⟨o, es, ep, tt, ho, r⟩ := hS
    have hS' : h'.SetOf (intKind prog w) a p.1 p.2 := ⟨o, es, ep, tt, hk' a o hw ho, r⟩
    refine wpAny_bind (wpAny_holding ?_)
    unfold setAdd
    refine wpAny_bind ((intKind prog w).pyHash (k := val i) (by simp [intKind, Value.isInt]) ?_)
    refine wpAny_setAddHashed_of (knd := intKind prog w) (k := val i) (S := p.1) (n := p.2) (by simp [intKind, Value.isInt]) rfl hS' (by omega) fun h2 hsb hS2 => ?_
    refine wpAny_pure ⟨plainId_quiet plain_loop _, ih (i + 1) _ (addS p (val i)) (by omega) hlt ?_ hS2 (by have := addS_le p (val i); omega) fun h3 tk3 hS3 hk3 => ?_⟩
    · exact W.frame _ _ _ hst' fun b hbf o e => hsb.extBut b o (fun z => ha (z ▸ hbf)) e
    · have := hR h3 tk3
      rw [hd, List.foldl_cons] at this
      refine this hS3 fun b o hbw e => hk3 b o hbw (hsb.extBut b o (fun z => hbw (z ▸ List.mem_cons_self ..)) (hk' b o (fun z => hbw (List.mem_cons_of_mem _ z)) e))
end
theorem typeCall_set_1 (x : Value) : checkTypeCall "set" ⟨[x], []⟩ = pure () := by kernel_rfl
theorem newCall_set_1 (x : Value) : checkBuiltinCall "set.__new__" ⟨[.type "set", x], []⟩ = pure () := by kernel_rfl
theorem sub_list_set : isSubtype (.type "list") (.type "set") = pure false := by rw [isSubtype_type]; kernel_rfl
theorem sub_list_frozenset : isSubtype (.type "list") (.type "frozenset") = pure false := by rw [isSubtype_type]; kernel_rfl
section
variable {prog : Program} {w : World} {A : Around} {E : Value → Shared → Prop} {s : Shared}
theorem code_set_new1 {x : Value} {Q₁ : Value → Shared → Prop}
    (h : ∀ led : Bool, Q₁ (.ref s.heap.objs.size) { s with heap := s.heap.push { cls := .type "set", dict := none, data := .set #[] 0 (.fresh 0 0 led) } }) :
    codeAny (model prog w) A (.call (.builtin "set.__new__") ⟨[.type "set", x], []⟩) (wants Q₁ E) s := by
  refine codeAny_of_tree ?_
  show wpAny _ A.in1 (do checkBuiltinCall "set.__new__" ⟨[.type "set", x], []⟩; again (.builtin "set.__new__" ⟨[.type "set", x], []⟩)) _ _ s
  refine wpAny_bind (wpAny_of_eq (newCall_set_1 x) (wpAny_pure ⟨plainId_quiet F.plain_set_new _, codeAny_builtin F.entry_set_new ?_⟩))
  rw [Around.under_plainId F.plain_set_new _]
  unfold Builtin.«set.__new__» Builtin.Frozenset.newClass
  have hsub := sub_set_self
  obtain ⟨hp, g, d, tk, os⟩ := s
  dsimp only
  wp_walk
  refine wpAny_askSetting (wpAny_pure ?_)
  dsimp only
  simp only [newObj]
  refine wpAny_bind (wpAny_alloc (wpAny_pure ?_))
  exact wpAny_pure (h _)
theorem check_set_init1 {M : Model} {self x : Value} {Q : Unit → Shared → Prop} (hT : s.TypeIs self "set") (hQ : Q () s) :
    wpAny M A (checkBuiltinCall "set.__init__" ⟨[self, x], []⟩) Q E s := by
  simp only [checkBuiltinCall, kind_set_init, split_set_init, sig_set_init]
  refine wpAny_bind (wpAny_isInstance hT sub_set_self ?_)
  simp only [Bool.not_true, Bool.false_eq_true, if_false]
  unfold Bind.checkArgs
  dsimp only
  refine wpAny_bind (m := Bind.printed "set" true _ _) (PyProof.Rows.printed_name (by decide) ?_)
  refine wpAny_bind (m := Bind.printed "*" false _ _) (PyProof.Rows.printed_star (self := self) rfl hT fun short => ?_)
  have hrn : (Manifest.Receiver.self == Manifest.Receiver.none) = false := by decide
  have hn : (if (Manifest.Receiver.self == Manifest.Receiver.none) = true then [self, x].length else [self, x].length - 1) = 1 := by simp [hrn]
  rw [hn]
  simp only [List.map_nil]
  have hc : Bind.check ⟨.positional, "set", "*", .self, [⟨"iterable", .posOnly, false⟩]⟩ "set" short 1 [] = pure () := by
    simp [Bind.check, Bind.checkCount, Bind.isPositional]
    intro h
    exact absurd h (by decide)
  rw [hc]
  exact wpAny_pure hQ
set_option maxHeartbeats 4000000 in
theorem call_set_1 {l : Addr} {its : List Value} {ns : List Int} {Q : Value → Shared → Prop} (hh : A.handled = none) (hl : s.heap.IsList l its.toArray) (hi : ∀ (j : Nat) (v : Value), its[j]? = some v → ∃ t, v = .int (ns.getD j 0) t) (hn : its.length = ns.length) (hb : ns.length < 1000)
    (h : ∀ h' tk, h'.SetOf (intKind prog w) s.heap.objs.size (ns.foldl addS (fun _ => false, 0)).1 (ns.foldl addS (fun _ => false, 0)).2 → (∀ b o, s.heap.get? b = some o → h'.get? b = some o) → Q (.ref s.heap.objs.size) { s with heap := h', toks := tk }) :
    wpAny (model prog w) A (call (.type "set") [.ref l]) Q E s := by
  obtain ⟨c, tl, hmro⟩ := F.called_set.mro
  have hmade := F.called_set.made
  have hsub := F.called_set.sub
  refine wpAny_call (codeAny_of_tree ?_)
  show wpAny _ _ (callAny (.type "set") _) _ _ _
  refine wpAny_pure ⟨Code.quiet_builtin _ (by decide +kernel), codeAny_builtin F.entry_type_call ?_⟩
  rw [Around.under_plain (weight_type_call_type "set" [.ref l] []) rfl]
  have h1 := F.called_set.notType
  have h2 := F.called_set.canCreate
  have hct := typeCall_set_1 (.ref l)
  repeat (any_goals (first | assumption | wp_step))
  refine codeAny_mono (code_set_new1 (E := E) (Q₁ := fun obj s₁ => ∃ led : Bool, obj = .ref s.heap.objs.size ∧ s₁ = { s with heap := s.heap.push { cls := .type "set", dict := none, data := .set #[] 0 (.fresh 0 0 led) } }) fun led => ⟨led, rfl, rfl⟩) fun r s₁ hr => ?_
  cases r with
  | error e => exact hr
  | ok fl =>
    cases fl with
    | ret obj =>
      obtain ⟨led, rfl, rfl⟩ := hr
      have hS : (s.heap.push { cls := .type "set", dict := none, data := .set #[] 0 (.fresh 0 0 led) }).get? s.heap.objs.size = some { cls := .type "set", dict := none, data := .set #[] 0 (.fresh 0 0 led) } := Heap.get?_push_size _ rfl
      have hT : Shared.TypeIs { s with heap := s.heap.push { cls := .type "set", dict := none, data := .set #[] 0 (.fresh 0 0 led) } } (.ref s.heap.objs.size) "set" := ⟨_, hS, rfl⟩
      have hli := F.called_set.init.lookup
      have hbi := F.called_set.init.bind (.ref s.heap.objs.size)
      repeat (any_goals (first | assumption | wp_step))
      refine codeAny_mono (codeAny_call_builtin (R := wants (fun r s₂ => r = .none ∧ Q (.ref s.heap.objs.size) s₂) E) F.called_set.init.plain F.entry_set_init (check_set_init1 hT ?_)) fun r₂ s₂ hr₂ => ?_
      · obtain ⟨⟨cls, dd, data, sl⟩, ho, hc, nn, hd⟩ := hl.push { cls := .type "set", dict := none, data := .set #[] 0 (.fresh 0 0 led) }
        simp only at hc hd
        subst hc hd
        have f1 := sub_list_set
        have f2 := sub_list_frozenset
        unfold Builtin.«set.__init__» noKeywords
        have hl' : Heap.IsList (s.heap.push { cls := .type "set", dict := none, data := .set #[] 0 (.fresh 0 0 led) }) l its.toArray := hl.push _
        wp_walk using wpAny_loadPart' ho, wpAny_pyIter_list hl'
        have hlt : l < s.heap.objs.size := by obtain ⟨_, e, _⟩ := hl; exact Heap.lt_size e
        have hsz : (s.heap.push { cls := .type "set", dict := none, data := .set #[] 0 (.fresh 0 0 led) }).objs.size = s.heap.objs.size + 1 := Heap.size_push ..
        have hS0 : Heap.SetOf (intKind prog w) (s.heap.push { cls := .type "set", dict := none, data := .set #[] 0 (.fresh 0 0 led) }) s.heap.objs.size (fun _ => false) 0 :=
          ⟨_, #[], 0, _, Heap.get?_push_size _ rfl, ⟨rfl, rfl, rfl⟩, rfl, fun e he => by simp at he, fun k => by simp, by decide, by rfl, rfl⟩
        refine codeAny_set_loop (Walks.list (A := A.in1.in1.in1) hh _ l (by show l ≠ (s.heap.push _).objs.size; rw [hsz]; exact Nat.ne_of_lt (Nat.lt_succ_of_lt hlt)) its.toArray) s.heap.objs.size ?_ ?_ (fun j => ns.getD j 0) (fun j v hP => hi j v (by simpa using hP)) its.toArray.size 0 _ (fun _ => false, 0) (Nat.sub_zero _) (Nat.zero_le _) ⟨⟨_, Heap.get?_push_size _ rfl, rfl, rfl⟩, hl'.push _⟩ ?_ ?_ ?_
        · show s.heap.objs.size ∉ [(s.heap.push _).objs.size, l]
          rw [hsz]
          intro hm
          rcases List.mem_cons.mp hm with e | hm
          · exact absurd e (Nat.ne_of_lt (Nat.lt_succ_self _))
          · exact absurd (List.mem_singleton.mp hm) (Nat.ne_of_gt hlt)
        · show s.heap.objs.size ∉ [(s.heap.push _).objs.size]
          rw [hsz]
          simp
        · obtain ⟨o, es, ep, t, ho', r⟩ := hS0
          exact ⟨o, es, ep, t, Heap.get?_push_of_some _ ho', r⟩
        · show 0 + its.toArray.size < scanBound
          rw [List.size_toArray, hn]
          exact Nat.lt_of_lt_of_le (m := 1000) (by omega) (by decide)
        · intro h' tk hS' hk
          have fe : ((List.range its.toArray.size).drop 0).foldl (fun q j => addS q (ns.getD j 0)) (fun _ => false, 0) = ns.foldl addS (fun _ => false, 0) := by
            rw [List.drop_zero, List.size_toArray, hn, ← List.foldl_map (f := fun j => ns.getD j 0)]
            congr 1
            apply List.ext_getElem (by simp)
            intro i h1 h2
            simp [List.getD, h2]
          rw [fe] at hS'
          refine wpAny_pure (wpAny_pure ⟨rfl, h h' tk hS' fun b o e => hk b o (fun hm => ?_) (Heap.get?_push_of_some _ (Heap.get?_push_of_some _ e))⟩)
          have lb := Heap.lt_size e
          have hm' : b ∈ [s.heap.objs.size, (s.heap.push { cls := .type "set", dict := none, data := .set #[] 0 (.fresh 0 0 led) }).objs.size] := hm
          rw [hsz] at hm'
          rcases List.mem_cons.mp hm' with z | z
          · exact absurd lb (by rw [z]; exact Nat.lt_irrefl _)
          · exact absurd lb (by rw [List.mem_singleton.mp z]; exact Nat.not_lt.mpr (Nat.le_succ _))
      · cases r₂ with
        | error e => exact hr₂
        | ok fl₂ =>
          cases fl₂ with
          | ret r =>
            obtain ⟨rfl, hq⟩ := hr₂
            repeat (any_goals (first | assumption | wp_step))
          | _ => exact hr₂.elim
    | _ => exact hr.elim
end
end SetL
end PySem
namespace L2
open PySem PySem.Spec PyProof.Rows
section
variable {X : Cx}
theorem call_set_of (hc : X.calm = true) : CallR X (.type "set") (fun xs H Q => ∃ (p : Addr) (ns : List Int), xs = [.ref p] ∧ SqL X.K H p (ns.map V.int) ∧ ns.length < 1000 ∧ ∀ l, H l = none → Q (.ref l) (upd H l (.set (ns.foldl PySem.SetL.addS (fun _ => false, 0)).1 (ns.foldl PySem.SetL.addS (fun _ => false, 0)).2))) := by
  intro pins s σ H xs us Q I r h
  obtain ⟨p, ns, rfl, hq, hb, q⟩ := h
  obtain ⟨u, rfl, rx⟩ := vals1 r
  cases rx
  obtain ⟨its, r', pl, hz⟩ := I.list hq
  have len := r'.length
  rw [List.length_map] at len
  refine PySem.SetL.call_set_1 (I.ok.hd hc) pl.isList (fun j v e => ?_) len.symm hb fun h' tk hS hk => ?_
  · obtain ⟨hj, e'⟩ := List.getElem?_eq_some_iff.mp e
    rw [← e']
    exact ints_at r' hj
  · exact ⟨.ref s.heap.objs.size, _, I.laid (o := .set _ _) hk (Nat.le_refl _) hS, rfl, q _ (I.hok.fresh (Nat.le_refl _))⟩
theorem call_len_setO : CallR X (.builtin "len") (fun xs H Q => ∃ (p : Addr) (S : Int → Bool) (n : Nat), xs = [.ref p] ∧ H p = some (.set S n) ∧ Q (.int n) H) := by
  intro pins s σ H xs us Q I r h
  obtain ⟨p, S, n, rfl, hp, q⟩ := h
  obtain ⟨u, rfl, rx⟩ := vals1 r
  cases rx
  obtain ⟨o, es, ep, t, ho, hex, hd, hel, hmem, hb, hf, hn⟩ := (show ObjOk X.prog X.w H s.heap p (.set S n) from I.hok p _ hp)
  refine PySem.call_len_set ho hex hd hf ?_ ⟨.int n, H, I.tok _, ⟨_, by rw [hn]⟩, q⟩
  have : es.size < 4096 := hb
  omega
end
end L2

namespace L2
open PySem PySem.Spec PyProof.Rows
mutual
inductive Rep (K : PySem.W.Frag) (H : Hp) : V → PyData → Prop
  | non : Rep K H .non .none
  | bl (b : Bool) : Rep K H (.bl b) (.bool b)
  | int (i : Int) : Rep K H (.int i) (.int i)
  | str (z : Str) : Rep K H (.str z) (.str z)
  | lst {a : Addr} {xs : List V} {ds : List PyData} : SqL K H a xs → RepAll K H xs ds → Rep K H (.ref a) (.list ds)
  | tup {a : Addr} {xs : List V} {ds : List PyData} : SqT K H a xs → RepAll K H xs ds → Rep K H (.ref a) (.tuple ds)
inductive RepAll (K : PySem.W.Frag) (H : Hp) : List V → List PyData → Prop
  | nil : RepAll K H [] []
  | cons {x : V} {d : PyData} {xs : List V} {ds : List PyData} : Rep K H x d → RepAll K H xs ds → RepAll K H (x :: xs) (d :: ds)
end
theorem sqT_same {K : PySem.W.Frag} {H H' : Hp} {a : Addr} {xs : List V} (e : Same H H') (h : SqT K H a xs) : SqT K H' a xs := by
  rcases h with (h | ⟨o, h⟩) | h
  · exact .inl (.inl (e _ _ h))
  · exact .inl (.inr ⟨o, e _ _ h⟩)
  · exact .inr h
mutual
theorem Rep.same {K : PySem.W.Frag} {H H' : Hp} (e : Same H H') : ∀ {v : V} {d : PyData}, Rep K H v d → Rep K H' v d
  | _, _, .non => .non
  | _, _, .bl b => .bl b
  | _, _, .int i => .int i
  | _, _, .str z => .str z
  | _, _, .lst h r => .lst (e.seq h) (RepAll.same e r)
  | _, _, .tup h r => .tup (sqT_same e h) (RepAll.same e r)
theorem RepAll.same {K : PySem.W.Frag} {H H' : Hp} (e : Same H H') : ∀ {xs : List V} {ds : List PyData}, RepAll K H xs ds → RepAll K H' xs ds
  | _, _, .nil => .nil
  | _, _, .cons h r => .cons (Rep.same e h) (RepAll.same e r)
end
section
variable {X : Cx} {pins : List (Addr × Obj)} {σ : St} {H : Hp} {s : Shared}
mutual
theorem Rep.reads (I : Inv X pins σ H s) : ∀ {v : V} {d : PyData} {u : Value}, Rep X.K H v d → RelV v u → ∃ as, Reads s.heap u d as
  | _, _, u, .non, r => by
    obtain rfl : u = Value.none := r
    exact ⟨[], .none⟩
  | _, _, u, .bl b, r => by
    obtain rfl : u = Value.bool b := r
    exact ⟨[], .bool b⟩
  | _, _, u, .int i, r => by
    obtain ⟨t, rfl⟩ := r
    exact ⟨[], .int i t⟩
  | _, _, u, .str z, r => by
    obtain ⟨t, rfl⟩ := r
    exact ⟨[], .str z t⟩
  | _, _, u, .lst (a := a) h ra, r => by
    obtain rfl : u = Value.ref a := r
    obtain ⟨its, rv, ⟨o, n, e, c, _, dt⟩, _⟩ := I.list h
    obtain ⟨as, ra'⟩ := RepAll.reads I ra rv
    exact ⟨a :: as, .list e c dt (by simpa using ra')⟩
  | _, _, u, .tup (a := a) h ra, r => by
    obtain rfl : u = Value.ref a := r
    obtain ⟨its, rv, ⟨o, e, c, n, dt⟩, _⟩ := I.tuple h
    obtain ⟨as, ra'⟩ := RepAll.reads I ra rv
    exact ⟨as, .tuple e c dt (by simpa using ra')⟩
theorem RepAll.reads (I : Inv X pins σ H s) : ∀ {xs : List V} {ds : List PyData} {us : List Value}, RepAll X.K H xs ds → Vals xs us → ∃ as, ReadsAll s.heap us ds as
  | _, _, _, .nil, .nil => ⟨[], .nil⟩
  | _, _, _, .cons h r, .cons rv rs => by
    obtain ⟨as, h1⟩ := Rep.reads I h rv
    obtain ⟨bs, h2⟩ := RepAll.reads I r rs
    exact ⟨as ++ bs, .cons h1 h2⟩
end
end
def flatD (d : PyData) : Prop := d.canLay0 = true ∧ d.depth ≤ 40
theorem hu60 {A : Around} {k : Nat} (hr : Room k A) : A.units + 60 < cLine := Nat.lt_of_le_of_lt (Nat.add_le_add_left (by decide : 60 ≤ 64) _) hr.units
section
variable {X : Cx}
def rEqD (K : PySem.W.Frag) (neg : Bool) : R2 := fun x y H Q => ∃ d e, Rep K H x d ∧ Rep K H y e ∧ flatD d ∧ flatD e ∧ Q (.bl (if neg then !PyData.eqv d e else PyData.eqv d e)) H
theorem op_eqD (hu : X.A.units + 60 < cLine) : OpR X (compareOp .Eq) (rEqD X.K false) := by
  intro pins s σ H x y v u Q I rx ry h
  obtain ⟨d, e, hd, he, fd, fe, q⟩ := h
  obtain ⟨as, r1⟩ := hd.reads I rx
  obtain ⟨bs, r2⟩ := he.reads I ry
  exact SeqAt.compareEq_reads r1 r2 fd.1 fe.1 (by have := fd.2; have := fe.2; omega) ⟨.bl _, H, I, rfl, q⟩
def rInD (K : PySem.W.Frag) (neg : Bool) : R2 := fun x y H Q => ∃ (p : Addr) (d : PyData) (ds : List PyData), y = .ref p ∧ Rep K H x d ∧ (Rep K H (.ref p) (.list ds) ∨ Rep K H (.ref p) (.tuple ds)) ∧ flatD d ∧ flatD (.list ds) ∧ Q (.bl (if neg then !(ds.any fun y => PyData.eqv y d) else ds.any fun y => PyData.eqv y d)) H
theorem op_notInD (hu : X.A.units + 60 < cLine) : OpR X (compareOp .NotIn) (rInD X.K true) := by
  intro pins s σ H x y v u Q I rx ry h
  obtain ⟨p, d, ds, rfl, hd, he, fd, fe, q⟩ := h
  obtain ⟨as, r1⟩ := hd.reads I rx
  have dp : PyData.depthAll ds + 1 ≤ 40 := fe.2
  have fe1 : PyData.canLayAll0 ds = true := fe.1
  rcases he with he | he
  · obtain ⟨bs, r2⟩ := he.reads I ry
    exact SeqAt.notIn_list_reads r2 r1 fe1 fd.1 (by have := fd.2; omega) ⟨.bl _, H, I, rfl, q⟩
  · obtain ⟨bs, r2⟩ := he.reads I ry
    exact SeqAt.notIn_tuple_reads r2 r1 fe1 fd.1 (by have := fd.2; omega) ⟨.bl _, H, I, rfl, q⟩
end
end L2

namespace HT
open PySem PyProof.Rows
section
open PySem.SeqAt
open PySem.AutoSeq1 (wpAny_loadPart')
open PySem.MeetsSeq PySem.MeetsSeq2 PySem.MeetsSeq3

end
end HT

namespace HT
open PySem PyProof.Rows PySem.SeqAt
section
variable {l b : Addr}
theorem vals_ints {ns : List Int} {its : List Value} (r : L2.Vals (ns.map L2.V.int) its) : IntsAre its ns := L2.ints_are r
end
end HT
namespace L2
open PySem PySem.Spec PyProof.Rows
end L2

namespace L2
open PySem PySem.Spec PyProof.Rows
def iOr (w1 w2 : TI) : TI := fun σ H R => w1 σ H R ∨ w2 σ H R
theorem pi_or {X : Cx} {tg l : Expr} {w1 w2 : TI} (h1 : PI X tg l w1) (h2 : PI X tg l w2) : PI X tg l (iOr w1 w2) := fun pins s σ H R I h => by
  rcases h with h | h
  · exact h1 pins s σ H R I h
  · exact h2 pins s σ H R I h
section
variable {K : PySem.W.Frag} {a : Addr} {g : TG} {tt : TT} {te : TE} {Q : VK} {H : Hp}
theorem compS_ite {D : Addr} {τ : St} {H : Hp} {sq : Hp → List V → Prop} (xs : List V) (Pv : Nat → St → Hp → Prop) (h0 : Pv 0 τ H) (hl : ∀ i τ H, i ≤ xs.length → Pv i τ H → sq H xs)
    (hs : ∀ i x T τ H (R : St → Hp → Prop), xs[i]? = some x → Pv i τ H → H T = none → (∀ τ' H', Pv (i + 1) τ' H' → R τ' H') → tComp1 D g tt te (.ref T) τ (upd H T (.tup [.int i, x])) R) (hd : ∀ τ H, Pv xs.length τ H → Q (.ref D) H) : CompS D (Ite sq) g tt te Q τ H := by
  refine ⟨fun i m τ H => m = xs.length - i ∧ i ≤ xs.length ∧ Pv i τ H, ⟨xs.length, by simp, Nat.zero_le _, h0⟩, ?_⟩
  rintro i m τ H2 ⟨rfl, hi, p⟩
  have q := hl i τ H2 hi p
  by_cases hlt : i < xs.length
  · have hx : xs[i]? = some xs[i] := by simp [hlt]
    refine .inr ⟨⟨xs, _, q, hx⟩, fun x H' y => ?_⟩
    obtain ⟨T, v, hT, e1, e2, y1⟩ := y
    subst e1 e2
    exact hs i _ T τ _ (fun τ' H' => ∃ m', m' < xs.length - i ∧ m' = xs.length - (i + 1) ∧ i + 1 ≤ xs.length ∧ Pv (i + 1) τ' H') (y1 xs q) p hT fun τ' H' p' => ⟨_, by omega, rfl, hlt, p'⟩
  · have e : i = xs.length := by omega
    subst e
    exact .inl ⟨⟨xs, q, Nat.le_refl _⟩, hd τ H2 p⟩
theorem compS_enumQ (xs : List V) (hq : Sq K H a xs) (ix : St) (Pv : Addr → Nat → St → Hp → Prop) (h0 : ∀ D, H D = none → Pv D 0 ix (upd H D (.lst []))) (hl : ∀ D i τ H', H D = none → Pv D i τ H' → Same H H')
    (hs : ∀ D i x T τ H' (R : St → Hp → Prop), H D = none → xs[i]? = some x → Pv D i τ H' → H' T = none → (∀ τ' H', Pv D (i + 1) τ' H' → R τ' H') → tComp1 D g tt te (.ref T) τ (upd H' T (.tup [.int i, x])) R) (hd : ∀ D τ H', H D = none → Pv D xs.length τ H' → Q (.ref D) H') :
    ((∃ xs, SqL K H a xs) ∧ ∀ D, H D = none → CompS D (Ite fun H xs => SqL K H a xs) g tt te Q ix (upd H D (.lst []))) ∨ ((∃ xs, SqT K H a xs) ∧ ∀ D, H D = none → CompS D (Ite fun H xs => SqT K H a xs) g tt te Q ix (upd H D (.lst []))) := by
  rcases hq with hq | hq
  · exact .inl ⟨⟨_, hq⟩, fun D hD => compS_ite xs (Pv D) (h0 D hD) (fun i τ H' _ p => (hl D i τ H' hD p).seq hq) (fun i x T τ H' R hx p hT nx => hs D i x T τ H' R hD hx p hT nx) (fun τ H' => hd D τ H' hD)⟩
  · exact .inr ⟨⟨_, hq⟩, fun D hD => compS_ite xs (Pv D) (h0 D hD) (fun i τ H' _ p => sqT_same (hl D i τ H' hD p) hq) (fun i x T τ H' R hx p hT nx => hs D i x T τ H' R hD hx p hT nx) (fun τ H' => hd D τ H' hD)⟩
end
end L2

namespace L2
open PySem PySem.Spec PyProof.Rows
section
variable {prog : Program} {w : World} {A : Around} {E : Value → Shared → Prop} {s : Shared} {z TI TO i1 i2 : Addr}
end
end L2

namespace L2
open PySem PySem.Spec PyProof.Rows
section
variable {X : Cx}
end
section
variable {K : PySem.W.Frag} {a b : Addr} {g : TG} {tt : TT} {te : TE} {Q : VK} {H : Hp}
end
end L2

namespace L2
open PySem PySem.Spec PyProof.Rows
section
variable {X : Cx}
def rCatS : R2 := fun x y H Q => ∃ cs ds : List Nat, x = .str (txt cs) ∧ y = .str (txt ds) ∧ cs.length + ds.length ≤ 1000 ∧ Q (.str (txt (cs ++ ds))) H
theorem op_catS : OpR X (binaryOp .Add) rCatS := by
  intro pins s σ H x y v u Q I rx ry h
  obtain ⟨cs, ds, rfl, rfl, hz, q⟩ := h
  refine op_add_str pins s σ H _ _ v u Q I rx ry ⟨_, _, rfl, rfl, Nat.le_trans (show cs.toArray.size + ds.toArray.size ≤ 1000 by rw [List.size_toArray, List.size_toArray]; omega) (by decide), ?_⟩
  have : (txt cs ++ txt ds : Str) = txt (cs ++ ds) := by
    apply Str.ext'
    simp [Str.cps_append]
  rw [this]
  exact q
end
section
variable {X : Cx} {CX : CXT} {x y : Str} {j k : Nat} {ps : List Str} {sp : Sp} {p pos tpos hpos np epos : Pos} {e : Expr} {es : List Expr} {t : TA} {C : Addr} {b₀ : Stmt} {suite : List Stmt} {ts : TS}
end
end L2

namespace L2
open PySem PySem.Spec PyProof.Rows
structure Mk0 (K : PySem.W.Frag) (C : Addr) : Prop where
  makes : PySem.W.makesIn K C = true
  init : PySem.W.findIn K (.ref C) "__init__" = some (some (.builtin "object.__init__"))
  kp : PySem.W.keepIn K (.ref C) = true
section
variable {X : Cx} {C : Addr} {x : Str} {p pos apos : Pos}
end
structure MkC (P : Program) (w : World) (K : PySem.W.Frag) (mg : Str → Option Value) (base : Heap) (x : Str) (C : Addr) (k : Nat) (ps : List Str) (sp : Sp) : Prop where
  ex : ∃ f fd, Mk K C f ∧ FnOk P w K mg base CX0 k f fd ps sp ∧ Binds K fd ps []
  at_ : mg x = some (.ref C)
section
variable {X : Cx} {C : Addr} {x : Str} {j k : Nat} {ps : List Str} {sp : Sp} {p pos apos : Pos} {e o : Expr} {es : List Expr} {t : TA} {ta : TE} {m : Str}
structure Disp (P : Program) (w : World) (K : PySem.W.Frag) (mg : Str → Option Value) (base : Heap) (m : Str) (k : Nat) (ps : List Str) (C : Addr) (sp : Sp) : Prop where
  cls : Cls K C
  ex : ∃ f fd, Meth K C m f ∧ FnOk P w K mg base CX0 k f fd ps sp ∧ Binds K fd ps []
end
structure ICls (K : PySem.W.Frag) (C : Addr) : Prop where
  cl : Cls K C
  ha : PySem.W.findIn K (.ref C) "__class__" = some (some (.builtin "object.__class__"))
  hn : PySem.W.specialIn K (.builtin "object.__class__") "__get__" = some (some (.builtin "getset_descriptor.__get__"))
  htk : PySem.W.takesIn K (.builtin "object.__class__") = some true
  hm : PySem.W.mroIn K C (.type "object") = some true
section
variable {X : Cx} {a b c d : Expr} {ta tb tc td : TE} {pos : Pos}
end
def rSlTQ (K : PySem.W.Frag) : V → Option Int → Option Int → Hp → VK → Prop := fun x lo hi H Q => ∃ a xs, x = .ref a ∧ SqT K H a xs ∧ ∀ p H', Same H H' → SqT K H' p (cutV xs lo hi) → Q (.ref p) H'
theorem sl_tupQK {X : Cx} {K : PySem.W.Frag} (h : X.K = K) : SlR X (rSlTQ K) := by
  subst h
  intro pins s σ H x v vl vu lo hi sl Q I rx hs pl pu h
  obtain ⟨a, xs, rfl, T, q⟩ := h
  refine sl_tupA pins s σ H _ v vl vu lo hi sl Q I rx hs pl pu ⟨a, xs, rfl, T, fun e => q _ _ (Same.refl _) (by rw [e]; exact T), fun p hp => q _ _ (fun b u z => ?_) (SqT.of upd_same)⟩
  rw [upd_ne (ne_of_none z hp)]
  exact z
def rCatTQ (K : PySem.W.Frag) : R2 := fun x y H Q => ∃ a b xs ys, x = .ref a ∧ y = .ref b ∧ SqT K H a xs ∧ SqT K H b ys ∧ xs.length + ys.length ≤ sizeLine ∧ ∀ p H', Same H H' → SqT K H' p (xs ++ ys) → Q (.ref p) H'
theorem op_catTQ {X : Cx} : OpR X (binaryOp .Add) (rCatTQ X.K) := by
  intro pins s σ H x y v u Q I rx ry h
  obtain ⟨a, b, xs, ys, rfl, rfl, ha, hb, hz, q⟩ := h
  have sn : ∀ p, H p = none → Same H (upd H p (.tup (xs ++ ys))) := fun p hp b u z => by rw [upd_ne (ne_of_none z hp)]; exact z
  by_cases hx : xs = []
  · subst hx
    cases rx
    cases ry
    obtain ⟨its, r1, p1, _⟩ := I.tuple ha
    obtain ⟨its2, r2, p2, _⟩ := I.tuple hb
    have e0 := r1.nil_iff.mpr rfl
    obtain ⟨⟨cls, dd, data, sl⟩, ho, hc, n, hd⟩ := id p1
    obtain ⟨⟨cls2, dd2, data2, sl2⟩, ho2, hc2, n2, hd2⟩ := id p2
    simp only at hc hd hc2 hd2
    subst hc hd hc2 hd2
    exact concat_meets ⟨_, ho, rfl⟩ ⟨_, ho2, rfl⟩ noFill_tuple_add seq_tuple_add PySem.F.slot_tuple_add PySem.F.entry_tuple_add (PySem.F.args_tuple_add_2 _ _)
      (tuple_addW0 a b its.toArray its2.toArray n n2 dd dd2 sl sl2 (by simp [e0])) ⟨ho, ho2, ⟨.ref b, H, I, rfl, q _ _ (Same.refl _) hb⟩⟩
  · refine op_catT pins s σ H _ _ v u Q I rx ry ⟨a, b, xs, ys, rfl, rfl, ha, hb, hx, hz, fun e => q _ _ (Same.refl _) (by rw [e, List.append_nil]; exact ha), fun _ p hp => q _ _ (sn p hp) (SqT.of upd_same)⟩
end L2

namespace L2
open PySem PySem.Spec PyProof.Rows
section
variable {prog : Program} {w : World} {A : Around} {E : Value → Shared → Prop} {s : Shared} {z TI TO i1 i2 : Addr}
end
end L2

namespace HT
open PySem PySem.Spec PyProof.Rows
section
variable {prog : Program} {w : World} {A : Around} {E : Value → Shared → Prop} {s : Shared}
end
end HT
namespace L2
open PySem PySem.Spec PyProof.Rows
end L2

namespace L2
open PySem PySem.Spec PyProof.Rows
section
variable {X : Cx} {CX : CXT} {x y n z : Str} {j k i iz : Nat} {ps : List Str} {sp : Sp} {p zpos pos tpos hpos np epos : Pos} {e : Expr} {es : List Expr} {t : TA} {C : Addr} {b₀ : Stmt} {suite : List Stmt} {ts : TS}
end
end L2

namespace L2
open PySem PySem.Spec PyProof.Rows
theorem pi_listK {X : Cx} {K : PySem.W.Frag} {tg l : Expr} {tl : TE} (h : X.K = K) (hl : PE X l tl) : PI X tg l (iList K tl) := by subst h; exact pi_list hl
end L2

namespace L2
open PySem PySem.Spec PyProof.Rows
def blkc (X : Cx) (scope : Scope) (y : Str) (cl : List (Str × Addr)) (N' : List Str) (s₀ : Shared) (H₀ : Hp) (C : Addr) (pn : List (Addr × Obj)) (ex : List Addr) : Cx where
  prog := X.prog
  w := X.w
  K := X.K
  mg := X.mg
  base := X.base
  A := X.A
  N := N'
  s₀ := s₀
  H₀ := H₀
  env := compEnvC scope ((y, C + 1) :: cl) C X.env
  outer := X.stack
  stack := X.stack
  ex := ex
  fn := fun x => x == y
  calm := X.calm
  pn := pn
  xe := fun _ _ => False
structure CompOkC (X : Cx) (scope : Scope) (y : Str) (cl : List (Str × Addr)) (N' : List Str) (ix : List Nat) (nl : Nat) : Prop where
  clos : closureFor scope X.env = pure cl
  sub : ∀ z c, cl.lookup z = some c → X.env.cells.lookup z = some c
  has : ∀ p ∈ (relabel scope X.env).names, (p.2 = .cell ∨ p.2 = .free) → (((y, 0) :: cl).lookup p.1).isSome = true
  lay : ∀ n, cellsFrom n scope.names cl = (y, n) :: cl
  push : ∀ h : Heap, pushCells h scope.names = h.push { cls := .type "cell", data := .cell none }
  kind : scope.kind = .function
  names : ∀ z ∈ scope.names, z.2 = .local → scope.names.lookup z.1 = some .local
  len : N'.length = ix.length + nl
  out : ∀ (i j : Nat) (x : Str), ix[i]? = some j → N'[i]? = some x → (x == y) = false ∧ X.N[j]? = some x ∧ (X.env.kindOf x = some .cell ∨ X.env.kindOf x = some .free) ∧ ((relabel scope X.env).names.lookup x = some .cell ∨ (relabel scope X.env).names.lookup x = some .free)
def OutsOkC (X : Cx) (scope : Scope) (y : Str) : List Nat → List Str → Prop
  | [], _ => True
  | j :: r, x :: t => ((x == y) = false ∧ X.N[j]? = some x ∧ (X.env.kindOf x = some .cell ∨ X.env.kindOf x = some .free) ∧ ((relabel scope X.env).names.lookup x = some .cell ∨ (relabel scope X.env).names.lookup x = some .free)) ∧ OutsOkC X scope y r t
  | _ :: _, [] => False
theorem OutsOkC.at {X : Cx} {scope : Scope} {y : Str} : ∀ {ix : List Nat} {N : List Str}, OutsOkC X scope y ix N → ∀ (i j : Nat) (x : Str), ix[i]? = some j → N[i]? = some x → (x == y) = false ∧ X.N[j]? = some x ∧ (X.env.kindOf x = some .cell ∨ X.env.kindOf x = some .free) ∧ ((relabel scope X.env).names.lookup x = some .cell ∨ (relabel scope X.env).names.lookup x = some .free)
  | [], _, _, i, j, y, h1, _ => by simp at h1
  | _ :: _, [], h, _, _, _, _, _ => h.elim
  | _ :: _, _ :: _, h, 0, j, y, h1, h2 => by
    simp at h1 h2
    subst h1 h2
    exact h.1
  | _ :: _, _ :: _, h, i + 1, j, y, h1, h2 => OutsOkC.at h.2 i j y (by simpa using h1) (by simpa using h2)
theorem CompOkC.make {X : Cx} {scope : Scope} {y : Str} {cl : List (Str × Addr)} {N' : List Str} {ix : List Nat} {nl : Nat} (clos : closureFor scope X.env = pure cl) (sub : ∀ p ∈ cl, X.env.cells.lookup p.1 = some p.2)
    (has : ((relabel scope X.env).names.all fun p => !(p.2 == .cell || p.2 == .free) || (((y, 0) :: cl).lookup p.1).isSome) = true) (lay : ∀ n, cellsFrom n scope.names cl = (y, n) :: cl) (push : ∀ h : Heap, pushCells h scope.names = h.push { cls := .type "cell", data := .cell none }) (kind : scope.kind = .function)
    (names : ∀ z ∈ scope.names, z.2 = .local → scope.names.lookup z.1 = some .local) (len : N'.length = ix.length + nl) (out : OutsOkC X scope y ix N') : CompOkC X scope y cl N' ix nl :=
  ⟨clos, fun z c h => sub (z, c) (PySem.mem_of_lookup h), fun p hp hc => by
    have q := List.all_eq_true.mp has p hp
    rcases hc with e | e <;> (rw [e] at q; simpa using q), lay, push, kind, names, len, out.at⟩
theorem lookup_own {y : Str} {n : Addr} {cl : List (Str × Addr)} {x : Str} {c : Addr} (h : ((y, n) :: cl).lookup x = some c) : ((x == y) = true ∧ c = n) ∨ ((x == y) = false ∧ cl.lookup x = some c) := by
  rw [List.lookup_cons] at h
  cases e : x == y with
  | true => rw [e] at h; exact .inl ⟨rfl, by simpa using h.symm⟩
  | false => rw [e] at h; exact .inr ⟨rfl, h⟩
theorem wpAny_newFunctionEnv_own {M : Model} {A : Around} {E : Value → Shared → Prop} {s : Shared} {scope : Scope} {globals : Addr} {y : Str} {cl : List (Str × Addr)} {qual : Str} {func : Option Addr} {code : Value} {outer : Env} {builtins : Addr} {Q : Env → Shared → Prop}
    (lay : ∀ n, cellsFrom n scope.names cl = (y, n) :: cl) (push : ∀ h : Heap, pushCells h scope.names = h.push { cls := .type "cell", data := .cell none })
    (hQ : Q (newEnv scope s.heap.objs.size globals ((y, s.heap.objs.size + 1) :: cl) qual func code (some outer) builtins) { s with heap := (s.heap.push { cls := .type "dict", data := .dict #[] }).push { cls := .type "cell", data := .cell none } }) :
    wpAny M A (newFunctionEnv scope globals cl [] qual func code (some outer) builtins) Q E s := by
  simp only [newFunctionEnv, Option.isSome_some, if_true]
  refine wpAny_bind (wpAny_alloc ?_)
  refine wpAny_bind (wpAny_layCells _ (fun name kind cells => by cases hkc : kind == NameKind.cell <;> simp [hkc]) _ _ _ _ ?_)
  rw [lay, push, show ({ s with heap := s.heap.push { cls := .type "dict", data := .dict #[] } } : Shared).heap.objs.size = s.heap.objs.size + 1 from Heap.size_push ..]
  refine wpAny_bind ?_
  rw [List.forIn_nil]
  exact wpAny_pure (wpAny_pure hQ)
section
variable {X : Cx} {pins : List (Addr × Obj)} {σ : St} {H : Hp} {s : Shared}
theorem blkc_ok {scope : Scope} {y : Str} {cl : List (Str × Addr)} {N' : List Str} {ix : List Nat} {nl : Nat} {C : Addr} {fp : List Addr} (O : CompOkC X scope y cl N' ix nl) (I : Inv X pins σ H s) (hC : s.heap.objs.size ≤ C) (f : ∀ b ∈ fp, FpOk X pins H b) (lt : ∀ b ∈ fp, b < s.heap.objs.size) :
    (blkc X scope y cl N' s H C (X.pn ++ pins) fp).Ok where
  mod := I.ok.mod
  kind := O.kind
  glob := I.ok.glob
  blt := I.ok.blt
  above := hC
  inj := fun x z c h1 h2 => by
    have cl' : ∀ x, cl.lookup x = some c → c < s.heap.objs.size := fun x h => by
      obtain ⟨v, o, ho, _⟩ := I.cell x c (O.sub x c h)
      exact Heap.lt_size ho
    rcases lookup_own h1 with ⟨a1, b1⟩ | ⟨a1, b1⟩ <;> rcases lookup_own h2 with ⟨a2, b2⟩ | ⟨a2, b2⟩
    · exact (by simpa using a1 : x = y).trans (by simpa using a2 : z = y).symm
    · exact absurd (b1 ▸ cl' _ b2 : C + 1 < s.heap.objs.size) (Nat.not_lt.mpr (Nat.le_trans hC (Nat.le_succ _)))
    · exact absurd (b2 ▸ cl' _ b1 : C + 1 < s.heap.objs.size) (Nat.not_lt.mpr (Nat.le_trans hC (Nat.le_succ _)))
    · exact I.ok.inj x z c (O.sub x c b1) (O.sub z c b2)
  has := fun x hx => by
    have hx' : (relabel scope X.env).names.lookup x = some .cell ∨ (relabel scope X.env).names.lookup x = some .free := hx
    have q : (((y, 0) :: cl).lookup x).isSome = true := by
      rcases hx' with h | h
      · exact O.has _ (PySem.mem_of_lookup h) (.inl rfl)
      · exact O.has _ (PySem.mem_of_lookup h) (.inr rfl)
    show ∃ c, ((y, C + 1) :: cl).lookup x = some c
    rw [List.lookup_cons] at q ⊢
    cases e : x == y with
    | true => exact ⟨_, rfl⟩
    | false =>
      rw [e] at q
      exact Option.isSome_iff_exists.mp q
  cab := fun x c h h2 => by
    have h : (x == y) = true := h
    rcases lookup_own h2 with ⟨a1, b1⟩ | ⟨a1, b1⟩
    · show s.heap.objs.size ≤ c
      rw [b1]
      exact Nat.le_trans hC (Nat.le_succ _)
    · rw [h] at a1; cases a1
  hd := I.ok.hd
  frames := I.ok.frames
  stk := .inl rfl
  exf := fun b hb => ⟨Nat.ne_of_lt (Nat.lt_of_lt_of_le (lt b hb) hC), fun x c h => by
    rcases lookup_own h with ⟨a1, b1⟩ | ⟨a1, b1⟩
    · exact fun z => absurd (lt b hb) (by rw [← z, b1]; exact Nat.not_lt.mpr (Nat.le_trans hC (Nat.le_succ _)))
    · exact (f b hb).2.2.2.2.1 x c (O.sub x c b1)⟩
  bs := I.bs
  bsz := Nat.le_trans I.ok.bsz I.sz
  noex := fun b o e hb => by
    rcases (f b hb).2.2.2.1 with z | z
    · exact I.ok.noex b o e z
    · exact absurd (Nat.lt_of_lt_of_le (Heap.lt_size e) (Nat.le_trans I.ok.bsz z)) (Nat.lt_irrefl _)
  exfs := fun b hb z => by
    rcases List.mem_cons.mp (I.stkSub b z) with e | e
    · exact (f b hb).2.1 e
    · exact (f b hb).2.2.1 e
  funs := I.stack
  frf := I.stkFree

theorem blkc_inv {scope : Scope} {y : Str} {cl : List (Str × Addr)} {N' : List Str} {ix : List Nat} {nl : Nat} {C : Addr} {fp : List Addr} {h' : Heap} {t' : Nat} (O : CompOkC X scope y cl N' ix nl) (I : Inv X pins σ H s) (hC : s.heap.objs.size ≤ C) (f : ∀ b ∈ fp, FpOk X pins H b) (lt : ∀ b ∈ fp, b < s.heap.objs.size)
    (hn : h'.Ns C fun _ => none) (hcl : h'.IsCell (C + 1) none) (k : ∀ b o, s.heap.get? b = some o → h'.get? b = some o) :
    Inv (blkc X scope y cl N' s H C (X.pn ++ pins) fp) [] (slots ix σ ++ List.replicate nl none) H { s with heap := h', toks := t' } := by
  refine ⟨blkc_ok O I hC f lt, rfl, I.bare, Un.kept k, ⟨_, hn, fun i x v e1 e2 e3 => ?_⟩, fun x c e => ?_, I.hok.fresh hC, fun x c e => ?_, fun p hp => ?_, I.hok.kept k, ?_⟩
  · have e1 : N'[i]? = some x := e1
    have hi : i < ix.length := by
      by_cases hi : i < ix.length
      · exact hi
      · rw [List.getElem?_append_right (by simpa [slots] using hi)] at e2
        rw [List.getElem?_replicate] at e2
        split at e2 <;> cases e2
    have e2' : (σ[ix[i]]?).getD none = some v := by
      rw [List.getElem?_append_left (by simpa [slots] using hi)] at e2
      simpa [slots, hi] using e2
    have e4 : σ[ix[i]]? = some (some v) := by
      cases q : σ[ix[i]]? with
      | none => rw [q] at e2'; cases e2'
      | some z => rw [q] at e2'; exact congrArg some e2'
    obtain ⟨o0, o1, o2, o3⟩ := O.out i ix[i] x (by simp [hi]) e1
    obtain ⟨m, hm, hl⟩ := I.loc
    have vis : Vis X.env.scope x := by
      rcases o2 with z | z
      · exact .inr (.inl z)
      · exact .inr (.inr z)
    obtain ⟨u, r, l⟩ := hl _ x v o1 e4 vis
    rcases l with ⟨z, _⟩ | ⟨_, c, hc, o, ho, hd⟩
    · rcases o2 with y | y <;> (rw [y] at z; cases z)
    · obtain ⟨c', hc'⟩ := (blkc_ok O I hC f lt).has x o3
      have z := O.sub x c' (by
        rcases lookup_own hc' with ⟨a1, _⟩ | ⟨_, b1⟩
        · rw [o0] at a1; cases a1
        · exact b1)
      rw [hc] at z
      cases z
      exact ⟨u, r, .inr ⟨o3, c, hc', o, k _ _ ho, hd⟩⟩
  · rcases lookup_own e with ⟨_, b1⟩ | ⟨_, b1⟩
    · exact ⟨none, b1 ▸ hcl⟩
    · obtain ⟨v, q⟩ := I.cell x c (O.sub x c b1)
      exact ⟨v, by obtain ⟨o, ho, hd⟩ := q; exact ⟨o, k _ _ ho, hd⟩⟩
  · rcases lookup_own e with ⟨_, b1⟩ | ⟨_, b1⟩
    · exact b1 ▸ I.hok.fresh (Nat.le_trans hC (Nat.le_succ _))
    · exact I.freeC x c (O.sub x c b1)
  · have hp' : p ∈ X.pn ++ pins := by
      have z : p ∈ (X.pn ++ pins) ++ [] := hp
      rwa [List.append_nil] at z
    obtain ⟨a1, a2, a3, a4, a5⟩ := I.pin p hp'
    refine ⟨k _ _ a1, a2, Nat.ne_of_lt (Nat.lt_of_lt_of_le (Heap.lt_size a1) hC), fun z => ?_, a5⟩
    rcases List.mem_cons.mp (I.stkSub p.1 z) with e | e
    · exact a3 e
    · exact a4 e
  · show (slots ix σ ++ List.replicate nl none).length = N'.length
    rw [List.length_append, List.length_replicate, O.len]
    simp [slots]

theorem blkc_back {scope : Scope} {y : Str} {cl : List (Str × Addr)} {N' : List Str} {C : Addr} {fp : List Addr} {s' : Shared} {τ : St} {H' : Hp} (I : Inv X pins σ H s) (f : ∀ b ∈ fp, FpOk X pins H b)
    (J : Inv (blkc X scope y cl N' s H C (X.pn ++ pins) fp) [] τ H' s') : Inv X pins σ H' s' :=
  I.call' J.os J.base J.hok J.bare fun b hb => ⟨(f b hb).2.2.2.1, (f b hb).2.1, (f b hb).2.2.2.2.1, (f b hb).2.2.2.2.2⟩
theorem blkc_loop {elt iter tg : Expr} {ifs : List Expr} {scope : Scope} {pos : Pos} {y : Str} {cl : List (Str × Addr)} {N' : List Str} {C D it : Addr} {fp : List Addr} {tn : Nat → Heap → Prop} {J : It} {g : TG} {tt : TT} {te : TE} {s₄ : Shared} {W : Nat → Nat → St → Hp → Prop} {Q : VK}
    {τ : St} {H₀ : Hp} {s₃ : Shared} {pn : List (Addr × Obj)} {m0 : Nat} {R : Result → Shared → Prop} (hc : X.calm = true) (T : Turn X.prog X.w X.K tg J fp it tn)
    (f : ∀ H', (∀ b ∈ fp, H' b = none) → ∀ b ∈ fp, FpOk (blkc X scope y cl N' s₃ H₀ C pn fp) [] H' b)
    (hg : PG (blkc X scope y cl N' s₃ H₀ C pn fp) tg g) (ht : PIfs (blkc X scope y cl N' s₃ H₀ C pn fp) ifs tt) (he : PE (blkc X scope y cl N' s₃ H₀ C pn fp) elt te)
    (I4 : Inv (blkc X scope y cl N' s₃ H₀ C pn fp) [] τ H s₄) (st : tn 0 s₄.heap) (fr : ∀ b ∈ fp, H b = none) (w0 : W 0 m0 τ H) (hW : compW D J g tt te Q W)
    (fin : ∀ τ' H' s', Inv (blkc X scope y cl N' s₃ H₀ C pn fp) [] τ' H' s' → Q (.ref D) H' → R (.ok .next) s') :
    codeAny (model X.prog X.w) X.A (.compLoop (.ListComp elt [⟨tg, iter, ifs, 0⟩] scope pos) 0 (.ref it) (.ref D) (compEnvC scope ((y, C + 1) :: cl) C X.env)) R s₄ := by
  refine compLoop_go (fun n s' => ∃ i τ' H', Inv (blkc X scope y cl N' s₃ H₀ C pn fp) [] τ' H' s' ∧ tn i s'.heap ∧ (∀ b ∈ fp, H' b = none) ∧ W i n τ' H') ?_ m0 ⟨0, τ, H, I4, st, fr, w0⟩
  rintro n s5 ⟨i, τ5, H5, I5, st5, fr5, w5⟩
  rcases hW i n τ5 H5 w5 with ⟨stop, q⟩ | ⟨go, step⟩
  · refine thn (T.done (blkc X scope y cl N' s₃ H₀ C pn fp) rfl rfl rfl hc i [] s5 τ5 H5 (fun _ _ => False) I5 (f H5 fr5) st5 stop) fun r s6 ⟨hr, I6⟩ => ?_
    subst hr
    exact fin τ5 H5 s6 I6 q
  · refine thn (T.item (blkc X scope y cl N' s₃ H₀ C pn fp) rfl rfl rfl hc i [] s5 τ5 H5 (fun _ _ => False) I5 (f H5 fr5) st5 go) fun r s6 ⟨u, hr, h6⟩ => ?_
    subst hr
    refine thn h6 fun _ s7 ⟨x, H7, I7, r7, y7, st7, fr7⟩ => ?_
    have I7' := I7.pinned (f H7 fr7) (T.obj _ _ st7)
    have keep : ∀ {τ8 : St} {H8 : Hp} {s8 : Shared}, Inv (blkc X scope y cl N' s₃ H₀ C pn fp) ([] ++ pinsAt fp s7.heap) τ8 H8 s8 → Inv (blkc X scope y cl N' s₃ H₀ C pn fp) [] τ8 H8 s8 ∧ tn (i + 1) s8.heap ∧ ∀ b ∈ fp, H8 b = none := fun {τ8 H8 s8} I8 => by
      refine ⟨I8.unpinned, T.keep _ _ _ st7 fun b hb o e => (I8.pin (b, o) (List.mem_append_right _ (List.mem_append_right _ (mem_pinsAt hb e)))).1, fun b hb => ?_⟩
      obtain ⟨o, e, d⟩ := T.obj _ _ st7 b hb
      exact (I8.pin (b, o) (List.mem_append_right _ (List.mem_append_right _ (mem_pinsAt hb e)))).2.1
    refine thn (hg _ s7 τ5 H7 x u _ I7' r7 (step x H7 y7)) fun _ s8 ⟨τ8, H8, I8, q8⟩ => ?_
    refine thn (ht _ s8 τ8 H8 _ I8 q8) fun b s9 ⟨H9, I9, q9⟩ => ?_
    cases b with
    | false =>
      obtain ⟨m', hm, w'⟩ := q9
      obtain ⟨k1, k2, k3⟩ := keep I9
      exact ⟨m', hm, i + 1, τ8, H9, k1, k2, k3, w'⟩
    | true =>
      refine thn (he _ s9 τ8 H9 _ I9 q9) fun y s10 ⟨v, H10, I10, r10, ys, hD, hl, m', hm, w'⟩ => ?_
      refine thn (mt_append _ s10 τ8 H10 (.ref D) [v] (.ref D) [y] (fun _ H11 => W (i + 1) m' τ8 H11) I10 rfl (.cons r10 .nil) ⟨D, ys, v, rfl, rfl, hD, hl, w'⟩) fun z s11 ⟨_, H11, I11, _, w11⟩ => ?_
      obtain ⟨k1, k2, k3⟩ := keep I11
      exact ⟨m', hm, i + 1, τ8, H11, k1, k2, k3, w11⟩
end

section
variable {X : Cx} {elt iter tg : Expr} {ifs : List Expr} {scope : Scope} {pos : Pos} {y : Str} {cl : List (Str × Addr)} {N' : List Str} {ix : List Nat} {nl : Nat} {wi : TI} {g : TG} {tt : TT} {te : TE}
theorem compc_run {pins : List (Addr × Obj)} {σ : St} {H1 : Hp} {s2 : Shared} {Q : VK} {it : Addr} {fp : List Addr} {tn : Nat → Heap → Prop} {J : It} {RR : Value → Addr → Result → Shared → Prop} {E : Value → Shared → Prop}
    (hc : X.calm = true) (O : CompOkC X scope y cl N' ix nl) (hg : ∀ s₀ H₀ C pn ex, PG (blkc X scope y cl N' s₀ H₀ C pn ex) tg g) (ht : ∀ s₀ H₀ C pn ex, PIfs (blkc X scope y cl N' s₀ H₀ C pn ex) ifs tt)
    (he : ∀ s₀ H₀ C pn ex, PE (blkc X scope y cl N' s₀ H₀ C pn ex) elt te) (I1 : Inv X pins σ H1 s2) (T : Turn X.prog X.w X.K tg J fp it tn) (st : tn 0 s2.heap) (f1 : ∀ b ∈ fp, FpOk X pins H1 b)
    (q : ∀ D, H1 D = none → ∃ W : Nat → Nat → St → Hp → Prop, (∃ m, W 0 m (slots ix σ ++ List.replicate nl none) (upd H1 D (.lst []))) ∧ compW D J g tt te Q W)
    (fin : ∀ D C H' s', Left X pins σ C H' s' → Q (.ref D) H' → RR (.ref D) C (.ok .next) s') :
    wpAny (model X.prog X.w) X.A (newList []) (fun acc s₃ => wpAny (model X.prog X.w) X.A (newFunctionEnv scope X.env.globals cl [] X.env.qual none .none (some X.env)) (fun cenv s₄ =>
      codeAny (model X.prog X.w) X.A (.compStart (.ListComp elt [⟨tg, iter, ifs, 0⟩] scope pos) 0 (.ref it) acc { cenv with scope := relabel scope X.env }) (RR acc cenv.locals) s₄) E s₃) E s2 := by
  refine wpAny_newObj_type (wpAny_newFunctionEnv_own O.lay O.push ?_)
  obtain ⟨h₁, hh₁⟩ : ∃ h₁ : Heap, h₁ = ((s2.heap.push { cls := .type "list", data := .seq ([] : List Value).toArray }).push { cls := .type "dict", data := .dict #[] }).push { cls := .type "cell", data := .cell none } := ⟨_, rfl⟩
  have hns₁ : h₁.Ns (s2.heap.push { cls := .type "list", data := .seq ([] : List Value).toArray }).objs.size fun _ => none := by
    rw [hh₁]
    exact (Heap.Ns.new _ _).keeps fun b o e => Heap.get?_push_of_some _ e
  have hcl₁ : h₁.IsCell ((s2.heap.push { cls := .type "list", data := .seq ([] : List Value).toArray }).objs.size + 1) none := by
    rw [hh₁]
    have e : (s2.heap.push { cls := .type "list", data := .seq ([] : List Value).toArray }).objs.size + 1 = ((s2.heap.push { cls := .type "list", data := .seq ([] : List Value).toArray }).push { cls := .type "dict", data := .dict #[] }).objs.size := (Heap.size_push ..).symm
    rw [e]
    exact ⟨{ cls := .type "cell", data := .cell none }, Heap.get?_push_size _ rfl, rfl⟩
  have hf : H1 s2.heap.objs.size = none := I1.hok.fresh (Nat.le_refl _)
  obtain ⟨W, ⟨m0, w0⟩, hW⟩ := q s2.heap.objs.size hf
  have lt : ∀ b ∈ fp, b < s2.heap.objs.size := fun b hb => by
    obtain ⟨o, e, _⟩ := T.obj _ _ st b hb
    exact Heap.lt_size e
  have I3 : Inv X pins σ (upd H1 s2.heap.objs.size (.lst [])) { s2 with heap := s2.heap.push { cls := .type "list", data := .seq ([] : List Value).toArray } } :=
    I1.laid (t' := s2.toks) (fun b u e => Heap.get?_push_of_some _ e) (Nat.le_refl _) ⟨Nat.zero_le _, [], 0, .nil, Heap.get?_push_size _ rfl⟩
  have f3 : ∀ b ∈ fp, FpOk X pins (upd H1 s2.heap.objs.size (.lst [])) b := fun b hb => ⟨by rw [upd_ne (Nat.ne_of_lt (lt b hb))]; exact (f1 b hb).1, (f1 b hb).2⟩
  have sz : (s2.heap.push { cls := .type "list", data := .seq ([] : List Value).toArray }).objs.size = s2.heap.objs.size + 1 := Heap.size_push ..
  have lt3 : ∀ b ∈ fp, b < (s2.heap.push { cls := .type "list", data := .seq ([] : List Value).toArray }).objs.size := fun b hb => by rw [sz]; exact Nat.lt_succ_of_lt (lt b hb)
  have k3 : ∀ b o, (s2.heap.push { cls := .type "list", data := .seq ([] : List Value).toArray }).get? b = some o → h₁.get? b = some o := fun b o e => by rw [hh₁]; exact Heap.get?_push_of_some _ (Heap.get?_push_of_some _ e)
  have I4 := blkc_inv (t' := s2.toks) O I3 (Nat.le_refl _) f3 lt3 hns₁ hcl₁ k3
  have st4 : tn 0 h₁ := T.keep _ _ _ st fun b hb o e => k3 b o (Heap.get?_push_of_some _ e)
  have fB : ∀ H', (∀ b ∈ fp, H' b = none) → ∀ b ∈ fp, FpOk (blkc X scope y cl N' { s2 with heap := s2.heap.push { cls := .type "list", data := .seq ([] : List Value).toArray } } (upd H1 s2.heap.objs.size (.lst [])) (s2.heap.push { cls := .type "list", data := .seq ([] : List Value).toArray }).objs.size (X.pn ++ pins) fp) [] H' b := fun H' hn b hb => by
    refine ⟨hn b hb, Nat.ne_of_lt (lt3 b hb), ?_, .inl hb, fun x c h => ?_, fun p hp => ?_⟩
    · intro z
      rcases List.mem_cons.mp (I3.stkSub b z) with e | e
      · exact (f1 b hb).2.1 e
      · exact (f1 b hb).2.2.1 e
    · rcases lookup_own h with ⟨_, b1⟩ | ⟨_, b1⟩
      · exact fun z => absurd (lt3 b hb) (by rw [← z, b1]; exact Nat.not_lt.mpr (Nat.le_succ _))
      · exact (f1 b hb).2.2.2.2.1 x c (O.sub x c b1)
    · have hp' : p ∈ X.pn ++ pins := by
        have z : p ∈ (X.pn ++ pins) ++ [] := hp
        rwa [List.append_nil] at z
      exact (f1 b hb).2.2.2.2.2 p hp'
  have loop := blkc_loop (pos := pos) (iter := iter) (R := RR (.ref s2.heap.objs.size) (s2.heap.push { cls := .type "list", data := .seq ([] : List Value).toArray }).objs.size) hc T fB (hg _ _ _ _ _) (ht _ _ _ _ _) (he _ _ _ _ _) I4 st4 (fun b hb => (f3 b hb).1) w0 hW (fun τ' H' s' J' qf => by
    obtain ⟨m, hm, _⟩ := J'.loc
    refine fin _ _ H' s' ⟨blkc_back I3 f3 J', ⟨m, hm⟩, I3.sz, Nat.ne_of_gt I3.lt, fun x c e z => ?_, fun p hp z => ?_, J'.free⟩ qf
    · obtain ⟨v, o, ho, _⟩ := I3.cell x c e
      exact absurd (Heap.lt_size ho) (by rw [z]; exact Nat.lt_irrefl _)
    · exact absurd (Heap.lt_size (I3.pin p hp).1) (by rw [z]; exact Nat.lt_irrefl _))
  rw [← hh₁]
  exact codeAny_compStart_list loop (T.self _ 0 _ _ _ st4 loop)
theorem pe_compc (hc : X.calm = true) (O : CompOkC X scope y cl N' ix nl) (hi : PI X tg iter wi) (hg : ∀ s₀ H₀ C pn ex, PG (blkc X scope y cl N' s₀ H₀ C pn ex) tg g) (ht : ∀ s₀ H₀ C pn ex, PIfs (blkc X scope y cl N' s₀ H₀ C pn ex) ifs tt)
    (he : ∀ s₀ H₀ C pn ex, PE (blkc X scope y cl N' s₀ H₀ C pn ex) elt te) (hs : ∀ x, foldedSetIterable iter X.env x = pure x := by intro _; rfl) :
    PE X (.ListComp elt [⟨tg, iter, ifs, 0⟩] scope pos) (tComp ix nl wi g tt te) := by
  intro pins s σ H Q I h
  rw [eval_ListComp]
  refine wpAny_comprehension_free (use := none) rfl hs O.clos O.kind O.names (thn (hi pins s σ H _ I h) fun xv s1 h1 => thn h1 fun itv s2 h2 => ?_)
  obtain ⟨it, fp, tn, J, H1, rfl, I1, T, st, f1, q⟩ := h2
  refine compc_run (RR := fun acc C => compPost (model X.prog X.w) X.A X.xe none (EP X pins σ Q) acc C) hc O hg ht he I1 T st f1 q (fun D C H' s' L qf => ?_)
  obtain ⟨m, hm⟩ := L.ns
  exact ⟨m, hm, fun h' sb => ⟨.ref D, H', L.inv.letgo L.sz L.loc L.cel L.pin L.non sb, rfl, qf⟩⟩
end
end L2

namespace L2
open PySem PySem.Spec PyProof.Rows
section
variable {prog : Program} {w : World} {A : Around} {s : Shared} {R : Result → Shared → Prop}
variable {I : Addr} {fp wr : List Addr} {G : Array GenState → Array GenState → Prop} {n : Nat} {P : Nat → Value → Prop} {St : Nat → Shared → Prop} {T : String}
end
section
variable {prog : Program} {w : World} {A : Around} {E : Value → Shared → Prop} {s : Shared}
variable {I : Addr} {fp wr : List Addr} {G : Array GenState → Array GenState → Prop} {n : Nat} {P : Nat → Value → Prop} {St : Nat → Shared → Prop} {T : String}
end
section
variable {X : Cx} {pins : List (Addr × Obj)} {σ : St} {H : Hp} {s : Shared}
end
section
variable {X : Cx} {e : Expr} {t : TA} {p1 p2 pos1 pos2 : Pos}
end
end L2

namespace L2
open PySem PySem.Spec PyProof.Rows
section
variable {prog : Program} {w : World} {A : Around} {E : Value → Shared → Prop} {s : Shared}
end
section
variable {X : Cx} {e : Expr} {t : TA} {p1 p2 pos1 pos2 : Pos}
end
end L2

namespace L2
open PySem PySem.Spec PyProof.Rows
def rIndexD (K : PySem.W.Frag) : V → List V → Hp → VK → Prop := fun x vs H Q => ∃ (l : Addr) (y : V) (d : PyData) (ds : List PyData) (j : Nat), x = .ref l ∧ vs = [y] ∧ j < 1000 ∧ Rep K H y d ∧ Rep K H (.ref l) (.list ds) ∧ flatD d ∧ flatD (.list ds) ∧
  (∃ z, ds[j]? = some z ∧ PyData.eqv z d = true) ∧ (∀ m z, m < j → ds[m]? = some z → PyData.eqv z d = false) ∧ Q (.int j) H
theorem mt_indexD {X : Cx} {K : PySem.W.Frag} (hK : X.K = K) (hu : X.A.units + 60 < cLine) : MtR X "list.index" (rIndexD K) := by
  subst hK
  intro pins s σ H x vs v us Q I rx rv h
  obtain ⟨l, y, d, ds, j, rfl, rfl, hj9, hd, he, fd, fe, ⟨z0, hz0, ez0⟩, hno, q⟩ := h
  cases rx
  cases rv with
  | @cons _ u1 _ _ r1 rv =>
    cases rv
    obtain ⟨as, R1⟩ := hd.reads I r1
    obtain ⟨bs, R2⟩ := he.reads I (show RelV (.ref l) (.ref l) from rfl)
    have dp : PyData.depthAll ds + 1 ≤ 40 := fe.2
    have fe1 : PyData.canLayAll0 ds = true := fe.1
    cases R2 with
    | @list _ o its n _ as' e1 e2 e3 e4 =>
      have emap := SeqAt.readsAll_map ds its.toList as' fe1 e4
      have at_ : ∀ (m : Nat) (hm : m < its.size), ds[m]? = some (SeqAt.readOf s.heap its[m]) := fun m hm => by
        rw [← emap, List.getElem?_map]
        simp [hm]
      have hj : j < its.size := by
        have := (List.getElem?_eq_some_iff.mp hz0).1
        have hl : ds.length = its.size := by rw [← emap]; simp
        omega
      have M := SeqAt.list_indexAt l its n o.dict o.slots u1 (fun z => PyData.eqv (SeqAt.readOf s.heap z) d) j hj (by omega) (by
        have := at_ j hj
        rw [hz0] at this
        cases this
        exact ez0) (fun m hm hlt => hno m _ hlt (at_ m hm))
      have eo : s.heap.get? l = some { cls := .type "list", dict := o.dict, data := .seq its n, slots := o.slots } := by
        rw [e1, ← e2, ← e3]
      refine call_meets F.slot_list_index ⟨_, e1, e2⟩ F.entry_list_index (F.args_list_index_2 _ _) M ⟨eo, fun z hz => ?_, ?_⟩
      · obtain ⟨d', as2, R3, c3, dp3⟩ := SeqAt.readsAll_mem ds its.toList as' fe1 e4 z (by simpa using hz)
        have er : SeqAt.readOf s.heap z = d' := by
          have := SeqAt.readsAll_map [d'] [z] _ (by show (PyData.canLay0 d' && true) = true; rw [c3]; rfl) (.cons R3 .nil)
          simpa using this
        rw [er]
        refine SeqAt.eqAt_reads d' d _ s z u1 as2 as R3 R1 c3 fd.1 ?_
        have := fd.2
        show X.A.units + 1 + min d'.depth d.depth < cLine
        omega
      · exact ⟨.int _, H, I.tok _, ⟨_, rfl⟩, q⟩
theorem call_setK {X : Cx} {K : PySem.W.Frag} (h : X.K = K) (hc : X.calm = true) : CallR X (.type "set") (fun xs H Q => ∃ (p : Addr) (ns : List Int), xs = [.ref p] ∧ SqL K H p (ns.map V.int) ∧ ns.length < 1000 ∧ ∀ l S m, H l = none → Q (.ref l) (upd H l (.set S m))) := by
  subst h
  intro pins s σ H xs us Q I r q
  obtain ⟨p, ns, e, a, b, q⟩ := q
  exact call_set_of hc pins s σ H xs us Q I r ⟨p, ns, e, a, b, fun l hl => q l _ _ hl⟩
end L2

namespace L2
open PySem PySem.Spec PyProof.Rows
section
variable {κ : Type} [DecidableEq κ]
def valV (kvs : List (κ × V)) (k : κ) : Option V := (kvs.find? fun kv => decide (kv.1 = k)).map (·.2)
def dropK (kvs : List (κ × V)) (k : κ) : List (κ × V) := kvs.filter fun kv => decide (kv.1 ≠ k)

theorem valV_pos {p : κ × V} {r : List (κ × V)} {k : κ} (e : p.1 = k) : valV (p :: r) k = some p.2 := by simp [valV, List.find?_cons, e]
theorem valV_neg {p : κ × V} {r : List (κ × V)} {k : κ} (e : ¬ p.1 = k) : valV (p :: r) k = valV r k := by simp [valV, List.find?_cons, e]
theorem RelO.isSome_eq {o : Option V} {u : Option Value} (r : RelO o u) : o.isSome = u.isSome := by
  cases o with
  | none => cases u with
    | none => rfl
    | some _ => exact (show False from r).elim
  | some _ => cases u with
    | none => exact (show False from r).elim
    | some _ => rfl
theorem RelO.getD {o : Option V} {u : Option Value} {d : V} {d' : Value} (r : RelO o u) (rd : RelV d d') : RelV (o.getD d) (u.getD d') := by
  cases o with
  | none => cases u with
    | none => exact rd
    | some _ => exact (show False from r).elim
  | some _ => cases u with
    | none => exact (show False from r).elim
    | some _ => exact r

theorem KV.val {kvs : List (κ × V)} {vs : List (κ × Value)} (r : KV kvs vs) (k : κ) : RelO (valV kvs k) (valueAt vs k) := by
  unfold KV at r
  induction r with
  | nil => exact True.intro
  | @cons p q ps qs h t ih =>
    obtain ⟨h1, h2⟩ := h
    by_cases e : p.1 = k
    · have e' : q.1 = k := h1.symm.trans e
      have b : valueAt (q :: qs) k = some q.2 := by simp [valueAt, List.find?_cons, e']
      rw [valV_pos e, b]; exact h2
    · have e' : ¬ q.1 = k := fun z => e (h1.trans z)
      have b : valueAt (q :: qs) k = valueAt qs k := by simp [valueAt, List.find?_cons, e']
      rw [valV_neg e, b]; exact ih
theorem KV.any {kvs : List (κ × V)} {vs : List (κ × Value)} (r : KV kvs vs) (k : κ) : (kvs.any fun kv => decide (kv.1 = k)) = vs.any fun kv => decide (kv.1 = k) := by
  unfold KV at r
  induction r with
  | nil => rfl
  | cons h t ih => rw [List.any_cons, List.any_cons, ih, h.1]
theorem KV.drop {kvs : List (κ × V)} {vs : List (κ × Value)} (r : KV kvs vs) (k : κ) : KV (dropK kvs k) (without vs k) := by
  unfold KV at r ⊢
  unfold dropK without
  induction r with
  | nil => exact .nil
  | @cons p q ps qs h t ih =>
    obtain ⟨h1, h2⟩ := h
    rw [List.filter_cons, List.filter_cons]
    by_cases e : p.1 = k
    · have a : ¬ decide (p.1 ≠ k) = true := by simp [e]
      have b : ¬ decide (q.1 ≠ k) = true := by simp [h1.symm.trans e]
      rw [if_neg a, if_neg b]; exact ih
    · have e' : ¬ q.1 = k := fun z => e (h1.trans z)
      have a : decide (p.1 ≠ k) = true := by simp [e]
      have b : decide (q.1 ≠ k) = true := by simp [e']
      rw [if_pos a, if_pos b]; exact .cons ⟨h1, h2⟩ ih
theorem KV.keys {kvs : List (κ × V)} {vs : List (κ × Value)} (r : KV kvs vs) : kvs.map (·.1) = vs.map (·.1) := by
  unfold KV at r
  induction r with
  | nil => rfl
  | cons h t ih => rw [List.map_cons, List.map_cons, ih, h.1]
theorem KV.length {kvs : List (κ × V)} {vs : List (κ × Value)} (r : KV kvs vs) : kvs.length = vs.length := Paired.length r
end


theorem kV_is {P : Program} {w : World} {k : Key} {u : Value} (r : RelV (kV k) u) : (mixKind P w).is k u = true := by
  cases k with
  | inl i => obtain ⟨t, e⟩ := (show ∃ t, u = Value.int i t from r); subst e; exact mixKind_int P w i t
  | inr x => obtain ⟨t, e⟩ := (show ∃ t, u = Value.str x t from r); subst e; exact mixKind_str P w x t
section
variable {P : Program} {w : World} {H : Hp} {h : Heap} {a : Addr}
end

section
variable {X : Cx} {pins : List (Addr × Obj)} {σ : St} {H : Hp} {s : Shared} {a : Addr} {y v : V} {u r : Value} {o : Option V} {A : Around} {E : Value → Shared → Prop}

theorem Inv.big (I : Inv X pins σ H s) : sysModules < s.heap.objs.size := by
  have h : mainGlobals < s.heap.objs.size := (I.mod.glob.keeps I.bk).lt
  exact Nat.lt_trans (by decide) h

end

section
variable {X : Cx} {pins : List (Addr × Obj)} {σ : St} {H : Hp} {s : Shared} {a : Addr} {kvs : List (Key × V)} {k : Key} {u : Value} {A : Around} {E : Value → Shared → Prop}
end


def NoSl (i : Expr) : Prop := ∀ ov iv, subscripted i false ov iv = operate [ov, iv] (getItem ov iv)
theorem subD_of {prog : Program} {w : World} {A : Around} {E : Value → Shared → Prop} {s : Shared} {env : Env} {value slice : Expr} {pos : Pos} {T id : String} {Q : Value → Shared → Prop}
    (hl : typeLookup (.type T) "__getitem__" = pure (some (.builtin id))) (hs : NoSl slice)
    (h : wpAny (model prog w) A (eval value env) (fun o s₁ => wpAny (model prog w) A (eval slice env) (fun i s₂ => s₂.TypeIs o T ∧ wpAny (model prog w) A (getItem o i) Q E s₂) E s₁) E s) :
    wpAny (model prog w) A (eval (.Subscript value slice pos) env) Q E s := by
  refine Subscript_ (wpAny_mono h (fun o s₁ h₁ => wpAny_mono h₁ (fun i s₂ h₂ => ?_) fun _ _ x => x) fun _ _ x => x)
  obtain ⟨hT, h₂⟩ := h₂
  unfold subscriptTail
  refine wpAny_bind ?_
  rw [getitemInPython_of_ne hT.not_modules]
  refine wpAny_bind (wpAny_specialOf hT hl ?_)
  have fin : wpAny (model prog w) A (subscripted slice false o i) (fun r s₃ => wpAny (model prog w) A (letTemporaryGo value o r >>= fun _ => pure r) Q E s₃) E s₂ := by
    rw [hs o i]
    exact wpAny_operating (wpAny_mono h₂ (fun r s₃ h₃ => wpAny_bind (wpAny_letTemporaryGo (wpAny_pure h₃))) fun _ _ x => x)
  first
    | exact wpAny_pure (wpAny_bind fin)
    | exact wpAny_bind (wpAny_pure (wpAny_bind fin))
    | exact wpAny_bind fin

section
variable {X : Cx} {o i e value : Expr} {pos pos' tpos : Pos} {td ty tv : TE}
end


section
variable {X : Cx} {pos : Pos}
end

structure M1 (X : Cx) (o : Expr) (m : Str) (apos : Pos) (e : Expr) (cpos : Pos) : Prop where
  base : attributeBase o m X.env (eval o X.env) = eval o X.env
  few : ((backTo cpos (starEach [e] X.env)).all (fun x => !x.1) && (backToKw cpos (keywordEach [] X.env)).all (fun x => x.1.isSome)
    && decide (([e] : List Expr).length + ([] : List Keyword).length + (if ([] : List Keyword).isEmpty then 0 else 1) < 30)) = true
  line : (apos.endLine == cpos.line) = true
  trees : backTo cpos (starEach [e] X.env) = [(false, eval e X.env)]
structure M2 (X : Cx) (o : Expr) (m : Str) (apos : Pos) (e f : Expr) (cpos : Pos) : Prop where
  base : attributeBase o m X.env (eval o X.env) = eval o X.env
  few : ((backTo cpos (starEach [e, f] X.env)).all (fun x => !x.1) && (backToKw cpos (keywordEach [] X.env)).all (fun x => x.1.isSome)
    && decide (([e, f] : List Expr).length + ([] : List Keyword).length + (if ([] : List Keyword).isEmpty then 0 else 1) < 30)) = true
  line : (apos.endLine == cpos.line) = true
  trees : backTo cpos (starEach [e, f] X.env) = [(false, eval e X.env), (false, eval f X.env)]

section
variable {X : Cx} {pins : List (Addr × Obj)} {σ : St} {H : Hp} {s : Shared} {a : Addr} {y d : V} {u r : Value} {o : Option V} {A : Around} {E : Value → Shared → Prop}
end

section
variable {X : Cx} {o e f : Expr} {apos cpos : Pos} {td ty tx : TE}
end

section
variable {X : Cx} {pins : List (Addr × Obj)} {σ : St} {H : Hp} {s : Shared} {a : Addr} {kvs : List (Key × V)} {A : Around} {E : Value → Shared → Prop}
end


section
variable {X : Cx} {pins : List (Addr × Obj)} {σ : St} {H : Hp} {s : Shared} {a : Addr} {y : V} {u : Value} {A : Around} {E : Value → Shared → Prop}
end
end L2
namespace L2
open PySem PySem.Spec PyProof.Rows
section
variable {κ : Type} [DecidableEq κ]
end
end L2

namespace L2
open PySem PySem.Spec PyProof.Rows
def KEnt (P : Params) : List DictEntry → List (Str × V) → Prop
  | [], [] => True
  | e :: es, kv :: r => (∃ t, e.key = .str kv.1 t) ∧ e.hash = PyData.keyHash P kv.1 ∧ RelV kv.2 e.val ∧ KEnt P es r
  | _, _ => False
structure KDct (P : Params) (K : PySem.W.Frag) (a : Addr) (kvs : List (Str × V)) : Prop where
  sm : (a == sysModules) = false
  nd : (kvs.map (·.1)).Nodup
  ob : ∃ es ep, K.lookup a = some ⟨.type "dict", none, .dict es ep, #[]⟩ ∧ KEnt P es.toList kvs
def kvK (kvs : List (Str × V)) : List (Key × V) := kvs.map fun kv => (.inr kv.1, kv.2)
theorem valV_kvK (k : Str) : ∀ kvs : List (Str × V), valV (kvK kvs) (.inr k) = valV kvs k
  | [] => rfl
  | p :: r => by
    by_cases e : p.1 = k
    · rw [valV_pos e]
      exact valV_pos (show (Sum.inr p.1 : Key) = Sum.inr k by rw [e])
    · rw [valV_neg e, ← valV_kvK k r]
      exact valV_neg fun z => e (by injection z)
theorem KEnt.pairs {prog : Program} {w : World} : ∀ {es : List DictEntry} {kvs : List (Str × V)}, KEnt w.params es kvs → ∃ vs : List (Key × Value), KV (kvK kvs) vs ∧ Pairs (mixKind prog w) es vs ∧ ∀ e ∈ es, ∃ k, (mixKind prog w).is k e.key = true ∧ e.hash = (mixKind prog w).hash k
  | [], [], _ => ⟨[], .nil, .nil, fun e h => by cases h⟩
  | e :: es, kv :: r, ⟨⟨t, hk⟩, hh, rv, t2⟩ => by
    obtain ⟨vs, h1, h2, h3⟩ := KEnt.pairs (prog := prog) t2
    have is : (mixKind prog w).is (.inr kv.1) e.key = true := by rw [hk]; exact kV_is (k := .inr kv.1) (u := .str kv.1 t) ⟨t, rfl⟩
    refine ⟨(.inr kv.1, e.val) :: vs, .cons ⟨rfl, rv⟩ h1, .cons is rfl h2, fun e' he => ?_⟩
    rcases List.mem_cons.mp he with rfl | he
    · exact ⟨_, is, hh⟩
    · exact h3 e' he
  | [], _ :: _, h => h.elim
  | _ :: _, [], h => h.elim
theorem nodup_inr : ∀ {l : List Str}, l.Nodup → (l.map (Sum.inr : Str → Key)).Nodup
  | [], _ => .nil
  | a :: l, h => by
    rw [List.nodup_cons] at h
    rw [List.map_cons, List.nodup_cons]
    refine ⟨fun m => ?_, nodup_inr h.2⟩
    obtain ⟨b, hb, e⟩ := List.mem_map.mp m
    injection e with e
    exact h.1 (e ▸ hb)
section
variable {X : Cx} {pins : List (Addr × Obj)} {σ : St} {H : Hp} {s : Shared} {a : Addr} {k : Str} {v : V} {u : Value} {A : Around} {E : Value → Shared → Prop} {kvs : List (Str × V)}
theorem KDct.dict (I : Inv X pins σ H s) (D : KDct X.w.params X.K a kvs) : ∃ vs : List (Key × Value), KV (kvK kvs) vs ∧ s.heap.DictOf (mixKind X.prog X.w) a vs := by
  obtain ⟨sm, nd, es, ep, hl, he⟩ := D
  obtain ⟨vs, h1, h2, h3⟩ := he.pairs (prog := X.prog) (w := X.w)
  refine ⟨vs, h1, _, es, ep, I.kIn a _ hl, ⟨rfl, rfl, rfl⟩, rfl, fun e m => h3 e (by simpa using m), h2, ?_⟩
  rw [← h1.keys]
  have : (kvK kvs).map (·.1) = (kvs.map (·.1)).map (Sum.inr : Str → Key) := by
    unfold kvK
    rw [List.map_map, List.map_map]
    rfl
  rw [this]
  exact nodup_inr nd
def tKGet (P : Params) (K : PySem.W.Frag) (td ty : TE) : TE := fun σ H Q => td σ H fun x H1 => ty σ H1 fun y H2 => ∃ a kvs k v, x = .ref a ∧ KDct P K a kvs ∧ y = .str k ∧ valV kvs k = some v ∧ Q v H2
def tKIn (P : Params) (K : PySem.W.Frag) (ty td : TE) : TE := fun σ H Q => ty σ H fun y H1 => td σ H1 fun x H2 => ∃ a kvs k, x = .ref a ∧ KDct P K a kvs ∧ y = .str k ∧ Q (.bl (valV kvs k).isSome) H2
end
section
variable {X : Cx} {o i : Expr} {pos : Pos} {td ty : TE}
theorem pe_kget (ho : PE X o td) (hi : PE X i ty) (hs : NoSl i) : PE X (.Subscript o i pos) (tKGet X.w.params X.K td ty) := by
  intro pins s σ H Q I h
  refine subD_of PySem.F.slot_dict_getitem.lookup hs (thn (ho pins s σ H _ I h) fun u s1 ⟨x, H1, I1, rx, q1⟩ => thn (hi pins s1 σ H1 _ I1 q1) fun iv s2 ⟨y, H2, I2, ry, a, kvs, k, v, ex, D, ey, l, q2⟩ => ?_)
  subst ex
  subst ey
  obtain rfl : u = Value.ref a := rx
  obtain ⟨vs, rel, dd⟩ := D.dict I2
  obtain ⟨w', hw, rw'⟩ := RelO.some_of (v := v) (o := valueAt vs (.inr k)) (by rw [← l, ← valV_kvK]; exact rel.val _)
  exact ⟨dd.typeIs, wpAny_getItem_of (kV_is (k := .inr k) ry) dd.mapOf hw ⟨v, H2, I2.tok _, rw', q2⟩⟩
theorem pc_kin (hi : PE X i ty) (ho : PE X o td) : PC X .In i o (tKIn X.w.params X.K ty td) := by
  intro pins s σ H Q I h
  refine thn (hi pins s σ H _ I h) fun iv s1 ⟨y, H1, I1, ry, q1⟩ => thn (ho pins s1 σ H1 _ I1 q1) fun u s2 ⟨x, H2, I2, rx, a, kvs, k, ex, D, ey, q2⟩ => ?_
  subst ex
  subst ey
  obtain rfl : u = Value.ref a := rx
  obtain ⟨vs, rel, dd⟩ := D.dict I2
  refine wpAny_in_of (kV_is (k := .inr k) ry) D.sm dd.mapOf ?_
  rw [← (rel.val (.inr k)).isSome_eq, valV_kvK]
  exact ⟨.bl (valV kvs k).isSome, H2, I2.tok _, rfl, q2⟩
end
end L2

namespace MthL
def pk (ws : List Int) (w : Int) (i : Nat) : Bool := decide (0 < ws.getD i 0 ∧ ws.getD i 0 ≤ w ∧ ∀ j, j < i → ws.getD j 0 ≠ ws.getD i 0)
def rk (ws : List Int) (w : Int) : Nat := ((List.range ws.length).filter (pk ws w)).length
theorem first {ws : List Int} {w : Int} (h : w ∈ ws) : ∃ i, i < ws.length ∧ ws.getD i 0 = w ∧ ∀ j, j < i → ws.getD j 0 ≠ w := by
  induction ws with
  | nil => cases h
  | cons a ws ih =>
    by_cases e : a = w
    · exact ⟨0, Nat.zero_lt_succ _, e, fun j hj => absurd hj (Nat.not_lt_zero _)⟩
    · obtain ⟨i, h1, h2, h3⟩ := ih ((List.mem_cons.mp h).resolve_left fun z => e z.symm)
      refine ⟨i + 1, Nat.succ_lt_succ h1, h2, fun j hj => ?_⟩
      cases j with
      | zero => exact e
      | succ j => exact h3 j (Nat.lt_of_succ_lt_succ hj)
theorem below {ws : List Int} (w : Int) : (∀ o ∈ ws, 0 < o → w ≤ o) ∨ ∃ v ∈ ws, 0 < v ∧ v < w ∧ ∀ o ∈ ws, o < w → o ≤ v := by
  induction ws with
  | nil => exact .inl fun o ho => by cases ho
  | cons a ws ih =>
    by_cases ha : 0 < a ∧ a < w
    · rcases ih with ih | ⟨v, h1, h2, h3, h4⟩
      · refine .inr ⟨a, List.mem_cons_self .., ha.1, ha.2, fun o ho hl => ?_⟩
        rcases List.mem_cons.mp ho with rfl | ho
        · exact Int.le_refl _
        · by_cases h0 : 0 < o
          · have := ih o ho h0
            omega
          · omega
      · by_cases hv : a ≤ v
        · refine .inr ⟨v, List.mem_cons_of_mem _ h1, h2, h3, fun o ho hl => ?_⟩
          rcases List.mem_cons.mp ho with rfl | ho
          · exact hv
          · exact h4 o ho hl
        · refine .inr ⟨a, List.mem_cons_self .., ha.1, ha.2, fun o ho hl => ?_⟩
          rcases List.mem_cons.mp ho with rfl | ho
          · exact Int.le_refl _
          · have := h4 o ho hl
            omega
    · rcases ih with ih | ⟨v, h1, h2, h3, h4⟩
      · refine .inl fun o ho h0 => ?_
        rcases List.mem_cons.mp ho with rfl | ho
        · omega
        · exact ih o ho h0
      · refine .inr ⟨v, List.mem_cons_of_mem _ h1, h2, h3, fun o ho hl => ?_⟩
        rcases List.mem_cons.mp ho with rfl | ho
        · omega
        · exact h4 o ho hl
def look (ws : List Int) : List Int := ws.map fun w => (rk ws w : Int)
end MthL

namespace Mth
def cell (ns : List Int) (k : Int) : Int :=
  if k < (ns.length : Int) then ns.getD k.toNat 0 % 10 ^ 60
  else (if 0 < (ns.length : Int) then ns.getD (k * 7 % (ns.length : Int)).toNat 0 % 10 ^ 60 * 48271 + k * k * 69621 else 7919 * k + 5) % 2147483647 * 16807 % 2147483629
theorem cell_in (ns : List Int) (k : Int) : 0 ≤ cell ns k ∧ cell ns k < 10 ^ 60 := by
  unfold cell
  split
  · have h1 := Int.emod_nonneg (ns.getD k.toNat 0) (show (10 ^ 60 : Int) ≠ 0 by decide)
    have h2 := Int.emod_lt_of_pos (ns.getD k.toNat 0) (show (0 : Int) < 10 ^ 60 by decide)
    exact ⟨h1, h2⟩
  · generalize (if 0 < (ns.length : Int) then ns.getD (k * 7 % (ns.length : Int)).toNat 0 % 10 ^ 60 * 48271 + k * k * 69621 else 7919 * k + 5) % 2147483647 * 16807 = z
    have h1 := Int.emod_nonneg z (show (2147483629 : Int) ≠ 0 by decide)
    have h2 := Int.emod_lt_of_pos z (show (0 : Int) < 2147483629 by decide)
    have h3 : (2147483629 : Int) ≤ 10 ^ 60 := by decide
    exact ⟨h1, by omega⟩

def gcd (a b : Int) : Int := (Int.gcd a b : Nat)
structure IsShare (t b x y : Int) : Prop where
  pos : 0 < y
  low : gcd x y = 1
  eq : x * b = t * y
  le1 : x.natAbs ≤ t.natAbs
  le2 : y.natAbs ≤ b.natAbs
def tot (s r : Int × Int) : Int × Int := (s.1 * r.2 + r.1 * s.2, s.2 * r.2)
structure Low (T : Int × Int) (x y : Int) : Prop where
  pos : 0 < y
  low : gcd x y = 1
  eq : x * T.2 = T.1 * y
end Mth

set_option maxHeartbeats 4000000
namespace My
open PySem L2
def spLaw (K : PySem.W.Frag) : Sp := fun vs H Q _ => ∃ (a : Addr) (ns : List Int), vs = [.ref a] ∧ SqL K H a (ns.map V.int) ∧ ns.length ≤ 63 ∧ ∀ H', Q (.bl true) H'
theorem atI_map {ns : List Int} {k : Int} (h0 : 0 ≤ k) (h1 : k < ns.length) : atI (ns.map V.int) k = some (.int (ns.getD k.toNat 0)) := by
  have e : k = ((k.toNat : Nat) : Int) := by omega
  have h2 : k.toNat < ns.length := by omega
  have q : (ns.map V.int)[k.toNat]? = some (.int (ns.getD k.toNat 0)) := by
    rw [List.getElem?_map, List.getElem?_eq_getElem h2]
    simp [List.getD, h2]
  have := atI_nat q
  rw [← e] at this
  exact this
theorem bitsN {n : Nat} {i : Int} (lo : -(10 ^ 61) ≤ i) (hi : i ≤ 10 ^ 61) (hn : 204 ≤ n := by decide) : Bits n i := (Bits.of (n := 204) (b := 10 ^ 61) lo hi (by decide)).mono hn
theorem same_new {H : Hp} {p : Addr} (h : H p = none) (o : HO) : Same H (upd H p o) := fun b u q => by rw [upd_ne (ne_of_none q h)]; exact q
theorem Same.tup {K : PySem.W.Frag} {H H' : Hp} {a : Addr} {xs : List V} (e : Same H H') (h : SqT K H a xs) : SqT K H' a xs := by
  rcases h with (h | ⟨o, h⟩) | h
  · exact .inl (.inl (e _ _ h))
  · exact .inl (.inr ⟨o, e _ _ h⟩)
  · exact .inr h
theorem cpow {n : Int} (h0 : 0 ≤ n := by decide) (h1 : n ≤ 1000000 := by decide) : CPow 10 n := ⟨h0, h1, by decide⟩
theorem ten_pos (n : Nat) : (0 : Int) < 10 ^ n := Int.pow_pos (by decide)
theorem cmul {i j : Int} (a : -(10 ^ 61) ≤ i) (b : i ≤ 10 ^ 61) (c : -(10 ^ 61) ≤ j) (d : j ≤ 10 ^ 61) : CMulB i j := ⟨bitsN a b, bitsN c d⟩
theorem cdiv {i j : Int} (a : 0 < j) (b : j ≤ 10 ^ 61) : CDivB i j := ⟨a, bitsN (by omega) b⟩
theorem getD_at {α : Type} {ws : List α} {j : Nat} {d : α} (h : j < ws.length) : ws.getD j d = ws[j] := by simp only [List.getD, List.getElem?_eq_getElem h, Option.getD_some]
theorem ixN_nat {n j : Nat} (h : j < n) : ixN n (j : Int) = some j := by
  unfold ixN
  rw [if_pos (by omega), if_pos (by omega)]
  rfl
theorem fresh_tup {K : PySem.W.Frag} {H : Hp} {p : Addr} (h : H p = none) (xs : List V) : ∃ H1, H1 = upd H p (.tup xs) ∧ Same H H1 ∧ SqT K H1 p xs := ⟨_, rfl, same_new h _, SqT.of upd_same⟩
theorem fresh_lst {K : PySem.W.Frag} {H : Hp} {p : Addr} (h : H p = none) (xs : List V) : ∃ H1, H1 = upd H p (.lst xs) ∧ Same H H1 ∧ SqL K H1 p xs := ⟨_, rfl, same_new h _, SqL.of upd_same⟩
theorem fresh_dct {K : PySem.W.Frag} {H : Hp} {p : Addr} (h : H p = none) : ∃ H1, H1 = upd H p (dctO p) ∧ Same H H1 ∧ Kd K H1 (.ref p) .dct := ⟨_, rfl, same_new h _, Kd.dct upd_same⟩
theorem same_upd {H H' : Hp} {l : Addr} (e : Same H H') (h : H l = none) (o : HO) : Same H (upd H' l o) := fun b u hb => by rw [upd_ne (ne_of_none hb h)]; exact e _ _ hb


def top (i : Nat) : Stmt := PySem.Challenge.pw_tariffgate_k36_whole_no_other_truth.main.body.getD i (.Pass ⟨0, 0, 0, 0⟩)
theorem dn_thing : (("thing" : Str) == ("__debug__" : Str)) = false := by decide
theorem dc_thing : (("thing" : Str) == ("__classdict__" : Str)) = false := by decide
theorem nn_thing : ("thing" : Str) ≠ "__name__" := by decide
theorem dn_isinstance : (("isinstance" : Str) == ("__debug__" : Str)) = false := by decide
theorem dc_isinstance : (("isinstance" : Str) == ("__classdict__" : Str)) = false := by decide
theorem nn_isinstance : ("isinstance" : Str) ≠ "__name__" := by decide
theorem dn_int : (("int" : Str) == ("__debug__" : Str)) = false := by decide
theorem dc_int : (("int" : Str) == ("__classdict__" : Str)) = false := by decide
theorem nn_int : ("int" : Str) ≠ "__name__" := by decide
theorem dn_bool : (("bool" : Str) == ("__debug__" : Str)) = false := by decide
theorem dc_bool : (("bool" : Str) == ("__classdict__" : Str)) = false := by decide
theorem nn_bool : ("bool" : Str) ≠ "__name__" := by decide
theorem dn_kinds : (("kinds" : Str) == ("__debug__" : Str)) = false := by decide
theorem dc_kinds : (("kinds" : Str) == ("__classdict__" : Str)) = false := by decide
theorem nn_kinds : ("kinds" : Str) ≠ "__name__" := by decide
theorem dn_look : (("look" : Str) == ("__debug__" : Str)) = false := by decide
theorem dc_look : (("look" : Str) == ("__classdict__" : Str)) = false := by decide
theorem nn_look : ("look" : Str) ≠ "__name__" := by decide
theorem dn_stuff : (("stuff" : Str) == ("__debug__" : Str)) = false := by decide
theorem dc_stuff : (("stuff" : Str) == ("__classdict__" : Str)) = false := by decide
theorem nn_stuff : ("stuff" : Str) ≠ "__name__" := by decide
theorem dn_place : (("place" : Str) == ("__debug__" : Str)) = false := by decide
theorem dc_place : (("place" : Str) == ("__classdict__" : Str)) = false := by decide
theorem nn_place : ("place" : Str) ≠ "__name__" := by decide
theorem dn_kind : (("kind" : Str) == ("__debug__" : Str)) = false := by decide
theorem dc_kind : (("kind" : Str) == ("__classdict__" : Str)) = false := by decide
theorem nn_kind : ("kind" : Str) ≠ "__name__" := by decide
theorem dn_enumerate : (("enumerate" : Str) == ("__debug__" : Str)) = false := by decide
theorem dc_enumerate : (("enumerate" : Str) == ("__classdict__" : Str)) = false := by decide
theorem nn_enumerate : ("enumerate" : Str) ≠ "__name__" := by decide
theorem dn_use : (("use" : Str) == ("__debug__" : Str)) = false := by decide
theorem dc_use : (("use" : Str) == ("__classdict__" : Str)) = false := by decide
theorem nn_use : ("use" : Str) ≠ "__name__" := by decide
theorem dn_greatest : (("greatest" : Str) == ("__debug__" : Str)) = false := by decide
theorem dc_greatest : (("greatest" : Str) == ("__classdict__" : Str)) = false := by decide
theorem nn_greatest : ("greatest" : Str) ≠ "__name__" := by decide
theorem dn_max : (("max" : Str) == ("__debug__" : Str)) = false := by decide
theorem dc_max : (("max" : Str) == ("__classdict__" : Str)) = false := by decide
theorem nn_max : ("max" : Str) ≠ "__name__" := by decide
theorem dn_one : (("one" : Str) == ("__debug__" : Str)) = false := by decide
theorem dc_one : (("one" : Str) == ("__classdict__" : Str)) = false := by decide
theorem nn_one : ("one" : Str) ≠ "__name__" := by decide
theorem dn_other : (("other" : Str) == ("__debug__" : Str)) = false := by decide
theorem dc_other : (("other" : Str) == ("__classdict__" : Str)) = false := by decide
theorem nn_other : ("other" : Str) ≠ "__name__" := by decide
theorem dn_number_in : (("number_in" : Str) == ("__debug__" : Str)) = false := by decide
theorem dc_number_in : (("number_in" : Str) == ("__classdict__" : Str)) = false := by decide
theorem nn_number_in : ("number_in" : Str) ≠ "__name__" := by decide
theorem dn_told : (("told" : Str) == ("__debug__" : Str)) = false := by decide
theorem dc_told : (("told" : Str) == ("__classdict__" : Str)) = false := by decide
theorem nn_told : ("told" : Str) ≠ "__name__" := by decide
theorem dn_chief_places : (("chief_places" : Str) == ("__debug__" : Str)) = false := by decide
theorem dc_chief_places : (("chief_places" : Str) == ("__classdict__" : Str)) = false := by decide
theorem nn_chief_places : ("chief_places" : Str) ≠ "__name__" := by decide
theorem dn_made_places : (("made_places" : Str) == ("__debug__" : Str)) = false := by decide
theorem dc_made_places : (("made_places" : Str) == ("__classdict__" : Str)) = false := by decide
theorem nn_made_places : ("made_places" : Str) ≠ "__name__" := by decide
theorem dn_used_places : (("used_places" : Str) == ("__debug__" : Str)) = false := by decide
theorem dc_used_places : (("used_places" : Str) == ("__classdict__" : Str)) = false := by decide
theorem nn_used_places : ("used_places" : Str) ≠ "__name__" := by decide
theorem dn_reason : (("reason" : Str) == ("__debug__" : Str)) = false := by decide
theorem dc_reason : (("reason" : Str) == ("__classdict__" : Str)) = false := by decide
theorem nn_reason : ("reason" : Str) ≠ "__name__" := by decide
theorem dn_places : (("places" : Str) == ("__debug__" : Str)) = false := by decide
theorem dc_places : (("places" : Str) == ("__classdict__" : Str)) = false := by decide
theorem nn_places : ("places" : Str) ≠ "__name__" := by decide
theorem dn_places_for : (("places_for" : Str) == ("__debug__" : Str)) = false := by decide
theorem dc_places_for : (("places_for" : Str) == ("__classdict__" : Str)) = false := by decide
theorem nn_places_for : ("places_for" : Str) ≠ "__name__" := by decide
theorem dn_is_whole : (("is_whole" : Str) == ("__debug__" : Str)) = false := by decide
theorem dc_is_whole : (("is_whole" : Str) == ("__classdict__" : Str)) = false := by decide
theorem nn_is_whole : ("is_whole" : Str) ≠ "__name__" := by decide
theorem dn_len : (("len" : Str) == ("__debug__" : Str)) = false := by decide
theorem dc_len : (("len" : Str) == ("__classdict__" : Str)) = false := by decide
theorem nn_len : ("len" : Str) ≠ "__name__" := by decide
theorem dn_place_holds : (("place_holds" : Str) == ("__debug__" : Str)) = false := by decide
theorem dc_place_holds : (("place_holds" : Str) == ("__classdict__" : Str)) = false := by decide
theorem nn_place_holds : ("place_holds" : Str) ≠ "__name__" := by decide
theorem dn_is_over : (("is_over" : Str) == ("__debug__" : Str)) = false := by decide
theorem dc_is_over : (("is_over" : Str) == ("__classdict__" : Str)) = false := by decide
theorem nn_is_over : ("is_over" : Str) ≠ "__name__" := by decide
theorem dn_truth : (("truth" : Str) == ("__debug__" : Str)) = false := by decide
theorem dc_truth : (("truth" : Str) == ("__classdict__" : Str)) = false := by decide
theorem nn_truth : ("truth" : Str) ≠ "__name__" := by decide
theorem dn_holds_up : (("holds_up" : Str) == ("__debug__" : Str)) = false := by decide
theorem dc_holds_up : (("holds_up" : Str) == ("__classdict__" : Str)) = false := by decide
theorem nn_holds_up : ("holds_up" : Str) ≠ "__name__" := by decide
theorem dn_wanted : (("wanted" : Str) == ("__debug__" : Str)) = false := by decide
theorem dc_wanted : (("wanted" : Str) == ("__classdict__" : Str)) = false := by decide
theorem nn_wanted : ("wanted" : Str) ≠ "__name__" := by decide
theorem dn_side : (("side" : Str) == ("__debug__" : Str)) = false := by decide
theorem dc_side : (("side" : Str) == ("__classdict__" : Str)) = false := by decide
theorem nn_side : ("side" : Str) ≠ "__name__" := by decide
theorem dn_OF_BOTH : (("OF_BOTH" : Str) == ("__debug__" : Str)) = false := by decide
theorem dc_OF_BOTH : (("OF_BOTH" : Str) == ("__classdict__" : Str)) = false := by decide
theorem nn_OF_BOTH : ("OF_BOTH" : Str) ≠ "__name__" := by decide
theorem dn_first : (("first" : Str) == ("__debug__" : Str)) = false := by decide
theorem dc_first : (("first" : Str) == ("__classdict__" : Str)) = false := by decide
theorem nn_first : ("first" : Str) ≠ "__name__" := by decide
theorem dn_says : (("says" : Str) == ("__debug__" : Str)) = false := by decide
theorem dc_says : (("says" : Str) == ("__classdict__" : Str)) = false := by decide
theorem nn_says : ("says" : Str) ≠ "__name__" := by decide
theorem dn_one_holds : (("one_holds" : Str) == ("__debug__" : Str)) = false := by decide
theorem dc_one_holds : (("one_holds" : Str) == ("__classdict__" : Str)) = false := by decide
theorem nn_one_holds : ("one_holds" : Str) ≠ "__name__" := by decide
theorem dn_tuple : (("tuple" : Str) == ("__debug__" : Str)) = false := by decide
theorem dc_tuple : (("tuple" : Str) == ("__classdict__" : Str)) = false := by decide
theorem nn_tuple : ("tuple" : Str) ≠ "__name__" := by decide
theorem dn_two_hold : (("two_hold" : Str) == ("__debug__" : Str)) = false := by decide
theorem dc_two_hold : (("two_hold" : Str) == ("__classdict__" : Str)) = false := by decide
theorem nn_two_hold : ("two_hold" : Str) ≠ "__name__" := by decide
theorem dn__law_script : (("_law_script" : Str) == ("__debug__" : Str)) = false := by decide
theorem dc__law_script : (("_law_script" : Str) == ("__classdict__" : Str)) = false := by decide
theorem nn__law_script : ("_law_script" : Str) ≠ "__name__" := by decide
theorem dn__law_k : (("_law_k" : Str) == ("__debug__" : Str)) = false := by decide
theorem dc__law_k : (("_law_k" : Str) == ("__classdict__" : Str)) = false := by decide
theorem nn__law_k : ("_law_k" : Str) ≠ "__name__" := by decide
theorem dn__law_number : (("_law_number" : Str) == ("__debug__" : Str)) = false := by decide
theorem dc__law_number : (("_law_number" : Str) == ("__classdict__" : Str)) = false := by decide
theorem nn__law_number : ("_law_number" : Str) ≠ "__name__" := by decide
theorem dn__law_many : (("_law_many" : Str) == ("__debug__" : Str)) = false := by decide
theorem dc__law_many : (("_law_many" : Str) == ("__classdict__" : Str)) = false := by decide
theorem nn__law_many : ("_law_many" : Str) ≠ "__name__" := by decide
theorem dn__law_found : (("_law_found" : Str) == ("__debug__" : Str)) = false := by decide
theorem dc__law_found : (("_law_found" : Str) == ("__classdict__" : Str)) = false := by decide
theorem nn__law_found : ("_law_found" : Str) ≠ "__name__" := by decide
theorem dn__law_cell_here : (("_law_cell_here" : Str) == ("__debug__" : Str)) = false := by decide
theorem dc__law_cell_here : (("_law_cell_here" : Str) == ("__classdict__" : Str)) = false := by decide
theorem nn__law_cell_here : ("_law_cell_here" : Str) ≠ "__name__" := by decide
theorem dn__law_letters : (("_law_letters" : Str) == ("__debug__" : Str)) = false := by decide
theorem dc__law_letters : (("_law_letters" : Str) == ("__classdict__" : Str)) = false := by decide
theorem nn__law_letters : ("_law_letters" : Str) ≠ "__name__" := by decide
theorem dn__law_base : (("_law_base" : Str) == ("__debug__" : Str)) = false := by decide
theorem dc__law_base : (("_law_base" : Str) == ("__classdict__" : Str)) = false := by decide
theorem nn__law_base : ("_law_base" : Str) ≠ "__name__" := by decide
theorem dn__law_size : (("_law_size" : Str) == ("__debug__" : Str)) = false := by decide
theorem dc__law_size : (("_law_size" : Str) == ("__classdict__" : Str)) = false := by decide
theorem nn__law_size : ("_law_size" : Str) ≠ "__name__" := by decide
theorem dn__law_at : (("_law_at" : Str) == ("__debug__" : Str)) = false := by decide
theorem dc__law_at : (("_law_at" : Str) == ("__classdict__" : Str)) = false := by decide
theorem nn__law_at : ("_law_at" : Str) ≠ "__name__" := by decide
theorem dn__law_words_here : (("_law_words_here" : Str) == ("__debug__" : Str)) = false := by decide
theorem dc__law_words_here : (("_law_words_here" : Str) == ("__classdict__" : Str)) = false := by decide
theorem nn__law_words_here : ("_law_words_here" : Str) ≠ "__name__" := by decide
theorem dn_range : (("range" : Str) == ("__debug__" : Str)) = false := by decide
theorem dc_range : (("range" : Str) == ("__classdict__" : Str)) = false := by decide
theorem nn_range : ("range" : Str) ≠ "__name__" := by decide
theorem dn__law_word : (("_law_word" : Str) == ("__debug__" : Str)) = false := by decide
theorem dc__law_word : (("_law_word" : Str) == ("__classdict__" : Str)) = false := by decide
theorem nn__law_word : ("_law_word" : Str) ≠ "__name__" := by decide
theorem dn__law_j : (("_law_j" : Str) == ("__debug__" : Str)) = false := by decide
theorem dc__law_j : (("_law_j" : Str) == ("__classdict__" : Str)) = false := by decide
theorem nn__law_j : ("_law_j" : Str) ≠ "__name__" := by decide
theorem dn__law_step : (("_law_step" : Str) == ("__debug__" : Str)) = false := by decide
theorem dc__law_step : (("_law_step" : Str) == ("__classdict__" : Str)) = false := by decide
theorem nn__law_step : ("_law_step" : Str) ≠ "__name__" := by decide
theorem dn__law_shift : (("_law_shift" : Str) == ("__debug__" : Str)) = false := by decide
theorem dc__law_shift : (("_law_shift" : Str) == ("__classdict__" : Str)) = false := by decide
theorem nn__law_shift : ("_law_shift" : Str) ≠ "__name__" := by decide
theorem dn__law_kinds_here : (("_law_kinds_here" : Str) == ("__debug__" : Str)) = false := by decide
theorem dc__law_kinds_here : (("_law_kinds_here" : Str) == ("__classdict__" : Str)) = false := by decide
theorem nn__law_kinds_here : ("_law_kinds_here" : Str) ≠ "__name__" := by decide
theorem dn__law_place : (("_law_place" : Str) == ("__debug__" : Str)) = false := by decide
theorem dc__law_place : (("_law_place" : Str) == ("__classdict__" : Str)) = false := by decide
theorem nn__law_place : ("_law_place" : Str) ≠ "__name__" := by decide
theorem dn__law_weights : (("_law_weights" : Str) == ("__debug__" : Str)) = false := by decide
theorem dc__law_weights : (("_law_weights" : Str) == ("__classdict__" : Str)) = false := by decide
theorem nn__law_weights : ("_law_weights" : Str) ≠ "__name__" := by decide
theorem dn__law_mix : (("_law_mix" : Str) == ("__debug__" : Str)) = false := by decide
theorem dc__law_mix : (("_law_mix" : Str) == ("__classdict__" : Str)) = false := by decide
theorem nn__law_mix : ("_law_mix" : Str) ≠ "__name__" := by decide
theorem dn__law_weight : (("_law_weight" : Str) == ("__debug__" : Str)) = false := by decide
theorem dc__law_weight : (("_law_weight" : Str) == ("__classdict__" : Str)) = false := by decide
theorem nn__law_weight : ("_law_weight" : Str) ≠ "__name__" := by decide
theorem dn_set : (("set" : Str) == ("__debug__" : Str)) = false := by decide
theorem dc_set : (("set" : Str) == ("__classdict__" : Str)) = false := by decide
theorem nn_set : ("set" : Str) ≠ "__name__" := by decide
theorem dn__law_w : (("_law_w" : Str) == ("__debug__" : Str)) = false := by decide
theorem dc__law_w : (("_law_w" : Str) == ("__classdict__" : Str)) = false := by decide
theorem nn__law_w : ("_law_w" : Str) ≠ "__name__" := by decide
theorem dn__law_way : (("_law_way" : Str) == ("__debug__" : Str)) = false := by decide
theorem dc__law_way : (("_law_way" : Str) == ("__classdict__" : Str)) = false := by decide
theorem nn__law_way : ("_law_way" : Str) ≠ "__name__" := by decide
theorem dn__law_name : (("_law_name" : Str) == ("__debug__" : Str)) = false := by decide
theorem dc__law_name : (("_law_name" : Str) == ("__classdict__" : Str)) = false := by decide
theorem nn__law_name : ("_law_name" : Str) ≠ "__name__" := by decide
theorem dn__law_some : (("_law_some" : Str) == ("__debug__" : Str)) = false := by decide
theorem dc__law_some : (("_law_some" : Str) == ("__classdict__" : Str)) = false := by decide
theorem nn__law_some : ("_law_some" : Str) ≠ "__name__" := by decide
theorem dn__law_one : (("_law_one" : Str) == ("__debug__" : Str)) = false := by decide
theorem dc__law_one : (("_law_one" : Str) == ("__classdict__" : Str)) = false := by decide
theorem nn__law_one : ("_law_one" : Str) ≠ "__name__" := by decide
theorem dn__law_deep : (("_law_deep" : Str) == ("__debug__" : Str)) = false := by decide
theorem dc__law_deep : (("_law_deep" : Str) == ("__classdict__" : Str)) = false := by decide
theorem nn__law_deep : ("_law_deep" : Str) ≠ "__name__" := by decide
theorem dn__law_other : (("_law_other" : Str) == ("__debug__" : Str)) = false := by decide
theorem dc__law_other : (("_law_other" : Str) == ("__classdict__" : Str)) = false := by decide
theorem nn__law_other : ("_law_other" : Str) ≠ "__name__" := by decide
theorem dn__law_note : (("_law_note" : Str) == ("__debug__" : Str)) = false := by decide
theorem dc__law_note : (("_law_note" : Str) == ("__classdict__" : Str)) = false := by decide
theorem nn__law_note : ("_law_note" : Str) ≠ "__name__" := by decide
theorem dn__law_plain : (("_law_plain" : Str) == ("__debug__" : Str)) = false := by decide
theorem dc__law_plain : (("_law_plain" : Str) == ("__classdict__" : Str)) = false := by decide
theorem nn__law_plain : ("_law_plain" : Str) ≠ "__name__" := by decide
theorem dn__law_look_here : (("_law_look_here" : Str) == ("__debug__" : Str)) = false := by decide
theorem dc__law_look_here : (("_law_look_here" : Str) == ("__classdict__" : Str)) = false := by decide
theorem nn__law_look_here : ("_law_look_here" : Str) ≠ "__name__" := by decide
theorem dn__law_kind : (("_law_kind" : Str) == ("__debug__" : Str)) = false := by decide
theorem dc__law_kind : (("_law_kind" : Str) == ("__classdict__" : Str)) = false := by decide
theorem nn__law_kind : ("_law_kind" : Str) ≠ "__name__" := by decide
theorem dn__law_told : (("_law_told" : Str) == ("__debug__" : Str)) = false := by decide
theorem dc__law_told : (("_law_told" : Str) == ("__classdict__" : Str)) = false := by decide
theorem nn__law_told : ("_law_told" : Str) ≠ "__name__" := by decide
theorem dn__law_least : (("_law_least" : Str) == ("__debug__" : Str)) = false := by decide
theorem dc__law_least : (("_law_least" : Str) == ("__classdict__" : Str)) = false := by decide
theorem nn__law_least : ("_law_least" : Str) ≠ "__name__" := by decide
theorem dn__law_weighs : (("_law_weighs" : Str) == ("__debug__" : Str)) = false := by decide
theorem dc__law_weighs : (("_law_weighs" : Str) == ("__classdict__" : Str)) = false := by decide
theorem nn__law_weighs : ("_law_weighs" : Str) ≠ "__name__" := by decide
theorem dn__law_shows : (("_law_shows" : Str) == ("__debug__" : Str)) = false := by decide
theorem dc__law_shows : (("_law_shows" : Str) == ("__classdict__" : Str)) = false := by decide
theorem nn__law_shows : ("_law_shows" : Str) ≠ "__name__" := by decide
theorem dn__law_plain_claims : (("_law_plain_claims" : Str) == ("__debug__" : Str)) = false := by decide
theorem dc__law_plain_claims : (("_law_plain_claims" : Str) == ("__classdict__" : Str)) = false := by decide
theorem nn__law_plain_claims : ("_law_plain_claims" : Str) ≠ "__name__" := by decide
theorem dn__law_claims : (("_law_claims" : Str) == ("__debug__" : Str)) = false := by decide
theorem dc__law_claims : (("_law_claims" : Str) == ("__classdict__" : Str)) = false := by decide
theorem nn__law_claims : ("_law_claims" : Str) ≠ "__name__" := by decide
theorem dn__law_reason_here : (("_law_reason_here" : Str) == ("__debug__" : Str)) = false := by decide
theorem dc__law_reason_here : (("_law_reason_here" : Str) == ("__classdict__" : Str)) = false := by decide
theorem nn__law_reason_here : ("_law_reason_here" : Str) ≠ "__name__" := by decide
theorem dn__law_due : (("_law_due" : Str) == ("__debug__" : Str)) = false := by decide
theorem dc__law_due : (("_law_due" : Str) == ("__classdict__" : Str)) = false := by decide
theorem nn__law_due : ("_law_due" : Str) ≠ "__name__" := by decide
theorem dn__law_whole : (("_law_whole" : Str) == ("__debug__" : Str)) = false := by decide
theorem dc__law_whole : (("_law_whole" : Str) == ("__classdict__" : Str)) = false := by decide
theorem nn__law_whole : ("_law_whole" : Str) ≠ "__name__" := by decide
theorem dn__law_pair_here : (("_law_pair_here" : Str) == ("__debug__" : Str)) = false := by decide
theorem dc__law_pair_here : (("_law_pair_here" : Str) == ("__classdict__" : Str)) = false := by decide
theorem nn__law_pair_here : ("_law_pair_here" : Str) ≠ "__name__" := by decide
theorem dn__law_side : (("_law_side" : Str) == ("__debug__" : Str)) = false := by decide
theorem dc__law_side : (("_law_side" : Str) == ("__classdict__" : Str)) = false := by decide
theorem nn__law_side : ("_law_side" : Str) ≠ "__name__" := by decide
theorem dn__law_shown : (("_law_shown" : Str) == ("__debug__" : Str)) = false := by decide
theorem dc__law_shown : (("_law_shown" : Str) == ("__classdict__" : Str)) = false := by decide
theorem nn__law_shown : ("_law_shown" : Str) ≠ "__name__" := by decide
theorem dn__law_pair : (("_law_pair" : Str) == ("__debug__" : Str)) = false := by decide
theorem dc__law_pair : (("_law_pair" : Str) == ("__classdict__" : Str)) = false := by decide
theorem nn__law_pair : ("_law_pair" : Str) ≠ "__name__" := by decide
theorem dn__law_reads : (("_law_reads" : Str) == ("__debug__" : Str)) = false := by decide
theorem dc__law_reads : (("_law_reads" : Str) == ("__classdict__" : Str)) = false := by decide
theorem nn__law_reads : ("_law_reads" : Str) ≠ "__name__" := by decide
theorem dn__law_reads_plain : (("_law_reads_plain" : Str) == ("__debug__" : Str)) = false := by decide
theorem dc__law_reads_plain : (("_law_reads_plain" : Str) == ("__classdict__" : Str)) = false := by decide
theorem nn__law_reads_plain : ("_law_reads_plain" : Str) ≠ "__name__" := by decide
theorem dn__law_places : (("_law_places" : Str) == ("__debug__" : Str)) = false := by decide
theorem dc__law_places : (("_law_places" : Str) == ("__classdict__" : Str)) = false := by decide
theorem nn__law_places : ("_law_places" : Str) ≠ "__name__" := by decide
theorem dn__law_reason : (("_law_reason" : Str) == ("__debug__" : Str)) = false := by decide
theorem dc__law_reason : (("_law_reason" : Str) == ("__classdict__" : Str)) = false := by decide
theorem nn__law_reason : ("_law_reason" : Str) ≠ "__name__" := by decide
theorem dn__law_thing : (("_law_thing" : Str) == ("__debug__" : Str)) = false := by decide
theorem dc__law_thing : (("_law_thing" : Str) == ("__classdict__" : Str)) = false := by decide
theorem nn__law_thing : ("_law_thing" : Str) ≠ "__name__" := by decide
theorem dn_str : (("str" : Str) == ("__debug__" : Str)) = false := by decide
theorem dc_str : (("str" : Str) == ("__classdict__" : Str)) = false := by decide
theorem nn_str : ("str" : Str) ≠ "__name__" := by decide
theorem dn_list : (("list" : Str) == ("__debug__" : Str)) = false := by decide
theorem dc_list : (("list" : Str) == ("__classdict__" : Str)) = false := by decide
theorem nn_list : ("list" : Str) ≠ "__name__" := by decide
theorem dn__law_part : (("_law_part" : Str) == ("__debug__" : Str)) = false := by decide
theorem dc__law_part : (("_law_part" : Str) == ("__classdict__" : Str)) = false := by decide
theorem nn__law_part : ("_law_part" : Str) ≠ "__name__" := by decide
theorem dn__law_turned : (("_law_turned" : Str) == ("__debug__" : Str)) = false := by decide
theorem dc__law_turned : (("_law_turned" : Str) == ("__classdict__" : Str)) = false := by decide
theorem nn__law_turned : ("_law_turned" : Str) ≠ "__name__" := by decide
theorem dn__law_spoilt : (("_law_spoilt" : Str) == ("__debug__" : Str)) = false := by decide
theorem dc__law_spoilt : (("_law_spoilt" : Str) == ("__classdict__" : Str)) = false := by decide
theorem nn__law_spoilt : ("_law_spoilt" : Str) ≠ "__name__" := by decide
theorem dn__law_put : (("_law_put" : Str) == ("__debug__" : Str)) = false := by decide
theorem dc__law_put : (("_law_put" : Str) == ("__classdict__" : Str)) = false := by decide
theorem nn__law_put : ("_law_put" : Str) ≠ "__name__" := by decide
theorem dn__law_truth : (("_law_truth" : Str) == ("__debug__" : Str)) = false := by decide
theorem dc__law_truth : (("_law_truth" : Str) == ("__classdict__" : Str)) = false := by decide
theorem nn__law_truth : ("_law_truth" : Str) ≠ "__name__" := by decide
theorem dn__law_wild : (("_law_wild" : Str) == ("__debug__" : Str)) = false := by decide
theorem dc__law_wild : (("_law_wild" : Str) == ("__classdict__" : Str)) = false := by decide
theorem nn__law_wild : ("_law_wild" : Str) ≠ "__name__" := by decide
theorem dn_truth_of : (("truth_of" : Str) == ("__debug__" : Str)) = false := by decide
theorem dc_truth_of : (("truth_of" : Str) == ("__classdict__" : Str)) = false := by decide
theorem nn_truth_of : ("truth_of" : Str) ≠ "__name__" := by decide
theorem dn__law_last : (("_law_last" : Str) == ("__debug__" : Str)) = false := by decide
theorem dc__law_last : (("_law_last" : Str) == ("__classdict__" : Str)) = false := by decide
theorem nn__law_last : ("_law_last" : Str) ≠ "__name__" := by decide
theorem dn__law_words : (("_law_words" : Str) == ("__debug__" : Str)) = false := by decide
theorem dc__law_words : (("_law_words" : Str) == ("__classdict__" : Str)) = false := by decide
theorem nn__law_words : ("_law_words" : Str) ≠ "__name__" := by decide
theorem dn__law_kinds : (("_law_kinds" : Str) == ("__debug__" : Str)) = false := by decide
theorem dc__law_kinds : (("_law_kinds" : Str) == ("__classdict__" : Str)) = false := by decide
theorem nn__law_kinds : ("_law_kinds" : Str) ≠ "__name__" := by decide
theorem dn__law_right : (("_law_right" : Str) == ("__debug__" : Str)) = false := by decide
theorem dc__law_right : (("_law_right" : Str) == ("__classdict__" : Str)) = false := by decide
theorem nn__law_right : ("_law_right" : Str) ≠ "__name__" := by decide
theorem dn__law_cell : (("_law_cell" : Str) == ("__debug__" : Str)) = false := by decide
theorem dc__law_cell : (("_law_cell" : Str) == ("__classdict__" : Str)) = false := by decide
theorem nn__law_cell : ("_law_cell" : Str) ≠ "__name__" := by decide
theorem dn__law_look : (("_law_look" : Str) == ("__debug__" : Str)) = false := by decide
theorem dc__law_look : (("_law_look" : Str) == ("__classdict__" : Str)) = false := by decide
theorem nn__law_look : ("_law_look" : Str) ≠ "__name__" := by decide
theorem dn_min : (("min" : Str) == ("__debug__" : Str)) = false := by decide
theorem dc_min : (("min" : Str) == ("__classdict__" : Str)) = false := by decide
theorem nn_min : ("min" : Str) ≠ "__name__" := by decide
theorem dn__law_good : (("_law_good" : Str) == ("__debug__" : Str)) = false := by decide
theorem dc__law_good : (("_law_good" : Str) == ("__classdict__" : Str)) = false := by decide
theorem nn__law_good : ("_law_good" : Str) ≠ "__name__" := by decide
abbrev s_is_whole : Stmt := top 1
theorem sc_is_whole : FnScope ["thing"] ["thing"] (defScope s_is_whole) := ⟨rfl, rfl, rfl, by decide +kernel, rfl, by decide +kernel, by decide +kernel⟩
theorem v_is_whole_0 : Vis (defScope s_is_whole) "thing" := by first | exact Or.inl rfl | exact Or.inr (Or.inl rfl) | exact Or.inr (Or.inr rfl)
theorem l_is_whole_0 : Loc (defScope s_is_whole) "thing" := by first | exact Or.inl rfl | exact Or.inr rfl
theorem g_is_whole_isinstance : (defScope s_is_whole).names.lookup ("isinstance" : Str) = some .globalImplicit := by rfl
theorem g_is_whole_int : (defScope s_is_whole).names.lookup ("int" : Str) = some .globalImplicit := by rfl
theorem g_is_whole_bool : (defScope s_is_whole).names.lookup ("bool" : Str) = some .globalImplicit := by rfl
abbrev s_made_places : Stmt := top 3
theorem sc_made_places : FnScope ["kinds", "look", "stuff"] ["kinds", "look", "stuff"] (defScope s_made_places) := ⟨rfl, rfl, rfl, by decide +kernel, rfl, by decide +kernel, by decide +kernel⟩
theorem v_made_places_0 : Vis (defScope s_made_places) "kinds" := by first | exact Or.inl rfl | exact Or.inr (Or.inl rfl) | exact Or.inr (Or.inr rfl)
theorem l_made_places_0 : Loc (defScope s_made_places) "kinds" := by first | exact Or.inl rfl | exact Or.inr rfl
theorem v_made_places_1 : Vis (defScope s_made_places) "look" := by first | exact Or.inl rfl | exact Or.inr (Or.inl rfl) | exact Or.inr (Or.inr rfl)
theorem l_made_places_1 : Loc (defScope s_made_places) "look" := by first | exact Or.inl rfl | exact Or.inr rfl
theorem v_made_places_2 : Vis (defScope s_made_places) "stuff" := by first | exact Or.inl rfl | exact Or.inr (Or.inl rfl) | exact Or.inr (Or.inr rfl)
theorem l_made_places_2 : Loc (defScope s_made_places) "stuff" := by first | exact Or.inl rfl | exact Or.inr rfl
theorem g_made_places_enumerate : (defScope s_made_places).names.lookup ("enumerate" : Str) = some .globalImplicit := by rfl
abbrev s_used_places : Stmt := top 4
theorem sc_used_places : FnScope ["kinds", "look", "use"] ["kinds", "look", "use"] (defScope s_used_places) := ⟨rfl, rfl, rfl, by decide +kernel, rfl, by decide +kernel, by decide +kernel⟩
theorem v_used_places_0 : Vis (defScope s_used_places) "kinds" := by first | exact Or.inl rfl | exact Or.inr (Or.inl rfl) | exact Or.inr (Or.inr rfl)
theorem l_used_places_0 : Loc (defScope s_used_places) "kinds" := by first | exact Or.inl rfl | exact Or.inr rfl
theorem v_used_places_1 : Vis (defScope s_used_places) "look" := by first | exact Or.inl rfl | exact Or.inr (Or.inl rfl) | exact Or.inr (Or.inr rfl)
theorem l_used_places_1 : Loc (defScope s_used_places) "look" := by first | exact Or.inl rfl | exact Or.inr rfl
theorem v_used_places_2 : Vis (defScope s_used_places) "use" := by first | exact Or.inl rfl | exact Or.inr (Or.inl rfl) | exact Or.inr (Or.inr rfl)
theorem l_used_places_2 : Loc (defScope s_used_places) "use" := by first | exact Or.inl rfl | exact Or.inr rfl
theorem g_used_places_enumerate : (defScope s_used_places).names.lookup ("enumerate" : Str) = some .globalImplicit := by rfl
abbrev s_chief_places : Stmt := top 5
theorem sc_chief_places : FnScope ["kinds", "look", "stuff", "greatest"] ["kinds", "look", "stuff"] (defScope s_chief_places) := ⟨rfl, rfl, rfl, by decide +kernel, rfl, by decide +kernel, by decide +kernel⟩
theorem v_chief_places_0 : Vis (defScope s_chief_places) "kinds" := by first | exact Or.inl rfl | exact Or.inr (Or.inl rfl) | exact Or.inr (Or.inr rfl)
theorem l_chief_places_0 : Loc (defScope s_chief_places) "kinds" := by first | exact Or.inl rfl | exact Or.inr rfl
theorem v_chief_places_1 : Vis (defScope s_chief_places) "look" := by first | exact Or.inl rfl | exact Or.inr (Or.inl rfl) | exact Or.inr (Or.inr rfl)
theorem l_chief_places_1 : Loc (defScope s_chief_places) "look" := by first | exact Or.inl rfl | exact Or.inr rfl
theorem v_chief_places_2 : Vis (defScope s_chief_places) "stuff" := by first | exact Or.inl rfl | exact Or.inr (Or.inl rfl) | exact Or.inr (Or.inr rfl)
theorem l_chief_places_2 : Loc (defScope s_chief_places) "stuff" := by first | exact Or.inl rfl | exact Or.inr rfl
theorem v_chief_places_3 : Vis (defScope s_chief_places) "greatest" := by first | exact Or.inl rfl | exact Or.inr (Or.inl rfl) | exact Or.inr (Or.inr rfl)
theorem l_chief_places_3 : Loc (defScope s_chief_places) "greatest" := by first | exact Or.inl rfl | exact Or.inr rfl
theorem g_chief_places_max : (defScope s_chief_places).names.lookup ("max" : Str) = some .globalImplicit := by rfl
theorem g_chief_places_enumerate : (defScope s_chief_places).names.lookup ("enumerate" : Str) = some .globalImplicit := by rfl
abbrev s_number_in : Stmt := top 6
theorem sc_number_in : FnScope ["kinds", "look", "kind"] ["kinds", "look", "kind"] (defScope s_number_in) := ⟨rfl, rfl, rfl, by decide +kernel, rfl, by decide +kernel, by decide +kernel⟩
theorem v_number_in_0 : Vis (defScope s_number_in) "kinds" := by first | exact Or.inl rfl | exact Or.inr (Or.inl rfl) | exact Or.inr (Or.inr rfl)
theorem l_number_in_0 : Loc (defScope s_number_in) "kinds" := by first | exact Or.inl rfl | exact Or.inr rfl
theorem v_number_in_1 : Vis (defScope s_number_in) "look" := by first | exact Or.inl rfl | exact Or.inr (Or.inl rfl) | exact Or.inr (Or.inr rfl)
theorem l_number_in_1 : Loc (defScope s_number_in) "look" := by first | exact Or.inl rfl | exact Or.inr rfl
theorem v_number_in_2 : Vis (defScope s_number_in) "kind" := by first | exact Or.inl rfl | exact Or.inr (Or.inl rfl) | exact Or.inr (Or.inr rfl)
theorem l_number_in_2 : Loc (defScope s_number_in) "kind" := by first | exact Or.inl rfl | exact Or.inr rfl
abbrev s_is_over : Stmt := top 7
theorem sc_is_over : FnScope ["kinds", "look", "one", "other"] ["kinds", "look", "one", "other"] (defScope s_is_over) := ⟨rfl, rfl, rfl, by decide +kernel, rfl, by decide +kernel, by decide +kernel⟩
theorem v_is_over_0 : Vis (defScope s_is_over) "kinds" := by first | exact Or.inl rfl | exact Or.inr (Or.inl rfl) | exact Or.inr (Or.inr rfl)
theorem l_is_over_0 : Loc (defScope s_is_over) "kinds" := by first | exact Or.inl rfl | exact Or.inr rfl
theorem v_is_over_1 : Vis (defScope s_is_over) "look" := by first | exact Or.inl rfl | exact Or.inr (Or.inl rfl) | exact Or.inr (Or.inr rfl)
theorem l_is_over_1 : Loc (defScope s_is_over) "look" := by first | exact Or.inl rfl | exact Or.inr rfl
theorem v_is_over_2 : Vis (defScope s_is_over) "one" := by first | exact Or.inl rfl | exact Or.inr (Or.inl rfl) | exact Or.inr (Or.inr rfl)
theorem l_is_over_2 : Loc (defScope s_is_over) "one" := by first | exact Or.inl rfl | exact Or.inr rfl
theorem v_is_over_3 : Vis (defScope s_is_over) "other" := by first | exact Or.inl rfl | exact Or.inr (Or.inl rfl) | exact Or.inr (Or.inr rfl)
theorem l_is_over_3 : Loc (defScope s_is_over) "other" := by first | exact Or.inl rfl | exact Or.inr rfl
theorem g_is_over_number_in : (defScope s_is_over).names.lookup ("number_in" : Str) = some .globalImplicit := by rfl
abbrev s_places_for : Stmt := top 10
theorem sc_places_for : FnScope ["told", "kinds", "look"] ["told", "kinds", "look"] (defScope s_places_for) := ⟨rfl, rfl, rfl, by decide +kernel, rfl, by decide +kernel, by decide +kernel⟩
theorem v_places_for_0 : Vis (defScope s_places_for) "told" := by first | exact Or.inl rfl | exact Or.inr (Or.inl rfl) | exact Or.inr (Or.inr rfl)
theorem l_places_for_0 : Loc (defScope s_places_for) "told" := by first | exact Or.inl rfl | exact Or.inr rfl
theorem v_places_for_1 : Vis (defScope s_places_for) "kinds" := by first | exact Or.inl rfl | exact Or.inr (Or.inl rfl) | exact Or.inr (Or.inr rfl)
theorem l_places_for_1 : Loc (defScope s_places_for) "kinds" := by first | exact Or.inl rfl | exact Or.inr rfl
theorem v_places_for_2 : Vis (defScope s_places_for) "look" := by first | exact Or.inl rfl | exact Or.inr (Or.inl rfl) | exact Or.inr (Or.inr rfl)
theorem l_places_for_2 : Loc (defScope s_places_for) "look" := by first | exact Or.inl rfl | exact Or.inr rfl
theorem g_places_for_made_places : (defScope s_places_for).names.lookup ("made_places" : Str) = some .globalImplicit := by rfl
theorem g_places_for_used_places : (defScope s_places_for).names.lookup ("used_places" : Str) = some .globalImplicit := by rfl
theorem g_places_for_chief_places : (defScope s_places_for).names.lookup ("chief_places" : Str) = some .globalImplicit := by rfl
abbrev s_place_holds : Stmt := top 11
theorem sc_place_holds : FnScope ["told", "kinds", "look", "reason", "places"] ["told", "kinds", "look", "reason"] (defScope s_place_holds) := ⟨rfl, rfl, rfl, by decide +kernel, rfl, by decide +kernel, by decide +kernel⟩
theorem v_place_holds_0 : Vis (defScope s_place_holds) "told" := by first | exact Or.inl rfl | exact Or.inr (Or.inl rfl) | exact Or.inr (Or.inr rfl)
theorem l_place_holds_0 : Loc (defScope s_place_holds) "told" := by first | exact Or.inl rfl | exact Or.inr rfl
theorem v_place_holds_1 : Vis (defScope s_place_holds) "kinds" := by first | exact Or.inl rfl | exact Or.inr (Or.inl rfl) | exact Or.inr (Or.inr rfl)
theorem l_place_holds_1 : Loc (defScope s_place_holds) "kinds" := by first | exact Or.inl rfl | exact Or.inr rfl
theorem v_place_holds_2 : Vis (defScope s_place_holds) "look" := by first | exact Or.inl rfl | exact Or.inr (Or.inl rfl) | exact Or.inr (Or.inr rfl)
theorem l_place_holds_2 : Loc (defScope s_place_holds) "look" := by first | exact Or.inl rfl | exact Or.inr rfl
theorem v_place_holds_3 : Vis (defScope s_place_holds) "reason" := by first | exact Or.inl rfl | exact Or.inr (Or.inl rfl) | exact Or.inr (Or.inr rfl)
theorem l_place_holds_3 : Loc (defScope s_place_holds) "reason" := by first | exact Or.inl rfl | exact Or.inr rfl
theorem v_place_holds_4 : Vis (defScope s_place_holds) "places" := by first | exact Or.inl rfl | exact Or.inr (Or.inl rfl) | exact Or.inr (Or.inr rfl)
theorem l_place_holds_4 : Loc (defScope s_place_holds) "places" := by first | exact Or.inl rfl | exact Or.inr rfl
theorem g_place_holds_places_for : (defScope s_place_holds).names.lookup ("places_for" : Str) = some .globalImplicit := by rfl
theorem g_place_holds_is_whole : (defScope s_place_holds).names.lookup ("is_whole" : Str) = some .globalImplicit := by rfl
theorem g_place_holds_len : (defScope s_place_holds).names.lookup ("len" : Str) = some .globalImplicit := by rfl
abbrev s_one_holds : Stmt := top 12
theorem sc_one_holds : FnScope ["told", "kinds", "look", "reason"] ["told", "kinds", "look", "reason"] (defScope s_one_holds) := ⟨rfl, rfl, rfl, by decide +kernel, rfl, by decide +kernel, by decide +kernel⟩
theorem v_one_holds_0 : Vis (defScope s_one_holds) "told" := by first | exact Or.inl rfl | exact Or.inr (Or.inl rfl) | exact Or.inr (Or.inr rfl)
theorem l_one_holds_0 : Loc (defScope s_one_holds) "told" := by first | exact Or.inl rfl | exact Or.inr rfl
theorem v_one_holds_1 : Vis (defScope s_one_holds) "kinds" := by first | exact Or.inl rfl | exact Or.inr (Or.inl rfl) | exact Or.inr (Or.inr rfl)
theorem l_one_holds_1 : Loc (defScope s_one_holds) "kinds" := by first | exact Or.inl rfl | exact Or.inr rfl
theorem v_one_holds_2 : Vis (defScope s_one_holds) "look" := by first | exact Or.inl rfl | exact Or.inr (Or.inl rfl) | exact Or.inr (Or.inr rfl)
theorem l_one_holds_2 : Loc (defScope s_one_holds) "look" := by first | exact Or.inl rfl | exact Or.inr rfl
theorem v_one_holds_3 : Vis (defScope s_one_holds) "reason" := by first | exact Or.inl rfl | exact Or.inr (Or.inl rfl) | exact Or.inr (Or.inr rfl)
theorem l_one_holds_3 : Loc (defScope s_one_holds) "reason" := by first | exact Or.inl rfl | exact Or.inr rfl
theorem g_one_holds_is_over : (defScope s_one_holds).names.lookup ("is_over" : Str) = some .globalImplicit := by rfl
theorem g_one_holds_place_holds : (defScope s_one_holds).names.lookup ("place_holds" : Str) = some .globalImplicit := by rfl
abbrev s_says : Stmt := top 13
theorem sc_says : FnScope ["truth", "told", "kinds", "look", "reason"] ["truth", "told", "kinds", "look", "reason"] (defScope s_says) := ⟨rfl, rfl, rfl, by decide +kernel, rfl, by decide +kernel, by decide +kernel⟩
theorem v_says_0 : Vis (defScope s_says) "truth" := by first | exact Or.inl rfl | exact Or.inr (Or.inl rfl) | exact Or.inr (Or.inr rfl)
theorem l_says_0 : Loc (defScope s_says) "truth" := by first | exact Or.inl rfl | exact Or.inr rfl
theorem v_says_1 : Vis (defScope s_says) "told" := by first | exact Or.inl rfl | exact Or.inr (Or.inl rfl) | exact Or.inr (Or.inr rfl)
theorem l_says_1 : Loc (defScope s_says) "told" := by first | exact Or.inl rfl | exact Or.inr rfl
theorem v_says_2 : Vis (defScope s_says) "kinds" := by first | exact Or.inl rfl | exact Or.inr (Or.inl rfl) | exact Or.inr (Or.inr rfl)
theorem l_says_2 : Loc (defScope s_says) "kinds" := by first | exact Or.inl rfl | exact Or.inr rfl
theorem v_says_3 : Vis (defScope s_says) "look" := by first | exact Or.inl rfl | exact Or.inr (Or.inl rfl) | exact Or.inr (Or.inr rfl)
theorem l_says_3 : Loc (defScope s_says) "look" := by first | exact Or.inl rfl | exact Or.inr rfl
theorem v_says_4 : Vis (defScope s_says) "reason" := by first | exact Or.inl rfl | exact Or.inr (Or.inl rfl) | exact Or.inr (Or.inr rfl)
theorem l_says_4 : Loc (defScope s_says) "reason" := by first | exact Or.inl rfl | exact Or.inr rfl
theorem g_says_holds_up : (defScope s_says).names.lookup ("holds_up" : Str) = some .globalImplicit := by rfl
abbrev s_two_hold : Stmt := top 14
theorem sc_two_hold : FnScope ["told", "kinds", "look", "reason", "wanted", "first", "side"] ["told", "kinds", "look", "reason"] (defScope s_two_hold) := ⟨rfl, rfl, rfl, by decide +kernel, rfl, by decide +kernel, by decide +kernel⟩
theorem v_two_hold_0 : Vis (defScope s_two_hold) "told" := by first | exact Or.inl rfl | exact Or.inr (Or.inl rfl) | exact Or.inr (Or.inr rfl)
theorem l_two_hold_0 : Loc (defScope s_two_hold) "told" := by first | exact Or.inl rfl | exact Or.inr rfl
theorem v_two_hold_1 : Vis (defScope s_two_hold) "kinds" := by first | exact Or.inl rfl | exact Or.inr (Or.inl rfl) | exact Or.inr (Or.inr rfl)
theorem l_two_hold_1 : Loc (defScope s_two_hold) "kinds" := by first | exact Or.inl rfl | exact Or.inr rfl
theorem v_two_hold_2 : Vis (defScope s_two_hold) "look" := by first | exact Or.inl rfl | exact Or.inr (Or.inl rfl) | exact Or.inr (Or.inr rfl)
theorem l_two_hold_2 : Loc (defScope s_two_hold) "look" := by first | exact Or.inl rfl | exact Or.inr rfl
theorem v_two_hold_3 : Vis (defScope s_two_hold) "reason" := by first | exact Or.inl rfl | exact Or.inr (Or.inl rfl) | exact Or.inr (Or.inr rfl)
theorem l_two_hold_3 : Loc (defScope s_two_hold) "reason" := by first | exact Or.inl rfl | exact Or.inr rfl
theorem v_two_hold_4 : Vis (defScope s_two_hold) "wanted" := by first | exact Or.inl rfl | exact Or.inr (Or.inl rfl) | exact Or.inr (Or.inr rfl)
theorem l_two_hold_4 : Loc (defScope s_two_hold) "wanted" := by first | exact Or.inl rfl | exact Or.inr rfl
theorem v_two_hold_5 : Vis (defScope s_two_hold) "first" := by first | exact Or.inl rfl | exact Or.inr (Or.inl rfl) | exact Or.inr (Or.inr rfl)
theorem l_two_hold_5 : Loc (defScope s_two_hold) "first" := by first | exact Or.inl rfl | exact Or.inr rfl
theorem v_two_hold_6 : Vis (defScope s_two_hold) "side" := by first | exact Or.inl rfl | exact Or.inr (Or.inl rfl) | exact Or.inr (Or.inr rfl)
theorem l_two_hold_6 : Loc (defScope s_two_hold) "side" := by first | exact Or.inl rfl | exact Or.inr rfl
theorem g_two_hold_OF_BOTH : (defScope s_two_hold).names.lookup ("OF_BOTH" : Str) = some .globalImplicit := by rfl
theorem g_two_hold_says : (defScope s_two_hold).names.lookup ("says" : Str) = some .globalImplicit := by rfl
theorem g_two_hold_is_whole : (defScope s_two_hold).names.lookup ("is_whole" : Str) = some .globalImplicit := by rfl
abbrev s_holds_up : Stmt := top 15
theorem sc_holds_up : FnScope ["told", "kinds", "look", "reason"] ["told", "kinds", "look", "reason"] (defScope s_holds_up) := ⟨rfl, rfl, rfl, by decide +kernel, rfl, by decide +kernel, by decide +kernel⟩
theorem v_holds_up_0 : Vis (defScope s_holds_up) "told" := by first | exact Or.inl rfl | exact Or.inr (Or.inl rfl) | exact Or.inr (Or.inr rfl)
theorem l_holds_up_0 : Loc (defScope s_holds_up) "told" := by first | exact Or.inl rfl | exact Or.inr rfl
theorem v_holds_up_1 : Vis (defScope s_holds_up) "kinds" := by first | exact Or.inl rfl | exact Or.inr (Or.inl rfl) | exact Or.inr (Or.inr rfl)
theorem l_holds_up_1 : Loc (defScope s_holds_up) "kinds" := by first | exact Or.inl rfl | exact Or.inr rfl
theorem v_holds_up_2 : Vis (defScope s_holds_up) "look" := by first | exact Or.inl rfl | exact Or.inr (Or.inl rfl) | exact Or.inr (Or.inr rfl)
theorem l_holds_up_2 : Loc (defScope s_holds_up) "look" := by first | exact Or.inl rfl | exact Or.inr rfl
theorem v_holds_up_3 : Vis (defScope s_holds_up) "reason" := by first | exact Or.inl rfl | exact Or.inr (Or.inl rfl) | exact Or.inr (Or.inr rfl)
theorem l_holds_up_3 : Loc (defScope s_holds_up) "reason" := by first | exact Or.inl rfl | exact Or.inr rfl
theorem g_holds_up_isinstance : (defScope s_holds_up).names.lookup ("isinstance" : Str) = some .globalImplicit := by rfl
theorem g_holds_up_tuple : (defScope s_holds_up).names.lookup ("tuple" : Str) = some .globalImplicit := by rfl
theorem g_holds_up_len : (defScope s_holds_up).names.lookup ("len" : Str) = some .globalImplicit := by rfl
theorem g_holds_up_bool : (defScope s_holds_up).names.lookup ("bool" : Str) = some .globalImplicit := by rfl
theorem g_holds_up_OF_BOTH : (defScope s_holds_up).names.lookup ("OF_BOTH" : Str) = some .globalImplicit := by rfl
theorem g_holds_up_two_hold : (defScope s_holds_up).names.lookup ("two_hold" : Str) = some .globalImplicit := by rfl
theorem g_holds_up_one_holds : (defScope s_holds_up).names.lookup ("one_holds" : Str) = some .globalImplicit := by rfl
abbrev s_truth_of : Stmt := top 16
theorem sc_truth_of : FnScope ["told", "kinds", "look", "reason"] ["told", "kinds", "look", "reason"] (defScope s_truth_of) := ⟨rfl, rfl, rfl, by decide +kernel, rfl, by decide +kernel, by decide +kernel⟩
theorem v_truth_of_0 : Vis (defScope s_truth_of) "told" := by first | exact Or.inl rfl | exact Or.inr (Or.inl rfl) | exact Or.inr (Or.inr rfl)
theorem l_truth_of_0 : Loc (defScope s_truth_of) "told" := by first | exact Or.inl rfl | exact Or.inr rfl
theorem v_truth_of_1 : Vis (defScope s_truth_of) "kinds" := by first | exact Or.inl rfl | exact Or.inr (Or.inl rfl) | exact Or.inr (Or.inr rfl)
theorem l_truth_of_1 : Loc (defScope s_truth_of) "kinds" := by first | exact Or.inl rfl | exact Or.inr rfl
theorem v_truth_of_2 : Vis (defScope s_truth_of) "look" := by first | exact Or.inl rfl | exact Or.inr (Or.inl rfl) | exact Or.inr (Or.inr rfl)
theorem l_truth_of_2 : Loc (defScope s_truth_of) "look" := by first | exact Or.inl rfl | exact Or.inr rfl
theorem v_truth_of_3 : Vis (defScope s_truth_of) "reason" := by first | exact Or.inl rfl | exact Or.inr (Or.inl rfl) | exact Or.inr (Or.inr rfl)
theorem l_truth_of_3 : Loc (defScope s_truth_of) "reason" := by first | exact Or.inl rfl | exact Or.inr rfl
theorem g_truth_of_holds_up : (defScope s_truth_of).names.lookup ("holds_up" : Str) = some .globalImplicit := by rfl
abbrev s_law_cell : Stmt := top 18
theorem sc_law_cell : FnScope ["_law_script", "_law_k", "_law_number"] ["_law_script", "_law_k"] (defScope s_law_cell) := ⟨rfl, rfl, rfl, by decide +kernel, rfl, by decide +kernel, by decide +kernel⟩
theorem v_law_cell_0 : Vis (defScope s_law_cell) "_law_script" := by first | exact Or.inl rfl | exact Or.inr (Or.inl rfl) | exact Or.inr (Or.inr rfl)
theorem l_law_cell_0 : Loc (defScope s_law_cell) "_law_script" := by first | exact Or.inl rfl | exact Or.inr rfl
theorem v_law_cell_1 : Vis (defScope s_law_cell) "_law_k" := by first | exact Or.inl rfl | exact Or.inr (Or.inl rfl) | exact Or.inr (Or.inr rfl)
theorem l_law_cell_1 : Loc (defScope s_law_cell) "_law_k" := by first | exact Or.inl rfl | exact Or.inr rfl
theorem v_law_cell_2 : Vis (defScope s_law_cell) "_law_number" := by first | exact Or.inl rfl | exact Or.inr (Or.inl rfl) | exact Or.inr (Or.inr rfl)
theorem l_law_cell_2 : Loc (defScope s_law_cell) "_law_number" := by first | exact Or.inl rfl | exact Or.inr rfl
theorem g_law_cell_len : (defScope s_law_cell).names.lookup ("len" : Str) = some .globalImplicit := by rfl
abbrev s_law_mix : Stmt := top 19
theorem sc_law_mix : FnScope ["_law_number", "_law_k", "_law_many"] ["_law_number", "_law_k", "_law_many"] (defScope s_law_mix) := ⟨rfl, rfl, rfl, by decide +kernel, rfl, by decide +kernel, by decide +kernel⟩
theorem v_law_mix_0 : Vis (defScope s_law_mix) "_law_number" := by first | exact Or.inl rfl | exact Or.inr (Or.inl rfl) | exact Or.inr (Or.inr rfl)
theorem l_law_mix_0 : Loc (defScope s_law_mix) "_law_number" := by first | exact Or.inl rfl | exact Or.inr rfl
theorem v_law_mix_1 : Vis (defScope s_law_mix) "_law_k" := by first | exact Or.inl rfl | exact Or.inr (Or.inl rfl) | exact Or.inr (Or.inr rfl)
theorem l_law_mix_1 : Loc (defScope s_law_mix) "_law_k" := by first | exact Or.inl rfl | exact Or.inr rfl
theorem v_law_mix_2 : Vis (defScope s_law_mix) "_law_many" := by first | exact Or.inl rfl | exact Or.inr (Or.inl rfl) | exact Or.inr (Or.inr rfl)
theorem l_law_mix_2 : Loc (defScope s_law_mix) "_law_many" := by first | exact Or.inl rfl | exact Or.inr rfl
abbrev s_law_whole : Stmt := top 20
theorem sc_law_whole : FnScope ["_law_found"] ["_law_found"] (defScope s_law_whole) := ⟨rfl, rfl, rfl, by decide +kernel, rfl, by decide +kernel, by decide +kernel⟩
theorem v_law_whole_0 : Vis (defScope s_law_whole) "_law_found" := by first | exact Or.inl rfl | exact Or.inr (Or.inl rfl) | exact Or.inr (Or.inr rfl)
theorem l_law_whole_0 : Loc (defScope s_law_whole) "_law_found" := by first | exact Or.inl rfl | exact Or.inr rfl
theorem g_law_whole_isinstance : (defScope s_law_whole).names.lookup ("isinstance" : Str) = some .globalImplicit := by rfl
theorem g_law_whole_int : (defScope s_law_whole).names.lookup ("int" : Str) = some .globalImplicit := by rfl
theorem g_law_whole_bool : (defScope s_law_whole).names.lookup ("bool" : Str) = some .globalImplicit := by rfl
abbrev s_law_words : Stmt := top 21
theorem sc_law_words : FnScope ["_law_cell_here", "_law_many", "_law_letters", "_law_base", "_law_size", "_law_at", "_law_words_here", "_law_k", "_law_word", "_law_j"] ["_law_cell_here", "_law_many"] (defScope s_law_words) := ⟨rfl, rfl, rfl, by decide +kernel, rfl, by decide +kernel, by decide +kernel⟩
theorem v_law_words_0 : Vis (defScope s_law_words) "_law_cell_here" := by first | exact Or.inl rfl | exact Or.inr (Or.inl rfl) | exact Or.inr (Or.inr rfl)
theorem l_law_words_0 : Loc (defScope s_law_words) "_law_cell_here" := by first | exact Or.inl rfl | exact Or.inr rfl
theorem v_law_words_1 : Vis (defScope s_law_words) "_law_many" := by first | exact Or.inl rfl | exact Or.inr (Or.inl rfl) | exact Or.inr (Or.inr rfl)
theorem l_law_words_1 : Loc (defScope s_law_words) "_law_many" := by first | exact Or.inl rfl | exact Or.inr rfl
theorem v_law_words_2 : Vis (defScope s_law_words) "_law_letters" := by first | exact Or.inl rfl | exact Or.inr (Or.inl rfl) | exact Or.inr (Or.inr rfl)
theorem l_law_words_2 : Loc (defScope s_law_words) "_law_letters" := by first | exact Or.inl rfl | exact Or.inr rfl
theorem v_law_words_3 : Vis (defScope s_law_words) "_law_base" := by first | exact Or.inl rfl | exact Or.inr (Or.inl rfl) | exact Or.inr (Or.inr rfl)
theorem l_law_words_3 : Loc (defScope s_law_words) "_law_base" := by first | exact Or.inl rfl | exact Or.inr rfl
theorem v_law_words_4 : Vis (defScope s_law_words) "_law_size" := by first | exact Or.inl rfl | exact Or.inr (Or.inl rfl) | exact Or.inr (Or.inr rfl)
theorem l_law_words_4 : Loc (defScope s_law_words) "_law_size" := by first | exact Or.inl rfl | exact Or.inr rfl
theorem v_law_words_5 : Vis (defScope s_law_words) "_law_at" := by first | exact Or.inl rfl | exact Or.inr (Or.inl rfl) | exact Or.inr (Or.inr rfl)
theorem l_law_words_5 : Loc (defScope s_law_words) "_law_at" := by first | exact Or.inl rfl | exact Or.inr rfl
theorem v_law_words_6 : Vis (defScope s_law_words) "_law_words_here" := by first | exact Or.inl rfl | exact Or.inr (Or.inl rfl) | exact Or.inr (Or.inr rfl)
theorem l_law_words_6 : Loc (defScope s_law_words) "_law_words_here" := by first | exact Or.inl rfl | exact Or.inr rfl
theorem v_law_words_7 : Vis (defScope s_law_words) "_law_k" := by first | exact Or.inl rfl | exact Or.inr (Or.inl rfl) | exact Or.inr (Or.inr rfl)
theorem l_law_words_7 : Loc (defScope s_law_words) "_law_k" := by first | exact Or.inl rfl | exact Or.inr rfl
theorem v_law_words_8 : Vis (defScope s_law_words) "_law_word" := by first | exact Or.inl rfl | exact Or.inr (Or.inl rfl) | exact Or.inr (Or.inr rfl)
theorem l_law_words_8 : Loc (defScope s_law_words) "_law_word" := by first | exact Or.inl rfl | exact Or.inr rfl
theorem v_law_words_9 : Vis (defScope s_law_words) "_law_j" := by first | exact Or.inl rfl | exact Or.inr (Or.inl rfl) | exact Or.inr (Or.inr rfl)
theorem l_law_words_9 : Loc (defScope s_law_words) "_law_j" := by first | exact Or.inl rfl | exact Or.inr rfl
theorem g_law_words_range : (defScope s_law_words).names.lookup ("range" : Str) = some .globalImplicit := by rfl
theorem g_law_words_int : (defScope s_law_words).names.lookup ("int" : Str) = some .globalImplicit := by rfl
abbrev s_law_kinds : Stmt := top 22
theorem sc_law_kinds : FnScope ["_law_cell_here", "_law_words_here", "_law_many", "_law_step", "_law_shift", "_law_kinds_here", "_law_k", "_law_place"] ["_law_cell_here", "_law_words_here"] (defScope s_law_kinds) := ⟨rfl, rfl, rfl, by decide +kernel, rfl, by decide +kernel, by decide +kernel⟩
theorem v_law_kinds_0 : Vis (defScope s_law_kinds) "_law_cell_here" := by first | exact Or.inl rfl | exact Or.inr (Or.inl rfl) | exact Or.inr (Or.inr rfl)
theorem l_law_kinds_0 : Loc (defScope s_law_kinds) "_law_cell_here" := by first | exact Or.inl rfl | exact Or.inr rfl
theorem v_law_kinds_1 : Vis (defScope s_law_kinds) "_law_words_here" := by first | exact Or.inl rfl | exact Or.inr (Or.inl rfl) | exact Or.inr (Or.inr rfl)
theorem l_law_kinds_1 : Loc (defScope s_law_kinds) "_law_words_here" := by first | exact Or.inl rfl | exact Or.inr rfl
theorem v_law_kinds_2 : Vis (defScope s_law_kinds) "_law_many" := by first | exact Or.inl rfl | exact Or.inr (Or.inl rfl) | exact Or.inr (Or.inr rfl)
theorem l_law_kinds_2 : Loc (defScope s_law_kinds) "_law_many" := by first | exact Or.inl rfl | exact Or.inr rfl
theorem v_law_kinds_3 : Vis (defScope s_law_kinds) "_law_step" := by first | exact Or.inl rfl | exact Or.inr (Or.inl rfl) | exact Or.inr (Or.inr rfl)
theorem l_law_kinds_3 : Loc (defScope s_law_kinds) "_law_step" := by first | exact Or.inl rfl | exact Or.inr rfl
theorem v_law_kinds_4 : Vis (defScope s_law_kinds) "_law_shift" := by first | exact Or.inl rfl | exact Or.inr (Or.inl rfl) | exact Or.inr (Or.inr rfl)
theorem l_law_kinds_4 : Loc (defScope s_law_kinds) "_law_shift" := by first | exact Or.inl rfl | exact Or.inr rfl
theorem v_law_kinds_5 : Vis (defScope s_law_kinds) "_law_kinds_here" := by first | exact Or.inl rfl | exact Or.inr (Or.inl rfl) | exact Or.inr (Or.inr rfl)
theorem l_law_kinds_5 : Loc (defScope s_law_kinds) "_law_kinds_here" := by first | exact Or.inl rfl | exact Or.inr rfl
theorem v_law_kinds_6 : Vis (defScope s_law_kinds) "_law_k" := by first | exact Or.inl rfl | exact Or.inr (Or.inl rfl) | exact Or.inr (Or.inr rfl)
theorem l_law_kinds_6 : Loc (defScope s_law_kinds) "_law_k" := by first | exact Or.inl rfl | exact Or.inr rfl
theorem v_law_kinds_7 : Vis (defScope s_law_kinds) "_law_place" := by first | exact Or.inl rfl | exact Or.inr (Or.inl rfl) | exact Or.inr (Or.inr rfl)
theorem l_law_kinds_7 : Loc (defScope s_law_kinds) "_law_place" := by first | exact Or.inl rfl | exact Or.inr rfl
theorem g_law_kinds_range : (defScope s_law_kinds).names.lookup ("range" : Str) = some .globalImplicit := by rfl
abbrev s_law_look : Stmt := top 23
theorem sc_law_look : FnScope ["_law_cell_here", "_law_many", "_law_weights"] ["_law_cell_here", "_law_many"] (defScope s_law_look) := ⟨rfl, rfl, rfl, by decide +kernel, rfl, by decide +kernel, by decide +kernel⟩
theorem v_law_look_0 : Vis (defScope s_law_look) "_law_cell_here" := by first | exact Or.inl rfl | exact Or.inr (Or.inl rfl) | exact Or.inr (Or.inr rfl)
theorem l_law_look_0 : Loc (defScope s_law_look) "_law_cell_here" := by first | exact Or.inl rfl | exact Or.inr rfl
theorem v_law_look_1 : Vis (defScope s_law_look) "_law_many" := by first | exact Or.inl rfl | exact Or.inr (Or.inl rfl) | exact Or.inr (Or.inr rfl)
theorem l_law_look_1 : Loc (defScope s_law_look) "_law_many" := by first | exact Or.inl rfl | exact Or.inr rfl
theorem v_law_look_2 : Vis (defScope s_law_look) "_law_weights" := by first | exact Or.inl rfl | exact Or.inr (Or.inl rfl) | exact Or.inr (Or.inr rfl)
theorem l_law_look_2 : Loc (defScope s_law_look) "_law_weights" := by first | exact Or.inl rfl | exact Or.inr rfl
theorem g_law_look_range : (defScope s_law_look).names.lookup ("range" : Str) = some .globalImplicit := by rfl
theorem g_law_look_max : (defScope s_law_look).names.lookup ("max" : Str) = some .globalImplicit := by rfl
theorem g_law_look_tuple : (defScope s_law_look).names.lookup ("tuple" : Str) = some .globalImplicit := by rfl
abbrev s_law_plain : Stmt := top 24
theorem sc_law_plain : FnScope ["_law_number", "_law_kinds_here", "_law_words_here", "_law_way", "_law_name", "_law_some", "_law_one"] ["_law_number", "_law_kinds_here", "_law_words_here"] (defScope s_law_plain) := ⟨rfl, rfl, rfl, by decide +kernel, rfl, by decide +kernel, by decide +kernel⟩
theorem v_law_plain_0 : Vis (defScope s_law_plain) "_law_number" := by first | exact Or.inl rfl | exact Or.inr (Or.inl rfl) | exact Or.inr (Or.inr rfl)
theorem l_law_plain_0 : Loc (defScope s_law_plain) "_law_number" := by first | exact Or.inl rfl | exact Or.inr rfl
theorem v_law_plain_1 : Vis (defScope s_law_plain) "_law_kinds_here" := by first | exact Or.inl rfl | exact Or.inr (Or.inl rfl) | exact Or.inr (Or.inr rfl)
theorem l_law_plain_1 : Loc (defScope s_law_plain) "_law_kinds_here" := by first | exact Or.inl rfl | exact Or.inr rfl
theorem v_law_plain_2 : Vis (defScope s_law_plain) "_law_words_here" := by first | exact Or.inl rfl | exact Or.inr (Or.inl rfl) | exact Or.inr (Or.inr rfl)
theorem l_law_plain_2 : Loc (defScope s_law_plain) "_law_words_here" := by first | exact Or.inl rfl | exact Or.inr rfl
theorem v_law_plain_3 : Vis (defScope s_law_plain) "_law_way" := by first | exact Or.inl rfl | exact Or.inr (Or.inl rfl) | exact Or.inr (Or.inr rfl)
theorem l_law_plain_3 : Loc (defScope s_law_plain) "_law_way" := by first | exact Or.inl rfl | exact Or.inr rfl
theorem v_law_plain_4 : Vis (defScope s_law_plain) "_law_name" := by first | exact Or.inl rfl | exact Or.inr (Or.inl rfl) | exact Or.inr (Or.inr rfl)
theorem l_law_plain_4 : Loc (defScope s_law_plain) "_law_name" := by first | exact Or.inl rfl | exact Or.inr rfl
theorem v_law_plain_5 : Vis (defScope s_law_plain) "_law_some" := by first | exact Or.inl rfl | exact Or.inr (Or.inl rfl) | exact Or.inr (Or.inr rfl)
theorem l_law_plain_5 : Loc (defScope s_law_plain) "_law_some" := by first | exact Or.inl rfl | exact Or.inr rfl
theorem v_law_plain_6 : Vis (defScope s_law_plain) "_law_one" := by first | exact Or.inl rfl | exact Or.inr (Or.inl rfl) | exact Or.inr (Or.inr rfl)
theorem l_law_plain_6 : Loc (defScope s_law_plain) "_law_one" := by first | exact Or.inl rfl | exact Or.inr rfl
theorem g_law_plain__law_mix : (defScope s_law_plain).names.lookup ("_law_mix" : Str) = some .globalImplicit := by rfl
theorem g_law_plain_len : (defScope s_law_plain).names.lookup ("len" : Str) = some .globalImplicit := by rfl
abbrev s_law_note : Stmt := top 25
theorem sc_law_note : FnScope ["_law_number", "_law_deep", "_law_kinds_here", "_law_words_here", "_law_one", "_law_other"] ["_law_number", "_law_deep", "_law_kinds_here", "_law_words_here"] (defScope s_law_note) := ⟨rfl, rfl, rfl, by decide +kernel, rfl, by decide +kernel, by decide +kernel⟩
theorem v_law_note_0 : Vis (defScope s_law_note) "_law_number" := by first | exact Or.inl rfl | exact Or.inr (Or.inl rfl) | exact Or.inr (Or.inr rfl)
theorem l_law_note_0 : Loc (defScope s_law_note) "_law_number" := by first | exact Or.inl rfl | exact Or.inr rfl
theorem v_law_note_1 : Vis (defScope s_law_note) "_law_deep" := by first | exact Or.inl rfl | exact Or.inr (Or.inl rfl) | exact Or.inr (Or.inr rfl)
theorem l_law_note_1 : Loc (defScope s_law_note) "_law_deep" := by first | exact Or.inl rfl | exact Or.inr rfl
theorem v_law_note_2 : Vis (defScope s_law_note) "_law_kinds_here" := by first | exact Or.inl rfl | exact Or.inr (Or.inl rfl) | exact Or.inr (Or.inr rfl)
theorem l_law_note_2 : Loc (defScope s_law_note) "_law_kinds_here" := by first | exact Or.inl rfl | exact Or.inr rfl
theorem v_law_note_3 : Vis (defScope s_law_note) "_law_words_here" := by first | exact Or.inl rfl | exact Or.inr (Or.inl rfl) | exact Or.inr (Or.inr rfl)
theorem l_law_note_3 : Loc (defScope s_law_note) "_law_words_here" := by first | exact Or.inl rfl | exact Or.inr rfl
theorem v_law_note_4 : Vis (defScope s_law_note) "_law_one" := by first | exact Or.inl rfl | exact Or.inr (Or.inl rfl) | exact Or.inr (Or.inr rfl)
theorem l_law_note_4 : Loc (defScope s_law_note) "_law_one" := by first | exact Or.inl rfl | exact Or.inr rfl
theorem v_law_note_5 : Vis (defScope s_law_note) "_law_other" := by first | exact Or.inl rfl | exact Or.inr (Or.inl rfl) | exact Or.inr (Or.inr rfl)
theorem l_law_note_5 : Loc (defScope s_law_note) "_law_other" := by first | exact Or.inl rfl | exact Or.inr rfl
theorem g_law_note__law_mix : (defScope s_law_note).names.lookup ("_law_mix" : Str) = some .globalImplicit := by rfl
theorem g_law_note__law_plain : (defScope s_law_note).names.lookup ("_law_plain" : Str) = some .globalImplicit := by rfl
theorem g_law_note__law_note : (defScope s_law_note).names.lookup ("_law_note" : Str) = some .globalImplicit := by rfl
abbrev s_law_weighs : Stmt := top 26
theorem sc_law_weighs : FnScope ["_law_kinds_here", "_law_look_here", "_law_kind", "_law_k"] ["_law_kinds_here", "_law_look_here", "_law_kind"] (defScope s_law_weighs) := ⟨rfl, rfl, rfl, by decide +kernel, rfl, by decide +kernel, by decide +kernel⟩
theorem v_law_weighs_0 : Vis (defScope s_law_weighs) "_law_kinds_here" := by first | exact Or.inl rfl | exact Or.inr (Or.inl rfl) | exact Or.inr (Or.inr rfl)
theorem l_law_weighs_0 : Loc (defScope s_law_weighs) "_law_kinds_here" := by first | exact Or.inl rfl | exact Or.inr rfl
theorem v_law_weighs_1 : Vis (defScope s_law_weighs) "_law_look_here" := by first | exact Or.inl rfl | exact Or.inr (Or.inl rfl) | exact Or.inr (Or.inr rfl)
theorem l_law_weighs_1 : Loc (defScope s_law_weighs) "_law_look_here" := by first | exact Or.inl rfl | exact Or.inr rfl
theorem v_law_weighs_2 : Vis (defScope s_law_weighs) "_law_kind" := by first | exact Or.inl rfl | exact Or.inr (Or.inl rfl) | exact Or.inr (Or.inr rfl)
theorem l_law_weighs_2 : Loc (defScope s_law_weighs) "_law_kind" := by first | exact Or.inl rfl | exact Or.inr rfl
theorem v_law_weighs_3 : Vis (defScope s_law_weighs) "_law_k" := by first | exact Or.inl rfl | exact Or.inr (Or.inl rfl) | exact Or.inr (Or.inr rfl)
theorem l_law_weighs_3 : Loc (defScope s_law_weighs) "_law_k" := by first | exact Or.inl rfl | exact Or.inr rfl
theorem g_law_weighs_range : (defScope s_law_weighs).names.lookup ("range" : Str) = some .globalImplicit := by rfl
theorem g_law_weighs_len : (defScope s_law_weighs).names.lookup ("len" : Str) = some .globalImplicit := by rfl
abbrev s_law_shows : Stmt := top 27
theorem sc_law_shows : FnScope ["_law_told", "_law_kinds_here", "_law_look_here", "_law_k", "_law_least"] ["_law_told", "_law_kinds_here", "_law_look_here", "_law_k"] (defScope s_law_shows) := ⟨rfl, rfl, rfl, by decide +kernel, rfl, by decide +kernel, by decide +kernel⟩
theorem v_law_shows_0 : Vis (defScope s_law_shows) "_law_told" := by first | exact Or.inl rfl | exact Or.inr (Or.inl rfl) | exact Or.inr (Or.inr rfl)
theorem l_law_shows_0 : Loc (defScope s_law_shows) "_law_told" := by first | exact Or.inl rfl | exact Or.inr rfl
theorem v_law_shows_1 : Vis (defScope s_law_shows) "_law_kinds_here" := by first | exact Or.inl rfl | exact Or.inr (Or.inl rfl) | exact Or.inr (Or.inr rfl)
theorem l_law_shows_1 : Loc (defScope s_law_shows) "_law_kinds_here" := by first | exact Or.inl rfl | exact Or.inr rfl
theorem v_law_shows_2 : Vis (defScope s_law_shows) "_law_look_here" := by first | exact Or.inl rfl | exact Or.inr (Or.inl rfl) | exact Or.inr (Or.inr rfl)
theorem l_law_shows_2 : Loc (defScope s_law_shows) "_law_look_here" := by first | exact Or.inl rfl | exact Or.inr rfl
theorem v_law_shows_3 : Vis (defScope s_law_shows) "_law_k" := by first | exact Or.inl rfl | exact Or.inr (Or.inl rfl) | exact Or.inr (Or.inr rfl)
theorem l_law_shows_3 : Loc (defScope s_law_shows) "_law_k" := by first | exact Or.inl rfl | exact Or.inr rfl
theorem v_law_shows_4 : Vis (defScope s_law_shows) "_law_least" := by first | exact Or.inl rfl | exact Or.inr (Or.inl rfl) | exact Or.inr (Or.inr rfl)
theorem l_law_shows_4 : Loc (defScope s_law_shows) "_law_least" := by first | exact Or.inl rfl | exact Or.inr rfl
theorem g_law_shows_max : (defScope s_law_shows).names.lookup ("max" : Str) = some .globalImplicit := by rfl
theorem g_law_shows_int : (defScope s_law_shows).names.lookup ("int" : Str) = some .globalImplicit := by rfl
abbrev s_law_plain_claims : Stmt := top 28
theorem sc_law_plain_claims : FnScope ["_law_told", "_law_kinds_here", "_law_look_here"] ["_law_told", "_law_kinds_here", "_law_look_here"] (defScope s_law_plain_claims) := ⟨rfl, rfl, rfl, by decide +kernel, rfl, by decide +kernel, by decide +kernel⟩
theorem v_law_plain_claims_0 : Vis (defScope s_law_plain_claims) "_law_told" := by first | exact Or.inl rfl | exact Or.inr (Or.inl rfl) | exact Or.inr (Or.inr rfl)
theorem l_law_plain_claims_0 : Loc (defScope s_law_plain_claims) "_law_told" := by first | exact Or.inl rfl | exact Or.inr rfl
theorem v_law_plain_claims_1 : Vis (defScope s_law_plain_claims) "_law_kinds_here" := by first | exact Or.inl rfl | exact Or.inr (Or.inl rfl) | exact Or.inr (Or.inr rfl)
theorem l_law_plain_claims_1 : Loc (defScope s_law_plain_claims) "_law_kinds_here" := by first | exact Or.inl rfl | exact Or.inr rfl
theorem v_law_plain_claims_2 : Vis (defScope s_law_plain_claims) "_law_look_here" := by first | exact Or.inl rfl | exact Or.inr (Or.inl rfl) | exact Or.inr (Or.inr rfl)
theorem l_law_plain_claims_2 : Loc (defScope s_law_plain_claims) "_law_look_here" := by first | exact Or.inl rfl | exact Or.inr rfl
theorem g_law_plain_claims__law_weighs : (defScope s_law_plain_claims).names.lookup ("_law_weighs" : Str) = some .globalImplicit := by rfl
theorem g_law_plain_claims_len : (defScope s_law_plain_claims).names.lookup ("len" : Str) = some .globalImplicit := by rfl
theorem g_law_plain_claims_range : (defScope s_law_plain_claims).names.lookup ("range" : Str) = some .globalImplicit := by rfl
abbrev s_law_claims : Stmt := top 29
theorem sc_law_claims : FnScope ["_law_told", "_law_kinds_here", "_law_look_here"] ["_law_told", "_law_kinds_here", "_law_look_here"] (defScope s_law_claims) := ⟨rfl, rfl, rfl, by decide +kernel, rfl, by decide +kernel, by decide +kernel⟩
theorem v_law_claims_0 : Vis (defScope s_law_claims) "_law_told" := by first | exact Or.inl rfl | exact Or.inr (Or.inl rfl) | exact Or.inr (Or.inr rfl)
theorem l_law_claims_0 : Loc (defScope s_law_claims) "_law_told" := by first | exact Or.inl rfl | exact Or.inr rfl
theorem v_law_claims_1 : Vis (defScope s_law_claims) "_law_kinds_here" := by first | exact Or.inl rfl | exact Or.inr (Or.inl rfl) | exact Or.inr (Or.inr rfl)
theorem l_law_claims_1 : Loc (defScope s_law_claims) "_law_kinds_here" := by first | exact Or.inl rfl | exact Or.inr rfl
theorem v_law_claims_2 : Vis (defScope s_law_claims) "_law_look_here" := by first | exact Or.inl rfl | exact Or.inr (Or.inl rfl) | exact Or.inr (Or.inr rfl)
theorem l_law_claims_2 : Loc (defScope s_law_claims) "_law_look_here" := by first | exact Or.inl rfl | exact Or.inr rfl
theorem g_law_claims__law_claims : (defScope s_law_claims).names.lookup ("_law_claims" : Str) = some .globalImplicit := by rfl
theorem g_law_claims__law_plain_claims : (defScope s_law_claims).names.lookup ("_law_plain_claims" : Str) = some .globalImplicit := by rfl
abbrev s_law_pair : Stmt := top 30
theorem sc_law_pair : FnScope ["_law_word"] ["_law_word"] (defScope s_law_pair) := ⟨rfl, rfl, rfl, by decide +kernel, rfl, by decide +kernel, by decide +kernel⟩
theorem v_law_pair_0 : Vis (defScope s_law_pair) "_law_word" := by first | exact Or.inl rfl | exact Or.inr (Or.inl rfl) | exact Or.inr (Or.inr rfl)
theorem l_law_pair_0 : Loc (defScope s_law_pair) "_law_word" := by first | exact Or.inl rfl | exact Or.inr rfl
abbrev s_law_reads_plain : Stmt := top 31
theorem sc_law_reads_plain : FnScope ["_law_told", "_law_kinds_here", "_law_look_here", "_law_reason_here", "_law_due", "_law_at"] ["_law_told", "_law_kinds_here", "_law_look_here", "_law_reason_here"] (defScope s_law_reads_plain) := ⟨rfl, rfl, rfl, by decide +kernel, rfl, by decide +kernel, by decide +kernel⟩
theorem v_law_reads_plain_0 : Vis (defScope s_law_reads_plain) "_law_told" := by first | exact Or.inl rfl | exact Or.inr (Or.inl rfl) | exact Or.inr (Or.inr rfl)
theorem l_law_reads_plain_0 : Loc (defScope s_law_reads_plain) "_law_told" := by first | exact Or.inl rfl | exact Or.inr rfl
theorem v_law_reads_plain_1 : Vis (defScope s_law_reads_plain) "_law_kinds_here" := by first | exact Or.inl rfl | exact Or.inr (Or.inl rfl) | exact Or.inr (Or.inr rfl)
theorem l_law_reads_plain_1 : Loc (defScope s_law_reads_plain) "_law_kinds_here" := by first | exact Or.inl rfl | exact Or.inr rfl
theorem v_law_reads_plain_2 : Vis (defScope s_law_reads_plain) "_law_look_here" := by first | exact Or.inl rfl | exact Or.inr (Or.inl rfl) | exact Or.inr (Or.inr rfl)
theorem l_law_reads_plain_2 : Loc (defScope s_law_reads_plain) "_law_look_here" := by first | exact Or.inl rfl | exact Or.inr rfl
theorem v_law_reads_plain_3 : Vis (defScope s_law_reads_plain) "_law_reason_here" := by first | exact Or.inl rfl | exact Or.inr (Or.inl rfl) | exact Or.inr (Or.inr rfl)
theorem l_law_reads_plain_3 : Loc (defScope s_law_reads_plain) "_law_reason_here" := by first | exact Or.inl rfl | exact Or.inr rfl
theorem v_law_reads_plain_4 : Vis (defScope s_law_reads_plain) "_law_due" := by first | exact Or.inl rfl | exact Or.inr (Or.inl rfl) | exact Or.inr (Or.inr rfl)
theorem l_law_reads_plain_4 : Loc (defScope s_law_reads_plain) "_law_due" := by first | exact Or.inl rfl | exact Or.inr rfl
theorem v_law_reads_plain_5 : Vis (defScope s_law_reads_plain) "_law_at" := by first | exact Or.inl rfl | exact Or.inr (Or.inl rfl) | exact Or.inr (Or.inr rfl)
theorem l_law_reads_plain_5 : Loc (defScope s_law_reads_plain) "_law_at" := by first | exact Or.inl rfl | exact Or.inr rfl
theorem g_law_reads_plain__law_plain_claims : (defScope s_law_reads_plain).names.lookup ("_law_plain_claims" : Str) = some .globalImplicit := by rfl
theorem g_law_reads_plain_len : (defScope s_law_reads_plain).names.lookup ("len" : Str) = some .globalImplicit := by rfl
theorem g_law_reads_plain__law_whole : (defScope s_law_reads_plain).names.lookup ("_law_whole" : Str) = some .globalImplicit := by rfl
theorem g_law_reads_plain__law_shows : (defScope s_law_reads_plain).names.lookup ("_law_shows" : Str) = some .globalImplicit := by rfl
abbrev s_law_reads : Stmt := top 32
theorem sc_law_reads : FnScope ["_law_told", "_law_kinds_here", "_law_look_here", "_law_reason_here", "_law_pair_here", "_law_one", "_law_other", "_law_side", "_law_shown"] ["_law_told", "_law_kinds_here", "_law_look_here", "_law_reason_here"] (defScope s_law_reads) := ⟨rfl, rfl, rfl, by decide +kernel, rfl, by decide +kernel, by decide +kernel⟩
theorem v_law_reads_0 : Vis (defScope s_law_reads) "_law_told" := by first | exact Or.inl rfl | exact Or.inr (Or.inl rfl) | exact Or.inr (Or.inr rfl)
theorem l_law_reads_0 : Loc (defScope s_law_reads) "_law_told" := by first | exact Or.inl rfl | exact Or.inr rfl
theorem v_law_reads_1 : Vis (defScope s_law_reads) "_law_kinds_here" := by first | exact Or.inl rfl | exact Or.inr (Or.inl rfl) | exact Or.inr (Or.inr rfl)
theorem l_law_reads_1 : Loc (defScope s_law_reads) "_law_kinds_here" := by first | exact Or.inl rfl | exact Or.inr rfl
theorem v_law_reads_2 : Vis (defScope s_law_reads) "_law_look_here" := by first | exact Or.inl rfl | exact Or.inr (Or.inl rfl) | exact Or.inr (Or.inr rfl)
theorem l_law_reads_2 : Loc (defScope s_law_reads) "_law_look_here" := by first | exact Or.inl rfl | exact Or.inr rfl
theorem v_law_reads_3 : Vis (defScope s_law_reads) "_law_reason_here" := by first | exact Or.inl rfl | exact Or.inr (Or.inl rfl) | exact Or.inr (Or.inr rfl)
theorem l_law_reads_3 : Loc (defScope s_law_reads) "_law_reason_here" := by first | exact Or.inl rfl | exact Or.inr rfl
theorem v_law_reads_4 : Vis (defScope s_law_reads) "_law_pair_here" := by first | exact Or.inl rfl | exact Or.inr (Or.inl rfl) | exact Or.inr (Or.inr rfl)
theorem l_law_reads_4 : Loc (defScope s_law_reads) "_law_pair_here" := by first | exact Or.inl rfl | exact Or.inr rfl
theorem v_law_reads_5 : Vis (defScope s_law_reads) "_law_one" := by first | exact Or.inl rfl | exact Or.inr (Or.inl rfl) | exact Or.inr (Or.inr rfl)
theorem l_law_reads_5 : Loc (defScope s_law_reads) "_law_one" := by first | exact Or.inl rfl | exact Or.inr rfl
theorem v_law_reads_6 : Vis (defScope s_law_reads) "_law_other" := by first | exact Or.inl rfl | exact Or.inr (Or.inl rfl) | exact Or.inr (Or.inr rfl)
theorem l_law_reads_6 : Loc (defScope s_law_reads) "_law_other" := by first | exact Or.inl rfl | exact Or.inr rfl
theorem v_law_reads_7 : Vis (defScope s_law_reads) "_law_side" := by first | exact Or.inl rfl | exact Or.inr (Or.inl rfl) | exact Or.inr (Or.inr rfl)
theorem l_law_reads_7 : Loc (defScope s_law_reads) "_law_side" := by first | exact Or.inl rfl | exact Or.inr rfl
theorem v_law_reads_8 : Vis (defScope s_law_reads) "_law_shown" := by first | exact Or.inl rfl | exact Or.inr (Or.inl rfl) | exact Or.inr (Or.inr rfl)
theorem l_law_reads_8 : Loc (defScope s_law_reads) "_law_shown" := by first | exact Or.inl rfl | exact Or.inr rfl
theorem g_law_reads_isinstance : (defScope s_law_reads).names.lookup ("isinstance" : Str) = some .globalImplicit := by rfl
theorem g_law_reads_tuple : (defScope s_law_reads).names.lookup ("tuple" : Str) = some .globalImplicit := by rfl
theorem g_law_reads_len : (defScope s_law_reads).names.lookup ("len" : Str) = some .globalImplicit := by rfl
theorem g_law_reads_bool : (defScope s_law_reads).names.lookup ("bool" : Str) = some .globalImplicit := by rfl
theorem g_law_reads__law_reads_plain : (defScope s_law_reads).names.lookup ("_law_reads_plain" : Str) = some .globalImplicit := by rfl
theorem g_law_reads__law_pair : (defScope s_law_reads).names.lookup ("_law_pair" : Str) = some .globalImplicit := by rfl
theorem g_law_reads__law_reads : (defScope s_law_reads).names.lookup ("_law_reads" : Str) = some .globalImplicit := by rfl
theorem g_law_reads__law_whole : (defScope s_law_reads).names.lookup ("_law_whole" : Str) = some .globalImplicit := by rfl
abbrev s_law_reason : Stmt := top 33
theorem sc_law_reason : FnScope ["_law_told", "_law_kinds_here", "_law_look_here", "_law_places", "_law_one", "_law_other", "_law_pair_here"] ["_law_told", "_law_kinds_here", "_law_look_here"] (defScope s_law_reason) := ⟨rfl, rfl, rfl, by decide +kernel, rfl, by decide +kernel, by decide +kernel⟩
theorem v_law_reason_0 : Vis (defScope s_law_reason) "_law_told" := by first | exact Or.inl rfl | exact Or.inr (Or.inl rfl) | exact Or.inr (Or.inr rfl)
theorem l_law_reason_0 : Loc (defScope s_law_reason) "_law_told" := by first | exact Or.inl rfl | exact Or.inr rfl
theorem v_law_reason_1 : Vis (defScope s_law_reason) "_law_kinds_here" := by first | exact Or.inl rfl | exact Or.inr (Or.inl rfl) | exact Or.inr (Or.inr rfl)
theorem l_law_reason_1 : Loc (defScope s_law_reason) "_law_kinds_here" := by first | exact Or.inl rfl | exact Or.inr rfl
theorem v_law_reason_2 : Vis (defScope s_law_reason) "_law_look_here" := by first | exact Or.inl rfl | exact Or.inr (Or.inl rfl) | exact Or.inr (Or.inr rfl)
theorem l_law_reason_2 : Loc (defScope s_law_reason) "_law_look_here" := by first | exact Or.inl rfl | exact Or.inr rfl
theorem v_law_reason_3 : Vis (defScope s_law_reason) "_law_places" := by first | exact Or.inl rfl | exact Or.inr (Or.inl rfl) | exact Or.inr (Or.inr rfl)
theorem l_law_reason_3 : Loc (defScope s_law_reason) "_law_places" := by first | exact Or.inl rfl | exact Or.inr rfl
theorem v_law_reason_4 : Vis (defScope s_law_reason) "_law_one" := by first | exact Or.inl rfl | exact Or.inr (Or.inl rfl) | exact Or.inr (Or.inr rfl)
theorem l_law_reason_4 : Loc (defScope s_law_reason) "_law_one" := by first | exact Or.inl rfl | exact Or.inr rfl
theorem v_law_reason_5 : Vis (defScope s_law_reason) "_law_other" := by first | exact Or.inl rfl | exact Or.inr (Or.inl rfl) | exact Or.inr (Or.inr rfl)
theorem l_law_reason_5 : Loc (defScope s_law_reason) "_law_other" := by first | exact Or.inl rfl | exact Or.inr rfl
theorem v_law_reason_6 : Vis (defScope s_law_reason) "_law_pair_here" := by first | exact Or.inl rfl | exact Or.inr (Or.inl rfl) | exact Or.inr (Or.inr rfl)
theorem l_law_reason_6 : Loc (defScope s_law_reason) "_law_pair_here" := by first | exact Or.inl rfl | exact Or.inr rfl
theorem g_law_reason__law_plain_claims : (defScope s_law_reason).names.lookup ("_law_plain_claims" : Str) = some .globalImplicit := by rfl
theorem g_law_reason_range : (defScope s_law_reason).names.lookup ("range" : Str) = some .globalImplicit := by rfl
theorem g_law_reason_len : (defScope s_law_reason).names.lookup ("len" : Str) = some .globalImplicit := by rfl
theorem g_law_reason__law_reason : (defScope s_law_reason).names.lookup ("_law_reason" : Str) = some .globalImplicit := by rfl
theorem g_law_reason__law_pair : (defScope s_law_reason).names.lookup ("_law_pair" : Str) = some .globalImplicit := by rfl
abbrev s_law_put : Stmt := top 34
theorem sc_law_put : FnScope ["_law_thing", "_law_cell_here"] ["_law_thing", "_law_cell_here"] (defScope s_law_put) := ⟨rfl, rfl, rfl, by decide +kernel, rfl, by decide +kernel, by decide +kernel⟩
theorem v_law_put_0 : Vis (defScope s_law_put) "_law_thing" := by first | exact Or.inl rfl | exact Or.inr (Or.inl rfl) | exact Or.inr (Or.inr rfl)
theorem l_law_put_0 : Loc (defScope s_law_put) "_law_thing" := by first | exact Or.inl rfl | exact Or.inr rfl
theorem v_law_put_1 : Vis (defScope s_law_put) "_law_cell_here" := by first | exact Or.inl rfl | exact Or.inr (Or.inl rfl) | exact Or.inr (Or.inr rfl)
theorem l_law_put_1 : Loc (defScope s_law_put) "_law_cell_here" := by first | exact Or.inl rfl | exact Or.inr rfl
theorem g_law_put_isinstance : (defScope s_law_put).names.lookup ("isinstance" : Str) = some .globalImplicit := by rfl
theorem g_law_put_bool : (defScope s_law_put).names.lookup ("bool" : Str) = some .globalImplicit := by rfl
theorem g_law_put_str : (defScope s_law_put).names.lookup ("str" : Str) = some .globalImplicit := by rfl
abbrev s_law_turned : Stmt := top 35
theorem sc_law_turned : FnScope ["_law_reason_here", "_law_cell_here", "_law_way"] ["_law_reason_here", "_law_cell_here"] (defScope s_law_turned) := ⟨rfl, rfl, rfl, by decide +kernel, rfl, by decide +kernel, by decide +kernel⟩
theorem v_law_turned_0 : Vis (defScope s_law_turned) "_law_reason_here" := by first | exact Or.inl rfl | exact Or.inr (Or.inl rfl) | exact Or.inr (Or.inr rfl)
theorem l_law_turned_0 : Loc (defScope s_law_turned) "_law_reason_here" := by first | exact Or.inl rfl | exact Or.inr rfl
theorem v_law_turned_1 : Vis (defScope s_law_turned) "_law_cell_here" := by first | exact Or.inl rfl | exact Or.inr (Or.inl rfl) | exact Or.inr (Or.inr rfl)
theorem l_law_turned_1 : Loc (defScope s_law_turned) "_law_cell_here" := by first | exact Or.inl rfl | exact Or.inr rfl
theorem v_law_turned_2 : Vis (defScope s_law_turned) "_law_way" := by first | exact Or.inl rfl | exact Or.inr (Or.inl rfl) | exact Or.inr (Or.inr rfl)
theorem l_law_turned_2 : Loc (defScope s_law_turned) "_law_way" := by first | exact Or.inl rfl | exact Or.inr rfl
theorem g_law_turned_list : (defScope s_law_turned).names.lookup ("list" : Str) = some .globalImplicit := by rfl
theorem g_law_turned_len : (defScope s_law_turned).names.lookup ("len" : Str) = some .globalImplicit := by rfl
abbrev s_law_spoilt : Stmt := top 36
theorem sc_law_spoilt : FnScope ["_law_reason_here", "_law_number", "_law_way", "_law_at", "_law_part"] ["_law_reason_here", "_law_number"] (defScope s_law_spoilt) := ⟨rfl, rfl, rfl, by decide +kernel, rfl, by decide +kernel, by decide +kernel⟩
theorem v_law_spoilt_0 : Vis (defScope s_law_spoilt) "_law_reason_here" := by first | exact Or.inl rfl | exact Or.inr (Or.inl rfl) | exact Or.inr (Or.inr rfl)
theorem l_law_spoilt_0 : Loc (defScope s_law_spoilt) "_law_reason_here" := by first | exact Or.inl rfl | exact Or.inr rfl
theorem v_law_spoilt_1 : Vis (defScope s_law_spoilt) "_law_number" := by first | exact Or.inl rfl | exact Or.inr (Or.inl rfl) | exact Or.inr (Or.inr rfl)
theorem l_law_spoilt_1 : Loc (defScope s_law_spoilt) "_law_number" := by first | exact Or.inl rfl | exact Or.inr rfl
theorem v_law_spoilt_2 : Vis (defScope s_law_spoilt) "_law_way" := by first | exact Or.inl rfl | exact Or.inr (Or.inl rfl) | exact Or.inr (Or.inr rfl)
theorem l_law_spoilt_2 : Loc (defScope s_law_spoilt) "_law_way" := by first | exact Or.inl rfl | exact Or.inr rfl
theorem v_law_spoilt_3 : Vis (defScope s_law_spoilt) "_law_at" := by first | exact Or.inl rfl | exact Or.inr (Or.inl rfl) | exact Or.inr (Or.inr rfl)
theorem l_law_spoilt_3 : Loc (defScope s_law_spoilt) "_law_at" := by first | exact Or.inl rfl | exact Or.inr rfl
theorem v_law_spoilt_4 : Vis (defScope s_law_spoilt) "_law_part" := by first | exact Or.inl rfl | exact Or.inr (Or.inl rfl) | exact Or.inr (Or.inr rfl)
theorem l_law_spoilt_4 : Loc (defScope s_law_spoilt) "_law_part" := by first | exact Or.inl rfl | exact Or.inr rfl
theorem g_law_spoilt__law_turned : (defScope s_law_spoilt).names.lookup ("_law_turned" : Str) = some .globalImplicit := by rfl
theorem g_law_spoilt_len : (defScope s_law_spoilt).names.lookup ("len" : Str) = some .globalImplicit := by rfl
theorem g_law_spoilt_isinstance : (defScope s_law_spoilt).names.lookup ("isinstance" : Str) = some .globalImplicit := by rfl
theorem g_law_spoilt_tuple : (defScope s_law_spoilt).names.lookup ("tuple" : Str) = some .globalImplicit := by rfl
theorem g_law_spoilt__law_spoilt : (defScope s_law_spoilt).names.lookup ("_law_spoilt" : Str) = some .globalImplicit := by rfl
theorem g_law_spoilt__law_put : (defScope s_law_spoilt).names.lookup ("_law_put" : Str) = some .globalImplicit := by rfl
abbrev s_law_wild : Stmt := top 37
theorem sc_law_wild : FnScope ["_law_told", "_law_number", "_law_many", "_law_truth", "_law_place", "_law_one", "_law_other", "_law_side"] ["_law_told", "_law_number", "_law_many"] (defScope s_law_wild) := ⟨rfl, rfl, rfl, by decide +kernel, rfl, by decide +kernel, by decide +kernel⟩
theorem v_law_wild_0 : Vis (defScope s_law_wild) "_law_told" := by first | exact Or.inl rfl | exact Or.inr (Or.inl rfl) | exact Or.inr (Or.inr rfl)
theorem l_law_wild_0 : Loc (defScope s_law_wild) "_law_told" := by first | exact Or.inl rfl | exact Or.inr rfl
theorem v_law_wild_1 : Vis (defScope s_law_wild) "_law_number" := by first | exact Or.inl rfl | exact Or.inr (Or.inl rfl) | exact Or.inr (Or.inr rfl)
theorem l_law_wild_1 : Loc (defScope s_law_wild) "_law_number" := by first | exact Or.inl rfl | exact Or.inr rfl
theorem v_law_wild_2 : Vis (defScope s_law_wild) "_law_many" := by first | exact Or.inl rfl | exact Or.inr (Or.inl rfl) | exact Or.inr (Or.inr rfl)
theorem l_law_wild_2 : Loc (defScope s_law_wild) "_law_many" := by first | exact Or.inl rfl | exact Or.inr rfl
theorem v_law_wild_3 : Vis (defScope s_law_wild) "_law_truth" := by first | exact Or.inl rfl | exact Or.inr (Or.inl rfl) | exact Or.inr (Or.inr rfl)
theorem l_law_wild_3 : Loc (defScope s_law_wild) "_law_truth" := by first | exact Or.inl rfl | exact Or.inr rfl
theorem v_law_wild_4 : Vis (defScope s_law_wild) "_law_place" := by first | exact Or.inl rfl | exact Or.inr (Or.inl rfl) | exact Or.inr (Or.inr rfl)
theorem l_law_wild_4 : Loc (defScope s_law_wild) "_law_place" := by first | exact Or.inl rfl | exact Or.inr rfl
theorem v_law_wild_5 : Vis (defScope s_law_wild) "_law_one" := by first | exact Or.inl rfl | exact Or.inr (Or.inl rfl) | exact Or.inr (Or.inr rfl)
theorem l_law_wild_5 : Loc (defScope s_law_wild) "_law_one" := by first | exact Or.inl rfl | exact Or.inr rfl
theorem v_law_wild_6 : Vis (defScope s_law_wild) "_law_other" := by first | exact Or.inl rfl | exact Or.inr (Or.inl rfl) | exact Or.inr (Or.inr rfl)
theorem l_law_wild_6 : Loc (defScope s_law_wild) "_law_other" := by first | exact Or.inl rfl | exact Or.inr rfl
theorem v_law_wild_7 : Vis (defScope s_law_wild) "_law_side" := by first | exact Or.inl rfl | exact Or.inr (Or.inl rfl) | exact Or.inr (Or.inr rfl)
theorem l_law_wild_7 : Loc (defScope s_law_wild) "_law_side" := by first | exact Or.inl rfl | exact Or.inr rfl
theorem g_law_wild__law_mix : (defScope s_law_wild).names.lookup ("_law_mix" : Str) = some .globalImplicit := by rfl
theorem g_law_wild_int : (defScope s_law_wild).names.lookup ("int" : Str) = some .globalImplicit := by rfl
theorem g_law_wild__law_wild : (defScope s_law_wild).names.lookup ("_law_wild" : Str) = some .globalImplicit := by rfl
theorem g_law_wild__law_pair : (defScope s_law_wild).names.lookup ("_law_pair" : Str) = some .globalImplicit := by rfl
abbrev s_law_good : Stmt := top 38
theorem sc_law_good : FnScope ["_law_told", "_law_kinds_here", "_law_look_here", "_law_reason_here", "_law_found", "_law_due"] ["_law_told", "_law_kinds_here", "_law_look_here", "_law_reason_here"] (defScope s_law_good) := ⟨rfl, rfl, rfl, by decide +kernel, rfl, by decide +kernel, by decide +kernel⟩
theorem v_law_good_0 : Vis (defScope s_law_good) "_law_told" := by first | exact Or.inl rfl | exact Or.inr (Or.inl rfl) | exact Or.inr (Or.inr rfl)
theorem l_law_good_0 : Loc (defScope s_law_good) "_law_told" := by first | exact Or.inl rfl | exact Or.inr rfl
theorem v_law_good_1 : Vis (defScope s_law_good) "_law_kinds_here" := by first | exact Or.inl rfl | exact Or.inr (Or.inl rfl) | exact Or.inr (Or.inr rfl)
theorem l_law_good_1 : Loc (defScope s_law_good) "_law_kinds_here" := by first | exact Or.inl rfl | exact Or.inr rfl
theorem v_law_good_2 : Vis (defScope s_law_good) "_law_look_here" := by first | exact Or.inl rfl | exact Or.inr (Or.inl rfl) | exact Or.inr (Or.inr rfl)
theorem l_law_good_2 : Loc (defScope s_law_good) "_law_look_here" := by first | exact Or.inl rfl | exact Or.inr rfl
theorem v_law_good_3 : Vis (defScope s_law_good) "_law_reason_here" := by first | exact Or.inl rfl | exact Or.inr (Or.inl rfl) | exact Or.inr (Or.inr rfl)
theorem l_law_good_3 : Loc (defScope s_law_good) "_law_reason_here" := by first | exact Or.inl rfl | exact Or.inr rfl
theorem v_law_good_4 : Vis (defScope s_law_good) "_law_found" := by first | exact Or.inl rfl | exact Or.inr (Or.inl rfl) | exact Or.inr (Or.inr rfl)
theorem l_law_good_4 : Loc (defScope s_law_good) "_law_found" := by first | exact Or.inl rfl | exact Or.inr rfl
theorem v_law_good_5 : Vis (defScope s_law_good) "_law_due" := by first | exact Or.inl rfl | exact Or.inr (Or.inl rfl) | exact Or.inr (Or.inr rfl)
theorem l_law_good_5 : Loc (defScope s_law_good) "_law_due" := by first | exact Or.inl rfl | exact Or.inr rfl
theorem g_law_good_truth_of : (defScope s_law_good).names.lookup ("truth_of" : Str) = some .globalImplicit := by rfl
theorem g_law_good_list : (defScope s_law_good).names.lookup ("list" : Str) = some .globalImplicit := by rfl
theorem g_law_good__law_reads : (defScope s_law_good).names.lookup ("_law_reads" : Str) = some .globalImplicit := by rfl
theorem g_law_good_isinstance : (defScope s_law_good).names.lookup ("isinstance" : Str) = some .globalImplicit := by rfl
theorem g_law_good_bool : (defScope s_law_good).names.lookup ("bool" : Str) = some .globalImplicit := by rfl
theorem g_law_good__law_claims : (defScope s_law_good).names.lookup ("_law_claims" : Str) = some .globalImplicit := by rfl
abbrev s_law : Stmt := top 39
theorem sc_law : FnScope ["_law_script", "_law_words_here", "_law_kinds_here", "_law_last", "_law_k", "_law_cell_here", "_law_told", "_law_look_here", "_law_right"] ["_law_script"] (defScope s_law) := ⟨rfl, rfl, rfl, by decide +kernel, rfl, by decide +kernel, by decide +kernel⟩
theorem v_law_0 : Vis (defScope s_law) "_law_script" := by first | exact Or.inl rfl | exact Or.inr (Or.inl rfl) | exact Or.inr (Or.inr rfl)
theorem l_law_0 : Loc (defScope s_law) "_law_script" := by first | exact Or.inl rfl | exact Or.inr rfl
theorem v_law_1 : Vis (defScope s_law) "_law_words_here" := by first | exact Or.inl rfl | exact Or.inr (Or.inl rfl) | exact Or.inr (Or.inr rfl)
theorem l_law_1 : Loc (defScope s_law) "_law_words_here" := by first | exact Or.inl rfl | exact Or.inr rfl
theorem v_law_2 : Vis (defScope s_law) "_law_kinds_here" := by first | exact Or.inl rfl | exact Or.inr (Or.inl rfl) | exact Or.inr (Or.inr rfl)
theorem l_law_2 : Loc (defScope s_law) "_law_kinds_here" := by first | exact Or.inl rfl | exact Or.inr rfl
theorem v_law_3 : Vis (defScope s_law) "_law_last" := by first | exact Or.inl rfl | exact Or.inr (Or.inl rfl) | exact Or.inr (Or.inr rfl)
theorem l_law_3 : Loc (defScope s_law) "_law_last" := by first | exact Or.inl rfl | exact Or.inr rfl
theorem v_law_4 : Vis (defScope s_law) "_law_k" := by first | exact Or.inl rfl | exact Or.inr (Or.inl rfl) | exact Or.inr (Or.inr rfl)
theorem l_law_4 : Loc (defScope s_law) "_law_k" := by first | exact Or.inl rfl | exact Or.inr rfl
theorem v_law_5 : Vis (defScope s_law) "_law_cell_here" := by first | exact Or.inl rfl | exact Or.inr (Or.inl rfl) | exact Or.inr (Or.inr rfl)
theorem l_law_5 : Loc (defScope s_law) "_law_cell_here" := by first | exact Or.inl rfl | exact Or.inr rfl
theorem v_law_6 : Vis (defScope s_law) "_law_told" := by first | exact Or.inl rfl | exact Or.inr (Or.inl rfl) | exact Or.inr (Or.inr rfl)
theorem l_law_6 : Loc (defScope s_law) "_law_told" := by first | exact Or.inl rfl | exact Or.inr rfl
theorem v_law_7 : Vis (defScope s_law) "_law_look_here" := by first | exact Or.inl rfl | exact Or.inr (Or.inl rfl) | exact Or.inr (Or.inr rfl)
theorem l_law_7 : Loc (defScope s_law) "_law_look_here" := by first | exact Or.inl rfl | exact Or.inr rfl
theorem v_law_8 : Vis (defScope s_law) "_law_right" := by first | exact Or.inl rfl | exact Or.inr (Or.inl rfl) | exact Or.inr (Or.inr rfl)
theorem l_law_8 : Loc (defScope s_law) "_law_right" := by first | exact Or.inl rfl | exact Or.inr rfl
theorem g_law__law_words : (defScope s_law).names.lookup ("_law_words" : Str) = some .globalImplicit := by rfl
theorem g_law__law_cell : (defScope s_law).names.lookup ("_law_cell" : Str) = some .globalImplicit := by rfl
theorem g_law__law_kinds : (defScope s_law).names.lookup ("_law_kinds" : Str) = some .globalImplicit := by rfl
theorem g_law_range : (defScope s_law).names.lookup ("range" : Str) = some .globalImplicit := by rfl
theorem g_law_max : (defScope s_law).names.lookup ("max" : Str) = some .globalImplicit := by rfl
theorem g_law_min : (defScope s_law).names.lookup ("min" : Str) = some .globalImplicit := by rfl
theorem g_law_len : (defScope s_law).names.lookup ("len" : Str) = some .globalImplicit := by rfl
theorem g_law__law_note : (defScope s_law).names.lookup ("_law_note" : Str) = some .globalImplicit := by rfl
theorem g_law__law_mix : (defScope s_law).names.lookup ("_law_mix" : Str) = some .globalImplicit := by rfl
theorem g_law__law_look : (defScope s_law).names.lookup ("_law_look" : Str) = some .globalImplicit := by rfl
theorem g_law__law_reason : (defScope s_law).names.lookup ("_law_reason" : Str) = some .globalImplicit := by rfl
theorem g_law__law_good : (defScope s_law).names.lookup ("_law_good" : Str) = some .globalImplicit := by rfl
theorem g_law__law_spoilt : (defScope s_law).names.lookup ("_law_spoilt" : Str) = some .globalImplicit := by rfl
theorem g_law__law_wild : (defScope s_law).names.lookup ("_law_wild" : Str) = some .globalImplicit := by rfl
theorem g_law_truth_of : (defScope s_law).names.lookup ("truth_of" : Str) = some .globalImplicit := by rfl
theorem g_law_list : (defScope s_law).names.lookup ("list" : Str) = some .globalImplicit := by rfl

def spCell (K : PySem.W.Frag) : Sp := fun vs H Q _ => ∃ (a : Addr) (ns : List Int) (k : Int), vs = [.ref a, .int k] ∧ SqL K H a (ns.map V.int) ∧ ns.length ≤ 63 ∧ 0 ≤ k ∧ k ≤ 1000 ∧ Q (.int (Mth.cell ns k)) H
theorem spCell_of {K : PySem.W.Frag} {H : Hp} {a : Addr} {ns : List Int} {k : Int} {Q : VK} {E : XK} (h : SqL K H a (ns.map V.int)) (hl : ns.length ≤ 63) (h0 : 0 ≤ k) (h1 : k ≤ 1000) (q : Q (.int (Mth.cell ns k)) H) : spCell K [.ref a, .int k] H Q E := ⟨a, ns, k, rfl, h, hl, h0, h1, q⟩
section
variable {P : Program} {w : World} {K : PySem.W.Frag} {mg : Str → Option Value} {base : Heap} {f : Addr} {fd : FuncData}
theorem ok_law_cell (F : Fun K "_law_cell" "_law_cell" s_law_cell f fd) (M : Mg mg) : FnOk P w K mg base CX0 1 f fd ["_law_script", "_law_k"] (spCell K) := by
  refine F.ok sc_law_cell (fun vs H Q E h => ?_) (fun cdv A outer s H vs Q E hr h => ?_)
  · obtain ⟨a, ns, k, rfl, _⟩ := h
    rfl
  obtain ⟨a, ns, k, rfl, hS, hl, h0, h1, q⟩ := h
  refine ⟨_, (@pss_cons _ _ _ _ _ (@ps_if _ _ _ _ _ _ _ _ (@pt_cmpR _ _ _ _ _ _ _ _ (@op_lt _) (@pe_var _ 1 _ _ rfl v_law_cell_1 dn__law_k dc__law_k) (@pe_callB _ _ _ _ _ _ _ _ _ call_len_seq g_law_cell_len M.m_len b_len (@pa_cons _ _ _ _ _ (@pe_var _ 0 _ _ rfl v_law_cell_0 dn__law_script dc__law_script) (@pa_nil _) (star1 rfl)) nn_len dn_len (star1 rfl) nost0) (nomark _)) (@pss_one _ _ _ (@ps_ret _ _ _ _ (@pe_op _ _ _ _ _ _ _ _ (@op_mod _) (@pe_ix _ _ _ _ _ _ _ (@ix_list _) (@pe_var _ 0 _ _ rfl v_law_cell_0 dn__law_script dc__law_script) (@pe_var _ 1 _ _ rfl v_law_cell_1 dn__law_k dc__law_k) (fun _ _ => rfl)) (@pe_op _ _ _ _ _ _ _ _ (@op_pow _) (@pe_int _ _ _ _) (@pe_int _ _ _ _))))) (@pss_nil _)) (@pss_cons _ _ _ _ _ (@ps_set _ _ 2 _ _ _ _ sc_law_cell.nd rfl l_law_cell_2 (@pe_op _ _ _ _ _ _ _ _ (@op_add _) (@pe_op _ _ _ _ _ _ _ _ (@op_mulB _) (@pe_int _ _ _ _) (@pe_var _ 1 _ _ rfl v_law_cell_1 dn__law_k dc__law_k)) (@pe_int _ _ _ _)) (swap1 rfl) (.inl rfl)) (@pss_cons _ _ _ _ _ (@ps_if _ _ _ _ _ _ _ _ (@pt_cmpR _ _ _ _ _ _ _ _ (@op_gt _) (@pe_callB _ _ _ _ _ _ _ _ _ call_len_seq g_law_cell_len M.m_len b_len (@pa_cons _ _ _ _ _ (@pe_var _ 0 _ _ rfl v_law_cell_0 dn__law_script dc__law_script) (@pa_nil _) (star1 rfl)) nn_len dn_len (star1 rfl) nost0) (@pe_int _ _ _ _) (nomark _)) (@pss_one _ _ _ (@ps_set _ _ 2 _ _ _ _ sc_law_cell.nd rfl l_law_cell_2 (@pe_op _ _ _ _ _ _ _ _ (@op_add _) (@pe_op _ _ _ _ _ _ _ _ (@op_mulB _) (@pe_op _ _ _ _ _ _ _ _ (@op_mod _) (@pe_ix _ _ _ _ _ _ _ (@ix_list _) (@pe_var _ 0 _ _ rfl v_law_cell_0 dn__law_script dc__law_script) (@pe_op _ _ _ _ _ _ _ _ (@op_mod _) (@pe_op _ _ _ _ _ _ _ _ (@op_mulB _) (@pe_var _ 1 _ _ rfl v_law_cell_1 dn__law_k dc__law_k) (@pe_int _ _ _ _)) (@pe_callB _ _ _ _ _ _ _ _ _ call_len_seq g_law_cell_len M.m_len b_len (@pa_cons _ _ _ _ _ (@pe_var _ 0 _ _ rfl v_law_cell_0 dn__law_script dc__law_script) (@pa_nil _) (star1 rfl)) nn_len dn_len (star1 rfl) nost0)) (fun _ _ => rfl)) (@pe_op _ _ _ _ _ _ _ _ (@op_pow _) (@pe_int _ _ _ _) (@pe_int _ _ _ _))) (@pe_int _ _ _ _)) (@pe_op _ _ _ _ _ _ _ _ (@op_mulB _) (@pe_op _ _ _ _ _ _ _ _ (@op_mulB _) (@pe_var _ 1 _ _ rfl v_law_cell_1 dn__law_k dc__law_k) (@pe_var _ 1 _ _ rfl v_law_cell_1 dn__law_k dc__law_k)) (@pe_int _ _ _ _))) (swap1 rfl) (.inl rfl))) (@pss_nil _)) (@pss_one _ _ _ (@ps_ret _ _ _ _ (@pe_op _ _ _ _ _ _ _ _ (@op_mod _) (@pe_op _ _ _ _ _ _ _ _ (@op_mulB _) (@pe_op _ _ _ _ _ _ _ _ (@op_mod _) (@pe_var _ 2 _ _ rfl v_law_cell_2 dn__law_number dc__law_number) (@pe_int _ _ _ _)) (@pe_int _ _ _ _)) (@pe_int _ _ _ _))))))), ?_⟩
  unfold Mth.cell at q
  simp only [slots, Option.getD_some, Option.getD_none, tSeq, tAsg, gName, tOp, tC, tVar, tCB, tCons, tNil, rI, rI0, tRet, tIfS, tTest, tNext, rIxL, Kd_non, Kd_bl, Kd_int, Kd_str, decide_true, decide_false, L2.start, cxK, Int.reduceToNat, List.map_cons, List.map_nil, List.length_cons, List.length_nil, Nat.reduceAdd, Nat.reduceSub, Nat.zero_add, List.replicate_succ, List.replicate_zero, List.cons_append, List.nil_append, List.append_nil, List.getElem?_cons_zero, List.getElem?_cons_succ, List.set_cons_zero, List.set_cons_succ, Option.some.injEq, V.int.injEq, V.bl.injEq, V.ref.injEq, V.str.injEq, V.ty.injEq, List.cons.injEq, exists_eq_left', exists_eq_left, exists_eq_right, exists_and_left, exists_and_right, and_true, true_and, and_assoc, exists_const, decide_eq_true_eq, Bool.not_eq_true', Bool.not_true, Bool.not_false, Bool.not_not, decide_eq_false_iff_not, ite_not, Bool.false_eq_true, if_true, if_false, reduceCtorEq, and_false, false_and, exists_false, or_false, false_or, ↓reduceIte, eq_self, reduceIte]
  refine ⟨_, .inl hS, ?_⟩
  rw [List.length_map]
  by_cases hk : k < (ns.length : Int)
  · rw [if_pos hk]
    rw [if_pos hk] at q
    refine ⟨_, hS, _, atI_map h0 hk, cpow, _, rfl, ten_pos _, q⟩
  · rw [if_neg hk]
    rw [if_neg hk] at q
    have kk : 0 ≤ k * k ∧ k * k ≤ 1000 * 1000 := ⟨Int.mul_nonneg h0 h0, Int.mul_le_mul h1 h1 h0 (by decide)⟩
    refine ⟨cmul (by decide) (by decide) (by omega) (by omega), _, .inl hS, ?_⟩
    rw [List.length_map]
    by_cases hp : 0 < (ns.length : Int)
    · rw [if_pos hp]
      rw [if_pos hp] at q
      have hm := Int.emod_nonneg (k * 7) (show (ns.length : Int) ≠ 0 by omega)
      have hm2 := Int.emod_lt_of_pos (k * 7) hp
      have e1 := Int.emod_nonneg (ns.getD (k * 7 % (ns.length : Int)).toNat 0) (show (10 ^ 60 : Int) ≠ 0 by decide)
      have e2 := Int.emod_lt_of_pos (ns.getD (k * 7 % (ns.length : Int)).toNat 0) (show (0 : Int) < 10 ^ 60 by decide)
      have f1 := Int.emod_nonneg (ns.getD (k * 7 % (ns.length : Int)).toNat 0 % 10 ^ 60 * 48271 + k * k * 69621) (show (2147483647 : Int) ≠ 0 by decide)
      have f2 := Int.emod_lt_of_pos (ns.getD (k * 7 % (ns.length : Int)).toNat 0 % 10 ^ 60 * 48271 + k * k * 69621) (show (0 : Int) < 2147483647 by decide)
      refine ⟨cmul (by omega) (by omega) (by decide) (by decide), _, .inl hS, by rw [List.length_map]; exact hp, _, hS, _, by rw [List.length_map]; exact atI_map hm hm2, cpow, _, rfl, ten_pos _, cmul (by omega) (by omega) (by decide) (by decide), cmul (by omega) (by omega) (by omega) (by omega), cmul (by omega) (by omega) (by decide) (by decide), by decide, cmul (by omega) (by omega) (by decide) (by decide), by decide, q⟩
    · rw [if_neg hp]
      rw [if_neg hp] at q
      have e1 := Int.emod_nonneg (7919 * k + 5) (show (2147483647 : Int) ≠ 0 by decide)
      have e2 := Int.emod_lt_of_pos (7919 * k + 5) (show (0 : Int) < 2147483647 by decide)
      exact ⟨by decide, cmul (by omega) (by omega) (by decide) (by decide), by decide, q⟩
end

theorem kd_same {K : PySem.W.Frag} {H H' : Hp} {v : V} {k : Kn} (e : Same H H') (h : Kd K H v k) : Kd K H' v k := by
  cases v with
  | ref a =>
    rcases h with ⟨z, xs, h⟩ | ⟨z, xs, h⟩ | ⟨z, h⟩
    · exact .inl ⟨z, xs, e.seq h⟩
    · exact .inr (.inl ⟨z, xs, Same.tup e h⟩)
    · exact .inr (.inr ⟨z, e _ _ h⟩)
  | _ => exact h

def nameB (cs : List Nat) : Bool := decide (1 ≤ cs.length ∧ cs.length ≤ 8) && cs.all isLow
abbrev asc (cs : List Nat) : Prop := cs.all (fun c => decide (c < 128)) = true
inductive NameV (K : PySem.W.Frag) (H : Hp) : V → Bool → Prop
  | no {v : V} {k : Kn} : Kd K H v k → k ≠ .str → NameV K H v false
  | txt {cs : List Nat} : asc cs → cs.length ≤ 1000 → NameV K H (.str (txt cs)) (nameB cs)
def spIsName (K : PySem.W.Frag) : Sp := fun vs H Q _ => ∃ v b, vs = [v] ∧ NameV K H v b ∧ ∀ H', Same H H' → Q (.bl b) H'
theorem isi_str_ne {k : Kn} (h : k ≠ .str) : isiB k .str = false := by
  cases k <;> first | rfl | exact absurd rfl h
theorem txt_len (cs : List Nat) : (txt cs).length = cs.length := List.size_toArray ..

inductive TpD (H : Hp) : List V → List (List V) → Prop
  | nil : TpD H [] []
  | cons {p : Addr} {r : List V} {xs : List V} {rs : List (List V)} : H p = some (.tup r) → TpD H xs rs → TpD H (.ref p :: xs) (r :: rs)
theorem TpD.same {H H' : Hp} {xs : List V} {rs : List (List V)} (h : TpD H xs rs) (e : Same H H') : TpD H' xs rs := by
  induction h with
  | nil => exact .nil
  | cons a _ ih => exact .cons (e _ _ a) ih
theorem TpD.upd {H : Hp} {l : Addr} {ys zs : List V} {xs : List V} {rs : List (List V)} (h : TpD H xs rs) (hl : H l = some (.lst ys)) : TpD (upd H l (.lst zs)) xs rs := by
  induction h with
  | nil => exact .nil
  | @cons p r xs rs a _ ih =>
    refine .cons ?_ ih
    have n : p ≠ l := fun e => by rw [e, hl] at a; cases a
    rw [upd_ne n]
    exact a
theorem TpD.snoc {H : Hp} {xs : List V} {rs : List (List V)} {p : Addr} {r : List V} (h : TpD H xs rs) (e : H p = some (.tup r)) : TpD H (xs ++ [.ref p]) (rs ++ [r]) := by
  induction h with
  | nil => exact .cons e .nil
  | cons a _ ih => exact .cons a ih
theorem TpD.length {H : Hp} {xs : List V} {rs : List (List V)} (h : TpD H xs rs) : xs.length = rs.length := by
  induction h with
  | nil => rfl
  | cons _ _ ih => rw [List.length_cons, List.length_cons, ih]
theorem TpD.at {H : Hp} {xs : List V} {rs : List (List V)} (h : TpD H xs rs) : ∀ {i : Nat} {r : List V}, rs[i]? = some r → ∃ p, xs[i]? = some (.ref p) ∧ H p = some (.tup r) := by
  induction h with
  | nil => intro i x e; simp at e
  | cons a _ ih =>
    intro i x e
    cases i with
    | zero => cases e; exact ⟨_, rfl, a⟩
    | succ i => exact ih e
abbrev Kd2 : Type := List Nat × List Nat
def kRow (k : Kd2) : List V := [.str (txt k.1), .str (txt k.2)]

abbrev lettersS : Str := "abcdefghijklmnopqrstuvwxyz"
theorem letters_at : ∀ r : Nat, r < 26 → lettersS.cps.toList[r]? = some (97 + r) := by decide +kernel
theorem low_of {r : Nat} (h : r < 26) : isLow (97 + r) = true := by
  unfold isLow
  rw [decide_eq_true (by omega), decide_eq_true (by omega)]
  rfl
def mix3 (n k m : Int) : Int := (n % 2147483647 + 1) * (16807 + 48271 * k * k) % 2147483629 * 69621 % 2147483587 % m
theorem mix3_in (n k : Int) {m : Int} (h : 0 < m) : 0 ≤ mix3 n k m ∧ mix3 n k m < m := ⟨Int.emod_nonneg _ (by omega), Int.emod_lt_of_pos _ h⟩
def spMix3 : Sp := fun vs H Q _ => ∃ n k m : Int, vs = [.int n, .int k, .int m] ∧ 0 ≤ k ∧ k ≤ 200 ∧ 0 < m ∧ Q (.int (mix3 n k m)) H
def spWords (K : PySem.W.Frag) : Sp := fun vs H Q _ => ∃ c : Int, vs = [.int c, .int 7] ∧ 0 ≤ c ∧ ∀ (l : Addr) (H' : Hp) (ws : List (List Nat)), Same H H' → H l = none → H' l = some (.lst (ws.map fun w => V.str (txt w))) → ws.length = 7 → (∀ w ∈ ws, nameB w = true) → Q (.ref l) H'
def spKinds3 (K : PySem.W.Frag) : Sp := fun vs H Q _ => ∃ (c : Int) (wl : Addr) (ws : List (List Nat)), vs = [.int c, .ref wl] ∧ 0 ≤ c ∧ H wl = some (.lst (ws.map fun w => V.str (txt w))) ∧ ws.length = 7 ∧ (∀ w ∈ ws, nameB w = true) ∧
  ∀ (l : Addr) (xs : List V) (ks : List Kd2) (H' : Hp), Same H H' → H l = none → H' l = some (.lst xs) → TpD H' xs (ks.map kRow) → 1 ≤ ks.length → ks.length ≤ 4 → (∀ k ∈ ks, nameB k.1 = true ∧ nameB k.2 = true) → Q (.ref l) H'
section
variable {P : Program} {w : World} {K : PySem.W.Frag} {mg : Str → Option Value} {base : Heap} {f : Addr} {fd : FuncData}
theorem ok_law_mix (F : Fun K "_law_mix" "_law_mix" s_law_mix f fd) (M : Mg mg) : FnOk P w K mg base CX0 1 f fd ["_law_number", "_law_k", "_law_many"] spMix3 := by
  refine F.ok sc_law_mix (fun vs H Q E h => ?_) (fun cdv A outer s H vs Q E hr h => ?_)
  · obtain ⟨n, k, m, rfl, _⟩ := h
    rfl
  obtain ⟨n, k, m, rfl, k0, k1, m0, q⟩ := h
  refine ⟨_, (@pss_cons _ _ _ _ _ (@ps_set _ _ 0 _ _ _ _ sc_law_mix.nd rfl l_law_mix_0 (@pe_op _ _ _ _ _ _ _ _ (@op_mod _) (@pe_op _ _ _ _ _ _ _ _ (@op_mulB _) (@pe_op _ _ _ _ _ _ _ _ (@op_add _) (@pe_op _ _ _ _ _ _ _ _ (@op_mod _) (@pe_var _ 0 _ _ rfl v_law_mix_0 dn__law_number dc__law_number) (@pe_int _ _ _ _)) (@pe_int _ _ _ _)) (@pe_op _ _ _ _ _ _ _ _ (@op_add _) (@pe_int _ _ _ _) (@pe_op _ _ _ _ _ _ _ _ (@op_mulB _) (@pe_op _ _ _ _ _ _ _ _ (@op_mulB _) (@pe_int _ _ _ _) (@pe_var _ 1 _ _ rfl v_law_mix_1 dn__law_k dc__law_k)) (@pe_var _ 1 _ _ rfl v_law_mix_1 dn__law_k dc__law_k)))) (@pe_int _ _ _ _)) (swap1 rfl) (.inl rfl)) (@pss_one _ _ _ (@ps_ret _ _ _ _ (@pe_op _ _ _ _ _ _ _ _ (@op_mod _) (@pe_op _ _ _ _ _ _ _ _ (@op_mod _) (@pe_op _ _ _ _ _ _ _ _ (@op_mulB _) (@pe_var _ 0 _ _ rfl v_law_mix_0 dn__law_number dc__law_number) (@pe_int _ _ _ _)) (@pe_int _ _ _ _)) (@pe_var _ 2 _ _ rfl v_law_mix_2 dn__law_many dc__law_many))))), ?_⟩
  simp only [slots, Option.getD_some, Option.getD_none, tSeq, tAsg, gName, tOp, tC, tVar, rI, rI0, tRet, Kd_non, Kd_bl, Kd_int, Kd_str, decide_true, decide_false, L2.start, cxK, Int.reduceToNat, List.map_cons, List.map_nil, List.length_cons, List.length_nil, Nat.reduceAdd, Nat.reduceSub, Nat.zero_add, List.replicate_succ, List.replicate_zero, List.cons_append, List.nil_append, List.append_nil, List.getElem?_cons_zero, List.getElem?_cons_succ, List.set_cons_zero, List.set_cons_succ, Option.some.injEq, V.int.injEq, V.bl.injEq, V.ref.injEq, V.str.injEq, V.ty.injEq, List.cons.injEq, exists_eq_left', exists_eq_left, exists_eq_right, exists_and_left, exists_and_right, and_true, true_and, and_assoc, exists_const, decide_eq_true_eq, Bool.not_eq_true', Bool.not_true, Bool.not_false, Bool.not_not, decide_eq_false_iff_not, ite_not, Bool.false_eq_true, if_true, if_false, reduceCtorEq, and_false, false_and, exists_false, or_false, false_or, ↓reduceIte, eq_self, reduceIte]
  have kk : 0 ≤ 48271 * k * k ∧ 48271 * k * k ≤ 48271 * 200 * 200 := ⟨Int.mul_nonneg (by omega) k0, Int.mul_le_mul (by omega) k1 k0 (by omega)⟩
  have e1 := Int.emod_nonneg n (show (2147483647 : Int) ≠ 0 by decide)
  have e2 := Int.emod_lt_of_pos n (show (0 : Int) < 2147483647 by decide)
  have f1 := Int.emod_nonneg ((n % 2147483647 + 1) * (16807 + 48271 * k * k)) (show (2147483629 : Int) ≠ 0 by decide)
  have f2 := Int.emod_lt_of_pos ((n % 2147483647 + 1) * (16807 + 48271 * k * k)) (show (0 : Int) < 2147483629 by decide)
  have big : (48271 * 200 * 200 + 2147483647 + 16807 : Int) ≤ 10 ^ 61 := by decide
  exact ⟨by decide, cmul (by decide) (by decide) (by omega) (by omega), cmul (by omega) (by omega) (by omega) (by omega), cmul (by omega) (by omega) (by omega) (by omega), by decide, cmul (by omega) (by omega) (by decide) (by decide), by decide, m0, q⟩
theorem ok_law_words (F : Fun K "_law_words" "_law_words" s_law_words f fd) (M : Mg mg) : FnOk P w K mg base CX0 1 f fd ["_law_cell_here", "_law_many"] (spWords K) := by
  refine F.ok sc_law_words (fun vs H Q E h => ?_) (fun cdv A outer s H vs Q E hr h => ?_)
  · obtain ⟨c, rfl, _⟩ := h
    rfl
  obtain ⟨c, rfl, c0, q⟩ := h
  refine ⟨_, (@pss_cons _ _ _ _ _ (@ps_set _ _ 2 _ _ _ _ sc_law_words.nd rfl l_law_words_2 (@pe_str _ _ _ _) (swap1 rfl) (.inl rfl)) (@pss_cons _ _ _ _ _ (@ps_set _ _ 3 _ _ _ _ sc_law_words.nd rfl l_law_words_3 (@pe_comp _ _ _ _ _ _ _ _ _ _ _ _ _ _ _ rfl (CompOk.make (N' := ["_law_cell_here", "_law_k"]) (ix := [0]) (nl := 1) (by rfl) (fm1 rfl fm0) (by rfl) (by decide +kernel) rfl (by decide +kernel) rfl (And.intro ⟨rfl, .inl rfl, .inl rfl⟩ True.intro)) (@pi_range1 _ _ _ _ _ _ g_law_words_range M.m_range (@pa_cons _ _ _ _ _ (@pe_int _ _ _ _) (@pa_nil _) (star1 rfl)) (star1' rfl)) (fun _ _ _ _ _ => (@pg_name _ _ 1 _ (show List.Nodup (["_law_cell_here", "_law_k"] : List Str) from by decide) rfl (Or.inl rfl) (by first | exact .inl rfl | exact .inr rfl | assumption))) (fun _ _ _ _ _ => (@pif_nil _)) (fun _ _ _ _ _ => (@pe_op _ _ _ _ _ _ _ _ (@op_mod _) (@pe_op _ _ _ _ _ _ _ _ (@op_add _) (@pe_op _ _ _ _ _ _ _ _ (@op_fdivB _) (@pe_op _ _ _ _ _ _ _ _ (@op_fdivB _) (@pv _ 0 _ _ (by rfl) (by first | exact Or.inl rfl | exact Or.inr (Or.inl rfl) | exact Or.inr (Or.inr rfl)) (by decide) (by decide)) (@pe_int _ _ _ _)) (@pe_op _ _ _ _ _ _ _ _ (@op_add _) (@pv _ 1 _ _ (by rfl) (by first | exact Or.inl rfl | exact Or.inr (Or.inl rfl) | exact Or.inr (Or.inr rfl)) (by decide) (by decide)) (@pe_int _ _ _ _))) (@pe_op _ _ _ _ _ _ _ _ (@op_mulB _) (@pv _ 1 _ _ (by rfl) (by first | exact Or.inl rfl | exact Or.inr (Or.inl rfl) | exact Or.inr (Or.inr rfl)) (by decide) (by decide)) (@pv _ 1 _ _ (by rfl) (by first | exact Or.inl rfl | exact Or.inr (Or.inl rfl) | exact Or.inr (Or.inr rfl)) (by decide) (by decide)))) (@pe_int _ _ _ _))) (by intro _; rfl)) (by rfl) (.inl rfl)) (@pss_cons _ _ _ _ _ (@ps_set _ _ 4 _ _ _ _ sc_law_words.nd rfl l_law_words_4 (@pe_op _ _ _ _ _ _ _ _ (@op_add _) (@pe_int _ _ _ _) (@pe_op _ _ _ _ _ _ _ _ (@op_mod _) (@pe_var _ 0 _ _ rfl v_law_words_0 dn__law_cell_here dc__law_cell_here) (@pe_int _ _ _ _))) (swap1 rfl) (.inl rfl)) (@pss_cons _ _ _ _ _ (@ps_set _ _ 5 _ _ _ _ sc_law_words.nd rfl l_law_words_5 (@pe_op _ _ _ _ _ _ _ _ (@op_mod _) (@pe_op _ _ _ _ _ _ _ _ (@op_fdivB _) (@pe_var _ 0 _ _ rfl v_law_words_0 dn__law_cell_here dc__law_cell_here) (@pe_int _ _ _ _)) (@pe_var _ 4 _ _ rfl v_law_words_4 dn__law_size dc__law_size)) (swap1 rfl) (.inl rfl)) (@pss_cons _ _ _ _ _ (@ps_set _ _ 6 _ _ _ _ sc_law_words.nd rfl l_law_words_6 (@pe_lst _ _ _ _ (@pa_nil _)) (swap1 rfl) (.inl rfl)) (@pss_cons _ _ _ _ _ (@ps_for _ _ _ _ _ _ _ _ PassesOwn.never rfl (@pi_range1 _ _ _ _ _ _ g_law_words_range M.m_range (@pa_cons _ _ _ _ _ (@pe_var _ 1 _ _ rfl v_law_words_1 dn__law_many dc__law_many) (@pa_nil _) (star1 rfl)) (star1' rfl)) (@pg_name _ _ 7 _ sc_law_words.nd rfl l_law_words_7 (.inl rfl)) (@pss_cons _ _ _ _ _ (@ps_set _ _ 8 _ _ _ _ sc_law_words.nd rfl l_law_words_8 (@pe_str _ _ _ _) (swap1 rfl) (.inl rfl)) (@pss_cons _ _ _ _ _ (@ps_for _ _ _ _ _ _ _ _ PassesOwn.never rfl (@pi_range1 _ _ _ _ _ _ g_law_words_range M.m_range (@pa_cons _ _ _ _ _ (@pe_var _ 4 _ _ rfl v_law_words_4 dn__law_size dc__law_size) (@pa_nil _) (star1 rfl)) (star1' rfl)) (@pg_name _ _ 9 _ sc_law_words.nd rfl l_law_words_9 (.inl rfl)) (@pss_one _ _ _ (@ps_set _ _ 8 _ _ _ _ sc_law_words.nd rfl l_law_words_8 (@pe_op _ _ _ _ _ _ _ _ op_catS (@pe_var _ 8 _ _ rfl v_law_words_8 dn__law_word dc__law_word) (@pe_ix _ _ _ _ _ _ _ ix_str (@pe_var _ 2 _ _ rfl v_law_words_2 dn__law_letters dc__law_letters) (@pe_op _ _ _ _ _ _ _ _ (@op_mod _) (@pe_op _ _ _ _ _ _ _ _ (@op_add _) (@pe_ix _ _ _ _ _ _ _ (@ix_list _) (@pe_var _ 3 _ _ rfl v_law_words_3 dn__law_base dc__law_base) (@pe_var _ 9 _ _ rfl v_law_words_9 dn__law_j dc__law_j) (fun _ _ => rfl)) (@pe_op _ _ _ _ _ _ _ _ (@op_mulB _) (@pe_var _ 7 _ _ rfl v_law_words_7 dn__law_k dc__law_k) (@pe_callTy _ _ _ _ _ _ _ _ _ call_int_bl g_law_words_int M.m_int b_int (@pa_cons _ _ _ _ _ (@pe_cmpR _ _ _ _ _ _ _ _ (@op_eq _) (@pe_var _ 9 _ _ rfl v_law_words_9 dn__law_j dc__law_j) (@pe_var _ 5 _ _ rfl v_law_words_5 dn__law_at dc__law_at) (nomark _)) (@pa_nil _) (star1 rfl)) nn_int dn_int (star1 rfl) nost0))) (@pe_int _ _ _ _)) (fun _ _ => rfl))) (swap1 rfl) (.inl rfl))) (by intro _; rfl)) (@pss_cons _ _ _ _ _ (@ps_if _ _ _ _ _ _ _ _ (@pt_cmpR _ _ _ _ _ _ _ _ (@op_eq _) (@pe_op _ _ _ _ _ _ _ _ (@op_mod _) (@pe_op _ _ _ _ _ _ _ _ (@op_fdivB _) (@pe_var _ 0 _ _ rfl v_law_words_0 dn__law_cell_here dc__law_cell_here) (@pe_int _ _ _ _)) (@pe_int _ _ _ _)) (@pe_int _ _ _ _) (nomark _)) (@pss_one _ _ _ (@ps_set _ _ 8 _ _ _ _ sc_law_words.nd rfl l_law_words_8 (@pe_bm _ _ _ _ _ _ _ _ _ _ _ _ PySem.F.plainAttrs_str PySem.F.slot_str_join PySem.F.type_str_join mt_join (@pe_str _ _ _ _) (@pa_cons _ _ _ _ _ (@pe_comp _ _ _ _ _ _ _ _ _ _ _ _ _ _ _ rfl (CompOk.make (N' := ["_law_letters", "_law_base", "_law_j"]) (ix := [2, 3]) (nl := 1) (by rfl) (fm1 rfl (fm1 rfl fm0)) (by rfl) (by decide +kernel) rfl (by decide +kernel) rfl (And.intro ⟨rfl, .inl rfl, .inl rfl⟩ (And.intro ⟨rfl, .inl rfl, .inl rfl⟩ True.intro))) (@pi_range1 _ _ _ _ _ _ g_law_words_range M.m_range (@pa_cons _ _ _ _ _ (@pe_op _ _ _ _ _ _ _ _ (@op_add _) (@pe_var _ 7 _ _ rfl v_law_words_7 dn__law_k dc__law_k) (@pe_int _ _ _ _)) (@pa_nil _) (star1 rfl)) (star1' rfl)) (fun _ _ _ _ _ => (@pg_name _ _ 2 _ (show List.Nodup (["_law_letters", "_law_base", "_law_j"] : List Str) from by decide) rfl (Or.inl rfl) (by first | exact .inl rfl | exact .inr rfl | assumption))) (fun _ _ _ _ _ => (@pif_nil _)) (fun _ _ _ _ _ => (@pe_ix _ _ _ _ _ _ _ ix_str (@pv _ 0 _ _ (by rfl) (by first | exact Or.inl rfl | exact Or.inr (Or.inl rfl) | exact Or.inr (Or.inr rfl)) (by decide) (by decide)) (@pe_ix _ _ _ _ _ _ _ (@ix_listK _ K rfl) (@pv _ 1 _ _ (by rfl) (by first | exact Or.inl rfl | exact Or.inr (Or.inl rfl) | exact Or.inr (Or.inr rfl)) (by decide) (by decide)) (@pv _ 2 _ _ (by rfl) (by first | exact Or.inl rfl | exact Or.inr (Or.inl rfl) | exact Or.inr (Or.inr rfl)) (by decide) (by decide)) (fun _ _ => rfl)) (fun _ _ => rfl))) (by intro _; rfl)) (@pa_nil _) (star1 rfl)) (by rfl) (by rfl) (by rfl) (by rfl) (by rfl)) (swap1 rfl) (.inl rfl))) (@pss_nil _)) (@pss_one _ _ _ (@ps_expr _ _ _ _ (@pe_bm _ _ _ _ _ _ _ _ _ _ _ _ PySem.F.plainAttrs_list PySem.F.slot_list_append PySem.F.type_list_append mt_append (@pe_var _ 6 _ _ rfl v_law_words_6 dn__law_words_here dc__law_words_here) (@pa_cons _ _ _ _ _ (@pe_var _ 8 _ _ rfl v_law_words_8 dn__law_word dc__law_word) (@pa_nil _) (star1 rfl)) (by rfl) (by rfl) (by rfl) (by rfl) (by rfl)) (swap1 rfl)))))) (by intro _; rfl)) (@pss_one _ _ _ (@ps_ret _ _ _ _ (@pe_var _ 6 _ _ rfl v_law_words_6 dn__law_words_here dc__law_words_here))))))))), ?_⟩
  simp only [rCatS, rJoin, tComp_eq, tComp1, slots, Option.getD_some, Option.getD_none, tYes, tSeq, tAsg, gName, tOp, tC, tVar, tCB, tCons, tNil, rI, rI0, tRet, tIfS, tTest, tDrop, tLst, tNext, tBM, rAppend, rEq, rIxL, rIxS, Kd_non, Kd_bl, Kd_int, Kd_str, sc_non_non, sc_non_int, sc_int_non, sc_non_bl, sc_bl_non, sc_non_str, sc_str_non, sc_int_int, sc_bl_bl, sc_str_str, sc_int_str, sc_str_int, sc_bl_str, sc_str_bl, decide_true, decide_false, tFor_eq, iRng1, L2.start, cxK, Int.reduceToNat, List.map_cons, List.map_nil, List.length_cons, List.length_nil, Nat.reduceAdd, Nat.reduceSub, Nat.zero_add, List.replicate_succ, List.replicate_zero, List.cons_append, List.nil_append, List.append_nil, List.getElem?_cons_zero, List.getElem?_cons_succ, List.set_cons_zero, List.set_cons_succ, Option.some.injEq, V.int.injEq, V.bl.injEq, V.ref.injEq, V.str.injEq, V.ty.injEq, List.cons.injEq, exists_eq_left', exists_eq_left, exists_eq_right, exists_and_left, exists_and_right, and_true, true_and, and_assoc, exists_const, decide_eq_true_eq, Bool.not_eq_true', Bool.not_true, Bool.not_false, Bool.not_not, decide_eq_false_iff_not, ite_not, Bool.false_eq_true, if_true, if_false, reduceCtorEq, and_false, false_and, exists_false, or_false, false_or, ↓reduceIte, eq_self, reduceIte]
  refine ⟨by decide, by decide, fun D hD => ?_⟩
  obtain ⟨Pc, hC⟩ : ∃ Pc : Nat → St → Hp → Prop, Pc = fun i τ H' => ∃ (z : Option V) (bs : List Int), H' D = some (.lst (bs.map V.int)) ∧ bs.length = i ∧ (∀ b ∈ bs, 0 ≤ b ∧ b < 26) ∧ Same H H' ∧ τ = [some (.int c), z] := ⟨_, rfl⟩
  refine compS_range Pc ?_ ?_ ?_
  · rw [hC]
    exact ⟨_, [], upd_same, rfl, (fun b hb => by cases hb), same_new hD _, rfl⟩
  · intro i τ H' R' hi h next
    rw [hC] at h
    obtain ⟨z, bs, d1, lb, b26, d2, rfl⟩ := h
    simp only [rCatS, rJoin, tComp_eq, tComp1, slots, Option.getD_some, Option.getD_none, tYes, tSeq, tAsg, gName, tOp, tC, tVar, tCB, tCons, tNil, rI, rI0, tRet, tIfS, tTest, tDrop, tLst, tNext, tBM, rAppend, rEq, rIxL, rIxS, Kd_non, Kd_bl, Kd_int, Kd_str, sc_non_non, sc_non_int, sc_int_non, sc_non_bl, sc_bl_non, sc_non_str, sc_str_non, sc_int_int, sc_bl_bl, sc_str_str, sc_int_str, sc_str_int, sc_bl_str, sc_str_bl, decide_true, decide_false, tFor_eq, iRng1, L2.start, cxK, Int.reduceToNat, List.map_cons, List.map_nil, List.length_cons, List.length_nil, Nat.reduceAdd, Nat.reduceSub, Nat.zero_add, List.replicate_succ, List.replicate_zero, List.cons_append, List.nil_append, List.append_nil, List.getElem?_cons_zero, List.getElem?_cons_succ, List.set_cons_zero, List.set_cons_succ, Option.some.injEq, V.int.injEq, V.bl.injEq, V.ref.injEq, V.str.injEq, V.ty.injEq, List.cons.injEq, exists_eq_left', exists_eq_left, exists_eq_right, exists_and_left, exists_and_right, and_true, true_and, and_assoc, exists_const, decide_eq_true_eq, Bool.not_eq_true', Bool.not_true, Bool.not_false, Bool.not_not, decide_eq_false_iff_not, ite_not, Bool.false_eq_true, if_true, if_false, reduceCtorEq, and_false, false_and, exists_false, or_false, false_or, ↓reduceIte, eq_self, reduceIte]
    have hi' : i < 8 := hi
    have e61 : (100 : Int) ≤ 10 ^ 61 := by decide
    refine ⟨cdiv (by decide) (by decide), cdiv (by omega) (by omega), cmul (by omega) (by omega) (by omega) (by omega), by decide, _, d1, by rw [List.length_map]; exact Nat.lt_of_lt_of_le (m := 64) (by omega) (by decide), next _ _ ?_⟩
    rw [hC]
    have r0 := Int.emod_nonneg (c / 8 / (0 + (i : Int) + 1) + (0 + (i : Int)) * (0 + (i : Int))) (show (26 : Int) ≠ 0 by decide)
    have r1 := Int.emod_lt_of_pos (c / 8 / (0 + (i : Int) + 1) + (0 + (i : Int)) * (0 + (i : Int))) (show (0 : Int) < 26 by decide)
    obtain ⟨bv, hbv⟩ : ∃ bv : Int, (c / 8 / (0 + (i : Int) + 1) + (0 + (i : Int)) * (0 + (i : Int))) % 26 = bv := ⟨_, rfl⟩
    rw [hbv] at r0 r1 ⊢
    refine ⟨_, bs ++ [bv], by rw [upd_same, List.map_append]; rfl, by rw [List.length_append, lb]; rfl, fun b hb => ?_, same_upd d2 hD _, rfl⟩
    rcases List.mem_append.mp hb with h | h
    · exact b26 b h
    · rw [List.mem_singleton.mp h]
      exact ⟨r0, r1⟩
  intro τ H1 h
  rw [hC] at h
  obtain ⟨z, bs, LB, lb, b26, S1, rfl⟩ := h
  clear hC Pc
  have lb8 : bs.length = 8 := lb
  obtain ⟨sz, hsz, sz1, sz8⟩ : ∃ sz : Nat, 1 + c % 8 = sz ∧ 1 ≤ sz ∧ sz ≤ 8 := ⟨(1 + c % 8).toNat, by omega, by omega, by omega⟩
  refine ⟨by decide, cdiv (by decide) (by decide), by omega, by decide, fun l hl => ⟨by decide, by decide, ?_⟩⟩
  rw [hsz]
  obtain ⟨at', hat⟩ : ∃ at' : Int, c / 8 % (sz : Int) = at' := ⟨_, rfl⟩
  rw [hat]
  obtain ⟨H2, g2, S2, LL⟩ : ∃ H2, H2 = upd H1 l (.lst []) ∧ Same H1 H2 ∧ H2 l = some (.lst []) := ⟨_, rfl, same_new hl _, upd_same⟩
  rw [← g2]
  clear g2
  have B : ∀ j : Nat, j < 8 → ∃ b : Nat, bs[j]? = some (b : Int) ∧ b < 26 := fun j hj => by
    have e := List.getElem?_eq_getElem (show j < bs.length by omega)
    have := b26 _ (List.getElem_mem (show j < bs.length by omega))
    exact ⟨(bs[j]'(by omega)).toNat, by rw [e]; congr 1; omega, by omega⟩
  obtain ⟨Pv, hP⟩ : ∃ Pv : Nat → St → Hp → Prop, Pv = fun k σ H' => ∃ (ws : List (List Nat)) (y7 y8 y9 : Option V), H' l = some (.lst (ws.map fun w => V.str (txt w))) ∧ ws.length = k ∧ (∀ w ∈ ws, nameB w = true) ∧ Same H1 H' ∧ σ = [some (V.int c), some (V.int 7), some (V.str lettersS), some (V.ref D), some (V.int sz), some (V.int at'), some (V.ref l), y7, y8, y9] := ⟨_, rfl⟩
  refine forW_range Pv ?_ ?_ ?_
  · rw [hP]
    exact ⟨[], _, _, _, LL, rfl, (fun w hw => by cases hw), S2, rfl⟩
  · intro k σ H' hk h
    rw [hP] at h
    obtain ⟨ws, y7, y8, y9, dl, lw, nw, e, rfl⟩ := h
    have hk' : k < 7 := hk
    simp only [rCatS, rJoin, tComp_eq, tComp1, slots, Option.getD_some, Option.getD_none, tYes, tSeq, tAsg, gName, tOp, tC, tVar, tCB, tCons, tNil, rI, rI0, tRet, tIfS, tTest, tDrop, tLst, tNext, tBM, rAppend, rEq, rIxL, rIxS, Kd_non, Kd_bl, Kd_int, Kd_str, sc_non_non, sc_non_int, sc_int_non, sc_non_bl, sc_bl_non, sc_non_str, sc_str_non, sc_int_int, sc_bl_bl, sc_str_str, sc_int_str, sc_str_int, sc_bl_str, sc_str_bl, decide_true, decide_false, tFor_eq, iRng1, L2.start, cxK, Int.reduceToNat, List.map_cons, List.map_nil, List.length_cons, List.length_nil, Nat.reduceAdd, Nat.reduceSub, Nat.zero_add, List.replicate_succ, List.replicate_zero, List.cons_append, List.nil_append, List.append_nil, List.getElem?_cons_zero, List.getElem?_cons_succ, List.set_cons_zero, List.set_cons_succ, Option.some.injEq, V.int.injEq, V.bl.injEq, V.ref.injEq, V.str.injEq, V.ty.injEq, List.cons.injEq, exists_eq_left', exists_eq_left, exists_eq_right, exists_and_left, exists_and_right, and_true, true_and, and_assoc, exists_const, decide_eq_true_eq, Bool.not_eq_true', Bool.not_true, Bool.not_false, Bool.not_not, decide_eq_false_iff_not, ite_not, Bool.false_eq_true, if_true, if_false, reduceCtorEq, and_false, false_and, exists_false, or_false, false_or, ↓reduceIte, eq_self, reduceIte]
    refine ⟨by omega, by omega, ?_⟩
    rw [Int.toNat_natCast]
    obtain ⟨Pw, hW⟩ : ∃ Pw : Nat → St → Hp → Prop, Pw = fun j σ H2 => ∃ (cs : List Nat) (y9 : Option V), cs.length = j ∧ cs.all isLow = true ∧ Same H' H2 ∧ σ = [some (V.int c), some (V.int 7), some (V.str lettersS), some (V.ref D), some (V.int sz), some (V.int at'), some (V.ref l), some (V.int (0 + k)), some (V.str (txt cs)), y9] := ⟨_, rfl⟩
    refine forW_range Pw ?_ ?_ ?_
    · rw [hW]
      exact ⟨[], _, rfl, rfl, Same.refl _, rfl⟩
    · intro j σ H2 hj h
      rw [hW] at h
      obtain ⟨cs, y9, lc, ac, e2, rfl⟩ := h
      obtain ⟨b, hb, b6⟩ := B j (by omega)
      simp only [rCatS, rJoin, tComp_eq, tComp1, slots, Option.getD_some, Option.getD_none, tYes, tSeq, tAsg, gName, tOp, tC, tVar, tCB, tCons, tNil, rI, rI0, tRet, tIfS, tTest, tDrop, tLst, tNext, tBM, rAppend, rEq, rIxL, rIxS, Kd_non, Kd_bl, Kd_int, Kd_str, sc_non_non, sc_non_int, sc_int_non, sc_non_bl, sc_bl_non, sc_non_str, sc_str_non, sc_int_int, sc_bl_bl, sc_str_str, sc_int_str, sc_str_int, sc_bl_str, sc_str_bl, decide_true, decide_false, tFor_eq, iRng1, L2.start, cxK, Int.reduceToNat, List.map_cons, List.map_nil, List.length_cons, List.length_nil, Nat.reduceAdd, Nat.reduceSub, Nat.zero_add, List.replicate_succ, List.replicate_zero, List.cons_append, List.nil_append, List.append_nil, List.getElem?_cons_zero, List.getElem?_cons_succ, List.set_cons_zero, List.set_cons_succ, Option.some.injEq, V.int.injEq, V.bl.injEq, V.ref.injEq, V.str.injEq, V.ty.injEq, List.cons.injEq, exists_eq_left', exists_eq_left, exists_eq_right, exists_and_left, exists_and_right, and_true, true_and, and_assoc, exists_const, decide_eq_true_eq, Bool.not_eq_true', Bool.not_true, Bool.not_false, Bool.not_not, decide_eq_false_iff_not, ite_not, Bool.false_eq_true, if_true, if_false, reduceCtorEq, and_false, false_and, exists_false, or_false, false_or, ↓reduceIte, eq_self, reduceIte]
      have LB2 := (e.trans e2) _ _ LB
      have aj : atI (bs.map V.int) (0 + (j : Int)) = some (.int (b : Int)) := by
        rw [Int.zero_add]
        exact atI_nat (by rw [List.getElem?_map, hb]; rfl)
      have e61 : (100 : Int) ≤ 10 ^ 61 := by decide
      have m0 := Int.emod_nonneg ((b : Int) + (0 + (k : Int)) * if 0 + (j : Int) = at' then 1 else 0) (show (26 : Int) ≠ 0 by decide)
      have m1 := Int.emod_lt_of_pos ((b : Int) + (0 + (k : Int)) * if 0 + (j : Int) = at' then 1 else 0) (show (0 : Int) < 26 by decide)
      obtain ⟨r, hr', r6⟩ : ∃ r : Nat, ((b : Int) + (0 + (k : Int)) * if 0 + (j : Int) = at' then 1 else 0) % 26 = r ∧ r < 26 := ⟨(((b : Int) + (0 + (k : Int)) * if 0 + (j : Int) = at' then 1 else 0) % 26).toNat, by omega, by omega⟩
      refine ⟨_, SqL.of LB2, _, aj, cmul (by omega) (by omega) (by split <;> omega) (by split <;> omega), _, rfl, by decide, by decide, 97 + r, (by rw [hr']; exact atI_nat (letters_at r r6)), _, rfl, [97 + r], rfl, by show _ + 1 ≤ 1000; omega, ?_⟩
      rw [hW]
      refine ⟨cs ++ [97 + r], _, by rw [List.length_append, lc]; rfl, ?_, e2, rfl⟩
      rw [List.all_append, ac, List.all_cons, low_of r6]
      rfl
    intro σ H2 h
    rw [hW] at h
    obtain ⟨cs, y9, lc, ac, e2, rfl⟩ := h
    clear hW Pw
    have nn : nameB cs = true := by
      unfold nameB
      rw [decide_eq_true (by omega), ac]
      rfl
    simp only [rCatS, rJoin, tComp_eq, tComp1, slots, Option.getD_some, Option.getD_none, tYes, tSeq, tAsg, gName, tOp, tC, tVar, tCB, tCons, tNil, rI, rI0, tRet, tIfS, tTest, tDrop, tLst, tNext, tBM, rAppend, rEq, rIxL, rIxS, Kd_non, Kd_bl, Kd_int, Kd_str, sc_non_non, sc_non_int, sc_int_non, sc_non_bl, sc_bl_non, sc_non_str, sc_str_non, sc_int_int, sc_bl_bl, sc_str_str, sc_int_str, sc_str_int, sc_bl_str, sc_str_bl, decide_true, decide_false, tFor_eq, iRng1, L2.start, cxK, Int.reduceToNat, List.map_cons, List.map_nil, List.length_cons, List.length_nil, Nat.reduceAdd, Nat.reduceSub, Nat.zero_add, List.replicate_succ, List.replicate_zero, List.cons_append, List.nil_append, List.append_nil, List.getElem?_cons_zero, List.getElem?_cons_succ, List.set_cons_zero, List.set_cons_succ, Option.some.injEq, V.int.injEq, V.bl.injEq, V.ref.injEq, V.str.injEq, V.ty.injEq, List.cons.injEq, exists_eq_left', exists_eq_left, exists_eq_right, exists_and_left, exists_and_right, and_true, true_and, and_assoc, exists_const, decide_eq_true_eq, Bool.not_eq_true', Bool.not_true, Bool.not_false, Bool.not_not, decide_eq_false_iff_not, ite_not, Bool.false_eq_true, if_true, if_false, reduceCtorEq, and_false, false_and, exists_false, or_false, false_or, ↓reduceIte, eq_self, reduceIte]
    refine ⟨cdiv (by decide) (by decide), by decide, ?_⟩
    have dl2 := e2 _ _ dl
    have lenw : (ws.map fun w => V.str (txt w)).length < sizeLine := by
      rw [List.length_map]
      exact Nat.lt_of_lt_of_le (m := 64) (by omega) (by decide)
    by_cases h64 : c / 64 % 4 = 1
    · rw [if_pos h64]
      refine ⟨rfl, by omega, by omega, fun D2 hD2 => ?_⟩
      have ek : (0 + (k : Int) + 1).toNat = k + 1 := by omega
      rw [ek]
      obtain ⟨Pd, hQ⟩ : ∃ Pd : Nat → St → Hp → Prop, Pd = fun j τ H3 => ∃ (z : Option V) (ds : List Nat), H3 D2 = some (.lst (ds.map sgn)) ∧ ds.length = j ∧ ds.all isLow = true ∧ Same H2 H3 ∧ τ = [some (.str lettersS), some (.ref D), z] := ⟨_, rfl⟩
      refine compS_range Pd ?_ ?_ ?_
      · rw [hQ]
        exact ⟨_, [], upd_same, rfl, rfl, same_new hD2 _, rfl⟩
      · intro j τ H3 R' hj h next
        rw [hQ] at h
        obtain ⟨z, ds, c1, ld, ad, c2, rfl⟩ := h
        obtain ⟨b, hb, b6⟩ := B j (by omega)
        have LB3 := (e.trans (e2.trans c2)) _ _ LB
        have aj : atI (bs.map V.int) (0 + (j : Int)) = some (.int (b : Int)) := by
          rw [Int.zero_add]
          exact atI_nat (by rw [List.getElem?_map, hb]; rfl)
        simp only [rCatS, rJoin, tComp_eq, tComp1, slots, Option.getD_some, Option.getD_none, tYes, tSeq, tAsg, gName, tOp, tC, tVar, tCB, tCons, tNil, rI, rI0, tRet, tIfS, tTest, tDrop, tLst, tNext, tBM, rAppend, rEq, rIxL, rIxS, Kd_non, Kd_bl, Kd_int, Kd_str, sc_non_non, sc_non_int, sc_int_non, sc_non_bl, sc_bl_non, sc_non_str, sc_str_non, sc_int_int, sc_bl_bl, sc_str_str, sc_int_str, sc_str_int, sc_bl_str, sc_str_bl, decide_true, decide_false, tFor_eq, iRng1, L2.start, cxK, Int.reduceToNat, List.map_cons, List.map_nil, List.length_cons, List.length_nil, Nat.reduceAdd, Nat.reduceSub, Nat.zero_add, List.replicate_succ, List.replicate_zero, List.cons_append, List.nil_append, List.append_nil, List.getElem?_cons_zero, List.getElem?_cons_succ, List.set_cons_zero, List.set_cons_succ, Option.some.injEq, V.int.injEq, V.bl.injEq, V.ref.injEq, V.str.injEq, V.ty.injEq, List.cons.injEq, exists_eq_left', exists_eq_left, exists_eq_right, exists_and_left, exists_and_right, and_true, true_and, and_assoc, exists_const, decide_eq_true_eq, Bool.not_eq_true', Bool.not_true, Bool.not_false, Bool.not_not, decide_eq_false_iff_not, ite_not, Bool.false_eq_true, if_true, if_false, reduceCtorEq, and_false, false_and, exists_false, or_false, false_or, ↓reduceIte, eq_self, reduceIte]
        refine ⟨_, SqL.of LB3, _, aj, _, rfl, by decide, 97 + b, atI_nat (letters_at b b6), _, c1, by rw [List.length_map]; exact Nat.lt_of_lt_of_le (m := 64) (by omega) (by decide), next _ _ ?_⟩
        rw [hQ]
        refine ⟨_, ds ++ [97 + b], ?_, by rw [List.length_append, ld]; rfl, ?_, same_upd c2 hD2 _, rfl⟩
        · rw [upd_same, List.map_append]
          rfl
        · rw [List.all_append, ad, List.all_cons, low_of b6]
          rfl
      intro τ H3 h
      rw [hQ] at h
      obtain ⟨z, ds, c1, ld, ad, c2, rfl⟩ := h
      have nd : nameB ds = true := by
        unfold nameB
        rw [decide_eq_true (by omega), ad]
        rfl
      refine ⟨_, rfl, ds, SqL.of c1, by omega, .inl ⟨rfl, _, SqL.of (c2 _ _ dl2)⟩, _, c2 _ _ dl2, lenw, ?_⟩
      rw [hP]
      refine ⟨ws ++ [ds], _, _, _, by rw [upd_same, List.map_append]; rfl, by rw [List.length_append, lw]; rfl, fun w hw => ?_, same_upd (e.trans (e2.trans c2)) hl _, rfl⟩
      rcases List.mem_append.mp hw with h | h
      · exact nw w h
      · rw [List.mem_singleton.mp h]
        exact nd
    · rw [if_neg h64]
      refine ⟨.inl ⟨rfl, _, SqL.of dl2⟩, _, dl2, lenw, ?_⟩
      rw [hP]
      refine ⟨ws ++ [cs], _, _, _, by rw [upd_same, List.map_append]; rfl, by rw [List.length_append, lw]; rfl, fun w hw => ?_, same_upd (e.trans e2) hl _, rfl⟩
      rcases List.mem_append.mp hw with h | h
      · exact nw w h
      · rw [List.mem_singleton.mp h]
        exact nn
  · intro σ H' h
    rw [hP] at h
    obtain ⟨ws, y7, y8, y9, dl, lw, nw, e, rfl⟩ := h
    simp only [rCatS, rJoin, tComp_eq, tComp1, slots, Option.getD_some, Option.getD_none, tYes, tSeq, tAsg, gName, tOp, tC, tVar, tCB, tCons, tNil, rI, rI0, tRet, tIfS, tTest, tDrop, tLst, tNext, tBM, rAppend, rEq, rIxL, rIxS, Kd_non, Kd_bl, Kd_int, Kd_str, sc_non_non, sc_non_int, sc_int_non, sc_non_bl, sc_bl_non, sc_non_str, sc_str_non, sc_int_int, sc_bl_bl, sc_str_str, sc_int_str, sc_str_int, sc_bl_str, sc_str_bl, decide_true, decide_false, tFor_eq, iRng1, L2.start, cxK, Int.reduceToNat, List.map_cons, List.map_nil, List.length_cons, List.length_nil, Nat.reduceAdd, Nat.reduceSub, Nat.zero_add, List.replicate_succ, List.replicate_zero, List.cons_append, List.nil_append, List.append_nil, List.getElem?_cons_zero, List.getElem?_cons_succ, List.set_cons_zero, List.set_cons_succ, Option.some.injEq, V.int.injEq, V.bl.injEq, V.ref.injEq, V.str.injEq, V.ty.injEq, List.cons.injEq, exists_eq_left', exists_eq_left, exists_eq_right, exists_and_left, exists_and_right, and_true, true_and, and_assoc, exists_const, decide_eq_true_eq, Bool.not_eq_true', Bool.not_true, Bool.not_false, Bool.not_not, decide_eq_false_iff_not, ite_not, Bool.false_eq_true, if_true, if_false, reduceCtorEq, and_false, false_and, exists_false, or_false, false_or, ↓reduceIte, eq_self, reduceIte]
    exact q _ _ ws (S1.trans e) (S1.free hl) dl lw nw
theorem ok_law_kinds (F : Fun K "_law_kinds" "_law_kinds" s_law_kinds f fd) (M : Mg mg) : FnOk P w K mg base CX0 1 f fd ["_law_cell_here", "_law_words_here"] (spKinds3 K) := by
  refine F.ok sc_law_kinds (fun vs H Q E h => ?_) (fun cdv A outer s H vs Q E hr h => ?_)
  · obtain ⟨c, wl, ws, rfl, _⟩ := h
    rfl
  obtain ⟨c, wl, ws, rfl, c0, LW, lw, nw, q⟩ := h
  refine ⟨_, (@pss_cons _ _ _ _ _ (@ps_set _ _ 2 _ _ _ _ sc_law_kinds.nd rfl l_law_kinds_2 (@pe_menu _ _ _ _ _ _ _ (@pa_cons _ _ _ _ _ (@pe_int _ _ _ _) (@pa_cons _ _ _ _ _ (@pe_int _ _ _ _) (@pa_cons _ _ _ _ _ (@pe_int _ _ _ _) (@pa_cons _ _ _ _ _ (@pe_int _ _ _ _) (@pa_cons _ _ _ _ _ (@pe_int _ _ _ _) (@pa_cons _ _ _ _ _ (@pe_int _ _ _ _) (@pa_cons _ _ _ _ _ (@pe_int _ _ _ _) (@pa_cons _ _ _ _ _ (@pe_int _ _ _ _) (@pa_cons _ _ _ _ _ (@pe_int _ _ _ _) (@pa_cons _ _ _ _ _ (@pe_int _ _ _ _) (@pa_cons _ _ _ _ _ (@pe_int _ _ _ _) (@pa_nil _) (star1 rfl)) (star1 rfl)) (star1 rfl)) (star1 rfl)) (star1 rfl)) (star1 rfl)) (star1 rfl)) (star1 rfl)) (star1 rfl)) (star1 rfl)) (star1 rfl)) (@pe_op _ _ _ _ _ _ _ _ (@op_mod _) (@pe_var _ 0 _ _ rfl v_law_kinds_0 dn__law_cell_here dc__law_cell_here) (@pe_int _ _ _ _)) (fun _ _ => rfl)) (swap1 rfl) (.inl rfl)) (@pss_cons _ _ _ _ _ (@ps_set _ _ 3 _ _ _ _ sc_law_kinds.nd rfl l_law_kinds_3 (@pe_menu _ _ _ _ _ _ _ (@pa_cons _ _ _ _ _ (@pe_int _ _ _ _) (@pa_cons _ _ _ _ _ (@pe_int _ _ _ _) (@pa_cons _ _ _ _ _ (@pe_int _ _ _ _) (@pa_cons _ _ _ _ _ (@pe_int _ _ _ _) (@pa_cons _ _ _ _ _ (@pe_int _ _ _ _) (@pa_cons _ _ _ _ _ (@pe_int _ _ _ _) (@pa_nil _) (star1 rfl)) (star1 rfl)) (star1 rfl)) (star1 rfl)) (star1 rfl)) (star1 rfl)) (@pe_op _ _ _ _ _ _ _ _ (@op_mod _) (@pe_op _ _ _ _ _ _ _ _ (@op_fdivB _) (@pe_var _ 0 _ _ rfl v_law_kinds_0 dn__law_cell_here dc__law_cell_here) (@pe_int _ _ _ _)) (@pe_int _ _ _ _)) (fun _ _ => rfl)) (swap1 rfl) (.inl rfl)) (@pss_cons _ _ _ _ _ (@ps_set _ _ 4 _ _ _ _ sc_law_kinds.nd rfl l_law_kinds_4 (@pe_menu _ _ _ _ _ _ _ (@pa_cons _ _ _ _ _ (@pe_int _ _ _ _) (@pa_cons _ _ _ _ _ (@pe_int _ _ _ _) (@pa_cons _ _ _ _ _ (@pe_int _ _ _ _) (@pa_nil _) (star1 rfl)) (star1 rfl)) (star1 rfl)) (@pe_op _ _ _ _ _ _ _ _ (@op_mod _) (@pe_op _ _ _ _ _ _ _ _ (@op_fdivB _) (@pe_var _ 0 _ _ rfl v_law_kinds_0 dn__law_cell_here dc__law_cell_here) (@pe_int _ _ _ _)) (@pe_int _ _ _ _)) (fun _ _ => rfl)) (swap1 rfl) (.inl rfl)) (@pss_cons _ _ _ _ _ (@ps_set _ _ 5 _ _ _ _ sc_law_kinds.nd rfl l_law_kinds_5 (@pe_lst _ _ _ _ (@pa_nil _)) (swap1 rfl) (.inl rfl)) (@pss_cons _ _ _ _ _ (@ps_for _ _ _ _ _ _ _ _ PassesOwn.never rfl (@pi_range1 _ _ _ _ _ _ g_law_kinds_range M.m_range (@pa_cons _ _ _ _ _ (@pe_var _ 2 _ _ rfl v_law_kinds_2 dn__law_many dc__law_many) (@pa_nil _) (star1 rfl)) (star1' rfl)) (@pg_name _ _ 6 _ sc_law_kinds.nd rfl l_law_kinds_6 (.inl rfl)) (@pss_cons _ _ _ _ _ (@ps_set _ _ 7 _ _ _ _ sc_law_kinds.nd rfl l_law_kinds_7 (@pe_op _ _ _ _ _ _ _ _ (@op_mod _) (@pe_op _ _ _ _ _ _ _ _ (@op_add _) (@pe_op _ _ _ _ _ _ _ _ (@op_fdivB _) (@pe_var _ 0 _ _ rfl v_law_kinds_0 dn__law_cell_here dc__law_cell_here) (@pe_int _ _ _ _)) (@pe_op _ _ _ _ _ _ _ _ (@op_mulB _) (@pe_var _ 6 _ _ rfl v_law_kinds_6 dn__law_k dc__law_k) (@pe_var _ 3 _ _ rfl v_law_kinds_3 dn__law_step dc__law_step))) (@pe_int _ _ _ _)) (swap1 rfl) (.inl rfl)) (@pss_one _ _ _ (@ps_expr _ _ _ _ (@pe_bm _ _ _ _ _ _ _ _ _ _ _ _ PySem.F.plainAttrs_list PySem.F.slot_list_append PySem.F.type_list_append mt_append (@pe_var _ 5 _ _ rfl v_law_kinds_5 dn__law_kinds_here dc__law_kinds_here) (@pa_cons _ _ _ _ _ (@pe_tup _ _ _ _ _ (@pa_cons _ _ _ _ _ (@pe_ix _ _ _ _ _ _ _ (@ix_list _) (@pe_var _ 1 _ _ rfl v_law_kinds_1 dn__law_words_here dc__law_words_here) (@pe_op _ _ _ _ _ _ _ _ (@op_mod _) (@pe_var _ 7 _ _ rfl v_law_kinds_7 dn__law_place dc__law_place) (@pe_int _ _ _ _)) (fun _ _ => rfl)) (@pa_cons _ _ _ _ _ (@pe_ix _ _ _ _ _ _ _ (@ix_list _) (@pe_var _ 1 _ _ rfl v_law_kinds_1 dn__law_words_here dc__law_words_here) (@pe_op _ _ _ _ _ _ _ _ (@op_add _) (@pe_var _ 4 _ _ rfl v_law_kinds_4 dn__law_shift dc__law_shift) (@pe_op _ _ _ _ _ _ _ _ (@op_fdivB _) (@pe_var _ 7 _ _ rfl v_law_kinds_7 dn__law_place dc__law_place) (@pe_int _ _ _ _))) (fun _ _ => rfl)) (@pa_nil _) (star1 rfl)) (star1 rfl))) (@pa_nil _) (star1 rfl)) (by rfl) (by rfl) (by rfl) (by rfl) (by rfl)) (swap1 rfl)))) (by intro _; rfl)) (@pss_one _ _ _ (@ps_ret _ _ _ _ (@pe_var _ 5 _ _ rfl v_law_kinds_5 dn__law_kinds_here dc__law_kinds_here)))))))), ?_⟩
  simp only [slots, Option.getD_some, Option.getD_none, tSeq, tAsg, gName, tOp, tC, tVar, tCons, tNil, rI, rI0, tRet, tMenu, tDrop, tTup, tLst, tBM, rAppend, rIxL, Kd_non, Kd_bl, Kd_int, Kd_str, decide_true, decide_false, tFor_eq, iRng1, L2.start, cxK, Int.reduceToNat, List.map_cons, List.map_nil, List.length_cons, List.length_nil, Nat.reduceAdd, Nat.reduceSub, Nat.zero_add, List.replicate_succ, List.replicate_zero, List.cons_append, List.nil_append, List.append_nil, List.getElem?_cons_zero, List.getElem?_cons_succ, List.set_cons_zero, List.set_cons_succ, Option.some.injEq, V.int.injEq, V.bl.injEq, V.ref.injEq, V.str.injEq, V.ty.injEq, List.cons.injEq, exists_eq_left', exists_eq_left, exists_eq_right, exists_and_left, exists_and_right, and_true, true_and, and_assoc, exists_const, decide_eq_true_eq, Bool.not_eq_true', Bool.not_true, Bool.not_false, Bool.not_not, decide_eq_false_iff_not, ite_not, Bool.false_eq_true, if_true, if_false, reduceCtorEq, and_false, false_and, exists_false, or_false, false_or, ↓reduceIte, eq_self, reduceIte]
  obtain ⟨mv, hmv, m1, m4⟩ : ∃ mv : Nat, [V.int 2, V.int 3, V.int 1, V.int 2, V.int 3, V.int 2, V.int 3, V.int 2, V.int 3, V.int 4, V.int 3][(c % 11).toNat]? = some (.int (mv : Int)) ∧ 1 ≤ mv ∧ mv ≤ 4 := by
    have : c % 11 = 0 ∨ c % 11 = 1 ∨ c % 11 = 2 ∨ c % 11 = 3 ∨ c % 11 = 4 ∨ c % 11 = 5 ∨ c % 11 = 6 ∨ c % 11 = 7 ∨ c % 11 = 8 ∨ c % 11 = 9 ∨ c % 11 = 10 := by omega
    rcases this with e | e | e | e | e | e | e | e | e | e | e <;> rw [e]
    · exact ⟨2, rfl, by decide, by decide⟩
    · exact ⟨3, rfl, by decide, by decide⟩
    · exact ⟨1, rfl, by decide, by decide⟩
    · exact ⟨2, rfl, by decide, by decide⟩
    · exact ⟨3, rfl, by decide, by decide⟩
    · exact ⟨2, rfl, by decide, by decide⟩
    · exact ⟨3, rfl, by decide, by decide⟩
    · exact ⟨2, rfl, by decide, by decide⟩
    · exact ⟨3, rfl, by decide, by decide⟩
    · exact ⟨4, rfl, by decide, by decide⟩
    · exact ⟨3, rfl, by decide, by decide⟩
  obtain ⟨st, hst, s1, s8⟩ : ∃ st : Int, [V.int 1, V.int 2, V.int 4, V.int 5, V.int 7, V.int 8][(c / 11 % 6).toNat]? = some (.int st) ∧ 1 ≤ st ∧ st ≤ 8 := by
    have : c / 11 % 6 = 0 ∨ c / 11 % 6 = 1 ∨ c / 11 % 6 = 2 ∨ c / 11 % 6 = 3 ∨ c / 11 % 6 = 4 ∨ c / 11 % 6 = 5 := by omega
    rcases this with e | e | e | e | e | e <;> rw [e]
    · exact ⟨1, rfl, by decide, by decide⟩
    · exact ⟨2, rfl, by decide, by decide⟩
    · exact ⟨4, rfl, by decide, by decide⟩
    · exact ⟨5, rfl, by decide, by decide⟩
    · exact ⟨7, rfl, by decide, by decide⟩
    · exact ⟨8, rfl, by decide, by decide⟩
  obtain ⟨sf, hsf, f0, f3⟩ : ∃ sf : Int, [V.int 3, V.int 3, V.int 0][(c / 66 % 3).toNat]? = some (.int sf) ∧ 0 ≤ sf ∧ sf ≤ 3 := by
    have : c / 66 % 3 = 0 ∨ c / 66 % 3 = 1 ∨ c / 66 % 3 = 2 := by omega
    rcases this with e | e | e <;> rw [e]
    · exact ⟨3, rfl, by decide, by decide⟩
    · exact ⟨3, rfl, by decide, by decide⟩
    · exact ⟨0, rfl, by decide, by decide⟩
  refine ⟨by decide, by decide, by omega, _, hmv, by decide, cdiv (by decide) (by decide), by decide, by omega, _, hst, by decide, cdiv (by decide) (by decide), by decide, by omega, _, hsf, by decide, fun l hl => ⟨_, rfl, by omega, by omega, ?_⟩⟩
  rw [Int.toNat_natCast]
  have wat : ∀ j : Nat, j < 7 → ∃ u : List Nat, ws[j]? = some u ∧ nameB u = true := fun j hj => ⟨ws[j]'(by omega), List.getElem?_eq_getElem _, nw _ (List.getElem_mem _)⟩
  obtain ⟨Pv, hP⟩ : ∃ Pv : Nat → St → Hp → Prop, Pv = fun i σ H' => ∃ (xs : List V) (ks : List Kd2) (y6 y7 : Option V), H' l = some (.lst xs) ∧ TpD H' xs (ks.map kRow) ∧ ks.length = i ∧ (∀ k ∈ ks, nameB k.1 = true ∧ nameB k.2 = true) ∧ Same H H' ∧ σ = [some (V.int c), some (V.ref wl), some (V.int mv), some (V.int st), some (V.int sf), some (V.ref l), y6, y7] := ⟨_, rfl⟩
  refine forW_range Pv ?_ ?_ ?_
  · rw [hP]
    exact ⟨[], [], _, _, upd_same, .nil, rfl, (fun k hk => by cases hk), same_new hl _, rfl⟩
  · intro i σ H' hi h
    rw [hP] at h
    obtain ⟨xs, ks, y6, y7, dl, td, lks, nk, e, rfl⟩ := h
    simp only [slots, Option.getD_some, Option.getD_none, tSeq, tAsg, gName, tOp, tC, tVar, tCons, tNil, rI, rI0, tRet, tMenu, tDrop, tTup, tLst, tBM, rAppend, rIxL, Kd_non, Kd_bl, Kd_int, Kd_str, decide_true, decide_false, tFor_eq, iRng1, L2.start, cxK, Int.reduceToNat, List.map_cons, List.map_nil, List.length_cons, List.length_nil, Nat.reduceAdd, Nat.reduceSub, Nat.zero_add, List.replicate_succ, List.replicate_zero, List.cons_append, List.nil_append, List.append_nil, List.getElem?_cons_zero, List.getElem?_cons_succ, List.set_cons_zero, List.set_cons_succ, Option.some.injEq, V.int.injEq, V.bl.injEq, V.ref.injEq, V.str.injEq, V.ty.injEq, List.cons.injEq, exists_eq_left', exists_eq_left, exists_eq_right, exists_and_left, exists_and_right, and_true, true_and, and_assoc, exists_const, decide_eq_true_eq, Bool.not_eq_true', Bool.not_true, Bool.not_false, Bool.not_not, decide_eq_false_iff_not, ite_not, Bool.false_eq_true, if_true, if_false, reduceCtorEq, and_false, false_and, exists_false, or_false, false_or, ↓reduceIte, eq_self, reduceIte]
    have p0 := Int.emod_nonneg (c / 198 + (0 + (i : Int)) * st) (show (9 : Int) ≠ 0 by decide)
    have p1 := Int.emod_lt_of_pos (c / 198 + (0 + (i : Int)) * st) (show (0 : Int) < 9 by decide)
    obtain ⟨pl, hpl⟩ : ∃ pl : Int, (c / 198 + (0 + (i : Int)) * st) % 9 = pl := ⟨_, rfl⟩
    have e61 : (100 : Int) ≤ 10 ^ 61 := by decide
    refine ⟨cdiv (by decide) (by decide), cmul (by omega) (by omega) (by omega) (by omega), by decide, ?_⟩
    rw [hpl] at p0 p1 ⊢
    obtain ⟨a1, h1⟩ : ∃ a1 : Nat, pl % 3 = a1 := ⟨(pl % 3).toNat, by omega⟩
    obtain ⟨a2, h2⟩ : ∃ a2 : Nat, sf + pl / 3 = a2 := ⟨(sf + pl / 3).toNat, by omega⟩
    obtain ⟨u1, hu1, n1⟩ := wat a1 (by omega)
    obtain ⟨u2, hu2, n2⟩ := wat a2 (by omega)
    have LW' := e _ _ LW
    have len := td.length
    rw [List.length_map] at len
    refine ⟨.inl ⟨rfl, _, SqL.of dl⟩, by decide, _, SqL.of LW', _, (by rw [h1]; exact atI_nat (by rw [List.getElem?_map, hu1]; rfl)), cdiv (by decide) (by decide), _, SqL.of LW', _, (by rw [h2]; exact atI_nat (by rw [List.getElem?_map, hu2]; rfl)), by decide, fun t ht => ?_⟩
    obtain ⟨H2, g2, S2, T2⟩ : ∃ H2, H2 = upd H' t (.tup (kRow (u1, u2))) ∧ Same H' H2 ∧ H2 t = some (.tup (kRow (u1, u2))) := ⟨_, rfl, same_new ht _, upd_same⟩
    have g2' : H2 = upd H' t (.tup [V.str (txt u1), V.str (txt u2)]) := g2
    rw [← g2']
    clear g2 g2'
    refine ⟨_, S2 _ _ dl, Nat.lt_of_lt_of_le (m := 64) (by omega) (by decide), ?_⟩
    rw [hP]
    refine ⟨_, ks ++ [(u1, u2)], _, _, upd_same, ?_, by rw [List.length_append, lks]; rfl, fun k hk => ?_, same_upd (e.trans S2) hl _, rfl⟩
    · rw [List.map_append]
      exact ((td.same S2).snoc T2).upd (S2 _ _ dl)
    · rcases List.mem_append.mp hk with h | h
      · exact nk k h
      · rw [List.mem_singleton.mp h]
        exact ⟨n1, n2⟩
  · intro σ H' h
    rw [hP] at h
    obtain ⟨xs, ks, y6, y7, dl, td, lks, nk, e, rfl⟩ := h
    simp only [slots, Option.getD_some, Option.getD_none, tSeq, tAsg, gName, tOp, tC, tVar, tCons, tNil, rI, rI0, tRet, tMenu, tDrop, tTup, tLst, tBM, rAppend, rIxL, Kd_non, Kd_bl, Kd_int, Kd_str, decide_true, decide_false, tFor_eq, iRng1, L2.start, cxK, Int.reduceToNat, List.map_cons, List.map_nil, List.length_cons, List.length_nil, Nat.reduceAdd, Nat.reduceSub, Nat.zero_add, List.replicate_succ, List.replicate_zero, List.cons_append, List.nil_append, List.append_nil, List.getElem?_cons_zero, List.getElem?_cons_succ, List.set_cons_zero, List.set_cons_succ, Option.some.injEq, V.int.injEq, V.bl.injEq, V.ref.injEq, V.str.injEq, V.ty.injEq, List.cons.injEq, exists_eq_left', exists_eq_left, exists_eq_right, exists_and_left, exists_and_right, and_true, true_and, and_assoc, exists_const, decide_eq_true_eq, Bool.not_eq_true', Bool.not_true, Bool.not_false, Bool.not_not, decide_eq_false_iff_not, ite_not, Bool.false_eq_true, if_true, if_false, reduceCtorEq, and_false, false_and, exists_false, or_false, false_or, ↓reduceIte, eq_self, reduceIte]
    exact q _ _ _ _ e hl dl td (by omega) (by omega) nk
end

abbrev okKind (k : Kd2) : Prop := nameB k.1 = true ∧ nameB k.2 = true
theorem name_asc {cs : List Nat} (h : nameB cs = true) : asc cs ∧ cs.length ≤ 8 := by
  unfold nameB at h
  rw [Bool.and_eq_true, decide_eq_true_iff] at h
  refine ⟨List.all_eq_true.mpr fun c hc => decide_eq_true ?_, h.1.2⟩
  have := List.all_eq_true.mp h.2 c hc
  unfold isLow at this
  rw [Bool.and_eq_true, decide_eq_true_iff, decide_eq_true_iff] at this
  omega
theorem name_v {K : PySem.W.Frag} {H : Hp} {cs : List Nat} (h : nameB cs = true) : NameV K H (.str (txt cs)) true := by
  have a := name_asc h
  have := NameV.txt (K := K) (H := H) a.1 (show cs.length ≤ 1000 by omega)
  rwa [h] at this
def kD (k : Kd2) : PyData := .tuple [.str (txt k.1), .str (txt k.2)]
theorem rep_kind {K : PySem.W.Frag} {H : Hp} {p : Addr} {k : Kd2} (h : SqT K H p (kRow k)) : Rep K H (.ref p) (kD k) := .tup h (.cons (.str _) (.cons (.str _) .nil))
theorem flat_kind {k : Kd2} (h : okKind k) : flatD (kD k) := by
  have sk : ∀ {cs : List Nat}, nameB cs = true → PyData.canLay0 (.str (txt cs)) = true := fun {cs} hn => by
    have a := (name_asc hn).1
    show (txt cs).cps.all (· < 0x110000) = true
    rw [List.all_toArray, List.all_eq_true]
    intro c hc
    have := of_decide_eq_true (List.all_eq_true.mp a c hc)
    exact decide_eq_true (by omega)
  refine ⟨?_, by show max 0 (max 0 0) + 1 ≤ 40; decide⟩
  show (PyData.canLay0 (.str (txt k.1)) && (PyData.canLay0 (.str (txt k.2)) && true)) = true
  rw [sk h.1, sk h.2]
  rfl
theorem txt_inj {a b : List Nat} : (txt a == txt b) = decide (a = b) := by
  by_cases h : a = b
  · subst h
    rw [decide_eq_true rfl]
    exact beq_self_eq_true _
  · rw [decide_eq_false h]
    refine beq_false_of_ne fun e => h ?_
    have := congrArg (fun s : Str => s.cps.toList) e
    simpa using this
theorem eqv_kind (k k' : Kd2) : PyData.eqv (kD k) (kD k') = decide (k = k') := by
  obtain ⟨a, b⟩ := k
  obtain ⟨c, d⟩ := k'
  show ((txt a == txt c) && ((txt b == txt d) && true)) = _
  rw [txt_inj, txt_inj]
  by_cases h1 : a = c <;> by_cases h2 : b = d <;> simp [h1, h2]
theorem rEqD_kind {K : PySem.W.Frag} {H : Hp} {p q : Addr} {k k' : Kd2} {neg : Bool} {Q : VK} (h1 : SqT K H p (kRow k)) (h2 : SqT K H q (kRow k')) (o1 : okKind k) (o2 : okKind k') (hq : Q (.bl (if neg then !decide (k = k') else decide (k = k'))) H) : rEqD K neg (.ref p) (.ref q) H Q :=
  ⟨_, _, rep_kind h1, rep_kind h2, flat_kind o1, flat_kind o2, by rw [eqv_kind]; exact hq⟩

inductive KnA (K : PySem.W.Frag) (H : Hp) : List V → List Kd2 → Prop
  | nil : KnA K H [] []
  | cons {p : Addr} {k : Kd2} {xs : List V} {ks : List Kd2} : SqT K H p (kRow k) → KnA K H xs ks → KnA K H (.ref p :: xs) (k :: ks)
theorem KnA.same {K : PySem.W.Frag} {H H' : Hp} {xs : List V} {ks : List Kd2} (h : KnA K H xs ks) (e : Same H H') : KnA K H' xs ks := by
  induction h with
  | nil => exact .nil
  | cons a _ ih => exact .cons (Same.tup e a) ih
theorem KnA.length {K : PySem.W.Frag} {H : Hp} {xs : List V} {ks : List Kd2} (h : KnA K H xs ks) : xs.length = ks.length := by
  induction h with
  | nil => rfl
  | cons _ _ ih => rw [List.length_cons, List.length_cons, ih]
theorem KnA.at {K : PySem.W.Frag} {H : Hp} {xs : List V} {ks : List Kd2} (h : KnA K H xs ks) : ∀ {i : Nat} {x : V}, xs[i]? = some x → ∃ p k, x = .ref p ∧ ks[i]? = some k ∧ SqT K H p (kRow k) := by
  induction h with
  | nil => intro i x e; simp at e
  | cons a _ ih =>
    intro i x e
    cases i with
    | zero => cases e; exact ⟨_, _, rfl, rfl, a⟩
    | succ i => exact ih e
theorem KnA.rep {K : PySem.W.Frag} {H : Hp} {xs : List V} {ks : List Kd2} (h : KnA K H xs ks) : RepAll K H xs (ks.map kD) := by
  induction h with
  | nil => exact .nil
  | cons a _ ih => exact .cons (rep_kind a) ih
theorem TpD.kna {K : PySem.W.Frag} {H : Hp} : ∀ {ks : List Kd2} {xs : List V}, TpD H xs (ks.map kRow) → KnA K H xs ks
  | [], _, .nil => .nil
  | k :: ks, _, .cons a t => .cons (SqT.of a) (TpD.kna t)
theorem flat_kinds : ∀ {ks : List Kd2}, (∀ k ∈ ks, okKind k) → PyData.canLayAll0 (ks.map kD) = true ∧ PyData.depthAll (ks.map kD) ≤ 1
  | [], _ => ⟨rfl, by decide⟩
  | k :: ks, h => by
    obtain ⟨a, b⟩ := flat_kinds fun k' hk => h k' (List.mem_cons_of_mem _ hk)
    have f := flat_kind (h k (List.mem_cons_self ..))
    refine ⟨?_, ?_⟩
    · show (PyData.canLay0 (kD k) && PyData.canLayAll0 (ks.map kD)) = true
      rw [f.1, a]
      rfl
    · show max (max 0 (max 0 0) + 1) (PyData.depthAll (ks.map kD)) ≤ 1
      omega
theorem any_kind (k : Kd2) : ∀ ks : List Kd2, ((ks.map kD).any fun y => PyData.eqv y (kD k)) = decide (k ∈ ks)
  | [] => rfl
  | c :: ks => by
    rw [List.map_cons, List.any_cons, any_kind k ks, eqv_kind]
    by_cases h : c = k
    · subst h
      simp
    · rw [decide_eq_false h, Bool.false_or]
      by_cases h2 : k ∈ ks
      · rw [decide_eq_true h2, decide_eq_true (List.mem_cons_of_mem _ h2)]
      · rw [decide_eq_false h2, decide_eq_false (by simp only [List.mem_cons, not_or]; exact ⟨fun e => h e.symm, h2⟩)]
theorem rInD_kind {K : PySem.W.Frag} {H : Hp} {p l : Addr} {k : Kd2} {xs : List V} {ks : List Kd2} {neg : Bool} {Q : VK} (h1 : SqT K H p (kRow k)) (o1 : okKind k) (L : SqL K H l xs) (A : KnA K H xs ks) (ok : ∀ k ∈ ks, okKind k) (hq : Q (.bl (if neg then !decide (k ∈ ks) else decide (k ∈ ks))) H) : rInD K neg (.ref p) (.ref l) H Q := by
  obtain ⟨f1, f2⟩ := flat_kinds ok
  refine ⟨l, kD k, ks.map kD, rfl, rep_kind h1, .inl (.lst L A.rep), flat_kind o1, ⟨f1, ?_⟩, ?_⟩
  · show PyData.depthAll (ks.map kD) + 1 ≤ 40
    omega
  · rw [any_kind]
    exact hq

inductive Nt where
  | any
  | made (s : List Nat)
  | used (s : List Nat)
  | chief (s : List Nat)
  | over (a b : Kd2)
  | both (x y : Nt)
  | either (x y : Nt)
  | but (x y : Nt)
def Nt.dp : Nt → Nat
  | .both x y => max x.dp y.dp + 1
  | .either x y => max x.dp y.dp + 1
  | .but x y => max x.dp y.dp + 1
  | _ => 1
def Nt.ok : Nt → Prop
  | .any => True
  | .made s => nameB s = true
  | .used s => nameB s = true
  | .chief s => nameB s = true
  | .over a b => okKind a ∧ okKind b
  | .both x y => x.ok ∧ y.ok
  | .either x y => x.ok ∧ y.ok
  | .but x y => x.ok ∧ y.ok
def Nt.data : Nt → PyData
  | .any => .tuple [.str "any"]
  | .made s => .tuple [.str "made", .str (txt s)]
  | .used s => .tuple [.str "used", .str (txt s)]
  | .chief s => .tuple [.str "chief", .str (txt s)]
  | .over a b => .tuple [.str "over", kD a, kD b]
  | .both x y => .tuple [.str "both", x.data, y.data]
  | .either x y => .tuple [.str "either", x.data, y.data]
  | .but x y => .tuple [.str "but", x.data, y.data]
theorem Nt.dp_pos (n : Nt) : 1 ≤ n.dp := by
  cases n <;> (unfold Nt.dp; omega)
abbrev ToldAt (K : PySem.W.Frag) (H : Hp) (v : V) (n : Nt) : Prop := Rep K H v n.data
theorem knA_snoc {K : PySem.W.Frag} {H : Hp} {xs : List V} {ks : List Kd2} {p : Addr} {k : Kd2} (h : KnA K H xs ks) (T : SqT K H p (kRow k)) : KnA K H (xs ++ [.ref p]) (ks ++ [k]) := by
  induction h with
  | nil => exact .cons T .nil
  | cons a _ ih => exact .cons a ih
def spPlain (K : PySem.W.Frag) : Sp := fun vs H Q _ => ∃ (c : Int) (kl wl : Addr) (kx : List V) (ks : List Kd2) (ws : List (List Nat)), vs = [.int c, .ref kl, .ref wl] ∧ H kl = some (.lst kx) ∧ KnA K H kx ks ∧ 1 ≤ ks.length ∧ ks.length ≤ 4 ∧ (∀ k ∈ ks, okKind k) ∧ H wl = some (.lst (ws.map fun w => V.str (txt w))) ∧ ws.length = 7 ∧ (∀ w ∈ ws, nameB w = true) ∧
  ∀ (p : Addr) (H' : Hp) (n : Nt), Same H H' → ToldAt K H' (.ref p) n → n.ok → n.dp = 1 → Q (.ref p) H'
section
variable {P : Program} {w : World} {K : PySem.W.Frag} {mg : Str → Option Value} {base : Heap} {f : Addr} {fd : FuncData}
theorem ok_law_plain (F : Fun K "_law_plain" "_law_plain" s_law_plain f fd) (M : Mg mg) (C_law_mix : Cal P w K mg base CX0 "_law_mix" 1 ["_law_number", "_law_k", "_law_many"] spMix3) : FnOk P w K mg base CX0 2 f fd ["_law_number", "_law_kinds_here", "_law_words_here"] (spPlain K) := by
  refine F.ok sc_law_plain (fun vs H Q E h => ?_) (fun cdv A outer s H vs Q E hr h => ?_)
  · obtain ⟨c, kl, wl, kx, ks, ws, rfl, _⟩ := h
    rfl
  obtain ⟨c, kl, wl, kx, ks, ws, rfl, LK, KA, k1, k4, okk, LW, lw, nw, q⟩ := h
  have lk := KA.length
  refine ⟨_, (@pss_cons _ _ _ _ _ (@ps_set _ _ 3 _ _ _ _ sc_law_plain.nd rfl l_law_plain_3 (@pe_callC _ _ _ _ _ _ _ _ _ _ _ C_law_mix hr g_law_plain__law_mix (@pa_cons _ _ _ _ _ (@pe_var _ 0 _ _ rfl v_law_plain_0 dn__law_number dc__law_number) (@pa_cons _ _ _ _ _ (@pe_int _ _ _ _) (@pa_cons _ _ _ _ _ (@pe_int _ _ _ _) (@pa_nil _) (star1 rfl)) (star1 rfl)) (star1 rfl)) (by decide) dn__law_mix (star1 rfl) (nost1 rfl (nost1 rfl nost0))) (swap1 rfl) (.inl rfl)) (@pss_cons _ _ _ _ _ (@ps_set _ _ 4 _ _ _ _ sc_law_plain.nd rfl l_law_plain_4 (@pe_ix _ _ _ _ _ _ _ (@ix_list _) (@pe_var _ 2 _ _ rfl v_law_plain_2 dn__law_words_here dc__law_words_here) (@pe_callC _ _ _ _ _ _ _ _ _ _ _ C_law_mix hr g_law_plain__law_mix (@pa_cons _ _ _ _ _ (@pe_var _ 0 _ _ rfl v_law_plain_0 dn__law_number dc__law_number) (@pa_cons _ _ _ _ _ (@pe_int _ _ _ _) (@pa_cons _ _ _ _ _ (@pe_int _ _ _ _) (@pa_nil _) (star1 rfl)) (star1 rfl)) (star1 rfl)) (by decide) dn__law_mix (star1 rfl) (nost1 rfl (nost1 rfl nost0))) (fun _ _ => rfl)) (swap1 rfl) (.inl rfl)) (@pss_cons _ _ _ _ _ (@ps_set _ _ 5 _ _ _ _ sc_law_plain.nd rfl l_law_plain_5 (@pe_op _ _ _ _ _ _ _ _ (@op_cat _) (@pe_var _ 1 _ _ rfl v_law_plain_1 dn__law_kinds_here dc__law_kinds_here) (@pe_lst _ _ _ _ (@pa_cons _ _ _ _ _ (@pe_tup _ _ _ _ _ (@pa_cons _ _ _ _ _ (@pe_ix _ _ _ _ _ _ _ (@ix_list _) (@pe_var _ 2 _ _ rfl v_law_plain_2 dn__law_words_here dc__law_words_here) (@pe_int _ _ _ _) (fun _ _ => rfl)) (@pa_cons _ _ _ _ _ (@pe_ix _ _ _ _ _ _ _ (@ix_list _) (@pe_var _ 2 _ _ rfl v_law_plain_2 dn__law_words_here dc__law_words_here) (@pe_int _ _ _ _) (fun _ _ => rfl)) (@pa_nil _) (star1 rfl)) (star1 rfl))) (@pa_nil _) (star1 rfl)))) (swap1 rfl) (.inl rfl)) (@pss_cons _ _ _ _ _ (@ps_if _ _ _ _ _ _ _ _ (@pt_cmpR _ _ _ _ _ _ _ _ (@op_lt _) (@pe_var _ 3 _ _ rfl v_law_plain_3 dn__law_way dc__law_way) (@pe_int _ _ _ _) (nomark _)) (@pss_one _ _ _ (@ps_ret _ _ _ _ (@pe_menu _ _ _ _ _ _ _ (@pa_cons _ _ _ _ _ (@pe_tup _ _ _ _ _ (@pa_cons _ _ _ _ _ (@pe_str _ _ _ _) (@pa_nil _) (star1 rfl))) (@pa_cons _ _ _ _ _ (@pe_tup _ _ _ _ _ (@pa_cons _ _ _ _ _ (@pe_str _ _ _ _) (@pa_cons _ _ _ _ _ (@pe_var _ 4 _ _ rfl v_law_plain_4 dn__law_name dc__law_name) (@pa_nil _) (star1 rfl)) (star1 rfl))) (@pa_cons _ _ _ _ _ (@pe_tup _ _ _ _ _ (@pa_cons _ _ _ _ _ (@pe_str _ _ _ _) (@pa_cons _ _ _ _ _ (@pe_var _ 4 _ _ rfl v_law_plain_4 dn__law_name dc__law_name) (@pa_nil _) (star1 rfl)) (star1 rfl))) (@pa_cons _ _ _ _ _ (@pe_tup _ _ _ _ _ (@pa_cons _ _ _ _ _ (@pe_str _ _ _ _) (@pa_cons _ _ _ _ _ (@pe_var _ 4 _ _ rfl v_law_plain_4 dn__law_name dc__law_name) (@pa_nil _) (star1 rfl)) (star1 rfl))) (@pa_cons _ _ _ _ _ (@pe_tup _ _ _ _ _ (@pa_cons _ _ _ _ _ (@pe_str _ _ _ _) (@pa_cons _ _ _ _ _ (@pe_var _ 4 _ _ rfl v_law_plain_4 dn__law_name dc__law_name) (@pa_nil _) (star1 rfl)) (star1 rfl))) (@pa_cons _ _ _ _ _ (@pe_tup _ _ _ _ _ (@pa_cons _ _ _ _ _ (@pe_str _ _ _ _) (@pa_cons _ _ _ _ _ (@pe_var _ 4 _ _ rfl v_law_plain_4 dn__law_name dc__law_name) (@pa_nil _) (star1 rfl)) (star1 rfl))) (@pa_nil _) (star1 rfl)) (star1 rfl)) (star1 rfl)) (star1 rfl)) (star1 rfl)) (star1 rfl)) (@pe_var _ 3 _ _ rfl v_law_plain_3 dn__law_way dc__law_way) (fun _ _ => rfl)))) (@pss_nil _)) (@pss_cons _ _ _ _ _ (@ps_set _ _ 6 _ _ _ _ sc_law_plain.nd rfl l_law_plain_6 (@pe_ix _ _ _ _ _ _ _ (@ix_list _) (@pe_var _ 5 _ _ rfl v_law_plain_5 dn__law_some dc__law_some) (@pe_callC _ _ _ _ _ _ _ _ _ _ _ C_law_mix hr g_law_plain__law_mix (@pa_cons _ _ _ _ _ (@pe_var _ 0 _ _ rfl v_law_plain_0 dn__law_number dc__law_number) (@pa_cons _ _ _ _ _ (@pe_int _ _ _ _) (@pa_cons _ _ _ _ _ (@pe_callB _ _ _ _ _ _ _ _ _ call_len_seq g_law_plain_len M.m_len b_len (@pa_cons _ _ _ _ _ (@pe_var _ 5 _ _ rfl v_law_plain_5 dn__law_some dc__law_some) (@pa_nil _) (star1 rfl)) nn_len dn_len (star1 rfl) nost0) (@pa_nil _) (star1 rfl)) (star1 rfl)) (star1 rfl)) (by decide) dn__law_mix (star1 rfl) (nost1 rfl (nost1 rfl nost0))) (fun _ _ => rfl)) (swap1 rfl) (.inl rfl)) (@pss_one _ _ _ (@ps_ret _ _ _ _ (@pe_tup _ _ _ _ _ (@pa_cons _ _ _ _ _ (@pe_str _ _ _ _) (@pa_cons _ _ _ _ _ (@pe_var _ 6 _ _ rfl v_law_plain_6 dn__law_one dc__law_one) (@pa_cons _ _ _ _ _ (@pe_ix _ _ _ _ _ _ _ (@ix_list _) (@pe_var _ 5 _ _ rfl v_law_plain_5 dn__law_some dc__law_some) (@pe_callC _ _ _ _ _ _ _ _ _ _ _ C_law_mix hr g_law_plain__law_mix (@pa_cons _ _ _ _ _ (@pe_var _ 0 _ _ rfl v_law_plain_0 dn__law_number dc__law_number) (@pa_cons _ _ _ _ _ (@pe_int _ _ _ _) (@pa_cons _ _ _ _ _ (@pe_callB _ _ _ _ _ _ _ _ _ call_len_seq g_law_plain_len M.m_len b_len (@pa_cons _ _ _ _ _ (@pe_var _ 5 _ _ rfl v_law_plain_5 dn__law_some dc__law_some) (@pa_nil _) (star1 rfl)) nn_len dn_len (star1 rfl) nost0) (@pa_nil _) (star1 rfl)) (star1 rfl)) (star1 rfl)) (by decide) dn__law_mix (star1 rfl) (nost1 rfl (nost1 rfl nost0))) (fun _ _ => rfl)) (@pa_nil _) (star1 rfl)) (star1 rfl)) (star1 rfl)))))))))), ?_⟩
  simp only [slots, Option.getD_some, Option.getD_none, tSeq, tAsg, gName, tOp, tC, tVar, tCB, tCons, tNil, tCall, rI0, tRet, tIfS, tTest, tMenu, tTup, tLst, tNext, rIxL, Kd_non, Kd_bl, Kd_int, Kd_str, decide_true, decide_false, L2.start, cxK, Int.reduceToNat, List.map_cons, List.map_nil, List.length_cons, List.length_nil, Nat.reduceAdd, Nat.reduceSub, Nat.zero_add, List.replicate_succ, List.replicate_zero, List.cons_append, List.nil_append, List.append_nil, List.getElem?_cons_zero, List.getElem?_cons_succ, List.set_cons_zero, List.set_cons_succ, Option.some.injEq, V.int.injEq, V.bl.injEq, V.ref.injEq, V.str.injEq, V.ty.injEq, List.cons.injEq, exists_eq_left', exists_eq_left, exists_eq_right, exists_and_left, exists_and_right, and_true, true_and, and_assoc, exists_const, decide_eq_true_eq, Bool.not_eq_true', Bool.not_true, Bool.not_false, Bool.not_not, decide_eq_false_iff_not, ite_not, Bool.false_eq_true, if_true, if_false, reduceCtorEq, and_false, false_and, exists_false, or_false, false_or, ↓reduceIte, eq_self, reduceIte]
  have i9 := mix3_in c 1 (show (0 : Int) < 9 by decide)
  have i7 := mix3_in c 2 (show (0 : Int) < 7 by decide)
  refine ⟨_, _, _, rfl, by decide, by decide, by decide, _, _, _, rfl, by decide, by decide, by decide, ?_⟩
  obtain ⟨wy, hwy⟩ : ∃ wy : Int, mix3 c 1 9 = wy := ⟨_, rfl⟩
  rw [hwy] at i9 ⊢
  obtain ⟨j, hj⟩ : ∃ j : Nat, mix3 c 2 7 = j := ⟨(mix3 c 2 7).toNat, by omega⟩
  rw [hj] at i7 ⊢
  have wat : ∀ j : Nat, j < 7 → ∃ u : List Nat, (ws.map fun w => V.str (txt w))[j]? = some (V.str (txt u)) ∧ nameB u = true := fun j hj => ⟨ws[j]'(by omega), by rw [List.getElem?_map, List.getElem?_eq_getElem (by omega)]; rfl, nw _ (List.getElem_mem _)⟩
  obtain ⟨nm, hnm, nn⟩ := wat j (by omega)
  obtain ⟨w6, h6, n6⟩ := wat 6 (by decide)
  obtain ⟨w0, h0, n0⟩ := wat 0 (by decide)
  refine ⟨_, _, rfl, SqL.of LW, _, atI_nat hnm, _, SqL.of LW, _, (show atI _ ((6 : Nat) : Int) = some _ from atI_nat h6), _, SqL.of LW, _, (show atI _ ((0 : Nat) : Int) = some _ from atI_nat h0), by decide, fun p hp => ?_⟩
  obtain ⟨H3, g3, S3, T3⟩ := fresh_tup (K := K) hp (kRow (w6, w0))
  have g3' : H3 = upd H p (.tup [V.str (txt w6), V.str (txt w0)]) := g3
  rw [← g3']
  clear g3 g3'
  refine ⟨by decide, fun p1 hp1 => ?_⟩
  obtain ⟨H4, g4, S4, L4⟩ : ∃ H4, H4 = upd H3 p1 (.lst [V.ref p]) ∧ Same H3 H4 ∧ H4 p1 = some (.lst [V.ref p]) := ⟨_, rfl, same_new hp1 _, upd_same⟩
  rw [← g4]
  clear g4
  refine ⟨kl, p1, kx, [V.ref p], rfl, rfl, S4 _ _ (S3 _ _ LK), L4, Nat.le_trans (m := 64) (by show kx.length + 1 ≤ 64; omega) (by decide), fun sl hsl => ?_⟩
  obtain ⟨H5, g5, S5, L5⟩ : ∃ H5, H5 = upd H4 sl (.lst (kx ++ [V.ref p])) ∧ Same H4 H5 ∧ H5 sl = some (.lst (kx ++ [V.ref p])) := ⟨_, rfl, same_new hsl _, upd_same⟩
  rw [← g5]
  clear g5
  have S05 := S3.trans (S4.trans S5)
  have KA5 : KnA K H5 (kx ++ [V.ref p]) (ks ++ [(w6, w0)]) := knA_snoc (KA.same S05) (Same.tup (S4.trans S5) T3)
  have ok5 : ∀ k ∈ ks ++ [(w6, w0)], okKind k := fun k hk => by
    rcases List.mem_append.mp hk with h | h
    · exact okk k h
    · rw [List.mem_singleton.mp h]
      exact ⟨n6, n0⟩
  refine ⟨_, rfl, ?_⟩
  by_cases h6' : wy < 6
  · rw [if_pos h6']
    refine ⟨by decide, fun t0 ht0 => ?_⟩
    obtain ⟨H6, g6, S6, T6⟩ := fresh_tup (K := K) ht0 [V.str (Str.ofString "any")]
    rw [← g6]
    clear g6
    refine ⟨by decide, fun t1 ht1 => ?_⟩
    obtain ⟨H7, g7, S7, T7⟩ := fresh_tup (K := K) ht1 [V.str (Str.ofString "made"), V.str (txt nm)]
    rw [← g7]
    clear g7
    refine ⟨by decide, fun t2 ht2 => ?_⟩
    obtain ⟨H8, g8, S8, T8⟩ := fresh_tup (K := K) ht2 [V.str (Str.ofString "used"), V.str (txt nm)]
    rw [← g8]
    clear g8
    refine ⟨by decide, fun t3 ht3 => ?_⟩
    obtain ⟨H9, g9, S9, T9⟩ := fresh_tup (K := K) ht3 [V.str (Str.ofString "chief"), V.str (txt nm)]
    rw [← g9]
    clear g9
    refine ⟨by decide, fun t4 ht4 => ?_⟩
    obtain ⟨H10, g10, S10, T10⟩ := fresh_tup (K := K) ht4 [V.str (Str.ofString "made"), V.str (txt nm)]
    rw [← g10]
    clear g10
    refine ⟨by decide, fun t5 ht5 => ?_⟩
    obtain ⟨H11, g11, S11, T11⟩ := fresh_tup (K := K) ht5 [V.str (Str.ofString "used"), V.str (txt nm)]
    rw [← g11]
    clear g11
    obtain ⟨i, hi, li⟩ : ∃ i : Nat, wy = i ∧ i < 6 := ⟨wy.toNat, by omega, by omega⟩
    have S511 : Same H5 H11 := S6.trans (S7.trans (S8.trans (S9.trans (S10.trans (S11)))))
    have all : ∀ v ∈ [V.ref t0, V.ref t1, V.ref t2, V.ref t3, V.ref t4, V.ref t5], ∃ (t : Addr) (n : Nt), v = .ref t ∧ ToldAt K H11 (.ref t) n ∧ n.ok ∧ n.dp = 1 := by
      simp only [List.forall_mem_cons]
      exact ⟨⟨_, .any, rfl, .tup (Same.tup (S7.trans (S8.trans (S9.trans (S10.trans (S11))))) T6) (.cons (.str _) .nil), trivial, rfl⟩,
        ⟨_, .made nm, rfl, .tup (Same.tup (S8.trans (S9.trans (S10.trans (S11)))) T7) (.cons (.str _) (.cons (.str _) .nil)), nn, rfl⟩,
        ⟨_, .used nm, rfl, .tup (Same.tup (S9.trans (S10.trans (S11))) T8) (.cons (.str _) (.cons (.str _) .nil)), nn, rfl⟩,
        ⟨_, .chief nm, rfl, .tup (Same.tup (S10.trans (S11)) T9) (.cons (.str _) (.cons (.str _) .nil)), nn, rfl⟩,
        ⟨_, .made nm, rfl, .tup (Same.tup (S11) T10) (.cons (.str _) (.cons (.str _) .nil)), nn, rfl⟩,
        ⟨_, .used nm, rfl, .tup (Same.tup (Same.refl _) T11) (.cons (.str _) (.cons (.str _) .nil)), nn, rfl⟩, fun _ h => by cases h⟩
    obtain ⟨v, hv⟩ : ∃ v, ([V.ref t0, V.ref t1, V.ref t2, V.ref t3, V.ref t4, V.ref t5] : List V)[i]? = some v := ⟨_, List.getElem?_eq_getElem (by show i < 6; omega)⟩
    obtain ⟨t, n, rfl, R, o, d⟩ := all v (List.mem_of_getElem? hv)
    exact ⟨by decide, _, rfl, by omega, _, (by rw [hi, Int.toNat_natCast]; exact hv), q _ _ n (S05.trans S511) R o d⟩
  · rw [if_neg h6']
    have ll : (kx ++ [V.ref p]).length = kx.length + 1 := by rw [List.length_append]; rfl
    have j3 := mix3_in c 3 (show (0 : Int) < ((kx ++ [V.ref p]).length : Int) by omega)
    have j4 := mix3_in c 4 (show (0 : Int) < ((kx ++ [V.ref p]).length : Int) by omega)
    obtain ⟨m3, hm3⟩ : ∃ m : Nat, mix3 c 3 ((kx ++ [V.ref p]).length : Int) = m := ⟨(mix3 c 3 ((kx ++ [V.ref p]).length : Int)).toNat, by omega⟩
    obtain ⟨m4, hm4⟩ : ∃ m : Nat, mix3 c 4 ((kx ++ [V.ref p]).length : Int) = m := ⟨(mix3 c 4 ((kx ++ [V.ref p]).length : Int)).toNat, by omega⟩
    obtain ⟨x3, hx3⟩ : ∃ x, (kx ++ [V.ref p])[m3]? = some x := ⟨_, List.getElem?_eq_getElem (by omega)⟩
    obtain ⟨x4, hx4⟩ : ∃ x, (kx ++ [V.ref p])[m4]? = some x := ⟨_, List.getElem?_eq_getElem (by omega)⟩
    obtain ⟨a3, c3, rfl, hc3, Tc3⟩ := KA5.at hx3
    obtain ⟨a4, c4, rfl, hc4, Tc4⟩ := KA5.at hx4
    refine ⟨_, rfl, _, .inl (SqL.of L5), _, _, _, rfl, by decide, by decide, by omega, _, rfl, _, _, rfl, SqL.of L5, _, (by rw [hm3]; exact atI_nat hx3), _, rfl, _, .inl (SqL.of L5), _, _, _, rfl, by decide, by decide, by omega, _, rfl, _, _, rfl, SqL.of L5, _, (by rw [hm4]; exact atI_nat hx4), by decide, fun t ht => ?_⟩
    exact q _ _ (.over c3 c4) (S05.trans (same_new ht _)) (.tup (SqT.of upd_same) (.cons (.str _) (.cons (rep_kind (Same.tup (same_new ht _) Tc3)) (.cons (rep_kind (Same.tup (same_new ht _) Tc4)) .nil)))) ⟨ok5 _ (List.mem_of_getElem? hc3), ok5 _ (List.mem_of_getElem? hc4)⟩ rfl
def spNoteG (K : PySem.W.Frag) (d : Nat) : Sp := fun vs H Q _ => ∃ (c : Int) (kl wl : Addr) (kx : List V) (ks : List Kd2) (ws : List (List Nat)), vs = [.int c, .int (d : Int), .ref kl, .ref wl] ∧ 1 ≤ d ∧ H kl = some (.lst kx) ∧ KnA K H kx ks ∧ 1 ≤ ks.length ∧ ks.length ≤ 4 ∧ (∀ k ∈ ks, okKind k) ∧ H wl = some (.lst (ws.map fun w => V.str (txt w))) ∧ ws.length = 7 ∧ (∀ w ∈ ws, nameB w = true) ∧
  ∀ (p : Addr) (H' : Hp) (n : Nt), Same H H' → ToldAt K H' (.ref p) n → n.ok → n.dp ≤ d → Q (.ref p) H'
theorem step_note {d : Nat} (F : Fun K "_law_note" "_law_note" s_law_note f fd) (M : Mg mg) (C_law_mix : Cal P w K mg base CX0 "_law_mix" 1 ["_law_number", "_law_k", "_law_many"] spMix3) (C_law_plain : Cal P w K mg base CX0 "_law_plain" 2 ["_law_number", "_law_kinds_here", "_law_words_here"] (spPlain K))
    (C_law_note : Cal P w K mg base CX0 "_law_note" (3 + d) ["_law_number", "_law_deep", "_law_kinds_here", "_law_words_here"] (spNoteG K d)) : FnOk P w K mg base CX0 (3 + d + 1) f fd ["_law_number", "_law_deep", "_law_kinds_here", "_law_words_here"] (spNoteG K (d + 1)) := by
  refine F.ok sc_law_note (fun vs H Q E h => ?_) (fun cdv A outer s H vs Q E hr h => ?_)
  · obtain ⟨c, kl, wl, kx, ks, ws, rfl, _⟩ := h
    rfl
  obtain ⟨c, kl, wl, kx, ks, ws, rfl, d1, LK, KA, k1, k4, okk, LW, lw, nw, q⟩ := h
  refine ⟨_, (@pss_cons _ _ _ _ _ (@ps_if _ _ _ _ _ _ _ _ (@PW.pt _ _ _ (@pw_or _ _ _ _ _ _ _ (@pt_cmpR _ _ _ _ _ _ _ _ (@op_lt _) (@pe_var _ 1 _ _ rfl v_law_note_1 dn__law_deep dc__law_deep) (@pe_int _ _ _ _) (nomark _)) (@pw_or1 _ _ _ _ (@pt_cmpR _ _ _ _ _ _ _ _ (@op_eq _) (@pe_callC _ _ _ _ _ _ _ _ _ _ _ C_law_mix hr g_law_note__law_mix (@pa_cons _ _ _ _ _ (@pe_var _ 0 _ _ rfl v_law_note_0 dn__law_number dc__law_number) (@pa_cons _ _ _ _ _ (@pe_int _ _ _ _) (@pa_cons _ _ _ _ _ (@pe_int _ _ _ _) (@pa_nil _) (star1 rfl)) (star1 rfl)) (star1 rfl)) (by omega) dn__law_mix (star1 rfl) (nost1 rfl (nost1 rfl nost0))) (@pe_int _ _ _ _) (nomark _))))) (@pss_one _ _ _ (@ps_ret _ _ _ _ (@pe_callC _ _ _ _ _ _ _ _ _ _ _ C_law_plain hr g_law_note__law_plain (@pa_cons _ _ _ _ _ (@pe_var _ 0 _ _ rfl v_law_note_0 dn__law_number dc__law_number) (@pa_cons _ _ _ _ _ (@pe_var _ 2 _ _ rfl v_law_note_2 dn__law_kinds_here dc__law_kinds_here) (@pa_cons _ _ _ _ _ (@pe_var _ 3 _ _ rfl v_law_note_3 dn__law_words_here dc__law_words_here) (@pa_nil _) (star1 rfl)) (star1 rfl)) (star1 rfl)) (by omega) dn__law_plain (star1 rfl) (nost1 rfl (nost1 rfl nost0))))) (@pss_nil _)) (@pss_cons _ _ _ _ _ (@ps_set _ _ 4 _ _ _ _ sc_law_note.nd rfl l_law_note_4 (@pe_callC _ _ _ _ _ _ _ _ _ _ _ C_law_note hr g_law_note__law_note (@pa_cons _ _ _ _ _ (@pe_callC _ _ _ _ _ _ _ _ _ _ _ C_law_mix hr g_law_note__law_mix (@pa_cons _ _ _ _ _ (@pe_var _ 0 _ _ rfl v_law_note_0 dn__law_number dc__law_number) (@pa_cons _ _ _ _ _ (@pe_int _ _ _ _) (@pa_cons _ _ _ _ _ (@pe_int _ _ _ _) (@pa_nil _) (star1 rfl)) (star1 rfl)) (star1 rfl)) (by omega) dn__law_mix (star1 rfl) (nost1 rfl (nost1 rfl nost0))) (@pa_cons _ _ _ _ _ (@pe_op _ _ _ _ _ _ _ _ (@op_sub _) (@pe_var _ 1 _ _ rfl v_law_note_1 dn__law_deep dc__law_deep) (@pe_int _ _ _ _)) (@pa_cons _ _ _ _ _ (@pe_var _ 2 _ _ rfl v_law_note_2 dn__law_kinds_here dc__law_kinds_here) (@pa_cons _ _ _ _ _ (@pe_var _ 3 _ _ rfl v_law_note_3 dn__law_words_here dc__law_words_here) (@pa_nil _) (star1 rfl)) (star1 rfl)) (star1 rfl)) (star1 rfl)) (by omega) dn__law_note (star1 rfl) (nost1 rfl (nost1 rfl (nost1 rfl nost0)))) (swap1 rfl) (.inl rfl)) (@pss_cons _ _ _ _ _ (@ps_set _ _ 5 _ _ _ _ sc_law_note.nd rfl l_law_note_5 (@pe_callC _ _ _ _ _ _ _ _ _ _ _ C_law_note hr g_law_note__law_note (@pa_cons _ _ _ _ _ (@pe_callC _ _ _ _ _ _ _ _ _ _ _ C_law_mix hr g_law_note__law_mix (@pa_cons _ _ _ _ _ (@pe_var _ 0 _ _ rfl v_law_note_0 dn__law_number dc__law_number) (@pa_cons _ _ _ _ _ (@pe_int _ _ _ _) (@pa_cons _ _ _ _ _ (@pe_int _ _ _ _) (@pa_nil _) (star1 rfl)) (star1 rfl)) (star1 rfl)) (by omega) dn__law_mix (star1 rfl) (nost1 rfl (nost1 rfl nost0))) (@pa_cons _ _ _ _ _ (@pe_op _ _ _ _ _ _ _ _ (@op_sub _) (@pe_var _ 1 _ _ rfl v_law_note_1 dn__law_deep dc__law_deep) (@pe_int _ _ _ _)) (@pa_cons _ _ _ _ _ (@pe_var _ 2 _ _ rfl v_law_note_2 dn__law_kinds_here dc__law_kinds_here) (@pa_cons _ _ _ _ _ (@pe_var _ 3 _ _ rfl v_law_note_3 dn__law_words_here dc__law_words_here) (@pa_nil _) (star1 rfl)) (star1 rfl)) (star1 rfl)) (star1 rfl)) (by omega) dn__law_note (star1 rfl) (nost1 rfl (nost1 rfl (nost1 rfl nost0)))) (swap1 rfl) (.inl rfl)) (@pss_one _ _ _ (@ps_ret _ _ _ _ (@pe_tup _ _ _ _ _ (@pa_cons _ _ _ _ _ (@pe_menu _ _ _ _ _ _ _ (@pa_cons _ _ _ _ _ (@pe_str _ _ _ _) (@pa_cons _ _ _ _ _ (@pe_str _ _ _ _) (@pa_cons _ _ _ _ _ (@pe_str _ _ _ _) (@pa_nil _) (star1 rfl)) (star1 rfl)) (star1 rfl)) (@pe_callC _ _ _ _ _ _ _ _ _ _ _ C_law_mix hr g_law_note__law_mix (@pa_cons _ _ _ _ _ (@pe_var _ 0 _ _ rfl v_law_note_0 dn__law_number dc__law_number) (@pa_cons _ _ _ _ _ (@pe_int _ _ _ _) (@pa_cons _ _ _ _ _ (@pe_int _ _ _ _) (@pa_nil _) (star1 rfl)) (star1 rfl)) (star1 rfl)) (by omega) dn__law_mix (star1 rfl) (nost1 rfl (nost1 rfl nost0))) (fun _ _ => rfl)) (@pa_cons _ _ _ _ _ (@pe_var _ 4 _ _ rfl v_law_note_4 dn__law_one dc__law_one) (@pa_cons _ _ _ _ _ (@pe_var _ 5 _ _ rfl v_law_note_5 dn__law_other dc__law_other) (@pa_nil _) (star1 rfl)) (star1 rfl)) (star1 rfl)))))))), ?_⟩
  simp only [slots, Option.getD_some, Option.getD_none, tSeq, tAsg, gName, tOp, tC, tVar, tCons, tNil, tCall, rI0, tRet, tIfS, tTest, tOr, tMenu, tTup, tNext, rEq, Kd_non, Kd_bl, Kd_int, Kd_str, sc_non_non, sc_non_int, sc_int_non, sc_non_bl, sc_bl_non, sc_non_str, sc_str_non, sc_int_int, sc_bl_bl, sc_str_str, sc_int_str, sc_str_int, sc_bl_str, sc_str_bl, decide_true, decide_false, L2.start, cxK, Int.reduceToNat, List.map_cons, List.map_nil, List.length_cons, List.length_nil, Nat.reduceAdd, Nat.reduceSub, Nat.zero_add, List.replicate_succ, List.replicate_zero, List.cons_append, List.nil_append, List.append_nil, List.getElem?_cons_zero, List.getElem?_cons_succ, List.set_cons_zero, List.set_cons_succ, Option.some.injEq, V.int.injEq, V.bl.injEq, V.ref.injEq, V.str.injEq, V.ty.injEq, List.cons.injEq, exists_eq_left', exists_eq_left, exists_eq_right, exists_and_left, exists_and_right, and_true, true_and, and_assoc, exists_const, decide_eq_true_eq, Bool.not_eq_true', Bool.not_true, Bool.not_false, Bool.not_not, decide_eq_false_iff_not, ite_not, Bool.false_eq_true, if_true, if_false, reduceCtorEq, and_false, false_and, exists_false, or_false, false_or, ↓reduceIte, eq_self, reduceIte]
  have plain : spPlain K [V.int c, V.ref kl, V.ref wl] H Q E0 := ⟨c, kl, wl, kx, ks, ws, rfl, LK, KA, k1, k4, okk, LW, lw, nw, fun p H' n e R o dd => q p H' n e R o (by omega)⟩
  by_cases h2 : ((d + 1 : Nat) : Int) < 2
  · rw [if_pos h2]
    exact plain
  · rw [if_neg h2]
    refine ⟨_, _, _, rfl, by decide, by decide, by decide, rfl, ?_⟩
    by_cases hm : V.int (mix3 c 5 5) = V.int 0
    · rw [if_pos hm]
      exact plain
    · rw [if_neg hm]
      have ed : ((d + 1 : Nat) : Int) - 1 = (d : Int) := by omega
      rw [ed]
      refine ⟨_, _, _, rfl, by decide, by decide, by decide, _, kl, wl, kx, ks, ws, rfl, by omega, LK, KA, k1, k4, okk, LW, lw, nw, fun p1 H1 x S1 R1 o1 dp1 => ?_⟩
      refine ⟨_, _, _, rfl, by decide, by decide, by decide, _, kl, wl, kx, ks, ws, rfl, by omega, S1 _ _ LK, KA.same S1, k1, k4, okk, S1 _ _ LW, lw, nw, fun p2 H2 y S2 R2 o2 dp2 => ?_⟩
      have i3 := mix3_in c 6 (show (0 : Int) < 3 by decide)
      obtain ⟨j, hj⟩ : ∃ j : Int, mix3 c 6 3 = j := ⟨_, rfl⟩
      refine ⟨by decide, _, _, _, rfl, by decide, by decide, by decide, _, rfl, i3.1, ?_⟩
      rw [hj] at i3 ⊢
      have R1' := R1.same S2
      have : j = 0 ∨ j = 1 ∨ j = 2 := by omega
      rcases this with e | e | e <;> subst e
      · refine ⟨_, rfl, by decide, fun t ht => q _ _ (.both x y) (S1.trans (S2.trans (same_new ht _))) (.tup (SqT.of upd_same) (.cons (.str _) (.cons (R1'.same (same_new ht _)) (.cons (R2.same (same_new ht _)) .nil)))) ⟨o1, o2⟩ ?_⟩
        show max x.dp y.dp + 1 ≤ d + 1
        omega
      · refine ⟨_, rfl, by decide, fun t ht => q _ _ (.either x y) (S1.trans (S2.trans (same_new ht _))) (.tup (SqT.of upd_same) (.cons (.str _) (.cons (R1'.same (same_new ht _)) (.cons (R2.same (same_new ht _)) .nil)))) ⟨o1, o2⟩ ?_⟩
        show max x.dp y.dp + 1 ≤ d + 1
        omega
      · refine ⟨_, rfl, by decide, fun t ht => q _ _ (.but x y) (S1.trans (S2.trans (same_new ht _))) (.tup (SqT.of upd_same) (.cons (.str _) (.cons (R1'.same (same_new ht _)) (.cons (R2.same (same_new ht _)) .nil)))) ⟨o1, o2⟩ ?_⟩
        show max x.dp y.dp + 1 ≤ d + 1
        omega
theorem ok_law_note (F : Fun K "_law_note" "_law_note" s_law_note f fd) (M : Mg mg) (C_law_mix : Cal P w K mg base CX0 "_law_mix" 1 ["_law_number", "_law_k", "_law_many"] spMix3) (C_law_plain : Cal P w K mg base CX0 "_law_plain" 2 ["_law_number", "_law_kinds_here", "_law_words_here"] (spPlain K))
    (b : Binds K fd ["_law_number", "_law_deep", "_law_kinds_here", "_law_words_here"] []) (kp : PySem.W.keepIn K (.ref f) = true) (m : mg "_law_note" = some (.ref f)) : ∀ d : Nat, FnOk P w K mg base CX0 (3 + d) f fd ["_law_number", "_law_deep", "_law_kinds_here", "_law_words_here"] (spNoteG K d)
  | 0 => by
    refine F.ok sc_law_note (fun vs H Q E h => ?_) (fun cdv A outer s H vs Q E hr h => ?_)
    · obtain ⟨c, kl, wl, kx, ks, ws, rfl, _⟩ := h
      rfl
    obtain ⟨c, kl, wl, kx, ks, ws, rfl, d1, _⟩ := h
    exact absurd d1 (by decide)
  | d + 1 => step_note F M C_law_mix C_law_plain ⟨⟨f, fd, ok_law_note F M C_law_mix C_law_plain b kp m d, b, kp, m⟩⟩
end

theorem rep_tup {K : PySem.W.Frag} {H : Hp} {p : Addr} {ds : List PyData} (R : Rep K H (.ref p) (.tuple ds)) : ∃ xs, SqT K H p xs ∧ RepAll K H xs ds := by
  cases R with
  | tup T A => exact ⟨_, T, A⟩
theorem rep_cons {K : PySem.W.Frag} {H : Hp} {xs : List V} {d : PyData} {ds : List PyData} (R : RepAll K H xs (d :: ds)) : ∃ x ys, xs = x :: ys ∧ Rep K H x d ∧ RepAll K H ys ds := by
  cases R with
  | cons a b => exact ⟨_, _, rfl, a, b⟩
theorem rep_nil {K : PySem.W.Frag} {H : Hp} {xs : List V} (R : RepAll K H xs []) : xs = [] := by
  cases R
  rfl
theorem rep_str {K : PySem.W.Frag} {H : Hp} {x : V} {z : Str} (R : Rep K H x (.str z)) : x = .str z := by
  cases R
  rfl
theorem rep_one {K : PySem.W.Frag} {H : Hp} {p : Addr} {d : PyData} (R : Rep K H (.ref p) (.tuple [d])) : ∃ x, SqT K H p [x] ∧ Rep K H x d := by
  obtain ⟨xs, T, A⟩ := rep_tup R
  obtain ⟨x, ys, rfl, a, b⟩ := rep_cons A
  rw [rep_nil b] at T
  exact ⟨x, T, a⟩
theorem rep_two {K : PySem.W.Frag} {H : Hp} {p : Addr} {d e : PyData} (R : Rep K H (.ref p) (.tuple [d, e])) : ∃ x y, SqT K H p [x, y] ∧ Rep K H x d ∧ Rep K H y e := by
  obtain ⟨xs, T, A⟩ := rep_tup R
  obtain ⟨x, ys, rfl, a, b⟩ := rep_cons A
  obtain ⟨y, zs, rfl, c, d⟩ := rep_cons b
  rw [rep_nil d] at T
  exact ⟨x, y, T, a, c⟩
theorem rep_three {K : PySem.W.Frag} {H : Hp} {p : Addr} {d e g : PyData} (R : Rep K H (.ref p) (.tuple [d, e, g])) : ∃ x y z, SqT K H p [x, y, z] ∧ Rep K H x d ∧ Rep K H y e ∧ Rep K H z g := by
  obtain ⟨xs, T, A⟩ := rep_tup R
  obtain ⟨x, ys, rfl, a, b⟩ := rep_cons A
  obtain ⟨y, zs, rfl, c, d⟩ := rep_cons b
  obtain ⟨z, us, rfl, e, f⟩ := rep_cons d
  rw [rep_nil f] at T
  exact ⟨x, y, z, T, a, c, e⟩
theorem kind_inv {K : PySem.W.Frag} {H : Hp} {v : V} {k : Kd2} (R : Rep K H v (kD k)) : ∃ p, v = .ref p ∧ SqT K H p (kRow k) := by
  unfold kD at R
  cases R with
  | tup T A =>
    obtain ⟨x, ys, rfl, a, b⟩ := rep_cons A
    obtain ⟨y, zs, rfl, c, d⟩ := rep_cons b
    rw [rep_nil d, rep_str a, rep_str c] at T
    exact ⟨_, rfl, T⟩
theorem told_ref {K : PySem.W.Frag} {H : Hp} {v : V} {n : Nt} (R : ToldAt K H v n) : ∃ a, v = .ref a := by
  unfold ToldAt at R
  cases n <;> (unfold Nt.data at R; cases R; exact ⟨_, rfl⟩)

structure Ground (K : PySem.W.Frag) (H : Hp) (kl lt : Addr) (ks : List Kd2) (lk : List Int) : Prop where
  kx : ∃ xs, SqL K H kl xs ∧ KnA K H xs ks
  look : SqT K H lt (lk.map V.int)
  len : lk.length = ks.length
  pos : 1 ≤ ks.length
  le : ks.length ≤ 4
  ok : ∀ k ∈ ks, okKind k
  nn : ∀ x ∈ lk, 0 ≤ x
theorem Ground.same {K : PySem.W.Frag} {H H' : Hp} {kl lt : Addr} {ks : List Kd2} {lk : List Int} (G : Ground K H kl lt ks lk) (e : Same H H') : Ground K H' kl lt ks lk :=
  ⟨let ⟨xs, a, b⟩ := G.kx; ⟨xs, e.seq a, b.same e⟩, Same.tup e G.look, G.len, G.pos, G.le, G.ok, G.nn⟩
theorem Ground.at {K : PySem.W.Frag} {H : Hp} {kl lt : Addr} {ks : List Kd2} {lk : List Int} (G : Ground K H kl lt ks lk) {i : Nat} {k : Kd2} (h : ks[i]? = some k) : ∃ x, lk[i]? = some x ∧ atI (lk.map V.int) (i : Int) = some (.int x) ∧ x ∈ lk ∧ 0 ≤ x := by
  have hi := (List.getElem?_eq_some_iff.mp h).1
  have hj : i < lk.length := by rw [G.len]; exact hi
  have e : lk[i]? = some lk[i] := List.getElem?_eq_getElem hj
  have m : lk[i] ∈ lk := List.getElem_mem _
  exact ⟨_, e, atI_nat (by rw [List.getElem?_map, e]; rfl), m, G.nn _ m⟩
def anyAt (ks : List Kd2) (lk : List Int) (p : Kd2 → Int → Bool) : Bool := (ks.zip lk).any fun q => p q.1 q.2
def anyTo (ks : List Kd2) (lk : List Int) (p : Kd2 → Int → Bool) (i : Nat) : Bool := ((ks.zip lk).take i).any fun q => p q.1 q.2
theorem anyTo_zero {ks : List Kd2} {lk : List Int} {p : Kd2 → Int → Bool} : anyTo ks lk p 0 = false := rfl
theorem anyTo_succ {ks : List Kd2} {lk : List Int} {p : Kd2 → Int → Bool} {i : Nat} {k : Kd2} {x : Int} (h1 : ks[i]? = some k) (h2 : lk[i]? = some x) : anyTo ks lk p (i + 1) = (anyTo ks lk p i || p k x) := by
  unfold anyTo
  have e : (ks.zip lk)[i]? = some (k, x) := by
    rw [List.getElem?_zip_eq_some]
    exact ⟨h1, h2⟩
  rw [List.take_succ, e, List.any_append]
  simp
theorem anyTo_end {ks : List Kd2} {lk : List Int} {p : Kd2 → Int → Bool} (h : lk.length = ks.length) : anyTo ks lk p ks.length = anyAt ks lk p := by
  unfold anyTo anyAt
  rw [List.take_of_length_le (by rw [List.length_zip]; omega)]
def plcTo (ks : List Kd2) (lk : List Int) (p : Kd2 → Int → Bool) : Nat → List V
  | 0 => []
  | i + 1 => plcTo ks lk p i ++ (match ks[i]?, lk[i]? with | some k, some x => if p k x then [.int (i : Int)] else [] | _, _ => [])
theorem plcTo_succ {ks : List Kd2} {lk : List Int} {p : Kd2 → Int → Bool} {i : Nat} {k : Kd2} {x : Int} (h1 : ks[i]? = some k) (h2 : lk[i]? = some x) : plcTo ks lk p (i + 1) = plcTo ks lk p i ++ if p k x then [.int (i : Int)] else [] := by
  show plcTo ks lk p i ++ _ = _
  rw [h1, h2]
theorem plcTo_empty {ks : List Kd2} {lk : List Int} {p : Kd2 → Int → Bool} (h : lk.length = ks.length) : ∀ i, i ≤ ks.length → (plcTo ks lk p i).isEmpty = !(anyTo ks lk p i)
  | 0, _ => rfl
  | i + 1, hi => by
    have h1 : ks[i]? = some ks[i] := List.getElem?_eq_getElem (by omega)
    have h2 : lk[i]? = some lk[i] := List.getElem?_eq_getElem (by omega)
    have ih := plcTo_empty (p := p) h i (by omega)
    rw [plcTo_succ h1 h2, anyTo_succ h1 h2]
    cases e : p ks[i] lk[i] with
    | true => simp
    | false => simp [ih]
def pMade (lk : List Int) (s : List Nat) (k : Kd2) (x : Int) : Bool := decide (x ≠ 0) && decide (k.1 = s)
def pUsed (lk : List Int) (s : List Nat) (k : Kd2) (x : Int) : Bool := decide (x ≠ 0) && decide (k.2 = s)
def pChief (lk : List Int) (s : List Nat) (k : Kd2) (x : Int) : Bool := decide (∀ y ∈ lk, y ≤ x) && decide (k.1 = s)
def spPlaces (K : PySem.W.Frag) (p : List Int → List Nat → Kd2 → Int → Bool) : Sp := fun vs H Q _ => ∃ (kl lt : Addr) (s : List Nat) (ks : List Kd2) (lk : List Int), vs = [.ref kl, .ref lt, .str (txt s)] ∧ Ground K H kl lt ks lk ∧
  ∀ l xs H', Same H H' → H' l = some (.lst xs) → xs.length ≤ 4 → xs = plcTo ks lk (p lk s) ks.length → Q (.ref l) H'
def numIn (ks : List Kd2) (lk : List Int) (k : Kd2) : Int := (((ks.zip lk).find? fun q => decide (q.1 = k)).map (·.2)).getD 0
def spNumIn (K : PySem.W.Frag) : Sp := fun vs H Q _ => ∃ (kl lt p : Addr) (ks : List Kd2) (lk : List Int) (k : Kd2), vs = [.ref kl, .ref lt, .ref p] ∧ Ground K H kl lt ks lk ∧ SqT K H p (kRow k) ∧ okKind k ∧ ∀ H', Same H H' → Q (.int (numIn ks lk k)) H'
def spOver (K : PySem.W.Frag) : Sp := fun vs H Q _ => ∃ (kl lt p1 p2 : Addr) (ks : List Kd2) (lk : List Int) (k1 k2 : Kd2), vs = [.ref kl, .ref lt, .ref p1, .ref p2] ∧ Ground K H kl lt ks lk ∧ SqT K H p1 (kRow k1) ∧ okKind k1 ∧ SqT K H p2 (kRow k2) ∧ okKind k2 ∧ ∀ H', Same H H' → Q (.bl (decide (numIn ks lk k1 > numIn ks lk k2))) H'
theorem first_at {ks : List Kd2} {k : Kd2} (h : k ∈ ks) : ∃ j : Nat, ks[j]? = some k ∧ ∀ (m : Nat) (z : Kd2), m < j → ks[m]? = some z → z ≠ k := by
  induction ks with
  | nil => cases h
  | cons c ks ih =>
    by_cases e : c = k
    · exact ⟨0, by rw [e]; rfl, fun m z hm => absurd hm (by omega)⟩
    · have h' : k ∈ ks := by
        rcases List.mem_cons.mp h with z | z
        · exact absurd z.symm e
        · exact z
      obtain ⟨j, h1, h2⟩ := ih h'
      refine ⟨j + 1, by simpa using h1, fun m z hm hz => ?_⟩
      cases m with
      | zero => simp at hz; rw [← hz]; exact e
      | succ m => exact h2 m z (by omega) (by simpa using hz)
theorem numIn_at {k : Kd2} {x : Int} : ∀ {j : Nat} {ks : List Kd2} {lk : List Int}, ks[j]? = some k → (∀ (m : Nat) (z : Kd2), m < j → ks[m]? = some z → z ≠ k) → lk[j]? = some x → numIn ks lk k = x
  | _, [], _, h, _, _ => by simp at h
  | _, _ :: _, [], _, _, h => by simp at h
  | 0, c :: ks, y :: lk, h, _, h2 => by
    simp at h h2
    subst h h2
    unfold numIn
    simp
  | j + 1, c :: ks, y :: lk, h, hno, h2 => by
    have e : c ≠ k := hno 0 c (by omega) rfl
    have ih := numIn_at (j := j) (ks := ks) (lk := lk) (k := k) (x := x) (by simpa using h) (fun m z hm hz => hno (m + 1) z (by omega) (by simpa using hz)) (by simpa using h2)
    unfold numIn at ih ⊢
    rw [List.zip_cons_cons, List.find?_cons_of_neg (by simpa using e)]
    exact ih
theorem numIn_not {k : Kd2} : ∀ {ks : List Kd2} {lk : List Int}, k ∉ ks → numIn ks lk k = 0
  | [], _, _ => rfl
  | _ :: _, [], _ => rfl
  | c :: ks, y :: lk, h => by
    have e : c ≠ k := fun z => h (by rw [z]; exact List.mem_cons_self)
    have ih := numIn_not (ks := ks) (lk := lk) (k := k) fun z => h (List.mem_cons_of_mem _ z)
    unfold numIn at ih ⊢
    rw [List.zip_cons_cons, List.find?_cons_of_neg (by simpa using e)]
    exact ih
theorem txtV {a b : List Nat} : V.str (txt a) = V.str (txt b) ↔ a = b := by
  constructor
  · intro e
    have e2 : txt a = txt b := by injection e
    refine of_decide_eq_true ?_
    rw [← txt_inj, e2]
    exact beq_self_eq_true _
  · intro e
    rw [e]
section
variable {P : Program} {w : World} {K : PySem.W.Frag} {mg : Str → Option Value} {base : Heap} {f : Addr} {fd : FuncData}
theorem ok_made_places (F : Fun K "made_places" "made_places" s_made_places f fd) (M : Mg mg) : FnOk P w K mg base CX0 1 f fd ["kinds", "look", "stuff"] (spPlaces K pMade) := by
  refine F.ok sc_made_places (fun vs H Q E h => ?_) (fun cdv A outer s H vs Q E hr h => ?_)
  · obtain ⟨kl, lt, s, ks, lk, rfl, _⟩ := h
    rfl
  obtain ⟨kl, lt, st, ks, lk, rfl, G, q⟩ := h
  obtain ⟨kx, L, A⟩ := G.kx
  have lx := A.length
  refine ⟨_, (@pss_one _ _ _ (@ps_ret _ _ _ _ (@pe_comp _ _ _ _ _ _ _ _ _ _ _ _ _ _ _ rfl (CompOk.make (N' := ["stuff", "look", "place", "kind"]) (ix := [2, 1]) (nl := 2) (by rfl) (fm1 rfl (fm1 rfl fm0)) (by rfl) (by decide +kernel) rfl (by decide +kernel) rfl (And.intro ⟨rfl, .inl rfl, .inl rfl⟩ (And.intro ⟨rfl, .inl rfl, .inl rfl⟩ True.intro))) (@pi_or _ _ _ _ _ (@pi_enumL _ _ _ _ _ _ _ _ g_made_places_enumerate M.m_enumerate (@pa_cons _ _ _ _ _ (@pe_var _ 0 _ _ rfl v_made_places_0 dn_kinds dc_kinds) (@pa_nil _) (star1 rfl)) (by rfl)) (@pi_enumT _ _ _ _ _ _ _ _ g_made_places_enumerate M.m_enumerate (@pa_cons _ _ _ _ _ (@pe_var _ 0 _ _ rfl v_made_places_0 dn_kinds dc_kinds) (@pa_nil _) (star1 rfl)) (by rfl))) (fun _ _ _ _ _ => (@pg_tupK _ K _ _ 2 _ _ rfl rfl (@pgs_cons _ _ _ _ _ (@pg_name _ _ 2 _ (show List.Nodup (["stuff", "look", "place", "kind"] : List Str) from by decide) rfl (Or.inl rfl) (by first | exact .inl rfl | exact .inr rfl | assumption)) (@pgs_cons _ _ _ _ _ (@pg_name _ _ 3 _ (show List.Nodup (["stuff", "look", "place", "kind"] : List Str) from by decide) rfl (Or.inl rfl) (by first | exact .inl rfl | exact .inr rfl | assumption)) (@pgs_nil _) (by rfl)) (by rfl)) (by rfl) (by rfl))) (fun _ _ _ _ _ => (@pif_one _ _ _ (@PW.pt _ _ _ (@pw_and _ _ _ _ _ _ _ (@pt_cmpR _ _ _ _ _ _ _ _ (@op_ne _) (@pe_ix _ _ _ _ _ _ _ (ix_tupK (K := K) rfl) (@pv _ 1 _ _ (by rfl) (by first | exact Or.inl rfl | exact Or.inr (Or.inl rfl) | exact Or.inr (Or.inr rfl)) (by decide) (by decide)) (@pv _ 2 _ _ (by rfl) (by first | exact Or.inl rfl | exact Or.inr (Or.inl rfl) | exact Or.inr (Or.inr rfl)) (by decide) (by decide)) (fun _ _ => rfl)) (@pe_int _ _ _ _) (nomark _)) (@pw_and1 _ _ _ _ (@pt_cmpR _ _ _ _ _ _ _ _ (@op_eq _) (@pe_ix _ _ _ _ _ _ _ (ix_tupK (K := K) rfl) (@pv _ 3 _ _ (by rfl) (by first | exact Or.inl rfl | exact Or.inr (Or.inl rfl) | exact Or.inr (Or.inr rfl)) (by decide) (by decide)) (@pe_int _ _ _ _) (fun _ _ => rfl)) (@pv _ 0 _ _ (by rfl) (by first | exact Or.inl rfl | exact Or.inr (Or.inl rfl) | exact Or.inr (Or.inr rfl)) (by decide) (by decide)) (nomark _))))))) (fun _ _ _ _ _ => (@pv _ 2 _ _ (by rfl) (by first | exact Or.inl rfl | exact Or.inr (Or.inl rfl) | exact Or.inr (Or.inr rfl)) (by decide) (by decide))) (by intro _; rfl)))), ?_⟩
  simp only [iEnumL, iEnumT, iOr, tComp_eq, tComp1, slots, Option.getD_some, Option.getD_none, gName, tOp, tC, tVar, tCons, tNil, tRet, tTest, tAnd, gTup, gCons, gNil, rEq, rNe, rIxT, Kd_non, Kd_bl, Kd_int, Kd_str, sc_non_non, sc_non_int, sc_int_non, sc_non_bl, sc_bl_non, sc_non_str, sc_str_non, sc_int_int, sc_bl_bl, sc_str_str, sc_int_str, sc_str_int, sc_bl_str, sc_str_bl, decide_true, decide_false, L2.start, cxK, Int.reduceToNat, List.map_cons, List.map_nil, List.length_cons, List.length_nil, Nat.reduceAdd, Nat.reduceSub, Nat.zero_add, List.replicate_succ, List.replicate_zero, List.cons_append, List.nil_append, List.append_nil, List.getElem?_cons_zero, List.getElem?_cons_succ, List.set_cons_zero, List.set_cons_succ, Option.some.injEq, V.int.injEq, V.bl.injEq, V.ref.injEq, V.str.injEq, V.ty.injEq, List.cons.injEq, exists_eq_left', exists_eq_left, exists_eq_right, exists_and_left, exists_and_right, and_true, true_and, and_assoc, exists_const, decide_eq_true_eq, Bool.not_eq_true', Bool.not_true, Bool.not_false, Bool.not_not, decide_eq_false_iff_not, ite_not, Bool.false_eq_true, if_true, if_false, reduceCtorEq, and_false, false_and, exists_false, or_false, false_or, ↓reduceIte, eq_self, reduceIte]
  obtain ⟨Pc, hC⟩ : ∃ Pc : Addr → Nat → St → Hp → Prop, Pc = fun D i τ H' => ∃ y z xs, H' D = some (.lst xs) ∧ xs.length ≤ i ∧ xs = plcTo ks lk (pMade lk st) i ∧ Same H H' ∧ τ = [some (.str (txt st)), some (.ref lt), y, z] := ⟨_, rfl⟩
  refine compS_enumQ kx (.inl L) _ Pc ?_ (fun D i τ H' hD h => by rw [hC] at h; obtain ⟨y, z, xs, _, _, _, e, _⟩ := h; exact e) ?_ ?_
  · intro D hD
    rw [hC]
    exact ⟨_, _, _, upd_same, Nat.le_refl _, rfl, same_new hD _, rfl⟩
  · intro D i x T τ H' R' hD hx h hT next
    rw [hC] at h
    obtain ⟨y, z, xs, d1, d3, d4, d2, rfl⟩ := h
    obtain ⟨p, k, rfl, hk, hp⟩ := A.at hx
    obtain ⟨x, e1, e2, m, nn⟩ := G.at hk
    have li := (List.getElem?_eq_some_iff.mp hk).1
    have l4 := G.le
    obtain ⟨H2, g2, S2, T2⟩ := fresh_tup (K := K) hT [.int i, .ref p]
    rw [← g2]
    clear g2
    replace d1 := S2 _ _ d1
    replace d2 := d2.trans S2
    simp only [iEnumL, iEnumT, iOr, tComp_eq, tComp1, slots, Option.getD_some, Option.getD_none, gName, tOp, tC, tVar, tCons, tNil, tRet, tTest, tAnd, gTup, gCons, gNil, rEq, rNe, rIxT, Kd_non, Kd_bl, Kd_int, Kd_str, sc_non_non, sc_non_int, sc_int_non, sc_non_bl, sc_bl_non, sc_non_str, sc_str_non, sc_int_int, sc_bl_bl, sc_str_str, sc_int_str, sc_str_int, sc_bl_str, sc_str_bl, decide_true, decide_false, L2.start, cxK, Int.reduceToNat, List.map_cons, List.map_nil, List.length_cons, List.length_nil, Nat.reduceAdd, Nat.reduceSub, Nat.zero_add, List.replicate_succ, List.replicate_zero, List.cons_append, List.nil_append, List.append_nil, List.getElem?_cons_zero, List.getElem?_cons_succ, List.set_cons_zero, List.set_cons_succ, Option.some.injEq, V.int.injEq, V.bl.injEq, V.ref.injEq, V.str.injEq, V.ty.injEq, List.cons.injEq, exists_eq_left', exists_eq_left, exists_eq_right, exists_and_left, exists_and_right, and_true, true_and, and_assoc, exists_const, decide_eq_true_eq, Bool.not_eq_true', Bool.not_true, Bool.not_false, Bool.not_not, decide_eq_false_iff_not, ite_not, Bool.false_eq_true, if_true, if_false, reduceCtorEq, and_false, false_and, exists_false, or_false, false_or, ↓reduceIte, eq_self, reduceIte]
    refine ⟨_, T2, rfl, ?_⟩
    simp only [iEnumL, iEnumT, iOr, tComp_eq, tComp1, slots, Option.getD_some, Option.getD_none, gName, tOp, tC, tVar, tCons, tNil, tRet, tTest, tAnd, gTup, gCons, gNil, rEq, rNe, rIxT, Kd_non, Kd_bl, Kd_int, Kd_str, sc_non_non, sc_non_int, sc_int_non, sc_non_bl, sc_bl_non, sc_non_str, sc_str_non, sc_int_int, sc_bl_bl, sc_str_str, sc_int_str, sc_str_int, sc_bl_str, sc_str_bl, decide_true, decide_false, L2.start, cxK, Int.reduceToNat, List.map_cons, List.map_nil, List.length_cons, List.length_nil, Nat.reduceAdd, Nat.reduceSub, Nat.zero_add, List.replicate_succ, List.replicate_zero, List.cons_append, List.nil_append, List.append_nil, List.getElem?_cons_zero, List.getElem?_cons_succ, List.set_cons_zero, List.set_cons_succ, Option.some.injEq, V.int.injEq, V.bl.injEq, V.ref.injEq, V.str.injEq, V.ty.injEq, List.cons.injEq, exists_eq_left', exists_eq_left, exists_eq_right, exists_and_left, exists_and_right, and_true, true_and, and_assoc, exists_const, decide_eq_true_eq, Bool.not_eq_true', Bool.not_true, Bool.not_false, Bool.not_not, decide_eq_false_iff_not, ite_not, Bool.false_eq_true, if_true, if_false, reduceCtorEq, and_false, false_and, exists_false, or_false, false_or, ↓reduceIte, eq_self, reduceIte]
    refine ⟨_, Same.tup d2 G.look, _, e2, rfl, ?_⟩
    have stp := plcTo_succ (p := pMade lk st) hk e1
    have nx : ∀ (xs' : List V) (H3 : Hp), H3 D = some (.lst xs') → xs'.length ≤ i + 1 → xs' = plcTo ks lk (pMade lk st) (i + 1) → Same H H3 → R' [some (.str (txt st)), some (.ref lt), some (.int i), some (.ref p)] H3 := fun xs' H3 a1 a2 a3 a4 => next _ _ (by rw [hC]; exact ⟨_, _, _, a1, a2, a3, a4, rfl⟩)
    by_cases hz : x = 0
    · rw [if_pos (by rw [hz])]
      exact nx _ _ d1 (by omega) (by rw [stp, d4]; simp [pMade, hz]) d2
    · rw [if_neg (fun e => hz (by injection e))]
      refine ⟨_, Same.tup d2 hp, _, rfl, rfl, ?_⟩
      by_cases hs : k.1 = st
      · rw [if_pos (txtV.mpr hs)]
        refine ⟨_, d1, Nat.lt_of_le_of_lt d3 (Nat.lt_of_lt_of_le (m := 64) (by omega) (by decide)), nx _ _ upd_same (by rw [List.length_append]; simp; omega) (by rw [stp, d4]; simp [pMade, hz, hs]) (same_upd d2 hD _)⟩
      · rw [if_neg fun e => hs (txtV.mp e)]
        exact nx _ _ d1 (by omega) (by rw [stp, d4]; simp [pMade, hs]) d2
  · intro D τ H' hD h
    rw [hC] at h
    obtain ⟨y, z, xs, d1, d3, d4, d2, rfl⟩ := h
    have l4 := G.le
    rw [lx] at d3 d4
    exact q _ _ _ d2 d1 (by omega) d4
theorem ok_used_places (F : Fun K "used_places" "used_places" s_used_places f fd) (M : Mg mg) : FnOk P w K mg base CX0 1 f fd ["kinds", "look", "use"] (spPlaces K pUsed) := by
  refine F.ok sc_used_places (fun vs H Q E h => ?_) (fun cdv A outer s H vs Q E hr h => ?_)
  · obtain ⟨kl, lt, s, ks, lk, rfl, _⟩ := h
    rfl
  obtain ⟨kl, lt, st, ks, lk, rfl, G, q⟩ := h
  obtain ⟨kx, L, A⟩ := G.kx
  have lx := A.length
  refine ⟨_, (@pss_one _ _ _ (@ps_ret _ _ _ _ (@pe_comp _ _ _ _ _ _ _ _ _ _ _ _ _ _ _ rfl (CompOk.make (N' := ["use", "look", "place", "kind"]) (ix := [2, 1]) (nl := 2) (by rfl) (fm1 rfl (fm1 rfl fm0)) (by rfl) (by decide +kernel) rfl (by decide +kernel) rfl (And.intro ⟨rfl, .inl rfl, .inl rfl⟩ (And.intro ⟨rfl, .inl rfl, .inl rfl⟩ True.intro))) (@pi_or _ _ _ _ _ (@pi_enumL _ _ _ _ _ _ _ _ g_used_places_enumerate M.m_enumerate (@pa_cons _ _ _ _ _ (@pe_var _ 0 _ _ rfl v_used_places_0 dn_kinds dc_kinds) (@pa_nil _) (star1 rfl)) (by rfl)) (@pi_enumT _ _ _ _ _ _ _ _ g_used_places_enumerate M.m_enumerate (@pa_cons _ _ _ _ _ (@pe_var _ 0 _ _ rfl v_used_places_0 dn_kinds dc_kinds) (@pa_nil _) (star1 rfl)) (by rfl))) (fun _ _ _ _ _ => (@pg_tupK _ K _ _ 2 _ _ rfl rfl (@pgs_cons _ _ _ _ _ (@pg_name _ _ 2 _ (show List.Nodup (["use", "look", "place", "kind"] : List Str) from by decide) rfl (Or.inl rfl) (by first | exact .inl rfl | exact .inr rfl | assumption)) (@pgs_cons _ _ _ _ _ (@pg_name _ _ 3 _ (show List.Nodup (["use", "look", "place", "kind"] : List Str) from by decide) rfl (Or.inl rfl) (by first | exact .inl rfl | exact .inr rfl | assumption)) (@pgs_nil _) (by rfl)) (by rfl)) (by rfl) (by rfl))) (fun _ _ _ _ _ => (@pif_one _ _ _ (@PW.pt _ _ _ (@pw_and _ _ _ _ _ _ _ (@pt_cmpR _ _ _ _ _ _ _ _ (@op_ne _) (@pe_ix _ _ _ _ _ _ _ (ix_tupK (K := K) rfl) (@pv _ 1 _ _ (by rfl) (by first | exact Or.inl rfl | exact Or.inr (Or.inl rfl) | exact Or.inr (Or.inr rfl)) (by decide) (by decide)) (@pv _ 2 _ _ (by rfl) (by first | exact Or.inl rfl | exact Or.inr (Or.inl rfl) | exact Or.inr (Or.inr rfl)) (by decide) (by decide)) (fun _ _ => rfl)) (@pe_int _ _ _ _) (nomark _)) (@pw_and1 _ _ _ _ (@pt_cmpR _ _ _ _ _ _ _ _ (@op_eq _) (@pe_ix _ _ _ _ _ _ _ (ix_tupK (K := K) rfl) (@pv _ 3 _ _ (by rfl) (by first | exact Or.inl rfl | exact Or.inr (Or.inl rfl) | exact Or.inr (Or.inr rfl)) (by decide) (by decide)) (@pe_int _ _ _ _) (fun _ _ => rfl)) (@pv _ 0 _ _ (by rfl) (by first | exact Or.inl rfl | exact Or.inr (Or.inl rfl) | exact Or.inr (Or.inr rfl)) (by decide) (by decide)) (nomark _))))))) (fun _ _ _ _ _ => (@pv _ 2 _ _ (by rfl) (by first | exact Or.inl rfl | exact Or.inr (Or.inl rfl) | exact Or.inr (Or.inr rfl)) (by decide) (by decide))) (by intro _; rfl)))), ?_⟩
  simp only [iEnumL, iEnumT, iOr, tComp_eq, tComp1, slots, Option.getD_some, Option.getD_none, gName, tOp, tC, tVar, tCons, tNil, tRet, tTest, tAnd, gTup, gCons, gNil, rEq, rNe, rIxT, Kd_non, Kd_bl, Kd_int, Kd_str, sc_non_non, sc_non_int, sc_int_non, sc_non_bl, sc_bl_non, sc_non_str, sc_str_non, sc_int_int, sc_bl_bl, sc_str_str, sc_int_str, sc_str_int, sc_bl_str, sc_str_bl, decide_true, decide_false, L2.start, cxK, Int.reduceToNat, List.map_cons, List.map_nil, List.length_cons, List.length_nil, Nat.reduceAdd, Nat.reduceSub, Nat.zero_add, List.replicate_succ, List.replicate_zero, List.cons_append, List.nil_append, List.append_nil, List.getElem?_cons_zero, List.getElem?_cons_succ, List.set_cons_zero, List.set_cons_succ, Option.some.injEq, V.int.injEq, V.bl.injEq, V.ref.injEq, V.str.injEq, V.ty.injEq, List.cons.injEq, exists_eq_left', exists_eq_left, exists_eq_right, exists_and_left, exists_and_right, and_true, true_and, and_assoc, exists_const, decide_eq_true_eq, Bool.not_eq_true', Bool.not_true, Bool.not_false, Bool.not_not, decide_eq_false_iff_not, ite_not, Bool.false_eq_true, if_true, if_false, reduceCtorEq, and_false, false_and, exists_false, or_false, false_or, ↓reduceIte, eq_self, reduceIte]
  obtain ⟨Pc, hC⟩ : ∃ Pc : Addr → Nat → St → Hp → Prop, Pc = fun D i τ H' => ∃ y z xs, H' D = some (.lst xs) ∧ xs.length ≤ i ∧ xs = plcTo ks lk (pUsed lk st) i ∧ Same H H' ∧ τ = [some (.str (txt st)), some (.ref lt), y, z] := ⟨_, rfl⟩
  refine compS_enumQ kx (.inl L) _ Pc ?_ (fun D i τ H' hD h => by rw [hC] at h; obtain ⟨y, z, xs, _, _, _, e, _⟩ := h; exact e) ?_ ?_
  · intro D hD
    rw [hC]
    exact ⟨_, _, _, upd_same, Nat.le_refl _, rfl, same_new hD _, rfl⟩
  · intro D i x T τ H' R' hD hx h hT next
    rw [hC] at h
    obtain ⟨y, z, xs, d1, d3, d4, d2, rfl⟩ := h
    obtain ⟨p, k, rfl, hk, hp⟩ := A.at hx
    obtain ⟨x, e1, e2, m, nn⟩ := G.at hk
    have li := (List.getElem?_eq_some_iff.mp hk).1
    have l4 := G.le
    obtain ⟨H2, g2, S2, T2⟩ := fresh_tup (K := K) hT [.int i, .ref p]
    rw [← g2]
    clear g2
    replace d1 := S2 _ _ d1
    replace d2 := d2.trans S2
    simp only [iEnumL, iEnumT, iOr, tComp_eq, tComp1, slots, Option.getD_some, Option.getD_none, gName, tOp, tC, tVar, tCons, tNil, tRet, tTest, tAnd, gTup, gCons, gNil, rEq, rNe, rIxT, Kd_non, Kd_bl, Kd_int, Kd_str, sc_non_non, sc_non_int, sc_int_non, sc_non_bl, sc_bl_non, sc_non_str, sc_str_non, sc_int_int, sc_bl_bl, sc_str_str, sc_int_str, sc_str_int, sc_bl_str, sc_str_bl, decide_true, decide_false, L2.start, cxK, Int.reduceToNat, List.map_cons, List.map_nil, List.length_cons, List.length_nil, Nat.reduceAdd, Nat.reduceSub, Nat.zero_add, List.replicate_succ, List.replicate_zero, List.cons_append, List.nil_append, List.append_nil, List.getElem?_cons_zero, List.getElem?_cons_succ, List.set_cons_zero, List.set_cons_succ, Option.some.injEq, V.int.injEq, V.bl.injEq, V.ref.injEq, V.str.injEq, V.ty.injEq, List.cons.injEq, exists_eq_left', exists_eq_left, exists_eq_right, exists_and_left, exists_and_right, and_true, true_and, and_assoc, exists_const, decide_eq_true_eq, Bool.not_eq_true', Bool.not_true, Bool.not_false, Bool.not_not, decide_eq_false_iff_not, ite_not, Bool.false_eq_true, if_true, if_false, reduceCtorEq, and_false, false_and, exists_false, or_false, false_or, ↓reduceIte, eq_self, reduceIte]
    refine ⟨_, T2, rfl, ?_⟩
    simp only [iEnumL, iEnumT, iOr, tComp_eq, tComp1, slots, Option.getD_some, Option.getD_none, gName, tOp, tC, tVar, tCons, tNil, tRet, tTest, tAnd, gTup, gCons, gNil, rEq, rNe, rIxT, Kd_non, Kd_bl, Kd_int, Kd_str, sc_non_non, sc_non_int, sc_int_non, sc_non_bl, sc_bl_non, sc_non_str, sc_str_non, sc_int_int, sc_bl_bl, sc_str_str, sc_int_str, sc_str_int, sc_bl_str, sc_str_bl, decide_true, decide_false, L2.start, cxK, Int.reduceToNat, List.map_cons, List.map_nil, List.length_cons, List.length_nil, Nat.reduceAdd, Nat.reduceSub, Nat.zero_add, List.replicate_succ, List.replicate_zero, List.cons_append, List.nil_append, List.append_nil, List.getElem?_cons_zero, List.getElem?_cons_succ, List.set_cons_zero, List.set_cons_succ, Option.some.injEq, V.int.injEq, V.bl.injEq, V.ref.injEq, V.str.injEq, V.ty.injEq, List.cons.injEq, exists_eq_left', exists_eq_left, exists_eq_right, exists_and_left, exists_and_right, and_true, true_and, and_assoc, exists_const, decide_eq_true_eq, Bool.not_eq_true', Bool.not_true, Bool.not_false, Bool.not_not, decide_eq_false_iff_not, ite_not, Bool.false_eq_true, if_true, if_false, reduceCtorEq, and_false, false_and, exists_false, or_false, false_or, ↓reduceIte, eq_self, reduceIte]
    refine ⟨_, Same.tup d2 G.look, _, e2, rfl, ?_⟩
    have stp := plcTo_succ (p := pUsed lk st) hk e1
    have nx : ∀ (xs' : List V) (H3 : Hp), H3 D = some (.lst xs') → xs'.length ≤ i + 1 → xs' = plcTo ks lk (pUsed lk st) (i + 1) → Same H H3 → R' [some (.str (txt st)), some (.ref lt), some (.int i), some (.ref p)] H3 := fun xs' H3 a1 a2 a3 a4 => next _ _ (by rw [hC]; exact ⟨_, _, _, a1, a2, a3, a4, rfl⟩)
    by_cases hz : x = 0
    · rw [if_pos (by rw [hz])]
      exact nx _ _ d1 (by omega) (by rw [stp, d4]; simp [pUsed, hz]) d2
    · rw [if_neg (fun e => hz (by injection e))]
      refine ⟨_, Same.tup d2 hp, _, rfl, rfl, ?_⟩
      by_cases hs : k.2 = st
      · rw [if_pos (txtV.mpr hs)]
        refine ⟨_, d1, Nat.lt_of_le_of_lt d3 (Nat.lt_of_lt_of_le (m := 64) (by omega) (by decide)), nx _ _ upd_same (by rw [List.length_append]; simp; omega) (by rw [stp, d4]; simp [pUsed, hz, hs]) (same_upd d2 hD _)⟩
      · rw [if_neg fun e => hs (txtV.mp e)]
        exact nx _ _ d1 (by omega) (by rw [stp, d4]; simp [pUsed, hs]) d2
  · intro D τ H' hD h
    rw [hC] at h
    obtain ⟨y, z, xs, d1, d3, d4, d2, rfl⟩ := h
    have l4 := G.le
    rw [lx] at d3 d4
    exact q _ _ _ d2 d1 (by omega) d4
theorem ok_chief_places (F : Fun K "chief_places" "chief_places" s_chief_places f fd) (M : Mg mg) : FnOk P w K mg base CX0 1 f fd ["kinds", "look", "stuff"] (spPlaces K pChief) := by
  refine F.ok sc_chief_places (fun vs H Q E h => ?_) (fun cdv A outer s H vs Q E hr h => ?_)
  · obtain ⟨kl, lt, s, ks, lk, rfl, _⟩ := h
    rfl
  obtain ⟨kl, lt, st, ks, lk, rfl, G, q⟩ := h
  obtain ⟨kx, L, A⟩ := G.kx
  have lx := A.length
  refine ⟨_, (@pss_cons _ _ _ _ _ (@ps_set _ _ 3 _ _ _ _ sc_chief_places.nd rfl l_chief_places_3 (@pe_callB _ _ _ _ _ _ _ _ _ (call_max1 rfl) g_chief_places_max M.m_max b_max (@pa_cons _ _ _ _ _ (@pe_var _ 1 _ _ rfl v_chief_places_1 dn_look dc_look) (@pa_nil _) (star1 rfl)) nn_max dn_max (star1 rfl) nost0) (swap1 rfl) (.inl rfl)) (@pss_one _ _ _ (@ps_ret _ _ _ _ (@pe_comp _ _ _ _ _ _ _ _ _ _ _ _ _ _ _ rfl (CompOk.make (N' := ["greatest", "stuff", "look", "place", "kind"]) (ix := [3, 2, 1]) (nl := 2) (by rfl) (fm1 rfl (fm1 rfl (fm1 rfl fm0))) (by rfl) (by decide +kernel) rfl (by decide +kernel) rfl (And.intro ⟨rfl, .inl rfl, .inl rfl⟩ (And.intro ⟨rfl, .inl rfl, .inl rfl⟩ (And.intro ⟨rfl, .inl rfl, .inl rfl⟩ True.intro)))) (@pi_or _ _ _ _ _ (@pi_enumL _ _ _ _ _ _ _ _ g_chief_places_enumerate M.m_enumerate (@pa_cons _ _ _ _ _ (@pe_var _ 0 _ _ rfl v_chief_places_0 dn_kinds dc_kinds) (@pa_nil _) (star1 rfl)) (by rfl)) (@pi_enumT _ _ _ _ _ _ _ _ g_chief_places_enumerate M.m_enumerate (@pa_cons _ _ _ _ _ (@pe_var _ 0 _ _ rfl v_chief_places_0 dn_kinds dc_kinds) (@pa_nil _) (star1 rfl)) (by rfl))) (fun _ _ _ _ _ => (@pg_tupK _ K _ _ 2 _ _ rfl rfl (@pgs_cons _ _ _ _ _ (@pg_name _ _ 3 _ (show List.Nodup (["greatest", "stuff", "look", "place", "kind"] : List Str) from by decide) rfl (Or.inl rfl) (by first | exact .inl rfl | exact .inr rfl | assumption)) (@pgs_cons _ _ _ _ _ (@pg_name _ _ 4 _ (show List.Nodup (["greatest", "stuff", "look", "place", "kind"] : List Str) from by decide) rfl (Or.inl rfl) (by first | exact .inl rfl | exact .inr rfl | assumption)) (@pgs_nil _) (by rfl)) (by rfl)) (by rfl) (by rfl))) (fun _ _ _ _ _ => (@pif_one _ _ _ (@PW.pt _ _ _ (@pw_and _ _ _ _ _ _ _ (@pt_cmpR _ _ _ _ _ _ _ _ (@op_eq _) (@pe_ix _ _ _ _ _ _ _ (ix_tupK (K := K) rfl) (@pv _ 2 _ _ (by rfl) (by first | exact Or.inl rfl | exact Or.inr (Or.inl rfl) | exact Or.inr (Or.inr rfl)) (by decide) (by decide)) (@pv _ 3 _ _ (by rfl) (by first | exact Or.inl rfl | exact Or.inr (Or.inl rfl) | exact Or.inr (Or.inr rfl)) (by decide) (by decide)) (fun _ _ => rfl)) (@pv _ 0 _ _ (by rfl) (by first | exact Or.inl rfl | exact Or.inr (Or.inl rfl) | exact Or.inr (Or.inr rfl)) (by decide) (by decide)) (nomark _)) (@pw_and1 _ _ _ _ (@pt_cmpR _ _ _ _ _ _ _ _ (@op_eq _) (@pe_ix _ _ _ _ _ _ _ (ix_tupK (K := K) rfl) (@pv _ 4 _ _ (by rfl) (by first | exact Or.inl rfl | exact Or.inr (Or.inl rfl) | exact Or.inr (Or.inr rfl)) (by decide) (by decide)) (@pe_int _ _ _ _) (fun _ _ => rfl)) (@pv _ 1 _ _ (by rfl) (by first | exact Or.inl rfl | exact Or.inr (Or.inl rfl) | exact Or.inr (Or.inr rfl)) (by decide) (by decide)) (nomark _))))))) (fun _ _ _ _ _ => (@pv _ 3 _ _ (by rfl) (by first | exact Or.inl rfl | exact Or.inr (Or.inl rfl) | exact Or.inr (Or.inr rfl)) (by decide) (by decide))) (by intro _; rfl))))), ?_⟩
  simp only [iEnumL, iEnumT, iOr, tComp_eq, tComp1, slots, Option.getD_some, Option.getD_none, tSeq, tAsg, gName, tOp, tC, tVar, tCB, tCons, tNil, tRet, tTest, tAnd, gTup, gCons, gNil, rEq, rIxT, Kd_non, Kd_bl, Kd_int, Kd_str, sc_non_non, sc_non_int, sc_int_non, sc_non_bl, sc_bl_non, sc_non_str, sc_str_non, sc_int_int, sc_bl_bl, sc_str_str, sc_int_str, sc_str_int, sc_bl_str, sc_str_bl, decide_true, decide_false, L2.start, cxK, Int.reduceToNat, List.map_cons, List.map_nil, List.length_cons, List.length_nil, Nat.reduceAdd, Nat.reduceSub, Nat.zero_add, List.replicate_succ, List.replicate_zero, List.cons_append, List.nil_append, List.append_nil, List.getElem?_cons_zero, List.getElem?_cons_succ, List.set_cons_zero, List.set_cons_succ, Option.some.injEq, V.int.injEq, V.bl.injEq, V.ref.injEq, V.str.injEq, V.ty.injEq, List.cons.injEq, exists_eq_left', exists_eq_left, exists_eq_right, exists_and_left, exists_and_right, and_true, true_and, and_assoc, exists_const, decide_eq_true_eq, Bool.not_eq_true', Bool.not_true, Bool.not_false, Bool.not_not, decide_eq_false_iff_not, ite_not, Bool.false_eq_true, if_true, if_false, reduceCtorEq, and_false, false_and, exists_false, or_false, false_or, ↓reduceIte, eq_self, reduceIte]
  refine ⟨lk, .inr G.look, by rw [G.len]; exact G.pos, fun mx hm htop => ?_⟩
  obtain ⟨Pc, hC⟩ : ∃ Pc : Addr → Nat → St → Hp → Prop, Pc = fun D i τ H' => ∃ y z xs, H' D = some (.lst xs) ∧ xs.length ≤ i ∧ xs = plcTo ks lk (pChief lk st) i ∧ Same H H' ∧ τ = [some (.int mx), some (.str (txt st)), some (.ref lt), y, z] := ⟨_, rfl⟩
  refine compS_enumQ kx (.inl L) _ Pc ?_ (fun D i τ H' hD h => by rw [hC] at h; obtain ⟨y, z, xs, _, _, _, e, _⟩ := h; exact e) ?_ ?_
  · intro D hD
    rw [hC]
    exact ⟨_, _, _, upd_same, Nat.le_refl _, rfl, same_new hD _, rfl⟩
  · intro D i x T τ H' R' hD hx h hT next
    rw [hC] at h
    obtain ⟨y, z, xs, d1, d3, d4, d2, rfl⟩ := h
    obtain ⟨p, k, rfl, hk, hp⟩ := A.at hx
    obtain ⟨x, e1, e2, m, nn⟩ := G.at hk
    have li := (List.getElem?_eq_some_iff.mp hk).1
    have l4 := G.le
    obtain ⟨H2, g2, S2, T2⟩ := fresh_tup (K := K) hT [.int i, .ref p]
    rw [← g2]
    clear g2
    replace d1 := S2 _ _ d1
    replace d2 := d2.trans S2
    simp only [iEnumL, iEnumT, iOr, tComp_eq, tComp1, slots, Option.getD_some, Option.getD_none, tSeq, tAsg, gName, tOp, tC, tVar, tCB, tCons, tNil, tRet, tTest, tAnd, gTup, gCons, gNil, rEq, rIxT, Kd_non, Kd_bl, Kd_int, Kd_str, sc_non_non, sc_non_int, sc_int_non, sc_non_bl, sc_bl_non, sc_non_str, sc_str_non, sc_int_int, sc_bl_bl, sc_str_str, sc_int_str, sc_str_int, sc_bl_str, sc_str_bl, decide_true, decide_false, L2.start, cxK, Int.reduceToNat, List.map_cons, List.map_nil, List.length_cons, List.length_nil, Nat.reduceAdd, Nat.reduceSub, Nat.zero_add, List.replicate_succ, List.replicate_zero, List.cons_append, List.nil_append, List.append_nil, List.getElem?_cons_zero, List.getElem?_cons_succ, List.set_cons_zero, List.set_cons_succ, Option.some.injEq, V.int.injEq, V.bl.injEq, V.ref.injEq, V.str.injEq, V.ty.injEq, List.cons.injEq, exists_eq_left', exists_eq_left, exists_eq_right, exists_and_left, exists_and_right, and_true, true_and, and_assoc, exists_const, decide_eq_true_eq, Bool.not_eq_true', Bool.not_true, Bool.not_false, Bool.not_not, decide_eq_false_iff_not, ite_not, Bool.false_eq_true, if_true, if_false, reduceCtorEq, and_false, false_and, exists_false, or_false, false_or, ↓reduceIte, eq_self, reduceIte]
    refine ⟨_, T2, rfl, ?_⟩
    simp only [iEnumL, iEnumT, iOr, tComp_eq, tComp1, slots, Option.getD_some, Option.getD_none, tSeq, tAsg, gName, tOp, tC, tVar, tCB, tCons, tNil, tRet, tTest, tAnd, gTup, gCons, gNil, rEq, rIxT, Kd_non, Kd_bl, Kd_int, Kd_str, sc_non_non, sc_non_int, sc_int_non, sc_non_bl, sc_bl_non, sc_non_str, sc_str_non, sc_int_int, sc_bl_bl, sc_str_str, sc_int_str, sc_str_int, sc_bl_str, sc_str_bl, decide_true, decide_false, L2.start, cxK, Int.reduceToNat, List.map_cons, List.map_nil, List.length_cons, List.length_nil, Nat.reduceAdd, Nat.reduceSub, Nat.zero_add, List.replicate_succ, List.replicate_zero, List.cons_append, List.nil_append, List.append_nil, List.getElem?_cons_zero, List.getElem?_cons_succ, List.set_cons_zero, List.set_cons_succ, Option.some.injEq, V.int.injEq, V.bl.injEq, V.ref.injEq, V.str.injEq, V.ty.injEq, List.cons.injEq, exists_eq_left', exists_eq_left, exists_eq_right, exists_and_left, exists_and_right, and_true, true_and, and_assoc, exists_const, decide_eq_true_eq, Bool.not_eq_true', Bool.not_true, Bool.not_false, Bool.not_not, decide_eq_false_iff_not, ite_not, Bool.false_eq_true, if_true, if_false, reduceCtorEq, and_false, false_and, exists_false, or_false, false_or, ↓reduceIte, eq_self, reduceIte]
    refine ⟨_, Same.tup d2 G.look, _, e2, rfl, ?_⟩
    have stp := plcTo_succ (p := pChief lk st) hk e1
    have nx : ∀ (xs' : List V) (H3 : Hp), H3 D = some (.lst xs') → xs'.length ≤ i + 1 → xs' = plcTo ks lk (pChief lk st) (i + 1) → Same H H3 → R' [some (.int mx), some (.str (txt st)), some (.ref lt), some (.int i), some (.ref p)] H3 := fun xs' H3 a1 a2 a3 a4 => next _ _ (by rw [hC]; exact ⟨_, _, _, a1, a2, a3, a4, rfl⟩)
    have hz' : x = mx ↔ ∀ y ∈ lk, y ≤ x := ⟨fun e y hy => e ▸ htop y hy, fun h => by
      have a := htop x m
      have b := h mx hm
      omega⟩
    by_cases hz : ¬ ∀ y ∈ lk, y ≤ x
    · rw [if_neg (fun e => hz (hz'.mp (by injection e)))]
      exact nx _ _ d1 (by omega) (by rw [stp, d4]; simp [pChief, hz]) d2
    · rw [if_pos (by rw [hz'.mpr (Decidable.not_not.mp hz)])]
      refine ⟨_, Same.tup d2 hp, _, rfl, rfl, ?_⟩
      by_cases hs : k.1 = st
      · rw [if_pos (txtV.mpr hs)]
        refine ⟨_, d1, Nat.lt_of_le_of_lt d3 (Nat.lt_of_lt_of_le (m := 64) (by omega) (by decide)), nx _ _ upd_same (by rw [List.length_append]; simp; omega) (by rw [stp, show pChief lk st k x = true from by unfold pChief; rw [decide_eq_true (Decidable.not_not.mp hz), decide_eq_true hs]; rfl, d4]; simp) (same_upd d2 hD _)⟩
      · rw [if_neg fun e => hs (txtV.mp e)]
        exact nx _ _ d1 (by omega) (by rw [stp, d4]; simp [pChief, hs]) d2
  · intro D τ H' hD h
    rw [hC] at h
    obtain ⟨y, z, xs, d1, d3, d4, d2, rfl⟩ := h
    have l4 := G.le
    rw [lx] at d3 d4
    exact q _ _ _ d2 d1 (by omega) d4
theorem ok_number_in (F : Fun K "number_in" "number_in" s_number_in f fd) (M : Mg mg) : FnOk P w K mg base CX0 1 f fd ["kinds", "look", "kind"] (spNumIn K) := by
  refine F.ok sc_number_in (fun vs H Q E h => ?_) (fun cdv A outer s H vs Q E hr h => ?_)
  · obtain ⟨kl, lt, p, ks, lk, k, rfl, _⟩ := h
    rfl
  obtain ⟨kl, lt, p, ks, lk, k, rfl, G, hp, ok, q⟩ := h
  obtain ⟨kx, L, A⟩ := G.kx
  have lx := A.length
  refine ⟨_, (@pss_cons _ _ _ _ _ (@ps_if _ _ _ _ _ _ _ _ (@pt_cmpR _ _ _ _ _ _ _ _ (op_notInD (hu60 hr)) (@pe_var _ 2 _ _ rfl v_number_in_2 dn_kind dc_kind) (@pe_var _ 0 _ _ rfl v_number_in_0 dn_kinds dc_kinds) (by with_unfolding_all rfl)) (@pss_one _ _ _ (@ps_ret _ _ _ _ (@pe_int _ _ _ _))) (@pss_nil _)) (@pss_one _ _ _ (@ps_ret _ _ _ _ (@pe_ix _ _ _ _ _ _ _ (@ix_tup _) (@pe_var _ 1 _ _ rfl v_number_in_1 dn_look dc_look) (@pe_bm _ _ _ _ _ _ _ _ _ _ _ _ PySem.F.plainAttrs_list PySem.F.slot_list_index PySem.F.type_list_index (mt_indexD (K := K) rfl (hu60 hr)) (@pe_var _ 0 _ _ rfl v_number_in_0 dn_kinds dc_kinds) (@pa_cons _ _ _ _ _ (@pe_var _ 2 _ _ rfl v_number_in_2 dn_kind dc_kind) (@pa_nil _) (star1 rfl)) (by rfl) (by rfl) (by rfl) (by rfl) (by rfl)) (fun _ _ => rfl))))), ?_⟩
  simp only [slots, Option.getD_some, Option.getD_none, tSeq, tOp, tC, tVar, tCons, tNil, tRet, tIfS, tTest, tNext, tBM, rIxT, Kd_non, Kd_bl, Kd_int, Kd_str, decide_true, decide_false, L2.start, cxK, Int.reduceToNat, List.map_cons, List.map_nil, List.length_cons, List.length_nil, Nat.reduceAdd, Nat.reduceSub, Nat.zero_add, List.replicate_succ, List.replicate_zero, List.cons_append, List.nil_append, List.append_nil, List.getElem?_cons_zero, List.getElem?_cons_succ, List.set_cons_zero, List.set_cons_succ, Option.some.injEq, V.int.injEq, V.bl.injEq, V.ref.injEq, V.str.injEq, V.ty.injEq, List.cons.injEq, exists_eq_left', exists_eq_left, exists_eq_right, exists_and_left, exists_and_right, and_true, true_and, and_assoc, exists_const, decide_eq_true_eq, Bool.not_eq_true', Bool.not_true, Bool.not_false, Bool.not_not, decide_eq_false_iff_not, ite_not, Bool.false_eq_true, if_true, if_false, reduceCtorEq, and_false, false_and, exists_false, or_false, false_or, ↓reduceIte, eq_self, reduceIte]
  refine rInD_kind hp ok L A G.ok ⟨_, rfl, ?_⟩
  by_cases hk : k ∈ ks
  · rw [if_neg (by simp [hk])]
    refine ⟨.inl ⟨rfl, _, L⟩, ?_⟩
    obtain ⟨j, hj, hno⟩ := first_at hk
    have lj := (List.getElem?_eq_some_iff.mp hj).1
    have l4 := G.le
    obtain ⟨x, e1, e2, _, _⟩ := G.at hj
    obtain ⟨f1, f2⟩ := flat_kinds G.ok
    refine ⟨kl, .ref p, kD k, ks.map kD, j, rfl, rfl, by omega, rep_kind hp, .lst L A.rep, flat_kind ok, ⟨f1, ?_⟩, ⟨kD k, by rw [List.getElem?_map, hj]; rfl, by rw [eqv_kind]; exact decide_eq_true rfl⟩, fun m z hm hz => ?_, ?_⟩
    · show PyData.depthAll (ks.map kD) + 1 ≤ 40
      omega
    · rw [List.getElem?_map] at hz
      obtain ⟨z', ez, rfl⟩ := Option.map_eq_some_iff.mp hz
      rw [eqv_kind]
      exact decide_eq_false (hno m z' hm ez)
    · refine ⟨_, _, rfl, G.look, _, e2, ?_⟩
      rw [← numIn_at hj hno e1]
      exact q _ (Same.refl _)
  · rw [if_pos (by simp [hk])]
    rw [← numIn_not (lk := lk) hk]
    exact q _ (Same.refl _)
theorem ok_is_over (F : Fun K "is_over" "is_over" s_is_over f fd) (M : Mg mg) (C_number_in : Cal P w K mg base CX0 "number_in" 1 ["kinds", "look", "kind"] (spNumIn K)) : FnOk P w K mg base CX0 2 f fd ["kinds", "look", "one", "other"] (spOver K) := by
  refine F.ok sc_is_over (fun vs H Q E h => ?_) (fun cdv A outer s H vs Q E hr h => ?_)
  · obtain ⟨kl, lt, p1, p2, ks, lk, k1, k2, rfl, _⟩ := h
    rfl
  obtain ⟨kl, lt, p1, p2, ks, lk, k1, k2, rfl, G, h1, o1, h2, o2, q⟩ := h
  refine ⟨_, (@pss_one _ _ _ (@ps_ret _ _ _ _ (@pe_cmpR _ _ _ _ _ _ _ _ (@op_gt _) (@pe_callC _ _ _ _ _ _ _ _ _ _ _ C_number_in hr g_is_over_number_in (@pa_cons _ _ _ _ _ (@pe_var _ 0 _ _ rfl v_is_over_0 dn_kinds dc_kinds) (@pa_cons _ _ _ _ _ (@pe_var _ 1 _ _ rfl v_is_over_1 dn_look dc_look) (@pa_cons _ _ _ _ _ (@pe_var _ 2 _ _ rfl v_is_over_2 dn_one dc_one) (@pa_nil _) (star1 rfl)) (star1 rfl)) (star1 rfl)) (by decide) dn_number_in (star1 rfl) (nost1 rfl (nost1 rfl nost0))) (@pe_callC _ _ _ _ _ _ _ _ _ _ _ C_number_in hr g_is_over_number_in (@pa_cons _ _ _ _ _ (@pe_var _ 0 _ _ rfl v_is_over_0 dn_kinds dc_kinds) (@pa_cons _ _ _ _ _ (@pe_var _ 1 _ _ rfl v_is_over_1 dn_look dc_look) (@pa_cons _ _ _ _ _ (@pe_var _ 3 _ _ rfl v_is_over_3 dn_other dc_other) (@pa_nil _) (star1 rfl)) (star1 rfl)) (star1 rfl)) (by decide) dn_number_in (star1 rfl) (nost1 rfl (nost1 rfl nost0))) (nomark _)))), ?_⟩
  simp only [slots, Option.getD_some, Option.getD_none, tOp, tVar, tCons, tNil, tCall, rI0, tRet, Kd_non, Kd_bl, Kd_int, Kd_str, decide_true, decide_false, L2.start, cxK, Int.reduceToNat, List.map_cons, List.map_nil, List.length_cons, List.length_nil, Nat.reduceAdd, Nat.reduceSub, Nat.zero_add, List.replicate_succ, List.replicate_zero, List.cons_append, List.nil_append, List.append_nil, List.getElem?_cons_zero, List.getElem?_cons_succ, List.set_cons_zero, List.set_cons_succ, Option.some.injEq, V.int.injEq, V.bl.injEq, V.ref.injEq, V.str.injEq, V.ty.injEq, List.cons.injEq, exists_eq_left', exists_eq_left, exists_eq_right, exists_and_left, exists_and_right, and_true, true_and, and_assoc, exists_const, decide_eq_true_eq, Bool.not_eq_true', Bool.not_true, Bool.not_false, Bool.not_not, decide_eq_false_iff_not, ite_not, Bool.false_eq_true, if_true, if_false, reduceCtorEq, and_false, false_and, exists_false, or_false, false_or, ↓reduceIte, eq_self, reduceIte]
  refine ⟨_, _, _, ks, lk, k1, rfl, G, h1, o1, fun H1 S1 => ?_⟩
  simp only [slots, Option.getD_some, Option.getD_none, tOp, tVar, tCons, tNil, tCall, rI0, tRet, Kd_non, Kd_bl, Kd_int, Kd_str, decide_true, decide_false, L2.start, cxK, Int.reduceToNat, List.map_cons, List.map_nil, List.length_cons, List.length_nil, Nat.reduceAdd, Nat.reduceSub, Nat.zero_add, List.replicate_succ, List.replicate_zero, List.cons_append, List.nil_append, List.append_nil, List.getElem?_cons_zero, List.getElem?_cons_succ, List.set_cons_zero, List.set_cons_succ, Option.some.injEq, V.int.injEq, V.bl.injEq, V.ref.injEq, V.str.injEq, V.ty.injEq, List.cons.injEq, exists_eq_left', exists_eq_left, exists_eq_right, exists_and_left, exists_and_right, and_true, true_and, and_assoc, exists_const, decide_eq_true_eq, Bool.not_eq_true', Bool.not_true, Bool.not_false, Bool.not_not, decide_eq_false_iff_not, ite_not, Bool.false_eq_true, if_true, if_false, reduceCtorEq, and_false, false_and, exists_false, or_false, false_or, ↓reduceIte, eq_self, reduceIte]
  refine ⟨_, _, _, ks, lk, k2, rfl, G.same S1, Same.tup S1 h2, o2, fun H2 S2 => ?_⟩
  simp only [slots, Option.getD_some, Option.getD_none, tOp, tVar, tCons, tNil, tCall, rI0, tRet, Kd_non, Kd_bl, Kd_int, Kd_str, decide_true, decide_false, L2.start, cxK, Int.reduceToNat, List.map_cons, List.map_nil, List.length_cons, List.length_nil, Nat.reduceAdd, Nat.reduceSub, Nat.zero_add, List.replicate_succ, List.replicate_zero, List.cons_append, List.nil_append, List.append_nil, List.getElem?_cons_zero, List.getElem?_cons_succ, List.set_cons_zero, List.set_cons_succ, Option.some.injEq, V.int.injEq, V.bl.injEq, V.ref.injEq, V.str.injEq, V.ty.injEq, List.cons.injEq, exists_eq_left', exists_eq_left, exists_eq_right, exists_and_left, exists_and_right, and_true, true_and, and_assoc, exists_const, decide_eq_true_eq, Bool.not_eq_true', Bool.not_true, Bool.not_false, Bool.not_not, decide_eq_false_iff_not, ite_not, Bool.false_eq_true, if_true, if_false, reduceCtorEq, and_false, false_and, exists_false, or_false, false_or, ↓reduceIte, eq_self, reduceIte]
  exact q _ (S1.trans S2)
end

theorem at0 {v : V} {xs : List V} : atI (v :: xs) 0 = some v := (atI_nat (j := 0) rfl : atI (v :: xs) ((0 : Nat) : Int) = some v)
def claimsB (ks : List Kd2) (lk : List Int) : Nt → Bool
  | .any => true
  | .made s => anyAt ks lk (pMade lk s)
  | .used s => anyAt ks lk (pUsed lk s)
  | .chief s => anyAt ks lk (pChief lk s)
  | .over a b => decide (numIn ks lk a > numIn ks lk b)
  | .both x y => claimsB ks lk x && claimsB ks lk y
  | .either x y => claimsB ks lk x || claimsB ks lk y
  | .but x y => claimsB ks lk x && !claimsB ks lk y
def spLook (K : PySem.W.Frag) : Sp := fun vs H Q _ => ∃ (c : Int) (n : Nat), vs = [.int c, .int (n : Int)] ∧ 1 ≤ n ∧ n ≤ 4 ∧ ∀ p lk H', Same H H' → SqT K H' p ((lk : List Int).map V.int) → lk.length = n → (∀ x ∈ lk, 0 ≤ x) → Q (.ref p) H'
def spWeighs (K : PySem.W.Frag) : Sp := spNumIn K
def showsB (lk : List Int) : Nt → Kd2 → Int → Bool
  | .made s => pMade lk s
  | .used s => pUsed lk s
  | .chief s => pChief lk s
  | _ => fun _ _ => false
def oneName : Nt → Prop
  | .made _ => True
  | .used _ => True
  | .chief _ => True
  | _ => False
def spShows (K : PySem.W.Frag) : Sp := fun vs H Q _ => ∃ (t kl lt : Addr) (i : Nat) (n : Nt) (ks : List Kd2) (lk : List Int) (k : Kd2) (x : Int), vs = [.ref t, .ref kl, .ref lt, .int (i : Int)] ∧ ToldAt K H (.ref t) n ∧ oneName n ∧ Ground K H kl lt ks lk ∧ ks[i]? = some k ∧ lk[i]? = some x ∧ ∀ H', Same H H' → Q (.bl (showsB lk n k x)) H'
def spPlainC (K : PySem.W.Frag) : Sp := fun vs H Q _ => ∃ (t kl lt : Addr) (n : Nt) (ks : List Kd2) (lk : List Int), vs = [.ref t, .ref kl, .ref lt] ∧ ToldAt K H (.ref t) n ∧ n.ok ∧ n.dp = 1 ∧ Ground K H kl lt ks lk ∧ ∀ H', Same H H' → Q (.bl (claimsB ks lk n)) H'
theorem at1 {u v : V} {xs : List V} : atI (u :: v :: xs) 1 = some v := (atI_nat (j := 1) rfl : atI (u :: v :: xs) ((1 : Nat) : Int) = some v)
theorem at2 {u v x : V} {xs : List V} : atI (u :: v :: x :: xs) 2 = some x := (atI_nat (j := 2) rfl : atI (u :: v :: x :: xs) ((2 : Nat) : Int) = some x)
section
variable {P : Program} {w : World} {K : PySem.W.Frag} {mg : Str → Option Value} {base : Heap} {f : Addr} {fd : FuncData}
theorem ok_law_weighs (F : Fun K "_law_weighs" "_law_weighs" s_law_weighs f fd) (M : Mg mg) : FnOk P w K mg base CX0 1 f fd ["_law_kinds_here", "_law_look_here", "_law_kind"] (spNumIn K) := by
  refine F.ok sc_law_weighs (fun vs H Q E h => ?_) (fun cdv A outer s H vs Q E hr h => ?_)
  · obtain ⟨kl, lt, p, ks, lk, k, rfl, _⟩ := h
    rfl
  obtain ⟨kl, lt, p, ks, lk, k, rfl, G, hp, ok, q⟩ := h
  obtain ⟨kx, L, A⟩ := G.kx
  have lx := A.length
  have l4 := G.le
  refine ⟨_, (@pss_cons _ _ _ _ _ (@ps_for _ _ _ _ _ _ _ _ PassesOwn.never rfl (@pi_range1 _ _ _ _ _ _ g_law_weighs_range M.m_range (@pa_cons _ _ _ _ _ (@pe_callB _ _ _ _ _ _ _ _ _ call_len_seq g_law_weighs_len M.m_len b_len (@pa_cons _ _ _ _ _ (@pe_var _ 0 _ _ rfl v_law_weighs_0 dn__law_kinds_here dc__law_kinds_here) (@pa_nil _) (star1 rfl)) nn_len dn_len (star1 rfl) nost0) (@pa_nil _) (star1 rfl)) (star1' rfl)) (@pg_name _ _ 3 _ sc_law_weighs.nd rfl l_law_weighs_3 (.inl rfl)) (@pss_one _ _ _ (@ps_if _ _ _ _ _ _ _ _ (@pt_cmpR _ _ _ _ _ _ _ _ (op_eqD (hu60 hr)) (@pe_ix _ _ _ _ _ _ _ (@ix_list _) (@pe_var _ 0 _ _ rfl v_law_weighs_0 dn__law_kinds_here dc__law_kinds_here) (@pe_var _ 3 _ _ rfl v_law_weighs_3 dn__law_k dc__law_k) (fun _ _ => rfl)) (@pe_var _ 2 _ _ rfl v_law_weighs_2 dn__law_kind dc__law_kind) (nomark _)) (@pss_one _ _ _ (@ps_ret _ _ _ _ (@pe_ix _ _ _ _ _ _ _ (@ix_tup _) (@pe_var _ 1 _ _ rfl v_law_weighs_1 dn__law_look_here dc__law_look_here) (@pe_var _ 3 _ _ rfl v_law_weighs_3 dn__law_k dc__law_k) (fun _ _ => rfl)))) (@pss_nil _))) (by intro _; rfl)) (@pss_one _ _ _ (@ps_ret _ _ _ _ (@pe_int _ _ _ _)))), ?_⟩
  simp only [slots, Option.getD_some, Option.getD_none, tSeq, gName, tOp, tC, tVar, tCB, tCons, tNil, tRet, tIfS, tTest, tNext, rIxL, rIxT, Kd_non, Kd_bl, Kd_int, Kd_str, decide_true, decide_false, tFor_eq, iRng1, L2.start, cxK, Int.reduceToNat, List.map_cons, List.map_nil, List.length_cons, List.length_nil, Nat.reduceAdd, Nat.reduceSub, Nat.zero_add, List.replicate_succ, List.replicate_zero, List.cons_append, List.nil_append, List.append_nil, List.getElem?_cons_zero, List.getElem?_cons_succ, List.set_cons_zero, List.set_cons_succ, Option.some.injEq, V.int.injEq, V.bl.injEq, V.ref.injEq, V.str.injEq, V.ty.injEq, List.cons.injEq, exists_eq_left', exists_eq_left, exists_eq_right, exists_and_left, exists_and_right, and_true, true_and, and_assoc, exists_const, decide_eq_true_eq, Bool.not_eq_true', Bool.not_true, Bool.not_false, Bool.not_not, decide_eq_false_iff_not, ite_not, Bool.false_eq_true, if_true, if_false, reduceCtorEq, and_false, false_and, exists_false, or_false, false_or, ↓reduceIte, eq_self, reduceIte]
  refine ⟨_, .inl L, by omega, by omega, ?_⟩
  obtain ⟨Pv, hP⟩ : ∃ Pv : Nat → St → Hp → Prop, Pv = fun i σ H' => Same H H' ∧ (∃ y, σ = [some (.ref kl), some (.ref lt), some (.ref p), y]) ∧ ∀ (m : Nat) (z : Kd2), m < i → ks[m]? = some z → z ≠ k := ⟨_, rfl⟩
  refine forW_range Pv ?_ ?_ ?_
  · rw [hP]
    exact ⟨Same.refl _, ⟨_, rfl⟩, fun m z hm => absurd hm (by omega)⟩
  · intro i σ H' hi h
    rw [hP] at h
    obtain ⟨e, ⟨y, rfl⟩, hno⟩ := h
    have hik : i < ks.length := by omega
    have ek : ks[i]? = some ks[i] := List.getElem?_eq_getElem hik
    obtain ⟨x, e1, e2, m, nn⟩ := G.at ek
    have ex : kx[i]? = some kx[i] := List.getElem?_eq_getElem (by omega)
    obtain ⟨p', k', ep, ek', hp'⟩ := A.at ex
    rw [ek] at ek'
    have ek2 : ks[i] = k' := by injection ek'
    simp only [slots, Option.getD_some, Option.getD_none, tSeq, gName, tOp, tC, tVar, tCB, tCons, tNil, tRet, tIfS, tTest, tNext, rIxL, rIxT, Kd_non, Kd_bl, Kd_int, Kd_str, decide_true, decide_false, tFor_eq, iRng1, L2.start, cxK, Int.reduceToNat, List.map_cons, List.map_nil, List.length_cons, List.length_nil, Nat.reduceAdd, Nat.reduceSub, Nat.zero_add, List.replicate_succ, List.replicate_zero, List.cons_append, List.nil_append, List.append_nil, List.getElem?_cons_zero, List.getElem?_cons_succ, List.set_cons_zero, List.set_cons_succ, Option.some.injEq, V.int.injEq, V.bl.injEq, V.ref.injEq, V.str.injEq, V.ty.injEq, List.cons.injEq, exists_eq_left', exists_eq_left, exists_eq_right, exists_and_left, exists_and_right, and_true, true_and, and_assoc, exists_const, decide_eq_true_eq, Bool.not_eq_true', Bool.not_true, Bool.not_false, Bool.not_not, decide_eq_false_iff_not, ite_not, Bool.false_eq_true, if_true, if_false, reduceCtorEq, and_false, false_and, exists_false, or_false, false_or, ↓reduceIte, eq_self, reduceIte]
    refine ⟨_, e.seq L, .ref p', by rw [Int.zero_add, ← ep]; exact atI_nat ex, ?_⟩
    refine rEqD_kind (Same.tup e hp') (Same.tup e hp) (ek2 ▸ G.ok _ (List.getElem_mem hik)) ok ⟨_, rfl, ?_⟩
    by_cases hk : k' = k
    · rw [if_pos (by simp [hk])]
      refine ⟨_, Same.tup e G.look, _, by rw [Int.zero_add]; exact e2, ?_⟩
      rw [← numIn_at (k := k) (by rw [ek, ek2, hk]) hno e1]
      exact q _ e
    · rw [if_neg (by simp [hk]), hP]
      refine ⟨e, ⟨_, rfl⟩, fun m z hm hz => ?_⟩
      by_cases hmi : m = i
      · subst hmi
        rw [ek, ek2] at hz
        injection hz with hz
        exact hz ▸ hk
      · exact hno m z (by omega) hz
  · intro σ H' h
    rw [hP] at h
    obtain ⟨e, ⟨y, rfl⟩, hno⟩ := h
    simp only [slots, Option.getD_some, Option.getD_none, tSeq, gName, tOp, tC, tVar, tCB, tCons, tNil, tRet, tIfS, tTest, tNext, rIxL, rIxT, Kd_non, Kd_bl, Kd_int, Kd_str, decide_true, decide_false, tFor_eq, iRng1, L2.start, cxK, Int.reduceToNat, List.map_cons, List.map_nil, List.length_cons, List.length_nil, Nat.reduceAdd, Nat.reduceSub, Nat.zero_add, List.replicate_succ, List.replicate_zero, List.cons_append, List.nil_append, List.append_nil, List.getElem?_cons_zero, List.getElem?_cons_succ, List.set_cons_zero, List.set_cons_succ, Option.some.injEq, V.int.injEq, V.bl.injEq, V.ref.injEq, V.str.injEq, V.ty.injEq, List.cons.injEq, exists_eq_left', exists_eq_left, exists_eq_right, exists_and_left, exists_and_right, and_true, true_and, and_assoc, exists_const, decide_eq_true_eq, Bool.not_eq_true', Bool.not_true, Bool.not_false, Bool.not_not, decide_eq_false_iff_not, ite_not, Bool.false_eq_true, if_true, if_false, reduceCtorEq, and_false, false_and, exists_false, or_false, false_or, ↓reduceIte, eq_self, reduceIte]
    have : k ∉ ks := fun hk => by
      obtain ⟨j, hj, _⟩ := List.mem_iff_getElem.mp hk
      exact hno j k (by omega) (by rw [List.getElem?_eq_getElem hj]; congr) rfl
    rw [← numIn_not (lk := lk) this]
    exact q _ e
theorem ok_law_shows (F : Fun K "_law_shows" "_law_shows" s_law_shows f fd) (M : Mg mg) : FnOk P w K mg base CX0 1 f fd ["_law_told", "_law_kinds_here", "_law_look_here", "_law_k"] (spShows K) := by
  refine F.ok sc_law_shows (fun vs H Q E h => ?_) (fun cdv A outer s H vs Q E hr h => ?_)
  · obtain ⟨t, kl, lt, i, n, ks, lk, k, x, rfl, _⟩ := h
    rfl
  obtain ⟨t, kl, lt, i, n, ks, lk, k, x, rfl, R, on, G, ek, ex, q⟩ := h
  obtain ⟨kx, L, A⟩ := G.kx
  have lx := A.length
  have l4 := G.le
  refine ⟨_, (@pss_cons _ _ _ _ _ (@ps_set _ _ 4 _ _ _ _ sc_law_shows.nd rfl l_law_shows_4 (@pe_int _ _ _ _) (swap1 rfl) (.inl rfl)) (@pss_cons _ _ _ _ _ (@ps_if _ _ _ _ _ _ _ _ (@pt_cmpR _ _ _ _ _ _ _ _ (@op_eq _) (@pe_ix _ _ _ _ _ _ _ (@ix_tup _) (@pe_var _ 0 _ _ rfl v_law_shows_0 dn__law_told dc__law_told) (@pe_int _ _ _ _) (fun _ _ => rfl)) (@pe_str _ _ _ _) (nomark _)) (@pss_one _ _ _ (@ps_set _ _ 4 _ _ _ _ sc_law_shows.nd rfl l_law_shows_4 (@pe_callB _ _ _ _ _ _ _ _ _ (call_max1 rfl) g_law_shows_max M.m_max b_max (@pa_cons _ _ _ _ _ (@pe_var _ 2 _ _ rfl v_law_shows_2 dn__law_look_here dc__law_look_here) (@pa_nil _) (star1 rfl)) nn_max dn_max (star1 rfl) nost0) (swap1 rfl) (.inl rfl))) (@pss_nil _)) (@pss_one _ _ _ (@ps_ret _ _ _ _ (@pe_and _ _ _ _ _ _ _ (@pe_cmpR _ _ _ _ _ _ _ _ (@op_ge _) (@pe_ix _ _ _ _ _ _ _ (@ix_tup _) (@pe_var _ 2 _ _ rfl v_law_shows_2 dn__law_look_here dc__law_look_here) (@pe_var _ 3 _ _ rfl v_law_shows_3 dn__law_k dc__law_k) (fun _ _ => rfl)) (@pe_var _ 4 _ _ rfl v_law_shows_4 dn__law_least dc__law_least) (nomark _)) (@pe_one _ _ _ _ _ (@pe_cmpR _ _ _ _ _ _ _ _ (@op_eq _) (@pe_ix _ _ _ _ _ _ _ (@ix_tup _) (@pe_ix _ _ _ _ _ _ _ (@ix_list _) (@pe_var _ 1 _ _ rfl v_law_shows_1 dn__law_kinds_here dc__law_kinds_here) (@pe_var _ 3 _ _ rfl v_law_shows_3 dn__law_k dc__law_k) (fun _ _ => rfl)) (@pe_callTy _ _ _ _ _ _ _ _ _ call_int_bl g_law_shows_int M.m_int b_int (@pa_cons _ _ _ _ _ (@pe_cmpR _ _ _ _ _ _ _ _ (@op_eq _) (@pe_ix _ _ _ _ _ _ _ (@ix_tup _) (@pe_var _ 0 _ _ rfl v_law_shows_0 dn__law_told dc__law_told) (@pe_int _ _ _ _) (fun _ _ => rfl)) (@pe_str _ _ _ _) (nomark _)) (@pa_nil _) (star1 rfl)) nn_int dn_int (star1 rfl) nost0) (fun _ _ => rfl)) (@pe_ix _ _ _ _ _ _ _ (@ix_tup _) (@pe_var _ 0 _ _ rfl v_law_shows_0 dn__law_told dc__law_told) (@pe_int _ _ _ _) (fun _ _ => rfl)) (nomark _)))))))), ?_⟩
  simp only [slots, Option.getD_some, Option.getD_none, tSeq, tAsg, gName, tOp, tC, tVar, tCB, tCons, tNil, rI0, tRet, tIfS, tTest, tAndV, tNext, rEq, rIxL, rIxT, Kd_non, Kd_bl, Kd_int, Kd_str, sc_non_non, sc_non_int, sc_int_non, sc_non_bl, sc_bl_non, sc_non_str, sc_str_non, sc_int_int, sc_bl_bl, sc_str_str, sc_int_str, sc_str_int, sc_bl_str, sc_str_bl, decide_true, decide_false, L2.start, cxK, Int.reduceToNat, List.map_cons, List.map_nil, List.length_cons, List.length_nil, Nat.reduceAdd, Nat.reduceSub, Nat.zero_add, List.replicate_succ, List.replicate_zero, List.cons_append, List.nil_append, List.append_nil, List.getElem?_cons_zero, List.getElem?_cons_succ, List.set_cons_zero, List.set_cons_succ, Option.some.injEq, V.int.injEq, V.bl.injEq, V.ref.injEq, V.str.injEq, V.ty.injEq, List.cons.injEq, exists_eq_left', exists_eq_left, exists_eq_right, exists_and_left, exists_and_right, and_true, true_and, and_assoc, exists_const, decide_eq_true_eq, Bool.not_eq_true', Bool.not_true, Bool.not_false, Bool.not_not, decide_eq_false_iff_not, ite_not, Bool.false_eq_true, if_true, if_false, reduceCtorEq, and_false, false_and, exists_false, or_false, false_or, ↓reduceIte, eq_self, reduceIte]
  obtain ⟨x', e1, e2, mm, nn⟩ := G.at ek
  rw [ex] at e1
  injection e1 with e1
  subst e1
  have li := (List.getElem?_eq_some_iff.mp ek).1
  have exx : kx[i]? = some kx[i] := List.getElem?_eq_getElem (by omega)
  obtain ⟨p', k', ep, ek', hp'⟩ := A.at exx
  rw [ek] at ek'
  injection ek' with ek'
  subst ek'
  have akx : atI kx (i : Int) = some (.ref p') := by rw [← ep]; exact atI_nat exx
  cases n with
  | any => exact on.elim
  | made s =>
    obtain ⟨x0, y0, T, r0, r1⟩ := rep_two R
    cases rep_str r0
    cases rep_str r1
    refine ⟨_, T, _, at0, rfl, ?_⟩
    rw [if_neg (by decide)]
    refine ⟨_, G.look, _, e2, _, rfl, ?_⟩
    by_cases hx : 1 ≤ x
    · rw [if_pos hx]
      have e9 : showsB lk (.made s) k x = decide (V.str (txt k.1) = V.str (txt s)) := by
        show (decide (x ≠ 0) && decide (k.1 = s)) = _
        rw [decide_eq_true (show x ≠ 0 by omega), Bool.true_and]
        exact decide_eq_decide.mpr txtV.symm
      refine ⟨_, L, .ref p', akx, _, T, _, at0, rfl, _, rfl, _, hp', .str (txt k.1), by rw [if_neg (by decide)]; exact at0, _, T, _, at1, rfl, ?_⟩
      rw [← e9]
      exact q _ (Same.refl _)
    · rw [if_neg hx]
      have e9 : showsB lk (.made s) k x = false := by
        show (decide (x ≠ 0) && decide (k.1 = s)) = _
        rw [decide_eq_false (show ¬ (x ≠ 0) by omega), Bool.false_and]
      rw [← e9]
      exact q _ (Same.refl _)
  | used s =>
    obtain ⟨x0, y0, T, r0, r1⟩ := rep_two R
    cases rep_str r0
    cases rep_str r1
    refine ⟨_, T, _, at0, rfl, ?_⟩
    rw [if_neg (by decide)]
    refine ⟨_, G.look, _, e2, _, rfl, ?_⟩
    by_cases hx : 1 ≤ x
    · rw [if_pos hx]
      have e9 : showsB lk (.used s) k x = decide (V.str (txt k.2) = V.str (txt s)) := by
        show (decide (x ≠ 0) && decide (k.2 = s)) = _
        rw [decide_eq_true (show x ≠ 0 by omega), Bool.true_and]
        exact decide_eq_decide.mpr txtV.symm
      refine ⟨_, L, .ref p', akx, _, T, _, at0, rfl, _, rfl, _, hp', .str (txt k.2), by rw [if_pos (by decide)]; exact at1, _, T, _, at1, rfl, ?_⟩
      rw [← e9]
      exact q _ (Same.refl _)
    · rw [if_neg hx]
      have e9 : showsB lk (.used s) k x = false := by
        show (decide (x ≠ 0) && decide (k.2 = s)) = _
        rw [decide_eq_false (show ¬ (x ≠ 0) by omega), Bool.false_and]
      rw [← e9]
      exact q _ (Same.refl _)
  | chief s =>
    obtain ⟨x0, y0, T, r0, r1⟩ := rep_two R
    cases rep_str r0
    cases rep_str r1
    refine ⟨_, T, _, at0, rfl, ?_⟩
    rw [if_pos (by decide)]
    refine ⟨lk, .inr G.look, by have := G.len; have := G.pos; omega, fun mx hm htop => ?_⟩
    refine ⟨_, G.look, _, e2, _, rfl, ?_⟩
    by_cases hx : mx ≤ x
    · rw [if_pos hx]
      have e9 : showsB lk (.chief s) k x = decide (V.str (txt k.1) = V.str (txt s)) := by
        show (decide (∀ y ∈ lk, y ≤ x) && decide (k.1 = s)) = _
        rw [decide_eq_true (show ∀ y ∈ lk, y ≤ x from fun y hy => Int.le_trans (htop y hy) hx), Bool.true_and]
        exact decide_eq_decide.mpr txtV.symm
      refine ⟨_, L, .ref p', akx, _, T, _, at0, rfl, _, rfl, _, hp', .str (txt k.1), by rw [if_neg (by decide)]; exact at0, _, T, _, at1, rfl, ?_⟩
      rw [← e9]
      exact q _ (Same.refl _)
    · rw [if_neg hx]
      have e9 : showsB lk (.chief s) k x = false := by
        show (decide (∀ y ∈ lk, y ≤ x) && decide (k.1 = s)) = _
        rw [decide_eq_false (show ¬ ∀ y ∈ lk, y ≤ x from fun h => hx (h mx hm)), Bool.false_and]
      rw [← e9]
      exact q _ (Same.refl _)
  | over a b => exact on.elim
  | both a b => exact on.elim
  | either a b => exact on.elim
  | but a b => exact on.elim
theorem ok_law_plain_claims (F : Fun K "_law_plain_claims" "_law_plain_claims" s_law_plain_claims f fd) (M : Mg mg) (C_law_weighs : Cal P w K mg base CX0 "_law_weighs" 1 ["_law_kinds_here", "_law_look_here", "_law_kind"] (spNumIn K)) (C_law_shows : Cal P w K mg base CX0 "_law_shows" 1 ["_law_told", "_law_kinds_here", "_law_look_here", "_law_k"] (spShows K)) : FnOk P w K mg base CX0 2 f fd ["_law_told", "_law_kinds_here", "_law_look_here"] (spPlainC K) := by
  refine F.ok sc_law_plain_claims (fun vs H Q E h => ?_) (fun cdv A outer s H vs Q E hr h => ?_)
  · obtain ⟨t, kl, lt, n, ks, lk, rfl, _⟩ := h
    rfl
  obtain ⟨t, kl, lt, n, ks, lk, rfl, R, ok, dp, G, q⟩ := h
  obtain ⟨kx, L, A⟩ := G.kx
  have lx := A.length
  have l4 := G.le
  refine ⟨_, (@pss_cons _ _ _ _ _ (@ps_if _ _ _ _ _ _ _ _ (@pt_cmpR _ _ _ _ _ _ _ _ (@op_eq _) (@pe_ix _ _ _ _ _ _ _ (@ix_tup _) (@pe_var _ 0 _ _ rfl v_law_plain_claims_0 dn__law_told dc__law_told) (@pe_int _ _ _ _) (fun _ _ => rfl)) (@pe_str _ _ _ _) (nomark _)) (@pss_one _ _ _ (@ps_ret _ _ _ _ (@pe_bl _ _ _ _))) (@pss_nil _)) (@pss_cons _ _ _ _ _ (@ps_if _ _ _ _ _ _ _ _ (@pt_cmpR _ _ _ _ _ _ _ _ (@op_eq _) (@pe_ix _ _ _ _ _ _ _ (@ix_tup _) (@pe_var _ 0 _ _ rfl v_law_plain_claims_0 dn__law_told dc__law_told) (@pe_int _ _ _ _) (fun _ _ => rfl)) (@pe_str _ _ _ _) (nomark _)) (@pss_one _ _ _ (@ps_ret _ _ _ _ (@pe_cmpR _ _ _ _ _ _ _ _ (@op_gt _) (@pe_callC _ _ _ _ _ _ _ _ _ _ _ C_law_weighs hr g_law_plain_claims__law_weighs (@pa_cons _ _ _ _ _ (@pe_var _ 1 _ _ rfl v_law_plain_claims_1 dn__law_kinds_here dc__law_kinds_here) (@pa_cons _ _ _ _ _ (@pe_var _ 2 _ _ rfl v_law_plain_claims_2 dn__law_look_here dc__law_look_here) (@pa_cons _ _ _ _ _ (@pe_ix _ _ _ _ _ _ _ (@ix_tup _) (@pe_var _ 0 _ _ rfl v_law_plain_claims_0 dn__law_told dc__law_told) (@pe_int _ _ _ _) (fun _ _ => rfl)) (@pa_nil _) (star1 rfl)) (star1 rfl)) (star1 rfl)) (by decide) dn__law_weighs (star1 rfl) (nost1 rfl (nost1 rfl nost0))) (@pe_callC _ _ _ _ _ _ _ _ _ _ _ C_law_weighs hr g_law_plain_claims__law_weighs (@pa_cons _ _ _ _ _ (@pe_var _ 1 _ _ rfl v_law_plain_claims_1 dn__law_kinds_here dc__law_kinds_here) (@pa_cons _ _ _ _ _ (@pe_var _ 2 _ _ rfl v_law_plain_claims_2 dn__law_look_here dc__law_look_here) (@pa_cons _ _ _ _ _ (@pe_ix _ _ _ _ _ _ _ (@ix_tup _) (@pe_var _ 0 _ _ rfl v_law_plain_claims_0 dn__law_told dc__law_told) (@pe_int _ _ _ _) (fun _ _ => rfl)) (@pa_nil _) (star1 rfl)) (star1 rfl)) (star1 rfl)) (by decide) dn__law_weighs (star1 rfl) (nost1 rfl (nost1 rfl nost0))) (nomark _)))) (@pss_nil _)) (@pss_one _ _ _ (@ps_ret _ _ _ _ (@pe_cmpR _ _ _ _ _ _ _ _ (@op_gt _) (@pe_callB _ _ _ _ _ _ _ _ _ call_len_seq g_law_plain_claims_len M.m_len b_len (@pa_cons _ _ _ _ _ (@pe_comp _ _ _ _ _ _ _ _ _ _ _ _ _ _ _ rfl (CompOk.make (N' := ["_law_told", "_law_kinds_here", "_law_look_here", "_law_k"]) (ix := [0, 1, 2]) (nl := 1) (by rfl) (fm1 rfl (fm1 rfl (fm1 rfl fm0))) (by rfl) (by decide +kernel) rfl (by decide +kernel) rfl (And.intro ⟨rfl, .inl rfl, .inl rfl⟩ (And.intro ⟨rfl, .inl rfl, .inl rfl⟩ (And.intro ⟨rfl, .inl rfl, .inl rfl⟩ True.intro)))) (@pi_range1 _ _ _ _ _ _ g_law_plain_claims_range M.m_range (@pa_cons _ _ _ _ _ (@pe_callB _ _ _ _ _ _ _ _ _ call_len_seq g_law_plain_claims_len M.m_len b_len (@pa_cons _ _ _ _ _ (@pe_var _ 1 _ _ rfl v_law_plain_claims_1 dn__law_kinds_here dc__law_kinds_here) (@pa_nil _) (star1 rfl)) nn_len dn_len (star1 rfl) nost0) (@pa_nil _) (star1 rfl)) (star1' rfl)) (fun _ _ _ _ _ => (@pg_name _ _ 3 _ (show List.Nodup (["_law_told", "_law_kinds_here", "_law_look_here", "_law_k"] : List Str) from by decide) rfl (Or.inl rfl) (by first | exact .inl rfl | exact .inr rfl | assumption))) (fun _ _ _ _ _ => (@pif_one _ _ _ (@pt_val _ _ _ (@pe_callC _ _ _ _ _ _ _ _ _ _ _ C_law_shows hr rfl (@pa_cons _ _ _ _ _ (@pv _ 0 _ _ (by rfl) (by first | exact Or.inl rfl | exact Or.inr (Or.inl rfl) | exact Or.inr (Or.inr rfl)) (by decide) (by decide)) (@pa_cons _ _ _ _ _ (@pv _ 1 _ _ (by rfl) (by first | exact Or.inl rfl | exact Or.inr (Or.inl rfl) | exact Or.inr (Or.inr rfl)) (by decide) (by decide)) (@pa_cons _ _ _ _ _ (@pv _ 2 _ _ (by rfl) (by first | exact Or.inl rfl | exact Or.inr (Or.inl rfl) | exact Or.inr (Or.inr rfl)) (by decide) (by decide)) (@pa_cons _ _ _ _ _ (@pv _ 3 _ _ (by rfl) (by first | exact Or.inl rfl | exact Or.inr (Or.inl rfl) | exact Or.inr (Or.inr rfl)) (by decide) (by decide)) (@pa_nil _) (star1 rfl)) (star1 rfl)) (star1 rfl)) (star1 rfl)) (by decide) dn__law_shows (star1 rfl) (nost1 rfl (nost1 rfl (nost1 rfl nost0)))) (test1 rfl)))) (fun _ _ _ _ _ => (@pv _ 3 _ _ (by rfl) (by first | exact Or.inl rfl | exact Or.inr (Or.inl rfl) | exact Or.inr (Or.inr rfl)) (by decide) (by decide))) (by intro _; rfl)) (@pa_nil _) (star1 rfl)) nn_len dn_len (star1 rfl) nost0) (@pe_int _ _ _ _) (nomark _)))))), ?_⟩
  simp only [tComp_eq, tComp1, slots, Option.getD_some, Option.getD_none, tSeq, gName, tOp, tC, tVar, tCB, tCons, tNil, tCall, rI0, tRet, tIfS, tTest, tB, tNext, rEq, rIxT, Kd_non, Kd_bl, Kd_int, Kd_str, sc_non_non, sc_non_int, sc_int_non, sc_non_bl, sc_bl_non, sc_non_str, sc_str_non, sc_int_int, sc_bl_bl, sc_str_str, sc_int_str, sc_str_int, sc_bl_str, sc_str_bl, decide_true, decide_false, iRng1, L2.start, cxK, Int.reduceToNat, List.map_cons, List.map_nil, List.length_cons, List.length_nil, Nat.reduceAdd, Nat.reduceSub, Nat.zero_add, List.replicate_succ, List.replicate_zero, List.cons_append, List.nil_append, List.append_nil, List.getElem?_cons_zero, List.getElem?_cons_succ, List.set_cons_zero, List.set_cons_succ, Option.some.injEq, V.int.injEq, V.bl.injEq, V.ref.injEq, V.str.injEq, V.ty.injEq, List.cons.injEq, exists_eq_left', exists_eq_left, exists_eq_right, exists_and_left, exists_and_right, and_true, true_and, and_assoc, exists_const, decide_eq_true_eq, Bool.not_eq_true', Bool.not_true, Bool.not_false, Bool.not_not, decide_eq_false_iff_not, ite_not, Bool.false_eq_true, if_true, if_false, reduceCtorEq, and_false, false_and, exists_false, or_false, false_or, ↓reduceIte, eq_self, reduceIte]
  have fin : oneName n → claimsB ks lk n = anyAt ks lk (showsB lk n) → ∃ x, (SqL K H kl x ∨ SqT K H kl x) ∧ -2 ^ 62 ≤ ((x.length : Nat) : Int) ∧ ((x.length : Nat) : Int) < 2 ^ 62 ∧ ∀ D, H D = none → CompS D (Itr 0 ((x.length : Nat) : Int).toNat) (gName 3) (tB (tCall (spShows K) [] E0 (tCons (tVar 0) (tCons (tVar 1) (tCons (tVar 2) (tCons (tVar 3) tNil)))))) (tVar 3)
      (fun x H1 => ∃ p, x = V.ref p ∧ ∃ x, (SqL K H1 p x ∨ SqT K H1 p x) ∧ Q (V.bl (decide (0 < ((x.length : Nat) : Int)))) H1) [some (V.ref t), some (V.ref kl), some (V.ref lt), none] (upd H D (HO.lst [])) := by
    intro on ec
    refine ⟨kx, .inl L, by omega, by omega, fun D hD => ?_⟩
    obtain ⟨Pc, hC⟩ : ∃ Pc : Nat → St → Hp → Prop, Pc = fun i τ H' => ∃ (z : Option V) (xs : List V), H' D = some (.lst xs) ∧ xs.length ≤ i ∧ xs.isEmpty = !(anyTo ks lk (showsB lk n) i) ∧ Same H H' ∧ τ = [some (V.ref t), some (V.ref kl), some (V.ref lt), z] := ⟨_, rfl⟩
    refine compS_range Pc ?_ ?_ ?_
    · rw [hC]
      exact ⟨_, [], upd_same, Nat.le_refl _, rfl, same_new hD _, rfl⟩
    · intro i τ H' R' hi h next
      rw [hC] at h
      obtain ⟨z, xs, d1, d2, d3, d4, rfl⟩ := h
      have hik : i < ks.length := by omega
      have ek : ks[i]? = some ks[i] := List.getElem?_eq_getElem hik
      obtain ⟨x, e1, e2, mm, nn⟩ := G.at ek
      have stp := anyTo_succ (p := showsB lk n) ek e1
      simp only [tComp_eq, tComp1, slots, Option.getD_some, Option.getD_none, tSeq, gName, tOp, tC, tVar, tCB, tCons, tNil, tCall, rI0, tRet, tIfS, tTest, tB, tNext, rEq, rIxT, Kd_non, Kd_bl, Kd_int, Kd_str, sc_non_non, sc_non_int, sc_int_non, sc_non_bl, sc_bl_non, sc_non_str, sc_str_non, sc_int_int, sc_bl_bl, sc_str_str, sc_int_str, sc_str_int, sc_bl_str, sc_str_bl, decide_true, decide_false, iRng1, L2.start, cxK, Int.reduceToNat, List.map_cons, List.map_nil, List.length_cons, List.length_nil, Nat.reduceAdd, Nat.reduceSub, Nat.zero_add, List.replicate_succ, List.replicate_zero, List.cons_append, List.nil_append, List.append_nil, List.getElem?_cons_zero, List.getElem?_cons_succ, List.set_cons_zero, List.set_cons_succ, Option.some.injEq, V.int.injEq, V.bl.injEq, V.ref.injEq, V.str.injEq, V.ty.injEq, List.cons.injEq, exists_eq_left', exists_eq_left, exists_eq_right, exists_and_left, exists_and_right, and_true, true_and, and_assoc, exists_const, decide_eq_true_eq, Bool.not_eq_true', Bool.not_true, Bool.not_false, Bool.not_not, decide_eq_false_iff_not, ite_not, Bool.false_eq_true, if_true, if_false, reduceCtorEq, and_false, false_and, exists_false, or_false, false_or, ↓reduceIte, eq_self, reduceIte]
      refine ⟨t, kl, lt, i, n, ks, lk, ks[i], x, by rw [Int.zero_add], R.same d4, on, G.same d4, ek, e1, fun H2 S2 => ?_⟩
      have nx : ∀ (xs' : List V) (H3 : Hp), H3 D = some (.lst xs') → xs'.length ≤ i + 1 → xs'.isEmpty = !(anyTo ks lk (showsB lk n) (i + 1)) → Same H H3 → R' [some (V.ref t), some (V.ref kl), some (V.ref lt), some (.int (0 + (i : Int)))] H3 := fun xs' H3 a1 a2 a3 a4 => next _ _ (by rw [hC]; exact ⟨_, _, a1, a2, a3, a4, rfl⟩)
      simp only [tComp_eq, tComp1, slots, Option.getD_some, Option.getD_none, tSeq, gName, tOp, tC, tVar, tCB, tCons, tNil, tCall, rI0, tRet, tIfS, tTest, tB, tNext, rEq, rIxT, Kd_non, Kd_bl, Kd_int, Kd_str, sc_non_non, sc_non_int, sc_int_non, sc_non_bl, sc_bl_non, sc_non_str, sc_str_non, sc_int_int, sc_bl_bl, sc_str_str, sc_int_str, sc_str_int, sc_bl_str, sc_str_bl, decide_true, decide_false, iRng1, L2.start, cxK, Int.reduceToNat, List.map_cons, List.map_nil, List.length_cons, List.length_nil, Nat.reduceAdd, Nat.reduceSub, Nat.zero_add, List.replicate_succ, List.replicate_zero, List.cons_append, List.nil_append, List.append_nil, List.getElem?_cons_zero, List.getElem?_cons_succ, List.set_cons_zero, List.set_cons_succ, Option.some.injEq, V.int.injEq, V.bl.injEq, V.ref.injEq, V.str.injEq, V.ty.injEq, List.cons.injEq, exists_eq_left', exists_eq_left, exists_eq_right, exists_and_left, exists_and_right, and_true, true_and, and_assoc, exists_const, decide_eq_true_eq, Bool.not_eq_true', Bool.not_true, Bool.not_false, Bool.not_not, decide_eq_false_iff_not, ite_not, Bool.false_eq_true, if_true, if_false, reduceCtorEq, and_false, false_and, exists_false, or_false, false_or, ↓reduceIte, eq_self, reduceIte]
      have d1' := S2 _ _ d1
      have d4' := d4.trans S2
      by_cases hs : showsB lk n ks[i] x = true
      · rw [if_pos hs]
        exact ⟨_, d1', Nat.lt_of_le_of_lt d2 (Nat.lt_of_lt_of_le (m := 64) (by omega) (by decide)), nx _ _ upd_same (by rw [List.length_append]; simp; omega) (by rw [stp, hs]; simp) (same_upd d4' hD _)⟩
      · rw [if_neg hs]
        exact nx _ _ d1' (by omega) (by rw [stp, d3]; simp [hs]) d4'
    · intro τ H' h
      rw [hC] at h
      obtain ⟨z, xs, d1, d2, d3, d4, rfl⟩ := h
      refine ⟨_, rfl, xs, .inl (SqL.of d1), ?_⟩
      have en : anyTo ks lk (showsB lk n) ((kx.length : Nat) : Int).toNat = claimsB ks lk n := by rw [ec, ← anyTo_end G.len, show ((kx.length : Nat) : Int).toNat = ks.length by omega]
      rw [en] at d3
      have e9 : decide (0 < ((xs.length : Nat) : Int)) = claimsB ks lk n := by
        cases xs with
        | nil => simp at d3; rw [d3]; rfl
        | cons a b => simp at d3; rw [d3]; simp
      rw [e9]
      exact q _ d4
  cases n with
  | any =>
    obtain ⟨x0, T, r0⟩ := rep_one R
    cases rep_str r0
    refine ⟨_, T, _, at0, rfl, ?_⟩
    rw [if_pos (by decide)]
    exact q _ (Same.refl _)
  | made s =>
    obtain ⟨x0, y0, T, r0, r1⟩ := rep_two R
    cases rep_str r0
    cases rep_str r1
    refine ⟨_, T, _, at0, rfl, ?_⟩
    rw [if_neg (by decide)]
    refine ⟨_, T, _, at0, rfl, ?_⟩
    rw [if_neg (by decide)]
    exact fin trivial rfl
  | used s =>
    obtain ⟨x0, y0, T, r0, r1⟩ := rep_two R
    cases rep_str r0
    cases rep_str r1
    refine ⟨_, T, _, at0, rfl, ?_⟩
    rw [if_neg (by decide)]
    refine ⟨_, T, _, at0, rfl, ?_⟩
    rw [if_neg (by decide)]
    exact fin trivial rfl
  | chief s =>
    obtain ⟨x0, y0, T, r0, r1⟩ := rep_two R
    cases rep_str r0
    cases rep_str r1
    refine ⟨_, T, _, at0, rfl, ?_⟩
    rw [if_neg (by decide)]
    refine ⟨_, T, _, at0, rfl, ?_⟩
    rw [if_neg (by decide)]
    exact fin trivial rfl
  | over a b =>
    obtain ⟨x0, y0, z0, T, r0, r1, r2⟩ := rep_three R
    cases rep_str r0
    obtain ⟨p1, rfl, T1⟩ := kind_inv r1
    obtain ⟨p2, rfl, T2⟩ := kind_inv r2
    refine ⟨_, T, _, at0, rfl, ?_⟩
    rw [if_neg (by decide)]
    refine ⟨_, T, _, at0, rfl, ?_⟩
    rw [if_pos (by decide)]
    refine ⟨_, T, _, at1, _, _, _, ks, lk, a, rfl, G, T1, ok.1, fun H1 S1 => ?_⟩
    refine ⟨_, Same.tup S1 T, _, at2, _, _, _, ks, lk, b, rfl, G.same S1, Same.tup S1 T2, ok.2, fun H2 S2 => ?_⟩
    exact ⟨_, rfl, _, rfl, q _ (S1.trans S2)⟩
  | both a b =>
    have h1 := Nt.dp_pos a
    have h2 : max a.dp b.dp + 1 = 1 := dp
    omega
  | either a b =>
    have h1 := Nt.dp_pos a
    have h2 : max a.dp b.dp + 1 = 1 := dp
    omega
  | but a b =>
    have h1 := Nt.dp_pos a
    have h2 : max a.dp b.dp + 1 = 1 := dp
    omega
end

def spLClaims (K : PySem.W.Frag) (d : Nat) : Sp := fun vs H Q _ => ∃ (t kl lt : Addr) (n : Nt) (ks : List Kd2) (lk : List Int), vs = [.ref t, .ref kl, .ref lt] ∧ ToldAt K H (.ref t) n ∧ n.ok ∧ n.dp ≤ d ∧ Ground K H kl lt ks lk ∧ ∀ H', Same H H' → Q (.bl (claimsB ks lk n)) H'
section
variable {P : Program} {w : World} {K : PySem.W.Frag} {mg : Str → Option Value} {base : Heap} {f : Addr} {fd : FuncData}
theorem ok_law_look (F : Fun K "_law_look" "_law_look" s_law_look f fd) (M : Mg mg) (C_law_mix : Cal P w K mg base CX0 "_law_mix" 1 ["_law_number", "_law_k", "_law_many"] spMix3) : FnOk P w K mg base CX0 2 f fd ["_law_cell_here", "_law_many"] (spLook K) := by
  refine F.ok sc_law_look (fun vs H Q E h => ?_) (fun cdv A outer s H vs Q E hr h => ?_)
  · obtain ⟨c, n, rfl, _⟩ := h
    rfl
  obtain ⟨c, n, rfl, n1, n4, q⟩ := h
  refine ⟨_, (@pss_cons _ _ _ _ _ (@ps_set _ _ 2 _ _ _ _ sc_law_look.nd rfl l_law_look_2 (@pe_comp _ _ _ _ _ _ _ _ _ _ _ _ _ _ _ rfl (CompOk.make (N' := ["_law_cell_here", "_law_k"]) (ix := [0]) (nl := 1) (by rfl) (fm1 rfl fm0) (by rfl) (by decide +kernel) rfl (by decide +kernel) rfl (And.intro ⟨rfl, .inl rfl, .inl rfl⟩ True.intro)) (@pi_range1 _ _ _ _ _ _ g_law_look_range M.m_range (@pa_cons _ _ _ _ _ (@pe_var _ 1 _ _ rfl v_law_look_1 dn__law_many dc__law_many) (@pa_nil _) (star1 rfl)) (star1' rfl)) (fun _ _ _ _ _ => (@pg_name _ _ 1 _ (show List.Nodup (["_law_cell_here", "_law_k"] : List Str) from by decide) rfl (Or.inl rfl) (by first | exact .inl rfl | exact .inr rfl | assumption))) (fun _ _ _ _ _ => (@pif_nil _)) (fun _ _ _ _ _ => (@pe_callC _ _ _ _ _ _ _ _ _ _ _ C_law_mix hr rfl (@pa_cons _ _ _ _ _ (@pv _ 0 _ _ (by rfl) (by first | exact Or.inl rfl | exact Or.inr (Or.inl rfl) | exact Or.inr (Or.inr rfl)) (by decide) (by decide)) (@pa_cons _ _ _ _ _ (@pv _ 1 _ _ (by rfl) (by first | exact Or.inl rfl | exact Or.inr (Or.inl rfl) | exact Or.inr (Or.inr rfl)) (by decide) (by decide)) (@pa_cons _ _ _ _ _ (@pe_int _ _ _ _) (@pa_nil _) (star1 rfl)) (star1 rfl)) (star1 rfl)) (by decide) dn__law_mix (star1 rfl) (nost1 rfl (nost1 rfl nost0)))) (by intro _; rfl)) (by rfl) (.inl rfl)) (@pss_cons _ _ _ _ _ (@ps_if _ _ _ _ _ _ _ _ (@pt_cmpR _ _ _ _ _ _ _ _ (@op_eq _) (@pe_callB _ _ _ _ _ _ _ _ _ (call_max1 rfl) g_law_look_max M.m_max b_max (@pa_cons _ _ _ _ _ (@pe_var _ 2 _ _ rfl v_law_look_2 dn__law_weights dc__law_weights) (@pa_nil _) (star1 rfl)) nn_max dn_max (star1 rfl) nost0) (@pe_int _ _ _ _) (nomark _)) (@pss_one _ _ _ (@ps_asg _ _ _ _ _ _ (@pe_int _ _ _ _) (@pg_sub _ _ _ _ _ _ _ (@pe_var _ 2 _ _ rfl v_law_look_2 dn__law_weights dc__law_weights) (@pe_op _ _ _ _ _ _ _ _ (@op_mod _) (@pe_var _ 0 _ _ rfl v_law_look_0 dn__law_cell_here dc__law_cell_here) (@pe_var _ 1 _ _ rfl v_law_look_1 dn__law_many dc__law_many)) set_list (by intro _; rfl)) (by rfl) (by rfl) (by rfl))) (@pss_nil _)) (@pss_one _ _ _ (@ps_ret _ _ _ _ (@pe_callTy _ _ _ _ _ _ _ _ _ call_tupleL g_law_look_tuple M.m_tuple b_tuple (@pa_cons _ _ _ _ _ (pe_compc rfl (CompOkC.make (y := "_law_weight") (N' := ["_law_weights", "_law_weight"]) (ix := [2]) (nl := 1) (by rfl) (fm1 rfl fm0) (by rfl) (fun _ => rfl) (fun _ => rfl) rfl (by decide +kernel) rfl (And.intro ⟨rfl, rfl, .inl rfl, .inl rfl⟩ True.intro)) (@pi_list _ _ _ _ (@pe_var _ 2 _ _ rfl v_law_look_2 dn__law_weights dc__law_weights)) (fun _ _ _ _ _ => (@pg_name _ _ 1 _ (show List.Nodup (["_law_weights", "_law_weight"] : List Str) from by decide) rfl (Or.inr rfl) (by first | exact .inl rfl | exact .inr rfl | assumption))) (fun _ _ _ _ _ => (@pif_nil _)) (fun _ _ _ _ _ => (@pe_callB _ _ _ _ _ _ _ _ _ call_len_setO rfl M.m_len b_len (@pa_cons _ _ _ _ _ (@pe_callTy _ _ _ _ _ _ _ _ _ (call_setK (K := K) rfl rfl) rfl M.m_set b_set (@pa_cons _ _ _ _ _ (@pe_comp _ _ _ _ _ _ _ _ _ _ _ _ _ _ _ rfl (CompOk.make (N' := ["_law_weight", "_law_w"]) (ix := [1]) (nl := 1) (by rfl) (fm1 rfl fm0) (by rfl) (by decide +kernel) rfl (by decide +kernel) rfl (And.intro ⟨rfl, (by first | exact .inl rfl | exact .inr rfl), (by first | exact .inl rfl | exact .inr rfl)⟩ True.intro)) (@pi_listK _ K _ _ _ rfl (@pv _ 0 _ _ (by rfl) (by first | exact Or.inl rfl | exact Or.inr (Or.inl rfl) | exact Or.inr (Or.inr rfl)) (by decide) (by decide))) (fun _ _ _ _ _ => (@pg_name _ _ 1 _ (show List.Nodup (["_law_weight", "_law_w"] : List Str) from by decide) rfl (Or.inl rfl) (by first | exact .inl rfl | exact .inr rfl | assumption))) (fun _ _ _ _ _ => (@pif_one _ _ _ (@pt_chain _ _ _ _ _ _ _ _ _ _ _ _ (@op_lt _) op_le (@pe_int _ _ _ _) (@pv _ 1 _ _ (by rfl) (by first | exact Or.inl rfl | exact Or.inr (Or.inl rfl) | exact Or.inr (Or.inr rfl)) (by decide) (by decide)) (@pv _ 0 _ _ (by rfl) (by first | exact Or.inl rfl | exact Or.inr (Or.inl rfl) | exact Or.inr (Or.inr rfl)) (by decide) (by decide)) (by with_unfolding_all rfl)))) (fun _ _ _ _ _ => (@pv _ 1 _ _ (by rfl) (by first | exact Or.inl rfl | exact Or.inr (Or.inl rfl) | exact Or.inr (Or.inr rfl)) (by decide) (by decide))) (by intro _; rfl)) (@pa_nil _) (star1 rfl)) nn_set dn_set (star1 rfl) nost0) (@pa_nil _) (star1 rfl)) nn_len dn_len (star1 rfl) nost0))) (@pa_nil _) (star1 rfl)) nn_tuple dn_tuple (star1 rfl) nost0))))), ?_⟩
  simp only [tComp_eq, tComp1, slots, Option.getD_some, Option.getD_none, tYes, tSeq, tAsg, gName, tOp, tC, tVar, tCB, tCons, tNil, tCall, rI, rI0, tRet, tIfS, tTest, tChain, tNext, gSub, rSetL, rEq, Kd_non, Kd_bl, Kd_int, Kd_str, sc_non_non, sc_non_int, sc_int_non, sc_non_bl, sc_bl_non, sc_non_str, sc_str_non, sc_int_int, sc_bl_bl, sc_str_str, sc_int_str, sc_str_int, sc_bl_str, sc_str_bl, decide_true, decide_false, iList, iRng1, L2.start, cxK, Int.reduceToNat, List.map_cons, List.map_nil, List.length_cons, List.length_nil, Nat.reduceAdd, Nat.reduceSub, Nat.zero_add, List.replicate_succ, List.replicate_zero, List.cons_append, List.nil_append, List.append_nil, List.getElem?_cons_zero, List.getElem?_cons_succ, List.set_cons_zero, List.set_cons_succ, Option.some.injEq, V.int.injEq, V.bl.injEq, V.ref.injEq, V.str.injEq, V.ty.injEq, List.cons.injEq, exists_eq_left', exists_eq_left, exists_eq_right, exists_and_left, exists_and_right, and_true, true_and, and_assoc, exists_const, decide_eq_true_eq, Bool.not_eq_true', Bool.not_true, Bool.not_false, Bool.not_not, decide_eq_false_iff_not, ite_not, Bool.false_eq_true, if_true, if_false, reduceCtorEq, and_false, false_and, exists_false, or_false, false_or, ↓reduceIte, eq_self, reduceIte]
  refine ⟨by omega, by omega, fun D0 hD0 => ?_⟩
  obtain ⟨Pc, hC⟩ : ∃ Pc : Nat → St → Hp → Prop, Pc = fun i τ H' => ∃ (z : Option V) (ws : List Int), H' D0 = some (.lst (ws.map V.int)) ∧ ws.length = i ∧ Same H H' ∧ τ = [some (.int c), z] := ⟨_, rfl⟩
  refine compS_range Pc ?_ ?_ ?_
  · rw [hC]
    exact ⟨_, [], upd_same, rfl, same_new hD0 _, rfl⟩
  · intro i τ H' R' hi h next
    rw [hC] at h
    obtain ⟨z, ws, d1, d2, d3, rfl⟩ := h
    simp only [tComp_eq, tComp1, slots, Option.getD_some, Option.getD_none, tYes, tSeq, tAsg, gName, tOp, tC, tVar, tCB, tCons, tNil, tCall, rI, rI0, tRet, tIfS, tTest, tChain, tNext, gSub, rSetL, rEq, Kd_non, Kd_bl, Kd_int, Kd_str, sc_non_non, sc_non_int, sc_int_non, sc_non_bl, sc_bl_non, sc_non_str, sc_str_non, sc_int_int, sc_bl_bl, sc_str_str, sc_int_str, sc_str_int, sc_bl_str, sc_str_bl, decide_true, decide_false, iList, iRng1, L2.start, cxK, Int.reduceToNat, List.map_cons, List.map_nil, List.length_cons, List.length_nil, Nat.reduceAdd, Nat.reduceSub, Nat.zero_add, List.replicate_succ, List.replicate_zero, List.cons_append, List.nil_append, List.append_nil, List.getElem?_cons_zero, List.getElem?_cons_succ, List.set_cons_zero, List.set_cons_succ, Option.some.injEq, V.int.injEq, V.bl.injEq, V.ref.injEq, V.str.injEq, V.ty.injEq, List.cons.injEq, exists_eq_left', exists_eq_left, exists_eq_right, exists_and_left, exists_and_right, and_true, true_and, and_assoc, exists_const, decide_eq_true_eq, Bool.not_eq_true', Bool.not_true, Bool.not_false, Bool.not_not, decide_eq_false_iff_not, ite_not, Bool.false_eq_true, if_true, if_false, reduceCtorEq, and_false, false_and, exists_false, or_false, false_or, ↓reduceIte, eq_self, reduceIte]
    refine ⟨_, _, _, rfl, by omega, by omega, by decide, ?_⟩
    simp only [tComp_eq, tComp1, slots, Option.getD_some, Option.getD_none, tYes, tSeq, tAsg, gName, tOp, tC, tVar, tCB, tCons, tNil, tCall, rI, rI0, tRet, tIfS, tTest, tChain, tNext, gSub, rSetL, rEq, Kd_non, Kd_bl, Kd_int, Kd_str, sc_non_non, sc_non_int, sc_int_non, sc_non_bl, sc_bl_non, sc_non_str, sc_str_non, sc_int_int, sc_bl_bl, sc_str_str, sc_int_str, sc_str_int, sc_bl_str, sc_str_bl, decide_true, decide_false, iList, iRng1, L2.start, cxK, Int.reduceToNat, List.map_cons, List.map_nil, List.length_cons, List.length_nil, Nat.reduceAdd, Nat.reduceSub, Nat.zero_add, List.replicate_succ, List.replicate_zero, List.cons_append, List.nil_append, List.append_nil, List.getElem?_cons_zero, List.getElem?_cons_succ, List.set_cons_zero, List.set_cons_succ, Option.some.injEq, V.int.injEq, V.bl.injEq, V.ref.injEq, V.str.injEq, V.ty.injEq, List.cons.injEq, exists_eq_left', exists_eq_left, exists_eq_right, exists_and_left, exists_and_right, and_true, true_and, and_assoc, exists_const, decide_eq_true_eq, Bool.not_eq_true', Bool.not_true, Bool.not_false, Bool.not_not, decide_eq_false_iff_not, ite_not, Bool.false_eq_true, if_true, if_false, reduceCtorEq, and_false, false_and, exists_false, or_false, false_or, ↓reduceIte, eq_self, reduceIte]
    refine ⟨_, d1, by rw [List.length_map]; exact Nat.lt_of_lt_of_le (m := 64) (by omega) (by decide), next _ _ ?_⟩
    rw [hC]
    exact ⟨_, ws ++ [mix3 c (0 + (i : Int)) 5], by rw [upd_same, List.map_append]; rfl, by rw [List.length_append, d2]; rfl, same_upd d3 hD0 _, rfl⟩
  · intro τ H1 h
    rw [hC] at h
    obtain ⟨z, ws, d1, d2, d3, rfl⟩ := h
    have lw : ws.length = n := by omega
    refine ⟨_, rfl, ws, .inl (SqL.of d1), by omega, fun m hm htop => ?_⟩
    by_cases hm0 : m = 0
    · rw [if_pos hm0]
      have lc : (c % (n : Int)) < n := Int.emod_lt_of_pos _ (by omega)
      have l0 : 0 ≤ c % (n : Int) := Int.emod_nonneg _ (by omega)
      obtain ⟨j, hj⟩ : ∃ j : Nat, c % (n : Int) = j := ⟨(c % (n : Int)).toNat, by omega⟩
      refine ⟨by omega, _, rfl, _, d1, j, by rw [hj, List.length_map, lw]; exact ixN_nat (by omega), ?_⟩
      have hw : upd H1 D0 (.lst ((ws.map V.int).set j (.int 1))) D0 = some (.lst ((ws.set j 1).map V.int)) := by rw [upd_same, List.map_set]
      obtain ⟨H2, hH2⟩ : ∃ H2, H2 = upd H1 D0 (.lst ((ws.map V.int).set j (.int 1))) := ⟨_, rfl⟩
      rw [← hH2] at hw ⊢
      have S2 : Same H H2 := by rw [hH2]; exact same_upd d3 hD0 _
      obtain ⟨vs, hvs⟩ : ∃ vs, vs = ws.set j 1 := ⟨_, rfl⟩
      rw [← hvs] at hw
      have lv : vs.length = n := by rw [hvs, List.length_set]; exact lw
      refine ⟨_, rfl, ⟨_, SqL.of hw⟩, fun E2 hE => ?_⟩
      obtain ⟨Pe, hPe⟩ : ∃ Pe : Nat → St → Hp → Prop, Pe = fun i τ H' => ∃ (z : Option V) (ls : List Int), H' E2 = some (.lst (ls.map V.int)) ∧ ls.length = i ∧ (∀ x ∈ ls, 0 ≤ x) ∧ Same H2 H' ∧ τ = [some (.ref D0), z] := ⟨_, rfl⟩
      refine compS_list (vs.map V.int) Pe ?_ (fun i τ H' _ h => by rw [hPe] at h; obtain ⟨_, _, _, _, _, e, _⟩ := h; exact SqL.of (e _ _ hw)) ?_ ?_
      · rw [hPe]
        exact ⟨_, [], upd_same, rfl, (fun x hx => absurd hx List.not_mem_nil), same_new hE _, rfl⟩
      · intro i x τ H' R' hx h next
        rw [hPe] at h
        obtain ⟨z, ls, e1, e2, e3, e4, rfl⟩ := h
        rw [List.getElem?_map] at hx
        obtain ⟨o, ho, rfl⟩ := Option.map_eq_some_iff.mp hx
        have li := (List.getElem?_eq_some_iff.mp ho).1
        simp only [tComp_eq, tComp1, slots, Option.getD_some, Option.getD_none, tYes, tSeq, tAsg, gName, tOp, tC, tVar, tCB, tCons, tNil, tCall, rI, rI0, tRet, tIfS, tTest, tChain, tNext, gSub, rSetL, rEq, Kd_non, Kd_bl, Kd_int, Kd_str, sc_non_non, sc_non_int, sc_int_non, sc_non_bl, sc_bl_non, sc_non_str, sc_str_non, sc_int_int, sc_bl_bl, sc_str_str, sc_int_str, sc_str_int, sc_bl_str, sc_str_bl, decide_true, decide_false, iList, iRng1, L2.start, cxK, Int.reduceToNat, List.map_cons, List.map_nil, List.length_cons, List.length_nil, Nat.reduceAdd, Nat.reduceSub, Nat.zero_add, List.replicate_succ, List.replicate_zero, List.cons_append, List.nil_append, List.append_nil, List.getElem?_cons_zero, List.getElem?_cons_succ, List.set_cons_zero, List.set_cons_succ, Option.some.injEq, V.int.injEq, V.bl.injEq, V.ref.injEq, V.str.injEq, V.ty.injEq, List.cons.injEq, exists_eq_left', exists_eq_left, exists_eq_right, exists_and_left, exists_and_right, and_true, true_and, and_assoc, exists_const, decide_eq_true_eq, Bool.not_eq_true', Bool.not_true, Bool.not_false, Bool.not_not, decide_eq_false_iff_not, ite_not, Bool.false_eq_true, if_true, if_false, reduceCtorEq, and_false, false_and, exists_false, or_false, false_or, ↓reduceIte, eq_self, reduceIte]
        have hw' := e4 _ _ hw
        refine ⟨⟨_, SqL.of hw'⟩, fun F2 hF => ?_⟩
        obtain ⟨Pf, hPf⟩ : ∃ Pf : Nat → St → Hp → Prop, Pf = fun j τ H3 => ∃ (z : Option V) (us : List Int), H3 F2 = some (.lst (us.map V.int)) ∧ us.length ≤ j ∧ Same H' H3 ∧ τ = [some (.int o), z] := ⟨_, rfl⟩
        refine compS_list (vs.map V.int) Pf ?_ (fun i τ H' _ h => by rw [hPf] at h; obtain ⟨_, _, _, _, e, _⟩ := h; exact SqL.of (e _ _ hw')) ?_ ?_
        · rw [hPf]
          exact ⟨_, [], upd_same, Nat.le_refl _, same_new hF _, rfl⟩
        · intro j y τ H3 R3 hy h next3
          rw [hPf] at h
          obtain ⟨z3, us, f1, f2, f3, rfl⟩ := h
          rw [List.getElem?_map] at hy
          obtain ⟨o3, ho3, rfl⟩ := Option.map_eq_some_iff.mp hy
          have lj := (List.getElem?_eq_some_iff.mp ho3).1
          simp only [tComp_eq, tComp1, slots, Option.getD_some, Option.getD_none, tYes, tSeq, tAsg, gName, tOp, tC, tVar, tCB, tCons, tNil, tCall, rI, rI0, tRet, tIfS, tTest, tChain, tNext, gSub, rSetL, rEq, Kd_non, Kd_bl, Kd_int, Kd_str, sc_non_non, sc_non_int, sc_int_non, sc_non_bl, sc_bl_non, sc_non_str, sc_str_non, sc_int_int, sc_bl_bl, sc_str_str, sc_int_str, sc_str_int, sc_bl_str, sc_str_bl, decide_true, decide_false, iList, iRng1, L2.start, cxK, Int.reduceToNat, List.map_cons, List.map_nil, List.length_cons, List.length_nil, Nat.reduceAdd, Nat.reduceSub, Nat.zero_add, List.replicate_succ, List.replicate_zero, List.cons_append, List.nil_append, List.append_nil, List.getElem?_cons_zero, List.getElem?_cons_succ, List.set_cons_zero, List.set_cons_succ, Option.some.injEq, V.int.injEq, V.bl.injEq, V.ref.injEq, V.str.injEq, V.ty.injEq, List.cons.injEq, exists_eq_left', exists_eq_left, exists_eq_right, exists_and_left, exists_and_right, and_true, true_and, and_assoc, exists_const, decide_eq_true_eq, Bool.not_eq_true', Bool.not_true, Bool.not_false, Bool.not_not, decide_eq_false_iff_not, ite_not, Bool.false_eq_true, if_true, if_false, reduceCtorEq, and_false, false_and, exists_false, or_false, false_or, ↓reduceIte, eq_self, reduceIte]
          have stay : R3 [some (.int o), some (.int o3)] H3 := next3 _ _ (by rw [hPf]; exact ⟨_, us, f1, by omega, f3, rfl⟩)
          have grow : ∃ ys, H3 F2 = some (.lst ys) ∧ ys.length < sizeLine ∧ R3 [some (.int o), some (.int o3)] (upd H3 F2 (.lst (ys ++ [.int o3]))) :=
            ⟨_, f1, by rw [List.length_map]; exact Nat.lt_of_lt_of_le (m := 64) (by omega) (by decide), next3 _ _ (by rw [hPf]; exact ⟨_, us ++ [o3], by rw [upd_same, List.map_append]; rfl, by rw [List.length_append]; simp; omega, same_upd f3 hF _, rfl⟩)⟩
          split
          · split
            · exact grow
            · exact stay
          · exact stay
        · intro τ H3 h
          rw [hPf] at h
          obtain ⟨z3, us, f1, f2, f3, rfl⟩ := h
          rw [List.length_map] at f2
          refine ⟨_, rfl, us, SqL.of f1, by omega, fun l S m' hl => ?_⟩
          have el : upd H3 l (.set S m') E2 = some (.lst (ls.map V.int)) := by rw [upd_ne (ne_of_none (f3 _ _ e1) hl)]; exact f3 _ _ e1
          refine ⟨_, _, upd_same, _, el, by rw [List.length_map]; exact Nat.lt_of_lt_of_le (m := 64) (by omega) (by decide), next _ _ ?_⟩
          rw [hPe]
          refine ⟨_, ls ++ [(m' : Int)], by rw [upd_same, List.map_append]; rfl, by rw [List.length_append, e2]; rfl, fun x hx => ?_, same_upd (e4.trans (f3.trans (same_new hl _))) hE _, rfl⟩
          rcases List.mem_append.mp hx with hx | hx
          · exact e3 x hx
          · rw [List.mem_singleton.mp hx]; omega
      · intro τ H' h
        rw [hPe] at h
        obtain ⟨z, ls, e1, e2, e3, e4, rfl⟩ := h
        rw [List.length_map] at e2
        exact ⟨_, rfl, _, SqL.of e1, fun l hl => q _ ls _ (S2.trans (e4.trans (same_new hl _))) (SqT.of upd_same) (by omega) e3⟩
    · rw [if_neg hm0]
      have hw := d1
      obtain ⟨H2, hH2⟩ : ∃ H2, H2 = H1 := ⟨_, rfl⟩
      rw [← hH2] at hw d3 ⊢
      have S2 := d3
      obtain ⟨vs, hvs⟩ : ∃ vs, vs = ws := ⟨_, rfl⟩
      rw [← hvs] at hw
      have lv : vs.length = n := by rw [hvs]; exact lw
      refine ⟨_, rfl, ⟨_, SqL.of hw⟩, fun E2 hE => ?_⟩
      obtain ⟨Pe, hPe⟩ : ∃ Pe : Nat → St → Hp → Prop, Pe = fun i τ H' => ∃ (z : Option V) (ls : List Int), H' E2 = some (.lst (ls.map V.int)) ∧ ls.length = i ∧ (∀ x ∈ ls, 0 ≤ x) ∧ Same H2 H' ∧ τ = [some (.ref D0), z] := ⟨_, rfl⟩
      refine compS_list (vs.map V.int) Pe ?_ (fun i τ H' _ h => by rw [hPe] at h; obtain ⟨_, _, _, _, _, e, _⟩ := h; exact SqL.of (e _ _ hw)) ?_ ?_
      · rw [hPe]
        exact ⟨_, [], upd_same, rfl, (fun x hx => absurd hx List.not_mem_nil), same_new hE _, rfl⟩
      · intro i x τ H' R' hx h next
        rw [hPe] at h
        obtain ⟨z, ls, e1, e2, e3, e4, rfl⟩ := h
        rw [List.getElem?_map] at hx
        obtain ⟨o, ho, rfl⟩ := Option.map_eq_some_iff.mp hx
        have li := (List.getElem?_eq_some_iff.mp ho).1
        simp only [tComp_eq, tComp1, slots, Option.getD_some, Option.getD_none, tYes, tSeq, tAsg, gName, tOp, tC, tVar, tCB, tCons, tNil, tCall, rI, rI0, tRet, tIfS, tTest, tChain, tNext, gSub, rSetL, rEq, Kd_non, Kd_bl, Kd_int, Kd_str, sc_non_non, sc_non_int, sc_int_non, sc_non_bl, sc_bl_non, sc_non_str, sc_str_non, sc_int_int, sc_bl_bl, sc_str_str, sc_int_str, sc_str_int, sc_bl_str, sc_str_bl, decide_true, decide_false, iList, iRng1, L2.start, cxK, Int.reduceToNat, List.map_cons, List.map_nil, List.length_cons, List.length_nil, Nat.reduceAdd, Nat.reduceSub, Nat.zero_add, List.replicate_succ, List.replicate_zero, List.cons_append, List.nil_append, List.append_nil, List.getElem?_cons_zero, List.getElem?_cons_succ, List.set_cons_zero, List.set_cons_succ, Option.some.injEq, V.int.injEq, V.bl.injEq, V.ref.injEq, V.str.injEq, V.ty.injEq, List.cons.injEq, exists_eq_left', exists_eq_left, exists_eq_right, exists_and_left, exists_and_right, and_true, true_and, and_assoc, exists_const, decide_eq_true_eq, Bool.not_eq_true', Bool.not_true, Bool.not_false, Bool.not_not, decide_eq_false_iff_not, ite_not, Bool.false_eq_true, if_true, if_false, reduceCtorEq, and_false, false_and, exists_false, or_false, false_or, ↓reduceIte, eq_self, reduceIte]
        have hw' := e4 _ _ hw
        refine ⟨⟨_, SqL.of hw'⟩, fun F2 hF => ?_⟩
        obtain ⟨Pf, hPf⟩ : ∃ Pf : Nat → St → Hp → Prop, Pf = fun j τ H3 => ∃ (z : Option V) (us : List Int), H3 F2 = some (.lst (us.map V.int)) ∧ us.length ≤ j ∧ Same H' H3 ∧ τ = [some (.int o), z] := ⟨_, rfl⟩
        refine compS_list (vs.map V.int) Pf ?_ (fun i τ H' _ h => by rw [hPf] at h; obtain ⟨_, _, _, _, e, _⟩ := h; exact SqL.of (e _ _ hw')) ?_ ?_
        · rw [hPf]
          exact ⟨_, [], upd_same, Nat.le_refl _, same_new hF _, rfl⟩
        · intro j y τ H3 R3 hy h next3
          rw [hPf] at h
          obtain ⟨z3, us, f1, f2, f3, rfl⟩ := h
          rw [List.getElem?_map] at hy
          obtain ⟨o3, ho3, rfl⟩ := Option.map_eq_some_iff.mp hy
          have lj := (List.getElem?_eq_some_iff.mp ho3).1
          simp only [tComp_eq, tComp1, slots, Option.getD_some, Option.getD_none, tYes, tSeq, tAsg, gName, tOp, tC, tVar, tCB, tCons, tNil, tCall, rI, rI0, tRet, tIfS, tTest, tChain, tNext, gSub, rSetL, rEq, Kd_non, Kd_bl, Kd_int, Kd_str, sc_non_non, sc_non_int, sc_int_non, sc_non_bl, sc_bl_non, sc_non_str, sc_str_non, sc_int_int, sc_bl_bl, sc_str_str, sc_int_str, sc_str_int, sc_bl_str, sc_str_bl, decide_true, decide_false, iList, iRng1, L2.start, cxK, Int.reduceToNat, List.map_cons, List.map_nil, List.length_cons, List.length_nil, Nat.reduceAdd, Nat.reduceSub, Nat.zero_add, List.replicate_succ, List.replicate_zero, List.cons_append, List.nil_append, List.append_nil, List.getElem?_cons_zero, List.getElem?_cons_succ, List.set_cons_zero, List.set_cons_succ, Option.some.injEq, V.int.injEq, V.bl.injEq, V.ref.injEq, V.str.injEq, V.ty.injEq, List.cons.injEq, exists_eq_left', exists_eq_left, exists_eq_right, exists_and_left, exists_and_right, and_true, true_and, and_assoc, exists_const, decide_eq_true_eq, Bool.not_eq_true', Bool.not_true, Bool.not_false, Bool.not_not, decide_eq_false_iff_not, ite_not, Bool.false_eq_true, if_true, if_false, reduceCtorEq, and_false, false_and, exists_false, or_false, false_or, ↓reduceIte, eq_self, reduceIte]
          have stay : R3 [some (.int o), some (.int o3)] H3 := next3 _ _ (by rw [hPf]; exact ⟨_, us, f1, by omega, f3, rfl⟩)
          have grow : ∃ ys, H3 F2 = some (.lst ys) ∧ ys.length < sizeLine ∧ R3 [some (.int o), some (.int o3)] (upd H3 F2 (.lst (ys ++ [.int o3]))) :=
            ⟨_, f1, by rw [List.length_map]; exact Nat.lt_of_lt_of_le (m := 64) (by omega) (by decide), next3 _ _ (by rw [hPf]; exact ⟨_, us ++ [o3], by rw [upd_same, List.map_append]; rfl, by rw [List.length_append]; simp; omega, same_upd f3 hF _, rfl⟩)⟩
          split
          · split
            · exact grow
            · exact stay
          · exact stay
        · intro τ H3 h
          rw [hPf] at h
          obtain ⟨z3, us, f1, f2, f3, rfl⟩ := h
          rw [List.length_map] at f2
          refine ⟨_, rfl, us, SqL.of f1, by omega, fun l S m' hl => ?_⟩
          have el : upd H3 l (.set S m') E2 = some (.lst (ls.map V.int)) := by rw [upd_ne (ne_of_none (f3 _ _ e1) hl)]; exact f3 _ _ e1
          refine ⟨_, _, upd_same, _, el, by rw [List.length_map]; exact Nat.lt_of_lt_of_le (m := 64) (by omega) (by decide), next _ _ ?_⟩
          rw [hPe]
          refine ⟨_, ls ++ [(m' : Int)], by rw [upd_same, List.map_append]; rfl, by rw [List.length_append, e2]; rfl, fun x hx => ?_, same_upd (e4.trans (f3.trans (same_new hl _))) hE _, rfl⟩
          rcases List.mem_append.mp hx with hx | hx
          · exact e3 x hx
          · rw [List.mem_singleton.mp hx]; omega
      · intro τ H' h
        rw [hPe] at h
        obtain ⟨z, ls, e1, e2, e3, e4, rfl⟩ := h
        rw [List.length_map] at e2
        exact ⟨_, rfl, _, SqL.of e1, fun l hl => q _ ls _ (S2.trans (e4.trans (same_new hl _))) (SqT.of upd_same) (by omega) e3⟩
theorem step_claims {d : Nat} (F : Fun K "_law_claims" "_law_claims" s_law_claims f fd) (M : Mg mg) (C_law_plain_claims : Cal P w K mg base CX0 "_law_plain_claims" 2 ["_law_told", "_law_kinds_here", "_law_look_here"] (spPlainC K)) (C_law_claims : Cal P w K mg base CX0 "_law_claims" (3 + d) ["_law_told", "_law_kinds_here", "_law_look_here"] (spLClaims K d)) : FnOk P w K mg base CX0 (3 + d + 1) f fd ["_law_told", "_law_kinds_here", "_law_look_here"] (spLClaims K (d + 1)) := by
  refine F.ok sc_law_claims (fun vs H Q E h => ?_) (fun cdv A outer s H vs Q E hr h => ?_)
  · obtain ⟨t, kl, lt, n, ks, lk, rfl, _⟩ := h
    rfl
  obtain ⟨t, kl, lt, n, ks, lk, rfl, R, ok, dp, G, q⟩ := h
  refine ⟨_, (@pss_cons _ _ _ _ _ (@ps_if _ _ _ _ _ _ _ _ (@pt_cmpR _ _ _ _ _ _ _ _ (@op_eq _) (@pe_ix _ _ _ _ _ _ _ (@ix_tup _) (@pe_var _ 0 _ _ rfl v_law_claims_0 dn__law_told dc__law_told) (@pe_int _ _ _ _) (fun _ _ => rfl)) (@pe_str _ _ _ _) (nomark _)) (@pss_one _ _ _ (@ps_ret _ _ _ _ (@pe_and _ _ _ _ _ _ _ (@pe_callC _ _ _ _ _ _ _ _ _ _ _ C_law_claims hr g_law_claims__law_claims (@pa_cons _ _ _ _ _ (@pe_ix _ _ _ _ _ _ _ (@ix_tup _) (@pe_var _ 0 _ _ rfl v_law_claims_0 dn__law_told dc__law_told) (@pe_int _ _ _ _) (fun _ _ => rfl)) (@pa_cons _ _ _ _ _ (@pe_var _ 1 _ _ rfl v_law_claims_1 dn__law_kinds_here dc__law_kinds_here) (@pa_cons _ _ _ _ _ (@pe_var _ 2 _ _ rfl v_law_claims_2 dn__law_look_here dc__law_look_here) (@pa_nil _) (star1 rfl)) (star1 rfl)) (star1 rfl)) (by omega) dn__law_claims (star1 rfl) (nost1 rfl (nost1 rfl nost0))) (@pe_one _ _ _ _ _ (@pe_callC _ _ _ _ _ _ _ _ _ _ _ C_law_claims hr g_law_claims__law_claims (@pa_cons _ _ _ _ _ (@pe_ix _ _ _ _ _ _ _ (@ix_tup _) (@pe_var _ 0 _ _ rfl v_law_claims_0 dn__law_told dc__law_told) (@pe_int _ _ _ _) (fun _ _ => rfl)) (@pa_cons _ _ _ _ _ (@pe_var _ 1 _ _ rfl v_law_claims_1 dn__law_kinds_here dc__law_kinds_here) (@pa_cons _ _ _ _ _ (@pe_var _ 2 _ _ rfl v_law_claims_2 dn__law_look_here dc__law_look_here) (@pa_nil _) (star1 rfl)) (star1 rfl)) (star1 rfl)) (by omega) dn__law_claims (star1 rfl) (nost1 rfl (nost1 rfl nost0))))))) (@pss_nil _)) (@pss_cons _ _ _ _ _ (@ps_if _ _ _ _ _ _ _ _ (@pt_cmpR _ _ _ _ _ _ _ _ (@op_eq _) (@pe_ix _ _ _ _ _ _ _ (@ix_tup _) (@pe_var _ 0 _ _ rfl v_law_claims_0 dn__law_told dc__law_told) (@pe_int _ _ _ _) (fun _ _ => rfl)) (@pe_str _ _ _ _) (nomark _)) (@pss_one _ _ _ (@ps_ret _ _ _ _ (@pe_or _ _ _ _ _ _ _ (@pe_callC _ _ _ _ _ _ _ _ _ _ _ C_law_claims hr g_law_claims__law_claims (@pa_cons _ _ _ _ _ (@pe_ix _ _ _ _ _ _ _ (@ix_tup _) (@pe_var _ 0 _ _ rfl v_law_claims_0 dn__law_told dc__law_told) (@pe_int _ _ _ _) (fun _ _ => rfl)) (@pa_cons _ _ _ _ _ (@pe_var _ 1 _ _ rfl v_law_claims_1 dn__law_kinds_here dc__law_kinds_here) (@pa_cons _ _ _ _ _ (@pe_var _ 2 _ _ rfl v_law_claims_2 dn__law_look_here dc__law_look_here) (@pa_nil _) (star1 rfl)) (star1 rfl)) (star1 rfl)) (by omega) dn__law_claims (star1 rfl) (nost1 rfl (nost1 rfl nost0))) (@pe_one _ _ _ _ _ (@pe_callC _ _ _ _ _ _ _ _ _ _ _ C_law_claims hr g_law_claims__law_claims (@pa_cons _ _ _ _ _ (@pe_ix _ _ _ _ _ _ _ (@ix_tup _) (@pe_var _ 0 _ _ rfl v_law_claims_0 dn__law_told dc__law_told) (@pe_int _ _ _ _) (fun _ _ => rfl)) (@pa_cons _ _ _ _ _ (@pe_var _ 1 _ _ rfl v_law_claims_1 dn__law_kinds_here dc__law_kinds_here) (@pa_cons _ _ _ _ _ (@pe_var _ 2 _ _ rfl v_law_claims_2 dn__law_look_here dc__law_look_here) (@pa_nil _) (star1 rfl)) (star1 rfl)) (star1 rfl)) (by omega) dn__law_claims (star1 rfl) (nost1 rfl (nost1 rfl nost0))))))) (@pss_nil _)) (@pss_cons _ _ _ _ _ (@ps_if _ _ _ _ _ _ _ _ (@pt_cmpR _ _ _ _ _ _ _ _ (@op_eq _) (@pe_ix _ _ _ _ _ _ _ (@ix_tup _) (@pe_var _ 0 _ _ rfl v_law_claims_0 dn__law_told dc__law_told) (@pe_int _ _ _ _) (fun _ _ => rfl)) (@pe_str _ _ _ _) (nomark _)) (@pss_one _ _ _ (@ps_ret _ _ _ _ (@pe_and _ _ _ _ _ _ _ (@pe_callC _ _ _ _ _ _ _ _ _ _ _ C_law_claims hr g_law_claims__law_claims (@pa_cons _ _ _ _ _ (@pe_ix _ _ _ _ _ _ _ (@ix_tup _) (@pe_var _ 0 _ _ rfl v_law_claims_0 dn__law_told dc__law_told) (@pe_int _ _ _ _) (fun _ _ => rfl)) (@pa_cons _ _ _ _ _ (@pe_var _ 1 _ _ rfl v_law_claims_1 dn__law_kinds_here dc__law_kinds_here) (@pa_cons _ _ _ _ _ (@pe_var _ 2 _ _ rfl v_law_claims_2 dn__law_look_here dc__law_look_here) (@pa_nil _) (star1 rfl)) (star1 rfl)) (star1 rfl)) (by omega) dn__law_claims (star1 rfl) (nost1 rfl (nost1 rfl nost0))) (@pe_one _ _ _ _ _ (@pe_not _ _ _ _ (@pe_callC _ _ _ _ _ _ _ _ _ _ _ C_law_claims hr g_law_claims__law_claims (@pa_cons _ _ _ _ _ (@pe_ix _ _ _ _ _ _ _ (@ix_tup _) (@pe_var _ 0 _ _ rfl v_law_claims_0 dn__law_told dc__law_told) (@pe_int _ _ _ _) (fun _ _ => rfl)) (@pa_cons _ _ _ _ _ (@pe_var _ 1 _ _ rfl v_law_claims_1 dn__law_kinds_here dc__law_kinds_here) (@pa_cons _ _ _ _ _ (@pe_var _ 2 _ _ rfl v_law_claims_2 dn__law_look_here dc__law_look_here) (@pa_nil _) (star1 rfl)) (star1 rfl)) (star1 rfl)) (by omega) dn__law_claims (star1 rfl) (nost1 rfl (nost1 rfl nost0)))))))) (@pss_nil _)) (@pss_one _ _ _ (@ps_ret _ _ _ _ (@pe_callC _ _ _ _ _ _ _ _ _ _ _ C_law_plain_claims hr g_law_claims__law_plain_claims (@pa_cons _ _ _ _ _ (@pe_var _ 0 _ _ rfl v_law_claims_0 dn__law_told dc__law_told) (@pa_cons _ _ _ _ _ (@pe_var _ 1 _ _ rfl v_law_claims_1 dn__law_kinds_here dc__law_kinds_here) (@pa_cons _ _ _ _ _ (@pe_var _ 2 _ _ rfl v_law_claims_2 dn__law_look_here dc__law_look_here) (@pa_nil _) (star1 rfl)) (star1 rfl)) (star1 rfl)) (by omega) dn__law_plain_claims (star1 rfl) (nost1 rfl (nost1 rfl nost0)))))))), ?_⟩
  simp only [slots, Option.getD_some, Option.getD_none, tSeq, tOp, tC, tVar, tCons, tNil, tCall, tRet, tIfS, tTest, tAndV, tOrV, tNotV, tNext, rEq, rIxT, Kd_non, Kd_bl, Kd_int, Kd_str, sc_non_non, sc_non_int, sc_int_non, sc_non_bl, sc_bl_non, sc_non_str, sc_str_non, sc_int_int, sc_bl_bl, sc_str_str, sc_int_str, sc_str_int, sc_bl_str, sc_str_bl, decide_true, decide_false, L2.start, cxK, Int.reduceToNat, List.map_cons, List.map_nil, List.length_cons, List.length_nil, Nat.reduceAdd, Nat.reduceSub, Nat.zero_add, List.replicate_succ, List.replicate_zero, List.cons_append, List.nil_append, List.append_nil, List.getElem?_cons_zero, List.getElem?_cons_succ, List.set_cons_zero, List.set_cons_succ, Option.some.injEq, V.int.injEq, V.bl.injEq, V.ref.injEq, V.str.injEq, V.ty.injEq, List.cons.injEq, exists_eq_left', exists_eq_left, exists_eq_right, exists_and_left, exists_and_right, and_true, true_and, and_assoc, exists_const, decide_eq_true_eq, Bool.not_eq_true', Bool.not_true, Bool.not_false, Bool.not_not, decide_eq_false_iff_not, ite_not, Bool.false_eq_true, if_true, if_false, reduceCtorEq, and_false, false_and, exists_false, or_false, false_or, ↓reduceIte, eq_self, reduceIte]
  cases n with
  | any =>
    obtain ⟨x0, T, r0⟩ := rep_one R
    cases rep_str r0
    refine ⟨_, T, _, at0, rfl, ?_⟩
    rw [if_neg (by decide)]
    refine ⟨_, T, _, at0, rfl, ?_⟩
    rw [if_neg (by decide)]
    refine ⟨_, T, _, at0, rfl, ?_⟩
    rw [if_neg (by decide)]
    exact ⟨t, kl, lt, _, ks, lk, rfl, R, ok, rfl, G, q⟩
  | made s =>
    obtain ⟨x0, y0, T, r0, r1⟩ := rep_two R
    cases rep_str r0
    cases rep_str r1
    refine ⟨_, T, _, at0, rfl, ?_⟩
    rw [if_neg (by decide)]
    refine ⟨_, T, _, at0, rfl, ?_⟩
    rw [if_neg (by decide)]
    refine ⟨_, T, _, at0, rfl, ?_⟩
    rw [if_neg (by decide)]
    exact ⟨t, kl, lt, _, ks, lk, rfl, R, ok, rfl, G, q⟩
  | used s =>
    obtain ⟨x0, y0, T, r0, r1⟩ := rep_two R
    cases rep_str r0
    cases rep_str r1
    refine ⟨_, T, _, at0, rfl, ?_⟩
    rw [if_neg (by decide)]
    refine ⟨_, T, _, at0, rfl, ?_⟩
    rw [if_neg (by decide)]
    refine ⟨_, T, _, at0, rfl, ?_⟩
    rw [if_neg (by decide)]
    exact ⟨t, kl, lt, _, ks, lk, rfl, R, ok, rfl, G, q⟩
  | chief s =>
    obtain ⟨x0, y0, T, r0, r1⟩ := rep_two R
    cases rep_str r0
    cases rep_str r1
    refine ⟨_, T, _, at0, rfl, ?_⟩
    rw [if_neg (by decide)]
    refine ⟨_, T, _, at0, rfl, ?_⟩
    rw [if_neg (by decide)]
    refine ⟨_, T, _, at0, rfl, ?_⟩
    rw [if_neg (by decide)]
    exact ⟨t, kl, lt, _, ks, lk, rfl, R, ok, rfl, G, q⟩
  | over a b =>
    obtain ⟨x0, y0, z0, T, r0, r1, r2⟩ := rep_three R
    cases rep_str r0
    refine ⟨_, T, _, at0, rfl, ?_⟩
    rw [if_neg (by decide)]
    refine ⟨_, T, _, at0, rfl, ?_⟩
    rw [if_neg (by decide)]
    refine ⟨_, T, _, at0, rfl, ?_⟩
    rw [if_neg (by decide)]
    exact ⟨t, kl, lt, _, ks, lk, rfl, R, ok, rfl, G, q⟩
  | both x y =>
    obtain ⟨x0, y0, z0, T, r0, r1, r2⟩ := rep_three R
    cases rep_str r0
    obtain ⟨t1, rfl⟩ := told_ref r1
    obtain ⟨t2, rfl⟩ := told_ref r2
    have dd : max x.dp y.dp + 1 ≤ d + 1 := dp
    refine ⟨_, T, _, at0, rfl, ?_⟩
    rw [if_pos (by decide)]
    refine ⟨_, T, _, at1, t1, kl, lt, x, ks, lk, rfl, r1, ok.1, (by omega), G, fun H1 S1 => ?_⟩
    refine ⟨_, rfl, ?_⟩
    by_cases hx : claimsB ks lk x = true
    · rw [if_pos hx]
      refine ⟨_, Same.tup S1 T, _, at2, t2, kl, lt, y, ks, lk, rfl, r2.same S1, ok.2, (by omega), G.same S1, fun H2 S2 => ?_⟩
      have e9 : claimsB ks lk (.both x y) = claimsB ks lk y := by simp [claimsB, hx]
      rw [← e9]
      exact q _ (S1.trans S2)
    · rw [if_neg hx]
      have e9 : claimsB ks lk (.both x y) = false := by simp [claimsB, hx]
      rw [← e9]
      exact q _ S1
  | either x y =>
    obtain ⟨x0, y0, z0, T, r0, r1, r2⟩ := rep_three R
    cases rep_str r0
    obtain ⟨t1, rfl⟩ := told_ref r1
    obtain ⟨t2, rfl⟩ := told_ref r2
    have dd : max x.dp y.dp + 1 ≤ d + 1 := dp
    refine ⟨_, T, _, at0, rfl, ?_⟩
    rw [if_neg (by decide)]
    refine ⟨_, T, _, at0, rfl, ?_⟩
    rw [if_pos (by decide)]
    refine ⟨_, T, _, at1, t1, kl, lt, x, ks, lk, rfl, r1, ok.1, (by omega), G, fun H1 S1 => ?_⟩
    refine ⟨_, rfl, ?_⟩
    by_cases hx : claimsB ks lk x = true
    · rw [if_pos hx]
      have e9 : claimsB ks lk (.either x y) = true := by simp [claimsB, hx]
      rw [← e9]
      exact q _ S1
    · rw [if_neg hx]
      refine ⟨_, Same.tup S1 T, _, at2, t2, kl, lt, y, ks, lk, rfl, r2.same S1, ok.2, (by omega), G.same S1, fun H2 S2 => ?_⟩
      have e9 : claimsB ks lk (.either x y) = claimsB ks lk y := by simp [claimsB, hx]
      rw [← e9]
      exact q _ (S1.trans S2)
  | but x y =>
    obtain ⟨x0, y0, z0, T, r0, r1, r2⟩ := rep_three R
    cases rep_str r0
    obtain ⟨t1, rfl⟩ := told_ref r1
    obtain ⟨t2, rfl⟩ := told_ref r2
    have dd : max x.dp y.dp + 1 ≤ d + 1 := dp
    refine ⟨_, T, _, at0, rfl, ?_⟩
    rw [if_neg (by decide)]
    refine ⟨_, T, _, at0, rfl, ?_⟩
    rw [if_neg (by decide)]
    refine ⟨_, T, _, at0, rfl, ?_⟩
    rw [if_pos (by decide)]
    refine ⟨_, T, _, at1, t1, kl, lt, x, ks, lk, rfl, r1, ok.1, (by omega), G, fun H1 S1 => ?_⟩
    refine ⟨_, rfl, ?_⟩
    by_cases hx : claimsB ks lk x = true
    · rw [if_pos hx]
      refine ⟨_, Same.tup S1 T, _, at2, t2, kl, lt, y, ks, lk, rfl, r2.same S1, ok.2, (by omega), G.same S1, fun H2 S2 => ?_⟩
      have e9 : claimsB ks lk (.but x y) = !claimsB ks lk y := by simp [claimsB, hx]
      refine ⟨_, rfl, ?_⟩
      rw [← e9]
      exact q _ (S1.trans S2)
    · rw [if_neg hx]
      have e9 : claimsB ks lk (.but x y) = false := by simp [claimsB, hx]
      rw [← e9]
      exact q _ S1
theorem ok_law_claims (F : Fun K "_law_claims" "_law_claims" s_law_claims f fd) (M : Mg mg) (C_law_plain_claims : Cal P w K mg base CX0 "_law_plain_claims" 2 ["_law_told", "_law_kinds_here", "_law_look_here"] (spPlainC K)) (b : Binds K fd ["_law_told", "_law_kinds_here", "_law_look_here"] []) (kp : PySem.W.keepIn K (.ref f) = true) (m : mg "_law_claims" = some (.ref f)) : ∀ d : Nat, FnOk P w K mg base CX0 (3 + d) f fd ["_law_told", "_law_kinds_here", "_law_look_here"] (spLClaims K d)
  | 0 => by
    refine F.ok sc_law_claims (fun vs H Q E h => ?_) (fun cdv A outer s H vs Q E hr h => ?_)
    · obtain ⟨t, kl, lt, n, ks, lk, rfl, _⟩ := h
      rfl
    obtain ⟨t, kl, lt, n, ks, lk, rfl, R, ok, dp, G, q⟩ := h
    have := Nt.dp_pos n
    omega
  | d + 1 => step_claims F M C_law_plain_claims ⟨⟨f, fd, ok_law_claims F M C_law_plain_claims b kp m d, b, kp, m⟩⟩
end
theorem fnok_union {P : Program} {w : World} {K : PySem.W.Frag} {mg : Str → Option Value} {base : Heap} {f : Addr} {fd : FuncData} {ps : List Str} {spd : Nat → Sp} {L n : Nat} (h : ∀ d, FnOk P w K mg base CX0 (L + d) f fd ps (spd d)) : FnOk P w K mg base CX0 (L + n) f fd ps (fun vs H Q E => ∃ d, d ≤ n ∧ spd d vs H Q E) := by
  refine ⟨fun vs H Q E ⟨d, hd, s⟩ => (h d).len _ _ _ _ s, fun A st s H bd us vs Q E hr I hb r ⟨d, hd, sp⟩ => ?_⟩
  exact (h d).run A st s H bd us vs Q E (hr.mono (by omega)) I hb r sp
def spNoteU (K : PySem.W.Frag) : Sp := fun vs H Q E => ∃ d, d ≤ 5 ∧ spNoteG K d vs H Q E

def wholeK : Kn → Bool
  | .int => true
  | _ => false
def spIsWhole (K : PySem.W.Frag) : Sp := fun vs H Q _ => ∃ v k, vs = [v] ∧ Kd K H v k ∧ Q (.bl (wholeK k)) H
theorem spIsWhole_of {K : PySem.W.Frag} {H : Hp} {v : V} {k : Kn} {Q : VK} {E : XK} (h : Kd K H v k) (q : Q (.bl (wholeK k)) H) : spIsWhole K [v] H Q E := ⟨v, k, rfl, h, q⟩
theorem kd_int {K : PySem.W.Frag} {H : Hp} {v : V} (h : Kd K H v .int) : ∃ i, v = .int i := by
  cases v with
  | int i => exact ⟨i, rfl⟩
  | ref a => rcases h with ⟨z, _⟩ | ⟨z, _⟩ | ⟨z, _⟩ <;> cases z
  | non => cases h
  | bl b => cases h
  | str x => cases h
  | byt b => exact h.elim
  | flt b => exact h.elim
  | ty n => exact h.elim
theorem wholeK_ne {k : Kn} (h : k ≠ .int) : wholeK k = false := by
  cases k <;> first | rfl | exact absurd rfl h
section
variable {P : Program} {w : World} {K : PySem.W.Frag} {mg : Str → Option Value} {base : Heap} {f : Addr} {fd : FuncData}
theorem ok_is_whole (F : Fun K "is_whole" "is_whole" s_is_whole f fd) (M : Mg mg) : FnOk P w K mg base CX0 1 f fd ["thing"] (spIsWhole K) := by
  refine F.ok sc_is_whole (fun vs H Q E h => ?_) (fun cdv A outer s H vs Q E hr h => ?_)
  · obtain ⟨v, k, rfl, _⟩ := h
    rfl
  obtain ⟨v, k, rfl, hk, q⟩ := h
  refine ⟨_, (@pss_one _ _ _ (@ps_ret _ _ _ _ (@pe_and _ _ _ _ _ _ _ (@pe_callB _ _ _ _ _ _ _ _ _ call_isi g_is_whole_isinstance M.m_isinstance b_isinstance (@pa_cons _ _ _ _ _ (@pe_var _ 0 _ _ rfl v_is_whole_0 dn_thing dc_thing) (@pa_cons _ _ _ _ _ (@pe_bltn _ _ (.ty "int") _ _ g_is_whole_int M.m_int b_int rfl nn_int dn_int) (@pa_nil _) (star1 rfl)) (star1 rfl)) nn_isinstance dn_isinstance (star1 rfl) (nost1 rfl nost0)) (@pe_one _ _ _ _ _ (@pe_not _ _ _ _ (@pe_callB _ _ _ _ _ _ _ _ _ call_isi g_is_whole_isinstance M.m_isinstance b_isinstance (@pa_cons _ _ _ _ _ (@pe_var _ 0 _ _ rfl v_is_whole_0 dn_thing dc_thing) (@pa_cons _ _ _ _ _ (@pe_bltn _ _ (.ty "bool") _ _ g_is_whole_bool M.m_bool b_bool rfl nn_bool dn_bool) (@pa_nil _) (star1 rfl)) (star1 rfl)) nn_isinstance dn_isinstance (star1 rfl) (nost1 rfl nost0))))))), ?_⟩
  simp only [slots, Option.getD_some, Option.getD_none, tC, tVar, tCB, tCons, tNil, tRet, tAndV, tNotV, rIsi, isi_non_bl, isi_non_int, isi_non_str, isi_non_lst, isi_non_tup, isi_bl_bl, isi_bl_int, isi_bl_str, isi_bl_lst, isi_bl_tup, isi_int_bl, isi_int_int, isi_int_str, isi_int_lst, isi_int_tup, isi_str_bl, isi_str_int, isi_str_str, isi_str_lst, isi_str_tup, isi_lst_bl, isi_lst_int, isi_lst_str, isi_lst_lst, isi_lst_tup, isi_tup_bl, isi_tup_int, isi_tup_str, isi_tup_lst, isi_tup_tup, isi_dct_bl, isi_dct_int, isi_dct_str, isi_dct_lst, isi_dct_tup, Kd_non, Kd_bl, Kd_int, Kd_str, decide_true, decide_false, tyK_int, tyK_bool, tyK_str, tyK_list, tyK_tuple, L2.start, cxK, Int.reduceToNat, List.map_cons, List.map_nil, List.length_cons, List.length_nil, Nat.reduceAdd, Nat.reduceSub, Nat.zero_add, List.replicate_succ, List.replicate_zero, List.cons_append, List.nil_append, List.append_nil, List.getElem?_cons_zero, List.getElem?_cons_succ, List.set_cons_zero, List.set_cons_succ, Option.some.injEq, V.int.injEq, V.bl.injEq, V.ref.injEq, V.str.injEq, V.ty.injEq, List.cons.injEq, exists_eq_left', exists_eq_left, exists_eq_right, exists_and_left, exists_and_right, and_true, true_and, and_assoc, exists_const, decide_eq_true_eq, Bool.not_eq_true', Bool.not_true, Bool.not_false, Bool.not_not, decide_eq_false_iff_not, ite_not, Bool.false_eq_true, if_true, if_false, reduceCtorEq, and_false, false_and, exists_false, or_false, false_or, ↓reduceIte, eq_self, reduceIte]
  refine ⟨_, hk, ?_⟩
  cases k with
  | int => exact ⟨_, hk, q⟩
  | bl => exact ⟨_, hk, q⟩
  | _ => exact q
end

section
variable {P : Program} {w : World} {K : PySem.W.Frag} {mg : Str → Option Value} {base : Heap} {f : Addr} {fd : FuncData}
theorem ok_law_whole (F : Fun K "_law_whole" "_law_whole" s_law_whole f fd) (M : Mg mg) : FnOk P w K mg base CX0 1 f fd ["_law_found"] (spIsWhole K) := by
  refine F.ok sc_law_whole (fun vs H Q E h => ?_) (fun cdv A outer s H vs Q E hr h => ?_)
  · obtain ⟨v, k, rfl, _⟩ := h
    rfl
  obtain ⟨v, k, rfl, hk, q⟩ := h
  refine ⟨_, (@pss_one _ _ _ (@ps_ret _ _ _ _ (@pe_and _ _ _ _ _ _ _ (@pe_callB _ _ _ _ _ _ _ _ _ call_isi g_law_whole_isinstance M.m_isinstance b_isinstance (@pa_cons _ _ _ _ _ (@pe_var _ 0 _ _ rfl v_law_whole_0 dn__law_found dc__law_found) (@pa_cons _ _ _ _ _ (@pe_bltn _ _ (.ty "int") _ _ g_law_whole_int M.m_int b_int rfl nn_int dn_int) (@pa_nil _) (star1 rfl)) (star1 rfl)) nn_isinstance dn_isinstance (star1 rfl) (nost1 rfl nost0)) (@pe_one _ _ _ _ _ (@pe_not _ _ _ _ (@pe_callB _ _ _ _ _ _ _ _ _ call_isi g_law_whole_isinstance M.m_isinstance b_isinstance (@pa_cons _ _ _ _ _ (@pe_var _ 0 _ _ rfl v_law_whole_0 dn__law_found dc__law_found) (@pa_cons _ _ _ _ _ (@pe_bltn _ _ (.ty "bool") _ _ g_law_whole_bool M.m_bool b_bool rfl nn_bool dn_bool) (@pa_nil _) (star1 rfl)) (star1 rfl)) nn_isinstance dn_isinstance (star1 rfl) (nost1 rfl nost0))))))), ?_⟩
  simp only [slots, Option.getD_some, Option.getD_none, tC, tVar, tCB, tCons, tNil, tRet, tAndV, tNotV, rIsi, isi_non_bl, isi_non_int, isi_non_str, isi_non_lst, isi_non_tup, isi_bl_bl, isi_bl_int, isi_bl_str, isi_bl_lst, isi_bl_tup, isi_int_bl, isi_int_int, isi_int_str, isi_int_lst, isi_int_tup, isi_str_bl, isi_str_int, isi_str_str, isi_str_lst, isi_str_tup, isi_lst_bl, isi_lst_int, isi_lst_str, isi_lst_lst, isi_lst_tup, isi_tup_bl, isi_tup_int, isi_tup_str, isi_tup_lst, isi_tup_tup, isi_dct_bl, isi_dct_int, isi_dct_str, isi_dct_lst, isi_dct_tup, Kd_non, Kd_bl, Kd_int, Kd_str, decide_true, decide_false, tyK_int, tyK_bool, tyK_str, tyK_list, tyK_tuple, L2.start, cxK, Int.reduceToNat, List.map_cons, List.map_nil, List.length_cons, List.length_nil, Nat.reduceAdd, Nat.reduceSub, Nat.zero_add, List.replicate_succ, List.replicate_zero, List.cons_append, List.nil_append, List.append_nil, List.getElem?_cons_zero, List.getElem?_cons_succ, List.set_cons_zero, List.set_cons_succ, Option.some.injEq, V.int.injEq, V.bl.injEq, V.ref.injEq, V.str.injEq, V.ty.injEq, List.cons.injEq, exists_eq_left', exists_eq_left, exists_eq_right, exists_and_left, exists_and_right, and_true, true_and, and_assoc, exists_const, decide_eq_true_eq, Bool.not_eq_true', Bool.not_true, Bool.not_false, Bool.not_not, decide_eq_false_iff_not, ite_not, Bool.false_eq_true, if_true, if_false, reduceCtorEq, and_false, false_and, exists_false, or_false, false_or, ↓reduceIte, eq_self, reduceIte]
  refine ⟨_, hk, ?_⟩
  cases k with
  | int => exact ⟨_, hk, q⟩
  | bl => exact ⟨_, hk, q⟩
  | _ => exact q
end

def dkn : PyData → Kn
  | .none => .non
  | .bool _ => .bl
  | .int _ => .int
  | .str _ => .str
  | .list _ => .lst
  | .tuple _ => .tup
  | _ => .dct
theorem rep_kd {K : PySem.W.Frag} {H : Hp} {v : V} {d : PyData} (R : Rep K H v d) : Kd K H v (dkn d) := by
  cases R with
  | non => exact rfl
  | bl b => exact rfl
  | int i => exact rfl
  | str z => exact rfl
  | lst h _ => exact .inl ⟨rfl, _, h⟩
  | tup h _ => exact .inr (.inl ⟨rfl, _, h⟩)
def isNn : PyData → Bool
  | .none => true
  | _ => false
def atPl (ks : List Kd2) (lk : List Int) (p : Kd2 → Int → Bool) : PyData → Bool
  | .int i => inV (.int i) (plcTo ks lk p ks.length)
  | _ => false
def plB (ks : List Kd2) (lk : List Int) (p : Kd2 → Int → Bool) (b : Bool) (x : PyData) : Bool := if b then atPl ks lk p x else isNn x && !(anyAt ks lk p)
def sayF (f : Bool → List PyData → Bool) (t : Bool) : PyData → Bool
  | .tuple (.bool b :: r) => f b r && decide (b = t)
  | _ => false
def one1 (f : PyData → Bool) : List PyData → Bool
  | [x] => f x
  | _ => false
def sideB (w1 w2 : Bool) (f g : Bool → List PyData → Bool) (v : PyData) : PyData → Bool
  | .int i => if i = 0 then sayF f (!w1) v else if i = 1 then sayF g (!w2) v else false
  | _ => false
def twoB (w0 w1 w2 : Bool) (f g : Bool → List PyData → Bool) (b : Bool) : List PyData → Bool
  | [u, v] => if b = w0 then sayF f w1 u && sayF g w2 v else sideB w1 w2 f g v u
  | _ => false
def rdB (ks : List Kd2) (lk : List Int) : Nt → Bool → List PyData → Bool
  | .any => fun b => one1 fun x => b && isNn x
  | .made s => fun b => one1 (plB ks lk (pMade lk s) b)
  | .used s => fun b => one1 (plB ks lk (pUsed lk s) b)
  | .chief s => fun b => one1 (plB ks lk (pChief lk s) b)
  | .over k1 k2 => fun b => one1 fun x => decide (b = decide (numIn ks lk k1 > numIn ks lk k2)) && isNn x
  | .both x y => twoB true true true (rdB ks lk x) (rdB ks lk y)
  | .either x y => twoB false false false (rdB ks lk x) (rdB ks lk y)
  | .but x y => twoB true true false (rdB ks lk x) (rdB ks lk y)
def rdD (ks : List Kd2) (lk : List Int) (n : Nt) : PyData → Bool
  | .tuple (.bool b :: r) => rdB ks lk n b r
  | _ => false
def rdV (ks : List Kd2) (lk : List Int) (n : Nt) : PyData → V
  | .tuple (.bool b :: r) => if rdB ks lk n b r then .bl b else .non
  | _ => .non
theorem rep_bool {K : PySem.W.Frag} {H : Hp} {x : V} {b : Bool} (R : Rep K H x (.bool b)) : x = .bl b := by
  cases R
  rfl
theorem rep_tupV {K : PySem.W.Frag} {H : Hp} {v : V} {ds : List PyData} (R : Rep K H v (.tuple ds)) : ∃ a xs, v = .ref a ∧ SqT K H a xs ∧ RepAll K H xs ds := by
  cases R with
  | tup h r => exact ⟨_, _, rfl, h, r⟩
theorem isN_iff {K : PySem.W.Frag} {H : Hp} {v : V} {d : PyData} (R : Rep K H v d) : v = .non ↔ isNn d = true := by
  cases R <;> simp [isNn]
theorem isN_dec {K : PySem.W.Frag} {H : Hp} {v : V} {d : PyData} (R : Rep K H v d) : decide (v = .non) = isNn d := by
  cases R <;> simp [isNn]
theorem plc_flat {ks : List Kd2} {lk : List Int} {p : Kd2 → Int → Bool} : ∀ i, (plcTo ks lk p i).all flatV = true
  | 0 => rfl
  | i + 1 => by
    show (plcTo ks lk p i ++ _).all flatV = true
    rw [List.all_append, plc_flat i, Bool.true_and]
    split
    · split <;> rfl
    · rfl
theorem plc_len {ks : List Kd2} {lk : List Int} {p : Kd2 → Int → Bool} (h : lk.length = ks.length) : decide (((plcTo ks lk p ks.length).length : Int) = 0) = !(anyAt ks lk p) := by
  rw [← anyTo_end h, ← plcTo_empty h _ (Nat.le_refl _)]
  cases plcTo ks lk p ks.length with
  | nil => rfl
  | cons a b => simp; omega
theorem rd_inv {ks : List Kd2} {lk : List Int} {n : Nt} {d : PyData} (h : rdD ks lk n d = true) : ∃ b r, d = .tuple (.bool b :: r) ∧ rdB ks lk n b r = true := by
  unfold rdD at h
  split at h
  · exact ⟨_, _, rfl, h⟩
  · cases h
theorem say_no {ks : List Kd2} {lk : List Int} {n : Nt} {d : PyData} {t : Bool} (h : rdD ks lk n d = false) : sayF (rdB ks lk n) t d = false := by
  unfold rdD at h
  unfold sayF
  split at h
  · rw [h]; rfl
  · rfl
theorem rdV_no {ks : List Kd2} {lk : List Int} {n : Nt} {d : PyData} (h : rdD ks lk n d = false) : rdV ks lk n d = .non := by
  unfold rdD at h
  unfold rdV
  split at h
  · rw [h]; rfl
  · rfl
theorem rep_len2 {K : PySem.W.Frag} {H : Hp} {xs : List V} {ds : List PyData} (R : RepAll K H xs ds) : (∃ u z xu xz, ds = [u, z] ∧ xs = [xu, xz] ∧ Rep K H xu u ∧ Rep K H xz z) ∨ (xs.length ≠ 2 ∧ ∀ w0 w1 w2 f g b, twoB w0 w1 w2 f g b ds = false) := by
  cases R with
  | nil => exact .inr ⟨by decide, fun _ _ _ _ _ _ => rfl⟩
  | cons a R =>
    cases R with
    | nil => exact .inr ⟨by simp, fun _ _ _ _ _ _ => rfl⟩
    | cons b R =>
      cases R with
      | nil => exact .inl ⟨_, _, _, _, rfl, rfl, a, b⟩
      | cons c R => exact .inr ⟨by simp, fun _ _ _ _ _ _ => rfl⟩
theorem rep_len1 {K : PySem.W.Frag} {H : Hp} {xs : List V} {ds : List PyData} (R : RepAll K H xs ds) : (∃ u xu, ds = [u] ∧ xs = [xu] ∧ Rep K H xu u) ∨ (xs.length ≠ 1 ∧ ∀ f, one1 f ds = false) := by
  cases R with
  | nil => exact .inr ⟨by decide, fun _ => rfl⟩
  | cons a R =>
    cases R with
    | nil => exact .inl ⟨_, _, rfl, rfl, a⟩
    | cons b R => exact .inr ⟨by simp, fun _ => rfl⟩
def JoinW (wd : Str) (w0 w1 w2 : Bool) : Prop := (wd = "both" ∧ w0 = true ∧ w1 = true ∧ w2 = true) ∨ (wd = "either" ∧ w0 = false ∧ w1 = false ∧ w2 = false) ∨ (wd = "but" ∧ w0 = true ∧ w1 = true ∧ w2 = false)
structure OBok (P : Params) (K : PySem.W.Frag) (c : Addr) : Prop where
  ex : ∃ d1 d2 d3, KDct P K c [("both", .ref d1), ("either", .ref d2), ("but", .ref d3)] ∧ (∀ H, SqT K H d1 [.bl true, .bl true, .bl true]) ∧ (∀ H, SqT K H d2 [.bl false, .bl false, .bl false]) ∧ ∀ H, SqT K H d3 [.bl true, .bl true, .bl false]
theorem OBok.at {P : Params} {K : PySem.W.Frag} {c : Addr} {wd : Str} {w0 w1 w2 : Bool} (O : OBok P K c) (j : JoinW wd w0 w1 w2) : ∃ kvs dw, KDct P K c kvs ∧ valV kvs wd = some (.ref dw) ∧ ∀ H, SqT K H dw [.bl w0, .bl w1, .bl w2] := by
  obtain ⟨d1, d2, d3, D, h1, h2, h3⟩ := O.ex
  rcases j with ⟨rfl, rfl, rfl, rfl⟩ | ⟨rfl, rfl, rfl, rfl⟩ | ⟨rfl, rfl, rfl, rfl⟩
  · exact ⟨_, d1, D, rfl, h1⟩
  · exact ⟨_, d2, D, rfl, h2⟩
  · exact ⟨_, d3, D, rfl, h3⟩
theorem OBok.no {P : Params} {K : PySem.W.Frag} {c : Addr} {wd : Str} (O : OBok P K c) (h : (wd == "both") = false ∧ (wd == "either") = false ∧ (wd == "but") = false) : ∃ kvs, KDct P K c kvs ∧ valV kvs wd = none := by
  obtain ⟨d1, d2, d3, D, _⟩ := O.ex
  have ne : ∀ {a b : Str}, (a == b) = false → ¬ b = a := fun h e => by rw [e] at h; simp at h
  exact ⟨_, D, by rw [valV_neg (ne h.1), valV_neg (ne h.2.1), valV_neg (ne h.2.2)]; rfl⟩
def spPlF (K : PySem.W.Frag) : Sp := fun vs H Q _ => ∃ (t kl lt : Addr) (n : Nt) (ks : List Kd2) (lk : List Int), vs = [.ref t, .ref kl, .ref lt] ∧ ToldAt K H (.ref t) n ∧ oneName n ∧ Ground K H kl lt ks lk ∧ ∀ l H', Same H H' → H' l = some (.lst (plcTo ks lk (showsB lk n) ks.length)) → Q (.ref l) H'
def spPlH (K : PySem.W.Frag) : Sp := fun vs H Q _ => ∃ (t kl lt v : Addr) (n : Nt) (ks : List Kd2) (lk : List Int) (b : Bool) (x : PyData), vs = [.ref t, .ref kl, .ref lt, .ref v] ∧ ToldAt K H (.ref t) n ∧ oneName n ∧ Ground K H kl lt ks lk ∧ Rep K H (.ref v) (.tuple [.bool b, x]) ∧ ∀ H', Same H H' → Q (.bl (plB ks lk (showsB lk n) b x)) H'
def spOneH (K : PySem.W.Frag) : Sp := fun vs H Q _ => ∃ (t kl lt v : Addr) (n : Nt) (ks : List Kd2) (lk : List Int) (b : Bool) (x : PyData), vs = [.ref t, .ref kl, .ref lt, .ref v] ∧ ToldAt K H (.ref t) n ∧ n.ok ∧ n.dp = 1 ∧ Ground K H kl lt ks lk ∧ Rep K H (.ref v) (.tuple [.bool b, x]) ∧ ∀ H', Same H H' → Q (.bl (rdB ks lk n b [x])) H'
def spHolds (K : PySem.W.Frag) (d : Nat) : Sp := fun vs H Q _ => ∃ (t kl lt : Addr) (v : V) (n : Nt) (ks : List Kd2) (lk : List Int) (dt : PyData), vs = [.ref t, .ref kl, .ref lt, v] ∧ ToldAt K H (.ref t) n ∧ n.ok ∧ n.dp ≤ d ∧ Ground K H kl lt ks lk ∧ Rep K H v dt ∧ ∀ H', Same H H' → Q (.bl (rdD ks lk n dt)) H'
def spSays (K : PySem.W.Frag) (d : Nat) : Sp := fun vs H Q _ => ∃ (tr : Bool) (t kl lt : Addr) (v : V) (n : Nt) (ks : List Kd2) (lk : List Int) (dt : PyData), vs = [.bl tr, .ref t, .ref kl, .ref lt, v] ∧ ToldAt K H (.ref t) n ∧ n.ok ∧ n.dp ≤ d ∧ Ground K H kl lt ks lk ∧ Rep K H v dt ∧ ∀ H', Same H H' → Q (.bl (sayF (rdB ks lk n) tr dt)) H'
def spTwo (K : PySem.W.Frag) (d : Nat) : Sp := fun vs H Q _ => ∃ (t kl lt v : Addr) (wd : Str) (w0 w1 w2 : Bool) (t1 t2 : Addr) (x y : Nt) (ks : List Kd2) (lk : List Int) (b : Bool) (u z : PyData), vs = [.ref t, .ref kl, .ref lt, .ref v] ∧ SqT K H t [.str wd, .ref t1, .ref t2] ∧ JoinW wd w0 w1 w2 ∧ ToldAt K H (.ref t1) x ∧ ToldAt K H (.ref t2) y ∧ x.ok ∧ y.ok ∧ x.dp ≤ d ∧ y.dp ≤ d ∧ Ground K H kl lt ks lk ∧ Rep K H (.ref v) (.tuple [.bool b, u, z]) ∧ ∀ H', Same H H' → Q (.bl (twoB w0 w1 w2 (rdB ks lk x) (rdB ks lk y) b [u, z])) H'
def spTruth (K : PySem.W.Frag) : Sp := fun vs H Q _ => ∃ (t kl lt : Addr) (v : V) (n : Nt) (ks : List Kd2) (lk : List Int) (dt : PyData), vs = [.ref t, .ref kl, .ref lt, v] ∧ ToldAt K H (.ref t) n ∧ n.ok ∧ n.dp ≤ 5 ∧ Ground K H kl lt ks lk ∧ Rep K H v dt ∧ ∀ H', Same H H' → Q (rdV ks lk n dt) H'
section
variable {P : Program} {w : World} {K : PySem.W.Frag} {mg : Str → Option Value} {base : Heap} {f : Addr} {fd : FuncData}
theorem ok_places_for (F : Fun K "places_for" "places_for" s_places_for f fd) (M : Mg mg) (C_made_places : Cal P w K mg base CX0 "made_places" 1 ["kinds", "look", "stuff"] (spPlaces K pMade)) (C_used_places : Cal P w K mg base CX0 "used_places" 1 ["kinds", "look", "use"] (spPlaces K pUsed)) (C_chief_places : Cal P w K mg base CX0 "chief_places" 1 ["kinds", "look", "stuff"] (spPlaces K pChief)) : FnOk P w K mg base CX0 2 f fd ["told", "kinds", "look"] (spPlF K) := by
  refine F.ok sc_places_for (fun vs H Q E h => ?_) (fun cdv A outer s H vs Q E hr h => ?_)
  · obtain ⟨t, kl, lt, n, ks, lk, rfl, _⟩ := h
    rfl
  obtain ⟨t, kl, lt, n, ks, lk, rfl, R, on, G, q⟩ := h
  refine ⟨_, (@pss_cons _ _ _ _ _ (@ps_if _ _ _ _ _ _ _ _ (@pt_cmpR _ _ _ _ _ _ _ _ (@op_eq _) (@pe_ix _ _ _ _ _ _ _ (@ix_tup _) (@pe_var _ 0 _ _ rfl v_places_for_0 dn_told dc_told) (@pe_int _ _ _ _) (fun _ _ => rfl)) (@pe_str _ _ _ _) (nomark _)) (@pss_one _ _ _ (@ps_ret _ _ _ _ (@pe_callC _ _ _ _ _ _ _ _ _ _ _ C_made_places hr g_places_for_made_places (@pa_cons _ _ _ _ _ (@pe_var _ 1 _ _ rfl v_places_for_1 dn_kinds dc_kinds) (@pa_cons _ _ _ _ _ (@pe_var _ 2 _ _ rfl v_places_for_2 dn_look dc_look) (@pa_cons _ _ _ _ _ (@pe_ix _ _ _ _ _ _ _ (@ix_tup _) (@pe_var _ 0 _ _ rfl v_places_for_0 dn_told dc_told) (@pe_int _ _ _ _) (fun _ _ => rfl)) (@pa_nil _) (star1 rfl)) (star1 rfl)) (star1 rfl)) (by decide) dn_made_places (star1 rfl) (nost1 rfl (nost1 rfl nost0))))) (@pss_nil _)) (@pss_cons _ _ _ _ _ (@ps_if _ _ _ _ _ _ _ _ (@pt_cmpR _ _ _ _ _ _ _ _ (@op_eq _) (@pe_ix _ _ _ _ _ _ _ (@ix_tup _) (@pe_var _ 0 _ _ rfl v_places_for_0 dn_told dc_told) (@pe_int _ _ _ _) (fun _ _ => rfl)) (@pe_str _ _ _ _) (nomark _)) (@pss_one _ _ _ (@ps_ret _ _ _ _ (@pe_callC _ _ _ _ _ _ _ _ _ _ _ C_used_places hr g_places_for_used_places (@pa_cons _ _ _ _ _ (@pe_var _ 1 _ _ rfl v_places_for_1 dn_kinds dc_kinds) (@pa_cons _ _ _ _ _ (@pe_var _ 2 _ _ rfl v_places_for_2 dn_look dc_look) (@pa_cons _ _ _ _ _ (@pe_ix _ _ _ _ _ _ _ (@ix_tup _) (@pe_var _ 0 _ _ rfl v_places_for_0 dn_told dc_told) (@pe_int _ _ _ _) (fun _ _ => rfl)) (@pa_nil _) (star1 rfl)) (star1 rfl)) (star1 rfl)) (by decide) dn_used_places (star1 rfl) (nost1 rfl (nost1 rfl nost0))))) (@pss_nil _)) (@pss_one _ _ _ (@ps_ret _ _ _ _ (@pe_callC _ _ _ _ _ _ _ _ _ _ _ C_chief_places hr g_places_for_chief_places (@pa_cons _ _ _ _ _ (@pe_var _ 1 _ _ rfl v_places_for_1 dn_kinds dc_kinds) (@pa_cons _ _ _ _ _ (@pe_var _ 2 _ _ rfl v_places_for_2 dn_look dc_look) (@pa_cons _ _ _ _ _ (@pe_ix _ _ _ _ _ _ _ (@ix_tup _) (@pe_var _ 0 _ _ rfl v_places_for_0 dn_told dc_told) (@pe_int _ _ _ _) (fun _ _ => rfl)) (@pa_nil _) (star1 rfl)) (star1 rfl)) (star1 rfl)) (by decide) dn_chief_places (star1 rfl) (nost1 rfl (nost1 rfl nost0))))))), ?_⟩
  simp only [slots, Option.getD_some, Option.getD_none, tSeq, tOp, tC, tVar, tCons, tNil, tCall, tRet, tIfS, tTest, tNext, rEq, rIxT, Kd_non, Kd_bl, Kd_int, Kd_str, sc_non_non, sc_non_int, sc_int_non, sc_non_bl, sc_bl_non, sc_non_str, sc_str_non, sc_int_int, sc_bl_bl, sc_str_str, sc_int_str, sc_str_int, sc_bl_str, sc_str_bl, decide_true, decide_false, L2.start, cxK, Int.reduceToNat, List.map_cons, List.map_nil, List.length_cons, List.length_nil, Nat.reduceAdd, Nat.reduceSub, Nat.zero_add, List.replicate_succ, List.replicate_zero, List.cons_append, List.nil_append, List.append_nil, List.getElem?_cons_zero, List.getElem?_cons_succ, List.set_cons_zero, List.set_cons_succ, Option.some.injEq, V.int.injEq, V.bl.injEq, V.ref.injEq, V.str.injEq, V.ty.injEq, List.cons.injEq, exists_eq_left', exists_eq_left, exists_eq_right, exists_and_left, exists_and_right, and_true, true_and, and_assoc, exists_const, decide_eq_true_eq, Bool.not_eq_true', Bool.not_true, Bool.not_false, Bool.not_not, decide_eq_false_iff_not, ite_not, Bool.false_eq_true, if_true, if_false, reduceCtorEq, and_false, false_and, exists_false, or_false, false_or, ↓reduceIte, eq_self, reduceIte]
  cases n with
  | any => exact on.elim
  | made s =>
    obtain ⟨x0, y0, T, r0, r1⟩ := rep_two R
    cases rep_str r0
    cases rep_str r1
    refine ⟨_, T, _, at0, rfl, ?_⟩
    rw [if_pos (by decide)]
    exact ⟨_, T, _, at1, _, _, s, ks, lk, rfl, G, fun l xs H1 S1 hl _ he => q l H1 S1 (by rw [hl, he]; rfl)⟩
  | used s =>
    obtain ⟨x0, y0, T, r0, r1⟩ := rep_two R
    cases rep_str r0
    cases rep_str r1
    refine ⟨_, T, _, at0, rfl, ?_⟩
    rw [if_neg (by decide)]
    refine ⟨_, T, _, at0, rfl, ?_⟩
    rw [if_pos (by decide)]
    exact ⟨_, T, _, at1, _, _, s, ks, lk, rfl, G, fun l xs H1 S1 hl _ he => q l H1 S1 (by rw [hl, he]; rfl)⟩
  | chief s =>
    obtain ⟨x0, y0, T, r0, r1⟩ := rep_two R
    cases rep_str r0
    cases rep_str r1
    refine ⟨_, T, _, at0, rfl, ?_⟩
    rw [if_neg (by decide)]
    refine ⟨_, T, _, at0, rfl, ?_⟩
    rw [if_neg (by decide)]
    exact ⟨_, T, _, at1, _, _, s, ks, lk, rfl, G, fun l xs H1 S1 hl _ he => q l H1 S1 (by rw [hl, he]; rfl)⟩
  | over a b => exact on.elim
  | both a b => exact on.elim
  | either a b => exact on.elim
  | but a b => exact on.elim
theorem ok_place_holds (F : Fun K "place_holds" "place_holds" s_place_holds f fd) (M : Mg mg) (C_is_whole : Cal P w K mg base CX0 "is_whole" 1 ["thing"] (spIsWhole K)) (C_places_for : Cal P w K mg base CX0 "places_for" 2 ["told", "kinds", "look"] (spPlF K)) : FnOk P w K mg base CX0 3 f fd ["told", "kinds", "look", "reason"] (spPlH K) := by
  refine F.ok sc_place_holds (fun vs H Q E h => ?_) (fun cdv A outer s H vs Q E hr h => ?_)
  · obtain ⟨t, kl, lt, v, n, ks, lk, b, x, rfl, _⟩ := h
    rfl
  obtain ⟨t, kl, lt, v, n, ks, lk, b, x, rfl, R, on, G, Rv, q⟩ := h
  refine ⟨_, (@pss_cons _ _ _ _ _ (@ps_set _ _ 4 _ _ _ _ sc_place_holds.nd rfl l_place_holds_4 (@pe_callC _ _ _ _ _ _ _ _ _ _ _ C_places_for hr g_place_holds_places_for (@pa_cons _ _ _ _ _ (@pe_var _ 0 _ _ rfl v_place_holds_0 dn_told dc_told) (@pa_cons _ _ _ _ _ (@pe_var _ 1 _ _ rfl v_place_holds_1 dn_kinds dc_kinds) (@pa_cons _ _ _ _ _ (@pe_var _ 2 _ _ rfl v_place_holds_2 dn_look dc_look) (@pa_nil _) (star1 rfl)) (star1 rfl)) (star1 rfl)) (by decide) dn_places_for (star1 rfl) (nost1 rfl (nost1 rfl nost0))) (swap1 rfl) (.inl rfl)) (@pss_cons _ _ _ _ _ (@ps_if _ _ _ _ _ _ _ _ (@pt_val _ _ _ (@pe_ix _ _ _ _ _ _ _ (@ix_tup _) (@pe_var _ 3 _ _ rfl v_place_holds_3 dn_reason dc_reason) (@pe_int _ _ _ _) (fun _ _ => rfl)) (test1 rfl)) (@pss_one _ _ _ (@ps_ret _ _ _ _ (@pe_and _ _ _ _ _ _ _ (@pe_callC _ _ _ _ _ _ _ _ _ _ _ C_is_whole hr g_place_holds_is_whole (@pa_cons _ _ _ _ _ (@pe_ix _ _ _ _ _ _ _ (@ix_tup _) (@pe_var _ 3 _ _ rfl v_place_holds_3 dn_reason dc_reason) (@pe_int _ _ _ _) (fun _ _ => rfl)) (@pa_nil _) (star1 rfl)) (by decide) dn_is_whole (star1 rfl) nost0) (@pe_one _ _ _ _ _ (@pe_cmpR _ _ _ _ _ _ _ _ op_in_seq (@pe_ix _ _ _ _ _ _ _ (@ix_tup _) (@pe_var _ 3 _ _ rfl v_place_holds_3 dn_reason dc_reason) (@pe_int _ _ _ _) (fun _ _ => rfl)) (@pe_var _ 4 _ _ rfl v_place_holds_4 dn_places dc_places) (by with_unfolding_all rfl)))))) (@pss_nil _)) (@pss_one _ _ _ (@ps_ret _ _ _ _ (@pe_and _ _ _ _ _ _ _ (@pe_cmpR _ _ _ _ _ _ _ _ (@op_isN _) (@pe_ix _ _ _ _ _ _ _ (@ix_tup _) (@pe_var _ 3 _ _ rfl v_place_holds_3 dn_reason dc_reason) (@pe_int _ _ _ _) (fun _ _ => rfl)) (@pe_non _ _ _) (nomark _)) (@pe_one _ _ _ _ _ (@pe_cmpR _ _ _ _ _ _ _ _ (@op_eq _) (@pe_callB _ _ _ _ _ _ _ _ _ call_len_seq g_place_holds_len M.m_len b_len (@pa_cons _ _ _ _ _ (@pe_var _ 4 _ _ rfl v_place_holds_4 dn_places dc_places) (@pa_nil _) (star1 rfl)) nn_len dn_len (star1 rfl) nost0) (@pe_int _ _ _ _) (nomark _)))))))), ?_⟩
  simp only [slots, Option.getD_some, Option.getD_none, tSeq, tAsg, gName, tOp, tC, tVar, tCB, tCons, tNil, tCall, tRet, tIfS, tB, tAndV, tNext, rEq, rIxT, Kd_non, Kd_bl, Kd_int, Kd_str, sc_non_non, sc_non_int, sc_int_non, sc_non_bl, sc_bl_non, sc_non_str, sc_str_non, sc_int_int, sc_bl_bl, sc_str_str, sc_int_str, sc_str_int, sc_bl_str, sc_str_bl, decide_true, decide_false, L2.start, cxK, Int.reduceToNat, List.map_cons, List.map_nil, List.length_cons, List.length_nil, Nat.reduceAdd, Nat.reduceSub, Nat.zero_add, List.replicate_succ, List.replicate_zero, List.cons_append, List.nil_append, List.append_nil, List.getElem?_cons_zero, List.getElem?_cons_succ, List.set_cons_zero, List.set_cons_succ, Option.some.injEq, V.int.injEq, V.bl.injEq, V.ref.injEq, V.str.injEq, V.ty.injEq, List.cons.injEq, exists_eq_left', exists_eq_left, exists_eq_right, exists_and_left, exists_and_right, and_true, true_and, and_assoc, exists_const, decide_eq_true_eq, Bool.not_eq_true', Bool.not_true, Bool.not_false, Bool.not_not, decide_eq_false_iff_not, ite_not, Bool.false_eq_true, if_true, if_false, reduceCtorEq, and_false, false_and, exists_false, or_false, false_or, ↓reduceIte, eq_self, reduceIte]
  refine ⟨t, kl, lt, n, ks, lk, rfl, R, on, G, fun l H1 S1 hl => ?_⟩
  obtain ⟨x0, y0, T, r0, r1⟩ := rep_two Rv
  cases rep_bool r0
  have T1 := Same.tup S1 T
  refine ⟨_, T1, _, at0, b, rfl, ?_⟩
  cases b with
  | true =>
    rw [if_pos rfl]
    refine ⟨_, T1, _, at1, _, _, rfl, rep_kd (Rep.same S1 r1), _, rfl, ?_⟩
    cases r1 with
    | int i =>
      rw [if_pos (show wholeK (dkn (.int i)) = true from rfl)]
      exact ⟨_, T1, _, at1, l, _, rfl, .inl (SqL.of hl), rfl, plc_flat _, q _ S1⟩
    | non => exact q _ S1
    | bl b => exact q _ S1
    | str z => exact q _ S1
    | lst a b => exact q _ S1
    | tup a b => exact q _ S1
  | false =>
    rw [if_neg (by decide)]
    refine ⟨_, T1, _, at1, ?_⟩
    have e9 : plB ks lk (showsB lk n) false x = (isNn x && !(anyAt ks lk (showsB lk n))) := rfl
    by_cases hn : y0 = .non
    · rw [if_pos hn]
      refine ⟨_, rfl, _, .inl (SqL.of hl), ?_⟩
      rw [plc_len G.len]
      rw [(isN_iff r1).mp hn, Bool.true_and] at e9
      rw [← e9]
      exact q _ S1
    · rw [if_neg hn]
      have : isNn x = false := by
        cases e : isNn x with
        | true => exact absurd ((isN_iff r1).mpr e) hn
        | false => rfl
      rw [this, Bool.false_and] at e9
      rw [← e9]
      exact q _ S1
theorem ok_one_holds (F : Fun K "one_holds" "one_holds" s_one_holds f fd) (M : Mg mg) (C_is_over : Cal P w K mg base CX0 "is_over" 2 ["kinds", "look", "one", "other"] (spOver K)) (C_place_holds : Cal P w K mg base CX0 "place_holds" 3 ["told", "kinds", "look", "reason"] (spPlH K)) : FnOk P w K mg base CX0 4 f fd ["told", "kinds", "look", "reason"] (spOneH K) := by
  refine F.ok sc_one_holds (fun vs H Q E h => ?_) (fun cdv A outer s H vs Q E hr h => ?_)
  · obtain ⟨t, kl, lt, v, n, ks, lk, b, x, rfl, _⟩ := h
    rfl
  obtain ⟨t, kl, lt, v, n, ks, lk, b, x, rfl, R, ok, dp, G, Rv, q⟩ := h
  refine ⟨_, (@pss_cons _ _ _ _ _ (@ps_if _ _ _ _ _ _ _ _ (@pt_cmpR _ _ _ _ _ _ _ _ (@op_eq _) (@pe_ix _ _ _ _ _ _ _ (@ix_tup _) (@pe_var _ 0 _ _ rfl v_one_holds_0 dn_told dc_told) (@pe_int _ _ _ _) (fun _ _ => rfl)) (@pe_str _ _ _ _) (nomark _)) (@pss_one _ _ _ (@ps_ret _ _ _ _ (@pe_and _ _ _ _ _ _ _ (@pe_ix _ _ _ _ _ _ _ (@ix_tup _) (@pe_var _ 3 _ _ rfl v_one_holds_3 dn_reason dc_reason) (@pe_int _ _ _ _) (fun _ _ => rfl)) (@pe_one _ _ _ _ _ (@pe_cmpR _ _ _ _ _ _ _ _ (@op_isN _) (@pe_ix _ _ _ _ _ _ _ (@ix_tup _) (@pe_var _ 3 _ _ rfl v_one_holds_3 dn_reason dc_reason) (@pe_int _ _ _ _) (fun _ _ => rfl)) (@pe_non _ _ _) (nomark _)))))) (@pss_nil _)) (@pss_cons _ _ _ _ _ (@ps_if _ _ _ _ _ _ _ _ (@pt_cmpR _ _ _ _ _ _ _ _ (@op_eq _) (@pe_ix _ _ _ _ _ _ _ (@ix_tup _) (@pe_var _ 0 _ _ rfl v_one_holds_0 dn_told dc_told) (@pe_int _ _ _ _) (fun _ _ => rfl)) (@pe_str _ _ _ _) (nomark _)) (@pss_one _ _ _ (@ps_ret _ _ _ _ (@pe_and _ _ _ _ _ _ _ (@pe_cmpR _ _ _ _ _ _ _ _ (@op_eq _) (@pe_ix _ _ _ _ _ _ _ (@ix_tup _) (@pe_var _ 3 _ _ rfl v_one_holds_3 dn_reason dc_reason) (@pe_int _ _ _ _) (fun _ _ => rfl)) (@pe_callC _ _ _ _ _ _ _ _ _ _ _ C_is_over hr g_one_holds_is_over (@pa_cons _ _ _ _ _ (@pe_var _ 1 _ _ rfl v_one_holds_1 dn_kinds dc_kinds) (@pa_cons _ _ _ _ _ (@pe_var _ 2 _ _ rfl v_one_holds_2 dn_look dc_look) (@pa_cons _ _ _ _ _ (@pe_ix _ _ _ _ _ _ _ (@ix_tup _) (@pe_var _ 0 _ _ rfl v_one_holds_0 dn_told dc_told) (@pe_int _ _ _ _) (fun _ _ => rfl)) (@pa_cons _ _ _ _ _ (@pe_ix _ _ _ _ _ _ _ (@ix_tup _) (@pe_var _ 0 _ _ rfl v_one_holds_0 dn_told dc_told) (@pe_int _ _ _ _) (fun _ _ => rfl)) (@pa_nil _) (star1 rfl)) (star1 rfl)) (star1 rfl)) (star1 rfl)) (by decide) dn_is_over (star1 rfl) (nost1 rfl (nost1 rfl (nost1 rfl nost0)))) (nomark _)) (@pe_one _ _ _ _ _ (@pe_cmpR _ _ _ _ _ _ _ _ (@op_isN _) (@pe_ix _ _ _ _ _ _ _ (@ix_tup _) (@pe_var _ 3 _ _ rfl v_one_holds_3 dn_reason dc_reason) (@pe_int _ _ _ _) (fun _ _ => rfl)) (@pe_non _ _ _) (nomark _)))))) (@pss_nil _)) (@pss_one _ _ _ (@ps_ret _ _ _ _ (@pe_callC _ _ _ _ _ _ _ _ _ _ _ C_place_holds hr g_one_holds_place_holds (@pa_cons _ _ _ _ _ (@pe_var _ 0 _ _ rfl v_one_holds_0 dn_told dc_told) (@pa_cons _ _ _ _ _ (@pe_var _ 1 _ _ rfl v_one_holds_1 dn_kinds dc_kinds) (@pa_cons _ _ _ _ _ (@pe_var _ 2 _ _ rfl v_one_holds_2 dn_look dc_look) (@pa_cons _ _ _ _ _ (@pe_var _ 3 _ _ rfl v_one_holds_3 dn_reason dc_reason) (@pa_nil _) (star1 rfl)) (star1 rfl)) (star1 rfl)) (star1 rfl)) (by decide) dn_place_holds (star1 rfl) (nost1 rfl (nost1 rfl (nost1 rfl nost0)))))))), ?_⟩
  simp only [slots, Option.getD_some, Option.getD_none, tSeq, tOp, tC, tVar, tCons, tNil, tCall, tRet, tIfS, tTest, tAndV, tNext, rEq, rIxT, Kd_non, Kd_bl, Kd_int, Kd_str, sc_non_non, sc_non_int, sc_int_non, sc_non_bl, sc_bl_non, sc_non_str, sc_str_non, sc_int_int, sc_bl_bl, sc_str_str, sc_int_str, sc_str_int, sc_bl_str, sc_str_bl, decide_true, decide_false, L2.start, cxK, Int.reduceToNat, List.map_cons, List.map_nil, List.length_cons, List.length_nil, Nat.reduceAdd, Nat.reduceSub, Nat.zero_add, List.replicate_succ, List.replicate_zero, List.cons_append, List.nil_append, List.append_nil, List.getElem?_cons_zero, List.getElem?_cons_succ, List.set_cons_zero, List.set_cons_succ, Option.some.injEq, V.int.injEq, V.bl.injEq, V.ref.injEq, V.str.injEq, V.ty.injEq, List.cons.injEq, exists_eq_left', exists_eq_left, exists_eq_right, exists_and_left, exists_and_right, and_true, true_and, and_assoc, exists_const, decide_eq_true_eq, Bool.not_eq_true', Bool.not_true, Bool.not_false, Bool.not_not, decide_eq_false_iff_not, ite_not, Bool.false_eq_true, if_true, if_false, reduceCtorEq, and_false, false_and, exists_false, or_false, false_or, ↓reduceIte, eq_self, reduceIte]
  obtain ⟨v0, v1, Tv, r0, r1⟩ := rep_two Rv
  cases rep_bool r0
  cases n with
  | any =>
    obtain ⟨x0, T, s0⟩ := rep_one R
    cases rep_str s0
    refine ⟨_, T, _, at0, rfl, ?_⟩
    rw [if_pos (by decide)]
    refine ⟨_, Tv, _, at0, b, rfl, ?_⟩
    cases b with
    | true =>
      rw [if_pos rfl]
      refine ⟨_, Tv, _, at1, ?_⟩
      rw [isN_dec r1]
      exact q _ (Same.refl _)
    | false => exact q _ (Same.refl _)
  | made s =>
    obtain ⟨x0, y0, T, s0, s1⟩ := rep_two R
    cases rep_str s0
    refine ⟨_, T, _, at0, rfl, ?_⟩
    rw [if_neg (by decide)]
    refine ⟨_, T, _, at0, rfl, ?_⟩
    rw [if_neg (by decide)]
    exact ⟨t, kl, lt, v, _, ks, lk, b, x, rfl, R, trivial, G, Rv, q⟩
  | used s =>
    obtain ⟨x0, y0, T, s0, s1⟩ := rep_two R
    cases rep_str s0
    refine ⟨_, T, _, at0, rfl, ?_⟩
    rw [if_neg (by decide)]
    refine ⟨_, T, _, at0, rfl, ?_⟩
    rw [if_neg (by decide)]
    exact ⟨t, kl, lt, v, _, ks, lk, b, x, rfl, R, trivial, G, Rv, q⟩
  | chief s =>
    obtain ⟨x0, y0, T, s0, s1⟩ := rep_two R
    cases rep_str s0
    refine ⟨_, T, _, at0, rfl, ?_⟩
    rw [if_neg (by decide)]
    refine ⟨_, T, _, at0, rfl, ?_⟩
    rw [if_neg (by decide)]
    exact ⟨t, kl, lt, v, _, ks, lk, b, x, rfl, R, trivial, G, Rv, q⟩
  | over k1 k2 =>
    obtain ⟨x0, y0, z0, T, s0, s1, s2⟩ := rep_three R
    cases rep_str s0
    obtain ⟨p1, rfl, T1⟩ := kind_inv s1
    obtain ⟨p2, rfl, T2⟩ := kind_inv s2
    refine ⟨_, T, _, at0, rfl, ?_⟩
    rw [if_neg (by decide)]
    refine ⟨_, T, _, at0, rfl, ?_⟩
    rw [if_pos (by decide)]
    refine ⟨_, Tv, _, at0, _, T, _, at1, _, T, _, at2, _, _, _, _, ks, lk, k1, k2, rfl, G, T1, ok.1, T2, ok.2, fun H1 S1 => ⟨rfl, ?_⟩⟩
    have e9 : rdB ks lk (.over k1 k2) b [x] = (decide (b = decide (numIn ks lk k1 > numIn ks lk k2)) && isNn x) := rfl
    by_cases e : b = decide (numIn ks lk k1 > numIn ks lk k2)
    · rw [if_pos (by rw [e])]
      refine ⟨_, Same.tup S1 Tv, _, at1, ?_⟩
      rw [isN_dec r1]
      rw [decide_eq_true e, Bool.true_and] at e9
      rw [← e9]
      exact q _ S1
    · rw [if_neg fun z => e (by injection z)]
      rw [decide_eq_false e, Bool.false_and] at e9
      rw [← e9]
      exact q _ S1
  | both a b => exact absurd dp (by have := Nt.dp_pos a; show ¬(max a.dp b.dp + 1 = 1); omega)
  | either a b => exact absurd dp (by have := Nt.dp_pos a; show ¬(max a.dp b.dp + 1 = 1); omega)
  | but a b => exact absurd dp (by have := Nt.dp_pos a; show ¬(max a.dp b.dp + 1 = 1); omega)
theorem step_says {L d : Nat} (F : Fun K "says" "says" s_says f fd) (M : Mg mg) (C_holds_up : Cal P w K mg base CX0 "holds_up" L ["told", "kinds", "look", "reason"] (spHolds K d)) : FnOk P w K mg base CX0 (L + 1) f fd ["truth", "told", "kinds", "look", "reason"] (spSays K d) := by
  refine F.ok sc_says (fun vs H Q E h => ?_) (fun cdv A outer s H vs Q E hr h => ?_)
  · obtain ⟨tr, t, kl, lt, v, n, ks, lk, dt, rfl, _⟩ := h
    rfl
  obtain ⟨tr, t, kl, lt, v, n, ks, lk, dt, rfl, R, ok, dp, G, Rv, q⟩ := h
  refine ⟨_, (@pss_one _ _ _ (@ps_ret _ _ _ _ (@pe_and _ _ _ _ _ _ _ (@pe_callC _ _ _ _ _ _ _ _ _ _ _ C_holds_up hr g_says_holds_up (@pa_cons _ _ _ _ _ (@pe_var _ 1 _ _ rfl v_says_1 dn_told dc_told) (@pa_cons _ _ _ _ _ (@pe_var _ 2 _ _ rfl v_says_2 dn_kinds dc_kinds) (@pa_cons _ _ _ _ _ (@pe_var _ 3 _ _ rfl v_says_3 dn_look dc_look) (@pa_cons _ _ _ _ _ (@pe_var _ 4 _ _ rfl v_says_4 dn_reason dc_reason) (@pa_nil _) (star1 rfl)) (star1 rfl)) (star1 rfl)) (star1 rfl)) (by omega) dn_holds_up (star1 rfl) (nost1 rfl (nost1 rfl (nost1 rfl nost0)))) (@pe_one _ _ _ _ _ (@pe_cmpR _ _ _ _ _ _ _ _ (@op_eq _) (@pe_ix _ _ _ _ _ _ _ (@ix_tup _) (@pe_var _ 4 _ _ rfl v_says_4 dn_reason dc_reason) (@pe_int _ _ _ _) (fun _ _ => rfl)) (@pe_var _ 0 _ _ rfl v_says_0 dn_truth dc_truth) (nomark _)))))), ?_⟩
  simp only [slots, Option.getD_some, Option.getD_none, tOp, tC, tVar, tCons, tNil, tCall, tRet, tAndV, rEq, rIxT, Kd_non, Kd_bl, Kd_int, Kd_str, sc_non_non, sc_non_int, sc_int_non, sc_non_bl, sc_bl_non, sc_non_str, sc_str_non, sc_int_int, sc_bl_bl, sc_str_str, sc_int_str, sc_str_int, sc_bl_str, sc_str_bl, decide_true, decide_false, L2.start, cxK, Int.reduceToNat, List.map_cons, List.map_nil, List.length_cons, List.length_nil, Nat.reduceAdd, Nat.reduceSub, Nat.zero_add, List.replicate_succ, List.replicate_zero, List.cons_append, List.nil_append, List.append_nil, List.getElem?_cons_zero, List.getElem?_cons_succ, List.set_cons_zero, List.set_cons_succ, Option.some.injEq, V.int.injEq, V.bl.injEq, V.ref.injEq, V.str.injEq, V.ty.injEq, List.cons.injEq, exists_eq_left', exists_eq_left, exists_eq_right, exists_and_left, exists_and_right, and_true, true_and, and_assoc, exists_const, decide_eq_true_eq, Bool.not_eq_true', Bool.not_true, Bool.not_false, Bool.not_not, decide_eq_false_iff_not, ite_not, Bool.false_eq_true, if_true, if_false, reduceCtorEq, and_false, false_and, exists_false, or_false, false_or, ↓reduceIte, eq_self, reduceIte]
  refine ⟨t, kl, lt, v, n, ks, lk, dt, rfl, R, ok, dp, G, Rv, fun H1 S1 => ?_⟩
  refine ⟨_, rfl, ?_⟩
  cases e : rdD ks lk n dt with
  | false =>
    rw [if_neg (by decide), ← say_no (t := tr) e]
    exact q _ S1
  | true =>
    rw [if_pos rfl]
    obtain ⟨b, r, rfl, hb⟩ := rd_inv e
    obtain ⟨a, xs, rfl, T, ra⟩ := rep_tupV Rv
    obtain ⟨x0, ys, rfl, r0, _⟩ := rep_cons ra
    cases rep_bool r0
    have e9 : sayF (rdB ks lk n) tr (.tuple (.bool b :: r)) = decide (V.bl b = V.bl tr) := by
      show (rdB ks lk n b r && decide (b = tr)) = _
      rw [hb, Bool.true_and]
      exact decide_eq_decide.mpr ⟨fun z => by rw [z], fun z => by injection z⟩
    refine ⟨_, rfl, _, Same.tup S1 T, _, at0, rfl, ?_⟩
    rw [← e9]
    exact q _ S1
theorem step_two {L d : Nat} {c_OF_BOTH : Addr} (F : Fun K "two_hold" "two_hold" s_two_hold f fd) (M : Mg mg) (A_OF_BOTH : mg "OF_BOTH" = some (.ref c_OF_BOTH)) (O : OBok w.params K c_OF_BOTH) (C_is_whole : Cal P w K mg base CX0 "is_whole" 1 ["thing"] (spIsWhole K)) (C_says : Cal P w K mg base CX0 "says" (L + 1) ["truth", "told", "kinds", "look", "reason"] (spSays K d)) : FnOk P w K mg base CX0 (L + 2) f fd ["told", "kinds", "look", "reason"] (spTwo K d) := by
  refine F.ok sc_two_hold (fun vs H Q E h => ?_) (fun cdv A outer s H vs Q E hr h => ?_)
  · obtain ⟨t, kl, lt, v, wd, w0, w1, w2, t1, t2, x, y, ks, lk, b, u, z, rfl, _⟩ := h
    rfl
  obtain ⟨t, kl, lt, v, wd, w0, w1, w2, t1, t2, x, y, ks, lk, b, u, z, rfl, T, j, R1, R2, ok1, ok2, d1, d2, G, Rv, q⟩ := h
  refine ⟨_, (@pss_cons _ _ _ _ _ (@ps_set _ _ 4 _ _ _ _ sc_two_hold.nd rfl l_two_hold_4 (@pe_kget _ _ _ _ _ _ (@pe_glob _ _ _ _ _ g_two_hold_OF_BOTH A_OF_BOTH (show RelV (.ref c_OF_BOTH) _ from rfl) dn_OF_BOTH) (@pe_ix _ _ _ _ _ _ _ (@ix_tup _) (@pe_var _ 0 _ _ rfl v_two_hold_0 dn_told dc_told) (@pe_int _ _ _ _) (fun _ _ => rfl)) (fun _ _ => rfl)) (swap1 rfl) (.inl rfl)) (@pss_cons _ _ _ _ _ (@ps_if _ _ _ _ _ _ _ _ (@pt_cmpR _ _ _ _ _ _ _ _ (@op_eq _) (@pe_ix _ _ _ _ _ _ _ (@ix_tup _) (@pe_var _ 3 _ _ rfl v_two_hold_3 dn_reason dc_reason) (@pe_int _ _ _ _) (fun _ _ => rfl)) (@pe_ix _ _ _ _ _ _ _ (@ix_tup _) (@pe_var _ 4 _ _ rfl v_two_hold_4 dn_wanted dc_wanted) (@pe_int _ _ _ _) (fun _ _ => rfl)) (nomark _)) (@pss_cons _ _ _ _ _ (@ps_set _ _ 5 _ _ _ _ sc_two_hold.nd rfl l_two_hold_5 (@pe_callC _ _ _ _ _ _ _ _ _ _ _ C_says hr g_two_hold_says (@pa_cons _ _ _ _ _ (@pe_ix _ _ _ _ _ _ _ (@ix_tup _) (@pe_var _ 4 _ _ rfl v_two_hold_4 dn_wanted dc_wanted) (@pe_int _ _ _ _) (fun _ _ => rfl)) (@pa_cons _ _ _ _ _ (@pe_ix _ _ _ _ _ _ _ (@ix_tup _) (@pe_var _ 0 _ _ rfl v_two_hold_0 dn_told dc_told) (@pe_int _ _ _ _) (fun _ _ => rfl)) (@pa_cons _ _ _ _ _ (@pe_var _ 1 _ _ rfl v_two_hold_1 dn_kinds dc_kinds) (@pa_cons _ _ _ _ _ (@pe_var _ 2 _ _ rfl v_two_hold_2 dn_look dc_look) (@pa_cons _ _ _ _ _ (@pe_ix _ _ _ _ _ _ _ (@ix_tup _) (@pe_var _ 3 _ _ rfl v_two_hold_3 dn_reason dc_reason) (@pe_int _ _ _ _) (fun _ _ => rfl)) (@pa_nil _) (star1 rfl)) (star1 rfl)) (star1 rfl)) (star1 rfl)) (star1 rfl)) (by omega) dn_says (star1 rfl) (nost1 rfl (nost1 rfl (nost1 rfl (nost1 rfl nost0))))) (swap1 rfl) (.inl rfl)) (@pss_one _ _ _ (@ps_ret _ _ _ _ (@pe_and _ _ _ _ _ _ _ (@pe_var _ 5 _ _ rfl v_two_hold_5 dn_first dc_first) (@pe_one _ _ _ _ _ (@pe_callC _ _ _ _ _ _ _ _ _ _ _ C_says hr g_two_hold_says (@pa_cons _ _ _ _ _ (@pe_ix _ _ _ _ _ _ _ (@ix_tup _) (@pe_var _ 4 _ _ rfl v_two_hold_4 dn_wanted dc_wanted) (@pe_int _ _ _ _) (fun _ _ => rfl)) (@pa_cons _ _ _ _ _ (@pe_ix _ _ _ _ _ _ _ (@ix_tup _) (@pe_var _ 0 _ _ rfl v_two_hold_0 dn_told dc_told) (@pe_int _ _ _ _) (fun _ _ => rfl)) (@pa_cons _ _ _ _ _ (@pe_var _ 1 _ _ rfl v_two_hold_1 dn_kinds dc_kinds) (@pa_cons _ _ _ _ _ (@pe_var _ 2 _ _ rfl v_two_hold_2 dn_look dc_look) (@pa_cons _ _ _ _ _ (@pe_ix _ _ _ _ _ _ _ (@ix_tup _) (@pe_var _ 3 _ _ rfl v_two_hold_3 dn_reason dc_reason) (@pe_int _ _ _ _) (fun _ _ => rfl)) (@pa_nil _) (star1 rfl)) (star1 rfl)) (star1 rfl)) (star1 rfl)) (star1 rfl)) (by omega) dn_says (star1 rfl) (nost1 rfl (nost1 rfl (nost1 rfl (nost1 rfl nost0)))))))))) (@pss_nil _)) (@pss_cons _ _ _ _ _ (@ps_set _ _ 6 _ _ _ _ sc_two_hold.nd rfl l_two_hold_6 (@pe_ix _ _ _ _ _ _ _ (@ix_tup _) (@pe_var _ 3 _ _ rfl v_two_hold_3 dn_reason dc_reason) (@pe_int _ _ _ _) (fun _ _ => rfl)) (swap1 rfl) (.inl rfl)) (@pss_cons _ _ _ _ _ (@ps_if _ _ _ _ _ _ _ _ (@PW.pt _ _ _ (@pw_or _ _ _ _ _ _ _ (@pt_not _ _ _ _ (@pt_val _ _ _ (@pe_callC _ _ _ _ _ _ _ _ _ _ _ C_is_whole hr g_two_hold_is_whole (@pa_cons _ _ _ _ _ (@pe_var _ 6 _ _ rfl v_two_hold_6 dn_side dc_side) (@pa_nil _) (star1 rfl)) (by omega) dn_is_whole (star1 rfl) nost0) (test1 rfl))) (@pw_or1 _ _ _ _ (@pt_not _ _ _ _ (@pt_chain _ _ _ _ _ _ _ _ _ _ _ _ op_le op_le (@pe_int _ _ _ _) (@pe_var _ 6 _ _ rfl v_two_hold_6 dn_side dc_side) (@pe_int _ _ _ _) (by with_unfolding_all rfl)))))) (@pss_one _ _ _ (@ps_ret _ _ _ _ (@pe_bl _ _ _ _))) (@pss_nil _)) (@pss_one _ _ _ (@ps_ret _ _ _ _ (@pe_callC _ _ _ _ _ _ _ _ _ _ _ C_says hr g_two_hold_says (@pa_cons _ _ _ _ _ (@pe_not _ _ _ _ (@pe_ix _ _ _ _ _ _ _ (@ix_tup _) (@pe_var _ 4 _ _ rfl v_two_hold_4 dn_wanted dc_wanted) (@pe_op _ _ _ _ _ _ _ _ (@op_add _) (@pe_int _ _ _ _) (@pe_var _ 6 _ _ rfl v_two_hold_6 dn_side dc_side)) (fun _ _ => rfl))) (@pa_cons _ _ _ _ _ (@pe_ix _ _ _ _ _ _ _ (@ix_tup _) (@pe_var _ 0 _ _ rfl v_two_hold_0 dn_told dc_told) (@pe_op _ _ _ _ _ _ _ _ (@op_add _) (@pe_int _ _ _ _) (@pe_var _ 6 _ _ rfl v_two_hold_6 dn_side dc_side)) (fun _ _ => rfl)) (@pa_cons _ _ _ _ _ (@pe_var _ 1 _ _ rfl v_two_hold_1 dn_kinds dc_kinds) (@pa_cons _ _ _ _ _ (@pe_var _ 2 _ _ rfl v_two_hold_2 dn_look dc_look) (@pa_cons _ _ _ _ _ (@pe_ix _ _ _ _ _ _ _ (@ix_tup _) (@pe_var _ 3 _ _ rfl v_two_hold_3 dn_reason dc_reason) (@pe_int _ _ _ _) (fun _ _ => rfl)) (@pa_nil _) (star1 rfl)) (star1 rfl)) (star1 rfl)) (star1 rfl)) (star1 rfl)) (by omega) dn_says (star1 rfl) (nost1 rfl (nost1 rfl (nost1 rfl (nost1 rfl nost0))))))))))), ?_⟩
  simp only [tKGet, slots, Option.getD_some, Option.getD_none, tSeq, tAsg, gName, tOp, tC, tVar, tCons, tNil, tCall, rI0, tRet, tIfS, tTest, tB, tOr, tNot, tAndV, tNotV, tChain, tNext, rEq, rIxT, Kd_non, Kd_bl, Kd_int, Kd_str, sc_non_non, sc_non_int, sc_int_non, sc_non_bl, sc_bl_non, sc_non_str, sc_str_non, sc_int_int, sc_bl_bl, sc_str_str, sc_int_str, sc_str_int, sc_bl_str, sc_str_bl, decide_true, decide_false, L2.start, cxK, Int.reduceToNat, List.map_cons, List.map_nil, List.length_cons, List.length_nil, Nat.reduceAdd, Nat.reduceSub, Nat.zero_add, List.replicate_succ, List.replicate_zero, List.cons_append, List.nil_append, List.append_nil, List.getElem?_cons_zero, List.getElem?_cons_succ, List.set_cons_zero, List.set_cons_succ, Option.some.injEq, V.int.injEq, V.bl.injEq, V.ref.injEq, V.str.injEq, V.ty.injEq, List.cons.injEq, exists_eq_left', exists_eq_left, exists_eq_right, exists_and_left, exists_and_right, and_true, true_and, and_assoc, exists_const, decide_eq_true_eq, Bool.not_eq_true', Bool.not_true, Bool.not_false, Bool.not_not, decide_eq_false_iff_not, ite_not, Bool.false_eq_true, if_true, if_false, reduceCtorEq, and_false, false_and, exists_false, or_false, false_or, ↓reduceIte, eq_self, reduceIte]
  obtain ⟨kvs, dw, D, hv, TW⟩ := O.at j
  obtain ⟨v0, v1, v2, Tv, r0, r1, r2⟩ := rep_three Rv
  cases rep_bool r0
  refine ⟨_, T, _, at0, _, D, _, rfl, _, hv, _, Tv, _, at0, _, rfl, _, TW H, _, at0, rfl, ?_⟩
  by_cases e : b = w0
  · have e8 : twoB w0 w1 w2 (rdB ks lk x) (rdB ks lk y) b [u, z] = (sayF (rdB ks lk x) w1 u && sayF (rdB ks lk y) w2 z) := if_pos e
    rw [if_pos (by rw [e])]
    refine ⟨_, rfl, _, TW H, _, at1, _, T, _, at1, _, Tv, _, at1, ?_⟩
    refine ⟨w1, t1, kl, lt, v1, x, ks, lk, u, rfl, R1, ok1, d1, G, r1, fun H1 S1 => ?_⟩
    refine ⟨_, rfl, ?_⟩
    cases e1 : sayF (rdB ks lk x) w1 u with
    | false =>
      rw [if_neg (by decide)]
      rw [e1, Bool.false_and] at e8
      rw [← e8]
      exact q _ S1
    | true =>
      rw [if_pos rfl]
      rw [e1, Bool.true_and] at e8
      refine ⟨_, rfl, _, TW H1, _, at2, _, Same.tup S1 T, _, at2, _, Same.tup S1 Tv, _, at2, ?_⟩
      refine ⟨w2, t2, kl, lt, v2, y, ks, lk, z, rfl, R2.same S1, ok2, d2, G.same S1, r2.same S1, fun H2 S2 => ?_⟩
      rw [← e8]
      exact q _ (S1.trans S2)
  · have e8 : twoB w0 w1 w2 (rdB ks lk x) (rdB ks lk y) b [u, z] = sideB w1 w2 (rdB ks lk x) (rdB ks lk y) z u := if_neg e
    rw [if_neg fun c => e (by injection c)]
    rw [e8] at q
    refine ⟨_, Tv, _, at1, _, _, rfl, rep_kd r1, _, rfl, ?_⟩
    cases r1 with
    | int i =>
      rw [if_neg (show ¬ wholeK (dkn (.int i)) = false by show ¬ true = false; decide)]
      refine ⟨i, rfl, ?_⟩
      have no : ¬ (i = 0 ∨ i = 1) → sideB w1 w2 (rdB ks lk x) (rdB ks lk y) z (.int i) = false := fun h => by
        show (if i = 0 then _ else if i = 1 then _ else false) = false
        rw [if_neg (fun c => h (.inl c)), if_neg (fun c => h (.inr c))]
      by_cases h0 : 0 ≤ i
      · rw [if_pos h0]
        refine ⟨i, rfl, ?_⟩
        by_cases h1 : i ≤ 1
        · rw [if_pos h1]
          rcases (show i = 0 ∨ i = 1 by omega) with rfl | rfl
          · exact ⟨0, rfl, dw, rfl, _, TW H, _, (show atI [V.bl w0, .bl w1, .bl w2] (1 + 0) = some (.bl w1) from at1), w1, rfl, 0, rfl, _, T, _, (show atI [V.str wd, .ref t1, .ref t2] (1 + 0) = some (.ref t1) from at1), _, Tv, _, at2, !w1, t1, kl, lt, v2, x, ks, lk, z, rfl, R1, ok1, d1, G, r2, q⟩
          · exact ⟨1, rfl, dw, rfl, _, TW H, _, (show atI [V.bl w0, .bl w1, .bl w2] (1 + 1) = some (.bl w2) from at2), w2, rfl, 1, rfl, _, T, _, (show atI [V.str wd, .ref t1, .ref t2] (1 + 1) = some (.ref t2) from at2), _, Tv, _, at2, !w2, t2, kl, lt, v2, y, ks, lk, z, rfl, R2, ok2, d2, G, r2, q⟩
        · rw [if_neg h1]
          rw [no (by omega)] at q
          exact q _ (Same.refl _)
      · rw [if_neg h0]
        rw [no (by omega)] at q
        exact q _ (Same.refl _)
    | non => exact q _ (Same.refl _)
    | bl b => exact q _ (Same.refl _)
    | str z => exact q _ (Same.refl _)
    | lst a b => exact q _ (Same.refl _)
    | tup a b => exact q _ (Same.refl _)
theorem step_holds {L d : Nat} {c_OF_BOTH : Addr} (F : Fun K "holds_up" "holds_up" s_holds_up f fd) (M : Mg mg) (A_OF_BOTH : mg "OF_BOTH" = some (.ref c_OF_BOTH)) (O : OBok w.params K c_OF_BOTH) (C_one_holds : Cal P w K mg base CX0 "one_holds" 4 ["told", "kinds", "look", "reason"] (spOneH K)) (C_two_hold : Cal P w K mg base CX0 "two_hold" (L + 6) ["told", "kinds", "look", "reason"] (spTwo K d)) : FnOk P w K mg base CX0 (L + 7) f fd ["told", "kinds", "look", "reason"] (spHolds K (d + 1)) := by
  refine F.ok sc_holds_up (fun vs H Q E h => ?_) (fun cdv A outer s H vs Q E hr h => ?_)
  · obtain ⟨t, kl, lt, v, n, ks, lk, dt, rfl, _⟩ := h
    rfl
  obtain ⟨t, kl, lt, v, n, ks, lk, dt, rfl, R, ok, dp, G, Rv, q⟩ := h
  refine ⟨_, (@pss_cons _ _ _ _ _ (@ps_if _ _ _ _ _ _ _ _ (@PW.pt _ _ _ (@pw_or _ _ _ _ _ _ _ (@pt_not _ _ _ _ (@pt_val _ _ _ (@pe_callB _ _ _ _ _ _ _ _ _ call_isi g_holds_up_isinstance M.m_isinstance b_isinstance (@pa_cons _ _ _ _ _ (@pe_var _ 3 _ _ rfl v_holds_up_3 dn_reason dc_reason) (@pa_cons _ _ _ _ _ (@pe_bltn _ _ (.ty "tuple") _ _ g_holds_up_tuple M.m_tuple b_tuple rfl nn_tuple dn_tuple) (@pa_nil _) (star1 rfl)) (star1 rfl)) nn_isinstance dn_isinstance (star1 rfl) (nost1 rfl nost0)) (test1 rfl))) (@pw_or _ _ _ _ _ _ _ (@pt_cmpR _ _ _ _ _ _ _ _ (@op_eq _) (@pe_callB _ _ _ _ _ _ _ _ _ call_len_seq g_holds_up_len M.m_len b_len (@pa_cons _ _ _ _ _ (@pe_var _ 3 _ _ rfl v_holds_up_3 dn_reason dc_reason) (@pa_nil _) (star1 rfl)) nn_len dn_len (star1 rfl) nost0) (@pe_int _ _ _ _) (nomark _)) (@pw_or1 _ _ _ _ (@pt_not _ _ _ _ (@pt_val _ _ _ (@pe_callB _ _ _ _ _ _ _ _ _ call_isi g_holds_up_isinstance M.m_isinstance b_isinstance (@pa_cons _ _ _ _ _ (@pe_ix _ _ _ _ _ _ _ (@ix_tup _) (@pe_var _ 3 _ _ rfl v_holds_up_3 dn_reason dc_reason) (@pe_int _ _ _ _) (fun _ _ => rfl)) (@pa_cons _ _ _ _ _ (@pe_bltn _ _ (.ty "bool") _ _ g_holds_up_bool M.m_bool b_bool rfl nn_bool dn_bool) (@pa_nil _) (star1 rfl)) (star1 rfl)) nn_isinstance dn_isinstance (star1 rfl) (nost1 rfl nost0)) (test1 rfl))))))) (@pss_one _ _ _ (@ps_ret _ _ _ _ (@pe_bl _ _ _ _))) (@pss_nil _)) (@pss_cons _ _ _ _ _ (@ps_if _ _ _ _ _ _ _ _ (pt_cmp (@pc_kin _ _ _ _ _ (@pe_ix _ _ _ _ _ _ _ (@ix_tup _) (@pe_var _ 0 _ _ rfl v_holds_up_0 dn_told dc_told) (@pe_int _ _ _ _) (fun _ _ => rfl)) (@pe_glob _ _ _ _ _ g_holds_up_OF_BOTH A_OF_BOTH (show RelV (.ref c_OF_BOTH) _ from rfl) dn_OF_BOTH)) (by rfl)) (@pss_one _ _ _ (@ps_ret _ _ _ _ (@pe_and _ _ _ _ _ _ _ (@pe_cmpR _ _ _ _ _ _ _ _ (@op_eq _) (@pe_callB _ _ _ _ _ _ _ _ _ call_len_seq g_holds_up_len M.m_len b_len (@pa_cons _ _ _ _ _ (@pe_var _ 3 _ _ rfl v_holds_up_3 dn_reason dc_reason) (@pa_nil _) (star1 rfl)) nn_len dn_len (star1 rfl) nost0) (@pe_int _ _ _ _) (nomark _)) (@pe_one _ _ _ _ _ (@pe_callC _ _ _ _ _ _ _ _ _ _ _ C_two_hold hr g_holds_up_two_hold (@pa_cons _ _ _ _ _ (@pe_var _ 0 _ _ rfl v_holds_up_0 dn_told dc_told) (@pa_cons _ _ _ _ _ (@pe_var _ 1 _ _ rfl v_holds_up_1 dn_kinds dc_kinds) (@pa_cons _ _ _ _ _ (@pe_var _ 2 _ _ rfl v_holds_up_2 dn_look dc_look) (@pa_cons _ _ _ _ _ (@pe_var _ 3 _ _ rfl v_holds_up_3 dn_reason dc_reason) (@pa_nil _) (star1 rfl)) (star1 rfl)) (star1 rfl)) (star1 rfl)) (by omega) dn_two_hold (star1 rfl) (nost1 rfl (nost1 rfl (nost1 rfl nost0)))))))) (@pss_nil _)) (@pss_one _ _ _ (@ps_ret _ _ _ _ (@pe_and _ _ _ _ _ _ _ (@pe_cmpR _ _ _ _ _ _ _ _ (@op_eq _) (@pe_callB _ _ _ _ _ _ _ _ _ call_len_seq g_holds_up_len M.m_len b_len (@pa_cons _ _ _ _ _ (@pe_var _ 3 _ _ rfl v_holds_up_3 dn_reason dc_reason) (@pa_nil _) (star1 rfl)) nn_len dn_len (star1 rfl) nost0) (@pe_int _ _ _ _) (nomark _)) (@pe_one _ _ _ _ _ (@pe_callC _ _ _ _ _ _ _ _ _ _ _ C_one_holds hr g_holds_up_one_holds (@pa_cons _ _ _ _ _ (@pe_var _ 0 _ _ rfl v_holds_up_0 dn_told dc_told) (@pa_cons _ _ _ _ _ (@pe_var _ 1 _ _ rfl v_holds_up_1 dn_kinds dc_kinds) (@pa_cons _ _ _ _ _ (@pe_var _ 2 _ _ rfl v_holds_up_2 dn_look dc_look) (@pa_cons _ _ _ _ _ (@pe_var _ 3 _ _ rfl v_holds_up_3 dn_reason dc_reason) (@pa_nil _) (star1 rfl)) (star1 rfl)) (star1 rfl)) (star1 rfl)) (by omega) dn_one_holds (star1 rfl) (nost1 rfl (nost1 rfl (nost1 rfl nost0)))))))))), ?_⟩
  simp only [tKIn, slots, Option.getD_some, Option.getD_none, tSeq, tOp, tC, tVar, tCB, tCons, tNil, tCall, tRet, tIfS, tTest, tB, tOr, tNot, tAndV, tNext, rEq, rIsi, rIxT, isi_non_bl, isi_non_int, isi_non_str, isi_non_lst, isi_non_tup, isi_bl_bl, isi_bl_int, isi_bl_str, isi_bl_lst, isi_bl_tup, isi_int_bl, isi_int_int, isi_int_str, isi_int_lst, isi_int_tup, isi_str_bl, isi_str_int, isi_str_str, isi_str_lst, isi_str_tup, isi_lst_bl, isi_lst_int, isi_lst_str, isi_lst_lst, isi_lst_tup, isi_tup_bl, isi_tup_int, isi_tup_str, isi_tup_lst, isi_tup_tup, isi_dct_bl, isi_dct_int, isi_dct_str, isi_dct_lst, isi_dct_tup, Kd_non, Kd_bl, Kd_int, Kd_str, sc_non_non, sc_non_int, sc_int_non, sc_non_bl, sc_bl_non, sc_non_str, sc_str_non, sc_int_int, sc_bl_bl, sc_str_str, sc_int_str, sc_str_int, sc_bl_str, sc_str_bl, decide_true, decide_false, tyK_int, tyK_bool, tyK_str, tyK_list, tyK_tuple, L2.start, cxK, Int.reduceToNat, List.map_cons, List.map_nil, List.length_cons, List.length_nil, Nat.reduceAdd, Nat.reduceSub, Nat.zero_add, List.replicate_succ, List.replicate_zero, List.cons_append, List.nil_append, List.append_nil, List.getElem?_cons_zero, List.getElem?_cons_succ, List.set_cons_zero, List.set_cons_succ, Option.some.injEq, V.int.injEq, V.bl.injEq, V.ref.injEq, V.str.injEq, V.ty.injEq, List.cons.injEq, exists_eq_left', exists_eq_left, exists_eq_right, exists_and_left, exists_and_right, and_true, true_and, and_assoc, exists_const, decide_eq_true_eq, Bool.not_eq_true', Bool.not_true, Bool.not_false, Bool.not_not, decide_eq_false_iff_not, ite_not, Bool.false_eq_true, if_true, if_false, reduceCtorEq, and_false, false_and, exists_false, or_false, false_or, ↓reduceIte, eq_self, reduceIte]
  cases Rv with
  | non => exact ⟨.non, rfl, q _ (Same.refl _)⟩
  | bl b => exact ⟨.bl, rfl, q _ (Same.refl _)⟩
  | int i => exact ⟨.int, rfl, q _ (Same.refl _)⟩
  | str z => exact ⟨.str, rfl, q _ (Same.refl _)⟩
  | lst T ra => exact ⟨.lst, .inl ⟨rfl, _, T⟩, q _ (Same.refl _)⟩
  | tup T ra =>
    refine ⟨.tup, .inr (.inl ⟨rfl, _, T⟩), ?_⟩
    rw [if_neg (by decide)]
    refine ⟨_, rfl, _, .inr T, ?_⟩
    cases ra with
    | nil => exact q _ (Same.refl _)
    | cons r0 rr =>
      rw [if_neg (by rw [List.length_cons]; omega)]
      refine ⟨_, rfl, _, T, _, at0, _, rep_kd r0, ?_⟩
      cases r0 with
      | non => exact q _ (Same.refl _)
      | int i => exact q _ (Same.refl _)
      | str z => exact q _ (Same.refl _)
      | lst T ra => exact q _ (Same.refl _)
      | tup T ra => exact q _ (Same.refl _)
      | bl b =>
        rw [if_neg (show ¬ isiB (dkn (.bool b)) .bl = false by show ¬ true = false; decide)]
        cases n with
        | any =>
          obtain ⟨x0, T', s0⟩ := rep_one R
          cases rep_str s0
          obtain ⟨kvs, D, hv⟩ := O.no (wd := "any") (by decide)
          refine ⟨_, T', _, at0, kvs, D, _, rfl, ?_⟩
          rw [hv, if_neg (by decide)]
          refine ⟨_, rfl, _, .inr T, ?_⟩
          rcases rep_len1 rr with ⟨u, xu, rfl, rfl, ru⟩ | ⟨hl, hne⟩
          · rw [if_pos (by rfl)]
            exact ⟨t, kl, lt, _, _, ks, lk, b, u, rfl, R, ok, rfl, G, .tup T (.cons (.bl b) (.cons ru .nil)), q⟩
          · rw [if_neg (by rw [List.length_cons]; omega)]
            have e9 := q _ (Same.refl _)
            exact cast (congrArg (fun z => Q (V.bl z) H) (hne _)) e9
        | made s =>
          obtain ⟨x0, y0, T', s0, s1⟩ := rep_two R
          cases rep_str s0
          obtain ⟨kvs, D, hv⟩ := O.no (wd := "made") (by decide)
          refine ⟨_, T', _, at0, kvs, D, _, rfl, ?_⟩
          rw [hv, if_neg (by decide)]
          refine ⟨_, rfl, _, .inr T, ?_⟩
          rcases rep_len1 rr with ⟨u, xu, rfl, rfl, ru⟩ | ⟨hl, hne⟩
          · rw [if_pos (by rfl)]
            exact ⟨t, kl, lt, _, _, ks, lk, b, u, rfl, R, ok, rfl, G, .tup T (.cons (.bl b) (.cons ru .nil)), q⟩
          · rw [if_neg (by rw [List.length_cons]; omega)]
            have e9 := q _ (Same.refl _)
            exact cast (congrArg (fun z => Q (V.bl z) H) (hne _)) e9
        | used s =>
          obtain ⟨x0, y0, T', s0, s1⟩ := rep_two R
          cases rep_str s0
          obtain ⟨kvs, D, hv⟩ := O.no (wd := "used") (by decide)
          refine ⟨_, T', _, at0, kvs, D, _, rfl, ?_⟩
          rw [hv, if_neg (by decide)]
          refine ⟨_, rfl, _, .inr T, ?_⟩
          rcases rep_len1 rr with ⟨u, xu, rfl, rfl, ru⟩ | ⟨hl, hne⟩
          · rw [if_pos (by rfl)]
            exact ⟨t, kl, lt, _, _, ks, lk, b, u, rfl, R, ok, rfl, G, .tup T (.cons (.bl b) (.cons ru .nil)), q⟩
          · rw [if_neg (by rw [List.length_cons]; omega)]
            have e9 := q _ (Same.refl _)
            exact cast (congrArg (fun z => Q (V.bl z) H) (hne _)) e9
        | chief s =>
          obtain ⟨x0, y0, T', s0, s1⟩ := rep_two R
          cases rep_str s0
          obtain ⟨kvs, D, hv⟩ := O.no (wd := "chief") (by decide)
          refine ⟨_, T', _, at0, kvs, D, _, rfl, ?_⟩
          rw [hv, if_neg (by decide)]
          refine ⟨_, rfl, _, .inr T, ?_⟩
          rcases rep_len1 rr with ⟨u, xu, rfl, rfl, ru⟩ | ⟨hl, hne⟩
          · rw [if_pos (by rfl)]
            exact ⟨t, kl, lt, _, _, ks, lk, b, u, rfl, R, ok, rfl, G, .tup T (.cons (.bl b) (.cons ru .nil)), q⟩
          · rw [if_neg (by rw [List.length_cons]; omega)]
            have e9 := q _ (Same.refl _)
            exact cast (congrArg (fun z => Q (V.bl z) H) (hne _)) e9
        | over k1 k2 =>
          obtain ⟨x0, y0, z0, T', s0, s1, s2⟩ := rep_three R
          cases rep_str s0
          obtain ⟨kvs, D, hv⟩ := O.no (wd := "over") (by decide)
          refine ⟨_, T', _, at0, kvs, D, _, rfl, ?_⟩
          rw [hv, if_neg (by decide)]
          refine ⟨_, rfl, _, .inr T, ?_⟩
          rcases rep_len1 rr with ⟨u, xu, rfl, rfl, ru⟩ | ⟨hl, hne⟩
          · rw [if_pos (by rfl)]
            exact ⟨t, kl, lt, _, _, ks, lk, b, u, rfl, R, ok, rfl, G, .tup T (.cons (.bl b) (.cons ru .nil)), q⟩
          · rw [if_neg (by rw [List.length_cons]; omega)]
            have e9 := q _ (Same.refl _)
            exact cast (congrArg (fun z => Q (V.bl z) H) (hne _)) e9
        | both x y =>
          obtain ⟨x0, y0, z0, T', s0, s1, s2⟩ := rep_three R
          cases rep_str s0
          obtain ⟨t1, rfl⟩ := told_ref s1
          obtain ⟨t2, rfl⟩ := told_ref s2
          have dd : max x.dp y.dp + 1 ≤ d + 1 := dp
          have jw : JoinW _ _ _ _ := (.inl ⟨rfl, rfl, rfl, rfl⟩)
          obtain ⟨kvs, dw, D, hv, _⟩ := O.at jw
          refine ⟨_, T', _, at0, kvs, D, _, rfl, ?_⟩
          rw [hv, if_pos (by rfl)]
          refine ⟨_, rfl, _, .inr T, ?_⟩
          rcases rep_len2 rr with ⟨u, z, xu, xz, rfl, rfl, ru, rz⟩ | ⟨hl, hne⟩
          · rw [if_pos (by rfl)]
            exact ⟨t, kl, lt, _, _, _, _, _, t1, t2, x, y, ks, lk, b, u, z, rfl, T', jw, s1, s2, ok.1, ok.2, (by omega), (by omega), G, .tup T (.cons (.bl b) (.cons ru (.cons rz .nil))), q⟩
          · rw [if_neg (by rw [List.length_cons]; omega)]
            have e9 := q _ (Same.refl _)
            exact cast (congrArg (fun z => Q (V.bl z) H) (hne _ _ _ _ _ _)) e9
        | either x y =>
          obtain ⟨x0, y0, z0, T', s0, s1, s2⟩ := rep_three R
          cases rep_str s0
          obtain ⟨t1, rfl⟩ := told_ref s1
          obtain ⟨t2, rfl⟩ := told_ref s2
          have dd : max x.dp y.dp + 1 ≤ d + 1 := dp
          have jw : JoinW _ _ _ _ := (.inr (.inl ⟨rfl, rfl, rfl, rfl⟩))
          obtain ⟨kvs, dw, D, hv, _⟩ := O.at jw
          refine ⟨_, T', _, at0, kvs, D, _, rfl, ?_⟩
          rw [hv, if_pos (by rfl)]
          refine ⟨_, rfl, _, .inr T, ?_⟩
          rcases rep_len2 rr with ⟨u, z, xu, xz, rfl, rfl, ru, rz⟩ | ⟨hl, hne⟩
          · rw [if_pos (by rfl)]
            exact ⟨t, kl, lt, _, _, _, _, _, t1, t2, x, y, ks, lk, b, u, z, rfl, T', jw, s1, s2, ok.1, ok.2, (by omega), (by omega), G, .tup T (.cons (.bl b) (.cons ru (.cons rz .nil))), q⟩
          · rw [if_neg (by rw [List.length_cons]; omega)]
            have e9 := q _ (Same.refl _)
            exact cast (congrArg (fun z => Q (V.bl z) H) (hne _ _ _ _ _ _)) e9
        | but x y =>
          obtain ⟨x0, y0, z0, T', s0, s1, s2⟩ := rep_three R
          cases rep_str s0
          obtain ⟨t1, rfl⟩ := told_ref s1
          obtain ⟨t2, rfl⟩ := told_ref s2
          have dd : max x.dp y.dp + 1 ≤ d + 1 := dp
          have jw : JoinW _ _ _ _ := (.inr (.inr ⟨rfl, rfl, rfl, rfl⟩))
          obtain ⟨kvs, dw, D, hv, _⟩ := O.at jw
          refine ⟨_, T', _, at0, kvs, D, _, rfl, ?_⟩
          rw [hv, if_pos (by rfl)]
          refine ⟨_, rfl, _, .inr T, ?_⟩
          rcases rep_len2 rr with ⟨u, z, xu, xz, rfl, rfl, ru, rz⟩ | ⟨hl, hne⟩
          · rw [if_pos (by rfl)]
            exact ⟨t, kl, lt, _, _, _, _, _, t1, t2, x, y, ks, lk, b, u, z, rfl, T', jw, s1, s2, ok.1, ok.2, (by omega), (by omega), G, .tup T (.cons (.bl b) (.cons ru (.cons rz .nil))), q⟩
          · rw [if_neg (by rw [List.length_cons]; omega)]
            have e9 := q _ (Same.refl _)
            exact cast (congrArg (fun z => Q (V.bl z) H) (hne _ _ _ _ _ _)) e9
theorem ok_holds {c_OF_BOTH f2 f3 : Addr} {fd2 fd3 : FuncData} (F : Fun K "holds_up" "holds_up" s_holds_up f fd) (F2 : Fun K "two_hold" "two_hold" s_two_hold f2 fd2) (F3 : Fun K "says" "says" s_says f3 fd3) (M : Mg mg) (A_OF_BOTH : mg "OF_BOTH" = some (.ref c_OF_BOTH)) (O : OBok w.params K c_OF_BOTH) (C_is_whole : Cal P w K mg base CX0 "is_whole" 1 ["thing"] (spIsWhole K)) (C_one_holds : Cal P w K mg base CX0 "one_holds" 4 ["told", "kinds", "look", "reason"] (spOneH K))
    (b : Binds K fd ["told", "kinds", "look", "reason"] []) (kp : PySem.W.keepIn K (.ref f) = true) (m : mg "holds_up" = some (.ref f))
    (b2 : Binds K fd2 ["told", "kinds", "look", "reason"] []) (kp2 : PySem.W.keepIn K (.ref f2) = true) (m2 : mg "two_hold" = some (.ref f2))
    (b3 : Binds K fd3 ["truth", "told", "kinds", "look", "reason"] []) (kp3 : PySem.W.keepIn K (.ref f3) = true) (m3 : mg "says" = some (.ref f3)) : ∀ d : Nat, FnOk P w K mg base CX0 (3 * d + 4) f fd ["told", "kinds", "look", "reason"] (spHolds K d)
  | 0 => by
    refine F.ok sc_holds_up (fun vs H Q E h => ?_) (fun cdv A outer s H vs Q E hr h => ?_)
    · obtain ⟨t, kl, lt, v, n, ks, lk, dt, rfl, _⟩ := h
      rfl
    obtain ⟨t, kl, lt, v, n, ks, lk, dt, rfl, R, ok, dp, G, Rv, q⟩ := h
    have := Nt.dp_pos n
    omega
  | d + 1 => step_holds (L := 3 * d) F M A_OF_BOTH O C_one_holds ⟨⟨f2, fd2, step_two (L := 3 * d + 4) F2 M A_OF_BOTH O C_is_whole ⟨⟨f3, fd3, step_says (L := 3 * d + 4) F3 M ⟨⟨f, fd, ok_holds F F2 F3 M A_OF_BOTH O C_is_whole C_one_holds b kp m b2 kp2 m2 b3 kp3 m3 d, b, kp, m⟩⟩, b3, kp3, m3⟩⟩, b2, kp2, m2⟩⟩
theorem ok_truth_of (F : Fun K "truth_of" "truth_of" s_truth_of f fd) (M : Mg mg) (C_holds_up : Cal P w K mg base CX0 "holds_up" 19 ["told", "kinds", "look", "reason"] (spHolds K 5)) : FnOk P w K mg base CX0 20 f fd ["told", "kinds", "look", "reason"] (spTruth K) := by
  refine F.ok sc_truth_of (fun vs H Q E h => ?_) (fun cdv A outer s H vs Q E hr h => ?_)
  · obtain ⟨t, kl, lt, v, n, ks, lk, dt, rfl, _⟩ := h
    rfl
  obtain ⟨t, kl, lt, v, n, ks, lk, dt, rfl, R, ok, dp, G, Rv, q⟩ := h
  refine ⟨_, (@pss_cons _ _ _ _ _ (@ps_if _ _ _ _ _ _ _ _ (@pt_val _ _ _ (@pe_callC _ _ _ _ _ _ _ _ _ _ _ C_holds_up hr g_truth_of_holds_up (@pa_cons _ _ _ _ _ (@pe_var _ 0 _ _ rfl v_truth_of_0 dn_told dc_told) (@pa_cons _ _ _ _ _ (@pe_var _ 1 _ _ rfl v_truth_of_1 dn_kinds dc_kinds) (@pa_cons _ _ _ _ _ (@pe_var _ 2 _ _ rfl v_truth_of_2 dn_look dc_look) (@pa_cons _ _ _ _ _ (@pe_var _ 3 _ _ rfl v_truth_of_3 dn_reason dc_reason) (@pa_nil _) (star1 rfl)) (star1 rfl)) (star1 rfl)) (star1 rfl)) (by decide) dn_holds_up (star1 rfl) (nost1 rfl (nost1 rfl (nost1 rfl nost0)))) (test1 rfl)) (@pss_one _ _ _ (@ps_ret _ _ _ _ (@pe_ix _ _ _ _ _ _ _ (@ix_tup _) (@pe_var _ 3 _ _ rfl v_truth_of_3 dn_reason dc_reason) (@pe_int _ _ _ _) (fun _ _ => rfl)))) (@pss_nil _)) (@pss_one _ _ _ (@ps_ret _ _ _ _ (@pe_non _ _ _)))), ?_⟩
  simp only [slots, Option.getD_some, Option.getD_none, tSeq, tOp, tC, tVar, tCons, tNil, tCall, tRet, tIfS, tB, tNext, rIxT, Kd_non, Kd_bl, Kd_int, Kd_str, decide_true, decide_false, L2.start, cxK, Int.reduceToNat, List.map_cons, List.map_nil, List.length_cons, List.length_nil, Nat.reduceAdd, Nat.reduceSub, Nat.zero_add, List.replicate_succ, List.replicate_zero, List.cons_append, List.nil_append, List.append_nil, List.getElem?_cons_zero, List.getElem?_cons_succ, List.set_cons_zero, List.set_cons_succ, Option.some.injEq, V.int.injEq, V.bl.injEq, V.ref.injEq, V.str.injEq, V.ty.injEq, List.cons.injEq, exists_eq_left', exists_eq_left, exists_eq_right, exists_and_left, exists_and_right, and_true, true_and, and_assoc, exists_const, decide_eq_true_eq, Bool.not_eq_true', Bool.not_true, Bool.not_false, Bool.not_not, decide_eq_false_iff_not, ite_not, Bool.false_eq_true, if_true, if_false, reduceCtorEq, and_false, false_and, exists_false, or_false, false_or, ↓reduceIte, eq_self, reduceIte]
  refine ⟨t, kl, lt, v, n, ks, lk, dt, rfl, R, ok, dp, G, Rv, fun H1 S1 => ?_⟩
  refine ⟨_, rfl, ?_⟩
  cases e : rdD ks lk n dt with
  | false =>
    rw [if_neg (by decide), ← rdV_no e]
    exact q _ S1
  | true =>
    rw [if_pos rfl]
    obtain ⟨b, r, rfl, hb⟩ := rd_inv e
    obtain ⟨a, xs, rfl, T, ra⟩ := rep_tupV Rv
    obtain ⟨x0, ys, rfl, r0, _⟩ := rep_cons ra
    cases rep_bool r0
    have e9 : rdV ks lk n (.tuple (.bool b :: r)) = .bl b := if_pos hb
    rw [e9] at q
    exact ⟨_, rfl, _, Same.tup S1 T, _, at0, q _ S1⟩
end

theorem sayF_inv {f : Bool → List PyData → Bool} {t : Bool} {d : PyData} (h : sayF f t d = true) : ∃ r, d = .tuple (.bool t :: r) ∧ f t r = true := by
  unfold sayF at h
  split at h
  · rw [Bool.and_eq_true] at h
    have e := of_decide_eq_true h.2
    subst e
    exact ⟨_, rfl, h.1⟩
  · cases h
theorem plc_mem {ks : List Kd2} {lk : List Int} {p : Kd2 → Int → Bool} {i : Int} : ∀ n : Nat, inV (.int i) (plcTo ks lk p n) = true ↔ ∃ (j : Nat) (k : Kd2) (x : Int), j < n ∧ i = j ∧ ks[j]? = some k ∧ lk[j]? = some x ∧ p k x = true
  | 0 => by
    constructor
    · intro h; cases h
    · rintro ⟨j, _, _, h, _⟩; omega
  | n + 1 => by
    have ih := plc_mem (ks := ks) (lk := lk) (p := p) (i := i) n
    have e : inV (.int i) (plcTo ks lk p (n + 1)) = (inV (.int i) (plcTo ks lk p n) || inV (.int i) (match ks[n]?, lk[n]? with | some k, some x => if p k x then [.int (n : Int)] else [] | _, _ => [])) := List.any_append
    rw [e, Bool.or_eq_true, ih]
    constructor
    · rintro (⟨j, k, x, h1, h2⟩ | h)
      · exact ⟨j, k, x, by omega, h2⟩
      · split at h
        · rename_i k x e1 e2
          split at h
          · rename_i hp
            have : i = n := by
              simp only [inV, List.any_cons, List.any_nil, Bool.or_false, eqV, decide_eq_true_eq, beq_iff_eq] at h
              exact h.symm
            exact ⟨n, k, x, by omega, this, e1, e2, hp⟩
          · cases h
        · cases h
    · rintro ⟨j, k, x, h1, h2, h3, h4, h5⟩
      by_cases hj : j = n
      · subst hj
        right
        rw [h3, h4]
        simp [h5, inV, eqV, h2]
      · exact .inl ⟨j, k, x, by omega, h2, h3, h4, h5⟩
theorem atPl_iff {ks : List Kd2} {lk : List Int} {p : Kd2 → Int → Bool} {d : PyData} : atPl ks lk p d = true ↔ ∃ (j : Nat) (k : Kd2) (x : Int), d = .int j ∧ ks[j]? = some k ∧ lk[j]? = some x ∧ p k x = true := by
  constructor
  · intro h
    unfold atPl at h
    split at h
    · obtain ⟨j, k, x, _, rfl, h1, h2, h3⟩ := (plc_mem _).mp h
      exact ⟨j, k, x, rfl, h1, h2, h3⟩
    · cases h
  · rintro ⟨j, k, x, rfl, h1, h2, h3⟩
    exact (plc_mem _).mpr ⟨j, k, x, (List.getElem?_eq_some_iff.mp h1).1, rfl, h1, h2, h3⟩
theorem any_of_at {ks : List Kd2} {lk : List Int} {p : Kd2 → Int → Bool} {d : PyData} (hl : lk.length = ks.length) (h : atPl ks lk p d = true) : anyAt ks lk p = true := by
  obtain ⟨j, k, x, rfl, h1, h2, h3⟩ := atPl_iff.mp h
  have hz : (ks.zip lk)[j]? = some (k, x) := by rw [List.getElem?_zip_eq_some]; exact ⟨h1, h2⟩
  exact List.any_eq_true.mpr ⟨_, List.mem_of_getElem? hz, h3⟩
theorem pl_claims {ks : List Kd2} {lk : List Int} {p : Kd2 → Int → Bool} {b : Bool} {r : List PyData} (hl : lk.length = ks.length) (h : one1 (plB ks lk p b) r = true) : b = anyAt ks lk p := by
  unfold one1 at h
  split at h
  · cases b with
    | true => exact (any_of_at hl h).symm
    | false =>
      have h2 : (isNn _ && !(anyAt ks lk p)) = true := h
      rw [Bool.and_eq_true] at h2
      simpa using h2.2
  · cases h
theorem two_claims {w0 w1 w2 cx cy c b : Bool} {f g : Bool → List PyData → Bool} {r : List PyData} (hx : ∀ b r, f b r = true → b = cx) (hy : ∀ b r, g b r = true → b = cy) (h1 : cx = w1 → cy = w2 → c = w0) (h2 : cx = !w1 → c = !w0) (h3 : cy = !w2 → c = !w0) (h : twoB w0 w1 w2 f g b r = true) : b = c := by
  unfold twoB at h
  split at h
  · split at h
    · rename_i e
      rw [Bool.and_eq_true] at h
      obtain ⟨r1, _, a⟩ := sayF_inv h.1
      obtain ⟨r2, _, d⟩ := sayF_inv h.2
      rw [e, h1 (hx _ _ a).symm (hy _ _ d).symm]
    · rename_i e
      have e' : b = !w0 := by cases b <;> cases w0 <;> simp_all
      unfold sideB at h
      split at h
      · split at h
        · obtain ⟨r1, _, a⟩ := sayF_inv h
          rw [e', h2 (hx _ _ a).symm]
        · split at h
          · obtain ⟨r1, _, a⟩ := sayF_inv h
            rw [e', h3 (hy _ _ a).symm]
          · cases h
      · cases h
  · cases h
theorem rd_claims {ks : List Kd2} {lk : List Int} (hl : lk.length = ks.length) : ∀ {n : Nt} {b : Bool} {r : List PyData}, rdB ks lk n b r = true → b = claimsB ks lk n
  | .any, b, r, h => by
    have h' : one1 (fun x => b && isNn x) r = true := h
    unfold one1 at h'
    split at h'
    · rw [Bool.and_eq_true] at h'
      exact h'.1
    · cases h'
  | .made s, b, r, h => pl_claims hl h
  | .used s, b, r, h => pl_claims hl h
  | .chief s, b, r, h => pl_claims hl h
  | .over k1 k2, b, r, h => by
    have h' : one1 (fun x => decide (b = decide (numIn ks lk k1 > numIn ks lk k2)) && isNn x) r = true := h
    unfold one1 at h'
    split at h'
    · rw [Bool.and_eq_true] at h'
      exact of_decide_eq_true h'.1
    · cases h'
  | .both x y, b, r, h => two_claims (fun _ _ => rd_claims hl) (fun _ _ => rd_claims hl) (fun a d => by show (claimsB ks lk x && claimsB ks lk y) = _; rw [a, d]; rfl) (fun a => by show (claimsB ks lk x && claimsB ks lk y) = _; rw [a]; rfl) (fun a => by show (claimsB ks lk x && claimsB ks lk y) = _; rw [a]; simp) h
  | .either x y, b, r, h => two_claims (fun _ _ => rd_claims hl) (fun _ _ => rd_claims hl) (fun a d => by show (claimsB ks lk x || claimsB ks lk y) = _; rw [a, d]; rfl) (fun a => by show (claimsB ks lk x || claimsB ks lk y) = _; rw [a]; rfl) (fun a => by show (claimsB ks lk x || claimsB ks lk y) = _; rw [a]; simp) h
  | .but x y, b, r, h => two_claims (fun _ _ => rd_claims hl) (fun _ _ => rd_claims hl) (fun a d => by show (claimsB ks lk x && !claimsB ks lk y) = _; rw [a, d]; rfl) (fun a => by show (claimsB ks lk x && !claimsB ks lk y) = _; rw [a]; rfl) (fun a => by show (claimsB ks lk x && !claimsB ks lk y) = _; rw [a]; simp) h
def anyOver : Nt → Prop
  | .any => True
  | .over _ _ => True
  | _ => False
theorem told_wd {K : PySem.W.Frag} {H : Hp} {t : Addr} {n : Nt} (R : ToldAt K H (.ref t) n) (dp : n.dp = 1) : ∃ wd us, SqT K H t (.str wd :: us) ∧ ((anyOver n ∧ inV (.str wd) [V.str (Str.ofString "any"), V.str (Str.ofString "over")] = true) ∨ (oneName n ∧ inV (.str wd) [V.str (Str.ofString "any"), V.str (Str.ofString "over")] = false)) := by
  cases n with
  | any => obtain ⟨x0, T, s0⟩ := rep_one R; cases rep_str s0; exact ⟨_, _, T, .inl ⟨trivial, by decide⟩⟩
  | made s => obtain ⟨x0, y0, T, s0, s1⟩ := rep_two R; cases rep_str s0; exact ⟨_, _, T, .inr ⟨trivial, by decide⟩⟩
  | used s => obtain ⟨x0, y0, T, s0, s1⟩ := rep_two R; cases rep_str s0; exact ⟨_, _, T, .inr ⟨trivial, by decide⟩⟩
  | chief s => obtain ⟨x0, y0, T, s0, s1⟩ := rep_two R; cases rep_str s0; exact ⟨_, _, T, .inr ⟨trivial, by decide⟩⟩
  | over a b => obtain ⟨x0, y0, z0, T, s0, _⟩ := rep_three R; cases rep_str s0; exact ⟨_, _, T, .inl ⟨trivial, by decide⟩⟩
  | both a b => exact absurd dp (by have := Nt.dp_pos a; show ¬(max a.dp b.dp + 1 = 1); omega)
  | either a b => exact absurd dp (by have := Nt.dp_pos a; show ¬(max a.dp b.dp + 1 = 1); omega)
  | but a b => exact absurd dp (by have := Nt.dp_pos a; show ¬(max a.dp b.dp + 1 = 1); omega)
theorem rdV_one {ks : List Kd2} {lk : List Int} {n : Nt} {b : Bool} {d : PyData} : rdV ks lk n (.tuple [.bool b, d]) = if rdB ks lk n b [d] then .bl b else .non := rfl
theorem rdV_far {ks : List Kd2} {lk : List Int} {n : Nt} {b : Bool} {d e : PyData} {r : List PyData} (dp : n.dp = 1) : rdV ks lk n (.tuple (.bool b :: d :: e :: r)) = .non := by
  cases n with
  | both a b => exact absurd dp (by have := Nt.dp_pos a; show ¬(max a.dp b.dp + 1 = 1); omega)
  | either a b => exact absurd dp (by have := Nt.dp_pos a; show ¬(max a.dp b.dp + 1 = 1); omega)
  | but a b => exact absurd dp (by have := Nt.dp_pos a; show ¬(max a.dp b.dp + 1 = 1); omega)
  | _ => rfl
theorem ao_rd {ks : List Kd2} {lk : List Int} {n : Nt} {b : Bool} {d : PyData} (h : anyOver n) : rdB ks lk n b [d] = (decide (b = claimsB ks lk n) && isNn d) := by
  cases n with
  | any => cases b <;> rfl
  | over k1 k2 => rfl
  | _ => exact h.elim
theorem on_rd {ks : List Kd2} {lk : List Int} {n : Nt} {b : Bool} {d : PyData} (h : oneName n) : rdB ks lk n b [d] = plB ks lk (showsB lk n) b d := by
  cases n with
  | made s => rfl
  | used s => rfl
  | chief s => rfl
  | _ => exact h.elim
theorem on_claims {ks : List Kd2} {lk : List Int} {n : Nt} (h : oneName n) : claimsB ks lk n = anyAt ks lk (showsB lk n) := by
  cases n with
  | made s => rfl
  | used s => rfl
  | chief s => rfl
  | _ => exact h.elim
def spPair (K : PySem.W.Frag) : Sp := fun vs H Q _ => ∃ (wd : Str) (w0 w1 w2 : Bool), vs = [.str wd] ∧ JoinW wd w0 w1 w2 ∧ ∀ l H', Same H H' → H' l = some (.lst [.bl w0, .bl w1, .bl w2]) → Q (.ref l) H'
def spReadsP (K : PySem.W.Frag) : Sp := fun vs H Q _ => ∃ (t kl lt v : Addr) (n : Nt) (ks : List Kd2) (lk : List Int) (b : Bool) (d : PyData) (r : List PyData), vs = [.ref t, .ref kl, .ref lt, .ref v] ∧ ToldAt K H (.ref t) n ∧ n.ok ∧ n.dp = 1 ∧ Ground K H kl lt ks lk ∧ Rep K H (.ref v) (.tuple (.bool b :: d :: r)) ∧ ∀ H', Same H H' → Q (rdV ks lk n (.tuple (.bool b :: d :: r))) H'
def spReads (K : PySem.W.Frag) (d : Nat) : Sp := fun vs H Q _ => ∃ (t kl lt : Addr) (v : V) (n : Nt) (ks : List Kd2) (lk : List Int) (dt : PyData), vs = [.ref t, .ref kl, .ref lt, v] ∧ ToldAt K H (.ref t) n ∧ n.ok ∧ n.dp ≤ d ∧ Ground K H kl lt ks lk ∧ Rep K H v dt ∧ ∀ H', Same H H' → Q (rdV ks lk n dt) H'
theorem rdV_cases (ks : List Kd2) (lk : List Int) (n : Nt) (d : PyData) : (rdV ks lk n d = .non ∧ ∀ t, sayF (rdB ks lk n) t d = false) ∨ ∃ b, rdV ks lk n d = .bl b ∧ ∀ t, sayF (rdB ks lk n) t d = decide (b = t) := by
  cases e : rdD ks lk n d with
  | false => exact .inl ⟨rdV_no e, fun t => say_no e⟩
  | true =>
    obtain ⟨b, r, rfl, hb⟩ := rd_inv e
    refine .inr ⟨b, if_pos hb, fun t => ?_⟩
    show (rdB ks lk n b r && decide (b = t)) = _
    rw [hb, Bool.true_and]
theorem rdV_short {ks : List Kd2} {lk : List Int} {n : Nt} {d : PyData} : rdV ks lk n (.tuple [d]) = .non := by
  cases d with
  | bool b => cases n <;> rfl
  | _ => rfl
theorem told_jn {K : PySem.W.Frag} {H : Hp} {t : Addr} {n : Nt} (R : ToldAt K H (.ref t) n) : (n.dp = 1 ∧ ∃ wd us, SqT K H t (.str wd :: us) ∧ inV (.str wd) [V.str (Str.ofString "both"), V.str (Str.ofString "either"), V.str (Str.ofString "but")] = false) ∨
    ∃ wd w0 w1 w2 t1 t2 x y, SqT K H t [.str wd, .ref t1, .ref t2] ∧ JoinW wd w0 w1 w2 ∧ inV (.str wd) [V.str (Str.ofString "both"), V.str (Str.ofString "either"), V.str (Str.ofString "but")] = true ∧ ToldAt K H (.ref t1) x ∧ ToldAt K H (.ref t2) y ∧ (n.ok → x.ok ∧ y.ok) ∧ n.dp = max x.dp y.dp + 1 ∧ ∀ ks lk, rdB ks lk n = twoB w0 w1 w2 (rdB ks lk x) (rdB ks lk y) := by
  cases n with
  | any => obtain ⟨x0, T, s0⟩ := rep_one R; cases rep_str s0; exact .inl ⟨rfl, _, _, T, by decide⟩
  | made s => obtain ⟨x0, y0, T, s0, s1⟩ := rep_two R; cases rep_str s0; exact .inl ⟨rfl, _, _, T, by decide⟩
  | used s => obtain ⟨x0, y0, T, s0, s1⟩ := rep_two R; cases rep_str s0; exact .inl ⟨rfl, _, _, T, by decide⟩
  | chief s => obtain ⟨x0, y0, T, s0, s1⟩ := rep_two R; cases rep_str s0; exact .inl ⟨rfl, _, _, T, by decide⟩
  | over a b => obtain ⟨x0, y0, z0, T, s0, _⟩ := rep_three R; cases rep_str s0; exact .inl ⟨rfl, _, _, T, by decide⟩
  | both a b =>
    obtain ⟨x0, y0, z0, T, s0, s1, s2⟩ := rep_three R
    cases rep_str s0
    obtain ⟨t1, rfl⟩ := told_ref s1
    obtain ⟨t2, rfl⟩ := told_ref s2
    exact .inr ⟨_, _, _, _, t1, t2, a, b, T, .inl ⟨rfl, rfl, rfl, rfl⟩, by decide, s1, s2, fun h => h, rfl, fun _ _ => rfl⟩
  | either a b =>
    obtain ⟨x0, y0, z0, T, s0, s1, s2⟩ := rep_three R
    cases rep_str s0
    obtain ⟨t1, rfl⟩ := told_ref s1
    obtain ⟨t2, rfl⟩ := told_ref s2
    exact .inr ⟨_, _, _, _, t1, t2, a, b, T, .inr (.inl ⟨rfl, rfl, rfl, rfl⟩), by decide, s1, s2, fun h => h, rfl, fun _ _ => rfl⟩
  | but a b =>
    obtain ⟨x0, y0, z0, T, s0, s1, s2⟩ := rep_three R
    cases rep_str s0
    obtain ⟨t1, rfl⟩ := told_ref s1
    obtain ⟨t2, rfl⟩ := told_ref s2
    exact .inr ⟨_, _, _, _, t1, t2, a, b, T, .inr (.inr ⟨rfl, rfl, rfl, rfl⟩), by decide, s1, s2, fun h => h, rfl, fun _ _ => rfl⟩
theorem jw_ao {wd : Str} {w0 w1 w2 : Bool} (j : JoinW wd w0 w1 w2) : inV (.str wd) [V.str (Str.ofString "any"), V.str (Str.ofString "over")] = false := by
  rcases j with ⟨rfl, _⟩ | ⟨rfl, _⟩ | ⟨rfl, _⟩ <;> decide
theorem plc_all {ks : List Kd2} {lk : List Int} {p : Kd2 → Int → Bool} : ∀ {n : Nat} {v : V}, v ∈ plcTo ks lk p n → ∃ (j : Nat) (k : Kd2) (x : Int), v = .int j ∧ ks[j]? = some k ∧ lk[j]? = some x ∧ p k x = true
  | 0, v, h => by cases h
  | n + 1, v, h => by
    rcases List.mem_append.mp h with h | h
    · exact plc_all h
    · split at h
      · rename_i k x e1 e2
        split at h
        · rename_i hp
          exact ⟨n, k, x, List.mem_singleton.mp h, e1, e2, hp⟩
        · cases h
      · cases h
theorem atI_last {xs : List V} (h : 0 < xs.length) : ∃ v ∈ xs, atI xs (-1) = some v := by
  refine ⟨xs[xs.length - 1], List.getElem_mem _, ?_⟩
  unfold atI
  have e : ixN xs.length (-1) = some (xs.length - 1) := by
    unfold ixN
    simp
    omega
  rw [e]
  exact List.getElem?_eq_getElem _
theorem plc_last {ks : List Kd2} {lk : List Int} {p : Kd2 → Int → Bool} {n : Nat} (h : 0 < (plcTo ks lk p n).length) : ∃ (j : Nat) (k : Kd2) (x : Int), atI (plcTo ks lk p n) (-1) = some (.int j) ∧ ks[j]? = some k ∧ lk[j]? = some x ∧ p k x = true := by
  obtain ⟨v, m, e⟩ := atI_last h
  obtain ⟨j, k, x, rfl, h1, h2, h3⟩ := plc_all m
  exact ⟨j, k, x, e, h1, h2, h3⟩
def lfOk (x : PyData) : Prop := x = .none ∨ ∃ i : Int, x = .int i ∧ 0 ≤ i ∧ i ≤ 4
inductive RsOk : PyData → Nat → Prop
  | two {b : Bool} {x : PyData} {d : Nat} : lfOk x → RsOk (.tuple [.bool b, x]) (d + 1)
  | side {b : Bool} {i : Int} {y : PyData} {d : Nat} : 0 ≤ i → i ≤ 1 → RsOk y d → RsOk (.tuple [.bool b, .int i, y]) (d + 1)
  | both {b : Bool} {x y : PyData} {d : Nat} : RsOk x d → RsOk y d → RsOk (.tuple [.bool b, x, y]) (d + 1)
def spReason (K : PySem.W.Frag) (d : Nat) : Sp := fun vs H Q _ => ∃ (t kl lt : Addr) (n : Nt) (ks : List Kd2) (lk : List Int), vs = [.ref t, .ref kl, .ref lt] ∧ ToldAt K H (.ref t) n ∧ n.ok ∧ n.dp ≤ d ∧ Ground K H kl lt ks lk ∧ ∀ p H' b r, Same H H' → Rep K H' (.ref p) (.tuple (.bool b :: r)) → rdB ks lk n b r = true → RsOk (.tuple (.bool b :: r)) d → Q (.ref p) H'
section
variable {P : Program} {w : World} {K : PySem.W.Frag} {mg : Str → Option Value} {base : Heap} {f : Addr} {fd : FuncData}
theorem ok_law_pair (F : Fun K "_law_pair" "_law_pair" s_law_pair f fd) (M : Mg mg) : FnOk P w K mg base CX0 1 f fd ["_law_word"] (spPair K) := by
  refine F.ok sc_law_pair (fun vs H Q E h => ?_) (fun cdv A outer s H vs Q E hr h => ?_)
  · obtain ⟨wd, w0, w1, w2, rfl, _⟩ := h
    rfl
  obtain ⟨wd, w0, w1, w2, rfl, j, q⟩ := h
  refine ⟨_, (@pss_one _ _ _ (@ps_ret _ _ _ _ (@pe_lst _ _ _ _ (@pa_cons _ _ _ _ _ (@pe_cmpR _ _ _ _ _ _ _ _ (@op_ne _) (@pe_var _ 0 _ _ rfl v_law_pair_0 dn__law_word dc__law_word) (@pe_str _ _ _ _) (nomark _)) (@pa_cons _ _ _ _ _ (@pe_cmpR _ _ _ _ _ _ _ _ (@op_ne _) (@pe_var _ 0 _ _ rfl v_law_pair_0 dn__law_word dc__law_word) (@pe_str _ _ _ _) (nomark _)) (@pa_cons _ _ _ _ _ (@pe_cmpR _ _ _ _ _ _ _ _ (@op_eq _) (@pe_var _ 0 _ _ rfl v_law_pair_0 dn__law_word dc__law_word) (@pe_str _ _ _ _) (nomark _)) (@pa_nil _) (star1 rfl)) (star1 rfl)) (star1 rfl))))), ?_⟩
  simp only [slots, Option.getD_some, Option.getD_none, tOp, tC, tVar, tCons, tNil, tRet, tLst, rEq, rNe, Kd_non, Kd_bl, Kd_int, Kd_str, sc_non_non, sc_non_int, sc_int_non, sc_non_bl, sc_bl_non, sc_non_str, sc_str_non, sc_int_int, sc_bl_bl, sc_str_str, sc_int_str, sc_str_int, sc_bl_str, sc_str_bl, decide_true, decide_false, L2.start, cxK, Int.reduceToNat, List.map_cons, List.map_nil, List.length_cons, List.length_nil, Nat.reduceAdd, Nat.reduceSub, Nat.zero_add, List.replicate_succ, List.replicate_zero, List.cons_append, List.nil_append, List.append_nil, List.getElem?_cons_zero, List.getElem?_cons_succ, List.set_cons_zero, List.set_cons_succ, Option.some.injEq, V.int.injEq, V.bl.injEq, V.ref.injEq, V.str.injEq, V.ty.injEq, List.cons.injEq, exists_eq_left', exists_eq_left, exists_eq_right, exists_and_left, exists_and_right, and_true, true_and, and_assoc, exists_const, decide_eq_true_eq, Bool.not_eq_true', Bool.not_true, Bool.not_false, Bool.not_not, decide_eq_false_iff_not, ite_not, Bool.false_eq_true, if_true, if_false, reduceCtorEq, and_false, false_and, exists_false, or_false, false_or, ↓reduceIte, eq_self, reduceIte]
  refine ⟨by decide, fun p hp => ?_⟩
  have e : [V.bl !decide (wd = Str.ofString "either"), V.bl !decide (wd = Str.ofString "either"), V.bl (decide (wd = Str.ofString "both"))] = [V.bl w0, V.bl w1, V.bl w2] := by
    rcases j with ⟨rfl, rfl, rfl, rfl⟩ | ⟨rfl, rfl, rfl, rfl⟩ | ⟨rfl, rfl, rfl, rfl⟩ <;> rfl
  rw [e]
  exact q _ _ (same_new hp _) upd_same
theorem ok_law_reads_plain (F : Fun K "_law_reads_plain" "_law_reads_plain" s_law_reads_plain f fd) (M : Mg mg) (C_law_whole : Cal P w K mg base CX0 "_law_whole" 1 ["_law_found"] (spIsWhole K)) (C_law_shows : Cal P w K mg base CX0 "_law_shows" 1 ["_law_told", "_law_kinds_here", "_law_look_here", "_law_k"] (spShows K)) (C_law_plain_claims : Cal P w K mg base CX0 "_law_plain_claims" 2 ["_law_told", "_law_kinds_here", "_law_look_here"] (spPlainC K)) : FnOk P w K mg base CX0 3 f fd ["_law_told", "_law_kinds_here", "_law_look_here", "_law_reason_here"] (spReadsP K) := by
  refine F.ok sc_law_reads_plain (fun vs H Q E h => ?_) (fun cdv A outer s H vs Q E hr h => ?_)
  · obtain ⟨t, kl, lt, v, n, ks, lk, b, d, r, rfl, _⟩ := h
    rfl
  obtain ⟨t, kl, lt, v, n, ks, lk, b, d, r, rfl, R, ok, dp, G, Rv, q⟩ := h
  refine ⟨_, (@pss_cons _ _ _ _ _ (@ps_set _ _ 4 _ _ _ _ sc_law_reads_plain.nd rfl l_law_reads_plain_4 (@pe_callC _ _ _ _ _ _ _ _ _ _ _ C_law_plain_claims hr g_law_reads_plain__law_plain_claims (@pa_cons _ _ _ _ _ (@pe_var _ 0 _ _ rfl v_law_reads_plain_0 dn__law_told dc__law_told) (@pa_cons _ _ _ _ _ (@pe_var _ 1 _ _ rfl v_law_reads_plain_1 dn__law_kinds_here dc__law_kinds_here) (@pa_cons _ _ _ _ _ (@pe_var _ 2 _ _ rfl v_law_reads_plain_2 dn__law_look_here dc__law_look_here) (@pa_nil _) (star1 rfl)) (star1 rfl)) (star1 rfl)) (by decide) dn__law_plain_claims (star1 rfl) (nost1 rfl (nost1 rfl nost0))) (swap1 rfl) (.inl rfl)) (@pss_cons _ _ _ _ _ (@ps_if _ _ _ _ _ _ _ _ (@PW.pt _ _ _ (@pw_or _ _ _ _ _ _ _ (@pt_cmpR _ _ _ _ _ _ _ _ (@op_ne _) (@pe_callB _ _ _ _ _ _ _ _ _ call_len_seq g_law_reads_plain_len M.m_len b_len (@pa_cons _ _ _ _ _ (@pe_var _ 3 _ _ rfl v_law_reads_plain_3 dn__law_reason_here dc__law_reason_here) (@pa_nil _) (star1 rfl)) nn_len dn_len (star1 rfl) nost0) (@pe_int _ _ _ _) (nomark _)) (@pw_or1 _ _ _ _ (@pt_cmpR _ _ _ _ _ _ _ _ (@op_ne _) (@pe_ix _ _ _ _ _ _ _ (@ix_tup _) (@pe_var _ 3 _ _ rfl v_law_reads_plain_3 dn__law_reason_here dc__law_reason_here) (@pe_int _ _ _ _) (fun _ _ => rfl)) (@pe_var _ 4 _ _ rfl v_law_reads_plain_4 dn__law_due dc__law_due) (nomark _))))) (@pss_one _ _ _ (@ps_ret _ _ _ _ (@pe_non _ _ _))) (@pss_nil _)) (@pss_cons _ _ _ _ _ (@ps_set _ _ 5 _ _ _ _ sc_law_reads_plain.nd rfl l_law_reads_plain_5 (@pe_ix _ _ _ _ _ _ _ (@ix_tup _) (@pe_var _ 3 _ _ rfl v_law_reads_plain_3 dn__law_reason_here dc__law_reason_here) (@pe_int _ _ _ _) (fun _ _ => rfl)) (swap1 rfl) (.inl rfl)) (@pss_cons _ _ _ _ _ (@ps_if _ _ _ _ _ _ _ _ (@PW.pt _ _ _ (@pw_and _ _ _ _ _ _ _ (@pt_cmpR _ _ _ _ _ _ _ _ (@op_isN _) (@pe_var _ 5 _ _ rfl v_law_reads_plain_5 dn__law_at dc__law_at) (@pe_non _ _ _) (nomark _)) (@pw_and1 _ _ _ _ (@PW.pt _ _ _ (@pw_or _ _ _ _ _ _ _ (@pt_cmpR _ _ _ _ _ _ _ _ op_in_seq (@pe_ix _ _ _ _ _ _ _ (@ix_tup _) (@pe_var _ 0 _ _ rfl v_law_reads_plain_0 dn__law_told dc__law_told) (@pe_int _ _ _ _) (fun _ _ => rfl)) (@pe_tup _ _ _ _ _ (@pa_cons _ _ _ _ _ (@pe_str _ _ _ _) (@pa_cons _ _ _ _ _ (@pe_str _ _ _ _) (@pa_nil _) (star1 rfl)) (star1 rfl))) (by with_unfolding_all rfl)) (@pw_or1 _ _ _ _ (@pt_not _ _ _ _ (@pt_val _ _ _ (@pe_var _ 4 _ _ rfl v_law_reads_plain_4 dn__law_due dc__law_due) (test1 rfl))))))))) (@pss_one _ _ _ (@ps_ret _ _ _ _ (@pe_var _ 4 _ _ rfl v_law_reads_plain_4 dn__law_due dc__law_due))) (@pss_nil _)) (@pss_cons _ _ _ _ _ (@ps_if _ _ _ _ _ _ _ _ (@PW.pt _ _ _ (@pw_or _ _ _ _ _ _ _ (@pt_cmpR _ _ _ _ _ _ _ _ op_in_seq (@pe_ix _ _ _ _ _ _ _ (@ix_tup _) (@pe_var _ 0 _ _ rfl v_law_reads_plain_0 dn__law_told dc__law_told) (@pe_int _ _ _ _) (fun _ _ => rfl)) (@pe_tup _ _ _ _ _ (@pa_cons _ _ _ _ _ (@pe_str _ _ _ _) (@pa_cons _ _ _ _ _ (@pe_str _ _ _ _) (@pa_nil _) (star1 rfl)) (star1 rfl))) (by with_unfolding_all rfl)) (@pw_or _ _ _ _ _ _ _ (@pt_not _ _ _ _ (@pt_val _ _ _ (@pe_var _ 4 _ _ rfl v_law_reads_plain_4 dn__law_due dc__law_due) (test1 rfl))) (@pw_or _ _ _ _ _ _ _ (@pt_not _ _ _ _ (@pt_val _ _ _ (@pe_callC _ _ _ _ _ _ _ _ _ _ _ C_law_whole hr g_law_reads_plain__law_whole (@pa_cons _ _ _ _ _ (@pe_var _ 5 _ _ rfl v_law_reads_plain_5 dn__law_at dc__law_at) (@pa_nil _) (star1 rfl)) (by decide) dn__law_whole (star1 rfl) nost0) (test1 rfl))) (@pw_or _ _ _ _ _ _ _ (@pt_cmpR _ _ _ _ _ _ _ _ (@op_lt _) (@pe_var _ 5 _ _ rfl v_law_reads_plain_5 dn__law_at dc__law_at) (@pe_int _ _ _ _) (nomark _)) (@pw_or1 _ _ _ _ (@pt_cmpR _ _ _ _ _ _ _ _ (@op_ge _) (@pe_var _ 5 _ _ rfl v_law_reads_plain_5 dn__law_at dc__law_at) (@pe_callB _ _ _ _ _ _ _ _ _ call_len_seq g_law_reads_plain_len M.m_len b_len (@pa_cons _ _ _ _ _ (@pe_var _ 1 _ _ rfl v_law_reads_plain_1 dn__law_kinds_here dc__law_kinds_here) (@pa_nil _) (star1 rfl)) nn_len dn_len (star1 rfl) nost0) (nomark _)))))))) (@pss_one _ _ _ (@ps_ret _ _ _ _ (@pe_non _ _ _))) (@pss_nil _)) (@pss_cons _ _ _ _ _ (@ps_if _ _ _ _ _ _ _ _ (@pt_val _ _ _ (@pe_callC _ _ _ _ _ _ _ _ _ _ _ C_law_shows hr g_law_reads_plain__law_shows (@pa_cons _ _ _ _ _ (@pe_var _ 0 _ _ rfl v_law_reads_plain_0 dn__law_told dc__law_told) (@pa_cons _ _ _ _ _ (@pe_var _ 1 _ _ rfl v_law_reads_plain_1 dn__law_kinds_here dc__law_kinds_here) (@pa_cons _ _ _ _ _ (@pe_var _ 2 _ _ rfl v_law_reads_plain_2 dn__law_look_here dc__law_look_here) (@pa_cons _ _ _ _ _ (@pe_var _ 5 _ _ rfl v_law_reads_plain_5 dn__law_at dc__law_at) (@pa_nil _) (star1 rfl)) (star1 rfl)) (star1 rfl)) (star1 rfl)) (by decide) dn__law_shows (star1 rfl) (nost1 rfl (nost1 rfl (nost1 rfl nost0)))) (test1 rfl)) (@pss_one _ _ _ (@ps_ret _ _ _ _ (@pe_bl _ _ _ _))) (@pss_nil _)) (@pss_one _ _ _ (@ps_ret _ _ _ _ (@pe_non _ _ _))))))))), ?_⟩
  simp only [slots, Option.getD_some, Option.getD_none, tSeq, tAsg, gName, tOp, tC, tVar, tCB, tCons, tNil, tCall, rI0, tRet, tIfS, tTest, tB, tAnd, tOr, tNot, tTup, tNext, rNe, rIxT, Kd_non, Kd_bl, Kd_int, Kd_str, sc_non_non, sc_non_int, sc_int_non, sc_non_bl, sc_bl_non, sc_non_str, sc_str_non, sc_int_int, sc_bl_bl, sc_str_str, sc_int_str, sc_str_int, sc_bl_str, sc_str_bl, decide_true, decide_false, L2.start, cxK, Int.reduceToNat, List.map_cons, List.map_nil, List.length_cons, List.length_nil, Nat.reduceAdd, Nat.reduceSub, Nat.zero_add, List.replicate_succ, List.replicate_zero, List.cons_append, List.nil_append, List.append_nil, List.getElem?_cons_zero, List.getElem?_cons_succ, List.set_cons_zero, List.set_cons_succ, Option.some.injEq, V.int.injEq, V.bl.injEq, V.ref.injEq, V.str.injEq, V.ty.injEq, List.cons.injEq, exists_eq_left', exists_eq_left, exists_eq_right, exists_and_left, exists_and_right, and_true, true_and, and_assoc, exists_const, decide_eq_true_eq, Bool.not_eq_true', Bool.not_true, Bool.not_false, Bool.not_not, decide_eq_false_iff_not, ite_not, Bool.false_eq_true, if_true, if_false, reduceCtorEq, and_false, false_and, exists_false, or_false, false_or, ↓reduceIte, eq_self, reduceIte]
  refine ⟨t, kl, lt, n, ks, lk, rfl, R, ok, dp, G, fun H1 S1 => ?_⟩
  obtain ⟨a, xs, ea, Tv, ra⟩ := rep_tupV Rv
  cases ea
  obtain ⟨x0, ys1, rfl, r0, ra1⟩ := rep_cons ra
  obtain ⟨y, ys2, rfl, r1, ra2⟩ := rep_cons ra1
  cases rep_bool r0
  have Tv1 := Same.tup S1 Tv
  refine ⟨_, .inr Tv1, ?_⟩
  clear ra ra1 Rv
  cases ra2 with
  | cons z ra =>
    rw [if_neg (by rw [List.length_cons, List.length_cons, List.length_cons]; omega)]
    rw [rdV_far dp] at q
    exact q _ S1
  | nil =>
    rw [if_pos (by rfl)]
    refine ⟨_, Tv1, _, at0, rfl, ?_⟩
    by_cases hb : b = claimsB ks lk n
    · rw [if_pos (by rw [hb])]
      refine ⟨_, Tv1, _, at1, ?_⟩
      obtain ⟨wd, us, T, hw⟩ := told_wd R dp
      have T1 := Same.tup S1 T
      by_cases hy : y = .non
      · rw [if_pos hy]
        cases (show d = .none by subst hy; cases r1; rfl)
        refine ⟨_, T1, _, at0, by decide, fun p1 hp1 => ?_⟩
        obtain ⟨H2, g2, S2, T2⟩ := fresh_tup (K := K) hp1 [V.str (Str.ofString "any"), V.str (Str.ofString "over")]
        rw [← g2]
        clear g2
        refine ⟨p1, _, rfl, .inr T2, rfl, rfl, _, rfl, ?_⟩
        rcases hw with ⟨ao, hin⟩ | ⟨on, hin⟩
        · rw [if_pos (by exact hin)]
          rw [show rdV ks lk n (.tuple [.bool b, .none]) = .bl (claimsB ks lk n) from by rw [rdV_one, ao_rd ao, decide_eq_true hb]; rw [hb]; rfl] at q
          exact q _ (S1.trans S2)
        · rw [if_neg (by rw [show (if false = true then _ else inV (V.str wd) _) = false from hin]; decide)]
          refine ⟨_, rfl, ?_⟩
          cases hc : claimsB ks lk n with
          | false =>
            rw [if_pos rfl]
            rw [hc] at hb
            rw [show rdV ks lk n (.tuple [.bool b, .none]) = .bl false from by rw [rdV_one, on_rd on, hb]; show (if (true && !(anyAt ks lk (showsB lk n))) = true then V.bl false else .non) = _; rw [← on_claims on, hc]; rfl] at q
            exact q _ (S1.trans S2)
          | true =>
            rw [if_neg (by decide)]
            rw [hc] at hb
            refine ⟨_, (Same.tup S2 T1), _, at0, by decide, fun p1 hp1 => ?_⟩
            obtain ⟨H2, g2, S2, T2⟩ := fresh_tup (K := K) hp1 [V.str (Str.ofString "any"), V.str (Str.ofString "over")]
            rw [← g2]
            clear g2
            refine ⟨p1, _, rfl, .inr T2, rfl, rfl, _, rfl, ?_⟩
            rw [if_neg (by rw [show (if false = true then _ else inV (V.str wd) _) = false from hin]; decide)]
            refine ⟨_, rfl, ?_⟩
            rw [if_neg (by decide)]
            refine ⟨_, .non, rfl, (by rw [hy]; rfl), _, rfl, ?_⟩
            rw [if_pos (by rfl)]
            rw [show rdV ks lk n (.tuple [.bool b, .none]) = .non from by rw [rdV_one, on_rd on, hb]; rfl] at q
            exact q _ (S1.trans (‹Same H1 _›.trans ‹Same _ _›))
      · rw [if_neg hy]
        have nn : isNn d = false := by
          cases e : isNn d with
          | true => exact absurd ((isN_iff r1).mpr e) hy
          | false => rfl
        refine ⟨_, T1, _, at0, by decide, fun p1 hp1 => ?_⟩
        obtain ⟨H2, g2, S2, T2⟩ := fresh_tup (K := K) hp1 [V.str (Str.ofString "any"), V.str (Str.ofString "over")]
        rw [← g2]
        clear g2
        refine ⟨p1, _, rfl, .inr T2, rfl, rfl, _, rfl, ?_⟩
        rcases hw with ⟨ao, hin⟩ | ⟨on, hin⟩
        · rw [if_pos (by exact hin)]
          rw [show rdV ks lk n (.tuple [.bool b, d]) = .non from by rw [rdV_one, ao_rd ao, nn, Bool.and_false]; rfl] at q
          exact q _ (S1.trans S2)
        · rw [if_neg (by rw [show (if false = true then _ else inV (V.str wd) _) = false from hin]; decide)]
          refine ⟨_, rfl, ?_⟩
          cases hc : claimsB ks lk n with
          | false =>
            rw [if_pos rfl]
            rw [hc] at hb
            rw [show rdV ks lk n (.tuple [.bool b, d]) = .non from by rw [rdV_one, on_rd on, hb]; show (if (isNn d && !(anyAt ks lk (showsB lk n))) = true then V.bl false else .non) = _; rw [nn]; rfl] at q
            exact q _ (S1.trans S2)
          | true =>
            rw [if_neg (by decide)]
            rw [hc] at hb
            have S12 := S1.trans S2
            have qn : atPl ks lk (showsB lk n) d = false → ∀ H3, Same H2 H3 → Q .non H3 := fun h H3 e => by
              rw [show rdV ks lk n (.tuple [.bool b, d]) = .non from by rw [rdV_one, on_rd on, hb]; show (if atPl ks lk (showsB lk n) d = true then V.bl true else .non) = _; rw [h]; rfl] at q
              exact q _ (S12.trans e)
            refine ⟨_, _, rfl, rep_kd (Rep.same S12 r1), _, rfl, ?_⟩
            cases r1 with
            | non => exact absurd rfl hy
            | bl b => exact qn rfl _ (Same.refl _)
            | str z => exact qn rfl _ (Same.refl _)
            | lst a b => exact qn rfl _ (Same.refl _)
            | tup a b => exact qn rfl _ (Same.refl _)
            | int i =>
              rw [if_neg (show ¬ wholeK (dkn (.int i)) = false by show ¬ true = false; decide)]
              refine ⟨i, rfl, ?_⟩
              have out : ¬ (0 ≤ i ∧ i < ks.length) → atPl ks lk (showsB lk n) (.int i) = false := fun h => by
                cases e : atPl ks lk (showsB lk n) (.int i) with
                | false => rfl
                | true =>
                  obtain ⟨j, k, x, ej, h1, _⟩ := atPl_iff.mp e
                  injection ej with ej
                  have := (List.getElem?_eq_some_iff.mp h1).1
                  exact absurd ⟨by omega, by omega⟩ h
              by_cases h0 : i < 0
              · rw [if_pos h0]
                exact qn (out (by omega)) _ (Same.refl _)
              rw [if_neg h0]
              obtain ⟨kx, L, A⟩ := G.kx
              have lx := A.length
              refine ⟨_, .inl (S12.seq L), i, rfl, ?_⟩
              by_cases h1 : (kx.length : Int) ≤ i
              · rw [if_pos h1]
                exact qn (out (by omega)) _ (Same.refl _)
              rw [if_neg h1]
              obtain ⟨j, rfl⟩ : ∃ j : Nat, i = j := ⟨i.toNat, by omega⟩
              have ek : ks[j]? = some ks[j] := List.getElem?_eq_getElem (by omega)
              obtain ⟨x, e1, e2, mm, nn⟩ := G.at ek
              refine ⟨t, kl, lt, j, n, ks, lk, ks[j], x, rfl, R.same S12, on, G.same S12, ek, e1, fun H3 S3 => ⟨_, rfl, ?_⟩⟩
              cases e : showsB lk n ks[j] x with
              | true =>
                rw [if_pos rfl]
                rw [show rdV ks lk n (.tuple [.bool b, .int j]) = .bl true from by rw [rdV_one, on_rd on, hb]; exact if_pos (atPl_iff.mpr ⟨j, _, _, rfl, ek, e1, e⟩)] at q
                exact q _ (S12.trans S3)
              | false =>
                rw [if_neg (by decide)]
                refine qn ?_ _ S3
                cases e' : atPl ks lk (showsB lk n) (.int j) with
                | false => rfl
                | true =>
                  obtain ⟨j', k, x', ej, h1, h2, h3⟩ := atPl_iff.mp e'
                  injection ej with ej
                  have ej2 : j = j' := by omega
                  subst ej2
                  rw [ek] at h1
                  rw [e1] at h2
                  injection h1 with h1
                  injection h2 with h2
                  subst h1 h2
                  rw [h3] at e
                  cases e
    · rw [if_neg fun z => hb (by injection z)]
      have : rdB ks lk n b [d] = false := by
        cases e : rdB ks lk n b [d] with
        | false => rfl
        | true => exact absurd (rd_claims G.len e) hb
      rw [rdV_one, this] at q
      exact q _ S1
theorem step_reads {L d : Nat} (F : Fun K "_law_reads" "_law_reads" s_law_reads f fd) (M : Mg mg) (C_law_whole : Cal P w K mg base CX0 "_law_whole" 1 ["_law_found"] (spIsWhole K)) (C_law_pair : Cal P w K mg base CX0 "_law_pair" 1 ["_law_word"] (spPair K)) (C_law_reads_plain : Cal P w K mg base CX0 "_law_reads_plain" 3 ["_law_told", "_law_kinds_here", "_law_look_here", "_law_reason_here"] (spReadsP K)) (C_law_reads : Cal P w K mg base CX0 "_law_reads" (L + 3) ["_law_told", "_law_kinds_here", "_law_look_here", "_law_reason_here"] (spReads K d)) : FnOk P w K mg base CX0 (L + 4) f fd ["_law_told", "_law_kinds_here", "_law_look_here", "_law_reason_here"] (spReads K (d + 1)) := by
  refine F.ok sc_law_reads (fun vs H Q E h => ?_) (fun cdv A outer s H vs Q E hr h => ?_)
  · obtain ⟨t, kl, lt, v, n, ks, lk, dt, rfl, _⟩ := h
    rfl
  obtain ⟨t, kl, lt, v, n, ks, lk, dt, rfl, R, ok, dp, G, Rv, q⟩ := h
  refine ⟨_, (@pss_cons _ _ _ _ _ (@ps_if _ _ _ _ _ _ _ _ (@PW.pt _ _ _ (@pw_or _ _ _ _ _ _ _ (@pt_not _ _ _ _ (@pt_val _ _ _ (@pe_callB _ _ _ _ _ _ _ _ _ call_isi g_law_reads_isinstance M.m_isinstance b_isinstance (@pa_cons _ _ _ _ _ (@pe_var _ 3 _ _ rfl v_law_reads_3 dn__law_reason_here dc__law_reason_here) (@pa_cons _ _ _ _ _ (@pe_bltn _ _ (.ty "tuple") _ _ g_law_reads_tuple M.m_tuple b_tuple rfl nn_tuple dn_tuple) (@pa_nil _) (star1 rfl)) (star1 rfl)) nn_isinstance dn_isinstance (star1 rfl) (nost1 rfl nost0)) (test1 rfl))) (@pw_or _ _ _ _ _ _ _ (@pt_cmpR _ _ _ _ _ _ _ _ (@op_lt _) (@pe_callB _ _ _ _ _ _ _ _ _ call_len_seq g_law_reads_len M.m_len b_len (@pa_cons _ _ _ _ _ (@pe_var _ 3 _ _ rfl v_law_reads_3 dn__law_reason_here dc__law_reason_here) (@pa_nil _) (star1 rfl)) nn_len dn_len (star1 rfl) nost0) (@pe_int _ _ _ _) (nomark _)) (@pw_or1 _ _ _ _ (@pt_not _ _ _ _ (@pt_val _ _ _ (@pe_callB _ _ _ _ _ _ _ _ _ call_isi g_law_reads_isinstance M.m_isinstance b_isinstance (@pa_cons _ _ _ _ _ (@pe_ix _ _ _ _ _ _ _ (@ix_tup _) (@pe_var _ 3 _ _ rfl v_law_reads_3 dn__law_reason_here dc__law_reason_here) (@pe_int _ _ _ _) (fun _ _ => rfl)) (@pa_cons _ _ _ _ _ (@pe_bltn _ _ (.ty "bool") _ _ g_law_reads_bool M.m_bool b_bool rfl nn_bool dn_bool) (@pa_nil _) (star1 rfl)) (star1 rfl)) nn_isinstance dn_isinstance (star1 rfl) (nost1 rfl nost0)) (test1 rfl))))))) (@pss_one _ _ _ (@ps_ret _ _ _ _ (@pe_non _ _ _))) (@pss_nil _)) (@pss_cons _ _ _ _ _ (@ps_if _ _ _ _ _ _ _ _ (@pt_cmpR _ _ _ _ _ _ _ _ (@op_notIn_seq _) (@pe_ix _ _ _ _ _ _ _ (@ix_tup _) (@pe_var _ 0 _ _ rfl v_law_reads_0 dn__law_told dc__law_told) (@pe_int _ _ _ _) (fun _ _ => rfl)) (@pe_tup _ _ _ _ _ (@pa_cons _ _ _ _ _ (@pe_str _ _ _ _) (@pa_cons _ _ _ _ _ (@pe_str _ _ _ _) (@pa_cons _ _ _ _ _ (@pe_str _ _ _ _) (@pa_nil _) (star1 rfl)) (star1 rfl)) (star1 rfl))) (by with_unfolding_all rfl)) (@pss_one _ _ _ (@ps_ret _ _ _ _ (@pe_callC _ _ _ _ _ _ _ _ _ _ _ C_law_reads_plain hr g_law_reads__law_reads_plain (@pa_cons _ _ _ _ _ (@pe_var _ 0 _ _ rfl v_law_reads_0 dn__law_told dc__law_told) (@pa_cons _ _ _ _ _ (@pe_var _ 1 _ _ rfl v_law_reads_1 dn__law_kinds_here dc__law_kinds_here) (@pa_cons _ _ _ _ _ (@pe_var _ 2 _ _ rfl v_law_reads_2 dn__law_look_here dc__law_look_here) (@pa_cons _ _ _ _ _ (@pe_var _ 3 _ _ rfl v_law_reads_3 dn__law_reason_here dc__law_reason_here) (@pa_nil _) (star1 rfl)) (star1 rfl)) (star1 rfl)) (star1 rfl)) (by omega) dn__law_reads_plain (star1 rfl) (nost1 rfl (nost1 rfl (nost1 rfl nost0)))))) (@pss_nil _)) (@pss_cons _ _ _ _ _ (@ps_if _ _ _ _ _ _ _ _ (@pt_cmpR _ _ _ _ _ _ _ _ (@op_ne _) (@pe_callB _ _ _ _ _ _ _ _ _ call_len_seq g_law_reads_len M.m_len b_len (@pa_cons _ _ _ _ _ (@pe_var _ 3 _ _ rfl v_law_reads_3 dn__law_reason_here dc__law_reason_here) (@pa_nil _) (star1 rfl)) nn_len dn_len (star1 rfl) nost0) (@pe_int _ _ _ _) (nomark _)) (@pss_one _ _ _ (@ps_ret _ _ _ _ (@pe_non _ _ _))) (@pss_nil _)) (@pss_cons _ _ _ _ _ (@ps_set _ _ 4 _ _ _ _ sc_law_reads.nd rfl l_law_reads_4 (@pe_callC _ _ _ _ _ _ _ _ _ _ _ C_law_pair hr g_law_reads__law_pair (@pa_cons _ _ _ _ _ (@pe_ix _ _ _ _ _ _ _ (@ix_tup _) (@pe_var _ 0 _ _ rfl v_law_reads_0 dn__law_told dc__law_told) (@pe_int _ _ _ _) (fun _ _ => rfl)) (@pa_nil _) (star1 rfl)) (by omega) dn__law_pair (star1 rfl) nost0) (swap1 rfl) (.inl rfl)) (@pss_cons _ _ _ _ _ (@ps_if _ _ _ _ _ _ _ _ (@pt_cmpR _ _ _ _ _ _ _ _ (@op_eq _) (@pe_ix _ _ _ _ _ _ _ (@ix_tup _) (@pe_var _ 3 _ _ rfl v_law_reads_3 dn__law_reason_here dc__law_reason_here) (@pe_int _ _ _ _) (fun _ _ => rfl)) (@pe_ix _ _ _ _ _ _ _ (@ix_list _) (@pe_var _ 4 _ _ rfl v_law_reads_4 dn__law_pair_here dc__law_pair_here) (@pe_int _ _ _ _) (fun _ _ => rfl)) (nomark _)) (@pss_cons _ _ _ _ _ (@ps_set _ _ 5 _ _ _ _ sc_law_reads.nd rfl l_law_reads_5 (@pe_callC _ _ _ _ _ _ _ _ _ _ _ C_law_reads hr g_law_reads__law_reads (@pa_cons _ _ _ _ _ (@pe_ix _ _ _ _ _ _ _ (@ix_tup _) (@pe_var _ 0 _ _ rfl v_law_reads_0 dn__law_told dc__law_told) (@pe_int _ _ _ _) (fun _ _ => rfl)) (@pa_cons _ _ _ _ _ (@pe_var _ 1 _ _ rfl v_law_reads_1 dn__law_kinds_here dc__law_kinds_here) (@pa_cons _ _ _ _ _ (@pe_var _ 2 _ _ rfl v_law_reads_2 dn__law_look_here dc__law_look_here) (@pa_cons _ _ _ _ _ (@pe_ix _ _ _ _ _ _ _ (@ix_tup _) (@pe_var _ 3 _ _ rfl v_law_reads_3 dn__law_reason_here dc__law_reason_here) (@pe_int _ _ _ _) (fun _ _ => rfl)) (@pa_nil _) (star1 rfl)) (star1 rfl)) (star1 rfl)) (star1 rfl)) (by omega) dn__law_reads (star1 rfl) (nost1 rfl (nost1 rfl (nost1 rfl nost0)))) (swap1 rfl) (.inl rfl)) (@pss_cons _ _ _ _ _ (@ps_set _ _ 6 _ _ _ _ sc_law_reads.nd rfl l_law_reads_6 (@pe_callC _ _ _ _ _ _ _ _ _ _ _ C_law_reads hr g_law_reads__law_reads (@pa_cons _ _ _ _ _ (@pe_ix _ _ _ _ _ _ _ (@ix_tup _) (@pe_var _ 0 _ _ rfl v_law_reads_0 dn__law_told dc__law_told) (@pe_int _ _ _ _) (fun _ _ => rfl)) (@pa_cons _ _ _ _ _ (@pe_var _ 1 _ _ rfl v_law_reads_1 dn__law_kinds_here dc__law_kinds_here) (@pa_cons _ _ _ _ _ (@pe_var _ 2 _ _ rfl v_law_reads_2 dn__law_look_here dc__law_look_here) (@pa_cons _ _ _ _ _ (@pe_ix _ _ _ _ _ _ _ (@ix_tup _) (@pe_var _ 3 _ _ rfl v_law_reads_3 dn__law_reason_here dc__law_reason_here) (@pe_int _ _ _ _) (fun _ _ => rfl)) (@pa_nil _) (star1 rfl)) (star1 rfl)) (star1 rfl)) (star1 rfl)) (by omega) dn__law_reads (star1 rfl) (nost1 rfl (nost1 rfl (nost1 rfl nost0)))) (swap1 rfl) (.inl rfl)) (@pss_cons _ _ _ _ _ (@ps_if _ _ _ _ _ _ _ _ (@PW.pt _ _ _ (@pw_or _ _ _ _ _ _ _ (@pt_cmpR _ _ _ _ _ _ _ _ (@op_isN _) (@pe_var _ 5 _ _ rfl v_law_reads_5 dn__law_one dc__law_one) (@pe_non _ _ _) (nomark _)) (@pw_or _ _ _ _ _ _ _ (@pt_cmpR _ _ _ _ _ _ _ _ (@op_isN _) (@pe_var _ 6 _ _ rfl v_law_reads_6 dn__law_other dc__law_other) (@pe_non _ _ _) (nomark _)) (@pw_or _ _ _ _ _ _ _ (@pt_cmpR _ _ _ _ _ _ _ _ (@op_ne _) (@pe_var _ 5 _ _ rfl v_law_reads_5 dn__law_one dc__law_one) (@pe_ix _ _ _ _ _ _ _ (@ix_list _) (@pe_var _ 4 _ _ rfl v_law_reads_4 dn__law_pair_here dc__law_pair_here) (@pe_int _ _ _ _) (fun _ _ => rfl)) (nomark _)) (@pw_or1 _ _ _ _ (@pt_cmpR _ _ _ _ _ _ _ _ (@op_ne _) (@pe_var _ 6 _ _ rfl v_law_reads_6 dn__law_other dc__law_other) (@pe_ix _ _ _ _ _ _ _ (@ix_list _) (@pe_var _ 4 _ _ rfl v_law_reads_4 dn__law_pair_here dc__law_pair_here) (@pe_int _ _ _ _) (fun _ _ => rfl)) (nomark _))))))) (@pss_one _ _ _ (@ps_ret _ _ _ _ (@pe_non _ _ _))) (@pss_nil _)) (@pss_one _ _ _ (@ps_ret _ _ _ _ (@pe_ix _ _ _ _ _ _ _ (@ix_tup _) (@pe_var _ 3 _ _ rfl v_law_reads_3 dn__law_reason_here dc__law_reason_here) (@pe_int _ _ _ _) (fun _ _ => rfl))))))) (@pss_nil _)) (@pss_cons _ _ _ _ _ (@ps_set _ _ 7 _ _ _ _ sc_law_reads.nd rfl l_law_reads_7 (@pe_ix _ _ _ _ _ _ _ (@ix_tup _) (@pe_var _ 3 _ _ rfl v_law_reads_3 dn__law_reason_here dc__law_reason_here) (@pe_int _ _ _ _) (fun _ _ => rfl)) (swap1 rfl) (.inl rfl)) (@pss_cons _ _ _ _ _ (@ps_if _ _ _ _ _ _ _ _ (@PW.pt _ _ _ (@pw_or _ _ _ _ _ _ _ (@pt_not _ _ _ _ (@pt_val _ _ _ (@pe_callC _ _ _ _ _ _ _ _ _ _ _ C_law_whole hr g_law_reads__law_whole (@pa_cons _ _ _ _ _ (@pe_var _ 7 _ _ rfl v_law_reads_7 dn__law_side dc__law_side) (@pa_nil _) (star1 rfl)) (by omega) dn__law_whole (star1 rfl) nost0) (test1 rfl))) (@pw_or _ _ _ _ _ _ _ (@pt_cmpR _ _ _ _ _ _ _ _ (@op_lt _) (@pe_var _ 7 _ _ rfl v_law_reads_7 dn__law_side dc__law_side) (@pe_int _ _ _ _) (nomark _)) (@pw_or1 _ _ _ _ (@pt_cmpR _ _ _ _ _ _ _ _ (@op_gt _) (@pe_var _ 7 _ _ rfl v_law_reads_7 dn__law_side dc__law_side) (@pe_int _ _ _ _) (nomark _)))))) (@pss_one _ _ _ (@ps_ret _ _ _ _ (@pe_non _ _ _))) (@pss_nil _)) (@pss_cons _ _ _ _ _ (@ps_set _ _ 8 _ _ _ _ sc_law_reads.nd rfl l_law_reads_8 (@pe_callC _ _ _ _ _ _ _ _ _ _ _ C_law_reads hr g_law_reads__law_reads (@pa_cons _ _ _ _ _ (@pe_ix _ _ _ _ _ _ _ (@ix_tup _) (@pe_var _ 0 _ _ rfl v_law_reads_0 dn__law_told dc__law_told) (@pe_op _ _ _ _ _ _ _ _ (@op_add _) (@pe_int _ _ _ _) (@pe_var _ 7 _ _ rfl v_law_reads_7 dn__law_side dc__law_side)) (fun _ _ => rfl)) (@pa_cons _ _ _ _ _ (@pe_var _ 1 _ _ rfl v_law_reads_1 dn__law_kinds_here dc__law_kinds_here) (@pa_cons _ _ _ _ _ (@pe_var _ 2 _ _ rfl v_law_reads_2 dn__law_look_here dc__law_look_here) (@pa_cons _ _ _ _ _ (@pe_ix _ _ _ _ _ _ _ (@ix_tup _) (@pe_var _ 3 _ _ rfl v_law_reads_3 dn__law_reason_here dc__law_reason_here) (@pe_int _ _ _ _) (fun _ _ => rfl)) (@pa_nil _) (star1 rfl)) (star1 rfl)) (star1 rfl)) (star1 rfl)) (by omega) dn__law_reads (star1 rfl) (nost1 rfl (nost1 rfl (nost1 rfl nost0)))) (swap1 rfl) (.inl rfl)) (@pss_cons _ _ _ _ _ (@ps_if _ _ _ _ _ _ _ _ (@PW.pt _ _ _ (@pw_or _ _ _ _ _ _ _ (@pt_cmpR _ _ _ _ _ _ _ _ (@op_isN _) (@pe_var _ 8 _ _ rfl v_law_reads_8 dn__law_shown dc__law_shown) (@pe_non _ _ _) (nomark _)) (@pw_or1 _ _ _ _ (@pt_cmpR _ _ _ _ _ _ _ _ (@op_eq _) (@pe_var _ 8 _ _ rfl v_law_reads_8 dn__law_shown dc__law_shown) (@pe_ix _ _ _ _ _ _ _ (@ix_list _) (@pe_var _ 4 _ _ rfl v_law_reads_4 dn__law_pair_here dc__law_pair_here) (@pe_op _ _ _ _ _ _ _ _ (@op_add _) (@pe_int _ _ _ _) (@pe_var _ 7 _ _ rfl v_law_reads_7 dn__law_side dc__law_side)) (fun _ _ => rfl)) (nomark _))))) (@pss_one _ _ _ (@ps_ret _ _ _ _ (@pe_non _ _ _))) (@pss_nil _)) (@pss_one _ _ _ (@ps_ret _ _ _ _ (@pe_ix _ _ _ _ _ _ _ (@ix_tup _) (@pe_var _ 3 _ _ rfl v_law_reads_3 dn__law_reason_here dc__law_reason_here) (@pe_int _ _ _ _) (fun _ _ => rfl))))))))))))), ?_⟩
  simp only [slots, Option.getD_some, Option.getD_none, tSeq, tAsg, gName, tOp, tC, tVar, tCB, tCons, tNil, tCall, rI0, tRet, tIfS, tTest, tB, tOr, tNot, tTup, tNext, rEq, rNe, rIsi, rIxL, rIxT, isi_non_bl, isi_non_int, isi_non_str, isi_non_lst, isi_non_tup, isi_bl_bl, isi_bl_int, isi_bl_str, isi_bl_lst, isi_bl_tup, isi_int_bl, isi_int_int, isi_int_str, isi_int_lst, isi_int_tup, isi_str_bl, isi_str_int, isi_str_str, isi_str_lst, isi_str_tup, isi_lst_bl, isi_lst_int, isi_lst_str, isi_lst_lst, isi_lst_tup, isi_tup_bl, isi_tup_int, isi_tup_str, isi_tup_lst, isi_tup_tup, isi_dct_bl, isi_dct_int, isi_dct_str, isi_dct_lst, isi_dct_tup, Kd_non, Kd_bl, Kd_int, Kd_str, sc_non_non, sc_non_int, sc_int_non, sc_non_bl, sc_bl_non, sc_non_str, sc_str_non, sc_int_int, sc_bl_bl, sc_str_str, sc_int_str, sc_str_int, sc_bl_str, sc_str_bl, decide_true, decide_false, tyK_int, tyK_bool, tyK_str, tyK_list, tyK_tuple, L2.start, cxK, Int.reduceToNat, List.map_cons, List.map_nil, List.length_cons, List.length_nil, Nat.reduceAdd, Nat.reduceSub, Nat.zero_add, List.replicate_succ, List.replicate_zero, List.cons_append, List.nil_append, List.append_nil, List.getElem?_cons_zero, List.getElem?_cons_succ, List.set_cons_zero, List.set_cons_succ, Option.some.injEq, V.int.injEq, V.bl.injEq, V.ref.injEq, V.str.injEq, V.ty.injEq, List.cons.injEq, exists_eq_left', exists_eq_left, exists_eq_right, exists_and_left, exists_and_right, and_true, true_and, and_assoc, exists_const, decide_eq_true_eq, Bool.not_eq_true', Bool.not_true, Bool.not_false, Bool.not_not, decide_eq_false_iff_not, ite_not, Bool.false_eq_true, if_true, if_false, reduceCtorEq, and_false, false_and, exists_false, or_false, false_or, ↓reduceIte, eq_self, reduceIte]
  cases Rv with
  | non => exact ⟨.non, rfl, q _ (Same.refl _)⟩
  | bl b => exact ⟨.bl, rfl, q _ (Same.refl _)⟩
  | int i => exact ⟨.int, rfl, q _ (Same.refl _)⟩
  | str z => exact ⟨.str, rfl, q _ (Same.refl _)⟩
  | lst T ra => exact ⟨.lst, .inl ⟨rfl, _, T⟩, q _ (Same.refl _)⟩
  | tup T ra =>
    refine ⟨.tup, .inr (.inl ⟨rfl, _, T⟩), ?_⟩
    rw [if_neg (by decide)]
    refine ⟨_, rfl, _, .inr T, ?_⟩
    cases ra with
    | nil => exact q _ (Same.refl _)
    | cons r0 rr =>
      cases rr with
      | nil =>
        rw [if_pos (by show (1 : Int) < 2; decide)]
        rw [rdV_short] at q
        exact q _ (Same.refl _)
      | cons r1 rr =>
        rw [if_neg (by rw [List.length_cons, List.length_cons]; omega)]
        refine ⟨_, rfl, _, T, _, at0, _, rep_kd r0, ?_⟩
        cases r0 with
        | non => exact q _ (Same.refl _)
        | int i => exact q _ (Same.refl _)
        | str z => exact q _ (Same.refl _)
        | lst T ra => exact q _ (Same.refl _)
        | tup T ra => exact q _ (Same.refl _)
        | bl b =>
          rw [if_neg (show ¬ isiB (dkn (.bool b)) .bl = false by show ¬ true = false; decide)]
          rcases told_jn R with ⟨dp1, wd, us, T', hin⟩ | ⟨wd, w0, w1, w2, t1, t2, x, y, T', jw, hin, s1, s2, okj, dpj, hrd⟩
          · have hin' := hin
            refine ⟨_, T', _, at0, by decide, fun p1 hp1 => ?_⟩
            obtain ⟨H2, g2, S2, T2⟩ := fresh_tup (K := K) hp1 [V.str (Str.ofString "both"), V.str (Str.ofString "either"), V.str (Str.ofString "but")]
            rw [← g2]
            clear g2
            refine ⟨p1, _, rfl, .inr T2, rfl, rfl, _, rfl, ?_⟩
            rw [if_pos (by rw [show (if true = true then !inV (V.str wd) _ else inV (V.str wd) _) = !false from congrArg Bool.not hin]; rfl)]
            exact ⟨t, kl, lt, _, n, ks, lk, b, _, _, rfl, R.same S2, ok, dp1, G.same S2, Rep.same S2 (.tup T (.cons (.bl b) (.cons r1 rr))), fun H' e => q H' (S2.trans e)⟩
          · obtain ⟨ok1, ok2⟩ := okj ok
            refine ⟨_, T', _, at0, by decide, fun p1 hp1 => ?_⟩
            obtain ⟨H2, g2, S2, T2⟩ := fresh_tup (K := K) hp1 [V.str (Str.ofString "both"), V.str (Str.ofString "either"), V.str (Str.ofString "but")]
            rw [← g2]
            clear g2
            refine ⟨p1, _, rfl, .inr T2, rfl, rfl, _, rfl, ?_⟩
            rw [if_neg (by rw [show (if true = true then !inV (V.str wd) _ else inV (V.str wd) _) = !true from congrArg Bool.not hin]; decide)]
            refine ⟨_, rfl, _, .inr (Same.tup S2 T), ?_⟩
            cases rr with
            | nil =>
              rw [if_neg (by show ¬ (2 : Int) = 3; decide)]
              rw [show rdV ks lk n (.tuple [.bool b, _]) = .non from by rw [rdV_one, hrd]; rfl] at q
              exact q _ S2
            | cons r2 rr =>
              cases rr with
              | cons r3 rr =>
                rw [if_neg (by rw [List.length_cons, List.length_cons, List.length_cons, List.length_cons]; omega)]
                rw [show rdV ks lk n (.tuple (.bool b :: _ :: _ :: _ :: _)) = .non from by show (if rdB ks lk n b _ = true then V.bl b else .non) = _; rw [hrd]; rfl] at q
                exact q _ S2
              | nil =>
                rename_i v1 u v2 z
                rw [if_pos (by rfl)]
                refine ⟨_, Same.tup S2 T', _, at0, wd, w0, w1, w2, rfl, jw, fun l H3 S3 hl => ?_⟩
                have S23 := S2.trans S3
                refine ⟨_, rfl, _, Same.tup S23 T, _, at0, _, rfl, _, SqL.of hl, _, at0, rfl, ?_⟩
                by_cases e : b = w0
                · rw [if_pos (by rw [e])]
                  have e8 : rdV ks lk n (.tuple [.bool b, u, z]) = if (sayF (rdB ks lk x) w1 u && sayF (rdB ks lk y) w2 z) = true then .bl b else .non := by
                    show (if rdB ks lk n b [u, z] = true then V.bl b else .non) = _
                    rw [hrd]
                    show (if (if b = w0 then _ else _) = true then V.bl b else .non) = _
                    rw [if_pos e]
                  rw [e8] at q
                  refine ⟨_, Same.tup S23 T', _, at1, _, rfl, _, Same.tup S23 T, _, at1, t1, kl, lt, _, x, ks, lk, u, rfl, s1.same S23, ok1, (by omega), G.same S23, r1.same S23, fun H4 S4 => ?_⟩
                  have S24 := S23.trans S4
                  refine ⟨_, Same.tup S24 T', _, at2, _, rfl, _, Same.tup S24 T, _, at2, t2, kl, lt, _, y, ks, lk, z, rfl, s2.same S24, ok2, (by omega), G.same S24, r2.same S24, fun H5 S5 => ?_⟩
                  have S25 := S24.trans S5
                  have hl5 := S5 _ _ (S4 _ _ hl)
                  dsimp only
                  rcases rdV_cases ks lk x u with ⟨a1, a2⟩ | ⟨c, a1, a2⟩
                  · rw [if_pos a1]
                    rw [a2, Bool.false_and] at q
                    exact q _ S25
                  rw [if_neg (by rw [a1]; exact fun z => by cases z)]
                  rcases rdV_cases ks lk y z with ⟨c1, c2⟩ | ⟨c', c1, c2⟩
                  · rw [if_pos c1]
                    rw [c2, Bool.and_false] at q
                    exact q _ S25
                  rw [if_neg (by rw [c1]; exact fun z => by cases z)]
                  refine ⟨_, rfl, _, SqL.of hl5, _, at1, (by rw [a1]; rfl), ?_⟩
                  by_cases h1 : c = w1
                  · rw [if_pos (by rw [a1, h1])]
                    refine ⟨_, rfl, _, SqL.of hl5, _, at2, (by rw [c1]; rfl), ?_⟩
                    by_cases h2 : c' = w2
                    · rw [if_pos (by rw [c1, h2])]
                      rw [a2, c2, decide_eq_true h1, decide_eq_true h2, if_pos (show (true && true) = true from rfl)] at q
                      exact ⟨_, rfl, _, Same.tup S25 T, _, at0, q _ S25⟩
                    · rw [if_neg (by rw [c1]; exact fun z => h2 (by injection z))]
                      rw [c2, decide_eq_false h2, Bool.and_false] at q
                      exact q _ S25
                  · rw [if_neg (by rw [a1]; exact fun z => h1 (by injection z))]
                    rw [a2, decide_eq_false h1, Bool.false_and] at q
                    exact q _ S25
                · rw [if_neg fun c => e (by injection c)]
                  have e8 : rdV ks lk n (.tuple [.bool b, u, z]) = if sideB w1 w2 (rdB ks lk x) (rdB ks lk y) z u = true then .bl b else .non := by
                    show (if rdB ks lk n b [u, z] = true then V.bl b else .non) = _
                    rw [hrd]
                    show (if (if b = w0 then _ else _) = true then V.bl b else .non) = _
                    rw [if_neg e]
                  rw [e8] at q
                  refine ⟨_, rfl, _, Same.tup S23 T, _, at1, _, _, rfl, rep_kd (r1.same S23), _, rfl, ?_⟩
                  cases r1 with
                  | non => exact q _ S23
                  | bl b => exact q _ S23
                  | str z => exact q _ S23
                  | lst a b => exact q _ S23
                  | tup a b => exact q _ S23
                  | int i =>
                    rw [if_neg (show ¬ wholeK (dkn (.int i)) = false by show ¬ true = false; decide)]
                    have no : ¬ (i = 0 ∨ i = 1) → sideB w1 w2 (rdB ks lk x) (rdB ks lk y) z (.int i) = false := fun h => by
                      show (if i = 0 then _ else if i = 1 then _ else false) = false
                      rw [if_neg (fun c => h (.inl c)), if_neg (fun c => h (.inr c))]
                    refine ⟨i, rfl, ?_⟩
                    by_cases h0 : i < 0
                    · rw [if_pos h0]
                      rw [no (by omega)] at q
                      exact q _ S23
                    rw [if_neg h0]
                    refine ⟨i, rfl, ?_⟩
                    by_cases h1 : 1 < i
                    · rw [if_pos h1]
                      rw [no (by omega)] at q
                      exact q _ S23
                    rw [if_neg h1]
                    rcases (show i = 0 ∨ i = 1 by omega) with rfl | rfl
                    · have e7 : sideB w1 w2 (rdB ks lk x) (rdB ks lk y) z (.int 0) = sayF (rdB ks lk x) (!w1) z := rfl
                      rw [e7] at q
                      refine ⟨0, rfl, _, Same.tup S23 T', _, (show atI [V.str wd, .ref t1, .ref t2] (1 + 0) = some (.ref t1) from at1), _, rfl, _, Same.tup S23 T, _, at2, t1, kl, lt, _, x, ks, lk, z, rfl, s1.same S23, ok1, (by omega), G.same S23, r2.same S23, fun H4 S4 => ?_⟩
                      have S24 := S23.trans S4
                      dsimp only
                      rcases rdV_cases ks lk x z with ⟨a1, a2⟩ | ⟨c, a1, a2⟩
                      · rw [if_pos a1]
                        rw [a2] at q
                        exact q _ S24
                      rw [if_neg (by rw [a1]; exact fun z => by cases z)]
                      refine ⟨0, rfl, _, rfl, _, SqL.of (S4 _ _ hl), _, (show atI [V.bl w0, .bl w1, .bl w2] (1 + 0) = some (.bl w1) from at1), (by rw [a1]; rfl), ?_⟩
                      by_cases hc : c = w1
                      · rw [if_pos (by rw [a1, hc])]
                        rw [a2, decide_eq_false (fun z => by rw [hc] at z; cases w1 <;> cases z)] at q
                        exact q _ S24
                      · rw [if_neg (by rw [a1]; exact fun z => hc (by injection z))]
                        rw [a2, decide_eq_true (show c = !w1 by cases c <;> cases w1 <;> first | rfl | exact absurd rfl hc), if_pos rfl] at q
                        exact ⟨_, rfl, _, Same.tup S24 T, _, at0, q _ S24⟩
                    · have e7 : sideB w1 w2 (rdB ks lk x) (rdB ks lk y) z (.int 1) = sayF (rdB ks lk y) (!w2) z := rfl
                      rw [e7] at q
                      refine ⟨1, rfl, _, Same.tup S23 T', _, (show atI [V.str wd, .ref t1, .ref t2] (1 + 1) = some (.ref t2) from at2), _, rfl, _, Same.tup S23 T, _, at2, t2, kl, lt, _, y, ks, lk, z, rfl, s2.same S23, ok2, (by omega), G.same S23, r2.same S23, fun H4 S4 => ?_⟩
                      have S24 := S23.trans S4
                      dsimp only
                      rcases rdV_cases ks lk y z with ⟨a1, a2⟩ | ⟨c, a1, a2⟩
                      · rw [if_pos a1]
                        rw [a2] at q
                        exact q _ S24
                      rw [if_neg (by rw [a1]; exact fun z => by cases z)]
                      refine ⟨1, rfl, _, rfl, _, SqL.of (S4 _ _ hl), _, (show atI [V.bl w0, .bl w1, .bl w2] (1 + 1) = some (.bl w2) from at2), (by rw [a1]; rfl), ?_⟩
                      by_cases hc : c = w2
                      · rw [if_pos (by rw [a1, hc])]
                        rw [a2, decide_eq_false (fun z => by rw [hc] at z; cases w2 <;> cases z)] at q
                        exact q _ S24
                      · rw [if_neg (by rw [a1]; exact fun z => hc (by injection z))]
                        rw [a2, decide_eq_true (show c = !w2 by cases c <;> cases w2 <;> first | rfl | exact absurd rfl hc), if_pos rfl] at q
                        exact ⟨_, rfl, _, Same.tup S24 T, _, at0, q _ S24⟩
theorem ok_law_reads (F : Fun K "_law_reads" "_law_reads" s_law_reads f fd) (M : Mg mg) (C_law_whole : Cal P w K mg base CX0 "_law_whole" 1 ["_law_found"] (spIsWhole K)) (C_law_pair : Cal P w K mg base CX0 "_law_pair" 1 ["_law_word"] (spPair K)) (C_law_reads_plain : Cal P w K mg base CX0 "_law_reads_plain" 3 ["_law_told", "_law_kinds_here", "_law_look_here", "_law_reason_here"] (spReadsP K)) (b : Binds K fd ["_law_told", "_law_kinds_here", "_law_look_here", "_law_reason_here"] []) (kp : PySem.W.keepIn K (.ref f) = true) (m : mg "_law_reads" = some (.ref f)) : ∀ d : Nat, FnOk P w K mg base CX0 (d + 3) f fd ["_law_told", "_law_kinds_here", "_law_look_here", "_law_reason_here"] (spReads K d)
  | 0 => by
    refine F.ok sc_law_reads (fun vs H Q E h => ?_) (fun cdv A outer s H vs Q E hr h => ?_)
    · obtain ⟨t, kl, lt, v, n, ks, lk, dt, rfl, _⟩ := h
      rfl
    obtain ⟨t, kl, lt, v, n, ks, lk, dt, rfl, R, ok, dp, G, Rv, q⟩ := h
    have := Nt.dp_pos n
    omega
  | d + 1 => step_reads (L := d) F M C_law_whole C_law_pair C_law_reads_plain ⟨⟨f, fd, ok_law_reads F M C_law_whole C_law_pair C_law_reads_plain b kp m d, b, kp, m⟩⟩
theorem step_reason {L d : Nat} (F : Fun K "_law_reason" "_law_reason" s_law_reason f fd) (M : Mg mg) (C_law_plain_claims : Cal P w K mg base CX0 "_law_plain_claims" 2 ["_law_told", "_law_kinds_here", "_law_look_here"] (spPlainC K)) (C_law_shows : Cal P w K mg base CX0 "_law_shows" 1 ["_law_told", "_law_kinds_here", "_law_look_here", "_law_k"] (spShows K)) (C_law_pair : Cal P w K mg base CX0 "_law_pair" 1 ["_law_word"] (spPair K)) (C_law_reason : Cal P w K mg base CX0 "_law_reason" (L + 3) ["_law_told", "_law_kinds_here", "_law_look_here"] (spReason K d)) : FnOk P w K mg base CX0 (L + 4) f fd ["_law_told", "_law_kinds_here", "_law_look_here"] (spReason K (d + 1)) := by
  refine F.ok sc_law_reason (fun vs H Q E h => ?_) (fun cdv A outer s H vs Q E hr h => ?_)
  · obtain ⟨t, kl, lt, n, ks, lk, rfl, _⟩ := h
    rfl
  obtain ⟨t, kl, lt, n, ks, lk, rfl, R, ok, dp, G, q⟩ := h
  refine ⟨_, (@pss_cons _ _ _ _ _ (@ps_if _ _ _ _ _ _ _ _ (@pt_cmpR _ _ _ _ _ _ _ _ op_in_seq (@pe_ix _ _ _ _ _ _ _ (@ix_tup _) (@pe_var _ 0 _ _ rfl v_law_reason_0 dn__law_told dc__law_told) (@pe_int _ _ _ _) (fun _ _ => rfl)) (@pe_tup _ _ _ _ _ (@pa_cons _ _ _ _ _ (@pe_str _ _ _ _) (@pa_cons _ _ _ _ _ (@pe_str _ _ _ _) (@pa_nil _) (star1 rfl)) (star1 rfl))) (by with_unfolding_all rfl)) (@pss_one _ _ _ (@ps_ret _ _ _ _ (@pe_tup _ _ _ _ _ (@pa_cons _ _ _ _ _ (@pe_callC _ _ _ _ _ _ _ _ _ _ _ C_law_plain_claims hr g_law_reason__law_plain_claims (@pa_cons _ _ _ _ _ (@pe_var _ 0 _ _ rfl v_law_reason_0 dn__law_told dc__law_told) (@pa_cons _ _ _ _ _ (@pe_var _ 1 _ _ rfl v_law_reason_1 dn__law_kinds_here dc__law_kinds_here) (@pa_cons _ _ _ _ _ (@pe_var _ 2 _ _ rfl v_law_reason_2 dn__law_look_here dc__law_look_here) (@pa_nil _) (star1 rfl)) (star1 rfl)) (star1 rfl)) (by omega) dn__law_plain_claims (star1 rfl) (nost1 rfl (nost1 rfl nost0))) (@pa_cons _ _ _ _ _ (@pe_non _ _ _) (@pa_nil _) (star1 rfl)) (star1 rfl))))) (@pss_nil _)) (@pss_cons _ _ _ _ _ (@ps_if _ _ _ _ _ _ _ _ (@pt_cmpR _ _ _ _ _ _ _ _ (@op_notIn_seq _) (@pe_ix _ _ _ _ _ _ _ (@ix_tup _) (@pe_var _ 0 _ _ rfl v_law_reason_0 dn__law_told dc__law_told) (@pe_int _ _ _ _) (fun _ _ => rfl)) (@pe_tup _ _ _ _ _ (@pa_cons _ _ _ _ _ (@pe_str _ _ _ _) (@pa_cons _ _ _ _ _ (@pe_str _ _ _ _) (@pa_cons _ _ _ _ _ (@pe_str _ _ _ _) (@pa_nil _) (star1 rfl)) (star1 rfl)) (star1 rfl))) (by with_unfolding_all rfl)) (@pss_cons _ _ _ _ _ (@ps_setComp _ _ _ _ _ _ _ _ _ _ _ _ _ _ _ 3 _ _ _ sc_law_reason.nd rfl l_law_reason_3 rfl (CompOk.make (N' := ["_law_told", "_law_kinds_here", "_law_look_here", "_law_k"]) (ix := [0, 1, 2]) (nl := 1) (by rfl) (fm1 rfl (fm1 rfl (fm1 rfl fm0))) (by rfl) (by decide +kernel) rfl (by decide +kernel) rfl (And.intro ⟨rfl, .inl rfl, .inl rfl⟩ (And.intro ⟨rfl, .inl rfl, .inl rfl⟩ (And.intro ⟨rfl, .inl rfl, .inl rfl⟩ True.intro)))) (@pi_range1 _ _ _ _ _ _ g_law_reason_range M.m_range (@pa_cons _ _ _ _ _ (@pe_callB _ _ _ _ _ _ _ _ _ call_len_seq g_law_reason_len M.m_len b_len (@pa_cons _ _ _ _ _ (@pe_var _ 1 _ _ rfl v_law_reason_1 dn__law_kinds_here dc__law_kinds_here) (@pa_nil _) (star1 rfl)) nn_len dn_len (star1 rfl) nost0) (@pa_nil _) (star1 rfl)) (star1' rfl)) (fun _ _ _ _ _ => (@pg_name _ _ 3 _ (show List.Nodup (["_law_told", "_law_kinds_here", "_law_look_here", "_law_k"] : List Str) from by decide) rfl (Or.inl rfl) (by first | exact .inl rfl | exact .inr rfl | assumption))) (fun _ _ _ _ _ => (@pif_one _ _ _ (@pt_val _ _ _ (@pe_callC _ _ _ _ _ _ _ _ _ _ _ C_law_shows hr rfl (@pa_cons _ _ _ _ _ (@pv _ 0 _ _ (by rfl) (by first | exact Or.inl rfl | exact Or.inr (Or.inl rfl) | exact Or.inr (Or.inr rfl)) (by decide) (by decide)) (@pa_cons _ _ _ _ _ (@pv _ 1 _ _ (by rfl) (by first | exact Or.inl rfl | exact Or.inr (Or.inl rfl) | exact Or.inr (Or.inr rfl)) (by decide) (by decide)) (@pa_cons _ _ _ _ _ (@pv _ 2 _ _ (by rfl) (by first | exact Or.inl rfl | exact Or.inr (Or.inl rfl) | exact Or.inr (Or.inr rfl)) (by decide) (by decide)) (@pa_cons _ _ _ _ _ (@pv _ 3 _ _ (by rfl) (by first | exact Or.inl rfl | exact Or.inr (Or.inl rfl) | exact Or.inr (Or.inr rfl)) (by decide) (by decide)) (@pa_nil _) (star1 rfl)) (star1 rfl)) (star1 rfl)) (star1 rfl)) (by omega) dn__law_shows (star1 rfl) (nost1 rfl (nost1 rfl (nost1 rfl nost0)))) (test1 rfl)))) (fun _ _ _ _ _ => (@pv _ 3 _ _ (by rfl) (by first | exact Or.inl rfl | exact Or.inr (Or.inl rfl) | exact Or.inr (Or.inr rfl)) (by decide) (by decide))) (by rfl) (by intro _; rfl) (by first | exact .inl rfl | exact .inr rfl | assumption)) (@pss_cons _ _ _ _ _ (@ps_if _ _ _ _ _ _ _ _ (@pt_cmpR _ _ _ _ _ _ _ _ (@op_gt _) (@pe_callB _ _ _ _ _ _ _ _ _ call_len_seq g_law_reason_len M.m_len b_len (@pa_cons _ _ _ _ _ (@pe_var _ 3 _ _ rfl v_law_reason_3 dn__law_places dc__law_places) (@pa_nil _) (star1 rfl)) nn_len dn_len (star1 rfl) nost0) (@pe_int _ _ _ _) (nomark _)) (@pss_one _ _ _ (@ps_ret _ _ _ _ (@pe_tup _ _ _ _ _ (@pa_cons _ _ _ _ _ (@pe_bl _ _ _ _) (@pa_cons _ _ _ _ _ (@pe_ix _ _ _ _ _ _ _ (@ix_list _) (@pe_var _ 3 _ _ rfl v_law_reason_3 dn__law_places dc__law_places) (@pe_un _ _ _ _ _ _ (@un_neg _) (@pe_int _ _ _ _)) (fun _ _ => rfl)) (@pa_nil _) (star1 rfl)) (star1 rfl))))) (@pss_nil _)) (@pss_one _ _ _ (@ps_ret _ _ _ _ (@pe_tup _ _ _ _ _ (@pa_cons _ _ _ _ _ (@pe_bl _ _ _ _) (@pa_cons _ _ _ _ _ (@pe_non _ _ _) (@pa_nil _) (star1 rfl)) (star1 rfl))))))) (@pss_nil _)) (@pss_cons _ _ _ _ _ (@ps_set _ _ 4 _ _ _ _ sc_law_reason.nd rfl l_law_reason_4 (@pe_callC _ _ _ _ _ _ _ _ _ _ _ C_law_reason hr g_law_reason__law_reason (@pa_cons _ _ _ _ _ (@pe_ix _ _ _ _ _ _ _ (@ix_tup _) (@pe_var _ 0 _ _ rfl v_law_reason_0 dn__law_told dc__law_told) (@pe_int _ _ _ _) (fun _ _ => rfl)) (@pa_cons _ _ _ _ _ (@pe_var _ 1 _ _ rfl v_law_reason_1 dn__law_kinds_here dc__law_kinds_here) (@pa_cons _ _ _ _ _ (@pe_var _ 2 _ _ rfl v_law_reason_2 dn__law_look_here dc__law_look_here) (@pa_nil _) (star1 rfl)) (star1 rfl)) (star1 rfl)) (by omega) dn__law_reason (star1 rfl) (nost1 rfl (nost1 rfl nost0))) (swap1 rfl) (.inl rfl)) (@pss_cons _ _ _ _ _ (@ps_set _ _ 5 _ _ _ _ sc_law_reason.nd rfl l_law_reason_5 (@pe_callC _ _ _ _ _ _ _ _ _ _ _ C_law_reason hr g_law_reason__law_reason (@pa_cons _ _ _ _ _ (@pe_ix _ _ _ _ _ _ _ (@ix_tup _) (@pe_var _ 0 _ _ rfl v_law_reason_0 dn__law_told dc__law_told) (@pe_int _ _ _ _) (fun _ _ => rfl)) (@pa_cons _ _ _ _ _ (@pe_var _ 1 _ _ rfl v_law_reason_1 dn__law_kinds_here dc__law_kinds_here) (@pa_cons _ _ _ _ _ (@pe_var _ 2 _ _ rfl v_law_reason_2 dn__law_look_here dc__law_look_here) (@pa_nil _) (star1 rfl)) (star1 rfl)) (star1 rfl)) (by omega) dn__law_reason (star1 rfl) (nost1 rfl (nost1 rfl nost0))) (swap1 rfl) (.inl rfl)) (@pss_cons _ _ _ _ _ (@ps_set _ _ 6 _ _ _ _ sc_law_reason.nd rfl l_law_reason_6 (@pe_callC _ _ _ _ _ _ _ _ _ _ _ C_law_pair hr g_law_reason__law_pair (@pa_cons _ _ _ _ _ (@pe_ix _ _ _ _ _ _ _ (@ix_tup _) (@pe_var _ 0 _ _ rfl v_law_reason_0 dn__law_told dc__law_told) (@pe_int _ _ _ _) (fun _ _ => rfl)) (@pa_nil _) (star1 rfl)) (by omega) dn__law_pair (star1 rfl) nost0) (swap1 rfl) (.inl rfl)) (@pss_cons _ _ _ _ _ (@ps_if _ _ _ _ _ _ _ _ (@pt_cmpR _ _ _ _ _ _ _ _ (@op_ne _) (@pe_ix _ _ _ _ _ _ _ (@ix_tup _) (@pe_var _ 5 _ _ rfl v_law_reason_5 dn__law_other dc__law_other) (@pe_int _ _ _ _) (fun _ _ => rfl)) (@pe_ix _ _ _ _ _ _ _ (@ix_list _) (@pe_var _ 6 _ _ rfl v_law_reason_6 dn__law_pair_here dc__law_pair_here) (@pe_int _ _ _ _) (fun _ _ => rfl)) (nomark _)) (@pss_one _ _ _ (@ps_ret _ _ _ _ (@pe_tup _ _ _ _ _ (@pa_cons _ _ _ _ _ (@pe_not _ _ _ _ (@pe_ix _ _ _ _ _ _ _ (@ix_list _) (@pe_var _ 6 _ _ rfl v_law_reason_6 dn__law_pair_here dc__law_pair_here) (@pe_int _ _ _ _) (fun _ _ => rfl))) (@pa_cons _ _ _ _ _ (@pe_int _ _ _ _) (@pa_cons _ _ _ _ _ (@pe_var _ 5 _ _ rfl v_law_reason_5 dn__law_other dc__law_other) (@pa_nil _) (star1 rfl)) (star1 rfl)) (star1 rfl))))) (@pss_nil _)) (@pss_cons _ _ _ _ _ (@ps_if _ _ _ _ _ _ _ _ (@pt_cmpR _ _ _ _ _ _ _ _ (@op_ne _) (@pe_ix _ _ _ _ _ _ _ (@ix_tup _) (@pe_var _ 4 _ _ rfl v_law_reason_4 dn__law_one dc__law_one) (@pe_int _ _ _ _) (fun _ _ => rfl)) (@pe_ix _ _ _ _ _ _ _ (@ix_list _) (@pe_var _ 6 _ _ rfl v_law_reason_6 dn__law_pair_here dc__law_pair_here) (@pe_int _ _ _ _) (fun _ _ => rfl)) (nomark _)) (@pss_one _ _ _ (@ps_ret _ _ _ _ (@pe_tup _ _ _ _ _ (@pa_cons _ _ _ _ _ (@pe_not _ _ _ _ (@pe_ix _ _ _ _ _ _ _ (@ix_list _) (@pe_var _ 6 _ _ rfl v_law_reason_6 dn__law_pair_here dc__law_pair_here) (@pe_int _ _ _ _) (fun _ _ => rfl))) (@pa_cons _ _ _ _ _ (@pe_int _ _ _ _) (@pa_cons _ _ _ _ _ (@pe_var _ 4 _ _ rfl v_law_reason_4 dn__law_one dc__law_one) (@pa_nil _) (star1 rfl)) (star1 rfl)) (star1 rfl))))) (@pss_nil _)) (@pss_one _ _ _ (@ps_ret _ _ _ _ (@pe_tup _ _ _ _ _ (@pa_cons _ _ _ _ _ (@pe_ix _ _ _ _ _ _ _ (@ix_list _) (@pe_var _ 6 _ _ rfl v_law_reason_6 dn__law_pair_here dc__law_pair_here) (@pe_int _ _ _ _) (fun _ _ => rfl)) (@pa_cons _ _ _ _ _ (@pe_var _ 4 _ _ rfl v_law_reason_4 dn__law_one dc__law_one) (@pa_cons _ _ _ _ _ (@pe_var _ 5 _ _ rfl v_law_reason_5 dn__law_other dc__law_other) (@pa_nil _) (star1 rfl)) (star1 rfl)) (star1 rfl)))))))))))), ?_⟩
  simp only [tComp_eq, tComp1, slots, Option.getD_some, Option.getD_none, tSeq, tAsg, gName, tOp, tUn, tC, tVar, tCB, tCons, tNil, tCall, rI0, rU, tRet, tIfS, tTest, tB, tNotV, tTup, tNext, rNe, rIxL, rIxT, Kd_non, Kd_bl, Kd_int, Kd_str, sc_non_non, sc_non_int, sc_int_non, sc_non_bl, sc_bl_non, sc_non_str, sc_str_non, sc_int_int, sc_bl_bl, sc_str_str, sc_int_str, sc_str_int, sc_bl_str, sc_str_bl, decide_true, decide_false, iRng1, L2.start, cxK, Int.reduceToNat, List.map_cons, List.map_nil, List.length_cons, List.length_nil, Nat.reduceAdd, Nat.reduceSub, Nat.zero_add, List.replicate_succ, List.replicate_zero, List.cons_append, List.nil_append, List.append_nil, List.getElem?_cons_zero, List.getElem?_cons_succ, List.set_cons_zero, List.set_cons_succ, Option.some.injEq, V.int.injEq, V.bl.injEq, V.ref.injEq, V.str.injEq, V.ty.injEq, List.cons.injEq, exists_eq_left', exists_eq_left, exists_eq_right, exists_and_left, exists_and_right, and_true, true_and, and_assoc, exists_const, decide_eq_true_eq, Bool.not_eq_true', Bool.not_true, Bool.not_false, Bool.not_not, decide_eq_false_iff_not, ite_not, Bool.false_eq_true, if_true, if_false, reduceCtorEq, and_false, false_and, exists_false, or_false, false_or, ↓reduceIte, eq_self, reduceIte]
  rcases told_jn R with ⟨dp1, wd', us', T', hin3⟩ | ⟨wd, w0, w1, w2, t1, t2, x, y, T', jw, hin, s1, s2, okj, dpj, hrd⟩
  · obtain ⟨wd, us, T, hw⟩ := told_wd R dp1
    refine ⟨_, T, _, at0, by decide, fun p1 hp1 => ?_⟩
    obtain ⟨H2, g2, S2, T2⟩ := fresh_tup (K := K) hp1 [V.str (Str.ofString "any"), V.str (Str.ofString "over")]
    rw [← g2]
    clear g2
    refine ⟨p1, _, rfl, .inr T2, rfl, rfl, _, rfl, ?_⟩
    rcases hw with ⟨ao, hin⟩ | ⟨on, hin⟩
    · rw [if_pos (by exact hin)]
      exact ⟨t, kl, lt, n, ks, lk, rfl, R.same S2, ok, dp1, G.same S2, fun H3 S3 => ⟨by decide, fun p hp => q p _ (claimsB ks lk n) [.none] (S2.trans (S3.trans (same_new hp _))) (.tup (SqT.of upd_same) (.cons (.bl _) (.cons .non .nil))) (by rw [ao_rd ao, decide_eq_true rfl]; rfl) (.two (.inl rfl))⟩⟩
    · rw [if_neg (by rw [show (if false = true then _ else inV (V.str wd) _) = false from hin]; decide)]
      have SA := S2
      refine ⟨_, (Same.tup SA T'), _, at0, by decide, fun p1 hp1 => ?_⟩
      obtain ⟨H2, g2, S2, T2⟩ := fresh_tup (K := K) hp1 [V.str (Str.ofString "both"), V.str (Str.ofString "either"), V.str (Str.ofString "but")]
      rw [← g2]
      clear g2
      refine ⟨p1, _, rfl, .inr T2, rfl, rfl, _, rfl, ?_⟩
      rw [if_pos (by rw [show (if true = true then !inV (V.str wd') _ else inV (V.str wd') _) = !false from congrArg Bool.not hin3]; rfl)]
      have S02 := SA.trans S2
      obtain ⟨kx, L, A⟩ := G.kx
      have lx := A.length
      have l4 := G.le
      refine ⟨kx, .inl (S02.seq L), by omega, by omega, fun D hD => ?_⟩
      obtain ⟨Pc, hC⟩ : ∃ Pc : Nat → St → Hp → Prop, Pc = fun i τ H' => ∃ (z : Option V) (xs : List V), H' D = some (.lst xs) ∧ xs.length ≤ i ∧ xs = plcTo ks lk (showsB lk n) i ∧ Same H2 H' ∧ τ = [some (V.ref t), some (V.ref kl), some (V.ref lt), z] := ⟨_, rfl⟩
      refine compS_range Pc ?_ ?_ ?_
      · rw [hC]
        exact ⟨_, [], upd_same, Nat.le_refl _, rfl, same_new hD _, rfl⟩
      · intro i τ H' R' hi h next
        rw [hC] at h
        obtain ⟨z, xs, d1, d2, d3, d4, rfl⟩ := h
        have hik : i < ks.length := by omega
        have ek : ks[i]? = some ks[i] := List.getElem?_eq_getElem hik
        obtain ⟨x, e1, e2, mm, nn⟩ := G.at ek
        have stp := plcTo_succ (p := showsB lk n) ek e1
        simp only [tComp_eq, tComp1, slots, Option.getD_some, Option.getD_none, tSeq, tAsg, gName, tOp, tUn, tC, tVar, tCB, tCons, tNil, tCall, rI0, rU, tRet, tIfS, tTest, tB, tNotV, tTup, tNext, rNe, rIxL, rIxT, Kd_non, Kd_bl, Kd_int, Kd_str, sc_non_non, sc_non_int, sc_int_non, sc_non_bl, sc_bl_non, sc_non_str, sc_str_non, sc_int_int, sc_bl_bl, sc_str_str, sc_int_str, sc_str_int, sc_bl_str, sc_str_bl, decide_true, decide_false, iRng1, L2.start, cxK, Int.reduceToNat, List.map_cons, List.map_nil, List.length_cons, List.length_nil, Nat.reduceAdd, Nat.reduceSub, Nat.zero_add, List.replicate_succ, List.replicate_zero, List.cons_append, List.nil_append, List.append_nil, List.getElem?_cons_zero, List.getElem?_cons_succ, List.set_cons_zero, List.set_cons_succ, Option.some.injEq, V.int.injEq, V.bl.injEq, V.ref.injEq, V.str.injEq, V.ty.injEq, List.cons.injEq, exists_eq_left', exists_eq_left, exists_eq_right, exists_and_left, exists_and_right, and_true, true_and, and_assoc, exists_const, decide_eq_true_eq, Bool.not_eq_true', Bool.not_true, Bool.not_false, Bool.not_not, decide_eq_false_iff_not, ite_not, Bool.false_eq_true, if_true, if_false, reduceCtorEq, and_false, false_and, exists_false, or_false, false_or, ↓reduceIte, eq_self, reduceIte]
        have S04 := S02.trans d4
        refine ⟨t, kl, lt, i, n, ks, lk, ks[i], x, by rw [Int.zero_add], R.same S04, on, G.same S04, ek, e1, fun H3 S3 => ?_⟩
        have nx : ∀ (xs' : List V) (H4 : Hp), H4 D = some (.lst xs') → xs'.length ≤ i + 1 → xs' = plcTo ks lk (showsB lk n) (i + 1) → Same H2 H4 → R' [some (V.ref t), some (V.ref kl), some (V.ref lt), some (.int (0 + (i : Int)))] H4 := fun xs' H4 a1 a2 a3 a4 => next _ _ (by rw [hC]; exact ⟨_, _, a1, a2, a3, a4, rfl⟩)
        simp only [tComp_eq, tComp1, slots, Option.getD_some, Option.getD_none, tSeq, tAsg, gName, tOp, tUn, tC, tVar, tCB, tCons, tNil, tCall, rI0, rU, tRet, tIfS, tTest, tB, tNotV, tTup, tNext, rNe, rIxL, rIxT, Kd_non, Kd_bl, Kd_int, Kd_str, sc_non_non, sc_non_int, sc_int_non, sc_non_bl, sc_bl_non, sc_non_str, sc_str_non, sc_int_int, sc_bl_bl, sc_str_str, sc_int_str, sc_str_int, sc_bl_str, sc_str_bl, decide_true, decide_false, iRng1, L2.start, cxK, Int.reduceToNat, List.map_cons, List.map_nil, List.length_cons, List.length_nil, Nat.reduceAdd, Nat.reduceSub, Nat.zero_add, List.replicate_succ, List.replicate_zero, List.cons_append, List.nil_append, List.append_nil, List.getElem?_cons_zero, List.getElem?_cons_succ, List.set_cons_zero, List.set_cons_succ, Option.some.injEq, V.int.injEq, V.bl.injEq, V.ref.injEq, V.str.injEq, V.ty.injEq, List.cons.injEq, exists_eq_left', exists_eq_left, exists_eq_right, exists_and_left, exists_and_right, and_true, true_and, and_assoc, exists_const, decide_eq_true_eq, Bool.not_eq_true', Bool.not_true, Bool.not_false, Bool.not_not, decide_eq_false_iff_not, ite_not, Bool.false_eq_true, if_true, if_false, reduceCtorEq, and_false, false_and, exists_false, or_false, false_or, ↓reduceIte, eq_self, reduceIte]
        have d1' := S3 _ _ d1
        have d4' := d4.trans S3
        by_cases hs : showsB lk n ks[i] x = true
        · rw [if_pos hs]
          exact ⟨_, d1', Nat.lt_of_le_of_lt d2 (Nat.lt_of_lt_of_le (m := 64) (by omega) (by decide)), nx _ _ upd_same (by rw [List.length_append]; simp; omega) (by rw [stp, if_pos hs, d3, Int.zero_add]) (same_upd d4' hD _)⟩
        · rw [if_neg hs]
          exact nx _ _ d1' (by omega) (by rw [stp, if_neg hs, d3, List.append_nil]) d4'
      · intro τ H' h
        rw [hC] at h
        obtain ⟨z, xs, d1, d2, d3, d4, rfl⟩ := h
        rw [show ((kx.length : Nat) : Int).toNat = ks.length by omega] at d3
        have S04 := S02.trans d4
        refine ⟨_, rfl, xs, .inl (SqL.of d1), ?_⟩
        by_cases h0 : 0 < ((xs.length : Nat) : Int)
        · rw [if_pos h0]
          obtain ⟨j, k, x, e1, e2, e3, e4⟩ := plc_last (ks := ks) (lk := lk) (p := showsB lk n) (n := ks.length) (by rw [← d3]; omega)
          rw [← d3] at e1
          exact ⟨_, rfl, _, SqL.of d1, _, e1, by decide, fun p hp => q p _ true [.int j] (S04.trans (same_new hp _)) (.tup (SqT.of upd_same) (.cons (.bl _) (.cons (.int _) .nil))) (by rw [on_rd on]; exact atPl_iff.mpr ⟨j, k, x, rfl, e2, e3, e4⟩) (.two (.inr ⟨j, rfl, by omega, by have := (List.getElem?_eq_some_iff.mp e2).1; omega⟩))⟩
        · rw [if_neg h0]
          have em : anyAt ks lk (showsB lk n) = false := by
            have := plc_len (ks := ks) (lk := lk) (p := showsB lk n) G.len
            rw [← d3, decide_eq_true (by omega)] at this
            simpa using this.symm
          exact ⟨by decide, fun p hp => q p _ false [.none] (S04.trans (same_new hp _)) (.tup (SqT.of upd_same) (.cons (.bl _) (.cons .non .nil))) (by rw [on_rd on]; show (true && !(anyAt ks lk (showsB lk n))) = true; rw [em]; rfl) (.two (.inl rfl))⟩
  · obtain ⟨ok1, ok2⟩ := okj ok
    refine ⟨_, T', _, at0, by decide, fun p1 hp1 => ?_⟩
    obtain ⟨H2, g2, S2, T2⟩ := fresh_tup (K := K) hp1 [V.str (Str.ofString "any"), V.str (Str.ofString "over")]
    rw [← g2]
    clear g2
    refine ⟨p1, _, rfl, .inr T2, rfl, rfl, _, rfl, ?_⟩
    rw [if_neg (by rw [show (if false = true then _ else inV (V.str wd) _) = false from jw_ao jw]; decide)]
    have SA := S2
    refine ⟨_, (Same.tup SA T'), _, at0, by decide, fun p1 hp1 => ?_⟩
    obtain ⟨H2, g2, S2, T2⟩ := fresh_tup (K := K) hp1 [V.str (Str.ofString "both"), V.str (Str.ofString "either"), V.str (Str.ofString "but")]
    rw [← g2]
    clear g2
    refine ⟨p1, _, rfl, .inr T2, rfl, rfl, _, rfl, ?_⟩
    rw [if_neg (by rw [show (if true = true then !inV (V.str wd) _ else inV (V.str wd) _) = !true from congrArg Bool.not hin]; decide)]
    have S02 := SA.trans S2
    refine ⟨_, Same.tup S02 T', _, at1, t1, kl, lt, x, ks, lk, rfl, s1.same S02, ok1, (by omega), G.same S02, fun p3 H3 b3 r3 S3 R3 h3 o3 => ?_⟩
    have S03 := S02.trans S3
    refine ⟨_, Same.tup S03 T', _, at2, t2, kl, lt, y, ks, lk, rfl, s2.same S03, ok2, (by omega), G.same S03, fun p4 H4 b4 r4 S4 R4 h4 o4 => ?_⟩
    have S04 := S03.trans S4
    refine ⟨_, Same.tup S04 T', _, at0, wd, w0, w1, w2, rfl, jw, fun l H5 S5 hl => ?_⟩
    have S05 := S04.trans S5
    have R3' := R3.same (S4.trans S5)
    have R4' := R4.same S5
    obtain ⟨a3, xs3, ea3, T3, ra3⟩ := rep_tupV R3'
    obtain ⟨v3, ys3, rfl, q3, _⟩ := rep_cons ra3
    cases rep_bool q3
    obtain ⟨a4, xs4, ea4, T4, ra4⟩ := rep_tupV R4'
    obtain ⟨v4, ys4, rfl, q4, _⟩ := rep_cons ra4
    cases rep_bool q4
    cases ea3
    cases ea4
    refine ⟨_, rfl, _, T4, _, at0, _, rfl, _, SqL.of hl, _, at2, rfl, ?_⟩
    by_cases e4 : b4 = w2
    · rw [if_pos (by rw [e4])]
      refine ⟨_, rfl, _, T3, _, at0, _, rfl, _, SqL.of hl, _, at1, rfl, ?_⟩
      by_cases e3 : b3 = w1
      · rw [if_pos (by rw [e3])]
        refine ⟨_, rfl, _, SqL.of hl, _, at0, by decide, fun p hp => q p _ w0 [_, _] (S05.trans (same_new hp _)) (.tup (SqT.of upd_same) (.cons (.bl _) (.cons (R3'.same (same_new hp _)) (.cons (R4'.same (same_new hp _)) .nil)))) ?_ (.both o3 o4)⟩
        rw [hrd]
        show (if w0 = w0 then _ else _) = true
        rw [if_pos rfl]
        show ((rdB ks lk x b3 r3 && decide (b3 = w1)) && (rdB ks lk y b4 r4 && decide (b4 = w2))) = true
        rw [h3, h4, decide_eq_true e3, decide_eq_true e4]
        rfl
      · rw [if_neg fun z => e3 (by injection z)]
        refine ⟨_, rfl, _, SqL.of hl, _, at0, w0, rfl, by decide, fun p hp => q p _ (!w0) [.int 0, _] (S05.trans (same_new hp _)) (.tup (SqT.of upd_same) (.cons (.bl _) (.cons (.int _) (.cons (R3'.same (same_new hp _)) .nil)))) ?_ (.side (by decide) (by decide) o3)⟩
        rw [hrd]
        show (if (!w0) = w0 then _ else sayF (rdB ks lk x) (!w1) (.tuple (.bool b3 :: r3))) = true
        rw [if_neg (by cases w0 <;> decide)]
        show (rdB ks lk x b3 r3 && decide (b3 = !w1)) = true
        rw [h3, decide_eq_true (show b3 = !w1 by cases b3 <;> cases w1 <;> first | rfl | exact absurd rfl e3)]
        rfl
    · rw [if_neg fun z => e4 (by injection z)]
      refine ⟨_, rfl, _, SqL.of hl, _, at0, w0, rfl, by decide, fun p hp => q p _ (!w0) [.int 1, _] (S05.trans (same_new hp _)) (.tup (SqT.of upd_same) (.cons (.bl _) (.cons (.int _) (.cons (R4'.same (same_new hp _)) .nil)))) ?_ (.side (by decide) (by decide) o4)⟩
      rw [hrd]
      show (if (!w0) = w0 then _ else sayF (rdB ks lk y) (!w2) (.tuple (.bool b4 :: r4))) = true
      rw [if_neg (by cases w0 <;> decide)]
      show (rdB ks lk y b4 r4 && decide (b4 = !w2)) = true
      rw [h4, decide_eq_true (show b4 = !w2 by cases b4 <;> cases w2 <;> first | rfl | exact absurd rfl e4)]
      rfl
theorem ok_law_reason (F : Fun K "_law_reason" "_law_reason" s_law_reason f fd) (M : Mg mg) (C_law_plain_claims : Cal P w K mg base CX0 "_law_plain_claims" 2 ["_law_told", "_law_kinds_here", "_law_look_here"] (spPlainC K)) (C_law_shows : Cal P w K mg base CX0 "_law_shows" 1 ["_law_told", "_law_kinds_here", "_law_look_here", "_law_k"] (spShows K)) (C_law_pair : Cal P w K mg base CX0 "_law_pair" 1 ["_law_word"] (spPair K)) (b : Binds K fd ["_law_told", "_law_kinds_here", "_law_look_here"] []) (kp : PySem.W.keepIn K (.ref f) = true) (m : mg "_law_reason" = some (.ref f)) : ∀ d : Nat, FnOk P w K mg base CX0 (d + 3) f fd ["_law_told", "_law_kinds_here", "_law_look_here"] (spReason K d)
  | 0 => by
    refine F.ok sc_law_reason (fun vs H Q E h => ?_) (fun cdv A outer s H vs Q E hr h => ?_)
    · obtain ⟨t, kl, lt, n, ks, lk, rfl, _⟩ := h
      rfl
    obtain ⟨t, kl, lt, n, ks, lk, rfl, R, ok, dp, G, q⟩ := h
    have := Nt.dp_pos n
    omega
  | d + 1 => step_reason (L := d) F M C_law_plain_claims C_law_shows C_law_pair ⟨⟨f, fd, ok_law_reason F M C_law_plain_claims C_law_shows C_law_pair b kp m d, b, kp, m⟩⟩
end

def Dt (K : PySem.W.Frag) (H : Hp) (v : V) : Prop := ∃ d, Rep K H v d
theorem Dt.same {K : PySem.W.Frag} {H H' : Hp} {v : V} (h : Dt K H v) (e : Same H H') : Dt K H' v := let ⟨d, r⟩ := h; ⟨d, r.same e⟩
theorem dt_all {K : PySem.W.Frag} {H : Hp} : ∀ {xs : List V}, (∀ x ∈ xs, Dt K H x) → ∃ ds, RepAll K H xs ds
  | [], _ => ⟨[], .nil⟩
  | x :: xs, h => by
    obtain ⟨d, r⟩ := h x List.mem_cons_self
    obtain ⟨ds, rs⟩ := dt_all fun y hy => h y (List.mem_cons_of_mem _ hy)
    exact ⟨d :: ds, .cons r rs⟩
theorem dt_tup {K : PySem.W.Frag} {H : Hp} {a : Addr} {xs : List V} (T : SqT K H a xs) (h : ∀ x ∈ xs, Dt K H x) : Dt K H (.ref a) := let ⟨_, r⟩ := dt_all h; ⟨_, .tup T r⟩
theorem dt_lst {K : PySem.W.Frag} {H : Hp} {a : Addr} {xs : List V} (T : SqL K H a xs) (h : ∀ x ∈ xs, Dt K H x) : Dt K H (.ref a) := let ⟨_, r⟩ := dt_all h; ⟨_, .lst T r⟩
theorem rep_dt {K : PySem.W.Frag} {H : Hp} : ∀ {xs : List V} {ds : List PyData}, RepAll K H xs ds → ∀ x ∈ xs, Dt K H x
  | _, _, .nil, x, h => by cases h
  | _, _, .cons r rs, x, h => by
    rcases List.mem_cons.mp h with rfl | h
    · exact ⟨_, r⟩
    · exact rep_dt rs x h
def spPut (K : PySem.W.Frag) : Sp := fun vs H Q _ => ∃ (v : V) (c : Int) (d : PyData), vs = [v, .int c] ∧ Rep K H v d ∧ (lfOk d ∨ ∃ b, d = .bool b) ∧ ∀ v' H', Same H H' → Dt K H' v' → Q v' H'
def spTurned (K : PySem.W.Frag) : Sp := fun vs H Q _ => ∃ (a : Addr) (c : Int) (xs : List V), vs = [.ref a, .int c] ∧ SqT K H a xs ∧ (∀ x ∈ xs, Dt K H x) ∧ xs.length ≤ 3 ∧ ∀ v' H', Same H H' → Dt K H' v' → Q v' H'
def spSpoilt (K : PySem.W.Frag) (d : Nat) : Sp := fun vs H Q _ => ∃ (a : Addr) (c : Int) (dt : PyData), vs = [.ref a, .int c] ∧ Rep K H (.ref a) dt ∧ RsOk dt d ∧ ∀ v' H', Same H H' → Dt K H' v' → Q v' H'
def spWild (K : PySem.W.Frag) (d : Nat) : Sp := fun vs H Q _ => ∃ (t : Addr) (n : Nt) (c m : Int), vs = [.ref t, .int c, .int m] ∧ ToldAt K H (.ref t) n ∧ n.dp ≤ d ∧ 1 ≤ m ∧ m ≤ 4 ∧ ∀ v' H', Same H H' → Dt K H' v' → Q v' H'
theorem menu_at {L : List V} {i : Int} (h0 : 0 ≤ i) (h1 : i < L.length) : ∃ x ∈ L, L[i.toNat]? = some x :=
  ⟨L[i.toNat]'(by omega), List.getElem_mem _, List.getElem?_eq_getElem _⟩
theorem menu_dt {K : PySem.W.Frag} {H : Hp} {Q : VK} {L : List V} {i : Int} (h0 : 0 ≤ i) (h1 : i < L.length) (all : ∀ x ∈ L, Dt K H x) (q : ∀ x, Dt K H x → Q x H) : ∃ x, L[i.toNat]? = some x ∧ Q x H :=
  let ⟨x, m, e⟩ := menu_at h0 h1; ⟨x, e, q x (all x m)⟩
theorem dt1 {K : PySem.W.Frag} {H : Hp} {x : V} (hx : Dt K H x) : ∀ u ∈ [x], Dt K H u := by
  simp only [List.forall_mem_cons]
  exact ⟨hx, fun _ h => by cases h⟩
theorem dt2 {K : PySem.W.Frag} {H : Hp} {x y : V} (hx : Dt K H x) (hy : Dt K H y) : ∀ u ∈ [x, y], Dt K H u := by
  simp only [List.forall_mem_cons]
  exact ⟨hx, hy, fun _ h => by cases h⟩
theorem dt3 {K : PySem.W.Frag} {H : Hp} {x y z : V} (hx : Dt K H x) (hy : Dt K H y) (hz : Dt K H z) : ∀ u ∈ [x, y, z], Dt K H u := by
  simp only [List.forall_mem_cons]
  exact ⟨hx, hy, hz, fun _ h => by cases h⟩
theorem mem_cut {xs : List V} {lo hi : Option Int} {x : V} (h : x ∈ cutV xs lo hi) : x ∈ xs := List.mem_of_mem_drop (List.mem_of_mem_take h)
theorem dt_cat {K : PySem.W.Frag} {H : Hp} {xs ys : List V} (h1 : ∀ x ∈ xs, Dt K H x) (h2 : ∀ x ∈ ys, Dt K H x) : ∀ x ∈ xs ++ ys, Dt K H x := fun x m => by
  rcases List.mem_append.mp m with m | m
  · exact h1 x m
  · exact h2 x m
theorem dt_sames {K : PySem.W.Frag} {H H' : Hp} {xs : List V} (h : ∀ x ∈ xs, Dt K H x) (e : Same H H') : ∀ x ∈ xs, Dt K H' x := fun x m => (h x m).same e
theorem rs_parts {dt : PyData} {d : Nat} (o : RsOk dt (d + 1)) : ∃ ds, dt = .tuple ds ∧ 2 ≤ ds.length ∧ ds.length ≤ 3 ∧ ∀ e ∈ ds, RsOk e d ∨ (lfOk e ∨ ∃ b, e = .bool b) := by
  cases o with
  | two lf => exact ⟨_, rfl, by simp, by simp, by simp only [List.forall_mem_cons]; exact ⟨.inr (.inr ⟨_, rfl⟩), .inr (.inl lf), fun _ h => by cases h⟩⟩
  | side i0 i1 oy => exact ⟨_, rfl, by simp, by simp, by simp only [List.forall_mem_cons]; exact ⟨.inr (.inr ⟨_, rfl⟩), .inr (.inl (.inr ⟨_, rfl, i0, by omega⟩)), .inl oy, fun _ h => by cases h⟩⟩
  | both ox oy => exact ⟨_, rfl, by simp, by simp, by simp only [List.forall_mem_cons]; exact ⟨.inr (.inr ⟨_, rfl⟩), .inl ox, .inl oy, fun _ h => by cases h⟩⟩
theorem rs_tup {dt : PyData} {d : Nat} (o : RsOk dt d) : ∃ ds, dt = .tuple ds := by
  cases o <;> exact ⟨_, rfl⟩
theorem rep_at {K : PySem.W.Frag} {H : Hp} : ∀ {xs : List V} {ds : List PyData}, RepAll K H xs ds → xs.length = ds.length ∧ ∀ j : Nat, j < xs.length → ∃ x e, xs[j]? = some x ∧ e ∈ ds ∧ Rep K H x e
  | _, _, .nil => ⟨rfl, fun j h => by cases h⟩
  | _, _, .cons r rs => by
    obtain ⟨l, h⟩ := rep_at rs
    refine ⟨by rw [List.length_cons, List.length_cons, l], fun j hj => ?_⟩
    cases j with
    | zero => exact ⟨_, _, rfl, List.mem_cons_self, r⟩
    | succ j =>
      obtain ⟨x, e, h1, h2, h3⟩ := h j (by rw [List.length_cons] at hj; omega)
      exact ⟨x, e, h1, List.mem_cons_of_mem _ h2, h3⟩
section
variable {P : Program} {w : World} {K : PySem.W.Frag} {mg : Str → Option Value} {base : Heap} {f : Addr} {fd : FuncData}
theorem ok_law_put (F : Fun K "_law_put" "_law_put" s_law_put f fd) (M : Mg mg) : FnOk P w K mg base CX0 1 f fd ["_law_thing", "_law_cell_here"] (spPut K) := by
  refine F.ok sc_law_put (fun vs H Q E h => ?_) (fun cdv A outer s H vs Q E hr h => ?_)
  · obtain ⟨v, c, d, rfl, _⟩ := h
    rfl
  obtain ⟨v, c, d, rfl, R, lf, q⟩ := h
  refine ⟨_, (@pss_cons _ _ _ _ _ (@ps_if _ _ _ _ _ _ _ _ (@pt_val _ _ _ (@pe_callB _ _ _ _ _ _ _ _ _ call_isi g_law_put_isinstance M.m_isinstance b_isinstance (@pa_cons _ _ _ _ _ (@pe_var _ 0 _ _ rfl v_law_put_0 dn__law_thing dc__law_thing) (@pa_cons _ _ _ _ _ (@pe_bltn _ _ (.ty "bool") _ _ g_law_put_bool M.m_bool b_bool rfl nn_bool dn_bool) (@pa_nil _) (star1 rfl)) (star1 rfl)) nn_isinstance dn_isinstance (star1 rfl) (nost1 rfl nost0)) (test1 rfl)) (@pss_one _ _ _ (@ps_ret _ _ _ _ (@pe_menu _ _ _ _ _ _ _ (@pa_cons _ _ _ _ _ (@pe_not _ _ _ _ (@pe_var _ 0 _ _ rfl v_law_put_0 dn__law_thing dc__law_thing)) (@pa_cons _ _ _ _ _ (@pe_non _ _ _) (@pa_cons _ _ _ _ _ (@pe_str _ _ _ _) (@pa_cons _ _ _ _ _ (@pe_int _ _ _ _) (@pa_cons _ _ _ _ _ (@pe_not _ _ _ _ (@pe_var _ 0 _ _ rfl v_law_put_0 dn__law_thing dc__law_thing)) (@pa_cons _ _ _ _ _ (@pe_un _ _ _ _ _ _ (@un_neg _) (@pe_int _ _ _ _)) (@pa_cons _ _ _ _ _ (@pe_tup _ _ _ _ _ (@pa_nil _)) (@pa_cons _ _ _ _ _ (@pe_tup _ _ _ _ _ (@pa_cons _ _ _ _ _ (@pe_bl _ _ _ _) (@pa_cons _ _ _ _ _ (@pe_non _ _ _) (@pa_nil _) (star1 rfl)) (star1 rfl))) (@pa_nil _) (star1 rfl)) (star1 rfl)) (star1 rfl)) (star1 rfl)) (star1 rfl)) (star1 rfl)) (star1 rfl)) (star1 rfl)) (@pe_op _ _ _ _ _ _ _ _ (@op_mod _) (@pe_var _ 1 _ _ rfl v_law_put_1 dn__law_cell_here dc__law_cell_here) (@pe_int _ _ _ _)) (fun _ _ => rfl)))) (@pss_nil _)) (@pss_cons _ _ _ _ _ (@ps_if _ _ _ _ _ _ _ _ (@pt_cmpR _ _ _ _ _ _ _ _ (@op_isN _) (@pe_var _ 0 _ _ rfl v_law_put_0 dn__law_thing dc__law_thing) (@pe_non _ _ _) (nomark _)) (@pss_one _ _ _ (@ps_ret _ _ _ _ (@pe_menu _ _ _ _ _ _ _ (@pa_cons _ _ _ _ _ (@pe_int _ _ _ _) (@pa_cons _ _ _ _ _ (@pe_int _ _ _ _) (@pa_cons _ _ _ _ _ (@pe_str _ _ _ _) (@pa_cons _ _ _ _ _ (@pe_int _ _ _ _) (@pa_cons _ _ _ _ _ (@pe_tup _ _ _ _ _ (@pa_cons _ _ _ _ _ (@pe_bl _ _ _ _) (@pa_cons _ _ _ _ _ (@pe_non _ _ _) (@pa_nil _) (star1 rfl)) (star1 rfl))) (@pa_nil _) (star1 rfl)) (star1 rfl)) (star1 rfl)) (star1 rfl)) (star1 rfl)) (@pe_op _ _ _ _ _ _ _ _ (@op_mod _) (@pe_var _ 1 _ _ rfl v_law_put_1 dn__law_cell_here dc__law_cell_here) (@pe_int _ _ _ _)) (fun _ _ => rfl)))) (@pss_nil _)) (@pss_one _ _ _ (@ps_ret _ _ _ _ (@pe_menu _ _ _ _ _ _ _ (@pa_cons _ _ _ _ _ (@pe_op _ _ _ _ _ _ _ _ (@op_add _) (@pe_var _ 0 _ _ rfl v_law_put_0 dn__law_thing dc__law_thing) (@pe_int _ _ _ _)) (@pa_cons _ _ _ _ _ (@pe_op _ _ _ _ _ _ _ _ (@op_sub _) (@pe_var _ 0 _ _ rfl v_law_put_0 dn__law_thing dc__law_thing) (@pe_int _ _ _ _)) (@pa_cons _ _ _ _ _ (@pe_non _ _ _) (@pa_cons _ _ _ _ _ (@pe_callTy _ _ _ _ _ _ _ _ _ call_str_int g_law_put_str M.m_str b_str (@pa_cons _ _ _ _ _ (@pe_var _ 0 _ _ rfl v_law_put_0 dn__law_thing dc__law_thing) (@pa_nil _) (star1 rfl)) nn_str dn_str (star1 rfl) nost0) (@pa_cons _ _ _ _ _ (@pe_op _ _ _ _ _ _ _ _ (@op_pow _) (@pe_int _ _ _ _) (@pe_int _ _ _ _)) (@pa_cons _ _ _ _ _ (@pe_op _ _ _ _ _ _ _ _ (@op_sub _) (@pe_op _ _ _ _ _ _ _ _ (@op_sub _) (@pe_int _ _ _ _) (@pe_var _ 0 _ _ rfl v_law_put_0 dn__law_thing dc__law_thing)) (@pe_int _ _ _ _)) (@pa_cons _ _ _ _ _ (@pe_lst _ _ _ _ (@pa_cons _ _ _ _ _ (@pe_var _ 0 _ _ rfl v_law_put_0 dn__law_thing dc__law_thing) (@pa_nil _) (star1 rfl))) (@pa_cons _ _ _ _ _ (@pe_tup _ _ _ _ _ (@pa_cons _ _ _ _ _ (@pe_var _ 0 _ _ rfl v_law_put_0 dn__law_thing dc__law_thing) (@pa_nil _) (star1 rfl))) (@pa_nil _) (star1 rfl)) (star1 rfl)) (star1 rfl)) (star1 rfl)) (star1 rfl)) (star1 rfl)) (star1 rfl)) (star1 rfl)) (@pe_op _ _ _ _ _ _ _ _ (@op_mod _) (@pe_var _ 1 _ _ rfl v_law_put_1 dn__law_cell_here dc__law_cell_here) (@pe_int _ _ _ _)) (fun _ _ => rfl)))))), ?_⟩
  simp only [slots, Option.getD_some, Option.getD_none, tSeq, tOp, tUn, tC, tVar, tCB, tCons, tNil, rI, rI0, rU, tRet, tIfS, tTest, tB, tNotV, tMenu, tTup, tLst, tNext, rIsi, isi_non_bl, isi_non_int, isi_non_str, isi_non_lst, isi_non_tup, isi_bl_bl, isi_bl_int, isi_bl_str, isi_bl_lst, isi_bl_tup, isi_int_bl, isi_int_int, isi_int_str, isi_int_lst, isi_int_tup, isi_str_bl, isi_str_int, isi_str_str, isi_str_lst, isi_str_tup, isi_lst_bl, isi_lst_int, isi_lst_str, isi_lst_lst, isi_lst_tup, isi_tup_bl, isi_tup_int, isi_tup_str, isi_tup_lst, isi_tup_tup, isi_dct_bl, isi_dct_int, isi_dct_str, isi_dct_lst, isi_dct_tup, Kd_non, Kd_bl, Kd_int, Kd_str, decide_true, decide_false, tyK_int, tyK_bool, tyK_str, tyK_list, tyK_tuple, L2.start, cxK, Int.reduceToNat, List.map_cons, List.map_nil, List.length_cons, List.length_nil, Nat.reduceAdd, Nat.reduceSub, Nat.zero_add, List.replicate_succ, List.replicate_zero, List.cons_append, List.nil_append, List.append_nil, List.getElem?_cons_zero, List.getElem?_cons_succ, List.set_cons_zero, List.set_cons_succ, Option.some.injEq, V.int.injEq, V.bl.injEq, V.ref.injEq, V.str.injEq, V.ty.injEq, List.cons.injEq, exists_eq_left', exists_eq_left, exists_eq_right, exists_and_left, exists_and_right, and_true, true_and, and_assoc, exists_const, decide_eq_true_eq, Bool.not_eq_true', Bool.not_true, Bool.not_false, Bool.not_not, decide_eq_false_iff_not, ite_not, Bool.false_eq_true, if_true, if_false, reduceCtorEq, and_false, false_and, exists_false, or_false, false_or, ↓reduceIte, eq_self, reduceIte]
  rcases lf with (rfl | ⟨i, rfl, i0, i4⟩) | ⟨b, rfl⟩
  · cases R
    refine ⟨.non, rfl, ?_⟩
    rw [if_neg (by decide), if_pos rfl]
    refine ⟨by decide, fun p hp => ⟨by decide, by decide, Int.emod_nonneg _ (by decide), menu_dt (Int.emod_nonneg _ (by decide)) (Int.emod_lt_of_pos _ (by decide)) ?_ fun x hx => q _ _ (same_new hp _) hx⟩⟩
    simp only [List.forall_mem_cons]
    exact ⟨⟨_, .int _⟩, ⟨_, .int _⟩, ⟨_, .str _⟩, ⟨_, .int _⟩, dt_tup (SqT.of upd_same) (dt2 ⟨_, .bl _⟩ ⟨_, .non⟩), fun _ h => by cases h⟩
  · cases R
    refine ⟨.int, rfl, ?_⟩
    rw [if_neg (by decide), if_neg (fun z => by cases z)]
    refine ⟨i, rfl, i, rfl, i, rfl, ?_, cpow, i, rfl, by decide, fun p hp => ?_⟩
    · rcases (show i = 0 ∨ i = 1 ∨ i = 2 ∨ i = 3 ∨ i = 4 by omega) with rfl | rfl | rfl | rfl | rfl <;> decide
    obtain ⟨H1, g1, S1, L1⟩ := fresh_lst (K := K) hp [V.int i]
    rw [← g1]
    clear g1
    refine ⟨by decide, fun p1 hp1 => ?_⟩
    obtain ⟨H2, g2, S2, T2⟩ := fresh_tup (K := K) hp1 [V.int i]
    rw [← g2]
    clear g2
    refine ⟨by decide, by decide, Int.emod_nonneg _ (by decide), menu_dt (Int.emod_nonneg _ (by decide)) (Int.emod_lt_of_pos _ (by decide)) ?_ fun x hx => q _ _ (S1.trans S2) hx⟩
    simp only [List.forall_mem_cons]
    exact ⟨⟨_, .int _⟩, ⟨_, .int _⟩, ⟨_, .non⟩, ⟨_, .str _⟩, ⟨_, .int _⟩, ⟨_, .int _⟩, dt_lst (S2.seq L1) (dt1 ⟨_, .int _⟩), dt_tup T2 (dt1 ⟨_, .int _⟩), fun _ h => by cases h⟩
  · cases R
    refine ⟨.bl, rfl, ?_⟩
    rw [if_pos (by decide)]
    refine ⟨b, rfl, b, rfl, by decide, fun p hp => ?_⟩
    obtain ⟨H1, g1, S1, T1⟩ := fresh_tup (K := K) hp ([] : List V)
    rw [← g1]
    clear g1
    refine ⟨by decide, fun p1 hp1 => ?_⟩
    obtain ⟨H2, g2, S2, T2⟩ := fresh_tup (K := K) hp1 [V.bl true, V.non]
    rw [← g2]
    clear g2
    refine ⟨by decide, by decide, Int.emod_nonneg _ (by decide), menu_dt (Int.emod_nonneg _ (by decide)) (Int.emod_lt_of_pos _ (by decide)) ?_ fun x hx => q _ _ (S1.trans S2) hx⟩
    simp only [List.forall_mem_cons]
    exact ⟨⟨_, .bl _⟩, ⟨_, .non⟩, ⟨_, .str _⟩, ⟨_, .int _⟩, ⟨_, .bl _⟩, ⟨_, .int _⟩, dt_tup (Same.tup S2 T1) (fun x h => by cases h), dt_tup T2 (dt2 ⟨_, .bl _⟩ ⟨_, .non⟩), fun _ h => by cases h⟩
theorem ok_law_turned (F : Fun K "_law_turned" "_law_turned" s_law_turned f fd) (M : Mg mg) : FnOk P w K mg base CX0 1 f fd ["_law_reason_here", "_law_cell_here"] (spTurned K) := by
  refine F.ok sc_law_turned (fun vs H Q E h => ?_) (fun cdv A outer s H vs Q E hr h => ?_)
  · obtain ⟨a, c, xs, rfl, _⟩ := h
    rfl
  obtain ⟨a, c, xs, rfl, T, hx, hl, q⟩ := h
  refine ⟨_, (@pss_cons _ _ _ _ _ (@ps_set _ _ 2 _ _ _ _ sc_law_turned.nd rfl l_law_turned_2 (@pe_op _ _ _ _ _ _ _ _ (@op_mod _) (@pe_var _ 1 _ _ rfl v_law_turned_1 dn__law_cell_here dc__law_cell_here) (@pe_int _ _ _ _)) (swap1 rfl) (.inl rfl)) (@pss_cons _ _ _ _ _ (@ps_if _ _ _ _ _ _ _ _ (@pt_cmpR _ _ _ _ _ _ _ _ (@op_eq _) (@pe_var _ 2 _ _ rfl v_law_turned_2 dn__law_way dc__law_way) (@pe_int _ _ _ _) (nomark _)) (@pss_one _ _ _ (@ps_ret _ _ _ _ (@pe_op _ _ _ _ _ _ _ _ op_catTQ (@pe_var _ 0 _ _ rfl v_law_turned_0 dn__law_reason_here dc__law_reason_here) (@pe_tup _ _ _ _ _ (@pa_cons _ _ _ _ _ (@pe_non _ _ _) (@pa_nil _) (star1 rfl)))))) (@pss_nil _)) (@pss_cons _ _ _ _ _ (@ps_if _ _ _ _ _ _ _ _ (@pt_cmpR _ _ _ _ _ _ _ _ (@op_eq _) (@pe_var _ 2 _ _ rfl v_law_turned_2 dn__law_way dc__law_way) (@pe_int _ _ _ _) (nomark _)) (@pss_one _ _ _ (@ps_ret _ _ _ _ (@pe_callTy _ _ _ _ _ _ _ _ _ call_list_of g_law_turned_list M.m_list b_list (@pa_cons _ _ _ _ _ (@pe_var _ 0 _ _ rfl v_law_turned_0 dn__law_reason_here dc__law_reason_here) (@pa_nil _) (star1 rfl)) nn_list dn_list (star1 rfl) nost0))) (@pss_nil _)) (@pss_cons _ _ _ _ _ (@ps_if _ _ _ _ _ _ _ _ (@pt_cmpR _ _ _ _ _ _ _ _ (@op_eq _) (@pe_var _ 2 _ _ rfl v_law_turned_2 dn__law_way dc__law_way) (@pe_int _ _ _ _) (nomark _)) (@pss_one _ _ _ (@ps_ret _ _ _ _ (@pe_slice _ _ _ _ _ _ _ _ _ _ (sl_tupQK (K := K) rfl) (@pe_var _ 0 _ _ rfl v_law_turned_0 dn__law_reason_here dc__law_reason_here) (@po_none _) (@po_some _ _ _ (@pe_un _ _ _ _ _ _ (@un_neg _) (@pe_int _ _ _ _)))))) (@pss_nil _)) (@pss_cons _ _ _ _ _ (@ps_if _ _ _ _ _ _ _ _ (@PW.pt _ _ _ (@pw_and _ _ _ _ _ _ _ (@pt_cmpR _ _ _ _ _ _ _ _ (@op_eq _) (@pe_var _ 2 _ _ rfl v_law_turned_2 dn__law_way dc__law_way) (@pe_int _ _ _ _) (nomark _)) (@pw_and1 _ _ _ _ (@pt_cmpR _ _ _ _ _ _ _ _ (@op_eq _) (@pe_callB _ _ _ _ _ _ _ _ _ call_len_seq g_law_turned_len M.m_len b_len (@pa_cons _ _ _ _ _ (@pe_var _ 0 _ _ rfl v_law_turned_0 dn__law_reason_here dc__law_reason_here) (@pa_nil _) (star1 rfl)) nn_len dn_len (star1 rfl) nost0) (@pe_int _ _ _ _) (nomark _))))) (@pss_one _ _ _ (@ps_ret _ _ _ _ (@pe_tup _ _ _ _ _ (@pa_cons _ _ _ _ _ (@pe_ix _ _ _ _ _ _ _ (@ix_tup _) (@pe_var _ 0 _ _ rfl v_law_turned_0 dn__law_reason_here dc__law_reason_here) (@pe_int _ _ _ _) (fun _ _ => rfl)) (@pa_cons _ _ _ _ _ (@pe_ix _ _ _ _ _ _ _ (@ix_tup _) (@pe_var _ 0 _ _ rfl v_law_turned_0 dn__law_reason_here dc__law_reason_here) (@pe_int _ _ _ _) (fun _ _ => rfl)) (@pa_cons _ _ _ _ _ (@pe_ix _ _ _ _ _ _ _ (@ix_tup _) (@pe_var _ 0 _ _ rfl v_law_turned_0 dn__law_reason_here dc__law_reason_here) (@pe_int _ _ _ _) (fun _ _ => rfl)) (@pa_nil _) (star1 rfl)) (star1 rfl)) (star1 rfl))))) (@pss_nil _)) (@pss_one _ _ _ (@ps_ret _ _ _ _ (@pe_menu _ _ _ _ _ _ _ (@pa_cons _ _ _ _ _ (@pe_non _ _ _) (@pa_cons _ _ _ _ _ (@pe_int _ _ _ _) (@pa_cons _ _ _ _ _ (@pe_str _ _ _ _) (@pa_cons _ _ _ _ _ (@pe_tup _ _ _ _ _ (@pa_nil _)) (@pa_cons _ _ _ _ _ (@pe_slice _ _ _ _ _ _ _ _ _ _ (sl_tupQK (K := K) rfl) (@pe_var _ 0 _ _ rfl v_law_turned_0 dn__law_reason_here dc__law_reason_here) (@po_none _) (@po_some _ _ _ (@pe_int _ _ _ _))) (@pa_nil _) (star1 rfl)) (star1 rfl)) (star1 rfl)) (star1 rfl)) (star1 rfl)) (@pe_op _ _ _ _ _ _ _ _ (@op_mod _) (@pe_op _ _ _ _ _ _ _ _ (@op_fdivB _) (@pe_var _ 1 _ _ rfl v_law_turned_1 dn__law_cell_here dc__law_cell_here) (@pe_int _ _ _ _)) (@pe_int _ _ _ _)) (fun _ _ => rfl))))))))), ?_⟩
  simp only [slots, Option.getD_some, Option.getD_none, tSeq, tAsg, gName, tOp, tUn, tC, tVar, tCB, tCons, tNil, rI, rU, tRet, tIfS, tTest, tAnd, tMenu, tTup, tNext, tSl, tPart, tNoPart, rEq, rIxT, Kd_non, Kd_bl, Kd_int, Kd_str, sc_non_non, sc_non_int, sc_int_non, sc_non_bl, sc_bl_non, sc_non_str, sc_str_non, sc_int_int, sc_bl_bl, sc_str_str, sc_int_str, sc_str_int, sc_bl_str, sc_str_bl, decide_true, decide_false, L2.start, cxK, Int.reduceToNat, List.map_cons, List.map_nil, List.length_cons, List.length_nil, Nat.reduceAdd, Nat.reduceSub, Nat.zero_add, List.replicate_succ, List.replicate_zero, List.cons_append, List.nil_append, List.append_nil, List.getElem?_cons_zero, List.getElem?_cons_succ, List.set_cons_zero, List.set_cons_succ, Option.some.injEq, V.int.injEq, V.bl.injEq, V.ref.injEq, V.str.injEq, V.ty.injEq, List.cons.injEq, exists_eq_left', exists_eq_left, exists_eq_right, exists_and_left, exists_and_right, and_true, true_and, and_assoc, exists_const, decide_eq_true_eq, Bool.not_eq_true', Bool.not_true, Bool.not_false, Bool.not_not, decide_eq_false_iff_not, ite_not, Bool.false_eq_true, if_true, if_false, reduceCtorEq, and_false, false_and, exists_false, or_false, false_or, ↓reduceIte, eq_self, reduceIte]
  refine ⟨by decide, ?_⟩
  by_cases h0 : c % 6 = 0
  · rw [if_pos h0]
    refine ⟨by decide, fun p hp => ?_⟩
    obtain ⟨H1, g1, S1, T1⟩ := fresh_tup (K := K) hp [V.non]
    rw [← g1]
    clear g1
    exact ⟨_, _, _, _, rfl, rfl, Same.tup S1 T, T1, Nat.le_trans (m := 64) (by rw [List.length_cons, List.length_nil]; omega) (by decide), fun p2 H2 S2 T2 => q _ _ (S1.trans S2) (dt_tup T2 (dt_cat (dt_sames hx (S1.trans S2)) (dt1 ⟨_, .non⟩)))⟩
  rw [if_neg h0]
  by_cases h1 : c % 6 = 1
  · rw [if_pos h1]
    exact ⟨xs, .inr T, fun l hl => q _ _ (same_new hl _) (dt_lst (SqL.of upd_same) (dt_sames hx (same_new hl _)))⟩
  rw [if_neg h1]
  by_cases h2 : c % 6 = 2
  · rw [if_pos h2]
    exact ⟨a, xs, rfl, T, fun p2 H2 S2 T2 => q _ _ S2 (dt_tup T2 (fun x m => (hx x (mem_cut m)).same S2))⟩
  rw [if_neg h2]
  by_cases h3 : c % 6 = 3
  · rw [if_pos h3]
    refine ⟨xs, .inr T, ?_⟩
    by_cases h4 : ((xs.length : Nat) : Int) = 3
    · rw [if_pos h4]
      match xs, h4, T, hx with
      | [x0, x1, x2], _, T, hx =>
        simp only [List.forall_mem_cons] at hx
        exact ⟨_, T, _, at0, _, T, _, at2, _, T, _, at1, by decide, fun p hp => q _ _ (same_new hp _) (dt_tup (SqT.of upd_same) (dt3 (hx.1.same (same_new hp _)) (hx.2.2.1.same (same_new hp _)) (hx.2.1.same (same_new hp _))))⟩
    · rw [if_neg h4]
      refine ⟨by decide, fun p hp => ?_⟩
      obtain ⟨H1, g1, S1, T1⟩ := fresh_tup (K := K) hp ([] : List V)
      rw [← g1]
      clear g1
      refine ⟨a, xs, rfl, Same.tup S1 T, fun p2 H2 S2 T2 => ?_⟩
      have S12 := S1.trans S2
      refine ⟨by decide, cdiv (by decide) (by decide), by decide, Int.emod_nonneg _ (by decide), menu_dt (Int.emod_nonneg _ (by decide)) (Int.emod_lt_of_pos _ (by decide)) ?_ fun x hx => q _ _ S12 hx⟩
      simp only [List.forall_mem_cons]
      exact ⟨⟨_, .non⟩, ⟨_, .int _⟩, ⟨_, .str _⟩, dt_tup (Same.tup S2 T1) (fun x h => by cases h), dt_tup T2 (fun x m => (hx x (mem_cut m)).same S12), fun _ h => by cases h⟩
  · rw [if_neg h3]
    refine ⟨by decide, fun p hp => ?_⟩
    obtain ⟨H1, g1, S1, T1⟩ := fresh_tup (K := K) hp ([] : List V)
    rw [← g1]
    clear g1
    refine ⟨a, xs, rfl, Same.tup S1 T, fun p2 H2 S2 T2 => ?_⟩
    have S12 := S1.trans S2
    refine ⟨by decide, cdiv (by decide) (by decide), by decide, Int.emod_nonneg _ (by decide), menu_dt (Int.emod_nonneg _ (by decide)) (Int.emod_lt_of_pos _ (by decide)) ?_ fun x hx => q _ _ S12 hx⟩
    simp only [List.forall_mem_cons]
    exact ⟨⟨_, .non⟩, ⟨_, .int _⟩, ⟨_, .str _⟩, dt_tup (Same.tup S2 T1) (fun x h => by cases h), dt_tup T2 (fun x m => (hx x (mem_cut m)).same S12), fun _ h => by cases h⟩
theorem step_spoilt {L d : Nat} (F : Fun K "_law_spoilt" "_law_spoilt" s_law_spoilt f fd) (M : Mg mg) (C_law_put : Cal P w K mg base CX0 "_law_put" 1 ["_law_thing", "_law_cell_here"] (spPut K)) (C_law_turned : Cal P w K mg base CX0 "_law_turned" 1 ["_law_reason_here", "_law_cell_here"] (spTurned K)) (C_law_spoilt : Cal P w K mg base CX0 "_law_spoilt" (L + 2) ["_law_reason_here", "_law_number"] (spSpoilt K d)) : FnOk P w K mg base CX0 (L + 3) f fd ["_law_reason_here", "_law_number"] (spSpoilt K (d + 1)) := by
  refine F.ok sc_law_spoilt (fun vs H Q E h => ?_) (fun cdv A outer s H vs Q E hr h => ?_)
  · obtain ⟨a, c, dt, rfl, _⟩ := h
    rfl
  obtain ⟨a, c, dt, rfl, R, o, q⟩ := h
  refine ⟨_, (@pss_cons _ _ _ _ _ (@ps_set _ _ 2 _ _ _ _ sc_law_spoilt.nd rfl l_law_spoilt_2 (@pe_op _ _ _ _ _ _ _ _ (@op_mod _) (@pe_var _ 1 _ _ rfl v_law_spoilt_1 dn__law_number dc__law_number) (@pe_int _ _ _ _)) (swap1 rfl) (.inl rfl)) (@pss_cons _ _ _ _ _ (@ps_if _ _ _ _ _ _ _ _ (@pt_cmpR _ _ _ _ _ _ _ _ (@op_eq _) (@pe_var _ 2 _ _ rfl v_law_spoilt_2 dn__law_way dc__law_way) (@pe_int _ _ _ _) (nomark _)) (@pss_one _ _ _ (@ps_ret _ _ _ _ (@pe_callC _ _ _ _ _ _ _ _ _ _ _ C_law_turned hr g_law_spoilt__law_turned (@pa_cons _ _ _ _ _ (@pe_var _ 0 _ _ rfl v_law_spoilt_0 dn__law_reason_here dc__law_reason_here) (@pa_cons _ _ _ _ _ (@pe_op _ _ _ _ _ _ _ _ (@op_fdivB _) (@pe_var _ 1 _ _ rfl v_law_spoilt_1 dn__law_number dc__law_number) (@pe_int _ _ _ _)) (@pa_nil _) (star1 rfl)) (star1 rfl)) (by omega) dn__law_turned (star1 rfl) (nost1 rfl nost0)))) (@pss_nil _)) (@pss_cons _ _ _ _ _ (@ps_set _ _ 3 _ _ _ _ sc_law_spoilt.nd rfl l_law_spoilt_3 (@pe_menu _ _ _ _ _ _ _ (@pa_cons _ _ _ _ _ (@pe_int _ _ _ _) (@pa_cons _ _ _ _ _ (@pe_int _ _ _ _) (@pa_cons _ _ _ _ _ (@pe_op _ _ _ _ _ _ _ _ (@op_sub _) (@pe_callB _ _ _ _ _ _ _ _ _ call_len_seq g_law_spoilt_len M.m_len b_len (@pa_cons _ _ _ _ _ (@pe_var _ 0 _ _ rfl v_law_spoilt_0 dn__law_reason_here dc__law_reason_here) (@pa_nil _) (star1 rfl)) nn_len dn_len (star1 rfl) nost0) (@pe_int _ _ _ _)) (@pa_cons _ _ _ _ _ (@pe_op _ _ _ _ _ _ _ _ (@op_sub _) (@pe_callB _ _ _ _ _ _ _ _ _ call_len_seq g_law_spoilt_len M.m_len b_len (@pa_cons _ _ _ _ _ (@pe_var _ 0 _ _ rfl v_law_spoilt_0 dn__law_reason_here dc__law_reason_here) (@pa_nil _) (star1 rfl)) nn_len dn_len (star1 rfl) nost0) (@pe_int _ _ _ _)) (@pa_nil _) (star1 rfl)) (star1 rfl)) (star1 rfl)) (star1 rfl)) (@pe_var _ 2 _ _ rfl v_law_spoilt_2 dn__law_way dc__law_way) (fun _ _ => rfl)) (swap1 rfl) (.inl rfl)) (@pss_cons _ _ _ _ _ (@ps_set _ _ 4 _ _ _ _ sc_law_spoilt.nd rfl l_law_spoilt_4 (@pe_ix _ _ _ _ _ _ _ (@ix_tup _) (@pe_var _ 0 _ _ rfl v_law_spoilt_0 dn__law_reason_here dc__law_reason_here) (@pe_var _ 3 _ _ rfl v_law_spoilt_3 dn__law_at dc__law_at) (fun _ _ => rfl)) (swap1 rfl) (.inl rfl)) (@pss_cons _ _ _ _ _ (@ps_if _ _ _ _ _ _ _ _ (@pt_val _ _ _ (@pe_callB _ _ _ _ _ _ _ _ _ call_isi g_law_spoilt_isinstance M.m_isinstance b_isinstance (@pa_cons _ _ _ _ _ (@pe_var _ 4 _ _ rfl v_law_spoilt_4 dn__law_part dc__law_part) (@pa_cons _ _ _ _ _ (@pe_bltn _ _ (.ty "tuple") _ _ g_law_spoilt_tuple M.m_tuple b_tuple rfl nn_tuple dn_tuple) (@pa_nil _) (star1 rfl)) (star1 rfl)) nn_isinstance dn_isinstance (star1 rfl) (nost1 rfl nost0)) (test1 rfl)) (@pss_one _ _ _ (@ps_set _ _ 4 _ _ _ _ sc_law_spoilt.nd rfl l_law_spoilt_4 (@pe_callC _ _ _ _ _ _ _ _ _ _ _ C_law_spoilt hr g_law_spoilt__law_spoilt (@pa_cons _ _ _ _ _ (@pe_var _ 4 _ _ rfl v_law_spoilt_4 dn__law_part dc__law_part) (@pa_cons _ _ _ _ _ (@pe_op _ _ _ _ _ _ _ _ (@op_fdivB _) (@pe_var _ 1 _ _ rfl v_law_spoilt_1 dn__law_number dc__law_number) (@pe_int _ _ _ _)) (@pa_nil _) (star1 rfl)) (star1 rfl)) (by omega) dn__law_spoilt (star1 rfl) (nost1 rfl nost0)) (swap1 rfl) (.inl rfl))) (@pss_one _ _ _ (@ps_set _ _ 4 _ _ _ _ sc_law_spoilt.nd rfl l_law_spoilt_4 (@pe_callC _ _ _ _ _ _ _ _ _ _ _ C_law_put hr g_law_spoilt__law_put (@pa_cons _ _ _ _ _ (@pe_var _ 4 _ _ rfl v_law_spoilt_4 dn__law_part dc__law_part) (@pa_cons _ _ _ _ _ (@pe_op _ _ _ _ _ _ _ _ (@op_fdivB _) (@pe_var _ 1 _ _ rfl v_law_spoilt_1 dn__law_number dc__law_number) (@pe_int _ _ _ _)) (@pa_nil _) (star1 rfl)) (star1 rfl)) (by omega) dn__law_put (star1 rfl) (nost1 rfl nost0)) (swap1 rfl) (.inl rfl)))) (@pss_one _ _ _ (@ps_ret _ _ _ _ (@pe_op _ _ _ _ _ _ _ _ op_catTQ (@pe_op _ _ _ _ _ _ _ _ op_catTQ (@pe_slice _ _ _ _ _ _ _ _ _ _ (sl_tupQK (K := K) rfl) (@pe_var _ 0 _ _ rfl v_law_spoilt_0 dn__law_reason_here dc__law_reason_here) (@po_none _) (@po_some _ _ _ (@pe_var _ 3 _ _ rfl v_law_spoilt_3 dn__law_at dc__law_at))) (@pe_tup _ _ _ _ _ (@pa_cons _ _ _ _ _ (@pe_var _ 4 _ _ rfl v_law_spoilt_4 dn__law_part dc__law_part) (@pa_nil _) (star1 rfl)))) (@pe_slice _ _ _ _ _ _ _ _ _ _ (sl_tupQK (K := K) rfl) (@pe_var _ 0 _ _ rfl v_law_spoilt_0 dn__law_reason_here dc__law_reason_here) (@po_some _ _ _ (@pe_op _ _ _ _ _ _ _ _ (@op_add _) (@pe_var _ 3 _ _ rfl v_law_spoilt_3 dn__law_at dc__law_at) (@pe_int _ _ _ _))) (@po_none _)))))))))), ?_⟩
  simp only [slots, Option.getD_some, Option.getD_none, tSeq, tAsg, gName, tOp, tC, tVar, tCB, tCons, tNil, tCall, rI, rI0, tRet, tIfS, tTest, tB, tMenu, tTup, tNext, tSl, tPart, tNoPart, rEq, rIsi, rIxT, isi_non_bl, isi_non_int, isi_non_str, isi_non_lst, isi_non_tup, isi_bl_bl, isi_bl_int, isi_bl_str, isi_bl_lst, isi_bl_tup, isi_int_bl, isi_int_int, isi_int_str, isi_int_lst, isi_int_tup, isi_str_bl, isi_str_int, isi_str_str, isi_str_lst, isi_str_tup, isi_lst_bl, isi_lst_int, isi_lst_str, isi_lst_lst, isi_lst_tup, isi_tup_bl, isi_tup_int, isi_tup_str, isi_tup_lst, isi_tup_tup, isi_dct_bl, isi_dct_int, isi_dct_str, isi_dct_lst, isi_dct_tup, Kd_non, Kd_bl, Kd_int, Kd_str, sc_non_non, sc_non_int, sc_int_non, sc_non_bl, sc_bl_non, sc_non_str, sc_str_non, sc_int_int, sc_bl_bl, sc_str_str, sc_int_str, sc_str_int, sc_bl_str, sc_str_bl, decide_true, decide_false, tyK_int, tyK_bool, tyK_str, tyK_list, tyK_tuple, L2.start, cxK, Int.reduceToNat, List.map_cons, List.map_nil, List.length_cons, List.length_nil, Nat.reduceAdd, Nat.reduceSub, Nat.zero_add, List.replicate_succ, List.replicate_zero, List.cons_append, List.nil_append, List.append_nil, List.getElem?_cons_zero, List.getElem?_cons_succ, List.set_cons_zero, List.set_cons_succ, Option.some.injEq, V.int.injEq, V.bl.injEq, V.ref.injEq, V.str.injEq, V.ty.injEq, List.cons.injEq, exists_eq_left', exists_eq_left, exists_eq_right, exists_and_left, exists_and_right, and_true, true_and, and_assoc, exists_const, decide_eq_true_eq, Bool.not_eq_true', Bool.not_true, Bool.not_false, Bool.not_not, decide_eq_false_iff_not, ite_not, Bool.false_eq_true, if_true, if_false, reduceCtorEq, and_false, false_and, exists_false, or_false, false_or, ↓reduceIte, eq_self, reduceIte]
  obtain ⟨ds, rfl, l2, l3, ps⟩ := rs_parts o
  obtain ⟨xs, T, ra⟩ := rep_tup R
  have hx := rep_dt ra
  obtain ⟨lx, hat⟩ := rep_at ra
  refine ⟨by decide, ?_⟩
  by_cases h4 : c % 5 = 4
  · rw [if_pos h4]
    exact ⟨cdiv (by decide) (by decide), a, _, xs, rfl, T, hx, by omega, q⟩
  rw [if_neg h4]
  have e0 : 0 ≤ c % 5 := Int.emod_nonneg _ (by decide)
  refine ⟨xs, .inr T, xs, .inr T, by decide, e0, ?_⟩
  obtain ⟨j, hj, jl⟩ : ∃ j : Nat, [V.int 0, V.int 1, V.int (↑xs.length - 1), V.int (↑xs.length - 1)][(c % 5).toNat]? = some (.int j) ∧ j < xs.length := by
    have : c % 5 < 5 := Int.emod_lt_of_pos _ (by decide)
    have el : (xs.length : Int) - 1 = ((xs.length - 1 : Nat) : Int) := by omega
    rcases (show c % 5 = 0 ∨ c % 5 = 1 ∨ c % 5 = 2 ∨ c % 5 = 3 by omega) with h | h | h | h <;> rw [h]
    · exact ⟨0, rfl, by omega⟩
    · exact ⟨1, rfl, by omega⟩
    · exact ⟨xs.length - 1, by rw [← el]; rfl, by omega⟩
    · exact ⟨xs.length - 1, by rw [← el]; rfl, by omega⟩
  obtain ⟨x4, e, h1, h2, r4⟩ := hat j jl
  obtain ⟨i, hi⟩ : ∃ i : Int, i = j := ⟨_, rfl⟩
  rw [← hi] at hj
  refine ⟨_, hj, xs, i, rfl, T, x4, by rw [hi]; exact atI_nat h1, _, rep_kd r4, ?_⟩
  rcases ps e h2 with o4 | lf
  · obtain ⟨ds4, rfl⟩ := rs_tup o4
    rw [if_pos (by rfl)]
    obtain ⟨a4, xs4, rfl, T4, _⟩ := rep_tupV r4
    refine ⟨cdiv (by decide) (by decide), a4, _, _, rfl, r4, o4, fun v' H1 S1 D1 => ?_⟩
    refine ⟨i, rfl, a, xs, rfl, Same.tup S1 T, fun p5 H5 S5 T5 => ⟨by decide, fun p hp => ?_⟩⟩
    obtain ⟨H6, g6, S6, T6⟩ := fresh_tup (K := K) hp [v']
    rw [← g6]
    clear g6
    have c1 := cutV_length xs none (some i)
    have c2 := cutV_length xs (some (i + 1)) none
    have S16 := S1.trans (S5.trans S6)
    refine ⟨_, _, _, _, rfl, rfl, Same.tup S6 T5, T6, Nat.le_trans (m := 64) (by rw [List.length_cons, List.length_nil]; omega) (by decide), fun p7 H7 S7 T7 => ⟨i, rfl, a, xs, rfl, Same.tup (S16.trans S7) T, fun p8 H8 S8 T8 => ⟨_, _, _, _, rfl, rfl, Same.tup S8 T7, T8, Nat.le_trans (m := 64) (by rw [List.length_append, List.length_cons, List.length_nil]; omega) (by decide), fun p9 H9 S9 T9 => ?_⟩⟩⟩
    have S19 := S16.trans (S7.trans (S8.trans S9))
    exact q _ _ S19 (dt_tup T9 (dt_cat (dt_cat (fun x m => (hx x (mem_cut m)).same S19) (dt1 (D1.same (S5.trans (S6.trans (S7.trans (S8.trans S9))))))) (fun x m => (hx x (mem_cut m)).same S19)))
  · rw [if_neg (by rcases lf with (rfl | ⟨i, rfl, _⟩) | ⟨b, rfl⟩ <;> (show ¬ false = true; decide))]
    refine ⟨cdiv (by decide) (by decide), x4, _, e, rfl, r4, lf, fun v' H1 S1 D1 => ?_⟩
    refine ⟨i, rfl, a, xs, rfl, Same.tup S1 T, fun p5 H5 S5 T5 => ⟨by decide, fun p hp => ?_⟩⟩
    obtain ⟨H6, g6, S6, T6⟩ := fresh_tup (K := K) hp [v']
    rw [← g6]
    clear g6
    have c1 := cutV_length xs none (some i)
    have c2 := cutV_length xs (some (i + 1)) none
    have S16 := S1.trans (S5.trans S6)
    refine ⟨_, _, _, _, rfl, rfl, Same.tup S6 T5, T6, Nat.le_trans (m := 64) (by rw [List.length_cons, List.length_nil]; omega) (by decide), fun p7 H7 S7 T7 => ⟨i, rfl, a, xs, rfl, Same.tup (S16.trans S7) T, fun p8 H8 S8 T8 => ⟨_, _, _, _, rfl, rfl, Same.tup S8 T7, T8, Nat.le_trans (m := 64) (by rw [List.length_append, List.length_cons, List.length_nil]; omega) (by decide), fun p9 H9 S9 T9 => ?_⟩⟩⟩
    have S19 := S16.trans (S7.trans (S8.trans S9))
    exact q _ _ S19 (dt_tup T9 (dt_cat (dt_cat (fun x m => (hx x (mem_cut m)).same S19) (dt1 (D1.same (S5.trans (S6.trans (S7.trans (S8.trans S9))))))) (fun x m => (hx x (mem_cut m)).same S19)))
theorem step_wild {L d : Nat} (F : Fun K "_law_wild" "_law_wild" s_law_wild f fd) (M : Mg mg) (C_law_mix : Cal P w K mg base CX0 "_law_mix" 1 ["_law_number", "_law_k", "_law_many"] spMix3) (C_law_pair : Cal P w K mg base CX0 "_law_pair" 1 ["_law_word"] (spPair K)) (C_law_wild : Cal P w K mg base CX0 "_law_wild" (L + 2) ["_law_told", "_law_number", "_law_many"] (spWild K d)) : FnOk P w K mg base CX0 (L + 3) f fd ["_law_told", "_law_number", "_law_many"] (spWild K (d + 1)) := by
  refine F.ok sc_law_wild (fun vs H Q E h => ?_) (fun cdv A outer s H vs Q E hr h => ?_)
  · obtain ⟨t, n, c, m, rfl, _⟩ := h
    rfl
  obtain ⟨t, n, c, m, rfl, R, dp, m1, m4, q⟩ := h
  refine ⟨_, (@pss_cons _ _ _ _ _ (@ps_set _ _ 3 _ _ _ _ sc_law_wild.nd rfl l_law_wild_3 (@pe_cmpR _ _ _ _ _ _ _ _ (@op_eq _) (@pe_callC _ _ _ _ _ _ _ _ _ _ _ C_law_mix hr g_law_wild__law_mix (@pa_cons _ _ _ _ _ (@pe_var _ 1 _ _ rfl v_law_wild_1 dn__law_number dc__law_number) (@pa_cons _ _ _ _ _ (@pe_int _ _ _ _) (@pa_cons _ _ _ _ _ (@pe_int _ _ _ _) (@pa_nil _) (star1 rfl)) (star1 rfl)) (star1 rfl)) (by omega) dn__law_mix (star1 rfl) (nost1 rfl (nost1 rfl nost0))) (@pe_int _ _ _ _) (nomark _)) (swap1 rfl) (.inl rfl)) (@pss_cons _ _ _ _ _ (@ps_set _ _ 4 _ _ _ _ sc_law_wild.nd rfl l_law_wild_4 (@pe_op _ _ _ _ _ _ _ _ (@op_sub _) (@pe_callC _ _ _ _ _ _ _ _ _ _ _ C_law_mix hr g_law_wild__law_mix (@pa_cons _ _ _ _ _ (@pe_var _ 1 _ _ rfl v_law_wild_1 dn__law_number dc__law_number) (@pa_cons _ _ _ _ _ (@pe_int _ _ _ _) (@pa_cons _ _ _ _ _ (@pe_op _ _ _ _ _ _ _ _ (@op_add _) (@pe_var _ 2 _ _ rfl v_law_wild_2 dn__law_many dc__law_many) (@pe_int _ _ _ _)) (@pa_nil _) (star1 rfl)) (star1 rfl)) (star1 rfl)) (by omega) dn__law_mix (star1 rfl) (nost1 rfl (nost1 rfl nost0))) (@pe_int _ _ _ _)) (swap1 rfl) (.inl rfl)) (@pss_cons _ _ _ _ _ (@ps_if _ _ _ _ _ _ _ _ (@pt_cmpR _ _ _ _ _ _ _ _ (@op_notIn_seq _) (@pe_ix _ _ _ _ _ _ _ (@ix_tup _) (@pe_var _ 0 _ _ rfl v_law_wild_0 dn__law_told dc__law_told) (@pe_int _ _ _ _) (fun _ _ => rfl)) (@pe_tup _ _ _ _ _ (@pa_cons _ _ _ _ _ (@pe_str _ _ _ _) (@pa_cons _ _ _ _ _ (@pe_str _ _ _ _) (@pa_cons _ _ _ _ _ (@pe_str _ _ _ _) (@pa_nil _) (star1 rfl)) (star1 rfl)) (star1 rfl))) (by with_unfolding_all rfl)) (@pss_cons _ _ _ _ _ (@ps_if _ _ _ _ _ _ _ _ (@pt_cmpR _ _ _ _ _ _ _ _ (@op_gt _) (@pe_callC _ _ _ _ _ _ _ _ _ _ _ C_law_mix hr g_law_wild__law_mix (@pa_cons _ _ _ _ _ (@pe_var _ 1 _ _ rfl v_law_wild_1 dn__law_number dc__law_number) (@pa_cons _ _ _ _ _ (@pe_int _ _ _ _) (@pa_cons _ _ _ _ _ (@pe_int _ _ _ _) (@pa_nil _) (star1 rfl)) (star1 rfl)) (star1 rfl)) (by omega) dn__law_mix (star1 rfl) (nost1 rfl (nost1 rfl nost0))) (@pe_int _ _ _ _) (nomark _)) (@pss_one _ _ _ (@ps_ret _ _ _ _ (@pe_tup _ _ _ _ _ (@pa_cons _ _ _ _ _ (@pe_var _ 3 _ _ rfl v_law_wild_3 dn__law_truth dc__law_truth) (@pa_cons _ _ _ _ _ (@pe_menu _ _ _ _ _ _ _ (@pa_cons _ _ _ _ _ (@pe_var _ 4 _ _ rfl v_law_wild_4 dn__law_place dc__law_place) (@pa_cons _ _ _ _ _ (@pe_non _ _ _) (@pa_nil _) (star1 rfl)) (star1 rfl)) (@pe_callTy _ _ _ _ _ _ _ _ _ call_int_bl g_law_wild_int M.m_int b_int (@pa_cons _ _ _ _ _ (@pe_or _ _ _ _ _ _ _ (@pe_cmpR _ _ _ _ _ _ _ _ op_in_seq (@pe_ix _ _ _ _ _ _ _ (@ix_tup _) (@pe_var _ 0 _ _ rfl v_law_wild_0 dn__law_told dc__law_told) (@pe_int _ _ _ _) (fun _ _ => rfl)) (@pe_tup _ _ _ _ _ (@pa_cons _ _ _ _ _ (@pe_str _ _ _ _) (@pa_cons _ _ _ _ _ (@pe_str _ _ _ _) (@pa_nil _) (star1 rfl)) (star1 rfl))) (by with_unfolding_all rfl)) (@pe_one _ _ _ _ _ (@pe_not _ _ _ _ (@pe_var _ 3 _ _ rfl v_law_wild_3 dn__law_truth dc__law_truth)))) (@pa_nil _) (star1 rfl)) nn_int dn_int (star1 rfl) nost0) (fun _ _ => rfl)) (@pa_nil _) (star1 rfl)) (star1 rfl))))) (@pss_nil _)) (@pss_one _ _ _ (@ps_ret _ _ _ _ (@pe_tup _ _ _ _ _ (@pa_cons _ _ _ _ _ (@pe_var _ 3 _ _ rfl v_law_wild_3 dn__law_truth dc__law_truth) (@pa_cons _ _ _ _ _ (@pe_menu _ _ _ _ _ _ _ (@pa_cons _ _ _ _ _ (@pe_var _ 4 _ _ rfl v_law_wild_4 dn__law_place dc__law_place) (@pa_cons _ _ _ _ _ (@pe_non _ _ _) (@pa_nil _) (star1 rfl)) (star1 rfl)) (@pe_callC _ _ _ _ _ _ _ _ _ _ _ C_law_mix hr g_law_wild__law_mix (@pa_cons _ _ _ _ _ (@pe_var _ 1 _ _ rfl v_law_wild_1 dn__law_number dc__law_number) (@pa_cons _ _ _ _ _ (@pe_int _ _ _ _) (@pa_cons _ _ _ _ _ (@pe_int _ _ _ _) (@pa_nil _) (star1 rfl)) (star1 rfl)) (star1 rfl)) (by omega) dn__law_mix (star1 rfl) (nost1 rfl (nost1 rfl nost0))) (fun _ _ => rfl)) (@pa_nil _) (star1 rfl)) (star1 rfl)))))) (@pss_nil _)) (@pss_cons _ _ _ _ _ (@ps_set _ _ 5 _ _ _ _ sc_law_wild.nd rfl l_law_wild_5 (@pe_callC _ _ _ _ _ _ _ _ _ _ _ C_law_wild hr g_law_wild__law_wild (@pa_cons _ _ _ _ _ (@pe_ix _ _ _ _ _ _ _ (@ix_tup _) (@pe_var _ 0 _ _ rfl v_law_wild_0 dn__law_told dc__law_told) (@pe_int _ _ _ _) (fun _ _ => rfl)) (@pa_cons _ _ _ _ _ (@pe_callC _ _ _ _ _ _ _ _ _ _ _ C_law_mix hr g_law_wild__law_mix (@pa_cons _ _ _ _ _ (@pe_var _ 1 _ _ rfl v_law_wild_1 dn__law_number dc__law_number) (@pa_cons _ _ _ _ _ (@pe_int _ _ _ _) (@pa_cons _ _ _ _ _ (@pe_int _ _ _ _) (@pa_nil _) (star1 rfl)) (star1 rfl)) (star1 rfl)) (by omega) dn__law_mix (star1 rfl) (nost1 rfl (nost1 rfl nost0))) (@pa_cons _ _ _ _ _ (@pe_var _ 2 _ _ rfl v_law_wild_2 dn__law_many dc__law_many) (@pa_nil _) (star1 rfl)) (star1 rfl)) (star1 rfl)) (by omega) dn__law_wild (star1 rfl) (nost1 rfl (nost1 rfl nost0))) (swap1 rfl) (.inl rfl)) (@pss_cons _ _ _ _ _ (@ps_set _ _ 6 _ _ _ _ sc_law_wild.nd rfl l_law_wild_6 (@pe_callC _ _ _ _ _ _ _ _ _ _ _ C_law_wild hr g_law_wild__law_wild (@pa_cons _ _ _ _ _ (@pe_ix _ _ _ _ _ _ _ (@ix_tup _) (@pe_var _ 0 _ _ rfl v_law_wild_0 dn__law_told dc__law_told) (@pe_int _ _ _ _) (fun _ _ => rfl)) (@pa_cons _ _ _ _ _ (@pe_callC _ _ _ _ _ _ _ _ _ _ _ C_law_mix hr g_law_wild__law_mix (@pa_cons _ _ _ _ _ (@pe_var _ 1 _ _ rfl v_law_wild_1 dn__law_number dc__law_number) (@pa_cons _ _ _ _ _ (@pe_int _ _ _ _) (@pa_cons _ _ _ _ _ (@pe_int _ _ _ _) (@pa_nil _) (star1 rfl)) (star1 rfl)) (star1 rfl)) (by omega) dn__law_mix (star1 rfl) (nost1 rfl (nost1 rfl nost0))) (@pa_cons _ _ _ _ _ (@pe_var _ 2 _ _ rfl v_law_wild_2 dn__law_many dc__law_many) (@pa_nil _) (star1 rfl)) (star1 rfl)) (star1 rfl)) (by omega) dn__law_wild (star1 rfl) (nost1 rfl (nost1 rfl nost0))) (swap1 rfl) (.inl rfl)) (@pss_cons _ _ _ _ _ (@ps_if _ _ _ _ _ _ _ _ (@pt_cmpR _ _ _ _ _ _ _ _ (@op_eq _) (@pe_var _ 3 _ _ rfl v_law_wild_3 dn__law_truth dc__law_truth) (@pe_ix _ _ _ _ _ _ _ (@ix_list _) (@pe_callC _ _ _ _ _ _ _ _ _ _ _ C_law_pair hr g_law_wild__law_pair (@pa_cons _ _ _ _ _ (@pe_ix _ _ _ _ _ _ _ (@ix_tup _) (@pe_var _ 0 _ _ rfl v_law_wild_0 dn__law_told dc__law_told) (@pe_int _ _ _ _) (fun _ _ => rfl)) (@pa_nil _) (star1 rfl)) (by omega) dn__law_pair (star1 rfl) nost0) (@pe_int _ _ _ _) (fun _ _ => rfl)) (nomark _)) (@pss_one _ _ _ (@ps_ret _ _ _ _ (@pe_tup _ _ _ _ _ (@pa_cons _ _ _ _ _ (@pe_var _ 3 _ _ rfl v_law_wild_3 dn__law_truth dc__law_truth) (@pa_cons _ _ _ _ _ (@pe_var _ 5 _ _ rfl v_law_wild_5 dn__law_one dc__law_one) (@pa_cons _ _ _ _ _ (@pe_var _ 6 _ _ rfl v_law_wild_6 dn__law_other dc__law_other) (@pa_nil _) (star1 rfl)) (star1 rfl)) (star1 rfl))))) (@pss_nil _)) (@pss_cons _ _ _ _ _ (@ps_set _ _ 7 _ _ _ _ sc_law_wild.nd rfl l_law_wild_7 (@pe_callC _ _ _ _ _ _ _ _ _ _ _ C_law_mix hr g_law_wild__law_mix (@pa_cons _ _ _ _ _ (@pe_var _ 1 _ _ rfl v_law_wild_1 dn__law_number dc__law_number) (@pa_cons _ _ _ _ _ (@pe_int _ _ _ _) (@pa_cons _ _ _ _ _ (@pe_int _ _ _ _) (@pa_nil _) (star1 rfl)) (star1 rfl)) (star1 rfl)) (by omega) dn__law_mix (star1 rfl) (nost1 rfl (nost1 rfl nost0))) (swap1 rfl) (.inl rfl)) (@pss_one _ _ _ (@ps_ret _ _ _ _ (@pe_tup _ _ _ _ _ (@pa_cons _ _ _ _ _ (@pe_var _ 3 _ _ rfl v_law_wild_3 dn__law_truth dc__law_truth) (@pa_cons _ _ _ _ _ (@pe_var _ 7 _ _ rfl v_law_wild_7 dn__law_side dc__law_side) (@pa_cons _ _ _ _ _ (@pe_menu _ _ _ _ _ _ _ (@pa_cons _ _ _ _ _ (@pe_var _ 5 _ _ rfl v_law_wild_5 dn__law_one dc__law_one) (@pa_cons _ _ _ _ _ (@pe_var _ 6 _ _ rfl v_law_wild_6 dn__law_other dc__law_other) (@pa_nil _) (star1 rfl)) (star1 rfl)) (@pe_var _ 7 _ _ rfl v_law_wild_7 dn__law_side dc__law_side) (fun _ _ => rfl)) (@pa_nil _) (star1 rfl)) (star1 rfl)) (star1 rfl)))))))))))), ?_⟩
  simp only [slots, Option.getD_some, Option.getD_none, tSeq, tAsg, gName, tOp, tC, tVar, tCB, tCons, tNil, tCall, rI0, tRet, tIfS, tTest, tOrV, tNotV, tMenu, tTup, tNext, rEq, rIxL, rIxT, Kd_non, Kd_bl, Kd_int, Kd_str, sc_non_non, sc_non_int, sc_int_non, sc_non_bl, sc_bl_non, sc_non_str, sc_str_non, sc_int_int, sc_bl_bl, sc_str_str, sc_int_str, sc_str_int, sc_bl_str, sc_str_bl, decide_true, decide_false, L2.start, cxK, Int.reduceToNat, List.map_cons, List.map_nil, List.length_cons, List.length_nil, Nat.reduceAdd, Nat.reduceSub, Nat.zero_add, List.replicate_succ, List.replicate_zero, List.cons_append, List.nil_append, List.append_nil, List.getElem?_cons_zero, List.getElem?_cons_succ, List.set_cons_zero, List.set_cons_succ, Option.some.injEq, V.int.injEq, V.bl.injEq, V.ref.injEq, V.str.injEq, V.ty.injEq, List.cons.injEq, exists_eq_left', exists_eq_left, exists_eq_right, exists_and_left, exists_and_right, and_true, true_and, and_assoc, exists_const, decide_eq_true_eq, Bool.not_eq_true', Bool.not_true, Bool.not_false, Bool.not_not, decide_eq_false_iff_not, ite_not, Bool.false_eq_true, if_true, if_false, reduceCtorEq, and_false, false_and, exists_false, or_false, false_or, ↓reduceIte, eq_self, reduceIte]
  refine ⟨_, _, _, rfl, by decide, by decide, by decide, rfl, _, _, _, rfl, by decide, by decide, by omega, _, rfl, ?_⟩
  rcases told_jn R with ⟨dp1, wd', us', T', hin3⟩ | ⟨wd, w0, w1, w2, t1, t2, x, y, T', jw, hin, s1, s2, okj, dpj, hrd⟩
  · obtain ⟨wd, us, T, hw⟩ := told_wd R dp1
    refine ⟨_, T', _, at0, by decide, fun p1 hp1 => ?_⟩
    obtain ⟨H2, g2, S2, T2⟩ := fresh_tup (K := K) hp1 [V.str (Str.ofString "both"), V.str (Str.ofString "either"), V.str (Str.ofString "but")]
    rw [← g2]
    clear g2
    refine ⟨p1, _, rfl, .inr T2, rfl, rfl, _, rfl, ?_⟩
    rw [if_pos (by rw [show (if true = true then !inV (V.str wd') _ else inV (V.str wd') _) = !false from congrArg Bool.not hin3]; rfl)]
    have SA := S2
    refine ⟨_, _, _, rfl, by decide, by decide, by decide, _, rfl, ?_⟩
    by_cases h : 0 < mix3 c 23 3
    · rw [if_pos h]
      refine ⟨by decide, ?_⟩
      refine ⟨_, (Same.tup SA T), _, at0, by decide, fun p1 hp1 => ?_⟩
      obtain ⟨H2, g2, S2, T2⟩ := fresh_tup (K := K) hp1 [V.str (Str.ofString "any"), V.str (Str.ofString "over")]
      rw [← g2]
      clear g2
      refine ⟨p1, _, rfl, .inr T2, rfl, rfl, _, rfl, ?_⟩
      have S02 := SA.trans S2
      rcases hw with ⟨ao, hi2⟩ | ⟨on, hi2⟩
      · rw [if_pos (by exact hi2)]
        exact ⟨by decide, by decide, fun p hp => q _ _ (S02.trans (same_new hp _)) (dt_tup (SqT.of upd_same) (dt2 ⟨_, .bl _⟩ ⟨_, .non⟩))⟩
      · rw [if_neg (by rw [show (if false = true then _ else inV (V.str wd) _) = false from hi2]; decide)]
        have hb : (0 : Int) ≤ (if V.int (mix3 c 21 2) = V.int 1 then 0 else 1) ∧ (if V.int (mix3 c 21 2) = V.int 1 then (0 : Int) else 1) < 2 := by split <;> decide
        refine ⟨hb.1, ?_⟩
        obtain ⟨x, m', e⟩ := menu_at (L := [V.int (mix3 c 22 (m + 2) - 1), V.non]) hb.1 hb.2
        refine ⟨x, e, by decide, fun p hp => q _ _ (S02.trans (same_new hp _)) (dt_tup (SqT.of upd_same) (dt2 ⟨_, .bl _⟩ ?_))⟩
        exact dt2 ⟨_, .int _⟩ ⟨_, .non⟩ x m'
    · rw [if_neg h]
      have i2 := mix3_in c 24 (show (0 : Int) < 2 by decide)
      refine ⟨by decide, _, _, _, rfl, by decide, by decide, by decide, _, rfl, i2.1, ?_⟩
      obtain ⟨x, m', e⟩ := menu_at (L := [V.int (mix3 c 22 (m + 2) - 1), V.non]) i2.1 i2.2
      refine ⟨x, e, by decide, fun p hp => q _ _ (SA.trans (same_new hp _)) (dt_tup (SqT.of upd_same) (dt2 ⟨_, .bl _⟩ ?_))⟩
      exact dt2 ⟨_, .int _⟩ ⟨_, .non⟩ x m'
  · have hin' := hin
    refine ⟨_, T', _, at0, by decide, fun p1 hp1 => ?_⟩
    obtain ⟨H2, g2, S2, T2⟩ := fresh_tup (K := K) hp1 [V.str (Str.ofString "both"), V.str (Str.ofString "either"), V.str (Str.ofString "but")]
    rw [← g2]
    clear g2
    refine ⟨p1, _, rfl, .inr T2, rfl, rfl, _, rfl, ?_⟩
    rw [if_neg (by rw [show (if true = true then !inV (V.str wd) _ else inV (V.str wd) _) = !true from congrArg Bool.not hin]; decide)]
    refine ⟨_, Same.tup S2 T', _, at1, _, _, _, rfl, by decide, by decide, by decide, t1, x, _, m, rfl, s1.same S2, by omega, m1, m4, fun v1 H3 S3 D1 => ?_⟩
    have S03 := S2.trans S3
    refine ⟨_, Same.tup S03 T', _, at2, _, _, _, rfl, by decide, by decide, by decide, t2, y, _, m, rfl, s2.same S03, by omega, m1, m4, fun v2 H4 S4 D2 => ?_⟩
    have S04 := S03.trans S4
    refine ⟨_, Same.tup S04 T', _, at0, wd, w0, w1, w2, rfl, jw, fun l H5 S5 hl => ?_⟩
    have S05 := S04.trans S5
    refine ⟨_, rfl, _, SqL.of hl, _, at0, rfl, ?_⟩
    by_cases h : V.bl (decide (V.int (mix3 c 21 2) = V.int 1)) = V.bl w0
    · rw [if_pos h]
      exact ⟨by decide, fun p hp => q _ _ (S05.trans (same_new hp _)) (dt_tup (SqT.of upd_same) (dt3 ⟨_, .bl _⟩ (D1.same (S4.trans (S5.trans (same_new hp _)))) (D2.same (S5.trans (same_new hp _)))))⟩
    · rw [if_neg h]
      have i2 := mix3_in c 27 (show (0 : Int) < 2 by decide)
      refine ⟨_, _, _, rfl, by decide, by decide, by decide, by decide, _, rfl, i2.1, ?_⟩
      obtain ⟨x, m', e⟩ := menu_at (L := [v1, v2]) i2.1 i2.2
      refine ⟨x, e, by decide, fun p hp => q _ _ (S05.trans (same_new hp _)) (dt_tup (SqT.of upd_same) (dt3 ⟨_, .bl _⟩ ⟨_, .int _⟩ ?_))⟩
      exact dt2 (D1.same (S4.trans (S5.trans (same_new hp _)))) (D2.same (S5.trans (same_new hp _))) x m'
theorem ok_law_spoilt (F : Fun K "_law_spoilt" "_law_spoilt" s_law_spoilt f fd) (M : Mg mg) (C_law_put : Cal P w K mg base CX0 "_law_put" 1 ["_law_thing", "_law_cell_here"] (spPut K)) (C_law_turned : Cal P w K mg base CX0 "_law_turned" 1 ["_law_reason_here", "_law_cell_here"] (spTurned K)) (b : Binds K fd ["_law_reason_here", "_law_number"] []) (kp : PySem.W.keepIn K (.ref f) = true) (m : mg "_law_spoilt" = some (.ref f)) : ∀ d : Nat, FnOk P w K mg base CX0 (d + 2) f fd ["_law_reason_here", "_law_number"] (spSpoilt K d)
  | 0 => by
    refine F.ok sc_law_spoilt (fun vs H Q E h => ?_) (fun cdv A outer s H vs Q E hr h => ?_)
    · obtain ⟨a, c, dt, rfl, _⟩ := h
      rfl
    obtain ⟨a, c, dt, rfl, R, o, q⟩ := h
    cases o
  | d + 1 => step_spoilt (L := d) F M C_law_put C_law_turned ⟨⟨f, fd, ok_law_spoilt F M C_law_put C_law_turned b kp m d, b, kp, m⟩⟩
theorem ok_law_wild (F : Fun K "_law_wild" "_law_wild" s_law_wild f fd) (M : Mg mg) (C_law_mix : Cal P w K mg base CX0 "_law_mix" 1 ["_law_number", "_law_k", "_law_many"] spMix3) (C_law_pair : Cal P w K mg base CX0 "_law_pair" 1 ["_law_word"] (spPair K)) (b : Binds K fd ["_law_told", "_law_number", "_law_many"] []) (kp : PySem.W.keepIn K (.ref f) = true) (m : mg "_law_wild" = some (.ref f)) : ∀ d : Nat, FnOk P w K mg base CX0 (d + 2) f fd ["_law_told", "_law_number", "_law_many"] (spWild K d)
  | 0 => by
    refine F.ok sc_law_wild (fun vs H Q E h => ?_) (fun cdv A outer s H vs Q E hr h => ?_)
    · obtain ⟨t, n, c, m, rfl, _⟩ := h
      rfl
    obtain ⟨t, n, c, m, rfl, R, dp, m1, m4, q⟩ := h
    have := Nt.dp_pos n
    omega
  | d + 1 => step_wild (L := d) F M C_law_mix C_law_pair ⟨⟨f, fd, ok_law_wild F M C_law_mix C_law_pair b kp m d, b, kp, m⟩⟩
end

def spGoodR (K : PySem.W.Frag) : Sp := fun vs H Q _ => ∃ (t kl lt : Addr) (v : V) (n : Nt) (ks : List Kd2) (lk : List Int), vs = [.ref t, .ref kl, .ref lt, v] ∧ ToldAt K H (.ref t) n ∧ n.ok ∧ n.dp ≤ 5 ∧ Ground K H kl lt ks lk ∧ Dt K H v ∧ ∀ H', Same H H' → Q (.bl true) H'
theorem ob_mk {P : Params} {K : PySem.W.Frag} {c d1 d2 d3 : Addr} {k1 k2 k3 : Tok} {ep n1 n2 n3 : Nat} {o1 o2 o3 : Option Addr} {s1 s2 s3 : Array (Option Value)} (sm : (c == sysModules) = false)
    (ob : K.lookup c = some ⟨.type "dict", none, .dict #[⟨PyData.keyHash P "both", .str "both" k1, .ref d1⟩, ⟨PyData.keyHash P "either", .str "either" k2, .ref d2⟩, ⟨PyData.keyHash P "but", .str "but" k3, .ref d3⟩] ep, #[]⟩)
    (h1 : K.lookup d1 = some ⟨.type "tuple", o1, .seq #[.bool true, .bool true, .bool true] n1, s1⟩) (h2 : K.lookup d2 = some ⟨.type "tuple", o2, .seq #[.bool false, .bool false, .bool false] n2, s2⟩) (h3 : K.lookup d3 = some ⟨.type "tuple", o3, .seq #[.bool true, .bool true, .bool false] n3, s3⟩) : OBok P K c :=
  ⟨d1, d2, d3, ⟨sm, (by show List.Nodup [("both" : Str), "either", "but"]; decide), _, _, ob, ⟨_, rfl⟩, rfl, rfl, ⟨_, rfl⟩, rfl, rfl, ⟨_, rfl⟩, rfl, rfl, trivial⟩,
    fun H => .inr ⟨_, _, _, h1, rfl, rfl, by decide, .cons rfl (.cons rfl (.cons rfl .nil))⟩, fun H => .inr ⟨_, _, _, h2, rfl, rfl, by decide, .cons rfl (.cons rfl (.cons rfl .nil))⟩, fun H => .inr ⟨_, _, _, h3, rfl, rfl, by decide, .cons rfl (.cons rfl (.cons rfl .nil))⟩⟩
section
variable {P : Program} {w : World} {K : PySem.W.Frag} {mg : Str → Option Value} {base : Heap} {f : Addr} {fd : FuncData}
theorem ok_law_good (F : Fun K "_law_good" "_law_good" s_law_good f fd) (M : Mg mg) (C_truth_of : Cal P w K mg base CX0 "truth_of" 20 ["told", "kinds", "look", "reason"] (spTruth K)) (C_law_reads : Cal P w K mg base CX0 "_law_reads" 8 ["_law_told", "_law_kinds_here", "_law_look_here", "_law_reason_here"] (spReads K 5)) (C_law_claims : Cal P w K mg base CX0 "_law_claims" 8 ["_law_told", "_law_kinds_here", "_law_look_here"] (spLClaims K 5)) : FnOk P w K mg base CX0 21 f fd ["_law_told", "_law_kinds_here", "_law_look_here", "_law_reason_here"] (spGoodR K) := by
  refine F.ok sc_law_good (fun vs H Q E h => ?_) (fun cdv A outer s H vs Q E hr h => ?_)
  · obtain ⟨t, kl, lt, v, n, ks, lk, rfl, _⟩ := h
    rfl
  obtain ⟨t, kl, lt, v, n, ks, lk, rfl, R, ok, dp, G, ⟨dt, Rv⟩, q⟩ := h
  obtain ⟨kx, L, A⟩ := G.kx
  refine ⟨_, (@pss_cons _ _ _ _ _ (@ps_set _ _ 4 _ _ _ _ sc_law_good.nd rfl l_law_good_4 (@pe_callC _ _ _ _ _ _ _ _ _ _ _ C_truth_of hr g_law_good_truth_of (@pa_cons _ _ _ _ _ (@pe_var _ 0 _ _ rfl v_law_good_0 dn__law_told dc__law_told) (@pa_cons _ _ _ _ _ (@pe_callTy _ _ _ _ _ _ _ _ _ call_listL g_law_good_list M.m_list b_list (@pa_cons _ _ _ _ _ (@pe_var _ 1 _ _ rfl v_law_good_1 dn__law_kinds_here dc__law_kinds_here) (@pa_nil _) (star1 rfl)) nn_list dn_list (star1 rfl) nost0) (@pa_cons _ _ _ _ _ (@pe_var _ 2 _ _ rfl v_law_good_2 dn__law_look_here dc__law_look_here) (@pa_cons _ _ _ _ _ (@pe_var _ 3 _ _ rfl v_law_good_3 dn__law_reason_here dc__law_reason_here) (@pa_nil _) (star1 rfl)) (star1 rfl)) (star1 rfl)) (star1 rfl)) (by decide) dn_truth_of (star1 rfl) (nost1 rfl (nost1 rfl (nost1 rfl nost0)))) (swap1 rfl) (.inl rfl)) (@pss_cons _ _ _ _ _ (@ps_set _ _ 5 _ _ _ _ sc_law_good.nd rfl l_law_good_5 (@pe_callC _ _ _ _ _ _ _ _ _ _ _ C_law_reads hr g_law_good__law_reads (@pa_cons _ _ _ _ _ (@pe_var _ 0 _ _ rfl v_law_good_0 dn__law_told dc__law_told) (@pa_cons _ _ _ _ _ (@pe_var _ 1 _ _ rfl v_law_good_1 dn__law_kinds_here dc__law_kinds_here) (@pa_cons _ _ _ _ _ (@pe_var _ 2 _ _ rfl v_law_good_2 dn__law_look_here dc__law_look_here) (@pa_cons _ _ _ _ _ (@pe_var _ 3 _ _ rfl v_law_good_3 dn__law_reason_here dc__law_reason_here) (@pa_nil _) (star1 rfl)) (star1 rfl)) (star1 rfl)) (star1 rfl)) (by decide) dn__law_reads (star1 rfl) (nost1 rfl (nost1 rfl (nost1 rfl nost0)))) (swap1 rfl) (.inl rfl)) (@pss_cons _ _ _ _ _ (@ps_if _ _ _ _ _ _ _ _ (@pt_cmpR _ _ _ _ _ _ _ _ (@op_isN _) (@pe_var _ 5 _ _ rfl v_law_good_5 dn__law_due dc__law_due) (@pe_non _ _ _) (nomark _)) (@pss_one _ _ _ (@ps_ret _ _ _ _ (@pe_cmpR _ _ _ _ _ _ _ _ (@op_isN _) (@pe_var _ 4 _ _ rfl v_law_good_4 dn__law_found dc__law_found) (@pe_non _ _ _) (nomark _)))) (@pss_nil _)) (@pss_one _ _ _ (@ps_ret _ _ _ _ (@pe_and _ _ _ _ _ _ _ (@pe_callB _ _ _ _ _ _ _ _ _ call_isi g_law_good_isinstance M.m_isinstance b_isinstance (@pa_cons _ _ _ _ _ (@pe_var _ 4 _ _ rfl v_law_good_4 dn__law_found dc__law_found) (@pa_cons _ _ _ _ _ (@pe_bltn _ _ (.ty "bool") _ _ g_law_good_bool M.m_bool b_bool rfl nn_bool dn_bool) (@pa_nil _) (star1 rfl)) (star1 rfl)) nn_isinstance dn_isinstance (star1 rfl) (nost1 rfl nost0)) (@pe_and _ _ _ _ _ _ _ (@pe_cmpR _ _ _ _ _ _ _ _ (@op_eq _) (@pe_var _ 4 _ _ rfl v_law_good_4 dn__law_found dc__law_found) (@pe_var _ 5 _ _ rfl v_law_good_5 dn__law_due dc__law_due) (nomark _)) (@pe_one _ _ _ _ _ (@pe_cmpR _ _ _ _ _ _ _ _ (@op_eq _) (@pe_var _ 4 _ _ rfl v_law_good_4 dn__law_found dc__law_found) (@pe_callC _ _ _ _ _ _ _ _ _ _ _ C_law_claims hr g_law_good__law_claims (@pa_cons _ _ _ _ _ (@pe_var _ 0 _ _ rfl v_law_good_0 dn__law_told dc__law_told) (@pa_cons _ _ _ _ _ (@pe_var _ 1 _ _ rfl v_law_good_1 dn__law_kinds_here dc__law_kinds_here) (@pa_cons _ _ _ _ _ (@pe_var _ 2 _ _ rfl v_law_good_2 dn__law_look_here dc__law_look_here) (@pa_nil _) (star1 rfl)) (star1 rfl)) (star1 rfl)) (by decide) dn__law_claims (star1 rfl) (nost1 rfl (nost1 rfl nost0))) (nomark _)))))))))), ?_⟩
  simp only [slots, Option.getD_some, Option.getD_none, tSeq, tAsg, gName, tOp, tC, tVar, tCB, tCons, tNil, tCall, tRet, tIfS, tTest, tAndV, tNext, rEq, rIsi, isi_non_bl, isi_non_int, isi_non_str, isi_non_lst, isi_non_tup, isi_bl_bl, isi_bl_int, isi_bl_str, isi_bl_lst, isi_bl_tup, isi_int_bl, isi_int_int, isi_int_str, isi_int_lst, isi_int_tup, isi_str_bl, isi_str_int, isi_str_str, isi_str_lst, isi_str_tup, isi_lst_bl, isi_lst_int, isi_lst_str, isi_lst_lst, isi_lst_tup, isi_tup_bl, isi_tup_int, isi_tup_str, isi_tup_lst, isi_tup_tup, isi_dct_bl, isi_dct_int, isi_dct_str, isi_dct_lst, isi_dct_tup, Kd_non, Kd_bl, Kd_int, Kd_str, sc_non_non, sc_non_int, sc_int_non, sc_non_bl, sc_bl_non, sc_non_str, sc_str_non, sc_int_int, sc_bl_bl, sc_str_str, sc_int_str, sc_str_int, sc_bl_str, sc_str_bl, decide_true, decide_false, tyK_int, tyK_bool, tyK_str, tyK_list, tyK_tuple, L2.start, cxK, Int.reduceToNat, List.map_cons, List.map_nil, List.length_cons, List.length_nil, Nat.reduceAdd, Nat.reduceSub, Nat.zero_add, List.replicate_succ, List.replicate_zero, List.cons_append, List.nil_append, List.append_nil, List.getElem?_cons_zero, List.getElem?_cons_succ, List.set_cons_zero, List.set_cons_succ, Option.some.injEq, V.int.injEq, V.bl.injEq, V.ref.injEq, V.str.injEq, V.ty.injEq, List.cons.injEq, exists_eq_left', exists_eq_left, exists_eq_right, exists_and_left, exists_and_right, and_true, true_and, and_assoc, exists_const, decide_eq_true_eq, Bool.not_eq_true', Bool.not_true, Bool.not_false, Bool.not_not, decide_eq_false_iff_not, ite_not, Bool.false_eq_true, if_true, if_false, reduceCtorEq, and_false, false_and, exists_false, or_false, false_or, ↓reduceIte, eq_self, reduceIte]
  refine ⟨kx, L, fun l hl => ?_⟩
  have S0 := same_new hl (.lst kx)
  refine ⟨t, l, lt, v, n, ks, lk, dt, rfl, R.same S0, ok, dp, ⟨⟨kx, SqL.of upd_same, A.same S0⟩, Same.tup S0 G.look, G.len, G.pos, G.le, G.ok, G.nn⟩, Rv.same S0, fun H1 S1 => ?_⟩
  have S01 := S0.trans S1
  refine ⟨t, kl, lt, v, n, ks, lk, dt, rfl, R.same S01, ok, dp, G.same S01, Rv.same S01, fun H2 S2 => ?_⟩
  have S02 := S01.trans S2
  dsimp only
  rcases rdV_cases ks lk n dt with ⟨a1, _⟩ | ⟨c, a1, a2⟩
  · rw [if_pos a1, a1, decide_eq_true rfl]
    exact q _ S02
  · have hc : c = claimsB ks lk n := by
      have e := a2 c
      rw [decide_eq_true rfl] at e
      obtain ⟨r, _, h⟩ := sayF_inv e
      exact rd_claims G.len h
    rw [if_neg (by rw [a1]; exact fun z => by cases z), a1]
    refine ⟨.bl, rfl, ?_⟩
    rw [if_pos (by decide)]
    refine ⟨rfl, ?_⟩
    rw [if_pos rfl]
    refine ⟨t, kl, lt, n, ks, lk, rfl, R.same S02, ok, dp, G.same S02, fun H3 S3 => ⟨rfl, ?_⟩⟩
    rw [decide_eq_true (by rw [hc])]
    exact q _ (S02.trans S3)
theorem ok_law (F : Fun K "law" "law" s_law f fd) (M : Mg mg) (C_law_cell : Cal P w K mg base CX0 "_law_cell" 1 ["_law_script", "_law_k"] (spCell K)) (C_law_mix : Cal P w K mg base CX0 "_law_mix" 1 ["_law_number", "_law_k", "_law_many"] spMix3) (C_law_words : Cal P w K mg base CX0 "_law_words" 1 ["_law_cell_here", "_law_many"] (spWords K)) (C_law_kinds : Cal P w K mg base CX0 "_law_kinds" 1 ["_law_cell_here", "_law_words_here"] (spKinds3 K))
    (C_law_note : Cal P w K mg base CX0 "_law_note" 8 ["_law_number", "_law_deep", "_law_kinds_here", "_law_words_here"] (spNoteU K)) (C_law_look : Cal P w K mg base CX0 "_law_look" 2 ["_law_cell_here", "_law_many"] (spLook K)) (C_law_reason : Cal P w K mg base CX0 "_law_reason" 8 ["_law_told", "_law_kinds_here", "_law_look_here"] (spReason K 5)) (C_law_spoilt : Cal P w K mg base CX0 "_law_spoilt" 7 ["_law_reason_here", "_law_number"] (spSpoilt K 5)) (C_law_wild : Cal P w K mg base CX0 "_law_wild" 7 ["_law_told", "_law_number", "_law_many"] (spWild K 5))
    (C_law_good : Cal P w K mg base CX0 "_law_good" 21 ["_law_told", "_law_kinds_here", "_law_look_here", "_law_reason_here"] (spGoodR K)) (C_truth_of : Cal P w K mg base CX0 "truth_of" 20 ["told", "kinds", "look", "reason"] (spTruth K)) : FnOk P w K mg base CX0 22 f fd ["_law_script"] (spLaw K) := by
  refine F.ok sc_law (fun vs H Q E h => ?_) (fun cdv A outer s H vs Q E hr h => ?_)
  · obtain ⟨a, ns, rfl, _⟩ := h
    rfl
  obtain ⟨a, ns, rfl, hS, hl, q⟩ := h
  refine ⟨_, (@pss_cons _ _ _ _ _ (@ps_set _ _ 1 _ _ _ _ sc_law.nd rfl l_law_1 (@pe_callC _ _ _ _ _ _ _ _ _ _ _ C_law_words hr g_law__law_words (@pa_cons _ _ _ _ _ (@pe_callC _ _ _ _ _ _ _ _ _ _ _ C_law_cell hr g_law__law_cell (@pa_cons _ _ _ _ _ (@pe_var _ 0 _ _ rfl v_law_0 dn__law_script dc__law_script) (@pa_cons _ _ _ _ _ (@pe_int _ _ _ _) (@pa_nil _) (star1 rfl)) (star1 rfl)) (by decide) dn__law_cell (star1 rfl) (nost1 rfl nost0)) (@pa_cons _ _ _ _ _ (@pe_int _ _ _ _) (@pa_nil _) (star1 rfl)) (star1 rfl)) (by decide) dn__law_words (star1 rfl) (nost1 rfl nost0)) (swap1 rfl) (.inl rfl)) (@pss_cons _ _ _ _ _ (@ps_set _ _ 2 _ _ _ _ sc_law.nd rfl l_law_2 (@pe_callC _ _ _ _ _ _ _ _ _ _ _ C_law_kinds hr g_law__law_kinds (@pa_cons _ _ _ _ _ (@pe_callC _ _ _ _ _ _ _ _ _ _ _ C_law_cell hr g_law__law_cell (@pa_cons _ _ _ _ _ (@pe_var _ 0 _ _ rfl v_law_0 dn__law_script dc__law_script) (@pa_cons _ _ _ _ _ (@pe_int _ _ _ _) (@pa_nil _) (star1 rfl)) (star1 rfl)) (by decide) dn__law_cell (star1 rfl) (nost1 rfl nost0)) (@pa_cons _ _ _ _ _ (@pe_var _ 1 _ _ rfl v_law_1 dn__law_words_here dc__law_words_here) (@pa_nil _) (star1 rfl)) (star1 rfl)) (by decide) dn__law_kinds (star1 rfl) (nost1 rfl nost0)) (swap1 rfl) (.inl rfl)) (@pss_cons _ _ _ _ _ (@ps_set _ _ 3 _ _ _ _ sc_law.nd rfl l_law_3 (@pe_tup _ _ _ _ _ (@pa_cons _ _ _ _ _ (@pe_str _ _ _ _) (@pa_nil _) (star1 rfl))) (swap1 rfl) (.inl rfl)) (@pss_cons _ _ _ _ _ (@ps_for _ _ _ _ _ _ _ _ PassesOwn.never rfl (@pi_range2 _ _ _ _ _ _ _ g_law_range M.m_range (@pa_cons _ _ _ _ _ (@pe_int _ _ _ _) (@pa_cons _ _ _ _ _ (@pe_callB _ _ _ _ _ _ _ _ _ (call_max2 rfl) g_law_max M.m_max b_max (@pa_cons _ _ _ _ _ (@pe_int _ _ _ _) (@pa_cons _ _ _ _ _ (@pe_callB _ _ _ _ _ _ _ _ _ (call_min2 rfl) g_law_min M.m_min b_min (@pa_cons _ _ _ _ _ (@pe_callB _ _ _ _ _ _ _ _ _ call_len_seq g_law_len M.m_len b_len (@pa_cons _ _ _ _ _ (@pe_var _ 0 _ _ rfl v_law_0 dn__law_script dc__law_script) (@pa_nil _) (star1 rfl)) nn_len dn_len (star1 rfl) nost0) (@pa_cons _ _ _ _ _ (@pe_int _ _ _ _) (@pa_nil _) (star1 rfl)) (star1 rfl)) nn_min dn_min (star1 rfl) (nost1 rfl nost0)) (@pa_nil _) (star1 rfl)) (star1 rfl)) nn_max dn_max (star1 rfl) (nost1 rfl nost0)) (@pa_nil _) (star1 rfl)) (star1 rfl)) (star2' rfl rfl) (star1' rfl)) (@pg_name _ _ 4 _ sc_law.nd rfl l_law_4 (.inl rfl)) (@pss_cons _ _ _ _ _ (@ps_set _ _ 5 _ _ _ _ sc_law.nd rfl l_law_5 (@pe_callC _ _ _ _ _ _ _ _ _ _ _ C_law_cell hr g_law__law_cell (@pa_cons _ _ _ _ _ (@pe_var _ 0 _ _ rfl v_law_0 dn__law_script dc__law_script) (@pa_cons _ _ _ _ _ (@pe_var _ 4 _ _ rfl v_law_4 dn__law_k dc__law_k) (@pa_nil _) (star1 rfl)) (star1 rfl)) (by decide) dn__law_cell (star1 rfl) (nost1 rfl nost0)) (swap1 rfl) (.inl rfl)) (@pss_cons _ _ _ _ _ (@ps_set _ _ 6 _ _ _ _ sc_law.nd rfl l_law_6 (@pe_callC _ _ _ _ _ _ _ _ _ _ _ C_law_note hr g_law__law_note (@pa_cons _ _ _ _ _ (@pe_var _ 5 _ _ rfl v_law_5 dn__law_cell_here dc__law_cell_here) (@pa_cons _ _ _ _ _ (@pe_menu _ _ _ _ _ _ _ (@pa_cons _ _ _ _ _ (@pe_int _ _ _ _) (@pa_cons _ _ _ _ _ (@pe_int _ _ _ _) (@pa_cons _ _ _ _ _ (@pe_int _ _ _ _) (@pa_cons _ _ _ _ _ (@pe_int _ _ _ _) (@pa_cons _ _ _ _ _ (@pe_int _ _ _ _) (@pa_cons _ _ _ _ _ (@pe_int _ _ _ _) (@pa_cons _ _ _ _ _ (@pe_int _ _ _ _) (@pa_cons _ _ _ _ _ (@pe_int _ _ _ _) (@pa_nil _) (star1 rfl)) (star1 rfl)) (star1 rfl)) (star1 rfl)) (star1 rfl)) (star1 rfl)) (star1 rfl)) (star1 rfl)) (@pe_callC _ _ _ _ _ _ _ _ _ _ _ C_law_mix hr g_law__law_mix (@pa_cons _ _ _ _ _ (@pe_var _ 5 _ _ rfl v_law_5 dn__law_cell_here dc__law_cell_here) (@pa_cons _ _ _ _ _ (@pe_int _ _ _ _) (@pa_cons _ _ _ _ _ (@pe_int _ _ _ _) (@pa_nil _) (star1 rfl)) (star1 rfl)) (star1 rfl)) (by decide) dn__law_mix (star1 rfl) (nost1 rfl (nost1 rfl nost0))) (fun _ _ => rfl)) (@pa_cons _ _ _ _ _ (@pe_var _ 2 _ _ rfl v_law_2 dn__law_kinds_here dc__law_kinds_here) (@pa_cons _ _ _ _ _ (@pe_var _ 1 _ _ rfl v_law_1 dn__law_words_here dc__law_words_here) (@pa_nil _) (star1 rfl)) (star1 rfl)) (star1 rfl)) (star1 rfl)) (by decide) dn__law_note (star1 rfl) (nost1 rfl (nost1 rfl (nost1 rfl nost0)))) (swap1 rfl) (.inl rfl)) (@pss_cons _ _ _ _ _ (@ps_set _ _ 7 _ _ _ _ sc_law.nd rfl l_law_7 (@pe_callC _ _ _ _ _ _ _ _ _ _ _ C_law_look hr g_law__law_look (@pa_cons _ _ _ _ _ (@pe_op _ _ _ _ _ _ _ _ (@op_fdivB _) (@pe_var _ 5 _ _ rfl v_law_5 dn__law_cell_here dc__law_cell_here) (@pe_int _ _ _ _)) (@pa_cons _ _ _ _ _ (@pe_callB _ _ _ _ _ _ _ _ _ call_len_seq g_law_len M.m_len b_len (@pa_cons _ _ _ _ _ (@pe_var _ 2 _ _ rfl v_law_2 dn__law_kinds_here dc__law_kinds_here) (@pa_nil _) (star1 rfl)) nn_len dn_len (star1 rfl) nost0) (@pa_nil _) (star1 rfl)) (star1 rfl)) (by decide) dn__law_look (star1 rfl) (nost1 rfl nost0)) (swap1 rfl) (.inl rfl)) (@pss_cons _ _ _ _ _ (@ps_set _ _ 8 _ _ _ _ sc_law.nd rfl l_law_8 (@pe_callC _ _ _ _ _ _ _ _ _ _ _ C_law_reason hr g_law__law_reason (@pa_cons _ _ _ _ _ (@pe_var _ 6 _ _ rfl v_law_6 dn__law_told dc__law_told) (@pa_cons _ _ _ _ _ (@pe_var _ 2 _ _ rfl v_law_2 dn__law_kinds_here dc__law_kinds_here) (@pa_cons _ _ _ _ _ (@pe_var _ 7 _ _ rfl v_law_7 dn__law_look_here dc__law_look_here) (@pa_nil _) (star1 rfl)) (star1 rfl)) (star1 rfl)) (by decide) dn__law_reason (star1 rfl) (nost1 rfl (nost1 rfl nost0))) (swap1 rfl) (.inl rfl)) (@pss_cons _ _ _ _ _ (@ps_if _ _ _ _ _ _ _ _ (@pt_not _ _ _ _ (@pt_val _ _ _ (@pe_callC _ _ _ _ _ _ _ _ _ _ _ C_law_good hr g_law__law_good (@pa_cons _ _ _ _ _ (@pe_var _ 6 _ _ rfl v_law_6 dn__law_told dc__law_told) (@pa_cons _ _ _ _ _ (@pe_var _ 2 _ _ rfl v_law_2 dn__law_kinds_here dc__law_kinds_here) (@pa_cons _ _ _ _ _ (@pe_var _ 7 _ _ rfl v_law_7 dn__law_look_here dc__law_look_here) (@pa_cons _ _ _ _ _ (@pe_callC _ _ _ _ _ _ _ _ _ _ _ C_law_spoilt hr g_law__law_spoilt (@pa_cons _ _ _ _ _ (@pe_var _ 8 _ _ rfl v_law_8 dn__law_right dc__law_right) (@pa_cons _ _ _ _ _ (@pe_op _ _ _ _ _ _ _ _ (@op_fdivB _) (@pe_var _ 5 _ _ rfl v_law_5 dn__law_cell_here dc__law_cell_here) (@pe_int _ _ _ _)) (@pa_nil _) (star1 rfl)) (star1 rfl)) (by decide) dn__law_spoilt (star1 rfl) (nost1 rfl nost0)) (@pa_nil _) (star1 rfl)) (star1 rfl)) (star1 rfl)) (star1 rfl)) (by decide) dn__law_good (star1 rfl) (nost1 rfl (nost1 rfl (nost1 rfl nost0)))) (test1 rfl))) (@pss_one _ _ _ (@ps_ret _ _ _ _ (@pe_bl _ _ _ _))) (@pss_nil _)) (@pss_cons _ _ _ _ _ (@ps_if _ _ _ _ _ _ _ _ (@pt_not _ _ _ _ (@pt_val _ _ _ (@pe_callC _ _ _ _ _ _ _ _ _ _ _ C_law_good hr g_law__law_good (@pa_cons _ _ _ _ _ (@pe_var _ 6 _ _ rfl v_law_6 dn__law_told dc__law_told) (@pa_cons _ _ _ _ _ (@pe_var _ 2 _ _ rfl v_law_2 dn__law_kinds_here dc__law_kinds_here) (@pa_cons _ _ _ _ _ (@pe_var _ 7 _ _ rfl v_law_7 dn__law_look_here dc__law_look_here) (@pa_cons _ _ _ _ _ (@pe_callC _ _ _ _ _ _ _ _ _ _ _ C_law_reason hr g_law__law_reason (@pa_cons _ _ _ _ _ (@pe_var _ 3 _ _ rfl v_law_3 dn__law_last dc__law_last) (@pa_cons _ _ _ _ _ (@pe_var _ 2 _ _ rfl v_law_2 dn__law_kinds_here dc__law_kinds_here) (@pa_cons _ _ _ _ _ (@pe_var _ 7 _ _ rfl v_law_7 dn__law_look_here dc__law_look_here) (@pa_nil _) (star1 rfl)) (star1 rfl)) (star1 rfl)) (by decide) dn__law_reason (star1 rfl) (nost1 rfl (nost1 rfl nost0))) (@pa_nil _) (star1 rfl)) (star1 rfl)) (star1 rfl)) (star1 rfl)) (by decide) dn__law_good (star1 rfl) (nost1 rfl (nost1 rfl (nost1 rfl nost0)))) (test1 rfl))) (@pss_one _ _ _ (@ps_ret _ _ _ _ (@pe_bl _ _ _ _))) (@pss_nil _)) (@pss_cons _ _ _ _ _ (@ps_if _ _ _ _ _ _ _ _ (@pt_not _ _ _ _ (@pt_val _ _ _ (@pe_callC _ _ _ _ _ _ _ _ _ _ _ C_law_good hr g_law__law_good (@pa_cons _ _ _ _ _ (@pe_var _ 6 _ _ rfl v_law_6 dn__law_told dc__law_told) (@pa_cons _ _ _ _ _ (@pe_var _ 2 _ _ rfl v_law_2 dn__law_kinds_here dc__law_kinds_here) (@pa_cons _ _ _ _ _ (@pe_var _ 7 _ _ rfl v_law_7 dn__law_look_here dc__law_look_here) (@pa_cons _ _ _ _ _ (@pe_callC _ _ _ _ _ _ _ _ _ _ _ C_law_wild hr g_law__law_wild (@pa_cons _ _ _ _ _ (@pe_var _ 6 _ _ rfl v_law_6 dn__law_told dc__law_told) (@pa_cons _ _ _ _ _ (@pe_var _ 5 _ _ rfl v_law_5 dn__law_cell_here dc__law_cell_here) (@pa_cons _ _ _ _ _ (@pe_callB _ _ _ _ _ _ _ _ _ call_len_seq g_law_len M.m_len b_len (@pa_cons _ _ _ _ _ (@pe_var _ 2 _ _ rfl v_law_2 dn__law_kinds_here dc__law_kinds_here) (@pa_nil _) (star1 rfl)) nn_len dn_len (star1 rfl) nost0) (@pa_nil _) (star1 rfl)) (star1 rfl)) (star1 rfl)) (by decide) dn__law_wild (star1 rfl) (nost1 rfl (nost1 rfl nost0))) (@pa_nil _) (star1 rfl)) (star1 rfl)) (star1 rfl)) (star1 rfl)) (by decide) dn__law_good (star1 rfl) (nost1 rfl (nost1 rfl (nost1 rfl nost0)))) (test1 rfl))) (@pss_one _ _ _ (@ps_ret _ _ _ _ (@pe_bl _ _ _ _))) (@pss_nil _)) (@pss_cons _ _ _ _ _ (@ps_if _ _ _ _ _ _ _ _ (@PW.pt _ _ _ (@pw_or _ _ _ _ _ _ _ (@pt_cmpR _ _ _ _ _ _ _ _ (@op_isN _) (@pe_callC _ _ _ _ _ _ _ _ _ _ _ C_truth_of hr g_law_truth_of (@pa_cons _ _ _ _ _ (@pe_var _ 6 _ _ rfl v_law_6 dn__law_told dc__law_told) (@pa_cons _ _ _ _ _ (@pe_callTy _ _ _ _ _ _ _ _ _ call_listL g_law_list M.m_list b_list (@pa_cons _ _ _ _ _ (@pe_var _ 2 _ _ rfl v_law_2 dn__law_kinds_here dc__law_kinds_here) (@pa_nil _) (star1 rfl)) nn_list dn_list (star1 rfl) nost0) (@pa_cons _ _ _ _ _ (@pe_var _ 7 _ _ rfl v_law_7 dn__law_look_here dc__law_look_here) (@pa_cons _ _ _ _ _ (@pe_var _ 8 _ _ rfl v_law_8 dn__law_right dc__law_right) (@pa_nil _) (star1 rfl)) (star1 rfl)) (star1 rfl)) (star1 rfl)) (by decide) dn_truth_of (star1 rfl) (nost1 rfl (nost1 rfl (nost1 rfl nost0)))) (@pe_non _ _ _) (nomark _)) (@pw_or1 _ _ _ _ (@pt_not _ _ _ _ (@pt_val _ _ _ (@pe_callC _ _ _ _ _ _ _ _ _ _ _ C_law_good hr g_law__law_good (@pa_cons _ _ _ _ _ (@pe_var _ 6 _ _ rfl v_law_6 dn__law_told dc__law_told) (@pa_cons _ _ _ _ _ (@pe_var _ 2 _ _ rfl v_law_2 dn__law_kinds_here dc__law_kinds_here) (@pa_cons _ _ _ _ _ (@pe_var _ 7 _ _ rfl v_law_7 dn__law_look_here dc__law_look_here) (@pa_cons _ _ _ _ _ (@pe_var _ 8 _ _ rfl v_law_8 dn__law_right dc__law_right) (@pa_nil _) (star1 rfl)) (star1 rfl)) (star1 rfl)) (star1 rfl)) (by decide) dn__law_good (star1 rfl) (nost1 rfl (nost1 rfl (nost1 rfl nost0)))) (test1 rfl)))))) (@pss_one _ _ _ (@ps_ret _ _ _ _ (@pe_bl _ _ _ _))) (@pss_nil _)) (@pss_one _ _ _ (@ps_set _ _ 3 _ _ _ _ sc_law.nd rfl l_law_3 (@pe_var _ 6 _ _ rfl v_law_6 dn__law_told dc__law_told) (swap1 rfl) (.inl rfl))))))))))) (by intro _; rfl)) (@pss_one _ _ _ (@ps_ret _ _ _ _ (@pe_bl _ _ _ _))))))), ?_⟩
  simp only [slots, Option.getD_some, Option.getD_none, tSeq, tAsg, gName, tOp, tC, tVar, tCB, tCons, tNil, tCall, rI, tRet, tIfS, tTest, tB, tOr, tNot, tMenu, tTup, tNext, Kd_non, Kd_bl, Kd_int, Kd_str, decide_true, decide_false, tFor_eq, iRng2, L2.start, cxK, Int.reduceToNat, List.map_cons, List.map_nil, List.length_cons, List.length_nil, Nat.reduceAdd, Nat.reduceSub, Nat.zero_add, List.replicate_succ, List.replicate_zero, List.cons_append, List.nil_append, List.append_nil, List.getElem?_cons_zero, List.getElem?_cons_succ, List.set_cons_zero, List.set_cons_succ, Option.some.injEq, V.int.injEq, V.bl.injEq, V.ref.injEq, V.str.injEq, V.ty.injEq, List.cons.injEq, exists_eq_left', exists_eq_left, exists_eq_right, exists_and_left, exists_and_right, and_true, true_and, and_assoc, exists_const, decide_eq_true_eq, Bool.not_eq_true', Bool.not_true, Bool.not_false, Bool.not_not, decide_eq_false_iff_not, ite_not, Bool.false_eq_true, if_true, if_false, reduceCtorEq, and_false, false_and, exists_false, or_false, false_or, ↓reduceIte, eq_self, reduceIte]
  refine spCell_of hS hl (by decide) (by decide) ⟨_, rfl, (Mth.cell_in _ _).1, fun wl H1 ws S1 nw LW lw nmw => ?_⟩
  refine spCell_of (S1.seq hS) hl (by decide) (by decide) ⟨_, wl, ws, rfl, (Mth.cell_in _ _).1, LW, lw, nmw, fun kl kx ks H3 S2 nk LK TK k1 k4 okk => ?_⟩
  refine ⟨by decide, fun pa hpa => ?_⟩
  obtain ⟨H4, g4, S4, T4⟩ := fresh_tup (K := K) hpa [V.str (Str.ofString "any")]
  rw [← g4]
  clear g4
  have S04 : Same H H4 := S1.trans (S2.trans S4)
  have hS4 := S04.seq hS
  refine ⟨_, .inl hS4, by decide, by decide, ?_⟩
  obtain ⟨m, hm, m5, m26⟩ : ∃ m : Int, (if (if (26 : Int) < ((ns.map V.int).length : Int) then 26 else ((ns.map V.int).length : Int)) > 5 then if (26 : Int) < ((ns.map V.int).length : Int) then 26 else ((ns.map V.int).length : Int) else 5) = m ∧ 5 ≤ m ∧ m ≤ 26 := by
    refine ⟨_, rfl, ?_, ?_⟩ <;> repeat (first | omega | split)
  rw [hm]
  clear hm
  refine ⟨by omega, by omega, ?_⟩
  have KA : KnA K H4 kx ks := (TpD.kna TK).same S4
  replace LW := S4 _ _ (S2 _ _ LW)
  replace LK := S4 _ _ LK
  have q' := q
  have lx := KA.length
  clear S1 S2 S4 S04 hS q TK
  obtain ⟨Pv, hP⟩ : ∃ Pv : Nat → St → Hp → Prop, Pv = fun _ σ H' => ∃ (pl : Addr) (nl : Nt) (o4 o5 o6 o7 o8 : Option V), σ = [some (V.ref a), some (.ref wl), some (.ref kl), some (.ref pl), o4, o5, o6, o7, o8] ∧ ToldAt K H' (.ref pl) nl ∧ nl.ok ∧ nl.dp ≤ 5 ∧ Same H4 H' := ⟨_, rfl⟩
  refine forW_range Pv ?_ ?_ ?_
  · rw [hP]
    exact ⟨pa, .any, _, _, _, _, _, rfl, .tup T4 (.cons (.str _) .nil), trivial, by decide, Same.refl _⟩
  · intro i σ H' hi h
    rw [hP] at h
    obtain ⟨pl, nl, o4, o5, o6, o7, o8, rfl, Rl, okl, dpl, S5⟩ := h
    simp only [slots, Option.getD_some, Option.getD_none, tSeq, tAsg, gName, tOp, tC, tVar, tCB, tCons, tNil, tCall, rI, tRet, tIfS, tTest, tB, tOr, tNot, tMenu, tTup, tNext, Kd_non, Kd_bl, Kd_int, Kd_str, decide_true, decide_false, tFor_eq, iRng2, L2.start, cxK, Int.reduceToNat, List.map_cons, List.map_nil, List.length_cons, List.length_nil, Nat.reduceAdd, Nat.reduceSub, Nat.zero_add, List.replicate_succ, List.replicate_zero, List.cons_append, List.nil_append, List.append_nil, List.getElem?_cons_zero, List.getElem?_cons_succ, List.set_cons_zero, List.set_cons_succ, Option.some.injEq, V.int.injEq, V.bl.injEq, V.ref.injEq, V.str.injEq, V.ty.injEq, List.cons.injEq, exists_eq_left', exists_eq_left, exists_eq_right, exists_and_left, exists_and_right, and_true, true_and, and_assoc, exists_const, decide_eq_true_eq, Bool.not_eq_true', Bool.not_true, Bool.not_false, Bool.not_not, decide_eq_false_iff_not, ite_not, Bool.false_eq_true, if_true, if_false, reduceCtorEq, and_false, false_and, exists_false, or_false, false_or, ↓reduceIte, eq_self, reduceIte]
    refine spCell_of (S5.seq hS4) hl (by omega) (by omega) ?_
    obtain ⟨c, hc⟩ : ∃ c, Mth.cell ns (2 + (i : Int)) = c := ⟨_, rfl⟩
    rw [hc]
    clear hc
    refine ⟨by decide, c, 9, 8, rfl, by decide, by decide, by decide, ?_⟩
    have i8 := mix3_in c 9 (show (0 : Int) < 8 by decide)
    obtain ⟨j, hj⟩ : ∃ j : Int, mix3 c 9 8 = j := ⟨_, rfl⟩
    rw [hj] at i8 ⊢
    clear hj
    obtain ⟨d, hd, d1, d5⟩ : ∃ d : Nat, ([V.int 3, V.int 2, V.int 3, V.int 5, V.int 3, V.int 2, V.int 3, V.int 3] : List V)[j.toNat]? = some (.int (d : Int)) ∧ 1 ≤ d ∧ d ≤ 5 := by
      have : j = 0 ∨ j = 1 ∨ j = 2 ∨ j = 3 ∨ j = 4 ∨ j = 5 ∨ j = 6 ∨ j = 7 := by omega
      rcases this with e | e | e | e | e | e | e | e <;> subst e
      · exact ⟨3, rfl, by decide, by decide⟩
      · exact ⟨2, rfl, by decide, by decide⟩
      · exact ⟨3, rfl, by decide, by decide⟩
      · exact ⟨5, rfl, by decide, by decide⟩
      · exact ⟨3, rfl, by decide, by decide⟩
      · exact ⟨2, rfl, by decide, by decide⟩
      · exact ⟨3, rfl, by decide, by decide⟩
      · exact ⟨3, rfl, by decide, by decide⟩
    refine ⟨j, rfl, i8.1, _, hd, d, d5, c, kl, wl, kx, ks, ws, rfl, d1, S5 _ _ LK, KA.same S5, k1, k4, okk, S5 _ _ LW, lw, nmw, fun pm J1 nm S6 Rm okm dpm => ?_⟩
    have d5' : nm.dp ≤ 5 := Nat.le_trans dpm d5
    have S56 := S5.trans S6
    refine ⟨c, rfl, cdiv (by decide) (by decide), kx, .inl (SqL.of (S56 _ _ LK)), _, ks.length, by rw [lx], k1, k4, fun lp lk J2 S7 TL ll nn => ?_⟩
    have gr : Ground K J2 kl lp ks lk := ⟨⟨kx, SqL.of (S7 _ _ (S56 _ _ LK)), KA.same (S56.trans S7)⟩, TL, ll, k1, k4, okk, nn⟩
    refine ⟨pm, kl, lp, nm, ks, lk, rfl, Rm.same S7, okm, d5', gr, fun pr J3 b r S8 Rr hrd ors => ?_⟩
    refine ⟨c, rfl, cdiv (by decide) (by decide), pr, _, _, rfl, Rr, ors, fun v1 J4 S9 D1 => ?_⟩
    have B4 := S8.trans S9
    refine ⟨pm, kl, lp, v1, nm, ks, lk, rfl, Rm.same (S7.trans B4), okm, d5', gr.same B4, D1, fun J5 S10 => ⟨_, rfl, ?_⟩⟩
    rw [if_neg (by decide)]
    have B5 := B4.trans S10
    refine ⟨pl, kl, lp, nl, ks, lk, rfl, Rl.same (S6.trans (S7.trans B5)), okl, dpl, gr.same B5, fun pr2 J6 b2 r2 S11 Rr2 h2 o2 => ?_⟩
    have B6 := B5.trans S11
    refine ⟨pm, kl, lp, _, nm, ks, lk, rfl, Rm.same (S7.trans B6), okm, d5', gr.same B6, ⟨_, Rr2⟩, fun J7 S12 => ⟨_, rfl, ?_⟩⟩
    rw [if_neg (by decide)]
    have B7 := B6.trans S12
    refine ⟨kx, .inl (SqL.of (B7 _ _ (S7 _ _ (S56 _ _ LK)))), pm, nm, c, _, rfl, Rm.same (S7.trans B7), d5', by omega, by omega, fun v3 J8 S13 D3 => ?_⟩
    have B8 := B7.trans S13
    refine ⟨pm, kl, lp, v3, nm, ks, lk, rfl, Rm.same (S7.trans B8), okm, d5', gr.same B8, D3, fun J9 S14 => ⟨_, rfl, ?_⟩⟩
    rw [if_neg (by decide)]
    have B9 := B8.trans S14
    refine ⟨kx, SqL.of (B9 _ _ (S7 _ _ (S56 _ _ LK))), fun l hl9 => ?_⟩
    have V9 := same_new hl9 (.lst kx)
    have B10 := B9.trans V9
    have R10 := Rr.same (S9.trans (S10.trans (S11.trans (S12.trans (S13.trans (S14.trans V9))))))
    refine ⟨pm, l, lp, _, nm, ks, lk, _, rfl, Rm.same (S7.trans B10), okm, d5', ⟨⟨kx, SqL.of upd_same, KA.same (S56.trans (S7.trans B10))⟩, Same.tup B10 TL, ll, k1, k4, okk, nn⟩, R10, fun J11 S15 => ?_⟩
    dsimp only
    rw [if_neg (by rw [show rdV ks lk nm (.tuple (.bool b :: r)) = .bl b from if_pos hrd]; exact fun z => by cases z)]
    have B11 := B10.trans S15
    refine ⟨pm, kl, lp, _, nm, ks, lk, rfl, Rm.same (S7.trans B11), okm, d5', gr.same B11, ⟨_, R10.same S15⟩, fun J12 S16 => ⟨_, rfl, ?_⟩⟩
    rw [if_neg (by decide), hP]
    exact ⟨pm, nm, _, _, _, _, _, rfl, Rm.same (S7.trans (B11.trans S16)), okm, d5', S56.trans (S7.trans (B11.trans S16))⟩
  · intro σ H' h
    exact q' _
end

theorem all_mk {l : PySem.W.OpenLaw} {w : World} {K : PySem.W.Frag} {h : Heap} {mg : Str → Option Value} {fa f1 f2 f3 f4 f5 f6 f7 f8 f9 f10 f11 f12 f13 f14 f15 f16 f17 f18 f19 f20 f21 f22 f23 f24 f25 f26 f27 f28 f29 f30 f31 f32 f33 f34 f35 : Addr} (X : K.In h) (G : h.Ns mainGlobals mg) (hfa : mg "law" = some (.ref fa))
    {c_OF_BOTH : Addr}
    {dd1 dd2 dd3 : Addr} {tk1 tk2 tk3 : Tok} {ep tn1 tn2 tn3 : Nat} {to1 to2 to3 : Option Addr} {ts1 ts2 ts3 : Array (Option Value)}
    {od1 an1 od2 an2 od3 an3 od4 an4 od5 an5 od6 an6 od7 an7 od8 an8 od9 an9 od10 an10 od11 an11 od12 an12 od13 an13 od14 an14 od15 an15 od16 an16 od17 an17 od18 an18 od19 an19 od20 an20 od21 an21 od22 an22 od23 an23 od24 an24 od25 an25 od26 an26 od27 an27 od28 an28 od29 an29 od30 an30 od31 an31 od32 an32 od33 an33 od34 an34 od35 an35 : Option Addr} {sl1 sl2 sl3 sl4 sl5 sl6 sl7 sl8 sl9 sl10 sl11 sl12 sl13 sl14 sl15 sl16 sl17 sl18 sl19 sl20 sl21 sl22 sl23 sl24 sl25 sl26 sl27 sl28 sl29 sl30 sl31 sl32 sl33 sl34 sl35 : Array (Option Value)} {oc1 kV1 dc1 pm1 cd1 ct1 oc2 kV2 dc2 pm2 cd2 ct2 oc3 kV3 dc3 pm3 cd3 ct3 oc4 kV4 dc4 pm4 cd4 ct4 oc5 kV5 dc5 pm5 cd5 ct5 oc6 kV6 dc6 pm6 cd6 ct6 oc7 kV7 dc7 pm7 cd7 ct7 oc8 kV8 dc8 pm8 cd8 ct8 oc9 kV9 dc9 pm9 cd9 ct9 oc10 kV10 dc10 pm10 cd10 ct10 oc11 kV11 dc11 pm11 cd11 ct11 oc12 kV12 dc12 pm12 cd12 ct12 oc13 kV13 dc13 pm13 cd13 ct13 oc14 kV14 dc14 pm14 cd14 ct14 oc15 kV15 dc15 pm15 cd15 ct15 oc16 kV16 dc16 pm16 cd16 ct16 oc17 kV17 dc17 pm17 cd17 ct17 oc18 kV18 dc18 pm18 cd18 ct18 oc19 kV19 dc19 pm19 cd19 ct19 oc20 kV20 dc20 pm20 cd20 ct20 oc21 kV21 dc21 pm21 cd21 ct21 oc22 kV22 dc22 pm22 cd22 ct22 oc23 kV23 dc23 pm23 cd23 ct23 oc24 kV24 dc24 pm24 cd24 ct24 oc25 kV25 dc25 pm25 cd25 ct25 oc26 kV26 dc26 pm26 cd26 ct26 oc27 kV27 dc27 pm27 cd27 ct27 oc28 kV28 dc28 pm28 cd28 ct28 oc29 kV29 dc29 pm29 cd29 ct29 oc30 kV30 dc30 pm30 cd30 ct30 oc31 kV31 dc31 pm31 cd31 ct31 oc32 kV32 dc32 pm32 cd32 ct32 oc33 kV33 dc33 pm33 cd33 ct33 oc34 kV34 dc34 pm34 cd34 ct34 oc35 kV35 dc35 pm35 cd35 ct35 : Value}
    (n_OF_BOTH : PySem.W.nsIn K mainGlobals "OF_BOTH" = some (some (.ref c_OF_BOTH)))
    (a1 : PySem.W.nsIn K mainGlobals "is_whole" = some (some (.ref f1))) (l1 : K.lookup f1 = some ⟨oc1, od1, .func (PySem.W.fnOf "is_whole" "is_whole" (defArgs s_is_whole) (defBody s_is_whole) (defScope s_is_whole) .none kV1 dc1 pm1 an1 cd1 ct1), sl1⟩) (c1 : PySem.W.codeIn K cd1 "is_whole" = true) (k1 : PySem.W.keepIn K (.ref f1) = true)
    (a2 : PySem.W.nsIn K mainGlobals "made_places" = some (some (.ref f2))) (l2 : K.lookup f2 = some ⟨oc2, od2, .func (PySem.W.fnOf "made_places" "made_places" (defArgs s_made_places) (defBody s_made_places) (defScope s_made_places) .none kV2 dc2 pm2 an2 cd2 ct2), sl2⟩) (c2 : PySem.W.codeIn K cd2 "made_places" = true) (k2 : PySem.W.keepIn K (.ref f2) = true)
    (a3 : PySem.W.nsIn K mainGlobals "used_places" = some (some (.ref f3))) (l3 : K.lookup f3 = some ⟨oc3, od3, .func (PySem.W.fnOf "used_places" "used_places" (defArgs s_used_places) (defBody s_used_places) (defScope s_used_places) .none kV3 dc3 pm3 an3 cd3 ct3), sl3⟩) (c3 : PySem.W.codeIn K cd3 "used_places" = true) (k3 : PySem.W.keepIn K (.ref f3) = true)
    (a4 : PySem.W.nsIn K mainGlobals "chief_places" = some (some (.ref f4))) (l4 : K.lookup f4 = some ⟨oc4, od4, .func (PySem.W.fnOf "chief_places" "chief_places" (defArgs s_chief_places) (defBody s_chief_places) (defScope s_chief_places) .none kV4 dc4 pm4 an4 cd4 ct4), sl4⟩) (c4 : PySem.W.codeIn K cd4 "chief_places" = true) (k4 : PySem.W.keepIn K (.ref f4) = true)
    (a5 : PySem.W.nsIn K mainGlobals "number_in" = some (some (.ref f5))) (l5 : K.lookup f5 = some ⟨oc5, od5, .func (PySem.W.fnOf "number_in" "number_in" (defArgs s_number_in) (defBody s_number_in) (defScope s_number_in) .none kV5 dc5 pm5 an5 cd5 ct5), sl5⟩) (c5 : PySem.W.codeIn K cd5 "number_in" = true) (k5 : PySem.W.keepIn K (.ref f5) = true)
    (a6 : PySem.W.nsIn K mainGlobals "is_over" = some (some (.ref f6))) (l6 : K.lookup f6 = some ⟨oc6, od6, .func (PySem.W.fnOf "is_over" "is_over" (defArgs s_is_over) (defBody s_is_over) (defScope s_is_over) .none kV6 dc6 pm6 an6 cd6 ct6), sl6⟩) (c6 : PySem.W.codeIn K cd6 "is_over" = true) (k6 : PySem.W.keepIn K (.ref f6) = true)
    (a7 : PySem.W.nsIn K mainGlobals "places_for" = some (some (.ref f7))) (l7 : K.lookup f7 = some ⟨oc7, od7, .func (PySem.W.fnOf "places_for" "places_for" (defArgs s_places_for) (defBody s_places_for) (defScope s_places_for) .none kV7 dc7 pm7 an7 cd7 ct7), sl7⟩) (c7 : PySem.W.codeIn K cd7 "places_for" = true) (k7 : PySem.W.keepIn K (.ref f7) = true)
    (a8 : PySem.W.nsIn K mainGlobals "place_holds" = some (some (.ref f8))) (l8 : K.lookup f8 = some ⟨oc8, od8, .func (PySem.W.fnOf "place_holds" "place_holds" (defArgs s_place_holds) (defBody s_place_holds) (defScope s_place_holds) .none kV8 dc8 pm8 an8 cd8 ct8), sl8⟩) (c8 : PySem.W.codeIn K cd8 "place_holds" = true) (k8 : PySem.W.keepIn K (.ref f8) = true)
    (a9 : PySem.W.nsIn K mainGlobals "one_holds" = some (some (.ref f9))) (l9 : K.lookup f9 = some ⟨oc9, od9, .func (PySem.W.fnOf "one_holds" "one_holds" (defArgs s_one_holds) (defBody s_one_holds) (defScope s_one_holds) .none kV9 dc9 pm9 an9 cd9 ct9), sl9⟩) (c9 : PySem.W.codeIn K cd9 "one_holds" = true) (k9 : PySem.W.keepIn K (.ref f9) = true)
    (a10 : PySem.W.nsIn K mainGlobals "says" = some (some (.ref f10))) (l10 : K.lookup f10 = some ⟨oc10, od10, .func (PySem.W.fnOf "says" "says" (defArgs s_says) (defBody s_says) (defScope s_says) .none kV10 dc10 pm10 an10 cd10 ct10), sl10⟩) (c10 : PySem.W.codeIn K cd10 "says" = true) (k10 : PySem.W.keepIn K (.ref f10) = true)
    (a11 : PySem.W.nsIn K mainGlobals "two_hold" = some (some (.ref f11))) (l11 : K.lookup f11 = some ⟨oc11, od11, .func (PySem.W.fnOf "two_hold" "two_hold" (defArgs s_two_hold) (defBody s_two_hold) (defScope s_two_hold) .none kV11 dc11 pm11 an11 cd11 ct11), sl11⟩) (c11 : PySem.W.codeIn K cd11 "two_hold" = true) (k11 : PySem.W.keepIn K (.ref f11) = true)
    (a12 : PySem.W.nsIn K mainGlobals "holds_up" = some (some (.ref f12))) (l12 : K.lookup f12 = some ⟨oc12, od12, .func (PySem.W.fnOf "holds_up" "holds_up" (defArgs s_holds_up) (defBody s_holds_up) (defScope s_holds_up) .none kV12 dc12 pm12 an12 cd12 ct12), sl12⟩) (c12 : PySem.W.codeIn K cd12 "holds_up" = true) (k12 : PySem.W.keepIn K (.ref f12) = true)
    (a13 : PySem.W.nsIn K mainGlobals "truth_of" = some (some (.ref f13))) (l13 : K.lookup f13 = some ⟨oc13, od13, .func (PySem.W.fnOf "truth_of" "truth_of" (defArgs s_truth_of) (defBody s_truth_of) (defScope s_truth_of) .none kV13 dc13 pm13 an13 cd13 ct13), sl13⟩) (c13 : PySem.W.codeIn K cd13 "truth_of" = true) (k13 : PySem.W.keepIn K (.ref f13) = true)
    (a14 : PySem.W.nsIn K mainGlobals "_law_cell" = some (some (.ref f14))) (l14 : K.lookup f14 = some ⟨oc14, od14, .func (PySem.W.fnOf "_law_cell" "_law_cell" (defArgs s_law_cell) (defBody s_law_cell) (defScope s_law_cell) .none kV14 dc14 pm14 an14 cd14 ct14), sl14⟩) (c14 : PySem.W.codeIn K cd14 "_law_cell" = true) (k14 : PySem.W.keepIn K (.ref f14) = true)
    (a15 : PySem.W.nsIn K mainGlobals "_law_mix" = some (some (.ref f15))) (l15 : K.lookup f15 = some ⟨oc15, od15, .func (PySem.W.fnOf "_law_mix" "_law_mix" (defArgs s_law_mix) (defBody s_law_mix) (defScope s_law_mix) .none kV15 dc15 pm15 an15 cd15 ct15), sl15⟩) (c15 : PySem.W.codeIn K cd15 "_law_mix" = true) (k15 : PySem.W.keepIn K (.ref f15) = true)
    (a16 : PySem.W.nsIn K mainGlobals "_law_whole" = some (some (.ref f16))) (l16 : K.lookup f16 = some ⟨oc16, od16, .func (PySem.W.fnOf "_law_whole" "_law_whole" (defArgs s_law_whole) (defBody s_law_whole) (defScope s_law_whole) .none kV16 dc16 pm16 an16 cd16 ct16), sl16⟩) (c16 : PySem.W.codeIn K cd16 "_law_whole" = true) (k16 : PySem.W.keepIn K (.ref f16) = true)
    (a17 : PySem.W.nsIn K mainGlobals "_law_words" = some (some (.ref f17))) (l17 : K.lookup f17 = some ⟨oc17, od17, .func (PySem.W.fnOf "_law_words" "_law_words" (defArgs s_law_words) (defBody s_law_words) (defScope s_law_words) .none kV17 dc17 pm17 an17 cd17 ct17), sl17⟩) (c17 : PySem.W.codeIn K cd17 "_law_words" = true) (k17 : PySem.W.keepIn K (.ref f17) = true)
    (a18 : PySem.W.nsIn K mainGlobals "_law_kinds" = some (some (.ref f18))) (l18 : K.lookup f18 = some ⟨oc18, od18, .func (PySem.W.fnOf "_law_kinds" "_law_kinds" (defArgs s_law_kinds) (defBody s_law_kinds) (defScope s_law_kinds) .none kV18 dc18 pm18 an18 cd18 ct18), sl18⟩) (c18 : PySem.W.codeIn K cd18 "_law_kinds" = true) (k18 : PySem.W.keepIn K (.ref f18) = true)
    (a19 : PySem.W.nsIn K mainGlobals "_law_look" = some (some (.ref f19))) (l19 : K.lookup f19 = some ⟨oc19, od19, .func (PySem.W.fnOf "_law_look" "_law_look" (defArgs s_law_look) (defBody s_law_look) (defScope s_law_look) .none kV19 dc19 pm19 an19 cd19 ct19), sl19⟩) (c19 : PySem.W.codeIn K cd19 "_law_look" = true) (k19 : PySem.W.keepIn K (.ref f19) = true)
    (a20 : PySem.W.nsIn K mainGlobals "_law_plain" = some (some (.ref f20))) (l20 : K.lookup f20 = some ⟨oc20, od20, .func (PySem.W.fnOf "_law_plain" "_law_plain" (defArgs s_law_plain) (defBody s_law_plain) (defScope s_law_plain) .none kV20 dc20 pm20 an20 cd20 ct20), sl20⟩) (c20 : PySem.W.codeIn K cd20 "_law_plain" = true) (k20 : PySem.W.keepIn K (.ref f20) = true)
    (a21 : PySem.W.nsIn K mainGlobals "_law_note" = some (some (.ref f21))) (l21 : K.lookup f21 = some ⟨oc21, od21, .func (PySem.W.fnOf "_law_note" "_law_note" (defArgs s_law_note) (defBody s_law_note) (defScope s_law_note) .none kV21 dc21 pm21 an21 cd21 ct21), sl21⟩) (c21 : PySem.W.codeIn K cd21 "_law_note" = true) (k21 : PySem.W.keepIn K (.ref f21) = true)
    (a22 : PySem.W.nsIn K mainGlobals "_law_weighs" = some (some (.ref f22))) (l22 : K.lookup f22 = some ⟨oc22, od22, .func (PySem.W.fnOf "_law_weighs" "_law_weighs" (defArgs s_law_weighs) (defBody s_law_weighs) (defScope s_law_weighs) .none kV22 dc22 pm22 an22 cd22 ct22), sl22⟩) (c22 : PySem.W.codeIn K cd22 "_law_weighs" = true) (k22 : PySem.W.keepIn K (.ref f22) = true)
    (a23 : PySem.W.nsIn K mainGlobals "_law_shows" = some (some (.ref f23))) (l23 : K.lookup f23 = some ⟨oc23, od23, .func (PySem.W.fnOf "_law_shows" "_law_shows" (defArgs s_law_shows) (defBody s_law_shows) (defScope s_law_shows) .none kV23 dc23 pm23 an23 cd23 ct23), sl23⟩) (c23 : PySem.W.codeIn K cd23 "_law_shows" = true) (k23 : PySem.W.keepIn K (.ref f23) = true)
    (a24 : PySem.W.nsIn K mainGlobals "_law_plain_claims" = some (some (.ref f24))) (l24 : K.lookup f24 = some ⟨oc24, od24, .func (PySem.W.fnOf "_law_plain_claims" "_law_plain_claims" (defArgs s_law_plain_claims) (defBody s_law_plain_claims) (defScope s_law_plain_claims) .none kV24 dc24 pm24 an24 cd24 ct24), sl24⟩) (c24 : PySem.W.codeIn K cd24 "_law_plain_claims" = true) (k24 : PySem.W.keepIn K (.ref f24) = true)
    (a25 : PySem.W.nsIn K mainGlobals "_law_claims" = some (some (.ref f25))) (l25 : K.lookup f25 = some ⟨oc25, od25, .func (PySem.W.fnOf "_law_claims" "_law_claims" (defArgs s_law_claims) (defBody s_law_claims) (defScope s_law_claims) .none kV25 dc25 pm25 an25 cd25 ct25), sl25⟩) (c25 : PySem.W.codeIn K cd25 "_law_claims" = true) (k25 : PySem.W.keepIn K (.ref f25) = true)
    (a26 : PySem.W.nsIn K mainGlobals "_law_pair" = some (some (.ref f26))) (l26 : K.lookup f26 = some ⟨oc26, od26, .func (PySem.W.fnOf "_law_pair" "_law_pair" (defArgs s_law_pair) (defBody s_law_pair) (defScope s_law_pair) .none kV26 dc26 pm26 an26 cd26 ct26), sl26⟩) (c26 : PySem.W.codeIn K cd26 "_law_pair" = true) (k26 : PySem.W.keepIn K (.ref f26) = true)
    (a27 : PySem.W.nsIn K mainGlobals "_law_reads_plain" = some (some (.ref f27))) (l27 : K.lookup f27 = some ⟨oc27, od27, .func (PySem.W.fnOf "_law_reads_plain" "_law_reads_plain" (defArgs s_law_reads_plain) (defBody s_law_reads_plain) (defScope s_law_reads_plain) .none kV27 dc27 pm27 an27 cd27 ct27), sl27⟩) (c27 : PySem.W.codeIn K cd27 "_law_reads_plain" = true) (k27 : PySem.W.keepIn K (.ref f27) = true)
    (a28 : PySem.W.nsIn K mainGlobals "_law_reads" = some (some (.ref f28))) (l28 : K.lookup f28 = some ⟨oc28, od28, .func (PySem.W.fnOf "_law_reads" "_law_reads" (defArgs s_law_reads) (defBody s_law_reads) (defScope s_law_reads) .none kV28 dc28 pm28 an28 cd28 ct28), sl28⟩) (c28 : PySem.W.codeIn K cd28 "_law_reads" = true) (k28 : PySem.W.keepIn K (.ref f28) = true)
    (a29 : PySem.W.nsIn K mainGlobals "_law_reason" = some (some (.ref f29))) (l29 : K.lookup f29 = some ⟨oc29, od29, .func (PySem.W.fnOf "_law_reason" "_law_reason" (defArgs s_law_reason) (defBody s_law_reason) (defScope s_law_reason) .none kV29 dc29 pm29 an29 cd29 ct29), sl29⟩) (c29 : PySem.W.codeIn K cd29 "_law_reason" = true) (k29 : PySem.W.keepIn K (.ref f29) = true)
    (a30 : PySem.W.nsIn K mainGlobals "_law_put" = some (some (.ref f30))) (l30 : K.lookup f30 = some ⟨oc30, od30, .func (PySem.W.fnOf "_law_put" "_law_put" (defArgs s_law_put) (defBody s_law_put) (defScope s_law_put) .none kV30 dc30 pm30 an30 cd30 ct30), sl30⟩) (c30 : PySem.W.codeIn K cd30 "_law_put" = true) (k30 : PySem.W.keepIn K (.ref f30) = true)
    (a31 : PySem.W.nsIn K mainGlobals "_law_turned" = some (some (.ref f31))) (l31 : K.lookup f31 = some ⟨oc31, od31, .func (PySem.W.fnOf "_law_turned" "_law_turned" (defArgs s_law_turned) (defBody s_law_turned) (defScope s_law_turned) .none kV31 dc31 pm31 an31 cd31 ct31), sl31⟩) (c31 : PySem.W.codeIn K cd31 "_law_turned" = true) (k31 : PySem.W.keepIn K (.ref f31) = true)
    (a32 : PySem.W.nsIn K mainGlobals "_law_spoilt" = some (some (.ref f32))) (l32 : K.lookup f32 = some ⟨oc32, od32, .func (PySem.W.fnOf "_law_spoilt" "_law_spoilt" (defArgs s_law_spoilt) (defBody s_law_spoilt) (defScope s_law_spoilt) .none kV32 dc32 pm32 an32 cd32 ct32), sl32⟩) (c32 : PySem.W.codeIn K cd32 "_law_spoilt" = true) (k32 : PySem.W.keepIn K (.ref f32) = true)
    (a33 : PySem.W.nsIn K mainGlobals "_law_wild" = some (some (.ref f33))) (l33 : K.lookup f33 = some ⟨oc33, od33, .func (PySem.W.fnOf "_law_wild" "_law_wild" (defArgs s_law_wild) (defBody s_law_wild) (defScope s_law_wild) .none kV33 dc33 pm33 an33 cd33 ct33), sl33⟩) (c33 : PySem.W.codeIn K cd33 "_law_wild" = true) (k33 : PySem.W.keepIn K (.ref f33) = true)
    (a34 : PySem.W.nsIn K mainGlobals "_law_good" = some (some (.ref f34))) (l34 : K.lookup f34 = some ⟨oc34, od34, .func (PySem.W.fnOf "_law_good" "_law_good" (defArgs s_law_good) (defBody s_law_good) (defScope s_law_good) .none kV34 dc34 pm34 an34 cd34 ct34), sl34⟩) (c34 : PySem.W.codeIn K cd34 "_law_good" = true) (k34 : PySem.W.keepIn K (.ref f34) = true)
    (a35 : PySem.W.nsIn K mainGlobals "law" = some (some (.ref f35))) (l35 : K.lookup f35 = some ⟨oc35, od35, .func (PySem.W.fnOf "law" "law" (defArgs s_law) (defBody s_law) (defScope s_law) .none kV35 dc35 pm35 an35 cd35 ct35), sl35⟩) (c35 : PySem.W.codeIn K cd35 "law" = true) (k35 : PySem.W.keepIn K (.ref f35) = true)
    (sm_OB : (c_OF_BOTH == sysModules) = false)
    (ob_OB : K.lookup c_OF_BOTH = some ⟨.type "dict", none, .dict #[⟨PyData.keyHash w.params "both", .str "both" tk1, .ref dd1⟩, ⟨PyData.keyHash w.params "either", .str "either" tk2, .ref dd2⟩, ⟨PyData.keyHash w.params "but", .str "but" tk3, .ref dd3⟩] ep, #[]⟩)
    (h1_OB : K.lookup dd1 = some ⟨.type "tuple", to1, .seq #[.bool true, .bool true, .bool true] tn1, ts1⟩)
    (h2_OB : K.lookup dd2 = some ⟨.type "tuple", to2, .seq #[.bool false, .bool false, .bool false] tn2, ts2⟩)
    (h3_OB : K.lookup dd3 = some ⟨.type "tuple", to3, .seq #[.bool true, .bool true, .bool false] tn3, ts3⟩)
    (z_len : PySem.W.nsIn K mainGlobals "len" = some none)
    (z_range : PySem.W.nsIn K mainGlobals "range" = some none)
    (z_abs : PySem.W.nsIn K mainGlobals "abs" = some none)
    (z_max : PySem.W.nsIn K mainGlobals "max" = some none)
    (z_min : PySem.W.nsIn K mainGlobals "min" = some none)
    (z_isinstance : PySem.W.nsIn K mainGlobals "isinstance" = some none)
    (z_int : PySem.W.nsIn K mainGlobals "int" = some none)
    (z_bool : PySem.W.nsIn K mainGlobals "bool" = some none)
    (z_str : PySem.W.nsIn K mainGlobals "str" = some none)
    (z_list : PySem.W.nsIn K mainGlobals "list" = some none)
    (z_tuple : PySem.W.nsIn K mainGlobals "tuple" = some none)
    (z_sum : PySem.W.nsIn K mainGlobals "sum" = some none)
    (z_all : PySem.W.nsIn K mainGlobals "all" = some none)
    (z_enumerate : PySem.W.nsIn K mainGlobals "enumerate" = some none)
    (z_zip : PySem.W.nsIn K mainGlobals "zip" = some none)
    (z_ValueError : PySem.W.nsIn K mainGlobals "ValueError" = some none)
    (z_any : PySem.W.nsIn K mainGlobals "any" = some none)
    (z_set : PySem.W.nsIn K mainGlobals "set" = some none)
    (z_sorted : PySem.W.nsIn K mainGlobals "sorted" = some none)
    : ∃ fd : FuncData, (∀ (s : Shared) (v : Value), BindsTo s fd ⟨[v], []⟩ [("_law_script", v)]) ∧ ∀ base : Heap, K.In base → base.Ns mainGlobals mg → FnOk l.prog w K mg base CX0 22 fa fd ["_law_script"] (spLaw K) := by
  have e := hfa.symm.trans (PySem.W.mg_of X G a35)
  cases e
  have F1 := fun_mk (st := s_is_whole) l1 c1 k1
  have F2 := fun_mk (st := s_made_places) l2 c2 k2
  have F3 := fun_mk (st := s_used_places) l3 c3 k3
  have F4 := fun_mk (st := s_chief_places) l4 c4 k4
  have F5 := fun_mk (st := s_number_in) l5 c5 k5
  have F6 := fun_mk (st := s_is_over) l6 c6 k6
  have F7 := fun_mk (st := s_places_for) l7 c7 k7
  have F8 := fun_mk (st := s_place_holds) l8 c8 k8
  have F9 := fun_mk (st := s_one_holds) l9 c9 k9
  have F10 := fun_mk (st := s_says) l10 c10 k10
  have F11 := fun_mk (st := s_two_hold) l11 c11 k11
  have F12 := fun_mk (st := s_holds_up) l12 c12 k12
  have F13 := fun_mk (st := s_truth_of) l13 c13 k13
  have F14 := fun_mk (st := s_law_cell) l14 c14 k14
  have F15 := fun_mk (st := s_law_mix) l15 c15 k15
  have F16 := fun_mk (st := s_law_whole) l16 c16 k16
  have F17 := fun_mk (st := s_law_words) l17 c17 k17
  have F18 := fun_mk (st := s_law_kinds) l18 c18 k18
  have F19 := fun_mk (st := s_law_look) l19 c19 k19
  have F20 := fun_mk (st := s_law_plain) l20 c20 k20
  have F21 := fun_mk (st := s_law_note) l21 c21 k21
  have F22 := fun_mk (st := s_law_weighs) l22 c22 k22
  have F23 := fun_mk (st := s_law_shows) l23 c23 k23
  have F24 := fun_mk (st := s_law_plain_claims) l24 c24 k24
  have F25 := fun_mk (st := s_law_claims) l25 c25 k25
  have F26 := fun_mk (st := s_law_pair) l26 c26 k26
  have F27 := fun_mk (st := s_law_reads_plain) l27 c27 k27
  have F28 := fun_mk (st := s_law_reads) l28 c28 k28
  have F29 := fun_mk (st := s_law_reason) l29 c29 k29
  have F30 := fun_mk (st := s_law_put) l30 c30 k30
  have F31 := fun_mk (st := s_law_turned) l31 c31 k31
  have F32 := fun_mk (st := s_law_spoilt) l32 c32 k32
  have F33 := fun_mk (st := s_law_wild) l33 c33 k33
  have F34 := fun_mk (st := s_law_good) l34 c34 k34
  have F35 := fun_mk (st := s_law) l35 c35 k35
  have b1 := F1.binds (ps := ["thing"]) fun _ _ _ _ _ _ us hl => match us, hl with | [_], _ => rfl
  have b2 := F2.binds (ps := ["kinds", "look", "stuff"]) fun _ _ _ _ _ _ us hl => match us, hl with | [_, _, _], _ => rfl
  have b3 := F3.binds (ps := ["kinds", "look", "use"]) fun _ _ _ _ _ _ us hl => match us, hl with | [_, _, _], _ => rfl
  have b4 := F4.binds (ps := ["kinds", "look", "stuff"]) fun _ _ _ _ _ _ us hl => match us, hl with | [_, _, _], _ => rfl
  have b5 := F5.binds (ps := ["kinds", "look", "kind"]) fun _ _ _ _ _ _ us hl => match us, hl with | [_, _, _], _ => rfl
  have b6 := F6.binds (ps := ["kinds", "look", "one", "other"]) fun _ _ _ _ _ _ us hl => match us, hl with | [_, _, _, _], _ => rfl
  have b7 := F7.binds (ps := ["told", "kinds", "look"]) fun _ _ _ _ _ _ us hl => match us, hl with | [_, _, _], _ => rfl
  have b8 := F8.binds (ps := ["told", "kinds", "look", "reason"]) fun _ _ _ _ _ _ us hl => match us, hl with | [_, _, _, _], _ => rfl
  have b9 := F9.binds (ps := ["told", "kinds", "look", "reason"]) fun _ _ _ _ _ _ us hl => match us, hl with | [_, _, _, _], _ => rfl
  have b10 := F10.binds (ps := ["truth", "told", "kinds", "look", "reason"]) fun _ _ _ _ _ _ us hl => match us, hl with | [_, _, _, _, _], _ => rfl
  have b11 := F11.binds (ps := ["told", "kinds", "look", "reason"]) fun _ _ _ _ _ _ us hl => match us, hl with | [_, _, _, _], _ => rfl
  have b12 := F12.binds (ps := ["told", "kinds", "look", "reason"]) fun _ _ _ _ _ _ us hl => match us, hl with | [_, _, _, _], _ => rfl
  have b13 := F13.binds (ps := ["told", "kinds", "look", "reason"]) fun _ _ _ _ _ _ us hl => match us, hl with | [_, _, _, _], _ => rfl
  have b14 := F14.binds (ps := ["_law_script", "_law_k"]) fun _ _ _ _ _ _ us hl => match us, hl with | [_, _], _ => rfl
  have b15 := F15.binds (ps := ["_law_number", "_law_k", "_law_many"]) fun _ _ _ _ _ _ us hl => match us, hl with | [_, _, _], _ => rfl
  have b16 := F16.binds (ps := ["_law_found"]) fun _ _ _ _ _ _ us hl => match us, hl with | [_], _ => rfl
  have b17 := F17.binds (ps := ["_law_cell_here", "_law_many"]) fun _ _ _ _ _ _ us hl => match us, hl with | [_, _], _ => rfl
  have b18 := F18.binds (ps := ["_law_cell_here", "_law_words_here"]) fun _ _ _ _ _ _ us hl => match us, hl with | [_, _], _ => rfl
  have b19 := F19.binds (ps := ["_law_cell_here", "_law_many"]) fun _ _ _ _ _ _ us hl => match us, hl with | [_, _], _ => rfl
  have b20 := F20.binds (ps := ["_law_number", "_law_kinds_here", "_law_words_here"]) fun _ _ _ _ _ _ us hl => match us, hl with | [_, _, _], _ => rfl
  have b21 := F21.binds (ps := ["_law_number", "_law_deep", "_law_kinds_here", "_law_words_here"]) fun _ _ _ _ _ _ us hl => match us, hl with | [_, _, _, _], _ => rfl
  have b22 := F22.binds (ps := ["_law_kinds_here", "_law_look_here", "_law_kind"]) fun _ _ _ _ _ _ us hl => match us, hl with | [_, _, _], _ => rfl
  have b23 := F23.binds (ps := ["_law_told", "_law_kinds_here", "_law_look_here", "_law_k"]) fun _ _ _ _ _ _ us hl => match us, hl with | [_, _, _, _], _ => rfl
  have b24 := F24.binds (ps := ["_law_told", "_law_kinds_here", "_law_look_here"]) fun _ _ _ _ _ _ us hl => match us, hl with | [_, _, _], _ => rfl
  have b25 := F25.binds (ps := ["_law_told", "_law_kinds_here", "_law_look_here"]) fun _ _ _ _ _ _ us hl => match us, hl with | [_, _, _], _ => rfl
  have b26 := F26.binds (ps := ["_law_word"]) fun _ _ _ _ _ _ us hl => match us, hl with | [_], _ => rfl
  have b27 := F27.binds (ps := ["_law_told", "_law_kinds_here", "_law_look_here", "_law_reason_here"]) fun _ _ _ _ _ _ us hl => match us, hl with | [_, _, _, _], _ => rfl
  have b28 := F28.binds (ps := ["_law_told", "_law_kinds_here", "_law_look_here", "_law_reason_here"]) fun _ _ _ _ _ _ us hl => match us, hl with | [_, _, _, _], _ => rfl
  have b29 := F29.binds (ps := ["_law_told", "_law_kinds_here", "_law_look_here"]) fun _ _ _ _ _ _ us hl => match us, hl with | [_, _, _], _ => rfl
  have b30 := F30.binds (ps := ["_law_thing", "_law_cell_here"]) fun _ _ _ _ _ _ us hl => match us, hl with | [_, _], _ => rfl
  have b31 := F31.binds (ps := ["_law_reason_here", "_law_cell_here"]) fun _ _ _ _ _ _ us hl => match us, hl with | [_, _], _ => rfl
  have b32 := F32.binds (ps := ["_law_reason_here", "_law_number"]) fun _ _ _ _ _ _ us hl => match us, hl with | [_, _], _ => rfl
  have b33 := F33.binds (ps := ["_law_told", "_law_number", "_law_many"]) fun _ _ _ _ _ _ us hl => match us, hl with | [_, _, _], _ => rfl
  have b34 := F34.binds (ps := ["_law_told", "_law_kinds_here", "_law_look_here", "_law_reason_here"]) fun _ _ _ _ _ _ us hl => match us, hl with | [_, _, _, _], _ => rfl
  have M : Mg mg := ⟨PySem.W.mg_none_of X G z_len, PySem.W.mg_none_of X G z_range, PySem.W.mg_none_of X G z_abs, PySem.W.mg_none_of X G z_max, PySem.W.mg_none_of X G z_min, PySem.W.mg_none_of X G z_isinstance, PySem.W.mg_none_of X G z_int, PySem.W.mg_none_of X G z_bool, PySem.W.mg_none_of X G z_str, PySem.W.mg_none_of X G z_list, PySem.W.mg_none_of X G z_tuple, PySem.W.mg_none_of X G z_sum, PySem.W.mg_none_of X G z_all, PySem.W.mg_none_of X G z_enumerate, PySem.W.mg_none_of X G z_zip, PySem.W.mg_none_of X G z_ValueError, PySem.W.mg_none_of X G z_any, PySem.W.mg_none_of X G z_set, PySem.W.mg_none_of X G z_sorted⟩
  refine ⟨PySem.W.fnOf "law" "law" (defArgs s_law) (defBody s_law) (defScope s_law) .none kV35 dc35 pm35 an35 cd35 ct35, fun s v => .of_eq rfl, fun base _ _ => ?_⟩
  have A_OF_BOTH := PySem.W.mg_of X G n_OF_BOTH
  have O_OB : OBok w.params K c_OF_BOTH := ob_mk sm_OB ob_OB h1_OB h2_OB h3_OB
  have C_is_whole : Cal l.prog w K mg base CX0 "is_whole" 1 ["thing"] (spIsWhole K) := ⟨⟨_, _, ok_is_whole F1 M, b1, k1, PySem.W.mg_of X G a1⟩⟩
  have C_made_places : Cal l.prog w K mg base CX0 "made_places" 1 ["kinds", "look", "stuff"] (spPlaces K pMade) := ⟨⟨_, _, ok_made_places F2 M, b2, k2, PySem.W.mg_of X G a2⟩⟩
  have C_used_places : Cal l.prog w K mg base CX0 "used_places" 1 ["kinds", "look", "use"] (spPlaces K pUsed) := ⟨⟨_, _, ok_used_places F3 M, b3, k3, PySem.W.mg_of X G a3⟩⟩
  have C_chief_places : Cal l.prog w K mg base CX0 "chief_places" 1 ["kinds", "look", "stuff"] (spPlaces K pChief) := ⟨⟨_, _, ok_chief_places F4 M, b4, k4, PySem.W.mg_of X G a4⟩⟩
  have C_number_in : Cal l.prog w K mg base CX0 "number_in" 1 ["kinds", "look", "kind"] (spNumIn K) := ⟨⟨_, _, ok_number_in F5 M, b5, k5, PySem.W.mg_of X G a5⟩⟩
  have C_is_over : Cal l.prog w K mg base CX0 "is_over" 2 ["kinds", "look", "one", "other"] (spOver K) := ⟨⟨_, _, ok_is_over F6 M C_number_in, b6, k6, PySem.W.mg_of X G a6⟩⟩
  have C_places_for : Cal l.prog w K mg base CX0 "places_for" 2 ["told", "kinds", "look"] (spPlF K) := ⟨⟨_, _, ok_places_for F7 M C_made_places C_used_places C_chief_places, b7, k7, PySem.W.mg_of X G a7⟩⟩
  have C_place_holds : Cal l.prog w K mg base CX0 "place_holds" 3 ["told", "kinds", "look", "reason"] (spPlH K) := ⟨⟨_, _, ok_place_holds F8 M C_is_whole C_places_for, b8, k8, PySem.W.mg_of X G a8⟩⟩
  have C_one_holds : Cal l.prog w K mg base CX0 "one_holds" 4 ["told", "kinds", "look", "reason"] (spOneH K) := ⟨⟨_, _, ok_one_holds F9 M C_is_over C_place_holds, b9, k9, PySem.W.mg_of X G a9⟩⟩
  have C_holds_up : Cal l.prog w K mg base CX0 "holds_up" 19 ["told", "kinds", "look", "reason"] (spHolds K 5) := ⟨⟨_, _, ok_holds F12 F11 F10 M A_OF_BOTH O_OB C_is_whole C_one_holds b12 k12 (PySem.W.mg_of X G a12) b11 k11 (PySem.W.mg_of X G a11) b10 k10 (PySem.W.mg_of X G a10) 5, b12, k12, PySem.W.mg_of X G a12⟩⟩
  have C_truth_of : Cal l.prog w K mg base CX0 "truth_of" 20 ["told", "kinds", "look", "reason"] (spTruth K) := ⟨⟨_, _, ok_truth_of F13 M C_holds_up, b13, k13, PySem.W.mg_of X G a13⟩⟩
  have C_law_cell : Cal l.prog w K mg base CX0 "_law_cell" 1 ["_law_script", "_law_k"] (spCell K) := ⟨⟨_, _, ok_law_cell F14 M, b14, k14, PySem.W.mg_of X G a14⟩⟩
  have C_law_mix : Cal l.prog w K mg base CX0 "_law_mix" 1 ["_law_number", "_law_k", "_law_many"] (spMix3) := ⟨⟨_, _, ok_law_mix F15 M, b15, k15, PySem.W.mg_of X G a15⟩⟩
  have C_law_whole : Cal l.prog w K mg base CX0 "_law_whole" 1 ["_law_found"] (spIsWhole K) := ⟨⟨_, _, ok_law_whole F16 M, b16, k16, PySem.W.mg_of X G a16⟩⟩
  have C_law_words : Cal l.prog w K mg base CX0 "_law_words" 1 ["_law_cell_here", "_law_many"] (spWords K) := ⟨⟨_, _, ok_law_words F17 M, b17, k17, PySem.W.mg_of X G a17⟩⟩
  have C_law_kinds : Cal l.prog w K mg base CX0 "_law_kinds" 1 ["_law_cell_here", "_law_words_here"] (spKinds3 K) := ⟨⟨_, _, ok_law_kinds F18 M, b18, k18, PySem.W.mg_of X G a18⟩⟩
  have C_law_look : Cal l.prog w K mg base CX0 "_law_look" 2 ["_law_cell_here", "_law_many"] (spLook K) := ⟨⟨_, _, ok_law_look F19 M C_law_mix, b19, k19, PySem.W.mg_of X G a19⟩⟩
  have C_law_plain : Cal l.prog w K mg base CX0 "_law_plain" 2 ["_law_number", "_law_kinds_here", "_law_words_here"] (spPlain K) := ⟨⟨_, _, ok_law_plain F20 M C_law_mix, b20, k20, PySem.W.mg_of X G a20⟩⟩
  have C_law_note : Cal l.prog w K mg base CX0 "_law_note" 8 ["_law_number", "_law_deep", "_law_kinds_here", "_law_words_here"] (spNoteU K) := ⟨⟨_, _, fnok_union (L := 3) (n := 5) (ok_law_note F21 M C_law_mix C_law_plain b21 k21 (PySem.W.mg_of X G a21)), b21, k21, PySem.W.mg_of X G a21⟩⟩
  have C_law_weighs : Cal l.prog w K mg base CX0 "_law_weighs" 1 ["_law_kinds_here", "_law_look_here", "_law_kind"] (spNumIn K) := ⟨⟨_, _, ok_law_weighs F22 M, b22, k22, PySem.W.mg_of X G a22⟩⟩
  have C_law_shows : Cal l.prog w K mg base CX0 "_law_shows" 1 ["_law_told", "_law_kinds_here", "_law_look_here", "_law_k"] (spShows K) := ⟨⟨_, _, ok_law_shows F23 M, b23, k23, PySem.W.mg_of X G a23⟩⟩
  have C_law_plain_claims : Cal l.prog w K mg base CX0 "_law_plain_claims" 2 ["_law_told", "_law_kinds_here", "_law_look_here"] (spPlainC K) := ⟨⟨_, _, ok_law_plain_claims F24 M C_law_weighs C_law_shows, b24, k24, PySem.W.mg_of X G a24⟩⟩
  have C_law_claims : Cal l.prog w K mg base CX0 "_law_claims" 8 ["_law_told", "_law_kinds_here", "_law_look_here"] (spLClaims K 5) := ⟨⟨_, _, ok_law_claims F25 M C_law_plain_claims b25 k25 (PySem.W.mg_of X G a25) 5, b25, k25, PySem.W.mg_of X G a25⟩⟩
  have C_law_pair : Cal l.prog w K mg base CX0 "_law_pair" 1 ["_law_word"] (spPair K) := ⟨⟨_, _, ok_law_pair F26 M, b26, k26, PySem.W.mg_of X G a26⟩⟩
  have C_law_reads_plain : Cal l.prog w K mg base CX0 "_law_reads_plain" 3 ["_law_told", "_law_kinds_here", "_law_look_here", "_law_reason_here"] (spReadsP K) := ⟨⟨_, _, ok_law_reads_plain F27 M C_law_whole C_law_shows C_law_plain_claims, b27, k27, PySem.W.mg_of X G a27⟩⟩
  have C_law_reads : Cal l.prog w K mg base CX0 "_law_reads" 8 ["_law_told", "_law_kinds_here", "_law_look_here", "_law_reason_here"] (spReads K 5) := ⟨⟨_, _, ok_law_reads F28 M C_law_whole C_law_pair C_law_reads_plain b28 k28 (PySem.W.mg_of X G a28) 5, b28, k28, PySem.W.mg_of X G a28⟩⟩
  have C_law_reason : Cal l.prog w K mg base CX0 "_law_reason" 8 ["_law_told", "_law_kinds_here", "_law_look_here"] (spReason K 5) := ⟨⟨_, _, ok_law_reason F29 M C_law_plain_claims C_law_shows C_law_pair b29 k29 (PySem.W.mg_of X G a29) 5, b29, k29, PySem.W.mg_of X G a29⟩⟩
  have C_law_put : Cal l.prog w K mg base CX0 "_law_put" 1 ["_law_thing", "_law_cell_here"] (spPut K) := ⟨⟨_, _, ok_law_put F30 M, b30, k30, PySem.W.mg_of X G a30⟩⟩
  have C_law_turned : Cal l.prog w K mg base CX0 "_law_turned" 1 ["_law_reason_here", "_law_cell_here"] (spTurned K) := ⟨⟨_, _, ok_law_turned F31 M, b31, k31, PySem.W.mg_of X G a31⟩⟩
  have C_law_spoilt : Cal l.prog w K mg base CX0 "_law_spoilt" 7 ["_law_reason_here", "_law_number"] (spSpoilt K 5) := ⟨⟨_, _, ok_law_spoilt F32 M C_law_put C_law_turned b32 k32 (PySem.W.mg_of X G a32) 5, b32, k32, PySem.W.mg_of X G a32⟩⟩
  have C_law_wild : Cal l.prog w K mg base CX0 "_law_wild" 7 ["_law_told", "_law_number", "_law_many"] (spWild K 5) := ⟨⟨_, _, ok_law_wild F33 M C_law_mix C_law_pair b33 k33 (PySem.W.mg_of X G a33) 5, b33, k33, PySem.W.mg_of X G a33⟩⟩
  have C_law_good : Cal l.prog w K mg base CX0 "_law_good" 21 ["_law_told", "_law_kinds_here", "_law_look_here", "_law_reason_here"] (spGoodR K) := ⟨⟨_, _, ok_law_good F34 M C_truth_of C_law_reads C_law_claims, b34, k34, PySem.W.mg_of X G a34⟩⟩
  exact ok_law F35 M C_law_cell C_law_mix C_law_words C_law_kinds C_law_note C_law_look C_law_reason C_law_spoilt C_law_wild C_law_good C_truth_of
theorem walk {l : PySem.W.OpenLaw} {q : Program} {loose : List Str} {XP : (Str → Option Value) → Heap → Prop} {YP : World → Heap → Prop} {d : DefRec} {K : Params → PySem.W.Frag} (hn : l.most = some 63) (hdf : d.params.defaults = [])
    (hY : ∀ (w : World) (h : Heap), YP w h → (K w.params).In h)
    (F : ∀ (w : World) (mg : Str → Option Value) (fa : Addr) (h : Heap), (K w.params).In h → h.Ns mainGlobals mg → mg d.name = some (.ref fa) →
      ∃ fd : FuncData, (∀ (s : Shared) (u : Value), BindsTo s fd ⟨[u], []⟩ [("_law_script", u)]) ∧ ∀ base : Heap, (K w.params).In base → base.Ns mainGlobals mg → FnOk l.prog w (K w.params) mg base CX0 22 fa fd ["_law_script"] (spLaw (K w.params))) :
    PySem.W.WalkO q loose XP YP l.row.toRowW d [] (fun f vs => PySem.call f vs) :=
  L2.walk_of (n := 63) (k := 22) (x := "_law_script") (CX := fun _ => CX0) (sp := fun w => spLaw (K w.params)) hn (by decide) hdf ⟨rfl, by decide, by decide⟩ hY F (fun _ _ a ns hl _ hS => ⟨a, ns, rfl, hS, hl, fun _ => rfl⟩) fun _ _ _ _ _ z => z
end My
namespace PySem.W.Fast
theorem tw13232029946347680495:True:=⟨⟩
theorem tw10037489332756172608:True:=⟨⟩
theorem tw1723568522740173507:True:=⟨⟩
theorem tw11385243267092663868:True:=⟨⟩
theorem tw4638573924746157752:True:=⟨⟩
theorem tw17199693493797792162:True:=⟨⟩
theorem tw16430203039701272628:True:=⟨⟩
theorem tw7330536741331744161:True:=⟨⟩
theorem tw13383597047286331240:True:=⟨⟩
theorem tw12058376982875205687:True:=⟨⟩
theorem tw13302465166884352852:True:=⟨⟩
theorem tw1720130731232562883:True:=⟨⟩
theorem tw4904527089426037689:True:=⟨⟩
theorem tw15459267027930565564:True:=⟨⟩
theorem tw10688502163539977577:True:=⟨⟩
theorem tw4387943373205310567:True:=⟨⟩
theorem tw8676832970822059644:True:=⟨⟩
theorem tw953733696246864926:True:=⟨⟩
theorem tw9394149746193860598:True:=⟨⟩
theorem tw2664331963623115319:True:=⟨⟩
theorem tw8969924256530065765:True:=⟨⟩
theorem tw3663396275851819809:True:=⟨⟩
theorem tw15745696852918607560:True:=⟨⟩
theorem tw8404580667643633386:True:=⟨⟩
theorem tw3156900429767202170:True:=⟨⟩
theorem tw13612380162622221840:True:=⟨⟩
theorem tw9672364261715892945:True:=⟨⟩
theorem tw14211737421015047731:True:=⟨⟩
theorem tw9578387920562833022:True:=⟨⟩
theorem tw7761671576130316505:True:=⟨⟩
theorem tw7050683002102688695:True:=⟨⟩
theorem tw7323673499937523661:True:=⟨⟩
theorem tw14622546685031972930:True:=⟨⟩
theorem tw3484031522048109756:True:=⟨⟩
theorem tw6937845963420542135:True:=⟨⟩
theorem tw10854092010625120640:True:=⟨⟩
theorem tw6331626839234048485:True:=⟨⟩
theorem tw12913592205146048583:True:=⟨⟩
theorem tw2294794024601244994:True:=⟨⟩
theorem tw9456771049377021396:True:=⟨⟩
theorem tw10741593001000061645:True:=⟨⟩
theorem tw8057848367053729064:True:=⟨⟩
theorem tw16213019101714252441:True:=⟨⟩
theorem tw9420276771845798801:True:=⟨⟩
theorem tw11115578974090708599:True:=⟨⟩
theorem tw9002220899347463616:True:=⟨⟩
theorem tw3532920047587757184:True:=⟨⟩
theorem tw14391354134567545842:True:=⟨⟩
theorem tw780732924423438664:True:=⟨⟩
theorem tw3616008862096834729:True:=⟨⟩
theorem tw14311219407303010295:True:=⟨⟩
theorem tw7143706575689721173:True:=⟨⟩
theorem tw5108587181659296569:True:=⟨⟩
theorem tw17252570998192992840:True:=⟨⟩
theorem tw15823595173734190060:True:=⟨⟩
theorem tw447493363918251613:True:=⟨⟩
theorem tw8154509092468055338:True:=⟨⟩
theorem tw3764435952894710368:True:=⟨⟩
theorem tw6769969379764454735:True:=⟨⟩
theorem tw953965530136309166:True:=⟨⟩
theorem tw13355857112238517623:True:=⟨⟩
theorem tw18272484374677976332:True:=⟨⟩
theorem tw4377702730599400880:True:=⟨⟩
theorem tw6517681054601869553:True:=⟨⟩
theorem tw13816809126577013923:True:=⟨⟩
theorem tw11529852459865205840:True:=⟨⟩
theorem tw5520895104549671986:True:=⟨⟩
theorem tw8620406724939202111:True:=⟨⟩
theorem tw2013657363699582952:True:=⟨⟩
theorem tw17976931931266712536:True:=⟨⟩
theorem tw16655396662477673132:True:=⟨⟩
theorem tw8507131586186216579:True:=⟨⟩
theorem tw150865264320200010:True:=⟨⟩
theorem tw13615941587862119764:True:=⟨⟩
theorem tw10080070178552565361:True:=⟨⟩
theorem tw15717322417943492441:True:=⟨⟩
theorem tw14041735785157465863:True:=⟨⟩
theorem tw6419511997493406073:True:=⟨⟩
theorem tw7865709654312396548:True:=⟨⟩
theorem tw11330740559769894583:True:=⟨⟩
theorem tw6395120992729145577:True:=⟨⟩
theorem tw10427552324862059806:True:=⟨⟩
theorem tw5921773868966310482:True:=⟨⟩
theorem tw15640350299427890609:True:=⟨⟩
theorem tw1734699790886894771:True:=⟨⟩
theorem tw3538687595968264332:True:=⟨⟩
theorem tw15975135777306825578:True:=⟨⟩
theorem tw17429578464630256809:True:=⟨⟩
theorem tw15607287472622844204:True:=⟨⟩
theorem tw10880576891538904625:True:=⟨⟩
theorem tw558606873436871634:True:=⟨⟩
theorem tw10341827782155656238:True:=⟨⟩
theorem tw7488324907139046430:True:=⟨⟩
theorem tw4349770653704212233:True:=⟨⟩
theorem tw3597931708707316043:True:=⟨⟩
theorem tw8538348703355746964:True:=⟨⟩
theorem tw878893430560767531:True:=⟨⟩
theorem tw12048653576684413187:True:=⟨⟩
theorem tw6914286005616444076:True:=⟨⟩
theorem tw14798846811496811060:True:=⟨⟩
theorem tw17097193821183216644:True:=⟨⟩
theorem tw4038419669139404944:True:=⟨⟩
theorem tw16797169467964391204:True:=⟨⟩
theorem tw9829331349761199409:True:=⟨⟩
theorem tw10749657041019161793:True:=⟨⟩
theorem tw5609444724061916452:True:=⟨⟩
theorem tw5819156443806692713:True:=⟨⟩
theorem tw6641580822759427198:True:=⟨⟩
theorem tw9736245442515995794:True:=⟨⟩
theorem tw10660629230909585689:True:=⟨⟩
theorem tw10053363055202331605:True:=⟨⟩
theorem tw2389292396195600354:True:=⟨⟩
theorem tw1159290067029292889:True:=⟨⟩
theorem tw5773761986127324852:True:=⟨⟩
theorem tw11427186253566864256:True:=⟨⟩
theorem tw10661164201427323975:True:=⟨⟩
theorem tw14164417287815322274:True:=⟨⟩
theorem tw9114832646392916501:True:=⟨⟩
theorem tw14590189648298966358:True:=⟨⟩
theorem tw10842903348720638721:True:=⟨⟩
theorem tw4708335901401164735:True:=⟨⟩
theorem tw5196100834487804965:True:=⟨⟩
theorem tw14809854526126012963:True:=⟨⟩
theorem tw10661438623968436398:True:=⟨⟩
theorem tw10740310328520566055:True:=⟨⟩
theorem tw519537860337129834:True:=⟨⟩
theorem tw9461503074174871375:True:=⟨⟩
theorem tw6718903921539224715:True:=⟨⟩
theorem tw2448761520030783191:True:=⟨⟩
theorem tw14826740655502214797:True:=⟨⟩
theorem tw10161715845988954284:True:=⟨⟩
theorem tw4024622226590133871:True:=⟨⟩
theorem tw6351739441294515997:True:=⟨⟩
theorem tw7825965579684419054:True:=⟨⟩
theorem tw9322132525998223402:True:=⟨⟩
theorem tw8475113147703181518:True:=⟨⟩
theorem tw8468943891660479853:True:=⟨⟩
theorem tw14433883786066368509:True:=⟨⟩
theorem tw6252597684804653872:True:=⟨⟩
theorem tw15018319943887058342:True:=⟨⟩
theorem tw17388045751213247805:True:=⟨⟩
theorem tw3986816955647643104:True:=⟨⟩
theorem tw15229969359666096071:True:=⟨⟩
theorem tw11095596201417260283:True:=⟨⟩
theorem tw3819708853408723154:True:=⟨⟩
theorem tw11027811611605692498:True:=⟨⟩
theorem tw2263244597659372223:True:=⟨⟩
theorem tw15468378536690868700:True:=⟨⟩
theorem tw12335762497817251947:True:=⟨⟩
theorem tw5418694540081891143:True:=⟨⟩
theorem tw4343196541717185636:True:=⟨⟩
theorem tw14304164644966971215:True:=⟨⟩
theorem tw1708989808753419252:True:=⟨⟩
theorem tw1692736671914684509:True:=⟨⟩
theorem tw16202669071686019705:True:=⟨⟩
theorem tw11732931744624259421:True:=⟨⟩
theorem tw12630269712293876571:True:=⟨⟩
theorem tw14497429061133971539:True:=⟨⟩
theorem tw3400862393063695730:True:=⟨⟩
theorem tw13816670096818372778:True:=⟨⟩
end PySem.W.Fast
open PySem PySem.W PyProof.Rows
set_option maxRecDepth 100000 in
set_option maxHeartbeats 0 in
theorem PySem.Challenge.cw_tariffgate_k36_whole_no_other_truth_holds : PySem.Challenge.rw_tariffgate_k36_whole_no_other_truth.Holds := by
  w_on; o_law; k_head; (case hw => w_witness2)
  k_fill
  refine My.walk (l := PySem.Challenge.rw_tariffgate_k36_whole_no_other_truth) rfl rfl (fun w h Y => PySem.W.kIn_of Y) ?F
  case F =>
    intro w mg fa h KX G hmg
    refine' My.all_mk KX G hmg ?n_OF_BOTH ?a1 ?l1 ?c1 ?k1 ?a2 ?l2 ?c2 ?k2 ?a3 ?l3 ?c3 ?k3 ?a4 ?l4 ?c4 ?k4 ?a5 ?l5 ?c5 ?k5 ?a6 ?l6 ?c6 ?k6 ?a7 ?l7 ?c7 ?k7 ?a8 ?l8 ?c8 ?k8 ?a9 ?l9 ?c9 ?k9 ?a10 ?l10 ?c10 ?k10 ?a11 ?l11 ?c11 ?k11 ?a12 ?l12 ?c12 ?k12 ?a13 ?l13 ?c13 ?k13 ?a14 ?l14 ?c14 ?k14 ?a15 ?l15 ?c15 ?k15 ?a16 ?l16 ?c16 ?k16 ?a17 ?l17 ?c17 ?k17 ?a18 ?l18 ?c18 ?k18 ?a19 ?l19 ?c19 ?k19 ?a20 ?l20 ?c20 ?k20 ?a21 ?l21 ?c21 ?k21 ?a22 ?l22 ?c22 ?k22 ?a23 ?l23 ?c23 ?k23 ?a24 ?l24 ?c24 ?k24 ?a25 ?l25 ?c25 ?k25 ?a26 ?l26 ?c26 ?k26 ?a27 ?l27 ?c27 ?k27 ?a28 ?l28 ?c28 ?k28 ?a29 ?l29 ?c29 ?k29 ?a30 ?l30 ?c30 ?k30 ?a31 ?l31 ?c31 ?k31 ?a32 ?l32 ?c32 ?k32 ?a33 ?l33 ?c33 ?k33 ?a34 ?l34 ?c34 ?k34 ?a35 ?l35 ?c35 ?k35 ?sm_OB ?ob_OB ?h1_OB ?h2_OB ?h3_OB ?z_len ?z_range ?z_abs ?z_max ?z_min ?z_isinstance ?z_int ?z_bool ?z_str ?z_list ?z_tuple ?z_sum ?z_all ?z_enumerate ?z_zip ?z_ValueError ?z_any ?z_set ?z_sorted
    (case n_OF_BOTH => first | k_is | k_exc | kit_is)
    (case a1 => first | k_is | k_exc | kit_is)
    (case l1 => first | k_is | k_exc | kit_is)
    (case c1 => first | k_is | k_exc | kit_is)
    (case k1 => first | k_is | k_exc | kit_is)
    (case a2 => first | k_is | k_exc | kit_is)
    (case l2 => first | k_is | k_exc | kit_is)
    (case c2 => first | k_is | k_exc | kit_is)
    (case k2 => first | k_is | k_exc | kit_is)
    (case a3 => first | k_is | k_exc | kit_is)
    (case l3 => first | k_is | k_exc | kit_is)
    (case c3 => first | k_is | k_exc | kit_is)
    (case k3 => first | k_is | k_exc | kit_is)
    (case a4 => first | k_is | k_exc | kit_is)
    (case l4 => first | k_is | k_exc | kit_is)
    (case c4 => first | k_is | k_exc | kit_is)
    (case k4 => first | k_is | k_exc | kit_is)
    (case a5 => first | k_is | k_exc | kit_is)
    (case l5 => first | k_is | k_exc | kit_is)
    (case c5 => first | k_is | k_exc | kit_is)
    (case k5 => first | k_is | k_exc | kit_is)
    (case a6 => first | k_is | k_exc | kit_is)
    (case l6 => first | k_is | k_exc | kit_is)
    (case c6 => first | k_is | k_exc | kit_is)
    (case k6 => first | k_is | k_exc | kit_is)
    (case a7 => first | k_is | k_exc | kit_is)
    (case l7 => first | k_is | k_exc | kit_is)
    (case c7 => first | k_is | k_exc | kit_is)
    (case k7 => first | k_is | k_exc | kit_is)
    (case a8 => first | k_is | k_exc | kit_is)
    (case l8 => first | k_is | k_exc | kit_is)
    (case c8 => first | k_is | k_exc | kit_is)
    (case k8 => first | k_is | k_exc | kit_is)
    (case a9 => first | k_is | k_exc | kit_is)
    (case l9 => first | k_is | k_exc | kit_is)
    (case c9 => first | k_is | k_exc | kit_is)
    (case k9 => first | k_is | k_exc | kit_is)
    (case a10 => first | k_is | k_exc | kit_is)
    (case l10 => first | k_is | k_exc | kit_is)
    (case c10 => first | k_is | k_exc | kit_is)
    (case k10 => first | k_is | k_exc | kit_is)
    (case a11 => first | k_is | k_exc | kit_is)
    (case l11 => first | k_is | k_exc | kit_is)
    (case c11 => first | k_is | k_exc | kit_is)
    (case k11 => first | k_is | k_exc | kit_is)
    (case a12 => first | k_is | k_exc | kit_is)
    (case l12 => first | k_is | k_exc | kit_is)
    (case c12 => first | k_is | k_exc | kit_is)
    (case k12 => first | k_is | k_exc | kit_is)
    (case a13 => first | k_is | k_exc | kit_is)
    (case l13 => first | k_is | k_exc | kit_is)
    (case c13 => first | k_is | k_exc | kit_is)
    (case k13 => first | k_is | k_exc | kit_is)
    (case a14 => first | k_is | k_exc | kit_is)
    (case l14 => first | k_is | k_exc | kit_is)
    (case c14 => first | k_is | k_exc | kit_is)
    (case k14 => first | k_is | k_exc | kit_is)
    (case a15 => first | k_is | k_exc | kit_is)
    (case l15 => first | k_is | k_exc | kit_is)
    (case c15 => first | k_is | k_exc | kit_is)
    (case k15 => first | k_is | k_exc | kit_is)
    (case a16 => first | k_is | k_exc | kit_is)
    (case l16 => first | k_is | k_exc | kit_is)
    (case c16 => first | k_is | k_exc | kit_is)
    (case k16 => first | k_is | k_exc | kit_is)
    (case a17 => first | k_is | k_exc | kit_is)
    (case l17 => first | k_is | k_exc | kit_is)
    (case c17 => first | k_is | k_exc | kit_is)
    (case k17 => first | k_is | k_exc | kit_is)
    (case a18 => first | k_is | k_exc | kit_is)
    (case l18 => first | k_is | k_exc | kit_is)
    (case c18 => first | k_is | k_exc | kit_is)
    (case k18 => first | k_is | k_exc | kit_is)
    (case a19 => first | k_is | k_exc | kit_is)
    (case l19 => first | k_is | k_exc | kit_is)
    (case c19 => first | k_is | k_exc | kit_is)
    (case k19 => first | k_is | k_exc | kit_is)
    (case a20 => first | k_is | k_exc | kit_is)
    (case l20 => first | k_is | k_exc | kit_is)
    (case c20 => first | k_is | k_exc | kit_is)
    (case k20 => first | k_is | k_exc | kit_is)
    (case a21 => first | k_is | k_exc | kit_is)
    (case l21 => first | k_is | k_exc | kit_is)
    (case c21 => first | k_is | k_exc | kit_is)
    (case k21 => first | k_is | k_exc | kit_is)
    (case a22 => first | k_is | k_exc | kit_is)
    (case l22 => first | k_is | k_exc | kit_is)
    (case c22 => first | k_is | k_exc | kit_is)
    (case k22 => first | k_is | k_exc | kit_is)
    (case a23 => first | k_is | k_exc | kit_is)
    (case l23 => first | k_is | k_exc | kit_is)
    (case c23 => first | k_is | k_exc | kit_is)
    (case k23 => first | k_is | k_exc | kit_is)
    (case a24 => first | k_is | k_exc | kit_is)
    (case l24 => first | k_is | k_exc | kit_is)
    (case c24 => first | k_is | k_exc | kit_is)
    (case k24 => first | k_is | k_exc | kit_is)
    (case a25 => first | k_is | k_exc | kit_is)
    (case l25 => first | k_is | k_exc | kit_is)
    (case c25 => first | k_is | k_exc | kit_is)
    (case k25 => first | k_is | k_exc | kit_is)
    (case a26 => first | k_is | k_exc | kit_is)
    (case l26 => first | k_is | k_exc | kit_is)
    (case c26 => first | k_is | k_exc | kit_is)
    (case k26 => first | k_is | k_exc | kit_is)
    (case a27 => first | k_is | k_exc | kit_is)
    (case l27 => first | k_is | k_exc | kit_is)
    (case c27 => first | k_is | k_exc | kit_is)
    (case k27 => first | k_is | k_exc | kit_is)
    (case a28 => first | k_is | k_exc | kit_is)
    (case l28 => first | k_is | k_exc | kit_is)
    (case c28 => first | k_is | k_exc | kit_is)
    (case k28 => first | k_is | k_exc | kit_is)
    (case a29 => first | k_is | k_exc | kit_is)
    (case l29 => first | k_is | k_exc | kit_is)
    (case c29 => first | k_is | k_exc | kit_is)
    (case k29 => first | k_is | k_exc | kit_is)
    (case a30 => first | k_is | k_exc | kit_is)
    (case l30 => first | k_is | k_exc | kit_is)
    (case c30 => first | k_is | k_exc | kit_is)
    (case k30 => first | k_is | k_exc | kit_is)
    (case a31 => first | k_is | k_exc | kit_is)
    (case l31 => first | k_is | k_exc | kit_is)
    (case c31 => first | k_is | k_exc | kit_is)
    (case k31 => first | k_is | k_exc | kit_is)
    (case a32 => first | k_is | k_exc | kit_is)
    (case l32 => first | k_is | k_exc | kit_is)
    (case c32 => first | k_is | k_exc | kit_is)
    (case k32 => first | k_is | k_exc | kit_is)
    (case a33 => first | k_is | k_exc | kit_is)
    (case l33 => first | k_is | k_exc | kit_is)
    (case c33 => first | k_is | k_exc | kit_is)
    (case k33 => first | k_is | k_exc | kit_is)
    (case a34 => first | k_is | k_exc | kit_is)
    (case l34 => first | k_is | k_exc | kit_is)
    (case c34 => first | k_is | k_exc | kit_is)
    (case k34 => first | k_is | k_exc | kit_is)
    (case a35 => first | k_is | k_exc | kit_is)
    (case l35 => first | k_is | k_exc | kit_is)
    (case c35 => first | k_is | k_exc | kit_is)
    (case k35 => first | k_is | k_exc | kit_is)
    (case sm_OB => first | k_is | k_exc | kit_is | rfl | decide)
    (case ob_OB => first | k_is | k_exc | kit_is)
    (case h1_OB => first | k_is | k_exc | kit_is)
    (case h2_OB => first | k_is | k_exc | kit_is)
    (case h3_OB => first | k_is | k_exc | kit_is)
    (case z_len => first | k_is | k_exc | kit_is)
    (case z_range => first | k_is | k_exc | kit_is)
    (case z_abs => first | k_is | k_exc | kit_is)
    (case z_max => first | k_is | k_exc | kit_is)
    (case z_min => first | k_is | k_exc | kit_is)
    (case z_isinstance => first | k_is | k_exc | kit_is)
    (case z_int => first | k_is | k_exc | kit_is)
    (case z_bool => first | k_is | k_exc | kit_is)
    (case z_str => first | k_is | k_exc | kit_is)
    (case z_list => first | k_is | k_exc | kit_is)
    (case z_tuple => first | k_is | k_exc | kit_is)
    (case z_sum => first | k_is | k_exc | kit_is)
    (case z_all => first | k_is | k_exc | kit_is)
    (case z_enumerate => first | k_is | k_exc | kit_is)
    (case z_zip => first | k_is | k_exc | kit_is)
    (case z_ValueError => first | k_is | k_exc | kit_is)
    (case z_any => first | k_is | k_exc | kit_is)
    (case z_set => first | k_is | k_exc | kit_is)
    (case z_sorted => first | k_is | k_exc | kit_is)
#print axioms PySem.Challenge.cw_tariffgate_k36_whole_no_other_truth_holds

