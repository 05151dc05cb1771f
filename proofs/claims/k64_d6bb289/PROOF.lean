import PyProof.Rows.All
import Wide.All
import OpenK.AllK
import Wide.FinOn
import Lean
import PyProof.EqAt
import PyProof.EqKinds
import PyProof.TupleCall
import PyProof.NeKinds
import PyProof.Draws
import PyProof.EnumMake
import PyProof.WalksEnum
import PyProof.Rows.EnumRows
import PyProof.ExcArgsOwn
import PyProof.ExcAttrAll.ValueError
import PyProof.ExcBaseAll.ValueError
import KE.KIsAll
import KE.KTryOn
import KE.RegKIsAll
import OpenK.KOwn
import PyProof.ZipIter
import PyProof.StrWalks
import PyProof.DictTable
import PyProof.SetNew
import PyProof.SetRoads
import PyProof.P3In
import PyProof.NeData
import PyProof.AttrMissSeq
import KE.KDictOf
import KE.KDictSum
import PyProof.Rows.SortStr
import PyProof.ExcInit
import PyProof.ExcClass2
import PyProof.InstStoreFacts
import KE.KLam
import KE.KNestM
import PyProof.Rows.SortRuns
import KE.KSortTup
import KE.KDictLaws
import KE.KDictList
import PySem.Challenge.RW_tariffgate_k64_cuts
set_option Elab.async false
set_option linter.all false
set_option maxRecDepth 100000
namespace L2
open PySem PySem.Spec PyProof.Rows

abbrev Key := Sum Int Str
def keyIs : Key → Value → Bool
  | .inl k, v => Value.isInt k v
  | .inr x, v => Value.isStrOf x v
def keyH (w : World) : Key → Int
  | .inl k => hashInt k
  | .inr x => hashStr w x
theorem keyIs_shape : ∀ {k : Key} {v : Value}, keyIs k v = true → (∃ i t, k = Sum.inl i ∧ v = Value.int i t) ∨ (∃ x t, k = Sum.inr x ∧ v = Value.str x t)
  | .inl i, v, h => by
    obtain ⟨t, e⟩ := Value.isInt_shape (k := i) (v := v) h
    exact .inl ⟨i, t, rfl, e⟩
  | .inr x, v, h => by
    obtain ⟨t, e⟩ := Value.isStrOf_shape (x := x) (v := v) h
    exact .inr ⟨x, t, rfl, e⟩
theorem keyIs_int (i : Int) (t : Tok) : keyIs (.inl i) (.int i t) = true := by simp [keyIs, Value.isInt]
theorem keyIs_str (x : Str) (t : Tok) : keyIs (.inr x) (.str x t) = true := by simp [keyIs, Value.isStrOf]
theorem key_ll (a b : Int) : decide ((Sum.inl a : Key) = Sum.inl b) = (a == b) := by
  by_cases e : a = b
  · subst e; simp
  · have h : ¬ (Sum.inl a : Key) = Sum.inl b := fun q => e (Sum.inl.inj q)
    rw [decide_eq_false h]
    exact (beq_eq_false_iff_ne.mpr e).symm
theorem key_rr (a b : Str) : decide ((Sum.inr a : Key) = Sum.inr b) = decide (a = b) := by
  by_cases e : a = b
  · subst e; simp
  · have h : ¬ (Sum.inr a : Key) = Sum.inr b := fun q => e (Sum.inr.inj q)
    rw [decide_eq_false h, decide_eq_false e]
theorem key_lr (a : Int) (b : Str) : decide ((Sum.inl a : Key) = Sum.inr b) = false := decide_eq_false (fun q => nomatch q)
theorem key_rl (a : Str) (b : Int) : decide ((Sum.inr a : Key) = Sum.inl b) = false := decide_eq_false (fun q => nomatch q)

def mixKind (prog : Program) (w : World) : PySem.KeyKind prog w Key where
  is := keyIs
  hash := keyH w
  inj := fun v a b ha hb => by
    rcases keyIs_shape ha with ⟨i, t, rfl, rfl⟩ | ⟨x, t, rfl, rfl⟩
    · rcases keyIs_shape hb with ⟨j, u, rfl, e⟩ | ⟨y, u, rfl, e⟩
      · injection e with e1 _; rw [e1]
      · exact nomatch e
    · rcases keyIs_shape hb with ⟨j, u, rfl, e⟩ | ⟨y, u, rfl, e⟩
      · exact nomatch e
      · injection e with e1 _; rw [e1]
  byValue := fun k v h => by
    rcases keyIs_shape h with ⟨i, t, rfl, rfl⟩ | ⟨x, t, rfl, rfl⟩ <;> rfl
  pyHash := fun hv h => by
    rcases keyIs_shape hv with ⟨i, t, rfl, rfl⟩ | ⟨x, t, rfl, rfl⟩
    · exact wpAny_pyHash_int h
    · exact wpAny_pyHash_str h
  eqBool := fun hu hv h => by
    rcases keyIs_shape hu with ⟨i, t, rfl, rfl⟩ | ⟨x, t, rfl, rfl⟩
    · rcases keyIs_shape hv with ⟨j, u, rfl, rfl⟩ | ⟨y, u, rfl, rfl⟩
      · rw [key_ll] at h; exact wpAny_eqBool_int h
      · rw [key_lr] at h; exact SeqAt.EqAt.int_str i t y u _ _ _ _ h
    · rcases keyIs_shape hv with ⟨j, u, rfl, rfl⟩ | ⟨y, u, rfl, rfl⟩
      · rw [key_rl] at h; exact SeqAt.EqAt.str_int x t j u _ _ _ _ h
      · rw [key_rr] at h; exact wpAny_eqBool_str h
  «strs» := fun k x t v h => by
    rcases keyIs_shape h with ⟨i, u, rfl, e⟩ | ⟨y, u, rfl, e⟩
    · exact nomatch e
    · injection e with e1 _
      subst e1
      cases v <;> rfl

theorem mixKind_int (prog : Program) (w : World) (i : Int) (t : Tok) : (mixKind prog w).is (.inl i) (.int i t) = true := keyIs_int i t
theorem mixKind_str (prog : Program) (w : World) (x : Str) (t : Tok) : (mixKind prog w).is (.inr x) (.str x t) = true := keyIs_str x t
end L2

namespace L2
open PySem PySem.Spec PyProof.Rows

inductive V where
  | non | bl (b : Bool) | int (i : Int) | str (x : Str) | byt (b : Array UInt8) | flt (b : UInt64) | ref (a : Addr) | ty (n : String)
  deriving DecidableEq

def RelV : V → Value → Prop
  | .non, u => u = Value.none
  | .bl b, u => u = Value.bool b
  | .int i, u => ∃ t, u = Value.int i t
  | .str x, u => ∃ t, u = Value.str x t
  | .byt b, u => ∃ t, u = Value.bytes b t
  | .flt b, u => ∃ t, u = Value.float b t
  | .ref a, u => u = Value.ref a
  | .ty n, u => u = Value.type n

abbrev Vals : List V → List Value → Prop := Paired RelV
theorem Vals.length {xs : List V} {us : List Value} (r : Vals xs us) : xs.length = us.length := Paired.length r
theorem Vals.get : ∀ {xs : List V} {us : List Value} {i : Nat} {x : V}, Vals xs us → xs[i]? = some x → ∃ u, us[i]? = some u ∧ RelV x u
  | _, _, _, _, .nil, e => by simp at e
  | _, _, 0, _, .cons r _, e => by simp at e; subst e; exact ⟨_, rfl, r⟩
  | _, _, i + 1, x, .cons _ t, e => by
    obtain ⟨u, h1, h2⟩ := Vals.get (i := i) (x := x) t (by simpa using e)
    exact ⟨u, by simpa using h1, h2⟩
theorem Vals.set {x : V} {u : Value} (r : RelV x u) : ∀ {xs : List V} {us : List Value} (i : Nat), Vals xs us → Vals (xs.set i x) (us.set i u)
  | _, _, _, .nil => .nil
  | _, _, 0, .cons _ t => .cons r t
  | _, _, i + 1, .cons q t => .cons q (Vals.set r i t)
theorem Vals.append : ∀ {xs ys : List V} {us ws : List Value}, Vals xs us → Vals ys ws → Vals (xs ++ ys) (us ++ ws)
  | _, _, _, _, .nil, s => s
  | _, _, _, _, .cons r t, s => .cons r (Vals.append t s)
theorem Vals.take : ∀ {xs : List V} {us : List Value} (n : Nat), Vals xs us → Vals (xs.take n) (us.take n)
  | _, _, 0, _ => .nil
  | _, _, _ + 1, .nil => .nil
  | _, _, n + 1, .cons r t => .cons r (Vals.take n t)
theorem Vals.drop : ∀ {xs : List V} {us : List Value} (n : Nat), Vals xs us → Vals (xs.drop n) (us.drop n)
  | _, _, 0, r => r
  | _, _, _ + 1, .nil => .nil
  | _, _, n + 1, .cons _ t => Vals.drop n t
def RelO : Option V → Option Value → Prop
  | some v, some u => RelV v u
  | none, none => True
  | _, _ => False
def KV {κ : Type} : List (κ × V) → List (κ × Value) → Prop := Paired fun (p : κ × V) (q : κ × Value) => p.1 = q.1 ∧ RelV p.2 q.2

def kV : Key → V
  | .inl i => .int i
  | .inr x => .str x

inductive HO where
  /-- a list -/
  | lst (xs : List V)
  /-- a tuple (never changes) -/
  | tup (xs : List V)
  /-- a dict whose keys are ints and texts; one whose keys are tuples of ints and texts (the empty one is both) -/
  | dK (kvs : List (Key × V)) | dT (kvs : List (List Key × V))
  /-- a set of ints: its members, its size -/
  | set (S : Int → Bool) (n : Nat)
  /-- an instance of the class at C, its dict at dx, its attributes -/
  | ins (C dx : Addr) (fs : List (Str × V))
  /-- the dict of the instance at x -/
  | own (x : Addr)
  /-- the dict of an exception -/
  | xd (fs : List (Str × V))
  /-- a bound method, f of x -/
  | met (f x : Addr)
  /-- a range object lo, lo + 1, .. below hi -/
  | rng (lo hi : Int)
  /-- a thing that is known to the object (the script; a dict while a loop walks it): read, never written while it is so -/
  | frz (o : Obj) (u : HO)
  /-- a code object's table -/
  | tbl (ps : Array Value)
  /-- any other thing, by what is true of its one object (a def of one's own: SetO a S n := HO.ext fun h => ..) -/
  | ext (φ : Heap → Prop)

abbrev Hp := Addr → Option HO
def upd (H : Hp) (a : Addr) (o : HO) : Hp := fun b => if b = a then some o else H b
theorem upd_same {H : Hp} {a : Addr} {o : HO} : upd H a o a = some o := by unfold upd; rw [if_pos rfl]
theorem upd_ne {H : Hp} {a b : Addr} {o : HO} (h : b ≠ a) : upd H a o b = H b := by unfold upd; rw [if_neg h]
theorem ne_of {H : Hp} {a b : Addr} {o u : HO} (h : H a = some o) (h' : H b = some u) (d : o ≠ u) : a ≠ b := by
  intro e; subst e; rw [h] at h'; exact d (Option.some.inj h')
theorem ne_of_none {H : Hp} {a b : Addr} {o : HO} (h : H a = some o) (h' : H b = none) : a ≠ b := by
  intro e; subst e; rw [h] at h'; cases h'

section
variable (P : Program) (w : World)
def NoD (h : Heap) (a : Addr) : Prop := ∃ o, h.get? a = some o ∧ o.dict = none
def ObjOk (H : Hp) (h : Heap) (a : Addr) : HO → Prop
  | .lst xs => xs.length ≤ sizeLine ∧ ∃ (its : List Value) (n : Nat), Vals xs its ∧ h.get? a = some { cls := .type "list", data := .seq its.toArray n }
  | .tup xs => xs.length ≤ sizeLine ∧ ∃ its : List Value, Vals xs its ∧ IsTup h a its.toArray ∧ NoD h a
  | .dK kvs => kvs.length ≤ sizeLine ∧ (a == sysModules) = false ∧ ∃ vs, KV kvs vs ∧ h.DictOf (mixKind P w) a vs
  | .dT kvs => kvs.length ≤ sizeLine ∧ (a == sysModules) = false ∧ ∃ xs : List (List Key × Addr × Value),
      Paired (fun (p : List Key × V) (q : List Key × Addr × Value) => p.1 = q.1 ∧ H q.2.1 = some (.tup (p.1.map kV)) ∧ RelV p.2 q.2.2) kvs xs ∧
      ∃ o es ep, h.get? a = some o ∧ o.ExactDict ∧ o.data = .dict es ep ∧ es.toList = xs.map (entryOfKey (tupleKind (mixKind P w))) ∧ (xs.map (·.1)).Nodup
  | .set S n => h.SetOf (intKind P w) a S n
  | .ins C dx fs => H dx = some (.own a) ∧ fs.length ≤ 1000 ∧ dx ≠ a ∧ h.get? a = some (PySem.W.instObj C dx) ∧
      ∃ mA, h.Ns1 dx mA ∧ (∀ f, RelO (fs.lookup f) (mA f)) ∧ PySem.Within mA (fs.map (·.1))
  | .own _ => ∃ o, h.get? a = some o
  | .xd fs => ∃ mA, h.Ns1 a mA ∧ ∀ f, RelO (fs.lookup f) (mA f)
  | .rng lo hi => ∃ t u v, h.get? a = some { cls := .type "range", data := .fields #[.int lo t, .int hi u, .int 1 v] }
  | .frz o u => h.get? a = some o ∧ ObjOk H h a u
  | .tbl ps => h.get? a = some { cls := .none, data := .fields ps }
  | .met f x => h.get? a = some (PySem.W.methodObj (.ref f) (.ref x))
  | .ext φ => φ h ∧ (∃ o, h.get? a = some o) ∧ ∀ h1 h2 : Heap, φ h1 → (∀ o, h1.get? a = some o → h2.get? a = some o) → φ h2
def HOk (H : Hp) (h : Heap) : Prop := ∀ a o, H a = some o → ObjOk P w H h a o
end

section
variable {P : Program} {w : World} {H H' : Hp} {h h' : Heap} {a : Addr} {o : HO}
theorem ObjOk.lt (x : ObjOk P w H h a o) : a < h.objs.size := by
  cases o with
  | lst xs => obtain ⟨_, _, _, _, e⟩ := x; exact Heap.lt_size e
  | tup xs => obtain ⟨_, _, _, p, _⟩ := x; exact p.lt
  | dK kvs => obtain ⟨_, _, _, _, o, _, _, e, _⟩ := x; exact Heap.lt_size e
  | dT kvs => obtain ⟨_, _, _, _, o, _, _, e, _⟩ := x; exact Heap.lt_size e
  | set S n => obtain ⟨o, _, _, _, e, _⟩ := x; exact Heap.lt_size e
  | ins C dx fs => obtain ⟨_, _, _, e, _⟩ := x; exact Heap.lt_size e
  | own y => obtain ⟨_, e⟩ := x; exact Heap.lt_size e
  | xd fs => obtain ⟨_, ⟨_, _, _, e, _⟩, _⟩ := x; exact Heap.lt_size e
  | rng lo hi => obtain ⟨_, _, _, e⟩ := x; exact Heap.lt_size e
  | frz ob u => obtain ⟨e, _⟩ := x; exact Heap.lt_size e
  | tbl ps => exact Heap.lt_size (show h.get? a = some _ from x)
  | met f y => exact Heap.lt_size (show h.get? a = some _ from x)
  | ext φ => obtain ⟨_, ⟨_, e⟩, _⟩ := x; exact Heap.lt_size e
theorem Paired.mapP {α β : Type} {F G : α → β → Prop} : ∀ {l₁ : List α} {l₂ : List β}, Paired F l₁ l₂ → (∀ a b, F a b → G a b) → Paired G l₁ l₂
  | _, _, .nil, _ => .nil
  | _, _, .cons r t, f => .cons (f _ _ r) (Paired.mapP t f)
theorem ObjOk.stay (x : ObjOk P w H h a o) (k : ∀ b u, (b = a ∨ H b = some (.own a)) → h.get? b = some u → h'.get? b = some u)
    (ho : ∀ b, H b = some (.own a) → H' b = some (.own a)) (ht : ∀ b xs, H b = some (.tup xs) → H' b = some (.tup xs)) : ObjOk P w H' h' a o := by
  induction o with
  | lst xs => obtain ⟨z, its, n, r, e⟩ := x; exact ⟨z, its, n, r, k _ _ (.inl rfl) e⟩
  | tup xs => obtain ⟨z, its, r, ⟨ob, e, c⟩, o2, e2, d2⟩ := x; exact ⟨z, its, r, ⟨ob, k _ _ (.inl rfl) e, c⟩, o2, k _ _ (.inl rfl) e2, d2⟩
  | dK kvs => obtain ⟨z, y, vs, r, ob, es, ep, e, c⟩ := x; exact ⟨z, y, vs, r, ob, es, ep, k _ _ (.inl rfl) e, c⟩
  | dT kvs =>
    obtain ⟨z, y, xs, r, ob, es, ep, e, c⟩ := x
    exact ⟨z, y, xs, Paired.mapP r fun p q z => ⟨z.1, ht _ _ z.2.1, z.2.2⟩, ob, es, ep, k _ _ (.inl rfl) e, c⟩
  | set S n => obtain ⟨ob, es, ep, t, e, c⟩ := x; exact ⟨ob, es, ep, t, k _ _ (.inl rfl) e, c⟩
  | ins C dx fs =>
    obtain ⟨d, z, ne, e, mA, ⟨od, es, ep, e2, c⟩, r⟩ := x
    exact ⟨ho _ d, z, ne, k _ _ (.inl rfl) e, mA, ⟨od, es, ep, k _ _ (.inr d) e2, c⟩, r⟩
  | own y => obtain ⟨ob, e⟩ := x; exact ⟨ob, k _ _ (.inl rfl) e⟩
  | xd fs => obtain ⟨mA, ⟨od, es, ep, e, c⟩, r⟩ := x; exact ⟨mA, ⟨od, es, ep, k _ _ (.inl rfl) e, c⟩, r⟩
  | rng lo hi => obtain ⟨t, u, v, e⟩ := x; exact ⟨t, u, v, k _ _ (.inl rfl) e⟩
  | frz ob u ih => obtain ⟨e, q⟩ := x; exact ⟨k _ _ (.inl rfl) e, ih q⟩
  | tbl ps =>
    have e : h.get? a = some { cls := .none, data := .fields ps } := x
    show h'.get? a = some { cls := .none, data := .fields ps }
    exact k a _ (.inl rfl) e
  | met f y =>
    have e : h.get? a = some (PySem.W.methodObj (.ref f) (.ref y)) := x
    show h'.get? a = some (PySem.W.methodObj (.ref f) (.ref y))
    exact k a _ (.inl rfl) e
  | ext φ => obtain ⟨p, ⟨o, e⟩, st⟩ := x; exact ⟨st _ _ p fun o q => k _ _ (.inl rfl) q, ⟨o, k _ _ (.inl rfl) e⟩, st⟩
theorem HOk.lt (x : HOk P w H h) (e : H a = some o) : a < h.objs.size := (x a o e).lt
theorem HOk.fresh (x : HOk P w H h) (e : h.objs.size ≤ a) : H a = none := by
  cases q : H a with
  | none => rfl
  | some u => exact absurd (Nat.lt_of_lt_of_le (x.lt q) e) (Nat.lt_irrefl _)
theorem HOk.kept (x : HOk P w H h) (k : ∀ b u, h.get? b = some u → h'.get? b = some u) : HOk P w H h' := fun a o e =>
  (x a o e).stay (fun b u _ q => k b u q) (fun _ q => q) fun _ _ q => q
theorem HOk.laid (x : HOk P w H h) (k : ∀ b u, h.get? b = some u → h'.get? b = some u) (hp : h.objs.size ≤ a) (new : ObjOk P w (upd H a o) h' a o) : HOk P w (upd H a o) h' := fun b u e => by
  have hn := x.fresh hp
  by_cases hb : b = a
  · subst hb; rw [upd_same] at e; cases e; exact new
  · rw [upd_ne hb] at e
    exact (x b u e).stay (fun c v _ q => k c v q) (fun c q => by rw [upd_ne (ne_of_none q hn)]; exact q) fun c xs q => by rw [upd_ne (ne_of_none q hn)]; exact q
end

def Rd (H : Hp) (a : Addr) (u : HO) : Prop := H a = some u ∨ ∃ o, H a = some (.frz o u)
theorem Rd.ok {P : Program} {w : World} {H : Hp} {h : Heap} {a : Addr} {u : HO} (r : Rd H a u) (x : HOk P w H h) : ObjOk P w H h a u := by
  rcases r with r | ⟨o, r⟩
  · exact x a u r
  · obtain ⟨_, q⟩ := x a _ r
    exact q
def Mut : Option HO → Prop
  | some (.lst _) => True
  | some (.dK _) => True
  | some (.dT _) => True
  | some (.set _ _) => True
  | some (.ins _ _ _) => True
  | some (.ext _) => True
  | _ => False
section
variable {P : Program} {w : World} {H : Hp} {h h' : Heap} {x e : Addr} {o' : HO}
theorem HOk.write (ok : HOk P w H h) (mu : Mut (H x)) (he : e = x ∨ H e = some (.own x)) (k : ∀ b u, b ≠ e → h.get? b = some u → h'.get? b = some u) (heo : ∃ u, h'.get? e = some u)
    (new : ObjOk P w (upd H x o') h' x o') : HOk P w (upd H x o') h' := fun b u q => by
  have nown : ∀ c y, H c = some (.own y) → c ≠ x := fun c y r z => by subst z; rw [r] at mu; exact mu
  have ntup : ∀ c xs, H c = some (.tup xs) → c ≠ x := fun c xs r z => by subst z; rw [r] at mu; exact mu
  by_cases hb : b = x
  · subst hb; rw [upd_same] at q; cases q; exact new
  · rw [upd_ne hb] at q
    by_cases hbe : b = e
    · have q' : H b = some (.own x) := by
        rcases he with z | z
        · exact absurd (hbe.trans z) hb
        · rw [hbe]; exact z
      rw [q] at q'; cases q'
      obtain ⟨v, hv⟩ := heo
      exact ⟨v, by rw [hbe]; exact hv⟩
    · refine (ok b u q).stay (fun c v hc r => k c v ?_ r) (fun c r => by rw [upd_ne (nown c b r)]; exact r) fun c xs r => by rw [upd_ne (ntup c xs r)]; exact r
      rcases hc with rfl | hc
      · exact hbe
      · rintro rfl
        rcases he with z | z
        · exact nown c b hc z
        · rw [hc] at z; cases z; exact hb rfl
end

structure Un (fs ex : List Addr) (H H' : Hp) (h h' : Heap) : Prop where
  keep : ∀ b o, h.get? b = some o → H b = none → b ∉ fs → b ∉ ex → h'.get? b = some o
  slot : ∀ b o, h.get? b = some o → H b = none → b ∈ fs → b ∉ ex → ∃ sl, h'.get? b = some { o with slots := sl }
  free : ∀ b o, h.get? b = some o → H b = none → b ∉ ex → H' b = none
  there : ∀ b o, h.get? b = some o → b ∉ ex → ∃ o', h'.get? b = some o'
  tups : ∀ b xs, H b = some (.tup xs) → H' b = some (.tup xs)
  frzs : ∀ b o u, H b = some (.frz o u) → H' b = some (.frz o u)
  tbls : ∀ b ps, H b = some (.tbl ps) → ∃ more, H' b = some (.tbl (ps ++ more))
section
variable {fs fs' ex ex' : List Addr} {H H1 H2 : Hp} {h h1 h2 h' : Heap} {a x e : Addr} {o : HO}
theorem Un.any (u : Un fs ex H H1 h h1) {b : Addr} {ob : Obj} (q : h.get? b = some ob) (n : H b = none) (hx : b ∉ ex) : ∃ sl, h1.get? b = some { ob with slots := sl } := by
  by_cases hb : b ∈ fs
  · exact u.slot b ob q n hb hx
  · exact ⟨ob.slots, u.keep b ob q n hb hx⟩
theorem Un.trans (a : Un fs ex H H1 h h1) (b : Un fs ex H1 H2 h1 h2) : Un fs ex H H2 h h2 where
  keep := fun c ob q n hc hx => b.keep c ob (a.keep c ob q n hc hx) (a.free c ob q n hx) hc hx
  slot := fun c ob q n hc hx => by
    obtain ⟨sl, e1⟩ := a.slot c ob q n hc hx
    obtain ⟨sl', e2⟩ := b.slot c _ e1 (a.free c ob q n hx) hc hx
    exact ⟨sl', e2⟩
  free := fun c ob q n hx => by
    obtain ⟨o', e1⟩ := a.there c ob q hx
    exact b.free c o' e1 (a.free c ob q n hx) hx
  there := fun c ob q hx => by
    obtain ⟨o', e1⟩ := a.there c ob q hx
    exact b.there c o' e1 hx
  tups := fun c xs q => b.tups c xs (a.tups c xs q)
  frzs := fun c ob xs q => b.frzs c ob xs (a.frzs c ob xs q)
  tbls := fun c ps q => by
    obtain ⟨m1, e1⟩ := a.tbls c ps q
    obtain ⟨m2, e2⟩ := b.tbls c _ e1
    exact ⟨m1 ++ m2, by rw [e2, Array.append_assoc]⟩
theorem Un.kept (k : ∀ b u, h.get? b = some u → h'.get? b = some u) : Un fs ex H H h h' :=
  ⟨fun b ob q _ _ _ => k b ob q, fun b ob q _ _ _ => ⟨ob.slots, k b ob q⟩, fun _ _ _ n _ => n, fun b ob q _ => ⟨ob, k b ob q⟩, fun _ _ q => q, fun _ _ _ q => q, fun _ ps q => ⟨#[], by rw [q]; simp⟩⟩
theorem Un.refl : Un fs ex H H h h := Un.kept fun _ _ q => q
theorem Un.laid (k : ∀ b u, h.get? b = some u → h'.get? b = some u) (hp : h.objs.size ≤ a) (hn : H a = none) : Un fs ex H (upd H a o) h h' where
  keep := fun b u q _ _ _ => k b u q
  slot := fun b u q _ _ _ => ⟨u.slots, k b u q⟩
  free := fun b u q n _ => by rw [upd_ne (Nat.ne_of_lt (Nat.lt_of_lt_of_le (Heap.lt_size q) hp))]; exact n
  there := fun b u q _ => ⟨u, k b u q⟩
  tups := fun b xs q => by rw [upd_ne (ne_of_none q hn)]; exact q
  frzs := fun b u xs q => by rw [upd_ne (ne_of_none q hn)]; exact q
  tbls := fun b ps q => ⟨#[], by rw [upd_ne (ne_of_none q hn), q]; simp⟩
theorem Un.write (mu : Mut (H x)) (he : e = x ∨ H e = some (.own x)) (k : ∀ b u, b ≠ e → h.get? b = some u → h'.get? b = some u) (heo : ∃ u, h'.get? e = some u) : Un fs ex H (upd H x o) h h' := by
  have hx : ∀ b, H b = none → b ≠ x := fun b n z => by subst z; rw [n] at mu; exact mu
  have hb : ∀ b, H b = none → b ≠ e := fun b n z => by
    subst z
    rcases he with r | r
    · exact hx b n r
    · rw [n] at r; cases r
  have hm : ∀ b u, H b = some u → ¬ Mut (some u) → b ≠ x := fun b u q nm z => by subst z; rw [q] at mu; exact nm mu
  refine ⟨fun b u q n _ _ => k b u (hb b n) q, fun b u q n _ _ => ⟨u.slots, k b u (hb b n) q⟩, fun b u q n _ => by rw [upd_ne (hx b n)]; exact n, fun b u q _ => ?_,
    fun b xs q => by rw [upd_ne (hm b _ q fun z => z)]; exact q, fun b u xs q => by rw [upd_ne (hm b _ q fun z => z)]; exact q, fun b ps q => ⟨#[], by rw [upd_ne (hm b _ q fun z => z), q]; simp⟩⟩
  by_cases hbe : b = e
  · subst hbe; exact heo
  · exact ⟨u, k b u hbe q⟩
end

def trk (h : Heap) (H : Hp) : List Addr := (List.range h.objs.size).filter fun a => (H a).isSome
def hidT (h : Heap) (H : Hp) : Heap := PySem.W.hideAll h (trk h H)
theorem hidT_size (h : Heap) (H : Hp) : (hidT h H).objs.size = h.objs.size := PySem.W.hideAll_size _ _
theorem hidT_get {h : Heap} {H : Hp} {b : Addr} {o : Obj} (e : h.get? b = some o) (n : H b = none) : (hidT h H).get? b = some o :=
  PySem.W.hideAll_get _ e fun hm => by
    have q : (H b).isSome = true := (List.mem_filter.mp hm).2
    rw [n] at q; simp at q
theorem of_hidT {h : Heap} {H : Hp} {b : Addr} {o : Obj} (e : (hidT h H).get? b = some o) : h.get? b = some o ∧ H b = none := by
  have e' : h.get? b = some o := PySem.W.of_hideAll (trk h H) e
  refine ⟨e', ?_⟩
  cases q : H b with
  | none => rfl
  | some x =>
    have hm : b ∈ trk h H := List.mem_filter.mpr ⟨List.mem_range.mpr (Heap.lt_size e'), by simp [q]⟩
    have z : (hidT h H).get? b = none := PySem.W.hideAll_none (trk h H) hm
    rw [z] at e; cases e

def allNews (g h : Heap) (L : Addr) : List (Addr × Obj) := (List.range h.objs.size).filterMap fun a => if a = L ∨ (g.get? a).isSome = true then none else (h.get? a).map fun o => (a, o)
def rest (g h : Heap) (L d : Addr) : List (Addr × Obj) := (allNews g h L).filter fun p => decide (p.1 ≠ d)
end L2

namespace L2
open PySem PySem.Spec PyProof.Rows

structure Mod (K : PySem.W.Frag) (mg : Str → Option Value) (base : Heap) : Prop where
  kin : K.In base
  glob : base.Ns mainGlobals mg
  blt : ∃ mb, base.Ns builtinsNs mb ∧ ∀ x : Str, x ≠ "__name__" → mb x = bootBuiltins x
  nolimit : base.NoLimit

structure Cx where
  prog : Program
  w : World
  K : PySem.W.Frag
  mg : Str → Option Value
  base : Heap
  A : Around
  N : List Str
  s₀ : Shared
  H₀ : Hp
  env : Env
  outer : List Env
  stack : List Env
  ex : List Addr
  fn : Str → Bool
  calm : Bool
  pn : List (Addr × Obj)
  xe : Value → Shared → Prop
def frs (l : List Env) : List Addr := l.filterMap (·.frame)
abbrev Cx.fs (X : Cx) : List Addr := frs X.outer

def Vis (sc : Scope) (x : Str) : Prop := sc.names.lookup x = some .local ∨ sc.names.lookup x = some .cell ∨ sc.names.lookup x = some .free
def Loc (sc : Scope) (x : Str) : Prop := sc.names.lookup x = some .local ∨ sc.names.lookup x = some .cell
def Look (env : Env) (h : Heap) (m : Str → Option Value) (x : Str) (u : Value) : Prop :=
  (env.kindOf x = some .local ∧ m x = some u) ∨ ((env.kindOf x = some .cell ∨ env.kindOf x = some .free) ∧ ∃ c, env.cells.lookup x = some c ∧ h.IsCell c (some u))

structure Cx.Ok (X : Cx) : Prop where
  mod : Mod X.K X.mg X.base
  kind : X.env.scope.kind = .function
  glob : X.env.globals = mainGlobals
  blt : X.env.builtins = builtinsNs
  above : X.s₀.heap.objs.size ≤ X.env.locals
  inj : ∀ x y c, X.env.cells.lookup x = some c → X.env.cells.lookup y = some c → x = y
  has : ∀ x, (X.env.kindOf x = some .cell ∨ X.env.kindOf x = some .free) → ∃ c, X.env.cells.lookup x = some c
  cab : ∀ x c, X.fn x = true → X.env.cells.lookup x = some c → X.s₀.heap.objs.size ≤ c
  hd : X.calm = true → X.A.handled = none
  frames : X.A.frames = some X.stack
  stk : X.stack = X.outer ∨ (X.stack = X.env :: X.outer ∧ X.env.frame = some X.env.locals)
  exf : ∀ b ∈ X.ex, b ≠ X.env.locals ∧ ∀ x c, X.env.cells.lookup x = some c → c ≠ b
  bs : ∀ b o, X.base.get? b = some o → X.s₀.heap.get? b = some o ∧ X.H₀ b = none
  bsz : X.base.objs.size ≤ X.s₀.heap.objs.size
  noex : ∀ b o, X.base.get? b = some o → b ∉ X.ex
  exfs : ∀ b ∈ X.ex, b ∉ X.fs
  funs : X.s₀.heap.FunFrames X.base X.outer
  frf : ∀ b ∈ X.fs, X.H₀ b = none

structure Inv (X : Cx) (pins : List (Addr × Obj)) (σ : List (Option V)) (H : Hp) (s : Shared) : Prop where
  ok : X.Ok
  os : s.os = X.s₀.os
  bare : AllBare s.gens
  base : Un X.fs X.ex X.H₀ H X.s₀.heap s.heap
  loc : ∃ m, s.heap.Ns X.env.locals m ∧ ∀ (i : Nat) (x : Str) (v : V), X.N[i]? = some x → σ[i]? = some (some v) → Vis X.env.scope x → ∃ u, RelV v u ∧ Look X.env s.heap m x u
  cell : ∀ x c, X.env.cells.lookup x = some c → ∃ v, s.heap.IsCell c v
  free : H X.env.locals = none
  freeC : ∀ x c, X.env.cells.lookup x = some c → H c = none
  pin : ∀ p ∈ X.pn ++ pins, s.heap.get? p.1 = some p.2 ∧ H p.1 = none ∧ p.1 ≠ X.env.locals ∧ p.1 ∉ X.fs ∧ ∀ v, p.2.data ≠ .cell v
  hok : HOk X.prog X.w H s.heap
  len : σ.length = X.N.length

section
variable {X : Cx} {pins : List (Addr × Obj)} {σ : List (Option V)} {H H' : Hp} {s : Shared} {h' : Heap}

theorem Cx.Ok.nofr (ok : X.Ok) {b : Addr} {o : Obj} (e : X.base.get? b = some o) : b ∉ X.fs := fun hb => by
  have := (ok.funs.mem hb).1
  rw [e] at this; cases this
theorem Inv.bs (I : Inv X pins σ H s) : ∀ b o, X.base.get? b = some o → s.heap.get? b = some o ∧ H b = none := fun b o e =>
  ⟨I.base.keep b o (I.ok.bs b o e).1 (I.ok.bs b o e).2 (I.ok.nofr e) (I.ok.noex b o e), I.base.free b o (I.ok.bs b o e).1 (I.ok.bs b o e).2 (I.ok.noex b o e)⟩
theorem Inv.bk (I : Inv X pins σ H s) : ∀ b o, X.base.get? b = some o → s.heap.get? b = some o := fun b o e => (I.bs b o e).1
theorem Inv.mod (I : Inv X pins σ H s) : Mod X.K X.mg X.base := I.ok.mod
theorem Inv.kIn (I : Inv X pins σ H s) : X.K.In s.heap := I.ok.mod.kin.keeps I.bk
theorem Inv.lt (I : Inv X pins σ H s) : X.env.locals < s.heap.objs.size := let ⟨_, hn, _⟩ := I.loc; hn.lt
theorem Inv.sz (I : Inv X pins σ H s) : X.s₀.heap.objs.size ≤ s.heap.objs.size := Nat.le_trans I.ok.above (Nat.le_of_lt I.lt)
theorem Inv.nofs (I : Inv X pins σ H s) {a : Addr} (h : s.heap.objs.size ≤ a) : a ∉ X.fs := fun hb => by
  obtain ⟨_, o, ho, _⟩ := I.ok.funs.mem hb
  exact absurd (Nat.lt_of_lt_of_le (Heap.lt_size ho) (Nat.le_trans I.sz h)) (Nat.lt_irrefl _)
theorem Inv.cne (I : Inv X pins σ H s) : ∀ x c, X.env.cells.lookup x = some c → c ≠ X.env.locals := fun x c e z => by
  obtain ⟨v, o, ho, hd⟩ := I.cell x c e
  obtain ⟨m, ⟨o', es, ep, ho', hd', _⟩, _⟩ := I.loc
  rw [z, ho'] at ho; cases ho; rw [hd'] at hd; cases hd
theorem Inv.funs (I : Inv X pins σ H s) : s.heap.FunFrames X.base X.outer := by
  have all : ∀ (l : List Env), (∀ b ∈ frs l, b ∈ X.fs) → X.s₀.heap.FunFrames X.base l → s.heap.FunFrames X.base l := by
    intro l
    induction l with
    | nil => intro _ _; trivial
    | cons env r ih =>
      intro hs hl
      obtain ⟨hk, ⟨L, o, hf, hn, ho, hd⟩, hr⟩ := hl
      have hL : L ∈ X.fs := hs L (by unfold frs; rw [List.filterMap_cons, hf]; exact List.mem_cons_self)
      obtain ⟨sl, e⟩ := I.base.slot L o ho (I.ok.frf L hL) hL fun z => I.ok.exfs L z hL
      exact ⟨hk, ⟨L, _, hf, hn, e, hd⟩, ih (fun b hb => hs b (by unfold frs; rw [List.filterMap_cons, hf]; exact List.mem_cons_of_mem _ hb)) hr⟩
  exact all X.outer (fun _ hb => hb) I.ok.funs

theorem Inv.stack (I : Inv X pins σ H s) : s.heap.FunFrames X.base X.stack := by
  rcases I.ok.stk with e | ⟨e, hf⟩
  · rw [e]; exact I.funs
  · rw [e]
    obtain ⟨m, hn, _⟩ := I.loc
    refine .cons (by rw [I.ok.kind]; decide) hf hn ?_ I.funs
    exact Heap.get?_none_of_le (Nat.le_trans I.ok.bsz I.ok.above)
theorem Inv.stkSub (I : Inv X pins σ H s) : ∀ b ∈ frs X.stack, b ∈ X.env.locals :: X.fs := fun b hb => by
  rcases I.ok.stk with e | ⟨e, hf⟩
  · rw [e] at hb; exact List.mem_cons_of_mem _ hb
  · rw [e] at hb
    unfold frs at hb
    rw [List.filterMap_cons, hf] at hb
    exact hb
theorem Inv.stkFree (I : Inv X pins σ H s) : ∀ b ∈ frs X.stack, H b = none := fun b hb => by
  rcases List.mem_cons.mp (I.stkSub b hb) with e | hb
  · rw [e]; exact I.free
  · obtain ⟨_, o, ho, _⟩ := I.ok.funs.mem hb
    exact I.base.free b o ho (I.ok.frf b hb) fun z => I.ok.exfs b z hb

theorem Inv.step {g' : Array GenState} {t' : Nat} {d' : Drawn} {ch : List Addr} (I : Inv X pins σ H s)
    (hch : ∀ b ∈ ch, (b ∈ X.ex ∨ X.s₀.heap.objs.size ≤ b) ∧ b ≠ X.env.locals ∧ (∀ x c, X.env.cells.lookup x = some c → c ≠ b) ∧ ∀ p ∈ X.pn ++ pins, p.1 ≠ b)
    (keep : ∀ b o, b ≠ X.env.locals → b ∉ X.fs → b ∉ ch → s.heap.get? b = some o → H b = none → h'.get? b = some o)
    (slot : ∀ b o, b ≠ X.env.locals → b ∈ X.fs → b ∉ ch → s.heap.get? b = some o → H b = none → ∃ sl, h'.get? b = some { o with slots := sl }) (free : ∀ b o, b ∉ ch → s.heap.get? b = some o → H b = none → H' b = none)
    (there : ∀ b o, b ∉ ch → s.heap.get? b = some o → ∃ o', h'.get? b = some o')
    (tups : ∀ b xs, H b = some (.tup xs) → H' b = some (.tup xs)) (frzs : ∀ b o u, H b = some (.frz o u) → H' b = some (.frz o u)) (tbls : ∀ b ps, H b = some (.tbl ps) → ∃ more, H' b = some (.tbl (ps ++ more)))
    (ns : ∀ m, s.heap.Ns X.env.locals m → h'.Ns X.env.locals m) (hok : HOk X.prog X.w H' h') (hg : AllBare g') :
    Inv X pins σ H' { s with heap := h', gens := g', drawn := d', toks := t' } := by
  have neL : ∀ b o, X.s₀.heap.get? b = some o → b ≠ X.env.locals := fun b o e => Nat.ne_of_lt (Nat.lt_of_lt_of_le (Heap.lt_size e) I.ok.above)
  have neC : ∀ b o, X.s₀.heap.get? b = some o → b ∉ X.ex → b ∉ ch := fun b o e hx hb => by
    rcases (hch b hb).1 with z | z
    · exact hx z
    · exact absurd (Nat.lt_of_lt_of_le (Heap.lt_size e) z) (Nat.lt_irrefl _)
  have cellK : ∀ x c, X.env.cells.lookup x = some c → ∀ v, s.heap.IsCell c v → h'.IsCell c v := fun x c e v ⟨o, ho, hd⟩ => by
    have nch : c ∉ ch := fun z => (hch c z).2.2.1 x c e rfl
    by_cases hc : c ∈ X.fs
    · obtain ⟨sl, q⟩ := slot c o (I.cne x c e) hc nch ho (I.freeC x c e)
      exact ⟨_, q, hd⟩
    · exact ⟨o, keep c o (I.cne x c e) hc nch ho (I.freeC x c e), hd⟩
  refine ⟨I.ok, I.os, hg, ⟨fun b o e n hb hx => ?_, fun b o e n hb hx => ?_, fun b o e n hx => ?_, fun b o e hx => ?_, fun b xs e => tups b xs (I.base.tups b xs e), fun b o xs e => frzs b o xs (I.base.frzs b o xs e), fun b ps e => ?_⟩, ?_, fun x c e => ?_, ?_, fun x c e => ?_, fun p hp => ?_, hok, I.len⟩
  · exact keep b o (neL b o e) hb (neC b o e hx) (I.base.keep b o e n hb hx) (I.base.free b o e n hx)
  · obtain ⟨sl, e1⟩ := I.base.slot b o e n hb hx
    obtain ⟨sl', e2⟩ := slot b _ (neL b o e) hb (neC b o e hx) e1 (I.base.free b o e n hx)
    exact ⟨sl', e2⟩
  · obtain ⟨o', e1⟩ := I.base.there b o e hx
    exact free b o' (neC b o e hx) e1 (I.base.free b o e n hx)
  · obtain ⟨o', e1⟩ := I.base.there b o e hx
    exact there b o' (neC b o e hx) e1
  · obtain ⟨m1, e1⟩ := I.base.tbls b ps e
    obtain ⟨m2, e2⟩ := tbls b _ e1
    exact ⟨m1 ++ m2, by rw [e2, Array.append_assoc]⟩
  · obtain ⟨m, hn, hl⟩ := I.loc
    refine ⟨m, ns m hn, fun i x v e1 e2 e3 => ?_⟩
    obtain ⟨u, r, l⟩ := hl i x v e1 e2 e3
    refine ⟨u, r, ?_⟩
    rcases l with l | ⟨k, c, e, z⟩
    · exact .inl l
    · exact .inr ⟨k, c, e, cellK x c e _ z⟩
  · obtain ⟨v, z⟩ := I.cell x c e
    exact ⟨v, cellK x c e v z⟩
  · obtain ⟨m, ⟨o, _, _, ho, _⟩, _⟩ := I.loc
    exact free _ o (fun z => (hch _ z).2.1 rfl) ho I.free
  · obtain ⟨v, o, ho, hd⟩ := I.cell x c e
    exact free c o (fun z => (hch c z).2.2.1 x c e rfl) ho (I.freeC x c e)
  · obtain ⟨e, n, ne, nf, d⟩ := I.pin p hp
    have nch : p.1 ∉ ch := fun z => (hch p.1 z).2.2.2 p hp rfl
    exact ⟨keep p.1 p.2 ne nf nch e n, free p.1 p.2 nch e n, ne, nf, d⟩
theorem Inv.un {t' : Nat} (I : Inv X pins σ H s) (u : Un X.fs [] H H' s.heap h') (hok : HOk X.prog X.w H' h') : Inv X pins σ H' { s with heap := h', toks := t' } := by
  obtain ⟨m, ⟨o, es, ep, ho, r⟩, _⟩ := id I.loc
  obtain ⟨sl, hL⟩ := u.any ho I.free (by simp)
  exact I.step (g' := s.gens) (d' := s.drawn) (ch := []) (fun _ z => nomatch z) (fun b o _ hb _ e n => u.keep b o e n hb (by simp)) (fun b o _ hb _ e n => u.slot b o e n hb (by simp)) (fun b o _ e n => u.free b o e n (by simp)) (fun b o _ e => u.there b o e (by simp)) u.tups u.frzs u.tbls (fun m' hm => by
    obtain ⟨o', es', ep', ho', r'⟩ := hm
    rw [ho] at ho'; cases ho'
    exact ⟨_, es', ep', hL, r'⟩) hok I.bare
theorem Inv.call {g' : Array GenState} {t' : Nat} {d' : Drawn} {ch : List Addr} (I : Inv X pins σ H s) (u : Un (frs X.stack) ch H H' s.heap h') (hok : HOk X.prog X.w H' h') (hg : AllBare g')
    (hch : ∀ b ∈ ch, (b ∈ X.ex ∨ X.s₀.heap.objs.size ≤ b) ∧ b ≠ X.env.locals ∧ (∀ x c, X.env.cells.lookup x = some c → c ≠ b) ∧ ∀ p ∈ X.pn ++ pins, p.1 ≠ b) :
    Inv X pins σ H' { s with heap := h', gens := g', drawn := d', toks := t' } := by
  obtain ⟨m, ⟨o, es, ep, ho, r⟩, _⟩ := id I.loc
  obtain ⟨sl, hL⟩ := u.any ho I.free fun z => (hch _ z).2.1 rfl
  exact I.step (ch := ch) hch (fun b o hL hb hc e n => u.keep b o e n (fun z => (List.mem_cons.mp (I.stkSub b z)).elim hL hb) hc) (fun b o _ _ hc e n => u.any e n hc) (fun b o hc e n => u.free b o e n hc) (fun b o hc e => u.there b o e hc) u.tups u.frzs u.tbls (fun m' hm => by
    obtain ⟨o', es', ep', ho', r'⟩ := hm
    rw [ho] at ho'; cases ho'
    exact ⟨_, es', ep', hL, r'⟩) hok hg
theorem Inv.turned {t' : Nat} {it : Addr} (I : Inv X pins σ H s) (k : ∀ b o, b ≠ it → s.heap.get? b = some o → h'.get? b = some o) (hn : H it = none) (hL : it ≠ X.env.locals)
    (h1 : it ∈ X.ex ∨ X.s₀.heap.objs.size ≤ it) (h2 : ∀ x c, X.env.cells.lookup x = some c → c ≠ it) (h3 : ∀ p ∈ X.pn ++ pins, p.1 ≠ it) : Inv X pins σ H { s with heap := h', toks := t' } := by
  have nit : ∀ b u, H b = some u → b ≠ it := fun b u e z => by rw [z, hn] at e; cases e
  refine I.step (g' := s.gens) (d' := s.drawn) (ch := [it]) (fun b hb => ?_) (fun b o _ _ hc e _ => k b o (fun z => hc (by simp [z])) e) (fun b o _ _ hc e _ => ⟨o.slots, k b o (fun z => hc (by simp [z])) e⟩) (fun _ _ _ _ n => n)
    (fun b o hc e => ⟨o, k b o (fun z => hc (by simp [z])) e⟩) (fun _ _ e => e) (fun _ _ _ e => e) (fun b ps e => ⟨#[], by rw [e]; simp⟩) (fun m hm => ?_) (fun b u e => ?_) I.bare
  · have e : b = it := by simpa using hb
    subst e
    exact ⟨h1, hL, h2, h3⟩
  · obtain ⟨o, es, ep, ho, r⟩ := hm
    exact ⟨o, es, ep, k _ o (Ne.symm hL) ho, r⟩
  · refine (I.hok b u e).stay (fun c v hc q => k c v ?_ q) (fun _ q => q) fun _ _ q => q
    rcases hc with z | z
    · rw [z]; exact nit b u e
    · exact nit c _ z
theorem Inv.tok (I : Inv X pins σ H s) (t : Nat) : Inv X pins σ H { s with toks := t } := I.un (h' := s.heap) (t' := t) Un.refl I.hok
theorem Inv.kept {t' : Nat} (I : Inv X pins σ H s) (k : ∀ b u, s.heap.get? b = some u → h'.get? b = some u) : Inv X pins σ H { s with heap := h', toks := t' } := I.un (Un.kept k) (I.hok.kept k)
theorem Inv.laid {a : Addr} {o : HO} {t' : Nat} (I : Inv X pins σ H s) (k : ∀ b u, s.heap.get? b = some u → h'.get? b = some u) (hp : s.heap.objs.size ≤ a) (new : ObjOk X.prog X.w (upd H a o) h' a o) :
    Inv X pins σ (upd H a o) { s with heap := h', toks := t' } := I.un (Un.laid k hp (I.hok.fresh hp)) (I.hok.laid k hp new)
theorem Inv.write {x e : Addr} {o : HO} {t' : Nat} (I : Inv X pins σ H s) (mu : Mut (H x)) (he : e = x ∨ H e = some (.own x)) (k : ∀ b u, b ≠ e → s.heap.get? b = some u → h'.get? b = some u) (heo : ∃ u, h'.get? e = some u)
    (new : ObjOk X.prog X.w (upd H x o) h' x o) : Inv X pins σ (upd H x o) { s with heap := h', toks := t' } := I.un (Un.write mu he k heo) (I.hok.write mu he k heo new)
theorem Inv.pins_of {pins' : List (Addr × Obj)} (I : Inv X pins σ H s) (h : ∀ p ∈ pins', s.heap.get? p.1 = some p.2 ∧ H p.1 = none ∧ p.1 ≠ X.env.locals ∧ p.1 ∉ X.fs ∧ ∀ v, p.2.data ≠ .cell v) : Inv X pins' σ H s :=
  ⟨I.ok, I.os, I.bare, I.base, I.loc, I.cell, I.free, I.freeC, fun p hp => (List.mem_append.mp hp).elim (fun z => I.pin p (List.mem_append_left _ z)) (h p), I.hok, I.len⟩

theorem nodup_ix {N : List Str} (hN : N.Nodup) {i j : Nat} {x : Str} (a : N[i]? = some x) (b : N[j]? = some x) : i = j := by
  obtain ⟨h1, e1⟩ := List.getElem?_eq_some_iff.mp a
  obtain ⟨h2, e2⟩ := List.getElem?_eq_some_iff.mp b
  exact (List.getElem_inj hN).mp (e1.trans e2.symm)

theorem store_ok2 {M : Model} {A : Around} {E : Value → Shared → Prop} {i : Nat} {x : Str} {v : V} {u : Value} {Q : Unit → Shared → Prop} (I : Inv X pins σ H s) (hN : X.N.Nodup) (hi : X.N[i]? = some x) (hx : Loc X.env.scope x) (r : RelV v u)
    (h : ∀ s', Inv X pins (σ.set i (some v)) H s' → (∃ a, Heap.SameBut a s.heap s'.heap ∧ (a = X.env.locals ∨ X.env.cells.lookup x = some a)) → Q () s') (hf : X.fn x = true ∨ X.env.scope.names.lookup x = some .local := by first | exact .inl rfl | exact .inr rfl | assumption) : wpAny M A (storeName X.env x u) Q E s := by
  obtain ⟨m, hn, hl⟩ := id I.loc
  have hcls : (X.env.scope.kind == .class || (X.env.scope.kind == .module && X.env.locals != X.env.globals)) = false := by rw [I.ok.kind]; rfl
  have hiσ : i < σ.length := by rw [I.len]; exact (List.getElem?_eq_some_iff.mp hi).1
  have cne := I.cne
  have tracked : ∀ {a : Addr} {h' : Heap}, (∃ o, s.heap.get? a = some o ∧ H a = none) → Heap.SameBut a s.heap h' → HOk X.prog X.w H h' := fun {a h'} ha hs b ob e => by
    obtain ⟨_, _, hfree⟩ := ha
    refine (I.hok b ob e).stay (fun c w' hc q => (hs.2 c ?_).trans q) (fun _ q => q) fun _ _ q => q
    rintro rfl
    rcases hc with rfl | hc
    · rw [hfree] at e; cases e
    · rw [hfree] at hc; cases hc
  rcases hx with hk | hk
  · refine wpAny_storeName_local hk hn (fun h' hn' hs => ?_) hcls
    obtain ⟨oL, _, _, hoL, _⟩ := id hn
    refine h _ ⟨I.ok, I.os, I.bare, ⟨fun b o e n hb hx => ?_, fun b o e n hb hx => ?_, I.base.free, fun b o e hx => ?_, I.base.tups, I.base.frzs, I.base.tbls⟩, ⟨_, hn', fun j y v' e1 e2 e3 => ?_⟩, fun y c e => ?_, I.free, I.freeC, fun p hp => ?_, tracked ⟨oL, hoL, I.free⟩ hs, by simpa using I.len⟩ ⟨_, hs, .inl rfl⟩
    · exact (hs.2 b (Nat.ne_of_lt (Nat.lt_of_lt_of_le (Heap.lt_size e) I.ok.above))).trans (I.base.keep b o e n hb hx)
    · obtain ⟨sl, e1⟩ := I.base.slot b o e n hb hx
      exact ⟨sl, (hs.2 b (Nat.ne_of_lt (Nat.lt_of_lt_of_le (Heap.lt_size e) I.ok.above))).trans e1⟩
    · obtain ⟨o', e1⟩ := I.base.there b o e hx
      exact ⟨o', (hs.2 b (Nat.ne_of_lt (Nat.lt_of_lt_of_le (Heap.lt_size e) I.ok.above))).trans e1⟩
    · by_cases hj : j = i
      · subst hj
        rw [hi] at e1; cases e1
        rw [List.getElem?_set_self hiσ] at e2
        cases e2
        exact ⟨u, r, .inl ⟨hk, by simp⟩⟩
      · rw [List.getElem?_set_ne (Ne.symm hj)] at e2
        obtain ⟨u', r', q⟩ := hl j y v' e1 e2 e3
        refine ⟨u', r', ?_⟩
        rcases q with ⟨k, e⟩ | ⟨k, c, e, z⟩
        · refine .inl ⟨k, ?_⟩
          have : y ≠ x := fun e => hj (nodup_ix hN e1 (e ▸ hi))
          simp [this, e]
        · exact .inr ⟨k, c, e, z.sameBut hs (cne y c e)⟩
    · obtain ⟨w', z⟩ := I.cell y c e
      exact ⟨w', z.sameBut hs (cne y c e)⟩
    · obtain ⟨e, n, ne, nf, d⟩ := I.pin p hp
      exact ⟨(hs.2 p.1 ne).trans e, n, ne, nf, d⟩
  · have hfn : X.fn x = true := by
      rcases hf with z | z
      · exact z
      · rw [z] at hk; cases hk
    obtain ⟨c, hc⟩ := I.ok.has x (.inl hk)
    obtain ⟨w', z⟩ := I.cell x c hc
    refine wpAny_storeName_cell I.ok.kind hk hc z (fun h' hc' hs => ?_)
    obtain ⟨oc, hoc, hocd⟩ := id z
    refine h { s with heap := h' } ⟨I.ok, I.os, I.bare, ⟨fun b o e n hb hx => ?_, fun b o e n hb hx => ?_, I.base.free, fun b o e hx => ?_, I.base.tups, I.base.frzs, I.base.tbls⟩, ⟨m, hn.sameBut hs (Ne.symm (cne x c hc)), fun j y v' e1 e2 e3 => ?_⟩, fun y c' e => ?_, I.free, I.freeC, fun p hp => ?_, tracked ⟨oc, hoc, I.freeC x c hc⟩ hs, by simpa using I.len⟩ ⟨c, hs, .inr hc⟩
    · exact (hs.2 b (Nat.ne_of_lt (Nat.lt_of_lt_of_le (Heap.lt_size e) (I.ok.cab x c hfn hc)))).trans (I.base.keep b o e n hb hx)
    · obtain ⟨sl, e1⟩ := I.base.slot b o e n hb hx
      exact ⟨sl, (hs.2 b (Nat.ne_of_lt (Nat.lt_of_lt_of_le (Heap.lt_size e) (I.ok.cab x c hfn hc)))).trans e1⟩
    · obtain ⟨o', e1⟩ := I.base.there b o e hx
      exact ⟨o', (hs.2 b (Nat.ne_of_lt (Nat.lt_of_lt_of_le (Heap.lt_size e) (I.ok.cab x c hfn hc)))).trans e1⟩
    · by_cases hj : j = i
      · subst hj
        rw [hi] at e1; cases e1
        rw [List.getElem?_set_self hiσ] at e2
        cases e2
        exact ⟨u, r, .inr ⟨.inl hk, c, hc, hc'⟩⟩
      · rw [List.getElem?_set_ne (Ne.symm hj)] at e2
        obtain ⟨u', r', q⟩ := hl j y v' e1 e2 e3
        refine ⟨u', r', ?_⟩
        rcases q with q | ⟨k, c', e, z'⟩
        · exact .inl q
        · refine .inr ⟨k, c', e, z'.sameBut hs ?_⟩
          rintro rfl
          exact hj (nodup_ix hN e1 (I.ok.inj _ _ _ e hc ▸ hi))
    · by_cases hcc : c' = c
      · subst hcc; exact ⟨_, hc'⟩
      · obtain ⟨w2, z2⟩ := I.cell y c' e
        exact ⟨w2, z2.sameBut hs hcc⟩
    · obtain ⟨e, n, ne, nf, d⟩ := I.pin p hp
      refine ⟨(hs.2 p.1 ?_).trans e, n, ne, nf, d⟩
      intro q
      rw [q, hoc] at e
      have q' : oc = p.2 := Option.some.inj e
      exact d w' (by rw [← q']; exact hocd)
theorem store_ok {M : Model} {A : Around} {E : Value → Shared → Prop} {i : Nat} {x : Str} {v : V} {u : Value} {Q : Unit → Shared → Prop} (I : Inv X pins σ H s) (hN : X.N.Nodup) (hi : X.N[i]? = some x) (hx : Loc X.env.scope x) (r : RelV v u)
    (h : ∀ s', Inv X pins (σ.set i (some v)) H s' → Q () s') (hf : X.fn x = true ∨ X.env.scope.names.lookup x = some .local := by first | exact .inl rfl | exact .inr rfl | assumption) : wpAny M A (storeName X.env x u) Q E s :=
  store_ok2 I hN hi hx r (fun s' I' _ => h s' I') hf
theorem Inv.call' {s' : Shared} {ch : List Addr} (I : Inv X pins σ H s) (ho : s'.os = s.os) (u : Un (frs X.stack) ch H H' s.heap s'.heap) (hok : HOk X.prog X.w H' s'.heap) (hg : AllBare s'.gens)
    (hch : ∀ b ∈ ch, (b ∈ X.ex ∨ X.s₀.heap.objs.size ≤ b) ∧ b ≠ X.env.locals ∧ (∀ x c, X.env.cells.lookup x = some c → c ≠ b) ∧ ∀ p ∈ X.pn ++ pins, p.1 ≠ b) : Inv X pins σ H' s' := by
  obtain ⟨h', g', d', t', o'⟩ := s'
  have e : o' = s.os := ho
  subst e
  exact I.call (g' := g') (t' := t') (d' := d') u hok hg hch
end

abbrev XK := Value → Option Addr → Hp → Prop
abbrev St := List (Option V)
abbrev VK := V → Hp → Prop
abbrev TE := St → Hp → VK → Prop
abbrev TT := St → Hp → (Bool → Hp → Prop) → Prop
abbrev TA := St → Hp → (List V → Hp → Prop) → Prop
structure Ends where
  nx : St → Hp → Prop
  rt : VK
  bk : St → Hp → Prop := fun _ _ => False
  ct : St → Hp → Prop := fun _ _ => False
abbrev TS := Ends → St → Hp → Prop

def EP (X : Cx) (pins : List (Addr × Obj)) (σ : St) (Q : VK) (u : Value) (s' : Shared) : Prop := ∃ v H', Inv X pins σ H' s' ∧ RelV v u ∧ Q v H'
def TP (X : Cx) (pins : List (Addr × Obj)) (σ : St) (Q : Bool → Hp → Prop) (b : Bool) (s' : Shared) : Prop := ∃ H', Inv X pins σ H' s' ∧ Q b H'
def AP (X : Cx) (pins : List (Addr × Obj)) (σ : St) (Q : List V → Hp → Prop) (us : List Value) (s' : Shared) : Prop := ∃ vs H', Inv X pins σ H' s' ∧ Vals vs us ∧ Q vs H'
def SP (X : Cx) (pins : List (Addr × Obj)) (D : Ends) (f : Flow) (s' : Shared) : Prop :=
  match f with
  | .next => ∃ σ' H', Inv X pins σ' H' s' ∧ D.nx σ' H'
  | .brk => ∃ σ' H', Inv X pins σ' H' s' ∧ D.bk σ' H'
  | .cont => ∃ σ' H', Inv X pins σ' H' s' ∧ D.ct σ' H'
  | .ret u => ∃ v σ' H', Inv X pins σ' H' s' ∧ RelV v u ∧ D.rt v H'

def PE (X : Cx) (e : Expr) (t : TE) : Prop :=
  ∀ (pins : List (Addr × Obj)) (s : Shared) (σ : St) (H : Hp) (Q : VK), Inv X pins σ H s → t σ H Q → wpAny (model X.prog X.w) X.A (eval e X.env) (EP X pins σ Q) X.xe s
def PT (X : Cx) (e : Expr) (t : TT) : Prop :=
  ∀ (pins : List (Addr × Obj)) (s : Shared) (σ : St) (H : Hp) (Q : Bool → Hp → Prop), Inv X pins σ H s → t σ H Q → wpAny (model X.prog X.w) X.A (isTrue e X.env (eval e X.env)) (TP X pins σ Q) X.xe s
def PW (X : Cx) (e : Expr) (t : TT) : Prop :=
  ∀ (whole : Sem Value) (pins : List (Addr × Obj)) (s : Shared) (σ : St) (H : Hp) (Q : Bool → Hp → Prop), Inv X pins σ H s → t σ H Q → wpAny (model X.prog X.w) X.A (isTrue e X.env whole) (TP X pins σ Q) X.xe s
theorem PW.pt {X : Cx} {e : Expr} {t : TT} (h : PW X e t) : PT X e t := h _
def PA (X : Cx) (es : List Expr) (t : TA) : Prop :=
  ∀ (pos : Pos) (pins : List (Addr × Obj)) (s : Shared) (σ : St) (H : Hp) (Q : List V → Hp → Prop), Inv X pins σ H s → t σ H Q → wpAny (model X.prog X.w) X.A (spliced (backTo pos (starEach es X.env))) (AP X pins σ Q) X.xe s
def PS (X : Cx) (st : Stmt) (t : TS) : Prop :=
  ∀ (pins : List (Addr × Obj)) (s : Shared) (σ : St) (H : Hp) (D : Ends), Inv X pins σ H s → t D σ H → wpAny (model X.prog X.w) X.A (exec st X.env) (SP X pins D) X.xe s
def PSs (X : Cx) (st : List Stmt) (t : TS) : Prop :=
  ∀ (pins : List (Addr × Obj)) (s : Shared) (σ : St) (H : Hp) (D : Ends), Inv X pins σ H s → t D σ H → wpAny (model X.prog X.w) X.A (execs st X.env) (SP X pins D) X.xe s
theorem thn {α : Type} {t : Sem α} {Q Q' : α → Shared → Prop} {M : Model} {A : Around} {E : Value → Shared → Prop} {s : Shared} (h : wpAny M A t Q E s) (hQ : ∀ a s, Q a s → Q' a s) : wpAny M A t Q' E s := wpAny_mono h hQ fun _ _ x => x
end L2

namespace L2
open PySem PySem.Spec PyProof.Rows
section
variable {X : Cx}

theorem bin {a b : Expr} {ta tb : TE} (ha : PE X a ta) (hb : PE X b tb) {pins : List (Addr × Obj)} {s : Shared} {σ : St} {H : Hp} {R : V → V → Hp → Prop} (I : Inv X pins σ H s) (h : ta σ H fun x H1 => tb σ H1 fun y H2 => R x y H2)
    {α : Type} {Q : α → Shared → Prop} {f : Value → Value → Sem α}
    (hf : ∀ v u s2 x y H2, Inv X pins σ H2 s2 → RelV x v → RelV y u → R x y H2 → wpAny (model X.prog X.w) X.A (f v u) Q X.xe s2) :
    wpAny (model X.prog X.w) X.A (eval a X.env) (fun v s₁ => wpAny (model X.prog X.w) X.A (eval b X.env) (fun u s₂ => wpAny (model X.prog X.w) X.A (f v u) Q X.xe s₂) X.xe s₁) X.xe s := by
  refine thn (ha pins s σ H _ I h) fun v s1 ⟨x, H1, I1, r1, q1⟩ => ?_
  refine thn (hb pins s1 σ H1 _ I1 q1) fun u s2 ⟨y, H2, I2, r2, q2⟩ => ?_
  exact hf v u s2 x y H2 I2 r1 r2 q2

def tVar (i : Nat) : TE := fun σ H Q => ∃ v, σ[i]? = some (some v) ∧ Q v H
def tC (v : V) : TE := fun _ H Q => Q v H
theorem pe_var {i : Nat} {x : Str} {pos : Pos} (hN : X.N[i]? = some x) (hv : Vis X.env.scope x) (hd : (x == ("__debug__" : Str)) = false := by decide) (hcd : (x == ("__classdict__" : Str)) = false := by decide) : PE X (.Name x pos) (tVar i) := by
  intro pins s σ H Q I h
  obtain ⟨v, e, h⟩ := h
  obtain ⟨m, hn, hl⟩ := I.loc
  obtain ⟨u, r, l⟩ := hl i x v hN e hv
  have fin : EP X pins σ Q u s := ⟨v, H, I, r, h⟩
  rcases l with ⟨hk, hm⟩ | ⟨hk, c, hc, hcell⟩
  · exact wpAny_Name (wpAny_loadName_local I.ok.kind hk hn hm fin) hd
  · rcases hk with hk | hk
    · exact wpAny_Name (wpAny_loadName_cell I.ok.kind hk hc hcell fin) hd
    · exact wpAny_Name (wpAny_loadName_free I.ok.kind hk hc hcell fin hcd) hd
theorem pe_int {i j pos} : PE X (.Constant (.int i) j pos) (tC (.int i)) := fun _ _ _ H _ I h => wpAny_Constant_int ⟨.int i, H, I.tok _, ⟨_, rfl⟩, h⟩
theorem pe_bl {b j pos} : PE X (.Constant (.bool b) j pos) (tC (.bl b)) := fun _ _ _ H _ I h => Constant_bool ⟨.bl b, H, I, rfl, h⟩
theorem pe_non {j pos} : PE X (.Constant .none j pos) (tC .non) := fun _ _ _ H _ I h => Constant_none ⟨.non, H, I, rfl, h⟩
def Gl (X : Cx) (x : Str) : Prop := X.env.kindOf x = some .globalImplicit
theorem ld_glob {E : Value → Shared → Prop} {pins : List (Addr × Obj)} {s : Shared} {σ : St} {H : Hp} {x : Str} {u : Value} {pos : Pos} {Q : Value → Shared → Prop} (I : Inv X pins σ H s) (hg : Gl X x) (hm : X.mg x = some u) (h : Q u s)
    (hd : (x == ("__debug__" : Str)) = false := by decide) : wpAny (model X.prog X.w) X.A (eval (.Name x pos) X.env) Q E s :=
  Calls.Name_function_global I.ok.kind hg (Calls.loadGlobal_global (by rw [I.ok.glob]; exact I.mod.glob.keeps I.bk) hm h) hd
theorem ld_blt {E : Value → Shared → Prop} {pins : List (Addr × Obj)} {s : Shared} {σ : St} {H : Hp} {x : Str} {u : Value} {pos : Pos} {Q : Value → Shared → Prop} (I : Inv X pins σ H s) (hg : Gl X x) (hm : X.mg x = none) (hv : bootBuiltins x = some u) (h : Q u s)
    (hn : x ≠ "__name__" := by decide) (hd : (x == ("__debug__" : Str)) = false := by decide) : wpAny (model X.prog X.w) X.A (eval (.Name x pos) X.env) Q E s := by
  obtain ⟨mb, h1, h2⟩ := I.mod.blt
  exact Calls.Name_function_global I.ok.kind hg (Calls.loadGlobal_builtin (by rw [I.ok.glob]; exact I.mod.glob.keeps I.bk) hm (by rw [I.ok.blt]; exact h1.keeps I.bk) ((h2 x hn).trans hv) h) hd
theorem pe_bltn {x : Str} {v : V} {u : Value} {pos : Pos} (hg : Gl X x) (hm : X.mg x = none) (hv : bootBuiltins x = some u) (r : RelV v u) (hn : x ≠ "__name__" := by decide) (hd : (x == ("__debug__" : Str)) = false := by decide) : PE X (.Name x pos) (tC v) :=
  fun _ _ _ H _ I h => ld_blt I hg hm hv ⟨v, H, I, r, h⟩ hn hd

variable {a b : Expr} {ta tb : TE} {pos : Pos}
def PC (X : Cx) (op : CmpOp) (a b : Expr) (t : TE) : Prop :=
  ∀ (pins : List (Addr × Obj)) (s : Shared) (σ : St) (H : Hp) (Q : VK), Inv X pins σ H s → t σ H Q →
    wpAny (model X.prog X.w) X.A (eval a X.env) (fun v s₁ => wpAny (model X.prog X.w) X.A (eval b X.env) (fun u s₂ => wpAny (model X.prog X.w) X.A (compareOp op v u) (EP X pins σ Q) X.xe s₂) X.xe s₁) X.xe s
theorem nobehind (b : Expr) {op : CmpOp} (h : op ≠ .In) (h2 : op ≠ .NotIn) : behindInMarks op b = false := by
  have e1 : (op == CmpOp.In) = false := by cases op <;> first | rfl | exact absurd rfl h
  have e2 : (op == CmpOp.NotIn) = false := by cases op <;> first | rfl | exact absurd rfl h2
  cases b <;> simp [behindInMarks, e1, e2]
def tB (t : TE) : TT := fun σ H Q => t σ H fun x H1 => ∃ c, x = .bl c ∧ Q c H1
theorem pt_cmp {op : CmpOp} {t : TE} (h : PC X op a b t) (h1 : behindInMarks op b = false := by first | exact nobehind _ (by decide) (by decide) | rfl) : PT X (.Compare a [op] [b] pos) (tB t) := by
  intro pins s σ H Q I hw
  refine wpAny_isTrue_Compare1 (thn (h pins s σ H _ I hw) fun v s1 h1 => thn h1 fun u s2 h2 => thn h2 fun c s3 ⟨x, H1, I1, r1, q1⟩ => ?_) h1
  obtain ⟨d, rfl, q⟩ := q1
  cases r1
  exact wpAny_truthy_bool ⟨H1, I1, q⟩
theorem pt_val {e : Expr} {t : TE} (h : PE X e t) (he : ∀ whole, isTrue e X.env whole = (do let v ← whole; standAt e.pos; holding [v] (truthy v)) := by intro _; rfl) : PT X e (tB t) := by
  intro pins s σ H Q I hw
  refine isTrue_plain (thn (h pins s σ H _ I hw) fun v s1 ⟨x, H1, I1, r1, q1⟩ => ?_) (he _)
  obtain ⟨d, rfl, q⟩ := q1
  cases r1
  exact wpAny_truthy_bool ⟨H1, I1, q⟩

variable {tA tB' : TT} {rest : List Expr}
def tAnd (t u : TT) : TT := fun σ H Q => t σ H fun c H1 => if c = true then u σ H1 Q else Q false H1
def tOr (t u : TT) : TT := fun σ H Q => t σ H fun c H1 => if c = true then Q true H1 else u σ H1 Q
def tNot (t : TT) : TT := fun σ H Q => t σ H fun c H1 => Q (!c) H1
theorem pw_and1 (ha : PT X a tA) : PW X (.BoolOp .And [a] pos) tA := by
  intro wh pins s σ H Q I h
  refine isTrue_and (thn (ha pins s σ H Q I h) fun c s1 e => ?_)
  cases c with
  | true => exact isTrue_and_nil e
  | false => exact e
theorem pw_or1 (ha : PT X a tA) : PW X (.BoolOp .Or [a] pos) tA := by
  intro wh pins s σ H Q I h
  refine isTrue_or (thn (ha pins s σ H Q I h) fun c s1 e => ?_)
  cases c with
  | false => exact isTrue_or_nil e
  | true => exact e
theorem pw_and (ha : PT X a tA) (hb : PW X (.BoolOp .And (b :: rest) pos) tB') : PW X (.BoolOp .And (a :: b :: rest) pos) (tAnd tA tB') := by
  intro wh pins s σ H Q I h
  refine isTrue_and (thn (ha pins s σ H _ I h) fun c s1 ⟨H1, I1, q1⟩ => ?_)
  cases c with
  | true => exact hb wh pins s1 σ H1 Q I1 q1
  | false => exact ⟨H1, I1, q1⟩
theorem pw_or (ha : PT X a tA) (hb : PW X (.BoolOp .Or (b :: rest) pos) tB') : PW X (.BoolOp .Or (a :: b :: rest) pos) (tOr tA tB') := by
  intro wh pins s σ H Q I h
  refine isTrue_or (thn (ha pins s σ H _ I h) fun c s1 ⟨H1, I1, q1⟩ => ?_)
  cases c with
  | true => exact ⟨H1, I1, q1⟩
  | false => exact hb wh pins s1 σ H1 Q I1 q1
theorem pt_not (ha : PT X a tA) : PT X (.UnaryOp .Not a pos) (tNot tA) := by
  intro pins s σ H Q I h
  exact isTrue_not (ha pins s σ H (fun c H1 => Q (!c) H1) I h)
def tAndV (ta tb : TE) : TE := fun σ H Q => ta σ H fun x H1 => ∃ c, x = .bl c ∧ if c = true then tb σ H1 Q else Q (.bl false) H1
def tNotV (ta : TE) : TE := fun σ H Q => ta σ H fun x H1 => ∃ c, x = .bl c ∧ Q (.bl (!c)) H1
theorem pe_one {op} {t : TE} (h : PE X a t) : PE X (.BoolOp op [a] pos) t := fun pins s σ H Q I hw => BoolOp_one (h pins s σ H Q I hw)
theorem pe_and (ha : PE X a ta) (hb : PE X (.BoolOp .And (b :: rest) pos) tb) : PE X (.BoolOp .And (a :: b :: rest) pos) (tAndV ta tb) := by
  intro pins s σ H Q I h
  refine BoolOp_and (thn (ha pins s σ H _ I h) fun v s1 ⟨x, H1, I1, r1, q1⟩ => ?_)
  obtain ⟨c, rfl, q1⟩ := q1
  cases r1
  refine wpAny_truthy_bool ?_
  cases c with
  | true => exact hb pins s1 σ H1 Q I1 q1
  | false => exact ⟨.bl false, H1, I1, rfl, q1⟩
theorem pe_not (ha : PE X a ta) : PE X (.UnaryOp .Not a pos) (tNotV ta) := by
  intro pins s σ H Q I h
  refine UnaryOp_ (thn (ha pins s σ H _ I h) fun v s1 ⟨x, H1, I1, r1, q1⟩ => ?_)
  obtain ⟨c, rfl, q1⟩ := q1
  cases r1
  exact not_of (wpAny_truthy_bool ⟨.bl (!c), H1, I1, rfl, q1⟩)
end
end L2

namespace L2
open PySem PySem.Spec PyProof.Rows

def SqL (K : PySem.W.Frag) (H : Hp) (a : Addr) (xs : List V) : Prop :=
  Rd H a (.lst xs) ∨
    ∃ (o : Obj) (its : Array Value) (n : Nat), K.lookup a = some o ∧ o.cls = .type "list" ∧ o.dict = none ∧ o.data = .seq its n ∧ its.size ≤ sizeLine ∧ Vals xs its.toList
def SqT (K : PySem.W.Frag) (H : Hp) (a : Addr) (xs : List V) : Prop :=
  Rd H a (.tup xs) ∨
    ∃ (o : Obj) (its : Array Value) (n : Nat), K.lookup a = some o ∧ o.cls = .type "tuple" ∧ o.data = .seq its n ∧ its.size ≤ sizeLine ∧ Vals xs its.toList
def absV : Value → Option V
  | .none => some .non
  | .bool b => some (.bl b)
  | .int i _ => some (.int i)
  | .str x _ => some (.str x)
  | .bytes b _ => some (.byt b)
  | .float b _ => some (.flt b)
  | .ref a => some (.ref a)
  | .type n => some (.ty n)
  | _ => none
theorem RelV.abs {x : V} {u : Value} (r : RelV x u) : absV u = some x := by
  cases x with
  | non => cases r; rfl
  | bl _ => cases r; rfl
  | int _ => obtain ⟨t, rfl⟩ := r; rfl
  | str _ => obtain ⟨t, rfl⟩ := r; rfl
  | byt _ => obtain ⟨t, rfl⟩ := r; rfl
  | flt _ => obtain ⟨t, rfl⟩ := r; rfl
  | ref _ => cases r; rfl
  | ty _ => cases r; rfl
theorem RelV.inj {x y : V} {u : Value} (r : RelV x u) (q : RelV y u) : x = y := Option.some.inj (r.abs.symm.trans q.abs)
theorem Vals.inj : ∀ {xs ys : List V} {us : List Value}, Vals xs us → Vals ys us → xs = ys
  | _, _, _, .nil, .nil => rfl
  | _, _, _, .cons r t, .cons r' t' => by rw [r.inj r', Vals.inj t t']
section
variable {X : Cx} {pins : List (Addr × Obj)} {σ : St} {H : Hp} {s : Shared} {a : Addr} {xs ys : List V}
theorem SqL.of {K : PySem.W.Frag} (h : H a = some (.lst xs)) : SqL K H a xs := .inl (.inl h)
theorem SqT.of {K : PySem.W.Frag} (h : H a = some (.tup xs)) : SqT K H a xs := .inl (.inl h)
theorem Inv.list (I : Inv X pins σ H s) (h : SqL X.K H a xs) : ∃ its : List Value, Vals xs its ∧ PlainL s.heap a its.toArray ∧ xs.length ≤ sizeLine := by
  rcases h with h | ⟨o, its, n, hk, hc, hd, hs, hz, r⟩
  · obtain ⟨z, its, n, r, e⟩ := h.ok I.hok
    exact ⟨its, r, ⟨_, n, e, rfl, rfl, rfl⟩, z⟩
  · refine ⟨its.toList, r, ⟨o, n, I.kIn a o hk, hc, hd, by simpa using hs⟩, ?_⟩
    have e := r.length
    simp only [Array.length_toList] at e
    omega
theorem Inv.tuple (I : Inv X pins σ H s) (h : SqT X.K H a xs) : ∃ its : List Value, Vals xs its ∧ IsTup s.heap a its.toArray ∧ xs.length ≤ sizeLine := by
  rcases h with h | ⟨o, its, n, hk, hc, hs, hz, r⟩
  · obtain ⟨z, its, r, p, _⟩ := h.ok I.hok
    exact ⟨its, r, p, z⟩
  · refine ⟨its.toList, r, ⟨o, I.kIn a o hk, hc, n, by simpa using hs⟩, ?_⟩
    have e := r.length
    simp only [Array.length_toList] at e
    omega
theorem Inv.list_inj (I : Inv X pins σ H s) (h : SqL X.K H a xs) (h' : SqL X.K H a ys) : xs = ys := by
  obtain ⟨its, r, ⟨o, n, e, _, _, d⟩, _⟩ := I.list h
  obtain ⟨its', r', ⟨o', n', e', _, _, d'⟩, _⟩ := I.list h'
  rw [e] at e'; cases e'
  rw [d] at d'
  injection d' with d1 _
  have : its = its' := by simpa using congrArg Array.toList d1
  subst this
  exact r.inj r'
theorem Inv.tuple_inj (I : Inv X pins σ H s) (h : SqT X.K H a xs) (h' : SqT X.K H a ys) : xs = ys := by
  obtain ⟨its, r, ⟨o, e, _, n, d⟩, _⟩ := I.tuple h
  obtain ⟨its', r', ⟨o', e', _, n', d'⟩, _⟩ := I.tuple h'
  rw [e] at e'; cases e'
  rw [d] at d'
  injection d' with d1 _
  have : its = its' := by simpa using congrArg Array.toList d1
  subst this
  exact r.inj r'
end

abbrev Cx.wish (X : Cx) (E : Value → Shared → Prop) : Cx := { X with xe := E }
abbrev Cx.nox (X : Cx) : Cx := X.wish fun _ _ => False
theorem Cx.Ok.wish {X : Cx} (ok : X.Ok) (E : Value → Shared → Prop) : (X.wish E).Ok :=
  ⟨ok.mod, ok.kind, ok.glob, ok.blt, ok.above, ok.inj, ok.has, ok.cab, ok.hd, ok.frames, ok.stk, ok.exf, ok.bs, ok.bsz, ok.noex, ok.exfs, ok.funs, ok.frf⟩
theorem Cx.Ok.unwish {X : Cx} {E : Value → Shared → Prop} (ok : (X.wish E).Ok) : X.Ok :=
  ⟨ok.mod, ok.kind, ok.glob, ok.blt, ok.above, ok.inj, ok.has, ok.cab, ok.hd, ok.frames, ok.stk, ok.exf, ok.bs, ok.bsz, ok.noex, ok.exfs, ok.funs, ok.frf⟩
section
variable {X : Cx} {pins : List (Addr × Obj)} {σ : St} {H : Hp} {s : Shared} {E : Value → Shared → Prop}
theorem Inv.wish (I : Inv X pins σ H s) (E : Value → Shared → Prop) : Inv (X.wish E) pins σ H s := ⟨I.ok.wish E, I.os, I.bare, I.base, I.loc, I.cell, I.free, I.freeC, I.pin, I.hok, I.len⟩
theorem Inv.unwish (I : Inv (X.wish E) pins σ H s) : Inv X pins σ H s := ⟨I.ok.unwish, I.os, I.bare, I.base, I.loc, I.cell, I.free, I.freeC, I.pin, I.hok, I.len⟩
theorem SP.unwish {D : Ends} {f : Flow} {s' : Shared} (h : SP (X.wish E) pins D f s') : SP X pins D f s' := by
  cases f with
  | next => obtain ⟨σ', H', I, q⟩ := h; exact ⟨σ', H', I.unwish, q⟩
  | brk => obtain ⟨σ', H', I, q⟩ := h; exact ⟨σ', H', I.unwish, q⟩
  | cont => obtain ⟨σ', H', I, q⟩ := h; exact ⟨σ', H', I.unwish, q⟩
  | ret u => obtain ⟨v, σ', H', I, r, q⟩ := h; exact ⟨v, σ', H', I.unwish, r, q⟩
theorem PSs.nox {st : List Stmt} {t : TS} (h : PSs X.nox st t) : PSs X st t := fun pins s σ H D I hw =>
  wpAny_mono (h pins s σ H D (I.wish _) hw) (fun _ _ q => q.unwish) fun _ _ z => False.elim z
end

section
variable {X : Cx} {st : Stmt} {rest : List Stmt} {t u : TS} {e : Expr} {te : TE} {pos : Pos}
def tNext : TS := fun D σ H => D.nx σ H
def tSeq (t u : TS) : TS := fun D σ H => t { D with nx := u D } σ H
theorem pss_nil : PSs X [] tNext := fun _ _ σ H _ I h => wpAny_execs_nil ⟨σ, H, I, h⟩
theorem pss_cons (h1 : PS X st t) (h2 : PSs X rest u) : PSs X (st :: rest) (tSeq t u) := by
  intro pins s σ H D I h
  refine wpAny_execs_cons (thn (h1 pins s σ H { D with nx := u D } I h) fun f s1 q => ?_)
  cases f with
  | next =>
    obtain ⟨σ', H', I', q⟩ := q
    exact h2 pins s1 σ' H' D I' q
  | ret v => exact q
  | brk => exact q
  | cont => exact q
theorem pss_one (h1 : PS X st t) : PSs X [st] t := by
  intro pins s σ H D I h
  refine wpAny_execs_cons (thn (h1 pins s σ H D I h) fun f s1 q => ?_)
  cases f with
  | next => exact wpAny_execs_nil q
  | ret v => exact q
  | brk => exact q
  | cont => exact q
theorem Inv.quiet {pins : List (Addr × Obj)} {σ : St} {H : Hp} {s : Shared} (I : Inv X pins σ H s) : interactive X.env = false := by simp [interactive, I.ok.kind]
def tDrop (te : TE) : TS := fun D σ H => te σ H fun _ H1 => D.nx σ H1
theorem ps_expr (he : PE X e te) (hs : swapsWith e none pos.line X.env = pure false := by rfl) : PS X (.Expr e pos) (tDrop te) := by
  intro pins s σ H D I h
  exact wpAny_Expr_any (thn (he pins s σ H _ I h) fun v s1 ⟨x, H1, I1, r1, q1⟩ => ⟨σ, H1, I1, q1⟩) I.quiet hs
def tRet (te : TE) : TS := fun D σ H => te σ H D.rt
theorem ps_ret (he : PE X e te) : PS X (.Return (some e) pos) (tRet te) := by
  intro pins s σ H D I h
  exact wpAny_Return_some (thn (he pins s σ H _ I h) fun v s1 ⟨x, H1, I1, r1, q1⟩ => ⟨x, σ, H1, I1, r1, q1⟩)
def tIfS (c : TT) (t u : TS) : TS := fun D σ H => c σ H fun b H1 => if b = true then t D σ H1 else u D σ H1
theorem ps_if {c : Expr} {a b : List Stmt} {tc : TT} (hc : PT X c tc) (ha : PSs X a t) (hb : PSs X b u) : PS X (.If c a b pos) (tIfS tc t u) := by
  intro pins s σ H D I h
  refine wpAny_If (thn (hc pins s σ H _ I h) fun d s1 ⟨H1, I1, q1⟩ => ?_)
  cases d with
  | true => exact ha pins s1 σ H1 D I1 q1
  | false => exact hb pins s1 σ H1 D I1 q1
end

abbrev TG := V → St → Hp → (St → Hp → Prop) → Prop
abbrev TGs := List V → St → Hp → (St → Hp → Prop) → Prop
def PG (X : Cx) (target : Expr) (t : TG) : Prop :=
  ∀ (pins : List (Addr × Obj)) (s : Shared) (σ : St) (H : Hp) (v : V) (u : Value) (Q : St → Hp → Prop), Inv X pins σ H s → RelV v u → t v σ H Q →
    wpAny (model X.prog X.w) X.A (assign target X.env u) (fun _ s' => ∃ σ' H', Inv X pins σ' H' s' ∧ Q σ' H') X.xe s
def PGs (X : Cx) (ts : List Expr) (t : TGs) : Prop :=
  ∀ (pins : List (Addr × Obj)) (s : Shared) (σ : St) (H : Hp) (vs : List V) (us : List Value) (Q : St → Hp → Prop), Inv X pins σ H s → Vals vs us → t vs σ H Q →
    wpAny (model X.prog X.w) X.A (assignInOrder ((assignEach ts X.env).map (·.2)) us) (fun _ s' => ∃ σ' H', Inv X pins σ' H' s' ∧ Q σ' H') X.xe s
abbrev TSet := V → V → V → Hp → (Hp → Prop) → Prop
def PSet (X : Cx) (t : TSet) : Prop :=
  ∀ (pins : List (Addr × Obj)) (s : Shared) (σ : St) (H : Hp) (o i v : V) (ov iv u : Value) (Q : Hp → Prop), Inv X pins σ H s → RelV o ov → RelV i iv → RelV v u → t o i v H Q →
    wpAny (model X.prog X.w) X.A (setItem ov iv u) (fun _ s' => ∃ H', Inv X pins σ H' s' ∧ Q H') X.xe s
abbrev TIp := V → V → Hp → VK → Prop
def PIp (X : Cx) (op : Operator) (t : TIp) : Prop :=
  ∀ (pins : List (Addr × Obj)) (s : Shared) (σ : St) (H : Hp) (x y : V) (v u : Value) (Q : VK), Inv X pins σ H s → RelV x v → RelV y u → t x y H Q →
    wpAny (model X.prog X.w) X.A (inplaceOp op v u) (EP X pins σ Q) X.xe s
section
variable {X : Cx} {pos : Pos}
def gName (i : Nat) : TG := fun v σ H Q => Q (σ.set i (some v)) H
theorem pg_name {i : Nat} {x : Str} (hN : X.N.Nodup) (hi : X.N[i]? = some x) (hx : Loc X.env.scope x) (hf : X.fn x = true ∨ X.env.scope.names.lookup x = some .local := by first | exact .inl rfl | exact .inr rfl | assumption) : PG X (.Name x pos) (gName i) := by
  intro pins s σ H v u Q I r h
  exact wpAny_assign_Name (store_ok I hN hi hx r (fun s' I' => ⟨_, H, I', h⟩) hf)
def gNil : TGs := fun vs σ H Q => vs = [] ∧ Q σ H
def gCons (t : TG) (u : TGs) : TGs := fun vs σ H Q => ∃ v r, vs = v :: r ∧ t v σ H fun σ' H' => u r σ' H' Q
theorem pgs_nil : PGs X [] gNil := by
  intro pins s σ H vs us Q I r h
  obtain ⟨e, h⟩ := h
  subst e
  cases r
  exact assignInOrder_nil ⟨σ, H, I, h⟩
theorem pgs_cons {e : Expr} {es : List Expr} {t : TG} {u : TGs} (h1 : PG X e t) (h2 : PGs X es u)
    (hs : (assignEach (e :: es) X.env).map (·.2) = assign e X.env :: (assignEach es X.env).map (·.2) := by rfl) : PGs X (e :: es) (gCons t u) := by
  intro pins s σ H vs us Q I r h
  obtain ⟨v, vr, e1, h⟩ := h
  subst e1
  cases r with
  | cons r rr =>
    rw [hs]
    refine assignInOrder_cons (thn (h1 pins s σ H _ _ _ I r h) fun _ s1 ⟨σ1, H1, I1, q1⟩ => ?_)
    exact h2 pins s1 σ1 H1 _ _ Q I1 rr q1
def gTup (K : PySem.W.Frag) (n : Nat) (t : TGs) : TG := fun v σ H Q => ∃ a xs, v = .ref a ∧ SqT K H a xs ∧ xs.length = n ∧ t xs σ H Q
theorem pg_tup {es : List Expr} {k : Nat} {t : TGs} {n : Nat} (hc : X.calm = true) (h : PGs X es t)
    (hn : (assignEach es X.env).length = n := by rfl) (hst : (assignEach es X.env).findIdx? (·.1) = none := by rfl) : PG X (.Tuple es k pos) (gTup X.K n t) := by
  intro pins s σ H v u Q I r hw
  obtain ⟨a, xs, e1, hq, hl, hw⟩ := hw
  subst e1
  cases r
  obtain ⟨its, rv, ht, hz⟩ := I.tuple hq
  refine assign_Tuple_tuple (I.ok.hd hc) ht (by simp [hn, ← hl, rv.length]) hst fun h' hx => ?_
  have I1 : Inv X pins σ H { s with heap := h' } := I.kept (t' := s.toks) fun b o e => hx b o (Nat.ne_of_lt (Heap.lt_size e)) e
  exact h pins _ σ H xs _ Q I1 (by simpa using rv) hw
def tAsg (te : TE) (g : TG) : TS := fun D σ H => te σ H fun x H1 => g x σ H1 D.nx
theorem ps_set {i : Nat} {x : Str} {e : Expr} {te : TE} {pos' : Pos} (hN : X.N.Nodup) (hi : X.N[i]? = some x) (hx : Loc X.env.scope x) (he : PE X e te) (hs : swapsWith e (some (.Name x pos')) pos.line X.env = pure false := by rfl) (hf : X.fn x = true ∨ X.env.scope.names.lookup x = some .local := by first | exact .inl rfl | exact .inr rfl | assumption) :
    PS X (.Assign [.Name x pos'] e pos) (tAsg te (gName i)) := by
  intro pins s σ H D I h
  refine wpAny_Assign_Name (thn (he pins s σ H _ I h) fun v s1 ⟨y, H1, I1, r1, q1⟩ => ?_) hs
  exact store_ok I1 hN hi hx r1 (fun s2 I2 => ⟨_, H1, I2, q1⟩) hf
def tAug (i : Nat) (te : TE) (ti : TIp) : TS := fun D σ H => ∃ x, σ[i]? = some (some x) ∧ te σ H fun y H1 => ti x y H1 fun z H2 => D.nx (σ.set i (some z)) H2
theorem ps_aug {i : Nat} {x : Str} {e : Expr} {te : TE} {op : Operator} {ti : TIp} {pos' : Pos} (hN : X.N.Nodup) (hi : X.N[i]? = some x) (hx : Loc X.env.scope x) (he : PE X e te) (ho : PIp X op ti) (hf : X.fn x = true ∨ X.env.scope.names.lookup x = some .local := by first | exact .inl rfl | exact .inr rfl | assumption) :
    PS X (.AugAssign (.Name x pos') op e pos) (tAug i te ti) := by
  intro pins s σ H D I h
  obtain ⟨v, e1, h⟩ := h
  obtain ⟨m, hn, hl⟩ := I.loc
  have vis : Vis X.env.scope x := by rcases hx with k | k; exact .inl k; exact .inr (.inl k)
  obtain ⟨u, r, l⟩ := hl i x v hi e1 vis
  refine wpAny_AugAssign_Name ?_
  have go : wpAny (model X.prog X.w) X.A (eval e X.env) (fun w s₂ => wpAny (model X.prog X.w) X.A (inplaceOp op u w) (fun r s₃ => wpAny (model X.prog X.w) X.A (storeName X.env x r) (fun _ => SP X pins D .next) X.xe s₃) X.xe s₂) X.xe s := by
    refine thn (he pins s σ H _ I h) fun w s1 ⟨y, H1, I1, r1, q1⟩ => ?_
    refine thn (ho pins s1 σ H1 v y u w _ I1 r r1 q1) fun z s2 ⟨zv, H2, I2, r2, q2⟩ => ?_
    exact store_ok I2 hN hi hx r2 (fun s3 I3 => ⟨_, H2, I3, q2⟩) hf
  rcases l with ⟨hk, hm⟩ | ⟨hk, c, hc, hcell⟩
  · exact wpAny_loadName_local I.ok.kind hk hn hm go
  · rcases hk with hk | hk
    · exact wpAny_loadName_cell I.ok.kind hk hc hcell go
    · rcases hx with k | k
      · have : X.env.scope.names.lookup x = some .free := hk
        rw [k] at this; cases this
      · have : X.env.scope.names.lookup x = some .free := hk
        rw [k] at this; cases this
def tAugS (to ti te : TE) (tget : V → V → Hp → VK → Prop) (tip : TIp) (tset : TSet) : TS := fun D σ H => to σ H fun o H1 => ti σ H1 fun i H2 => tget o i H2 fun x H3 => te σ H3 fun y H4 => tip x y H4 fun z H5 => tset o i z H5 fun H6 => D.nx σ H6
def PGet (X : Cx) (t : V → V → Hp → VK → Prop) : Prop :=
  ∀ (pins : List (Addr × Obj)) (s : Shared) (σ : St) (H : Hp) (o i : V) (ov iv : Value) (Q : VK), Inv X pins σ H s → RelV o ov → RelV i iv → t o i H Q →
    wpAny (model X.prog X.w) X.A (getItem ov iv) (EP X pins σ Q) X.xe s
theorem ps_augS {o i e : Expr} {to ti te : TE} {tget : V → V → Hp → VK → Prop} {tip : TIp} {tset : TSet} {op : Operator} {tpos : Pos} (ho : PE X o to) (hi : PE X i ti) (hg : PGet X tget) (he : PE X e te) (hp : PIp X op tip) (hs : PSet X tset)
    (ha : ∀ ov iv new, augStore i ov iv new = (do holding [new, ov, iv] (setItem ov iv new); release [new, ov, iv] []; pure .next) := by intros; rfl) : PS X (.AugAssign (.Subscript o i tpos) op e pos) (tAugS to ti te tget tip tset) := by
  intro pins s σ H D I h
  refine wpAny_AugAssign_SubscriptAny (thn (ho pins s σ H _ I h) fun ov s1 ⟨x1, H1, I1, r1, q1⟩ => ?_) ha
  refine thn (hi pins s1 σ H1 _ I1 q1) fun iv s2 ⟨x2, H2, I2, r2, q2⟩ => ?_
  refine thn (hg pins s2 σ H2 x1 x2 ov iv _ I2 r1 r2 q2) fun old s3 ⟨x3, H3, I3, r3, q3⟩ => ?_
  refine thn (he pins s3 σ H3 _ I3 q3) fun v s4 ⟨x4, H4, I4, r4, q4⟩ => ?_
  refine thn (hp pins s4 σ H4 x3 x4 old v _ I4 r3 r4 q4) fun new s5 ⟨x5, H5, I5, r5, q5⟩ => ?_
  exact thn (hs pins s5 σ H5 x1 x2 x5 ov iv new _ I5 r1 r2 r5 q5) fun _ s6 ⟨H6, I6, q6⟩ => ⟨σ, H6, I6, q6⟩
def ipI (f : Int → Int → Int) : TIp := fun x y H Q => ∃ i j, x = .int i ∧ y = .int j ∧ Q (.int (f i j)) H
theorem ip_add : PIp X .Add (ipI fun i j => i + j) := by
  intro pins s σ H x y v u Q I r1 r2 h
  obtain ⟨i, j, e1, e2, q⟩ := h
  subst e1; subst e2
  obtain ⟨t, rfl⟩ := r1
  obtain ⟨t', rfl⟩ := r2
  exact iadd_int ⟨.int _, H, I.tok _, ⟨_, rfl⟩, q⟩
theorem ip_sub : PIp X .Sub (ipI fun i j => i - j) := by
  intro pins s σ H x y v u Q I r1 r2 h
  obtain ⟨i, j, e1, e2, q⟩ := h
  subst e1; subst e2
  obtain ⟨t, rfl⟩ := r1
  obtain ⟨t', rfl⟩ := r2
  exact isub_int ⟨.int _, H, I.tok _, ⟨_, rfl⟩, q⟩
end

section
variable {X : Cx} {pos : Pos}
def tWhile (c : TT) (tb : TS) : TS := fun D σ H => ∃ W : Nat → St → Hp → Prop, (∃ m, W m σ H) ∧ ∀ m σ H, W m σ H →
  c σ H fun b H1 => if b = true then ∃ N : St → Hp → Prop, (∀ σ' H', N σ' H' → ∃ m', m' < m ∧ W m' σ' H') ∧ tb { D with nx := N, ct := N, bk := D.nx } σ H1 else D.nx σ H1
theorem ps_while {c : Expr} {body : List Stmt} {tc : TT} {tb : TS} (hp : PassesOwn (model X.prog X.w) X.A X.env X.xe) (hc : PT X c tc) (hb : PSs X body tb) : PS X (.While c body [] pos) (tWhile tc tb) := by
  intro pins s σ H D I h
  obtain ⟨W, ⟨m0, w0⟩, turn⟩ := h
  refine wpAny_While (codeAny_whileLoop (fun n s' => ∃ σ' H', Inv X pins σ' H' s' ∧ W n σ' H') ?_ m0 ⟨σ, H, I, w0⟩)
  rintro n s1 ⟨σ1, H1, I1, w1⟩
  refine wpAny_passesOwn hp (thn (hc pins s1 σ1 H1 _ I1 (turn n σ1 H1 w1)) fun b s2 ⟨H2, I2, q2⟩ => ?_)
  cases b with
  | true =>
    obtain ⟨N, hN, q2⟩ := q2
    rw [if_pos rfl]
    refine wpAny_passesOwn hp (thn (hb pins s2 σ1 H2 _ I2 q2) fun f s3 q3 => ?_)
    cases f with
    | next =>
      obtain ⟨σ3, H3, I3, n3⟩ := q3
      obtain ⟨m', hm, w3⟩ := hN σ3 H3 n3
      exact ⟨m', hm, σ3, H3, I3, w3⟩
    | cont =>
      obtain ⟨σ3, H3, I3, n3⟩ := q3
      obtain ⟨m', hm, w3⟩ := hN σ3 H3 n3
      exact ⟨m', hm, σ3, H3, I3, w3⟩
    | brk => exact q3
    | ret v => exact q3
  | false =>
    rw [if_neg Bool.false_ne_true]
    exact wpAny_execs_nil ⟨σ1, H2, I2, q2⟩
end

structure It where
  go : Nat → Hp → Prop
  yld : Nat → Hp → V → Hp → Prop
  stop : Nat → Hp → Prop
def FpOk (X : Cx) (pins : List (Addr × Obj)) (H : Hp) (b : Addr) : Prop :=
  H b = none ∧ b ≠ X.env.locals ∧ b ∉ X.fs ∧ (b ∈ X.ex ∨ X.s₀.heap.objs.size ≤ b) ∧ (∀ x c, X.env.cells.lookup x = some c → c ≠ b) ∧ ∀ p ∈ X.pn ++ pins, p.1 ≠ b
theorem Inv.fpOk {X : Cx} {pins : List (Addr × Obj)} {σ : St} {H H' : Hp} {s : Shared} {b : Addr} (I : Inv X pins σ H s) (hb : s.heap.objs.size ≤ b) (hn : H' b = none) : FpOk X pins H' b := by
  refine ⟨hn, Nat.ne_of_gt (Nat.lt_of_lt_of_le I.lt hb), I.nofs hb, .inr (Nat.le_trans I.sz hb), fun x c e z => ?_, fun p hp z => ?_⟩
  · obtain ⟨v, q⟩ := I.cell x c e
    exact absurd (Nat.lt_of_lt_of_le q.lt (by rw [z]; exact hb)) (Nat.lt_irrefl _)
  · exact absurd (Nat.lt_of_lt_of_le (Heap.lt_size (I.pin p hp).1) (by rw [z]; exact hb)) (Nat.lt_irrefl _)
structure Turn (P : Program) (w : World) (K : PySem.W.Frag) (tg : Expr) (J : It) (fp : List Addr) (it : Addr) (tn : Nat → Heap → Prop) : Prop where
  mem : it ∈ fp
  obj : ∀ i h, tn i h → ∀ b ∈ fp, ∃ o, h.get? b = some o ∧ ∀ v, o.data ≠ .cell v
  keep : ∀ i h h', tn i h → (∀ b ∈ fp, ∀ o, h.get? b = some o → h'.get? b = some o) → tn i h'
  item : ∀ (X : Cx), X.prog = P → X.w = w → X.K = K → X.calm = true → ∀ (i : Nat) (pins : List (Addr × Obj)) (s : Shared) (σ : St) (H : Hp) (E : Value → Shared → Prop), Inv X pins σ H s → (∀ b ∈ fp, FpOk X pins H b) → tn i s.heap → J.go i H →
    wpAny (model P w) X.A (pyNext (.ref it)) (fun r s1 => ∃ u, r = some u ∧
      wpAny (model P w) X.A (letOwnedTupleGo tg (.ref it) u) (fun _ s2 => ∃ x H', Inv X pins σ H' s2 ∧ RelV x u ∧ J.yld i H x H' ∧ tn (i + 1) s2.heap ∧ ∀ b ∈ fp, H' b = none) E s1) E s
  done : ∀ (X : Cx), X.prog = P → X.w = w → X.K = K → X.calm = true → ∀ (i : Nat) (pins : List (Addr × Obj)) (s : Shared) (σ : St) (H : Hp) (E : Value → Shared → Prop), Inv X pins σ H s → (∀ b ∈ fp, FpOk X pins H b) → tn i s.heap → J.stop i H →
    wpAny (model P w) X.A (pyNext (.ref it)) (fun r s1 => r = none ∧ Inv X pins σ H s1) E s
  self : ∀ (A : Around) (i : Nat) (s : Shared) (Q : Value → Shared → Prop) (E : Value → Shared → Prop), tn i s.heap → Q (.ref it) s → wpAny (model P w) A (pyIter (.ref it)) Q E s
abbrev TI := St → Hp → (It → Hp → Prop) → Prop
def PIE (X : Cx) (pins : List (Addr × Obj)) (σ : St) (tg : Expr) (R : It → Hp → Prop) (itv : Value) (s2 : Shared) : Prop :=
  ∃ (it : Addr) (fp : List Addr) (tn : Nat → Heap → Prop) (J : It) (H' : Hp), itv = .ref it ∧ Inv X pins σ H' s2 ∧ Turn X.prog X.w X.K tg J fp it tn ∧ tn 0 s2.heap ∧ (∀ b ∈ fp, FpOk X pins H' b) ∧ R J H'
def PI (X : Cx) (tg iter : Expr) (wi : TI) : Prop :=
  ∀ (pins : List (Addr × Obj)) (s : Shared) (σ : St) (H : Hp) (R : It → Hp → Prop), Inv X pins σ H s → wi σ H R →
    wpAny (model X.prog X.w) X.A (eval iter X.env) (fun v s1 => wpAny (model X.prog X.w) X.A (pyIter v) (PIE X pins σ tg R) X.xe s1) X.xe s

theorem go_of {M : Model} {A : Around} {E : Value → Shared → Prop} {s : Shared} {tg : Expr} {it : Addr} {u : Value} {o : Obj} {n : String} {vs : Array Value} {Q : Unit → Shared → Prop} (ho : s.heap.get? it = some o) (hc : o.cls = .type n) (hd : o.data = .fields vs)
    (hn : ["enumerate", "zip", "dict_itemiterator", "dict_reverseitemiterator", "odict_iterator", "itertools.zip_longest", "itertools.pairwise"].contains n = false) (hQ : Q () s) : wpAny M A (letOwnedTupleGo tg (.ref it) u) Q E s := by
  unfold letOwnedTupleGo
  cases tg <;> first
    | exact wpAny_pure hQ
    | (cases u <;> first
        | exact wpAny_pure hQ
        | (refine wpAny_bind (wpAny_load ho ?_)
           rw [hc, hd]
           show wpAny M A (if (["enumerate", "zip", "dict_itemiterator", "dict_reverseitemiterator", "odict_iterator", "itertools.zip_longest", "itertools.pairwise"].contains n && vs[0]? == some (rawInt _)) = true then _ else _) Q E s
           rw [if_neg (by intro h; rw [hn, Bool.false_and] at h; cases h)]
           exact wpAny_pure hQ))

def Itl (K : PySem.W.Frag) (a : Addr) : It :=
  ⟨fun i H => ∃ xs x, SqL K H a xs ∧ xs[i]? = some x, fun i H x H' => H' = H ∧ ∀ xs, SqL K H a xs → xs[i]? = some x, fun i H => ∃ xs, SqL K H a xs ∧ xs.length ≤ i⟩
def Itr (lo : Int) (n : Nat) : It := ⟨fun i _ => i < n, fun i H x H' => H' = H ∧ x = .int (lo + i), fun i _ => n ≤ i⟩
theorem turn_list {P : Program} {w : World} {K : PySem.W.Frag} {tg : Expr} (a it : Addr) : Turn P w K tg (Itl K a) [it] it (fun i h => h.IsListIter it a i) where
  mem := by simp
  obj := fun i h st b hb => by
    have e : b = it := by simpa using hb
    subst e
    obtain ⟨o, e, c, d⟩ := st
    exact ⟨o, e, fun v z => by rw [d] at z; cases z⟩
  keep := fun i h h' st k => st.at fun o e => k it (by simp) o e
  item := by
    intro X hP hw hK hc i pins s σ H E I hf st hg
    subst hP hw hK
    obtain ⟨xs, x, hq, hx⟩ := hg
    obtain ⟨its, rv, p, hz⟩ := I.list hq
    obtain ⟨u, hu, ru⟩ := rv.get hx
    obtain ⟨f0, f1, f2, f3, f4, f5⟩ := hf it (by simp)
    refine wpAny_pyNext_list_item st p.isList (x := u) (by simpa using hu) fun h' st' sb => ?_
    have I1 : Inv X pins σ H { s with heap := h' } := I.turned (t' := s.toks) (fun b o hb e => (sb.2 b hb).trans e) f0 f1 f3 f4 f5
    obtain ⟨o, e, c, d⟩ := id st'
    exact ⟨u, rfl, go_of (s := { s with heap := h' }) e c d (by decide) ⟨x, H, I1, ru, ⟨rfl, fun ys hy => by rw [I.list_inj hy hq]; exact hx⟩, st', fun b hb => (hf b hb).1⟩⟩
  done := by
    intro X hP hw hK hc i pins s σ H E I hf st hg
    subst hP hw hK
    obtain ⟨xs, hq, hx⟩ := hg
    obtain ⟨its, rv, p, hz⟩ := I.list hq
    obtain ⟨f0, f1, f2, f3, f4, f5⟩ := hf it (by simp)
    have hl := rv.length
    exact wpAny_pyNext_list_end (I.ok.hd hc) st p.isList (by simp; omega) fun h' eb => ⟨rfl, I.turned (t' := s.toks) (fun b o hb e => eb b o hb e) f0 f1 f3 f4 f5⟩
  self := fun _ _ _ _ _ st h => wpAny_pyIter_listiter st h
theorem turn_range {P : Program} {w : World} {K : PySem.W.Frag} {tg : Expr} (it : Addr) (lo : Int) (n : Nat) : Turn P w K tg (Itr lo n) [it] it (fun i h => IsRangeIter h it (lo + (i : Nat) * 1) ((n : Int) - (i : Nat)) 1) where
  mem := by simp
  obj := fun i h st b hb => by
    have e : b = it := by simpa using hb
    subst e
    exact ⟨_, st, fun v z => by
      have z' : Data.fields _ = Data.cell v := z
      cases z'⟩
  keep := fun i h h' st k => k it (by simp) _ st
  item := by
    intro X hP hw hK hc i pins s σ H E I hf st hg
    subst hP hw hK
    obtain ⟨f0, f1, f2, f3, f4, f5⟩ := hf it (by simp)
    have W := Walks.range (prog := X.prog) (w := X.w) (I.ok.hd hc) it lo 1 n
    refine W.item i s _ _ hg st fun v h' tk hv st' kk => ?_
    obtain ⟨t, rfl⟩ := hv
    have I1 : Inv X pins σ H { s with heap := h', toks := tk } := I.turned (fun b o hb e => kk b o (by simpa using hb) e) f0 f1 f3 f4 f5
    refine ⟨_, rfl, go_of (s := { s with heap := h', toks := tk }) (n := "range_iterator") st' rfl rfl (by decide) ⟨.int (lo + i), H, I1, ⟨t, ?_⟩, ⟨rfl, rfl⟩, st', fun b hb => (hf b hb).1⟩⟩
    rw [Int.mul_one]
  done := by
    intro X hP hw hK hc i pins s σ H E I hf st hg
    subst hP hw hK
    obtain ⟨f0, f1, f2, f3, f4, f5⟩ := hf it (by simp)
    exact wpAny_pyNext_range_end (I.ok.hd hc) st (by have : n ≤ i := hg; omega) fun h' eb => ⟨rfl, I.turned (t' := s.toks) (fun b o hb e => eb b o hb e) f0 f1 f3 f4 f5⟩
  self := fun _ _ _ _ _ st h => wpAny_pyIter_rangeiter st h
end L2

namespace L2
open PySem PySem.Spec PyProof.Rows
section
variable {X : Cx} {tg : Expr}
def iList (K : PySem.W.Frag) (tl : TE) : TI := fun σ H R => tl σ H fun x H1 => ∃ a, x = .ref a ∧ (∃ xs, SqL K H1 a xs) ∧ R (Itl K a) H1
theorem pi_list {l : Expr} {tl : TE} (hl : PE X l tl) : PI X tg l (iList X.K tl) := by
  intro pins s σ H R I h
  refine thn (hl pins s σ H _ I h) fun v s1 ⟨x, H1, I1, r1, q1⟩ => ?_
  obtain ⟨a, e, ⟨xs, hq⟩, q⟩ := q1
  subst e
  cases r1
  obtain ⟨its, rv, p, hz⟩ := I1.list hq
  refine wpAny_pyIter_list p.isList ?_
  refine ⟨s1.heap.objs.size, [s1.heap.objs.size], _, _, H1, rfl, I1.kept (t' := s1.toks) fun b o e => Heap.get?_push_of_some _ e, turn_list a _, ⟨_, Heap.get?_push_size _ rfl, rfl, rfl⟩, fun b hb => ?_, q⟩
  have e : b = s1.heap.objs.size := by simpa using hb
  subst e
  exact I1.fpOk (Nat.le_refl _) (I1.hok.fresh (Nat.le_refl _))
theorem range_it {pins : List (Addr × Obj)} {σ : St} {H : Hp} {s : Shared} {R : It → Hp → Prop} {E : Value → Shared → Prop} {lo hi : Int} {t u v : Tok} {tk : Nat} (I : Inv X pins σ H s) (h1 : -(2 ^ 62) ≤ lo) (h2 : lo < 2 ^ 62) (h3 : -(2 ^ 62) ≤ hi) (h4 : hi < 2 ^ 62)
    (q : R (Itr lo (hi - lo).toNat) H) : wpAny (model X.prog X.w) X.A (pyIter (.ref s.heap.objs.size)) (PIE X pins σ tg R) E { s with heap := s.heap.push { cls := .type "range", data := .fields #[.int lo t, .int hi u, .int 1 v] }, toks := tk } := by
  refine wpAny_pyIter_range (IsRange.new ..) (small_one h1 h2 h3 h4) ?_
  have I1 : Inv X pins σ H { s with heap := s.heap.push { cls := .type "range", data := .fields #[.int lo t, .int hi u, .int 1 v] }, toks := tk } := I.kept fun b o e => Heap.get?_push_of_some _ e
  refine ⟨(s.heap.push { cls := .type "range", data := .fields #[.int lo t, .int hi u, .int 1 v] }).objs.size, [(s.heap.push { cls := .type "range", data := .fields #[.int lo t, .int hi u, .int 1 v] }).objs.size], _, _, H, rfl,
    I1.kept (t' := tk) fun b o e => Heap.get?_push_of_some _ e, turn_range _ lo (hi - lo).toNat, ?_, fun b hb => ?_, q⟩
  · have e1 : lo + ((0 : Nat) : Int) * 1 = lo := by simp
    have e2 : (((hi - lo).toNat : Nat) : Int) - ((0 : Nat) : Int) = Builtin.Range.rangeSize lo hi 1 := by rw [rangeSize_one]; split <;> omega
    show IsRangeIter _ _ (lo + ((0 : Nat) : Int) * 1) ((((hi - lo).toNat : Nat) : Int) - ((0 : Nat) : Int)) 1
    rw [e1, e2]
    exact Heap.get?_push_size _ rfl
  · have e : b = (s.heap.push { cls := .type "range", data := .fields #[.int lo t, .int hi u, .int 1 v] }).objs.size := by simpa using hb
    subst e
    exact I1.fpOk (Nat.le_refl _) (I1.hok.fresh (Nat.le_refl _))
def iRng1 (ta : TA) : TI := fun σ H R => ta σ H fun vs H1 => ∃ j : Int, vs = [.int j] ∧ -(2 ^ 62) ≤ j ∧ j < 2 ^ 62 ∧ R (Itr 0 j.toNat) H1
theorem pi_range1 {a : Expr} {ta : TA} {p pos : Pos} (hg : Gl X "range") (hm : X.mg "range" = none) (ha : PA X [a] ta) (hs : starEach [a] X.env = [(false, eval a X.env)] := by rfl) : PI X tg (.Call (.Name "range" p) [a] [] pos) (iRng1 ta) := by
  intro pins s σ H R I h
  refine Call_ (ld_blt I hg hm boot_range (PyProof.Rows.callWith_type1 (thn (ha pos pins s σ H _ I h) fun us s1 ⟨vs, H1, I1, r1, q1⟩ => ?_) hs rfl))
  obtain ⟨j, e, q1, q2, q⟩ := q1
  subst e
  cases r1 with
  | cons r rr =>
    cases rr
    obtain ⟨t, rfl⟩ := r
    exact call_range_1 (range_it I1 (by omega) (by omega) q1 q2 (by simpa using q))
def tFor (wi : TI) (g : TG) (tb : TS) : TS := fun D σ H => wi σ H fun J H1 => ∃ W : Nat → Nat → St → Hp → Prop, (∃ m, W 0 m σ H1) ∧ ∀ i m σ H, W i m σ H →
  (J.stop i H ∧ D.nx σ H) ∨ (J.go i H ∧ ∃ N : St → Hp → Prop, (∀ σ' H', N σ' H' → ∃ m', m' < m ∧ W (i + 1) m' σ' H') ∧ ∀ x H', J.yld i H x H' → g x σ H' fun σ2 H2 => tb { D with nx := N, ct := N, bk := D.nx } σ2 H2)
def pinsAt (fp : List Addr) (h : Heap) : List (Addr × Obj) := fp.filterMap fun b => (h.get? b).map fun o => (b, o)
theorem mem_pinsAt {fp : List Addr} {h : Heap} {b : Addr} {o : Obj} (hb : b ∈ fp) (e : h.get? b = some o) : (b, o) ∈ pinsAt fp h := List.mem_filterMap.mpr ⟨b, hb, by rw [e]; rfl⟩
theorem of_pinsAt {fp : List Addr} {h : Heap} {p : Addr × Obj} (hp : p ∈ pinsAt fp h) : p.1 ∈ fp ∧ h.get? p.1 = some p.2 := by
  obtain ⟨b, hb, e⟩ := List.mem_filterMap.mp hp
  cases q : h.get? b with
  | none => rw [q] at e; cases e
  | some o =>
    rw [q] at e
    have e' : (b, o) = p := Option.some.inj e
    subst e'
    exact ⟨hb, q⟩
theorem Inv.pinned {pins : List (Addr × Obj)} {σ : St} {H : Hp} {s : Shared} {fp : List Addr} (I : Inv X pins σ H s) (hf : ∀ b ∈ fp, FpOk X pins H b) (ho : ∀ b ∈ fp, ∃ o, s.heap.get? b = some o ∧ ∀ v, o.data ≠ .cell v) : Inv X (pins ++ pinsAt fp s.heap) σ H s :=
  I.pins_of fun p hp => (List.mem_append.mp hp).elim (fun z => I.pin p (List.mem_append_right _ z)) fun z => by
    obtain ⟨hb, e⟩ := of_pinsAt z
    obtain ⟨f0, f1, f2, _⟩ := hf p.1 hb
    obtain ⟨o, e', d⟩ := ho p.1 hb
    rw [e] at e'; cases e'
    exact ⟨e, f0, f1, f2, d⟩
theorem Inv.unpinned {pins pl : List (Addr × Obj)} {σ : St} {H : Hp} {s : Shared} (I : Inv X (pins ++ pl) σ H s) : Inv X pins σ H s := I.pins_of fun p hp => I.pin p (List.mem_append_right _ (List.mem_append_left _ hp))
theorem ps_for {iter : Expr} {body : List Stmt} {wi : TI} {g : TG} {tb : TS} {pos : Pos} (hp : PassesOwn (model X.prog X.w) X.A X.env X.xe) (hc : X.calm = true) (hi : PI X tg iter wi) (hg : PG X tg g) (hb : PSs X body tb)
    (hs : ∀ x, foldedSetIterable iter X.env x = pure x := by intro _; rfl) : PS X (.For tg iter body [] pos) (tFor wi g tb) := by
  intro pins s σ H D I h
  refine wpAny_For (thn (hi pins s σ H _ I h) fun v s1 h1 => thn h1 fun itv s2 h2 => ?_) hs
  obtain ⟨it, fp, tn, J, H2, e, I2, T, st2, f2, W, ⟨m0, w0⟩, turn⟩ := h2
  subst e
  -- what stays true of the iterator's objects through the loop
  have stat : ∀ {H' : Hp}, (∀ b ∈ fp, H' b = none) → ∀ b ∈ fp, FpOk X pins H' b := fun hn b hb => ⟨hn b hb, (f2 b hb).2⟩
  refine codeAny_forLoop_any (fun n s' => ∃ i σ' H', Inv X pins σ' H' s' ∧ tn i s'.heap ∧ (∀ b ∈ fp, H' b = none) ∧ W i n σ' H') ?_ m0 ⟨0, σ, H2, I2, st2, fun b hb => (f2 b hb).1, w0⟩
  rintro n s3 ⟨i, σ3, H3, I3, st3, fr3, w3⟩
  rcases turn i n σ3 H3 w3 with ⟨stop, qn⟩ | ⟨go, N, hN, step⟩
  · refine wpAny_passesOwn hp (thn (T.done X rfl rfl rfl hc i pins s3 σ3 H3 X.xe I3 (stat fr3) st3 stop) fun r s4 ⟨hr, I4⟩ => ?_)
    subst hr
    exact wpAny_execs_nil ⟨σ3, H3, I4, qn⟩
  · refine wpAny_passesOwn hp (thn (T.item X rfl rfl rfl hc i pins s3 σ3 H3 X.xe I3 (stat fr3) st3 go) fun r s4 ⟨u, hr, h4⟩ => ?_)
    subst hr
    refine wpAny_passesOwn hp (thn h4 fun _ s5 ⟨x, H5, I5, r5, y5, st5, fr5⟩ => ?_)
    have I5' := I5.pinned (stat fr5) (T.obj _ _ st5)
    refine wpAny_passesOwn hp (thn (hg _ s5 σ3 H5 x u _ I5' r5 (step x H5 y5)) fun _ s6 ⟨σ6, H6, I6, q6⟩ => ?_)
    refine wpAny_passesOwn hp (thn (hb _ s6 σ6 H6 _ I6 q6) fun f s7 q7 => ?_)
    have again : ∀ {σ7 : St} {H7 : Hp}, Inv X (pins ++ pinsAt fp s5.heap) σ7 H7 s7 → N σ7 H7 → ∃ m, m < n ∧ ∃ i σ' H', Inv X pins σ' H' s7 ∧ tn i s7.heap ∧ (∀ b ∈ fp, H' b = none) ∧ W i m σ' H' := fun {σ7 H7} I7 n7 => by
      obtain ⟨m', hm, w7⟩ := hN σ7 H7 n7
      refine ⟨m', hm, i + 1, σ7, H7, I7.unpinned, T.keep _ _ _ st5 fun b hb o e => (I7.pin (b, o) (List.mem_append_right _ (List.mem_append_right _ (mem_pinsAt hb e)))).1, fun b hb => ?_, w7⟩
      obtain ⟨o, e, d⟩ := T.obj _ _ st5 b hb
      exact (I7.pin (b, o) (List.mem_append_right _ (List.mem_append_right _ (mem_pinsAt hb e)))).2.1
    cases f with
    | next => obtain ⟨σ7, H7, I7, n7⟩ := q7; exact again I7 n7
    | cont => obtain ⟨σ7, H7, I7, n7⟩ := q7; exact again I7 n7
    | brk => obtain ⟨σ7, H7, I7, q7⟩ := q7; exact ⟨σ7, H7, I7.unpinned, q7⟩
    | ret v => obtain ⟨x7, σ7, H7, I7, r7, q7⟩ := q7; exact ⟨x7, σ7, H7, I7.unpinned, r7, q7⟩
end

theorem for_list {K : PySem.W.Frag} {a : Addr} {xs : List V} {g : TG} {tb : TS} {D : Ends} {σ : St} {H : Hp} (Pv : Nat → St → Hp → Prop) (h0 : Pv 0 σ H) (hl : ∀ i σ H, i ≤ xs.length → Pv i σ H → SqL K H a xs)
    (hs : ∀ i x σ H, xs[i]? = some x → Pv i σ H → g x σ H fun σ2 H2 => tb { D with nx := Pv (i + 1), ct := Pv (i + 1), bk := D.nx } σ2 H2) (hd : ∀ σ H, Pv xs.length σ H → D.nx σ H) :
    ∃ W : Nat → Nat → St → Hp → Prop, (∃ m, W 0 m σ H) ∧ ∀ i m σ H, W i m σ H →
      ((Itl K a).stop i H ∧ D.nx σ H) ∨ ((Itl K a).go i H ∧ ∃ N : St → Hp → Prop, (∀ σ' H', N σ' H' → ∃ m', m' < m ∧ W (i + 1) m' σ' H') ∧ ∀ x H', (Itl K a).yld i H x H' → g x σ H' fun σ2 H2 => tb { D with nx := N, ct := N, bk := D.nx } σ2 H2) := by
  refine ⟨fun i m σ H => m = xs.length - i ∧ i ≤ xs.length ∧ Pv i σ H, ⟨xs.length, by simp, Nat.zero_le _, h0⟩, ?_⟩
  rintro i m σ H ⟨rfl, hi, p⟩
  have q := hl i σ H hi p
  by_cases hlt : i < xs.length
  · refine .inr ⟨⟨xs, xs[i], q, by simp [hlt]⟩, Pv (i + 1), fun σ' H' p' => ⟨xs.length - (i + 1), by omega, rfl, hlt, p'⟩, fun x H' y => ?_⟩
    obtain ⟨e, y⟩ := y
    subst e
    exact hs i x σ _ (y xs q) p
  · have e : i = xs.length := by omega
    subst e
    exact .inl ⟨⟨xs, q, Nat.le_refl _⟩, hd σ H p⟩
theorem for_range {lo : Int} {n : Nat} {g : TG} {tb : TS} {D : Ends} {σ : St} {H : Hp} (Pv : Nat → St → Hp → Prop) (h0 : Pv 0 σ H)
    (hs : ∀ i σ H, i < n → Pv i σ H → g (.int (lo + i)) σ H fun σ2 H2 => tb { D with nx := Pv (i + 1), ct := Pv (i + 1), bk := D.nx } σ2 H2) (hd : ∀ σ H, Pv n σ H → D.nx σ H) :
    ∃ W : Nat → Nat → St → Hp → Prop, (∃ m, W 0 m σ H) ∧ ∀ i m σ H, W i m σ H →
      ((Itr lo n).stop i H ∧ D.nx σ H) ∨ ((Itr lo n).go i H ∧ ∃ N : St → Hp → Prop, (∀ σ' H', N σ' H' → ∃ m', m' < m ∧ W (i + 1) m' σ' H') ∧ ∀ x H', (Itr lo n).yld i H x H' → g x σ H' fun σ2 H2 => tb { D with nx := N, ct := N, bk := D.nx } σ2 H2) := by
  refine ⟨fun i m σ H => m = n - i ∧ i ≤ n ∧ Pv i σ H, ⟨n, by simp, Nat.zero_le _, h0⟩, ?_⟩
  rintro i m σ H ⟨rfl, hi, p⟩
  by_cases hlt : i < n
  · refine .inr ⟨hlt, Pv (i + 1), fun σ' H' p' => ⟨n - (i + 1), by omega, rfl, hlt, p'⟩, fun x H' y => ?_⟩
    obtain ⟨e, y⟩ := y
    subst e y
    exact hs i σ _ hlt p
  · have e : i = n := by omega
    subst e
    exact .inl ⟨Nat.le_refl _, hd σ H p⟩
end L2

namespace L2
open PySem PySem.Spec PyProof.Rows

abbrev R2 := V → V → Hp → VK → Prop
def OpR (X : Cx) (f : Value → Value → Sem Value) (r : R2) : Prop :=
  ∀ (pins : List (Addr × Obj)) (s : Shared) (σ : St) (H : Hp) (x y : V) (v u : Value) (Q : VK), Inv X pins σ H s → RelV x v → RelV y u → r x y H Q →
    wpAny (model X.prog X.w) X.A (f v u) (EP X pins σ Q) X.xe s
def UnR (X : Cx) (f : Value → Sem Value) (r : V → Hp → VK → Prop) : Prop :=
  ∀ (pins : List (Addr × Obj)) (s : Shared) (σ : St) (H : Hp) (x : V) (v : Value) (Q : VK), Inv X pins σ H s → RelV x v → r x H Q →
    wpAny (model X.prog X.w) X.A (f v) (EP X pins σ Q) X.xe s
def CallR (X : Cx) (f : Value) (r : List V → Hp → VK → Prop) : Prop :=
  ∀ (pins : List (Addr × Obj)) (s : Shared) (σ : St) (H : Hp) (xs : List V) (us : List Value) (Q : VK), Inv X pins σ H s → Vals xs us → r xs H Q →
    wpAny (model X.prog X.w) X.A (call f us) (EP X pins σ Q) X.xe s
def tOp (r : R2) (ta tb : TE) : TE := fun σ H Q => ta σ H fun x H1 => tb σ H1 fun y H2 => r x y H2 Q
def tUn (r : V → Hp → VK → Prop) (ta : TE) : TE := fun σ H Q => ta σ H fun x H1 => r x H1 Q
def rI (C : Int → Int → Prop) (g : Int → Int → V) : R2 := fun x y H Q => ∃ i j, x = .int i ∧ y = .int j ∧ C i j ∧ Q (g i j) H
def rI0 (g : Int → Int → V) : R2 := fun x y H Q => ∃ i j, x = .int i ∧ y = .int j ∧ Q (g i j) H
def rU (g : Int → V) : V → Hp → VK → Prop := fun x H Q => ∃ i, x = .int i ∧ Q (g i) H

section
variable {X : Cx} {a b c : Expr} {ta tb tc : TE} {pos : Pos}

theorem binT (ha : PE X a ta) (hb : PE X b tb) {pins : List (Addr × Obj)} {s : Shared} {σ : St} {H : Hp} {R : V → V → Hp → Prop} (I : Inv X pins σ H s)
    (h : ta σ H fun x H1 => tb σ H1 fun y H2 => R x y H2) {Q : Value → Shared → Prop} {f : Value → Value → Sem Value}
    (hf : ∀ v u s2 x y H2, Inv X pins σ H2 s2 → RelV x v → RelV y u → R x y H2 → wpAny (model X.prog X.w) X.A (f v u) Q X.xe s2) :
    wpAny (model X.prog X.w) X.A (eval a X.env) (fun v s₁ => wpAny (model X.prog X.w) X.A (eval b X.env) (fun u s₂ => wpAny (model X.prog X.w) X.A (f v u) Q X.xe s₂) X.xe s₁) X.xe s := by
  refine thn (ha pins s σ H _ I h) fun v s1 ⟨x, H1, I1, r1, q1⟩ => ?_
  refine thn (hb pins s1 σ H1 _ I1 q1) fun u s2 ⟨y, H2, I2, r2, q2⟩ => ?_
  exact hf v u s2 x y H2 I2 r1 r2 q2

theorem pe_op {op : Operator} {r : R2} (ho : OpR X (binaryOp op) r) (ha : PE X a ta) (hb : PE X b tb) : PE X (.BinOp a op b pos) (tOp r ta tb) := by
  intro pins s σ H Q I h
  exact wpAny_BinOp (binT ha hb I h fun v u s2 x y H2 I2 rx ry q => ho pins s2 σ H2 x y v u Q I2 rx ry q)
theorem pe_un {op : UnaryOp} {r : V → Hp → VK → Prop} (ho : UnR X (unaryOp op) r) (ha : PE X a ta) : PE X (.UnaryOp op a pos) (tUn r ta) := by
  intro pins s σ H Q I h
  exact UnaryOp_ (thn (ha pins s σ H _ I h) fun v s1 ⟨x, H1, I1, r1, q1⟩ => ho pins s1 σ H1 x v Q I1 r1 q1)
theorem opI {f : Value → Value → Sem Value} {C : Int → Int → Prop} {g : Int → Int → Int}
    (rule : ∀ (i j : Int) (t u : Tok) (s : Shared) (Q : Value → Shared → Prop) (E : Value → Shared → Prop), C i j → Q (.int (g i j) s.toks) { s with toks := s.toks + 1 } → wpAny (model X.prog X.w) X.A (f (.int i t) (.int j u)) Q E s) :
    OpR X f (rI C fun i j => .int (g i j)) := by
  intro pins s σ H x y v u Q I rx ry h
  obtain ⟨i, j, rfl, rfl, hc, q⟩ := h
  obtain ⟨t, rfl⟩ := rx
  obtain ⟨t', rfl⟩ := ry
  exact rule i j t t' s _ _ hc ⟨.int (g i j), H, I.tok _, ⟨_, rfl⟩, q⟩
theorem opI0 {f : Value → Value → Sem Value} {g : Int → Int → Int}
    (rule : ∀ (i j : Int) (t u : Tok) (s : Shared) (Q : Value → Shared → Prop) (E : Value → Shared → Prop), Q (.int (g i j) s.toks) { s with toks := s.toks + 1 } → wpAny (model X.prog X.w) X.A (f (.int i t) (.int j u)) Q E s) :
    OpR X f (rI0 fun i j => .int (g i j)) := by
  intro pins s σ H x y v u Q I rx ry h
  obtain ⟨i, j, rfl, rfl, q⟩ := h
  obtain ⟨t, rfl⟩ := rx
  obtain ⟨t', rfl⟩ := ry
  exact rule i j t t' s _ _ ⟨.int (g i j), H, I.tok _, ⟨_, rfl⟩, q⟩
theorem opB0 {f : Value → Value → Sem Value} {g : Int → Int → Bool}
    (rule : ∀ (i j : Int) (t u : Tok) (s : Shared) (Q : Value → Shared → Prop) (E : Value → Shared → Prop), Q (.bool (g i j)) s → wpAny (model X.prog X.w) X.A (f (.int i t) (.int j u)) Q E s) :
    OpR X f (rI0 fun i j => .bl (g i j)) := by
  intro pins s σ H x y v u Q I rx ry h
  obtain ⟨i, j, rfl, rfl, q⟩ := h
  obtain ⟨t, rfl⟩ := rx
  obtain ⟨t', rfl⟩ := ry
  exact rule i j t t' s _ _ ⟨.bl (g i j), H, I, rfl, q⟩

def CPow (i j : Int) : Prop := 0 ≤ j ∧ j ≤ 1000000 ∧ i.natAbs < 2 ^ 64
def CMul (i j : Int) : Prop := (-(2 ^ 64) < i ∧ i < 2 ^ 64) ∨ (-(2 ^ 64) < j ∧ j < 2 ^ 64)
theorem CMul.ok {i j : Int} (h : CMul i j) : IntMulOk i j := by
  rcases h with ⟨h1, h2⟩ | ⟨h1, h2⟩
  · exact .of_left (intBits_le_64 h1 h2)
  · exact .of_right (intBits_le_64 h1 h2)
theorem two_pow_nn (k : Nat) : (0 : Int) ≤ 2 ^ k := by
  rw [two_pow_cast]
  exact Int.natCast_nonneg _

theorem op_add : OpR X (binaryOp .Add) (rI0 fun i j => .int (i + j)) := opI0 fun _ _ _ _ _ _ _ q => add_int q
theorem op_sub : OpR X (binaryOp .Sub) (rI0 fun i j => .int (i - j)) := opI0 fun _ _ _ _ _ _ _ q => sub_int q
theorem op_mul : OpR X (binaryOp .Mult) (rI CMul fun i j => .int (i * j)) := opI fun _ _ _ _ _ _ _ hc q => mul_int q hc.ok
theorem op_mod : OpR X (binaryOp .Mod) (rI (fun _ j => 0 < j) fun i j => .int (i % j)) := opI fun i j _ _ _ _ _ hc q => by
  have h1 : (0 : Int) < j := hc
  exact mod_int' (by omega) (by rw [Int.fmod_eq_emod_of_nonneg i (by omega)]; exact q)
theorem op_pow : OpR X (binaryOp .Pow) (rI CPow fun i j => .int (i ^ j.toNat)) := opI fun _ _ _ _ _ _ _ hc q => pow_int_small hc.1 hc.2.1 hc.2.2 q
theorem op_shr : OpR X (binaryOp .RShift) (rI (fun _ j => 0 ≤ j) fun i j => .int (i / 2 ^ j.toNat)) := opI fun i j _ _ _ _ _ hc q =>
  rshift_int hc (by rw [Int.fdiv_eq_ediv_of_nonneg i (two_pow_nn _)]; exact q)
theorem op_and : OpR X (binaryOp .BitAnd) (rI0 fun i j => .int (Builtin.bitAnd i j)) := opI0 fun _ _ _ _ _ _ _ q => and_int q
theorem unI {f : Value → Sem Value} {g : Int → Int}
    (rule : ∀ (i : Int) (t : Tok) (s : Shared) (Q : Value → Shared → Prop) (E : Value → Shared → Prop), Q (.int (g i) s.toks) { s with toks := s.toks + 1 } → wpAny (model X.prog X.w) X.A (f (.int i t)) Q E s) :
    UnR X f (rU fun i => .int (g i)) := by
  intro pins s σ H x v Q I rx h
  obtain ⟨i, rfl, q⟩ := h
  obtain ⟨t, rfl⟩ := rx
  exact rule i t s _ _ ⟨.int (g i), H, I.tok _, ⟨_, rfl⟩, q⟩
theorem un_neg : UnR X (unaryOp .USub) (rU fun i => .int (-i)) := unI fun _ _ _ _ _ q => neg_int q
end

def scal : V → V → Bool
  | .non, .non => true | .non, .int _ => true | .int _, .non => true | .non, .bl _ => true | .bl _, .non => true | .non, .str _ => true | .str _, .non => true
  | .int _, .int _ => true | .bl _, .bl _ => true | .str _, .str _ => true | .byt _, .byt _ => true
  | .int _, .str _ => true | .str _, .int _ => true | .bl _, .str _ => true | .str _, .bl _ => true
  | _, _ => false
def rEq : R2 := fun x y H Q => scal x y = true ∧ Q (.bl (decide (x = y))) H
def rNe : R2 := fun x y H Q => scal x y = true ∧ Q (.bl (!decide (x = y))) H

theorem dec_int {i j : Int} : decide (V.int i = V.int j) = (i == j) := by
  rw [Bool.eq_iff_iff]
  simp
theorem dec_bl {i j : Bool} : decide (V.bl i = V.bl j) = (i == j) := by
  rw [Bool.eq_iff_iff]
  simp
theorem dec_str {i j : Str} : decide (V.str i = V.str j) = (i == j) := by
  rw [Bool.eq_iff_iff]
  simp
theorem dec_byt {i j : Array UInt8} : decide (V.byt i = V.byt j) = (i.toList == j.toList) := by
  rw [Bool.eq_iff_iff]
  cases i
  cases j
  simp

section
variable {X : Cx} {a b c : Expr} {ta tb tc : TE} {pos : Pos}
theorem fin_bl {pins : List (Addr × Obj)} {σ : St} {H : Hp} {s : Shared} {Q : VK} {k k' : Bool} (I : Inv X pins σ H s) (q : Q (.bl k) H) (e : k = k') : EP X pins σ Q (.bool k') s := by
  subst e
  exact ⟨.bl k, H, I, rfl, q⟩
theorem op_eq : OpR X (compareOp .Eq) rEq := by
  intro pins s σ H x y v u Q I rx ry h
  obtain ⟨hs, q⟩ := h
  cases x with
  | non =>
    cases rx
    cases y with
    | non => cases ry; exact PySem.EqNone.eq_none_none (fin_bl I q (by simp))
    | bl j => cases ry; exact PySem.EqNone.eq_none_bool (fin_bl I q (by simp))
    | int j => obtain ⟨t', rfl⟩ := ry; exact PySem.EqNone.eq_none_int (fin_bl I q (by simp))
    | str j => obtain ⟨t', rfl⟩ := ry; exact PySem.EqNone.eq_none_str (fin_bl I q (by simp))
    | _ => exact absurd (show false = true from hs) Bool.false_ne_true
  | bl i =>
    cases rx
    cases y with
    | non => cases ry; exact PySem.EqNone.eq_bool_none (fin_bl I q (by simp))
    | bl j => cases ry; exact eq_bool (fin_bl I q dec_bl)
    | str j => obtain ⟨t', rfl⟩ := ry; exact PySem.EqMixed.eq_bool_str (fin_bl I q (by simp))
    | _ => exact absurd (show false = true from hs) Bool.false_ne_true
  | int i =>
    obtain ⟨t, rfl⟩ := rx
    cases y with
    | non => cases ry; exact PySem.EqNone.eq_int_none (fin_bl I q (by simp))
    | int j => obtain ⟨t', rfl⟩ := ry; exact eq_int (fin_bl I q dec_int)
    | str j => obtain ⟨t', rfl⟩ := ry; exact PySem.EqMixed.eq_int_str (fin_bl I q (by simp))
    | _ => exact absurd (show false = true from hs) Bool.false_ne_true
  | str i =>
    obtain ⟨t, rfl⟩ := rx
    cases y with
    | non => cases ry; exact PySem.EqNone.eq_str_none (fin_bl I q (by simp))
    | bl j => cases ry; exact PySem.EqMixed.eq_str_bool (fin_bl I q (by simp))
    | int j => obtain ⟨t', rfl⟩ := ry; exact PySem.EqMixed.eq_str_int (fin_bl I q (by simp))
    | str j => obtain ⟨t', rfl⟩ := ry; exact eq_str (fin_bl I q dec_str)
    | _ => exact absurd (show false = true from hs) Bool.false_ne_true
  | byt i =>
    obtain ⟨t, rfl⟩ := rx
    cases y with
    | byt j => obtain ⟨t', rfl⟩ := ry; exact PySem.W.eq_bytes (fin_bl I q dec_byt)
    | _ => exact absurd (show false = true from hs) Bool.false_ne_true
  | _ => cases y <;> exact absurd (show false = true from hs) Bool.false_ne_true
theorem op_ne : OpR X (compareOp .NotEq) rNe := by
  intro pins s σ H x y v u Q I rx ry h
  obtain ⟨hs, q⟩ := h
  cases x with
  | non =>
    cases rx
    cases y with
    | non => cases ry; exact PySem.EqNone.ne_none_none (fin_bl I q (by simp))
    | bl j => cases ry; exact PySem.EqNone.ne_none_bool (fin_bl I q (by simp))
    | int j => obtain ⟨t', rfl⟩ := ry; exact PySem.EqNone.ne_none_int (fin_bl I q (by simp))
    | str j => obtain ⟨t', rfl⟩ := ry; exact PySem.EqNone.ne_none_str (fin_bl I q (by simp))
    | _ => exact absurd (show false = true from hs) Bool.false_ne_true
  | bl i =>
    cases rx
    cases y with
    | non => cases ry; exact PySem.EqNone.ne_bool_none (fin_bl I q (by simp))
    | bl j => cases ry; exact ne_bool (fin_bl I q (congrArg not dec_bl))
    | str j => obtain ⟨t', rfl⟩ := ry; exact PySem.EqMixed.ne_bool_str (fin_bl I q (by simp))
    | _ => exact absurd (show false = true from hs) Bool.false_ne_true
  | int i =>
    obtain ⟨t, rfl⟩ := rx
    cases y with
    | non => cases ry; exact PySem.EqNone.ne_int_none (fin_bl I q (by simp))
    | int j => obtain ⟨t', rfl⟩ := ry; exact ne_int (fin_bl I q (congrArg not dec_int))
    | str j => obtain ⟨t', rfl⟩ := ry; exact PySem.EqMixed.ne_int_str (fin_bl I q (by simp))
    | _ => exact absurd (show false = true from hs) Bool.false_ne_true
  | str i =>
    obtain ⟨t, rfl⟩ := rx
    cases y with
    | non => cases ry; exact PySem.EqNone.ne_str_none (fin_bl I q (by simp))
    | bl j => cases ry; exact PySem.EqMixed.ne_str_bool (fin_bl I q (by simp))
    | int j => obtain ⟨t', rfl⟩ := ry; exact PySem.EqMixed.ne_str_int (fin_bl I q (by simp))
    | str j => obtain ⟨t', rfl⟩ := ry; exact ne_str (fin_bl I q (congrArg not dec_str))
    | _ => exact absurd (show false = true from hs) Bool.false_ne_true
  | byt i =>
    obtain ⟨t, rfl⟩ := rx
    cases y with
    | byt j => obtain ⟨t', rfl⟩ := ry; exact PySem.W.ne_bytes (fin_bl I q (congrArg not dec_byt))
    | _ => exact absurd (show false = true from hs) Bool.false_ne_true
  | _ => cases y <;> exact absurd (show false = true from hs) Bool.false_ne_true

theorem op_lt : OpR X (compareOp .Lt) (rI0 fun i j => .bl (decide (i < j))) := opB0 fun _ _ _ _ _ _ _ q => lt_int q
theorem op_le : OpR X (compareOp .LtE) (rI0 fun i j => .bl (decide (i ≤ j))) := opB0 fun _ _ _ _ _ _ _ q => le_int q
theorem op_gt : OpR X (compareOp .Gt) (rI0 fun i j => .bl (decide (j < i))) := opB0 fun _ _ _ _ _ _ _ q => gt_int q
theorem op_notN : OpR X (compareOp .IsNot) (fun x y H Q => y = .non ∧ Q (.bl (!decide (x = .non))) H) := by
  intro pins s σ H x y v u Q I rx ry h
  obtain ⟨rfl, q⟩ := h
  cases ry
  refine isnot_none_gen (fin_bl I q ?_)
  cases x <;> first
    | (cases rx; rfl)
    | (obtain ⟨t, rfl⟩ := rx; rfl)

theorem nomark (b : Expr) {op : CmpOp} (h : op ≠ .In := by decide) (h2 : op ≠ .NotIn := by decide) : behindInMarks op b = false := by
  have e1 : (op == CmpOp.In) = false := by cases op <;> first | rfl | exact absurd rfl h
  have e2 : (op == CmpOp.NotIn) = false := by cases op <;> first | rfl | exact absurd rfl h2
  cases b <;> simp [behindInMarks, e1, e2]
theorem pe_cmpR {op : CmpOp} {r : R2} (ho : OpR X (compareOp op) r) (ha : PE X a ta) (hb : PE X b tb) (hm : behindInMarks op b = false) : PE X (.Compare a [op] [b] pos) (tOp r ta tb) := by
  intro pins s σ H Q I h
  exact wpAny_Compare1 (binT ha hb I h fun v u s2 x y H2 I2 rx ry q => ho pins s2 σ H2 x y v u Q I2 rx ry q) hm
def tTest (t : TE) : TT := fun σ H Q => t σ H fun x H' => ∃ k, x = .bl k ∧ Q k H'
theorem pt_cmpR {op : CmpOp} {r : R2} (ho : OpR X (compareOp op) r) (ha : PE X a ta) (hb : PE X b tb) (hm : behindInMarks op b = false) : PT X (.Compare a [op] [b] pos) (tTest (tOp r ta tb)) := by
  intro pins s σ H Q I h
  refine wpAny_isTrue_Compare1 (thn (ha pins s σ H _ I h) fun v s1 ⟨x, H1, I1, r1, q1⟩ => thn (hb pins s1 σ H1 _ I1 q1) fun u s2 ⟨y, H2, I2, r2, q2⟩ =>
    thn (ho pins s2 σ H2 x y v u _ I2 r1 r2 q2) fun c s3 ⟨z, H3, I3, r3, k, e, q3⟩ => ?_) hm
  subst e
  cases r3
  exact wpAny_truthy_bool ⟨H3, I3, q3⟩
def tChain (r r' : R2) (ta tb tc : TE) : TE := fun σ H Q => ta σ H fun x H1 => tb σ H1 fun y H2 => r x y H2 fun z H3 => ∃ k, z = .bl k ∧
  (if k = true then tc σ H3 fun w' H4 => r' y w' H4 Q else Q (.bl false) H3)
theorem pt_chain {op op' : CmpOp} {r r' : R2} (ho : OpR X (compareOp op) r) (ho' : OpR X (compareOp op') r') (ha : PE X a ta) (hb : PE X b tb) (hc : PE X c tc)
    (hm : lastMarks [op, op'] [b, c] = false := by with_unfolding_all rfl) : PT X (.Compare a [op, op'] [b, c] pos) (tTest (tChain r r' ta tb tc)) := by
  intro pins s σ H Q I h
  refine isTrue_chain (thn (ha pins s σ H _ I h) fun v s1 ⟨x, H1, I1, r1, q1⟩ => test_link (thn (hb pins s1 σ H1 _ I1 q1) fun u s2 ⟨y, H2, I2, r2, q2⟩ =>
    thn (ho pins s2 σ H2 x y v u _ I2 r1 r2 q2) fun d s3 ⟨z, H3, I3, r3, k, e, q3⟩ => ?_)) hm
  subst e
  cases r3
  refine wpAny_truthy_bool ?_
  cases k with
  | false =>
    obtain ⟨k', e', q'⟩ := q3
    cases e'
    exact ite_ff ⟨H3, I3, q'⟩
  | true =>
    refine ite_tt (test_last (thn (hc pins s3 σ H3 _ I3 q3) fun w' s4 ⟨z', H4, I4, r4, q4⟩ => thn (ho' pins s4 σ H4 y z' u w' _ I4 r2 r4 q4) fun d' s5 ⟨z2, H5, I5, r5, k2, e2, q5⟩ => ?_))
    subst e2
    cases r5
    exact wpAny_truthy_bool ⟨H5, I5, q5⟩

theorem line63 : (sizeLine : Nat) < 2 ^ 63 := by rw [sizeLine_eq]; decide
theorem vals1 {x : V} {us : List Value} (r : Vals [x] us) : ∃ u, us = [u] ∧ RelV x u := by
  cases r with
  | cons r1 r2 => cases r2; exact ⟨_, rfl, r1⟩
theorem vals2 {x y : V} {us : List Value} (r : Vals [x, y] us) : ∃ u w', us = [u, w'] ∧ RelV x u ∧ RelV y w' := by
  cases r with
  | cons r1 r2 =>
    cases r2 with
    | cons r3 r4 => cases r4; exact ⟨_, _, rfl, r1, r3⟩
theorem call_min2 (hc : X.calm = true) : CallR X (.builtin "min") (fun xs H Q => ∃ i j, xs = [.int i, .int j] ∧ Q (.int (if j < i then j else i)) H) := by
  intro pins s σ H xs us Q I r h
  obtain ⟨i, j, rfl, q⟩ := h
  obtain ⟨u, w', rfl, ⟨t, rfl⟩, ⟨t', rfl⟩⟩ := vals2 r
  refine min_two_ints (I.ok.hd hc) fun h' tk k => ⟨_, H, I.kept k, ?_, q⟩
  by_cases hj : j < i
  · rw [if_pos hj, if_pos hj]; exact ⟨_, rfl⟩
  · rw [if_neg hj, if_neg hj]; exact ⟨_, rfl⟩
end
end L2

namespace L2
open PySem PySem.Spec PyProof.Rows

structure ObjM (h : Heap) (x dx C : Addr) (mA : Str → Option Value) : Prop where
  obj : h.get? x = some (PySem.W.instObj C dx)
  ns : h.Ns1 dx mA
  ne : dx ≠ x

section
variable {prog : Program} {w : World} {A : Around} {E : Value → Shared → Prop} {s : Shared} {K : PySem.W.Frag} {x dx C f : Addr} {mA : Str → Option Value} {name : Str} {v : Value}

end

theorem RelO.some_of {v : V} {o : Option Value} (r : RelO (some v) o) : ∃ u, o = some u ∧ RelV v u := by
  cases o with
  | none => exact (show False from r).elim
  | some u => exact ⟨u, rfl, r⟩
theorem RelO.none_of {o : Option Value} (r : RelO none o) : o = none := by
  cases o with
  | none => rfl
  | some u => exact (show False from r).elim
section
variable {P : Program} {w : World} {H H' : Hp} {h h' : Heap} {a C dx : Addr} {fs fs' : List (Str × V)}
end

structure Cls (K : PySem.W.Frag) (C : Addr) : Prop where
  pg : PySem.W.plainGet K C Str.empty = true
  hd : PySem.W.hasDictIn K C = true
  po : PySem.W.plainOver K C = true
  sa : PySem.W.findIn K (.ref C) "__setattr__" = some (some (.builtin "object.__setattr__"))
structure Con (K : PySem.W.Frag) (C : Addr) (f : Str) (v : V) (u : Value) : Prop where
  at_ : PySem.W.findIn K (.ref C) f = some (some u)
  rel : RelV v u
  get : PySem.W.specialIn K u "__get__" = some none
  cp : PySem.W.copiedNames.contains f = false
structure Meth (K : PySem.W.Frag) (C : Addr) (m : Str) (f : Addr) : Prop where
  at_ : PySem.W.findIn K (.ref C) m = some (some (.ref f))
  fn : PySem.W.isFn K (.ref f) = true
  kp : PySem.W.keepIn K (.ref f) = true

section
variable {X : Cx} {pins : List (Addr × Obj)} {σ : St} {H : Hp} {s : Shared} {a C dx : Addr} {fs : List (Str × V)} {f : Str} {v : V} {A : Around} {E : Value → Shared → Prop}

end

section
variable {X : Cx} {o e value : Expr} {f : Str} {pos pos' tpos : Pos} {ta tv : TE}
end

section
variable {X : Cx} {pins : List (Addr × Obj)} {σ : St} {H : Hp} {s : Shared} {A : Around} {E : Value → Shared → Prop} {Q : Value → Shared → Prop} {c : Value} {b : Bool}
inductive TyOf (K : PySem.W.Frag) (H : Hp) : V → Value → Prop where
  | non : TyOf K H .non (.type "NoneType")
  | bl (x : Bool) : TyOf K H (.bl x) (.type "bool")
  | int (i : Int) : TyOf K H (.int i) (.type "int")
  | str (x : Str) : TyOf K H (.str x) (.type "str")
  | flt (x : UInt64) : TyOf K H (.flt x) (.type "float")
  | lst {a : Addr} {xs : List V} (e : H a = some (.lst xs)) : TyOf K H (.ref a) (.type "list")
  | frz {a : Addr} {o : Obj} {xs : List V} (e : H a = some (.frz o (.lst xs))) : TyOf K H (.ref a) (.type "list")
  | tup {a : Addr} {xs : List V} (e : H a = some (.tup xs)) : TyOf K H (.ref a) (.type "tuple")
  | dK {a : Addr} {kvs : List (Key × V)} (e : H a = some (.dK kvs)) : TyOf K H (.ref a) (.type "dict")
  | dT {a : Addr} {kvs : List (List Key × V)} (e : H a = some (.dT kvs)) : TyOf K H (.ref a) (.type "dict")
  | ins {a C dx : Addr} {fs : List (Str × V)} (e : H a = some (.ins C dx fs)) (cl : Cls K C) (ha : PySem.W.findIn K (.ref C) "__class__" = some (some (.builtin "object.__class__")))
      (hn : PySem.W.specialIn K (.builtin "object.__class__") "__get__" = some (some (.builtin "getset_descriptor.__get__"))) (htk : PySem.W.takesIn K (.builtin "object.__class__") = some true)
      (hm : PySem.W.mroIn K C (.type "object") = some true) : TyOf K H (.ref a) (.ref C)
end
end L2

namespace L2
open PySem PySem.Spec PyProof.Rows

structure Room (k : Nat) (A : Around) : Prop where
  hd : A.handled = none
  dp : A.depth + 3 * k + 5 < recursionLimit
  un : A.units + 16 * k + 200 < cLine
theorem Room.mono {j k : Nat} {A : Around} (r : Room k A) (h : j ≤ k) : Room j A := ⟨r.hd, by have := r.dp; omega, by have := r.un; omega⟩
theorem Room.deeper {k : Nat} {A : Around} (r : Room (k + 1) A) (env : Env) : Room k (A.deeper env) :=
  ⟨r.hd, by have := r.dp; show A.depth + 1 + 3 * k + 5 < _; omega, by have := r.un; show A.units + 3 + 16 * k + 200 < _; omega⟩
theorem Room.depth {k : Nat} {A : Around} (r : Room k A) : A.depth < recursionLimit := by have := r.dp; omega
theorem Room.units {k : Nat} {A : Around} (r : Room k A) : A.units + 64 < cLine := by have := r.un; omega
def tNil : TA := fun _ H Q => Q [] H
def tCons (ta : TE) (tr : TA) : TA := fun σ H Q => ta σ H fun x H1 => tr σ H1 fun xs H2 => Q (x :: xs) H2
section
variable {X : Cx} {e : Expr} {es : List Expr} {te : TE} {t : TA} {pos : Pos}
theorem pa_nil : PA X [] tNil := fun _ _ _ _ H Q I h => Calls.spliced_nil ⟨[], H, I, .nil, h⟩
theorem pa_cons (ha : PE X e te) (hr : PA X es t) (hs : starEach (e :: es) X.env = (false, eval e X.env) :: starEach es X.env := by rfl) : PA X (e :: es) (tCons te t) := by
  intro pos pins s σ H Q I h
  rw [hs]
  show wpAny _ _ (spliced ((false, eval e X.env) :: backTo pos (starEach es X.env))) _ _ s
  refine Calls.spliced_cons (thn (ha pins s σ H _ I h) fun u s1 ⟨x, H1, I1, r1, q1⟩ => ?_)
  exact thn (hr pos pins s1 σ H1 _ I1 q1) fun us s2 ⟨xs, H2, I2, r2, q2⟩ => ⟨x :: xs, H2, I2, .cons r1 r2, q2⟩

def tTup (t : TA) : TE := fun σ H Q => t σ H fun xs H1 => xs.length ≤ sizeLine ∧ ∀ p, H1 p = none → Q (.ref p) (upd H1 p (.tup xs))
def tLst (t : TA) : TE := fun σ H Q => t σ H fun xs H1 => xs.length ≤ sizeLine ∧ ∀ p, H1 p = none → Q (.ref p) (upd H1 p (.lst xs))
theorem pe_tup {x1} (h : PA X es t) : PE X (.Tuple es x1 pos) (tTup t) := by
  intro pins s σ H Q I hq
  refine wpAny_Tuple_spliced (thn (h pos pins s σ H _ I hq) fun us s1 ⟨xs, H1, I1, r, z, q⟩ => ⟨by rw [← r.length]; exact z, ?_⟩)
  have hf : H1 s1.heap.objs.size = none := I1.hok.fresh (Nat.le_refl _)
  refine ⟨.ref s1.heap.objs.size, upd H1 s1.heap.objs.size (.tup xs), I1.laid (t' := s1.toks) (fun b u e => Heap.get?_push_of_some _ e) (Nat.le_refl _) ?_, rfl, q _ hf⟩
  exact ⟨z, us, r, ⟨_, Heap.get?_push_size _ rfl, rfl, _, rfl⟩, _, Heap.get?_push_size _ rfl, rfl⟩
theorem pe_lst (h : PA X es t) : PE X (.List es pos) (tLst t) := by
  intro pins s σ H Q I hq
  refine wpAny_List_spliced (thn (h pos pins s σ H _ I hq) fun us s1 ⟨xs, H1, I1, r, z, q⟩ => ⟨by rw [← r.length]; exact z, ?_⟩)
  have hf : H1 s1.heap.objs.size = none := I1.hok.fresh (Nat.le_refl _)
  refine ⟨.ref s1.heap.objs.size, upd H1 s1.heap.objs.size (.lst xs), I1.laid (t' := s1.toks) (fun b u e => Heap.get?_push_of_some _ e) (Nat.le_refl _) ?_, rfl, q _ hf⟩
  exact ⟨z, us, 0, r, Heap.get?_push_size _ rfl⟩
end

abbrev Sp := List V → Hp → VK → XK → Prop
abbrev CXT := List Env → Hp → Shared → XK → Value → Shared → Prop

structure Env0 (P : Program) (w : World) (K : PySem.W.Frag) (mg : Str → Option Value) (base : Heap) (A : Around) (outer : List Env) (s : Shared) (H : Hp) : Prop where
  frames : A.frames = some outer
  mod : Mod K mg base
  bs : ∀ b o, base.get? b = some o → s.heap.get? b = some o ∧ H b = none
  bsz : base.objs.size ≤ s.heap.objs.size
  funs : s.heap.FunFrames base outer
  frf : ∀ b ∈ frs outer, H b = none
  hok : HOk P w H s.heap
  bare : AllBare s.gens
def CE (outer : List Env) (P : Program) (w : World) (H : Hp) (s : Shared) (Q : VK) (u : Value) (s' : Shared) : Prop :=
  ∃ v H', s'.os = s.os ∧ AllBare s'.gens ∧ Un (frs outer) [] H H' s.heap s'.heap ∧ HOk P w H' s'.heap ∧ RelV v u ∧ Q v H'
def CR (CX : CXT) (outer : List Env) (P : Program) (w : World) (H : Hp) (s : Shared) (Q : VK) (E : XK) (r : Result) (s' : Shared) : Prop :=
  match r with
  | .ok (.ret u) => CE outer P w H s Q u s'
  | .ok _ => False
  | .error e => CX outer H s E e s'
structure FnOk (P : Program) (w : World) (K : PySem.W.Frag) (mg : Str → Option Value) (base : Heap) (CX : CXT) (k : Nat) (f : Addr) (fd : FuncData) (ps : List Str) (sp : Sp) : Prop where
  len : ∀ vs H Q E, sp vs H Q E → vs.length = ps.length
  run : ∀ (A : Around) (outer : List Env) (s : Shared) (H : Hp) (args : Args) (us : List Value) (vs : List V) (Q : VK) (E : XK), Room k A → Env0 P w K mg base A outer s H → BindsTo s fd args (ps.zip us) → Vals vs us → sp vs H Q E →
    codeAny (model P w) A (.call (.ref f) args) (CR CX outer P w H s Q E) s
section
variable {X : Cx} {pins : List (Addr × Obj)} {σ : St} {H : Hp} {s s' : Shared}
theorem Inv.env0 (I : Inv X pins σ H s) : Env0 X.prog X.w X.K X.mg X.base X.A X.stack s H :=
  ⟨I.ok.frames, I.ok.mod, I.bs, Nat.le_trans I.ok.bsz I.sz, I.stack, I.stkFree, I.hok, I.bare⟩
theorem Inv.after {Q : VK} {u : Value} (I : Inv X pins σ H s) (h : CE X.stack X.prog X.w H s Q u s') : EP X pins σ Q u s' := by
  obtain ⟨v, H', os, bare, un, hok, r, q⟩ := h
  obtain ⟨hh, g, d, t, os'⟩ := s'
  obtain rfl : os' = s.os := os
  exact ⟨v, H', I.call (h' := hh) (g' := g) (d' := d) (t' := t) (ch := []) un hok bare (fun b z => absurd z (by simp)), r, q⟩
end

def tCall (sp : Sp) (dvs : List V) (E : XK) (t : TA) : TE := fun σ H Q => t σ H fun vs H1 => sp (vs ++ dvs) H1 Q E
def Binds (K : PySem.W.Frag) (fd : FuncData) (ps : List Str) (ds : List Value) : Prop :=
  ∀ (s : Shared) (us : List Value), K.In s.heap → (us ++ ds).length = ps.length → BindsTo s fd ⟨us, []⟩ (ps.zip (us ++ ds))
theorem Binds.all {K : PySem.W.Frag} {fd : FuncData} {ps : List Str} (h : ∀ us : List Value, us.length = ps.length → bindArgs fd ⟨us, []⟩ = pure (ps.zip us)) : Binds K fd ps [] := fun s us _ hl => by
  rw [List.append_nil] at hl ⊢
  exact .of_eq (h us hl)

def Passes (CX : CXT) (X : Cx) (E : XK) : Prop := ∀ (pins : List (Addr × Obj)) (σ : St) (H : Hp) (s : Shared) (e : Value) (s' : Shared), Inv X pins σ H s → CX X.stack H s E e s' → X.xe e s'

section
variable {X : Cx} {CX : CXT} {k : Nat} {f C : Addr} {fd : FuncData} {ps : List Str} {sp : Sp} {dvs : List V} {ds : List Value} {E : XK} {x m : Str} {p pos apos : Pos} {e o : Expr} {es : List Expr} {ta : TE} {t : TA}

theorem run_fn {pins : List (Addr × Obj)} {σ : St} {H : Hp} {s : Shared} {Q : VK} {us : List Value} {vs : List V} (F : FnOk X.prog X.w X.K X.mg X.base CX k f fd ps sp) (hr : Room k X.A) (hb : Binds X.K fd ps ds) (hd : Vals dvs ds) (hx : Passes CX X E)
    (I : Inv X pins σ H s) (r : Vals vs us) (h : sp (vs ++ dvs) H Q E) : wpAny (model X.prog X.w) X.A (call (.ref f) us) (EP X pins σ Q) X.xe s := by
  have r2 : Vals (vs ++ dvs) (us ++ ds) := r.append hd
  have hl : (us ++ ds).length = ps.length := by rw [← r2.length]; exact F.len _ _ _ _ h
  refine wpAny_call (codeAny_mono (F.run X.A X.stack s H ⟨us, []⟩ (us ++ ds) (vs ++ dvs) Q E hr I.env0 (hb s us I.kIn hl) r2 h) fun r s' hq => ?_)
  cases r with
  | error e => exact hx pins σ H s e s' I hq
  | ok fl =>
    cases fl with
    | ret u => exact I.after hq
    | next => exact False.elim hq
    | brk => exact False.elim hq
    | cont => exact False.elim hq

theorem pe_call (F : FnOk X.prog X.w X.K X.mg X.base CX k f fd ps sp) (hr : Room k X.A) (hg : Gl X x) (hm : X.mg x = some (.ref f)) (hk : PySem.W.keepIn X.K (.ref f) = true) (hb : Binds X.K fd ps ds) (hd : Vals dvs ds) (hx : Passes CX X E)
    (ha : PA X (e :: es) t) (hdb : (x == ("__debug__" : Str)) = false := by decide) (he : starEach (e :: es) X.env = (false, eval e X.env) :: starEach es X.env := by rfl) (hpl : (backTo pos (starEach es X.env)).any (·.1) = false := by rfl) :
    PE X (.Call (.Name x p) (e :: es) [] pos) (tCall sp dvs E t) := by
  intro pins s σ H Q I h
  refine wpAny_Call_Name_kw (ld_glob I hg hm ?_ hdb)
  refine PySem.W.callWith_K (h₀ := X.base) I.ok.mod.kin hk (thn (ha pos pins s σ H _ I h) fun us s1 ⟨vs, H1, I1, r, q⟩ => ⟨I1.kIn, ?_⟩) he hpl
  exact run_fn F hr hb hd hx I1 r q
structure Mk (K : PySem.W.Frag) (C f : Addr) : Prop where
  makes : PySem.W.makesIn K C = true
  init : PySem.W.findIn K (.ref C) "__init__" = some (some (.ref f))
  fn : PySem.W.isFn K (.ref f) = true
  kp : PySem.W.keepIn K (.ref C) = true

end

section
variable {X : Cx} {CX : CXT} {k : Nat} {f C : Addr} {fd : FuncData} {ps ks : List Str} {sp : Sp} {E : XK} {x m : Str} {p pos apos kpos : Pos} {e o : Expr} {es : List Expr} {kws : List Keyword} {te ta : TE} {t tk : TA} {nm : Option Str}
structure KBinds (K : PySem.W.Frag) (fd : FuncData) (ps ks : List Str) (g : List Value → List Value → List Value) (gV : List V → List V → List V) : Prop where
  to : ∀ (s : Shared) (us ws : List Value), K.In s.heap → (g us ws).length = ps.length → BindsTo s fd ⟨us, ks.zip ws⟩ (ps.zip (g us ws))
  rel : ∀ {vs : List V} {us : List Value} {zs : List V} {ws : List Value}, Vals vs us → Vals zs ws → Vals (gV vs zs) (g us ws)
variable {g : List Value → List Value → List Value} {gV : List V → List V → List V}
end

structure FnScope (N P : List Str) (sc : Scope) : Prop where
  kind : sc.kind = .function
  co : sc.isCoroutine = false
  gen : sc.isGenerator = false
  nd : N.Nodup
  pre : N.take P.length = P
  par : ∀ x ∈ P, sc.names.lookup x = some .local ∨ sc.names.lookup x = some .cell
  nofree : ∀ y ∈ sc.names, y.2 ≠ .free

theorem bindL_out {kindOf : Str → Option NameKind} {x : Str} : ∀ {binds : List (Str × Value)} {m : Str → Option Value}, (∀ v, (x, v) ∉ binds) → bindL kindOf binds m x = m x
  | [], _, _ => rfl
  | (n, v) :: r, m, h => by
    unfold bindL
    rw [bindL_out fun w hw => h w (List.mem_cons_of_mem _ hw)]
    split
    · have : x ≠ n := by rintro rfl; exact h v List.mem_cons_self
      simp [this]
    · rfl
theorem bindC_out {kindOf : Str → Option NameKind} {x : Str} : ∀ {binds : List (Str × Value)} {m : Str → Option Value}, (∀ v, (x, v) ∉ binds) → bindC kindOf binds m x = m x
  | [], _, _ => rfl
  | (n, v) :: r, m, h => by
    unfold bindC
    rw [bindC_out fun w hw => h w (List.mem_cons_of_mem _ hw)]
    split
    · rfl
    · have : x ≠ n := by rintro rfl; exact h v List.mem_cons_self
      simp [this]
theorem bindL_get {kindOf : Str → Option NameKind} {x : Str} {v : Value} : ∀ {P : List Str} {vs : List Value} {i : Nat} {m : Str → Option Value}, P.Nodup → P[i]? = some x → vs[i]? = some v → kindOf x = some .local →
    bindL kindOf (P.zip vs) m x = some v
  | [], _, _, _, _, h, _, _ => by simp at h
  | _ :: _, [], _, _, _, _, h, _ => by simp at h
  | p :: P, w :: vs, 0, m, nd, h1, h2, hk => by
    simp at h1 h2; subst h1; subst h2
    show bindL kindOf ((p, w) :: P.zip vs) m p = _
    unfold bindL
    rw [bindL_out fun v hv => (List.nodup_cons.mp nd).1 (List.of_mem_zip hv).1, if_pos hk]
    simp
  | p :: P, w :: vs, i + 1, m, nd, h1, h2, hk => by
    show bindL kindOf ((p, w) :: P.zip vs) m x = _
    unfold bindL
    exact bindL_get (i := i) (List.nodup_cons.mp nd).2 (by simpa using h1) (by simpa using h2) hk
theorem bindC_get {kindOf : Str → Option NameKind} {x : Str} {v : Value} : ∀ {P : List Str} {vs : List Value} {i : Nat} {m : Str → Option Value}, P.Nodup → P[i]? = some x → vs[i]? = some v → kindOf x ≠ some .local →
    bindC kindOf (P.zip vs) m x = some v
  | [], _, _, _, _, h, _, _ => by simp at h
  | _ :: _, [], _, _, _, _, h, _ => by simp at h
  | p :: P, w :: vs, 0, m, nd, h1, h2, hk => by
    simp at h1 h2; subst h1; subst h2
    show bindC kindOf ((p, w) :: P.zip vs) m p = _
    unfold bindC
    rw [bindC_out fun v hv => (List.nodup_cons.mp nd).1 (List.of_mem_zip hv).1, if_neg hk]
    simp
  | p :: P, w :: vs, i + 1, m, nd, h1, h2, hk => by
    show bindC kindOf ((p, w) :: P.zip vs) m x = _
    unfold bindC
    exact bindC_get (i := i) (List.nodup_cons.mp nd).2 (by simpa using h1) (by simpa using h2) hk

def start (N : List Str) (vs : List V) : St := vs.map some ++ List.replicate (N.length - vs.length) none

def cxOf (CX : CXT) (P : Program) (w : World) (K : PySem.W.Frag) (mg : Str → Option Value) (base : Heap) (N : List Str) (qual : Str) (scope : Scope) (f : Addr) (cd : Value) (A : Around) (outer : List Env) (s : Shared) (H : Hp) (E : XK) : Cx where
  prog := P
  w := w
  K := K
  mg := mg
  base := base
  A := A.deeper (envOfC qual scope s.heap.objs.size f cd)
  N := N
  s₀ := s
  H₀ := H
  env := envOfC qual scope s.heap.objs.size f cd
  outer := outer
  stack := envOfC qual scope s.heap.objs.size f cd :: outer
  ex := []
  calm := true
  fn := fun _ => true
  pn := []
  xe := fun e s' => wpAny (model P w) (A.deeper (envOfC qual scope s.heap.objs.size f cd)) (leaving (envOfC qual scope s.heap.objs.size f cd) e) (fun _ s'' => CX outer H s E e s'') (fun e' s'' => CX outer H s E e' s'') s'

theorem cell_has {sc : Scope} {n : Nat} {x : Str} (h : sc.names.lookup x = some .cell) : ∃ c, (cellsFrom n sc.names []).lookup x = some c := by
  have q := PySem.W.cellsFrom_some sc.names n [] (.inl h)
  exact Option.isSome_iff_exists.mp q

theorem inv_start {CX : CXT} {P : Program} {w : World} {K : PySem.W.Frag} {mg : Str → Option Value} {base : Heap} {N ps : List Str} {qual : Str} {scope : Scope} {f : Addr} {cd : Value} {A : Around} {outer : List Env} {s s1 : Shared} {H : Hp} {E : XK} {us : List Value} {vs : List V}
    (S : FnScope N ps scope) (hd : A.handled = none) (e0 : Env0 P w K mg base A outer s H) (hl : vs.length = ps.length) (r : Vals vs us)
    (x : InCallC s s.heap.objs.size (bindL (envOfC qual scope s.heap.objs.size f cd).kindOf (ps.zip us) fun _ => none) (cellsFrom (s.heap.objs.size + 1) scope.names []) (bindC (envOfC qual scope s.heap.objs.size f cd).kindOf (ps.zip us) fun _ => none) s1) :
    Inv (cxOf CX P w K mg base N qual scope f cd A outer s H E) [] (start N vs) H s1 := by
  have hpl : ps.length ≤ N.length := by have := congrArg List.length S.pre; rw [List.length_take] at this; omega
  obtain ⟨h1, tk, rfl, hk⟩ := x.done
  have noA : ∀ b : Addr, b ∉ (cxOf CX P w K mg base N qual scope f cd A outer s H E).ex := fun b z => absurd (show b ∈ ([] : List Addr) from z) (by simp)
  refine ⟨⟨e0.mod, S.kind, rfl, rfl, Nat.le_refl _, fun y z c h1 h2 => ?_, fun y hy => ?_, fun y c _ h => ?_, fun _ => hd, Around.frames_deeper e0.frames, .inr ⟨rfl, rfl⟩, fun b z => absurd z (noA b), e0.bs, e0.bsz, fun b _ _ => noA b, fun b z => absurd z (noA b), e0.funs, e0.frf⟩,
    rfl, e0.bare, Un.kept hk, ⟨_, x.toInCall.ns, fun i y v h1 h2 h3 => ?_⟩, fun y c h => ⟨_, x.cell y c h⟩, e0.hok.fresh (Nat.le_refl _), fun y c h => ?_, fun p hp => absurd (show p ∈ ([] : List (Addr × Obj)) from hp) (by simp), e0.hok.kept hk, ?_⟩
  · exact name_of_addr x.apart (PySem.mem_of_lookup h1) (PySem.mem_of_lookup h2)
  · have hy : scope.names.lookup y = some .cell ∨ scope.names.lookup y = some .free := hy
    rcases hy with hy | hy
    · exact cell_has hy
    · exact absurd rfl (S.nofree _ (PySem.mem_of_lookup hy))
  · exact Nat.le_of_lt (x.above y c (PySem.mem_of_lookup h))
  · have hi : i < vs.length := by
      unfold start at h2
      by_cases hi : i < vs.length
      · exact hi
      · rw [List.getElem?_append_right (by simpa using hi)] at h2
        rw [List.getElem?_replicate] at h2
        split at h2 <;> cases h2
    have ha : vs[i]? = some v := by
      unfold start at h2
      rw [List.getElem?_append_left (by simpa using hi), List.getElem?_map] at h2
      cases e : vs[i]? with
      | none => rw [e] at h2; cases h2
      | some a => rw [e] at h2; cases h2; rfl
    obtain ⟨u, hu, rv⟩ := r.get ha
    have hp : ps[i]? = some y := by
      rw [← S.pre, List.getElem?_take_of_lt (by omega)]; exact h1
    have ndP : ps.Nodup := by rw [← S.pre]; exact S.nd.sublist (List.take_sublist _ _)
    refine ⟨u, rv, ?_⟩
    rcases S.par y (List.mem_of_getElem? hp) with k | k
    · exact .inl ⟨k, bindL_get ndP hp hu k⟩
    · obtain ⟨c, e⟩ := cell_has (n := s.heap.objs.size + 1) k
      refine .inr ⟨.inl k, c, e, ?_⟩
      have q := x.cell y c e
      rw [bindC_get ndP hp hu (by show scope.names.lookup y ≠ _; rw [k]; decide)] at q
      exact q
  · exact e0.hok.fresh (Nat.le_of_lt (x.above y c (PySem.mem_of_lookup h)))
  · unfold start
    show _ = N.length
    rw [List.length_append, List.length_map, List.length_replicate]
    omega

theorem fn_of {CX : CXT} {P : Program} {w : World} {K : PySem.W.Frag} {mg : Str → Option Value} {base : Heap} {k : Nat} {f : Addr} {name qual : Str} {params : Arguments} {body : List Stmt} {scope : Scope} {dV kV doc pm cdv ct oc : Value} {an od : Option Addr}
    {osl : Array (Option Value)} {N ps : List Str} {sp : Sp} (lk : K.lookup f = some ⟨oc, od, .func (PySem.W.fnOf name qual params body scope dV kV doc pm an cdv ct), osl⟩) (hcd : PySem.W.codeIn K cdv qual = true) (S : FnScope N ps scope)
    (len : ∀ vs H Q E, sp vs H Q E → vs.length = ps.length)
    (hbody : ∀ (A : Around) (outer : List Env) (s : Shared) (H : Hp) (vs : List V) (Q : VK) (E : XK), Room k (A.deeper (envOfC qual scope s.heap.objs.size f cdv)) → sp vs H Q E →
      ∃ t, PSs (cxOf CX P w K mg base N qual scope f cdv A outer s H E) body t ∧ t { nx := fun _ H' => Q .non H', rt := Q } (start N vs) H) :
    FnOk P w K mg base CX (k + 1) f (PySem.W.fnOf name qual params body scope dV kV doc pm an cdv ct) ps sp := by
  refine ⟨len, fun A outer s H args us vs Q E hr e0 hb r hsp => ?_⟩
  have hl := len _ _ _ _ hsp
  have KX : K.In s.heap := e0.mod.kin.keeps fun b o e => (e0.bs b o e).1
  have lim : s.heap.NoLimit := e0.mod.nolimit.keeps fun b o e => (e0.bs b o e).1
  have hkind : ∀ y ∈ ps.zip us, scope.names.lookup y.1 = some .local ∨ (scope.names.lookup y.1 = some .cell ∧ ((cellsFrom (s.heap.objs.size + 1) scope.names []).lookup y.1).isSome = true) := fun ⟨n, v⟩ hy => by
    rcases S.par n (List.of_mem_zip hy).1 with q | q
    · exact .inl q
    · exact .inr ⟨q, PySem.W.cellsFrom_some _ _ _ (.inl q)⟩
  refine codeAny_call_function hr.depth (KX _ _ lk) rfl S.co S.gen rfl (PySem.W.codeRec_of KX hcd) (hb _ _ _ _ ?_)
  refine wpAny_newFunctionEnv_cells S.kind hkind fun env he s1 x => ?_
  subst he
  refine ⟨lim.keeps x.toInCall.keep, codeAny_func ?_⟩
  obtain ⟨t, ht, hq⟩ := hbody A outer s H vs Q E (hr.deeper _) hsp
  have I : Inv (cxOf CX P w K mg base N qual scope f cdv A outer s H E) [] (start N vs) H s1 := inv_start S hr.hd e0 hl r x
  refine wpAny_mono (ht [] s1 (start N vs) H _ I hq) (fun fl s' hs => ?_) fun e s' hs => hs
  have fin : ∀ {σ' : St} {H' : Hp} {v : V} {u : Value}, Inv (cxOf CX P w K mg base N qual scope f cdv A outer s H E) [] σ' H' s' → RelV v u → Q v H' → CE outer P w H s Q u s' :=
    fun {σ' H' v u} J rv q => ⟨v, H', J.os, J.bare, J.base, J.hok, rv, q⟩
  cases fl with
  | ret u =>
    obtain ⟨v, σ', H', J, rv, q⟩ := hs
    exact fin J rv q
  | next =>
    obtain ⟨σ', H', J, q⟩ := hs
    exact fin (v := V.non) (u := Value.none) J rfl q
  | brk =>
    obtain ⟨_, _, _, q⟩ := hs
    exact False.elim q
  | cont =>
    obtain ⟨_, _, _, q⟩ := hs
    exact False.elim q
end L2

namespace L2
open PySem PySem.Spec PyProof.Rows
section
variable {X : Cx} {x : Str} {p pos : Pos} {e : Expr} {es : List Expr} {t : TA} {id T : String} {r : List V → Hp → VK → Prop}

def tCB (r : List V → Hp → VK → Prop) (t : TA) : TE := fun σ H Q => t σ H fun vs H1 => r vs H1 Q
theorem pe_callB (hc : CallR X (.builtin id) r) (hg : Gl X x) (hm : X.mg x = none) (hv : bootBuiltins x = some (.builtin id)) (ha : PA X (e :: es) t) (hn : x ≠ "__name__" := by decide) (hdb : (x == ("__debug__" : Str)) = false := by decide)
    (he : starEach (e :: es) X.env = (false, eval e X.env) :: starEach es X.env := by rfl) (hpl : (backTo pos (starEach es X.env)).any (·.1) = false := by rfl) : PE X (.Call (.Name x p) (e :: es) [] pos) (tCB r t) := by
  intro pins s σ H Q I h
  refine wpAny_Call_Name_kw (ld_blt I hg hm hv ?_ hn hdb)
  exact PyProof.Rows.callWith_builtin1 (thn (ha pos pins s σ H _ I h) fun us s1 ⟨vs, H1, I1, r1, q1⟩ => hc pins s1 σ H1 vs us Q I1 r1 q1) he hpl
theorem pe_callTy (hc : CallR X (.type T) r) (hg : Gl X x) (hm : X.mg x = none) (hv : bootBuiltins x = some (.type T)) (ha : PA X (e :: es) t) (hn : x ≠ "__name__" := by decide) (hdb : (x == ("__debug__" : Str)) = false := by decide)
    (he : starEach (e :: es) X.env = (false, eval e X.env) :: starEach es X.env := by rfl) (hpl : (backTo pos (starEach es X.env)).any (·.1) = false := by rfl) : PE X (.Call (.Name x p) (e :: es) [] pos) (tCB r t) := by
  intro pins s σ H Q I h
  refine wpAny_Call_Name_kw (ld_blt I hg hm hv ?_ hn hdb)
  exact PyProof.Rows.callWith_type1 (thn (ha pos pins s σ H _ I h) fun us s1 ⟨vs, H1, I1, r1, q1⟩ => hc pins s1 σ H1 vs us Q I1 r1 q1) he hpl
end
end L2

namespace HT
open PySem PyProof.Rows

section
open PySem.SeqAt
open PySem.AutoSeq1 (wpAny_loadPart')
open PySem.MeetsSeq PySem.MeetsSeq2 PySem.MeetsSeq3

end

section
variable {prog : Program} {w : World} {A : Around} {E : Value → Shared → Prop} {s : Shared}

def sIx (n d : Nat) : Option Int → Nat
  | none => d
  | some v => if v < 0 then (v + (n : Int)).toNat else min v.toNat n
theorem sIx_none (n d : Nat) : sIx n d none = d := rfl
theorem sIx_nat (n d k : Nat) : sIx n d (some (k : Int)) = min k n := by
  show (if (k : Int) < 0 then ((k : Int) + (n : Int)).toNat else min (k : Int).toNat n) = min k n
  rw [if_neg (by omega), Int.toNat_natCast]
end
end HT

namespace L2
open PySem PySem.Spec PyProof.Rows

abbrev TO := St → Hp → (Option Int → Hp → Prop) → Prop
def PO (X : Cx) (e : Option Expr) (t : TO) : Prop :=
  ∀ (pins : List (Addr × Obj)) (s : Shared) (σ : St) (H : Hp) (Q : Option Int → Hp → Prop), Inv X pins σ H s → t σ H Q →
    wpAny (model X.prog X.w) X.A (evalPart e X.env) (fun u s' => ∃ o H', Inv X pins σ H' s' ∧ IsPart u o ∧ Q o H') X.xe s
def tNoPart : TO := fun _ H Q => Q none H
def tPart (t : TE) : TO := fun σ H Q => t σ H fun x H1 => ∃ i, x = .int i ∧ Q (some i) H1

theorem intsAre_of {ns : List Int} : ∀ {us : List Value}, Vals (ns.map V.int) us → IntsAre us ns := by
  induction ns with
  | nil => intro us r; rw [List.map_nil] at r; cases r; exact .nil
  | cons n ns ih =>
    intro us r
    rw [List.map_cons] at r
    cases r with
    | cons r1 r2 =>
      obtain ⟨t, e⟩ := r1
      subst e
      exact .cons n t (ih r2)

section
variable {X : Cx} {e : Expr} {te : TE} {lo hi : Option Expr} {tl th : TO} {pos p2 : Pos}

theorem po_none : PO X none tNoPart := by
  intro pins s σ H Q I h
  rw [evalPart_none]
  exact wpAny_pure ⟨none, H, I, .none, h⟩
theorem po_some (h : PE X e te) : PO X (some e) (tPart te) := by
  intro pins s σ H Q I hw
  rw [evalPart_some]
  refine thn (h pins s σ H _ I hw) fun u s1 ⟨x, H1, I1, r1, q1⟩ => ?_
  obtain ⟨i, rfl, q⟩ := q1
  obtain ⟨t, rfl⟩ := r1
  exact ⟨some i, H1, I1, .int i t, q⟩

def SlR (X : Cx) (r : V → Option Int → Option Int → Hp → VK → Prop) : Prop :=
  ∀ (pins : List (Addr × Obj)) (s : Shared) (σ : St) (H : Hp) (x : V) (v vl vu : Value) (lo hi : Option Int) (sl : Addr) (Q : VK), Inv X pins σ H s → RelV x v → s.heap.IsSliceOf sl vl vu .none → IsPart vl lo → IsPart vu hi → r x lo hi H Q →
    ∃ T id, typeLookup (.type T) "__getitem__" = pure (some (.builtin id)) ∧ s.TypeIs v T ∧ wpAny (model X.prog X.w) X.A (getItem v (.ref sl)) (EP X pins σ Q) X.xe s
def tSl (r : V → Option Int → Option Int → Hp → VK → Prop) (te : TE) (tl th : TO) : TE := fun σ H Q => te σ H fun x H1 => tl σ H1 fun l H2 => th σ H2 fun u H3 => r x l u H3 Q
theorem pe_slice {r : V → Option Int → Option Int → Hp → VK → Prop} (hr : SlR X r) (he : PE X e te) (hl : PO X lo tl) (hu : PO X hi th) : PE X (.Subscript e (.Slice lo hi none p2) pos) (tSl r te tl th) := by
  intro pins s σ H Q I h
  refine Subscript_ (thn (he pins s σ H _ I h) fun v s1 ⟨x, H1, I1, r1, q1⟩ => ?_)
  refine wpAny_Slice (thn (hl pins s1 σ H1 _ I1 q1) fun vl s2 ⟨l, H2, I2, pl, q2⟩ => thn (hu pins s2 σ H2 _ I2 q2) fun vu s3 ⟨u, H3, I3, pu, q3⟩ => ?_)
  rw [evalPart_none]
  refine wpAny_pure ?_
  have I4 : Inv X pins σ H3 { s3 with heap := s3.heap.push { cls := .type "slice", data := .fields #[vl, vu, .none] } } := I3.kept (t' := s3.toks) fun b ob q => Heap.get?_push_of_some _ q
  obtain ⟨T, id, hT, ht, hg⟩ := hr pins { s3 with heap := s3.heap.push { cls := .type "slice", data := .fields #[vl, vu, .none] } } σ H3 x v vl vu l u s3.heap.objs.size Q I4 r1 (Heap.IsSliceOf.new ..) pl pu q3
  show wpAny (model X.prog X.w) X.A (subscriptTail e (.Slice lo hi none p2) v (.ref s3.heap.objs.size)) (EP X pins σ Q) X.xe { s3 with heap := s3.heap.push { cls := .type "slice", data := .fields #[vl, vu, .none] } }
  exact tail_any (ops := [.ref s3.heap.objs.size, v]) ht hT hg (by with_unfolding_all rfl)

def cutV (xs : List V) (lo hi : Option Int) : List V := (xs.drop (HT.sIx xs.length 0 lo)).take (HT.sIx xs.length xs.length hi - HT.sIx xs.length 0 lo)
theorem cutV_length (xs : List V) (lo hi : Option Int) : (cutV xs lo hi).length ≤ xs.length := by
  unfold cutV
  rw [List.length_take, List.length_drop]
  omega
end
end L2

namespace L2
open PySem PySem.Spec PyProof.Rows

def ixN (n : Nat) (i : Int) : Option Nat := if 0 ≤ i then (if i < n then some i.toNat else none) else if -(n : Int) ≤ i then some (i + n).toNat else none
def atI {α : Type} (xs : List α) (i : Int) : Option α := (ixN xs.length i).bind fun j => xs[j]?
theorem ixN_seq {n : Nat} {i : Int} {j : Nat} (h : ixN n i = some j) : seqIndex? i n = some j ∧ j < n ∧ -(n : Int) ≤ i ∧ i < n := by
  unfold ixN at h
  by_cases h0 : 0 ≤ i
  · rw [if_pos h0] at h
    by_cases h1 : i < n
    · rw [if_pos h1] at h
      have e : i.toNat = j := Option.some.inj h
      exact ⟨by rw [seqIndex_of h0 h1, e], by omega, by omega, h1⟩
    · rw [if_neg h1] at h; cases h
  · rw [if_neg h0] at h
    by_cases h1 : -(n : Int) ≤ i
    · rw [if_pos h1] at h
      have e : (i + n).toNat = j := Option.some.inj h
      exact ⟨by rw [seqIndex_neg (by omega) h1, e], by omega, h1, by omega⟩
    · rw [if_neg h1] at h; cases h
theorem atI_get {α : Type} {xs : List α} {i : Int} {v : α} (h : atI xs i = some v) : ∃ j, seqIndex? i xs.length = some j ∧ xs[j]? = some v ∧ j < xs.length ∧ -(xs.length : Int) ≤ i ∧ i < xs.length := by
  unfold atI at h
  cases e : ixN xs.length i with
  | none => rw [e] at h; cases h
  | some j =>
    rw [e] at h
    obtain ⟨h1, h2, h3, h4⟩ := ixN_seq e
    exact ⟨j, h1, h, h2, h3, h4⟩
theorem atI_nat {α : Type} {xs : List α} {j : Nat} {v : α} (h : xs[j]? = some v) : atI xs (j : Int) = some v := by
  have hj : j < xs.length := (List.getElem?_eq_some_iff.mp h).1
  have e : ixN xs.length (j : Int) = some j := by
    unfold ixN
    rw [if_pos (by omega), if_pos (by omega)]; simp
  unfold atI; rw [e]; exact h
def PlainIx (b : Expr) : Prop := ∀ o i, subscripted b false o i = operate [o, i] (getItem o i)
def IxR (X : Cx) (r : R2) : Prop :=
  ∀ (value slice : Expr) (pins : List (Addr × Obj)) (s : Shared) (σ : St) (H : Hp) (x y : V) (v u : Value) (Q : VK), Inv X pins σ H s → RelV x v → RelV y u → r x y H Q →
    subscripted slice false v u = operate [v, u] (getItem v u) → wpAny (model X.prog X.w) X.A (subscriptTail value slice v u) (EP X pins σ Q) X.xe s
def MtR (X : Cx) (id : String) (r : V → List V → Hp → VK → Prop) : Prop :=
  ∀ (pins : List (Addr × Obj)) (s : Shared) (σ : St) (H : Hp) (x : V) (xs : List V) (v : Value) (us : List Value) (Q : VK), Inv X pins σ H s → RelV x v → Vals xs us → r x xs H Q →
    wpAny (model X.prog X.w) X.A (call (.builtin id) (v :: us)) (EP X pins σ Q) X.xe s
section
variable {X : Cx} {a b : Expr} {ta tb : TE} {pos : Pos}
theorem pe_ix {r : R2} (hr : IxR X r) (ha : PE X a ta) (hb : PE X b tb) (hs : PlainIx b) : PE X (.Subscript a b pos) (tOp r ta tb) := by
  intro pins s σ H Q I h
  exact Subscript_ (binT ha hb I h fun v u s2 x y H2 I2 rx ry q => hr a b pins s2 σ H2 x y v u Q I2 rx ry q (hs _ _))

def rIxL (K : PySem.W.Frag) : R2 := fun x y H Q => ∃ p xs i v, x = .ref p ∧ y = .int i ∧ SqL K H p xs ∧ atI xs i = some v ∧ Q v H
def rIxT (K : PySem.W.Frag) : R2 := fun x y H Q => ∃ p xs i v, x = .ref p ∧ y = .int i ∧ SqT K H p xs ∧ atI xs i = some v ∧ Q v H
theorem ix_list : IxR X (rIxL X.K) := by
  intro value slice pins s σ H x y v u Q I rx ry h hs
  obtain ⟨p, xs, i, z, rfl, rfl, hq, he, q⟩ := h
  cases rx
  obtain ⟨t, rfl⟩ := ry
  obtain ⟨its, r, pl, hz⟩ := I.list hq
  obtain ⟨j, h1, h2, h3, h4, h5⟩ := atI_get he
  obtain ⟨w, ew, rw'⟩ := r.get h2
  have hl := r.length
  have hn := line63
  have fin : EP X pins σ Q w s := ⟨z, H, I, rw', q⟩
  by_cases h0 : 0 ≤ i
  · have hj : i.toNat = j := by
      rw [seqIndex_of h0 h5] at h1
      exact Option.some.inj h1
    exact item_listR pl.isList h0 (by omega) (by rw [hj]; simpa using ew) fin hs
  · have hj : (i + (its.toArray.size : Int)).toNat = j := by
      rw [seqIndex_neg (by omega) h4] at h1
      rw [List.size_toArray, ← hl]
      exact Option.some.inj h1
    exact subscriptTail_builtinR (x := w) pl.isList.typeIs slot_list_getitem.lookup
      (wpAny_getItem_list_neg (Q := fun r s' => r = w ∧ EP X pins σ Q r s') pl.isList (by omega) (by rw [List.size_toArray] <;> omega) (by omega) (by rw [hj]; simpa using ew) ⟨rfl, fin⟩) hs
theorem ix_tup : IxR X (rIxT X.K) := by
  intro value slice pins s σ H x y v u Q I rx ry h hs
  obtain ⟨p, xs, i, z, rfl, rfl, hq, he, q⟩ := h
  cases rx
  obtain ⟨t, rfl⟩ := ry
  obtain ⟨its, r, pl, hz⟩ := I.tuple hq
  obtain ⟨j, h1, h2, h3, h4, h5⟩ := atI_get he
  obtain ⟨w, ew, rw'⟩ := r.get h2
  have hl := r.length
  have hn := line63
  have fin : EP X pins σ Q w s := ⟨z, H, I, rw', q⟩
  exact subscriptTail_builtinR (x := w) pl.typeIs slot_tuple_getitem.lookup
    (getItem_tuple (j := j) (Q := fun r s' => r = w ∧ EP X pins σ Q r s') pl (by omega) (by omega) (by rw [List.size_toArray, ← hl]; exact h1) (by simpa using ew) ⟨rfl, fin⟩) hs
theorem mapSeq_set (its : List Value) (n j : Nat) (u : Value) : Obj.mapSeq (·.setIfInBounds j u) { cls := .type "list", data := .seq its.toArray n } = { cls := .type "list", data := .seq (its.set j u).toArray n } := by
  simp [Obj.mapSeq]
theorem Inv.lst {pins : List (Addr × Obj)} {σ : St} {H : Hp} {s : Shared} {p : Addr} {xs : List V} (I : Inv X pins σ H s) (h : H p = some (.lst xs)) :
    ∃ (its : List Value) (n : Nat), Vals xs its ∧ s.heap.get? p = some { cls := .type "list", data := .seq its.toArray n } ∧ xs.length ≤ sizeLine := by
  obtain ⟨z, its, n, r, e⟩ := I.hok p _ h
  exact ⟨its, n, r, e, z⟩
theorem Inv.lstUpd {pins : List (Addr × Obj)} {σ : St} {H : Hp} {s : Shared} {p : Addr} {xs ys : List V} {its its' : List Value} {n n' : Nat} {f : Obj → Obj} (I : Inv X pins σ H s) (h : H p = some (.lst xs))
    (ho : s.heap.get? p = some { cls := .type "list", data := .seq its.toArray n }) (hf : f { cls := .type "list", data := .seq its.toArray n } = { cls := .type "list", data := .seq its'.toArray n' }) (r : Vals ys its') (hz : ys.length ≤ sizeLine) (t : Nat) :
    Inv X pins σ (upd H p (.lst ys)) { s with heap := s.heap.update p f, toks := t } := by
  have e : (s.heap.update p f).get? p = some { cls := .type "list", data := .seq its'.toArray n' } := by
    rw [Heap.get?_update_self f ho (by rw [hf] <;> rfl), hf]
  refine I.write (x := p) (e := p) (by rw [h]; trivial) (.inl rfl) (fun b u hb q => (Heap.get?_update_other _ _ (Ne.symm hb)).trans q) ⟨_, e⟩ ?_
  exact ⟨hz, its', n', r, e⟩
def rSetL : V → V → V → Hp → (Hp → Prop) → Prop := fun o i v H Q => ∃ p xs k j, o = .ref p ∧ i = .int k ∧ H p = some (.lst xs) ∧ ixN xs.length k = some j ∧ Q (upd H p (.lst (xs.set j v)))
theorem set_list : PSet X rSetL := by
  intro pins s σ H o i v ov iv u Q I ro ri rv h
  obtain ⟨p, xs, k, j, rfl, rfl, hp, hj, q⟩ := h
  cases ro
  obtain ⟨t, rfl⟩ := ri
  obtain ⟨its, n, r, ho, hz⟩ := I.lst hp
  obtain ⟨h1, h2, h3, h4⟩ := ixN_seq hj
  have hl := r.length
  have hn := line63
  have I' : Inv X pins σ (upd H p (.lst (xs.set j v))) { s with heap := s.heap.update p (Obj.mapSeq (·.setIfInBounds j u)) } :=
    I.lstUpd hp ho (mapSeq_set its n j u) (r.set rv j) (by rw [List.length_set]; exact hz) s.toks
  by_cases h0 : 0 ≤ k
  · have hk : k.toNat = j := by
      rw [seqIndex_of h0 h4] at h1
      exact Option.some.inj h1
    exact PySem.W.ki_setAt ho h0 (by omega) (by rw [List.size_toArray, ← hl]; exact h4) (by rw [hk]; exact ⟨_, I', q⟩)
  · have hk : (k + (its.toArray.size : Int)).toNat = j := by
      rw [seqIndex_neg (by omega) h3] at h1
      rw [List.size_toArray, ← hl]
      exact Option.some.inj h1
    exact PySem.W.ki_setBack ho (by omega) (by rw [List.size_toArray, ← hl]; exact h3) (by omega) (by rw [hk]; exact ⟨_, I', q⟩)

theorem slice_bounds (lo hi : Option Int) (n : Nat) : (sliceBounds lo hi none n).1 = ((HT.sIx n 0 lo : Nat) : Int) ∧ (sliceBounds lo hi none n).2.1 = ((HT.sIx n n hi : Nat) : Int) ∧ (sliceBounds lo hi none n).2.2 = 1 := by
  refine ⟨?_, ?_, rfl⟩
  · cases lo with
    | none => simp [sliceBounds, HT.sIx]
    | some i =>
      simp only [sliceBounds, HT.sIx, Option.getD_none, show (1 : Int) > 0 by decide, if_true]
      by_cases h : i < 0
      · simp only [h, if_true] <;> omega
      · simp only [h, if_false] <;> omega
  · cases hi with
    | none => simp [sliceBounds, HT.sIx]
    | some i =>
      simp only [sliceBounds, HT.sIx, Option.getD_none, show (1 : Int) > 0 by decide, if_true]
      by_cases h : i < 0
      · simp only [h, if_true] <;> omega
      · simp only [h, if_false] <;> omega
theorem slicePick_cut (its : List Value) (lo hi : Option Int) : slicePick its.toArray lo hi none = ((its.drop (HT.sIx its.length 0 lo)).take (HT.sIx its.length its.length hi - HT.sIx its.length 0 lo)).toArray := by
  obtain ⟨h1, h2, h3⟩ := slice_bounds lo hi its.toArray.size
  unfold slicePick
  rw [h1, h2, h3]
  simp only [sliceRange_one, pick_run, List.size_toArray] <;> rfl
def rSlL (K : PySem.W.Frag) : V → Option Int → Option Int → Hp → VK → Prop := fun x lo hi H Q => ∃ a xs, x = .ref a ∧ SqL K H a xs ∧ ∀ p, H p = none → Q (.ref p) (upd H p (.lst (cutV xs lo hi)))
theorem sl_list : SlR X (rSlL X.K) := by
  intro pins s σ H x v vl vu lo hi sl Q I rx hs pl pu h
  obtain ⟨a, xs, rfl, hx, q⟩ := h
  cases rx
  obtain ⟨its, r, ht, hz⟩ := I.list hx
  have hlen := r.length
  refine ⟨"list", _, slot_list_getitem.lookup, ht.isList.typeIs, ?_⟩
  refine wpAny_getItem_list_slice ht.isList hs pl pu .none (by simp) ?_ (by rw [List.size_toArray] <;> omega)
  rw [slicePick_cut, ← hlen]
  refine ⟨.ref s.heap.objs.size, _, I.laid (t' := s.toks) (o := .lst (cutV xs lo hi)) (fun b ob q => Heap.get?_push_of_some _ q) (Nat.le_refl _) ?_, rfl, q _ (I.hok.fresh (Nat.le_refl _))⟩
  exact ⟨Nat.le_trans (cutV_length xs lo hi) hz, _, 0, (r.drop (HT.sIx xs.length 0 lo)).take (HT.sIx xs.length xs.length hi - HT.sIx xs.length 0 lo), Heap.get?_push_size _ rfl⟩

def flatV : V → Bool
  | .non => true
  | .bl _ => true
  | .int _ => true
  | .str _ => true
  | _ => false
def eqV : V → V → Bool
  | .non, .non => true
  | .bl a, .bl b => a == b
  | .bl a, .int b => (if a then 1 else 0) == b
  | .int a, .bl b => a == (if b then 1 else 0)
  | .int a, .int b => a == b
  | .str a, .str b => a == b
  | _, _ => false
theorem eqAt_V {A : Around} {s : Shared} {y x : V} {u v : Value} (ry : RelV y u) (rx : RelV x v) (fy : flatV y = true) (fx : flatV x = true) : SeqAt.EqAt A s u v (eqV y x) := by
  cases y with
  | non =>
    cases ry
    cases x with
    | non => cases rx; exact SeqAt.EqAt.same _
    | bl b => cases rx; exact SeqAt.EqAt.none_bool b
    | int b => obtain ⟨t, rfl⟩ := rx; exact SeqAt.EqAt.none_int b t
    | str b => obtain ⟨t, rfl⟩ := rx; exact SeqAt.EqAt.none_str b t
    | _ => exact absurd (show false = true from fx) Bool.false_ne_true
  | bl a =>
    cases ry
    cases x with
    | non => cases rx; exact SeqAt.EqAt.bool_none a
    | bl b => cases rx; exact SeqAt.EqAt.bool_bool a b
    | int b => obtain ⟨t, rfl⟩ := rx; exact SeqAt.EqAt.bool_int a b t
    | str b => obtain ⟨t, rfl⟩ := rx; exact SeqAt.EqAt.bool_str a b t
    | _ => exact absurd (show false = true from fx) Bool.false_ne_true
  | int a =>
    obtain ⟨t', rfl⟩ := ry
    cases x with
    | non => cases rx; exact SeqAt.EqAt.int_none a t'
    | bl b => cases rx; exact SeqAt.EqAt.int_bool a t' b
    | int b => obtain ⟨t, rfl⟩ := rx; exact SeqAt.EqAt.int_int a t' b t
    | str b => obtain ⟨t, rfl⟩ := rx; exact SeqAt.EqAt.int_str a t' b t
    | _ => exact absurd (show false = true from fx) Bool.false_ne_true
  | str a =>
    obtain ⟨t', rfl⟩ := ry
    cases x with
    | non => cases rx; exact SeqAt.EqAt.str_none a t'
    | bl b => cases rx; exact SeqAt.EqAt.str_bool a t' b
    | int b => obtain ⟨t, rfl⟩ := rx; exact SeqAt.EqAt.str_int a t' b t
    | str b => obtain ⟨t, rfl⟩ := rx; exact SeqAt.EqAt.str_str a t' b t
    | _ => exact absurd (show false = true from fx) Bool.false_ne_true
  | _ => exact absurd (show false = true from fy) Bool.false_ne_true
def eqU (x : V) (u : Value) : Bool := match u with
  | .none => eqV .non x
  | .bool b => eqV (.bl b) x
  | .int i _ => eqV (.int i) x
  | .str z _ => eqV (.str z) x
  | _ => false
theorem eqU_of {x y : V} {u : Value} (r : RelV y u) (f : flatV y = true) : eqU x u = eqV y x := by
  cases y with
  | non => cases r; rfl
  | bl b => cases r; rfl
  | int i => obtain ⟨t, rfl⟩ := r; rfl
  | str z => obtain ⟨t, rfl⟩ := r; rfl
  | _ => exact absurd (show false = true from f) Bool.false_ne_true
theorem any_eqU {x : V} : ∀ {xs : List V} {us : List Value}, Vals xs us → xs.all flatV = true → us.any (eqU x) = xs.any fun y => eqV y x
  | _, _, .nil, _ => rfl
  | y :: xs, u :: us, .cons r t, f => by
    rw [List.all_cons, Bool.and_eq_true] at f
    rw [List.any_cons, List.any_cons, eqU_of r f.1, any_eqU t f.2]
theorem mem_eqAt {A : Around} {s : Shared} {x : V} {v : Value} (rx : RelV x v) (fx : flatV x = true) : ∀ {xs : List V} {us : List Value}, Vals xs us → xs.all flatV = true → ∀ u ∈ us, SeqAt.EqAt A s u v (eqU x u)
  | _, _, .nil, _ => fun u hu => by cases hu
  | y :: xs, u :: us, .cons r t, f => fun u' hu => by
    rw [List.all_cons, Bool.and_eq_true] at f
    rcases List.mem_cons.mp hu with rfl | hu
    · rw [eqU_of r f.1]; exact eqAt_V r rx f.1 fx
    · exact mem_eqAt rx fx t f.2 u' hu
def inV (x : V) (xs : List V) : Bool := xs.any fun y => eqV y x
def rIn (K : PySem.W.Frag) (neg : Bool) : R2 := fun x y H Q => ∃ p xs, y = .ref p ∧ (SqL K H p xs ∨ SqT K H p xs) ∧ flatV x = true ∧ xs.all flatV = true ∧ Q (.bl (if neg then !inV x xs else inV x xs)) H
theorem op_notIn_seq : OpR X (compareOp .NotIn) (rIn X.K true) := by
  intro pins s σ H x y v u Q I rx ry h
  obtain ⟨p, xs, rfl, hq, fx, fs, q⟩ := h
  cases ry
  rcases hq with hq | hq
  · obtain ⟨its, r, pl, hz⟩ := I.list hq
    refine SeqAt.notIn_listAt (eqU x) pl.isList (fun w hw => mem_eqAt rx fx r fs w (by simpa using hw)) ⟨.bl _, H, I, rfl, ?_⟩
    rw [show its.toArray.any (eqU x) = its.any (eqU x) by simp, any_eqU r fs]
    exact q
  · obtain ⟨its, r, pl, hz⟩ := I.tuple hq
    refine SeqAt.notIn_tupleAt (eqU x) pl (fun w hw => mem_eqAt rx fx r fs w (by simpa using hw)) ⟨.bl _, H, I, rfl, ?_⟩
    rw [show its.toArray.any (eqU x) = its.any (eqU x) by simp, any_eqU r fs]
    exact q
theorem call_len_seq : CallR X (.builtin "len") (fun xs H Q => ∃ p ys, xs = [.ref p] ∧ (SqL X.K H p ys ∨ SqT X.K H p ys) ∧ Q (.int ys.length) H) := by
  intro pins s σ H xs us Q I r h
  obtain ⟨p, ys, rfl, hq, q⟩ := h
  obtain ⟨u, rfl, rx⟩ := vals1 r
  cases rx
  have hn := line63
  rcases hq with hq | hq
  · obtain ⟨its, r', pl, hz⟩ := I.list hq
    have hlen := r'.length
    exact Calls.call_len_list pl.isList (by simp only [List.size_toArray] <;> omega) ⟨.int ys.length, H, I.tok _, ⟨s.toks + 1, by rw [List.size_toArray, hlen]⟩, q⟩
  · obtain ⟨its, r', pl, hz⟩ := I.tuple hq
    have hlen := r'.length
    exact len_tuple pl (by simp only [List.size_toArray] <;> omega) ⟨.int ys.length, H, I.tok _, ⟨s.toks + 1, by rw [List.size_toArray, hlen]⟩, q⟩
theorem call_list_of : CallR X (.type "list") (fun xs H Q => ∃ p ys, xs = [.ref p] ∧ (SqL X.K H p ys ∨ SqT X.K H p ys) ∧ ∀ l, H l = none → Q (.ref l) (upd H l (.lst ys))) := by
  intro pins s σ H xs us Q I r h
  obtain ⟨p, ys, rfl, hq, q⟩ := h
  obtain ⟨u, rfl, rx⟩ := vals1 r
  cases rx
  have fin : ∀ (its : List Value), Vals ys its → ys.length ≤ sizeLine → ∀ (h' : Heap) (c' : Nat), (∀ b o', s.heap.get? b = some o' → h'.get? b = some o') →
      h'.get? s.heap.objs.size = some { cls := .type "list", dict := none, data := .seq its.toArray c', slots := #[] } → EP X pins σ Q (.ref s.heap.objs.size) { s with heap := h' } := fun its r' hz h' c' kp e =>
    ⟨.ref s.heap.objs.size, _, I.laid (t' := s.toks) kp (Nat.le_refl _) (show ObjOk X.prog X.w _ h' _ (.lst ys) from ⟨hz, its, c', r', e⟩), rfl, q _ (I.hok.fresh (Nat.le_refl _))⟩
  rcases hq with hq | hq
  · obtain ⟨its, r', pl, hz⟩ := I.list hq
    have hlen := r'.length
    obtain ⟨o, ho, hc, n, hd⟩ := pl.isList
    exact call_list_seq p (.inl rfl) ho hc hd (fun h' c' kp e => fin its r' hz h' c' kp e) (by simp only [List.size_toArray] <;> omega)
  · obtain ⟨its, r', pl, hz⟩ := I.tuple hq
    have hlen := r'.length
    obtain ⟨o, ho, hc, n, hd⟩ := pl
    exact call_list_seq p (.inr rfl) ho hc hd (fun h' c' kp e => fin its r' hz h' c' kp e) (by simp only [List.size_toArray] <;> omega)
def tyV (K : PySem.W.Frag) (T : String) (x : V) (H : Hp) : Prop := match x with
  | .str _ => T = "str"
  | .int _ => T = "int"
  | .ref p => (T = "list" ∧ ∃ xs, SqL K H p xs) ∨ (T = "tuple" ∧ ∃ o, K.lookup p = some o ∧ o.cls = .type "tuple" ∧ o.dict = none) ∨
      (T = "dict" ∧ ((∃ kvs, H p = some (.dK kvs)) ∨ ∃ kvs, H p = some (.dT kvs))) ∨ (T = "set" ∧ ∃ S n, H p = some (.set S n))
  | _ => False
theorem tyV_is {pins : List (Addr × Obj)} {σ : St} {H : Hp} {s : Shared} {T : String} {x : V} {v : Value} (I : Inv X pins σ H s) (r : RelV x v) (ty : tyV X.K T x H) :
    s.TypeIs v T ∧ ∀ a, v = .ref a → ∃ ob, s.heap.get? a = some ob ∧ ob.dict = none := by
  cases x with
  | str z =>
    obtain ⟨t, rfl⟩ := r
    cases (show T = "str" from ty)
    exact ⟨typeIs_str s z t, fun _ e => nomatch e⟩
  | int i =>
    obtain ⟨t, rfl⟩ := r
    cases (show T = "int" from ty)
    exact ⟨typeIs_int s i t, fun _ e => nomatch e⟩
  | ref p =>
    cases r
    rcases ty with ⟨rfl, xs, hq⟩ | ⟨rfl, o, hk, hc, hd⟩ | ⟨rfl, hk⟩ | ⟨rfl, S, n, hk⟩
    · obtain ⟨its, _, pl, _⟩ := I.list hq
      refine ⟨pl.isList.typeIs, fun a e => ?_⟩
      cases e
      obtain ⟨o, n, e, c, hd, _⟩ := pl
      exact ⟨o, e, hd⟩
    · refine ⟨⟨o, I.kIn p o hk, hc⟩, fun a e => ?_⟩
      cases e
      exact ⟨o, I.kIn _ o hk, hd⟩
    · have z : ∃ o, s.heap.get? p = some o ∧ o.ExactDict := by
        rcases hk with ⟨kvs, hk⟩ | ⟨kvs, hk⟩
        · obtain ⟨_, _, _, _, o, _, _, e, ex, _⟩ := I.hok p _ hk
          exact ⟨o, e, ex⟩
        · obtain ⟨_, _, _, _, o, _, _, e, ex, _⟩ := I.hok p _ hk
          exact ⟨o, e, ex⟩
      obtain ⟨o, e, ex⟩ := z
      refine ⟨⟨o, e, ex.1⟩, fun a e2 => ?_⟩
      cases e2
      exact ⟨o, e, ex.2.1⟩
    · obtain ⟨o, _, _, _, e, ex, _⟩ := I.hok p _ hk
      refine ⟨⟨o, e, ex.1⟩, fun a e2 => ?_⟩
      cases e2
      exact ⟨o, e, ex.2.1⟩
  | _ => exact False.elim ty
def tBM (K : PySem.W.Frag) (T : String) (r : V → List V → Hp → VK → Prop) (to : TE) (t : TA) : TE := fun σ H Q => to σ H fun x H1 => tyV K T x H1 ∧ t σ H1 fun xs H2 => r x xs H2 Q
variable {o e : Expr} {es : List Expr} {to : TE} {t : TA} {name : Str} {apos cpos : Pos} {T id : String} {r : V → List V → Hp → VK → Prop}
theorem pe_bm (pa : PlainAttrs T) (slot : Slot T name id) (hty : typeOf (.builtin id) = pure (.type "method_descriptor")) (hm : MtR X id r) (ho : PE X o to) (ha : PA X (e :: es) t)
    (hbase : attributeBase o name X.env (eval o X.env) = eval o X.env := by rfl)
    (hfew : ((backTo cpos (starEach (e :: es) X.env)).all (fun x => !x.1) && (backToKw cpos (keywordEach [] X.env)).all (fun x => x.1.isSome)
      && decide ((e :: es).length + ([] : List Keyword).length + (if ([] : List Keyword).isEmpty then 0 else 1) < 30)) = true := by rfl)
    (hline : (apos.endLine == cpos.line) = true := by rfl) (hs : starEach (e :: es) X.env = (false, eval e X.env) :: starEach es X.env := by rfl) (hplain : (backTo cpos (starEach es X.env)).any (·.1) = false := by rfl) :
    PE X (.Call (.Attribute o name apos) (e :: es) [] cpos) (tBM X.K T r to t) := by
  intro pins s σ H Q I h
  refine wpAny_Call_method_late hbase hfew hline rfl (thn (ho pins s σ H _ I h) fun v s1 ⟨x, H1, I1, r1, ty, q1⟩ => ?_)
  obtain ⟨h1, h2⟩ := tyV_is I1 r1 ty
  refine ⟨T, id, pa, slot, hty, h1, h2, ?_⟩
  have hA := ha cpos pins s1 σ H1 _ I1 q1
  rw [hs] at hA ⊢
  refine Calls.callWith_builtin (by show (false || (backTo cpos (starEach es X.env)).any (·.1)) = false; rw [hplain] <;> rfl) (Calls.evalArgs_plain ?_)
  exact thn hA fun us s2 ⟨vs, H2, I2, r2, q2⟩ => hm pins s2 σ H2 x vs v us Q I2 r1 r2 q2
end
end L2

namespace L2
open PySem PySem.Spec PyProof.Rows

def MtM (X : Cx) (id : String) (r : V → List V → Hp → VK → Prop) : Prop :=
  ∀ (pins : List (Addr × Obj)) (s : Shared) (σ : St) (H : Hp) (x : V) (xs : List V) (v : Value) (us : List Value) (Q : VK), Inv X pins σ H s → RelV x v → Vals xs us → r x xs H Q →
    wpAny (model X.prog X.w) X.A (call (.builtin id) (v :: us)) (EP X pins σ Q) X.xe s

theorem Vals.one : ∀ {x : V} {us : List Value}, Vals [x] us → ∃ u, us = [u] ∧ RelV x u
  | _, _, .cons r .nil => ⟨_, rfl, r⟩
theorem Vals.zero : ∀ {us : List Value}, Vals [] us → us = []
  | _, .nil => rfl
theorem Vals.eraseIdx : ∀ {xs : List V} {us : List Value} (i : Nat), Vals xs us → Vals (xs.eraseIdx i) (us.eraseIdx i)
  | _, _, _, .nil => .nil
  | _, _, 0, .cons _ t => t
  | _, _, i + 1, .cons r t => .cons r (Vals.eraseIdx i t)
theorem Vals.reverse {xs : List V} {us : List Value} (h : Vals xs us) : Vals xs.reverse us.reverse := by
  induction h with
  | nil => exact .nil
  | cons r t ih => rw [List.reverse_cons, List.reverse_cons]; exact Vals.append ih (.cons r .nil)
theorem Vals.rep {xs : List V} {us : List Value} (h : Vals xs us) : ∀ k : Nat, Vals (List.replicate k xs).flatten (List.replicate k us).flatten
  | 0 => .nil
  | k + 1 => by
    rw [List.replicate_succ, List.replicate_succ, List.flatten_cons, List.flatten_cons]
    exact Vals.append h (Vals.rep h k)
theorem len_erase {α : Type} : ∀ (l : List α) (i : Nat), (l.eraseIdx i).length ≤ l.length
  | [], _ => Nat.le_refl _
  | _ :: _, 0 => Nat.le_succ _
  | _ :: r, i + 1 => Nat.succ_le_succ (len_erase r i)
theorem foldl_rep (its : List Value) : ∀ (k : Nat) (acc : List Value),
    List.foldl (fun x1 x2 => x1 ++ x2) acc.toArray (List.replicate k its.toArray) = (acc ++ (List.replicate k its).flatten).toArray
  | 0, acc => by simp
  | k + 1, acc => by
    have e : acc.toArray ++ its.toArray = (acc ++ its).toArray := by simp
    have e2 : (acc ++ its) ++ (List.replicate k its).flatten = acc ++ (List.replicate (k + 1) its).flatten := by
      rw [List.replicate_succ, List.flatten_cons, List.append_assoc]
    rw [← e2, ← foldl_rep its k (acc ++ its), ← e, List.replicate_succ, List.foldl_cons]

section
variable {X : Cx} {pins : List (Addr × Obj)} {σ : St} {H : Hp} {s : Shared} {l b : Addr} {xs ys zs : List V}

theorem Inv.lset {its its' : List Value} {n : Nat} {f : Array Value → Array Value} {t' : Nat} (I : Inv X pins σ H s) (hH : H l = some (.lst xs))
    (e : s.heap.get? l = some { cls := .type "list", data := .seq its.toArray n }) (hf : f its.toArray = its'.toArray) (hv : Vals ys its') (hz : ys.length ≤ sizeLine) :
    Inv X pins σ (upd H l (.lst ys)) { s with heap := s.heap.update l (Obj.mapSeq f), toks := t' } := by
  have q := PySem.IsL.update e f
  rw [hf] at q
  refine I.write (x := l) (e := l) (by rw [hH]; exact trivial) (.inl rfl) (fun b' u hb hu => (Heap.get?_update_other s.heap (Obj.mapSeq f) (Ne.symm hb)).trans hu) ⟨_, q⟩ ?_
  exact ⟨hz, its', _, hv, q⟩
theorem Inv.lnew {its : List Value} {t' : Nat} (I : Inv X pins σ H s) (hv : Vals ys its) (hz : ys.length ≤ sizeLine) :
    Inv X pins σ (upd H s.heap.objs.size (.lst ys)) { s with heap := s.heap.push { cls := .type "list", data := .seq its.toArray }, toks := t' } :=
  I.laid (fun _ _ q => Heap.get?_push_of_some _ q) (Nat.le_refl _) ⟨hz, its, 0, hv, Heap.get?_push_size _ rfl⟩
theorem Inv.fresh (I : Inv X pins σ H s) : H s.heap.objs.size = none := I.hok.fresh (Nat.le_refl _)
theorem Inv.lstM (I : Inv X pins σ H s) (hH : H l = some (.lst xs)) : xs.length ≤ sizeLine ∧ ∃ (its : List Value) (n : Nat), Vals xs its ∧ xs.length = its.length ∧ s.heap.get? l = some { cls := .type "list", data := .seq its.toArray n } := by
  obtain ⟨z, its, n, r, e⟩ := I.hok l _ hH
  exact ⟨z, its, n, r, r.length, e⟩

theorem notLongL {n : Nat} (h : n ≤ sizeLine) : Builtin.List.listTooLong n = false := by
  unfold Builtin.List.listTooLong
  exact decide_eq_false (by omega)
end

section
variable {X : Cx}

def rAppend : V → List V → Hp → VK → Prop := fun x vs H Q => ∃ l xs y, x = .ref l ∧ vs = [y] ∧ H l = some (.lst xs) ∧ xs.length < sizeLine ∧ Q .non (upd H l (.lst (xs ++ [y])))
theorem mt_append : MtM X "list.append" rAppend := by
  intro pins s σ H x vs v us Q I rx rv h
  obtain ⟨l, xs, y, rfl, rfl, hH, hz, q⟩ := h
  cases rx
  obtain ⟨u, rfl, ru⟩ := rv.one
  obtain ⟨z, its, n, r, hl, e⟩ := I.lstM hH
  refine call_meets F.slot_list_append ⟨_, e, rfl⟩ F.entry_list_append (F.args_list_append_2 _ _) (PySem.list_append l its.toArray n u (by rw [List.size_toArray]; omega)) ⟨e, ?_⟩
  refine ⟨.non, _, I.lset (its' := its ++ [u]) hH e (by simp) (r.append (.cons ru .nil)) ?_, rfl, q⟩
  rw [List.length_append, List.length_singleton]
  omega

def rExtend : V → List V → Hp → VK → Prop := fun x vs H Q => ∃ l b xs zs, x = .ref l ∧ vs = [.ref b] ∧ H l = some (.lst xs) ∧ H b = some (.lst zs) ∧ xs.length + zs.length ≤ sizeLine ∧ Q .non (upd H l (.lst (xs ++ zs)))
theorem mt_extend : MtM X "list.extend" rExtend := by
  intro pins s σ H x vs v us Q I rx rv h
  obtain ⟨l, b, xs, zs, rfl, rfl, hH, hB, hz, q⟩ := h
  cases rx
  obtain ⟨u, rfl, ru⟩ := rv.one
  cases ru
  obtain ⟨z, its, n, r, hl, e⟩ := I.lstM hH
  obtain ⟨z2, its2, n2, r2, hl2, e2⟩ := I.lstM hB
  have hsz : its.toArray.size + its2.toArray.size ≤ sizeLine := by rw [List.size_toArray, List.size_toArray]; omega
  have hlong : ¬ (!its.toArray.isEmpty && Builtin.List.listTooLong (its.toArray.size + its2.toArray.size)) = true := by
    rw [notLongL hsz, Bool.and_false]
    exact Bool.false_ne_true
  refine call_meets F.slot_list_extend ⟨_, e, rfl⟩ F.entry_list_extend (F.args_list_extend_2 _ _)
    (AutoSeq1.list_extend_list_list_0 l its.toArray n b its2.toArray n2 hlong (by rw [List.size_toArray]; omega) (by omega)) ⟨e, e2, ?_⟩
  refine ⟨.non, _, I.lset (its' := its ++ its2) hH e (by simp) (r.append r2) ?_, rfl, q⟩
  rw [List.length_append]
  omega

def rPopAt : V → List V → Hp → VK → Prop := fun x vs H Q => ∃ l xs i k y, x = .ref l ∧ vs = [.int i] ∧ H l = some (.lst xs) ∧ -(2 ^ 63) ≤ i ∧ i < 2 ^ 63 ∧ seqIndex? i xs.length = some k ∧ xs[k]? = some y ∧ Q y (upd H l (.lst (xs.eraseIdx k)))
theorem mt_popAt : MtM X "list.pop" rPopAt := by
  intro pins s σ H x vs v us Q I rx rv h
  obtain ⟨l, xs, i, k, y, rfl, rfl, hH, h1, h2, hk, hy, q⟩ := h
  cases rx
  obtain ⟨u, rfl, ru⟩ := rv.one
  obtain ⟨t, rfl⟩ := ru
  obtain ⟨z, its, n, r, hl, e⟩ := I.lstM hH
  obtain ⟨w, hw, rw'⟩ := r.get hy
  refine call_meets F.slot_list_pop ⟨_, e, rfl⟩ F.entry_list_pop (F.args_list_pop_2 _ _)
    (MeetsSeq.list_pop_at l its.toArray n i t k w (fitsIndex_both h1 h2) (by rw [List.size_toArray, ← hl]; exact hk) (by rw [← Array.getElem?_toList]; exact hw) (by rw [List.size_toArray]; omega)) ⟨e, ?_⟩
  refine ⟨y, _, I.lset (its' := its.eraseIdx k) hH e ?_ (r.eraseIdx k) ?_, rw', q⟩
  · show its.toArray.eraseIdxIfInBounds k = (its.eraseIdx k).toArray
    rw [List.eraseIdxIfInBounds_toArray]
  · have := len_erase xs k
    omega

def rCat : R2 := fun x y H Q => ∃ l b xs zs, x = .ref l ∧ y = .ref b ∧ H l = some (.lst xs) ∧ H b = some (.lst zs) ∧ xs.length + zs.length ≤ sizeLine ∧ ∀ p, H p = none → Q (.ref p) (upd H p (.lst (xs ++ zs)))
theorem op_cat : OpR X (binaryOp .Add) rCat := by
  intro pins s σ H x y v u Q I rx ry h
  obtain ⟨l, b, xs, zs, rfl, rfl, hH, hB, hz, q⟩ := h
  cases rx
  cases ry
  obtain ⟨z, its, n, r, hl, e⟩ := I.lstM hH
  obtain ⟨z2, its2, n2, r2, hl2, e2⟩ := I.lstM hB
  refine PySem.P.add_list e e2 ?_ (by rw [List.size_toArray, List.size_toArray]; omega)
  have ea : its.toArray ++ its2.toArray = (its ++ its2).toArray := by simp
  rw [ea]
  exact ⟨.ref _, _, I.lnew (t' := s.toks) (r.append r2) (by rw [List.length_append]; omega), rfl, q _ I.fresh⟩
def rRep : R2 := fun x y H Q => ∃ l k xs, x = .ref l ∧ y = .int k ∧ H l = some (.lst xs) ∧ -(2 ^ 63) ≤ k ∧ k < 2 ^ 63 ∧ xs.length * k.toNat ≤ sizeLine ∧
  ∀ p, H p = none → Q (.ref p) (upd H p (.lst (List.replicate k.toNat xs).flatten))
theorem len_rep {α : Type} (xs : List α) (k : Nat) : (List.replicate k xs).flatten.length = k * xs.length := by
  induction k with
  | zero => simp
  | succ k ih => rw [List.replicate_succ, List.flatten_cons, List.length_append, ih, Nat.succ_mul, Nat.add_comm]
theorem op_rep : OpR X (binaryOp .Mult) rRep := by
  intro pins s σ H x y v u Q I rx ry h
  obtain ⟨l, k, xs, rfl, rfl, hH, h1, h2, hz, q⟩ := h
  cases rx
  obtain ⟨t, rfl⟩ := ry
  obtain ⟨z, its, n, r, hl, e⟩ := I.lstM hH
  have hlen : its.toArray.size * k.toNat ≤ sizeLine := by rw [List.size_toArray, ← hl]; exact hz
  have hcap : ¬ its.toArray.size * k.toNat > (2 ^ 63 - 1) / 8 := by
    have : (sizeLine : Nat) ≤ (2 ^ 63 - 1) / 8 := by decide
    omega
  have hfit : ¬ (!Builtin.List.listFitsIndex k) = true := by
    rw [fitsIndex_both h1 h2]
    exact Bool.false_ne_true
  have hlong : ¬ Builtin.List.listTooLong (its.toArray.size * k.toNat) = true := by
    rw [notLongL hlen]
    exact Bool.false_ne_true
  have hnew : List.foldl (fun x1 x2 => x1 ++ x2) #[] (List.replicate (if its.toArray.isEmpty = true then 0 else k.toNat) its.toArray) = (List.replicate k.toNat its).flatten.toArray := by
    have f0 : ∀ m : Nat, List.foldl (fun x1 x2 => x1 ++ x2) #[] (List.replicate m its.toArray) = (List.replicate m its).flatten.toArray := fun m => by
      have := foldl_rep its m []
      rw [List.nil_append] at this
      exact this
    rw [f0]
    cases its with
    | nil => simp
    | cons a r' => rw [if_neg (by simp)]
  refine wpAny_binaryOp_repeat_ref (T := "list") (U := "int") (by decide) ⟨_, e, rfl⟩ (fun s' => typeIs_int s' k t) noFill_list_mul F.fills_int_mul F.slot_int_rmul repeat_list F.slot_int_index.lookup
    (call_meets F.slot_int_rmul (typeIs_int s k t) F.entry_int_rmul (F.args_int_rmul_2 _ _) (int___rmul___int_list k t l its.toArray n)
      ⟨e, rfl, ⟨_, e, rfl⟩, call_meets F.slot_list_mul ⟨_, e, rfl⟩ F.entry_list_mul (F.args_list_mul_2 _ _) (AutoListH.list___mul___list_int_3 l its.toArray n k t hfit hcap hlong) ⟨e, ?_⟩⟩)
  rw [hnew]
  exact ⟨.ref _, _, I.lnew (t' := s.toks) (r.rep k.toNat) (by rw [len_rep, Nat.mul_comm]; exact hz), rfl, q _ I.fresh⟩

end

section
variable {prog : Program} {w : World} {A : Around} {E : Value → Shared → Prop} {s : Shared}
end

section
variable {X : Cx}
end
end L2

namespace Att
open PySem PySem.W PySem.Calls PyProof.Rows

theorem ints_of_wellAll {P : Params} {h : Heap} : ∀ (ns : List Int) (vs : List Value), WellAll P h vs (ns.map WData.int) → IntsAre vs ns := by
  intro ns
  induction ns with
  | nil =>
    intro vs w
    rw [List.map_nil] at w
    cases w
    exact .nil
  | cons n ns ih =>
    intro vs w
    rw [List.map_cons] at w
    cases w with
    | cons a b =>
      cases a
      exact .cons _ _ (ih _ b)

theorem script_of {l : OpenLaw} {n : Nat} (hn : l.most = some n) {P : Params} {h : Heap} {args : List WData} {vals : List Value}
    (hpre : l.row.toRowW.claim.pre args = true) (hwl : WellAll P h vals args) :
    ∃ a vs ns, vals = [Value.ref a] ∧ args = [WData.list (ns.map WData.int)] ∧ h.get? a = some { cls := .type "list", data := .seq vs.toArray } ∧ IntsAre vs ns ∧ ns.length ≤ n := by
  have hsh : WShape.hasAll [] args [.list .int] = true := (pre_splitW hpre).1
  have hc : l.pre.holds [] { args := args } = true := (pre_splitW hpre).2
  obtain ⟨d, r, rfl, h1, h2⟩ := hasAllW_cons hsh
  obtain rfl := hasAllW_nil h2
  obtain ⟨xs, rfl, h3⟩ := hasW_list h1
  obtain ⟨ns, rfl⟩ := items_int h3
  have hlen : ns.length ≤ n := by
    unfold OpenLaw.pre at hc
    have h4 : (WTm.not (.lt (.lit (.int (n : Int))) (.len (.arg 0)))).holds [] { args := [.list (ns.map .int)] } = true := by
      have h4 := (holds_andW hc).1
      rw [hn] at h4
      exact h4
    have h5 := condW_of h4 (w_not (w_lt w_lit (w_len_list (w_arg rfl))))
    rw [List.length_map] at h5
    refine Nat.le_of_not_lt fun q => ?_
    have q' : (n : Int) < ((ns.length : Nat) : Int) := by omega
    first
      | (rw [decide_eq_true q'] at h5; exact absurd h5 (by decide))
      | (simp at h5; omega)
  cases hwl with
  | cons w1 w2 =>
    cases w2
    cases w1 with
    | list ho hall => exact ⟨_, _, ns, rfl, rfl, ho, ints_of_wellAll ns _ hall, hlen⟩

theorem post_true (l : OpenLaw) (args : List WData) : l.row.toRowW.claim.post args (.bool true) args = true :=
  postW_of (r := l.row.toRowW) (X := (true == true))
    (show WShape.has [] (.bool true) .bool = true by first | rfl | decide | simp [WShape.has, WShape.arms, WShape.armsAll])
    (show (WTm.eq .res (.lit (.bool true))).value [] { args := args, res := some (.bool true), after := args } = some (.bool (true == true)) from w_eq_bool (w_res rfl) w_lit) rfl

theorem attach_call {l : OpenLaw} {n : Nat} {q : Program} {loose : List Str} {XP : (Str → Option Value) → Heap → Prop} {YP : World → Heap → Prop} {d : DefRec}
    (hn : l.most = some n) (hdf : d.params.defaults = [])
    (call : ∀ (w : World) (s₀ s₁ : Shared) (mg mb : Str → Option Value) (fa : Addr) (o : Obj) (pm cd doc : Value) (a : Addr) (vs : List Value) (ns : List Int),
      Ground q loose [] XP w s₀ mg mb s₁.heap → YP w s₁.heap →
      s₁.heap.get? fa = some o → o.data = .func (docDef d.name d.params d.body d.scope pm cd doc) → s₁.heap.CodeRec cd d.name → mg d.name = some (.ref fa) →
      s₁.heap.get? a = some { cls := .type "list", data := .seq vs.toArray } → IntsAre vs ns → ns.length ≤ n → s₁.gens = #[] →
      codeAny (model l.prog w) callerA (.call (.ref fa) ⟨[.ref a], []⟩) (fun r s' => r = .ok (.ret (.bool true)) ∧ OldK s₁.heap s'.heap ∧ s'.os = s₁.os ∧ AllBare s'.gens) s₁) :
    WalkO q loose XP YP l.row.toRowW d [] (fun f vs => PySem.call f vs) := by
  intro w s₀ s₁ mg mb G Y fa o pm cd doc dV kV ho hd hcd hD hmg hg args vals as hpre hlay hrd hwl hlo
  obtain rfl : dV = .none := Dflts.none hD hdf
  obtain rfl : kV = .none := Dflts.noKw hD
  obtain ⟨a, vs, ns, rfl, rfl, hobj, hints, hlen⟩ := script_of hn hpre hwl
  refine enter_call (codeAny_mono (call w s₀ s₁ mg mb fa o pm cd doc a vs ns G Y ho (fd_plain hd) hcd hmg hobj hints hlen hg) fun r s' hq => ?_)
  obtain ⟨rfl, h2, h3, h4⟩ := hq
  exact ⟨.inl ⟨.bool true, .bool true, [], rfl, fun _ => rfl, .bool true, post_true l _, fun _ => ⟨List.Pairwise.nil, fun _ hm => (nomatch hm)⟩⟩, h2, h3, h4⟩

section
variable {prog : Program} {w : World} {A : Around} {E : Value → Shared → Prop} {s : Shared} {K : Frag}

end
end Att

namespace L2
open PySem PySem.Spec PyProof.Rows

theorem vals_ints : ∀ {vs : List Value} {ns : List Int}, IntsAre vs ns → Vals (ns.map V.int) vs
  | _, _, .nil => .nil
  | _, _, .cons n t h => .cons ⟨t, rfl⟩ (vals_ints h)

def Only (H : Hp) : Prop := ∀ b, H b = none ∨ ∃ o xs, H b = some (.frz o (.lst xs))

theorem law_call {P : Program} {w : World} {K : PySem.W.Frag} {mg mb : Str → Option Value} {CX : CXT} {k : Nat} {fa a : Addr} {fd : FuncData} {x : Str} {sp : Sp} {s₁ : Shared} {vs : List Value} {ns : List Int}
    (KX : K.In s₁.heap) (hns : s₁.heap.Ns mainGlobals mg) (hb : s₁.heap.Ns builtinsNs mb) (hbb : ∀ x : Str, x ≠ "__name__" → mb x = bootBuiltins x) (hlim : s₁.heap.NoLimit) (hg : s₁.gens = #[])
    (ha : s₁.heap.get? a = some { cls := .type "list", data := .seq vs.toArray }) (hi : IntsAre vs ns) (hl : ns.length ≤ sizeLine) (hr : Room k callerA)
    (F : ∀ base : Heap, K.In base → base.Ns mainGlobals mg → FnOk P w K mg base CX k fa fd [x] sp) (hbind : ∀ (s : Shared) (u : Value), BindsTo s fd ⟨[u], []⟩ [(x, u)])
    (hsp : ∀ H : Hp, Only H → SqL K H a (ns.map V.int) → sp [.ref a] H (fun v _ => v = .bl true) fun _ _ _ => False)
    (hCX : ∀ H e s', CX [] H s₁ (fun _ _ _ => False) e s' → False) :
    codeAny (model P w) callerA (.call (.ref fa) ⟨[.ref a], []⟩) (fun r s' => r = .ok (.ret (.bool true)) ∧ OldK s₁.heap s'.heap ∧ s'.os = s₁.os ∧ AllBare s'.gens) s₁ := by
  have rv := vals_ints hi
  have lenV := hi.length
  -- from an abstract heap in which nothing but the script may be tracked
  have core : ∀ H : Hp, Only H → SqL K H a (ns.map V.int) → HOk P w H s₁.heap → (∀ b, H b ≠ none → b = a) → (H a ≠ none → K.lookup a = none) →
      codeAny (model P w) callerA (.call (.ref fa) ⟨[.ref a], []⟩) (fun r s' => r = .ok (.ret (.bool true)) ∧ OldK s₁.heap s'.heap ∧ s'.os = s₁.os ∧ AllBare s'.gens) s₁ := by
    intro H hO hS hok hA hK
    have base_of : ∀ {b : Addr} {o : Obj}, s₁.heap.get? b = some o → H b = none → (hidT s₁.heap H).get? b = some o := fun e n => hidT_get e n
    have noA : ∀ {b : Addr} {o : Obj} {es : Array DictEntry} {ep : Nat}, s₁.heap.get? b = some o → o.data = .dict es ep → H b = none := fun {b o es ep} e d => by
      cases q : H b with
      | none => rfl
      | some u =>
        have e' : b = a := hA b (by rw [q]; simp)
        subst e'
        rw [ha] at e; cases e
        have d' : Data.seq vs.toArray _ = Data.dict es ep := d
        cases d'
    have nsK : ∀ {b : Addr} {m : Str → Option Value}, s₁.heap.Ns b m → (hidT s₁.heap H).Ns b m := fun {b m} ⟨o, es, ep, e, d, r⟩ => ⟨o, es, ep, base_of e (noA e d), d, r⟩
    have hKb : K.In (hidT s₁.heap H) := fun b o e => base_of (KX b o e) (by
      cases q : H b with
      | none => rfl
      | some u =>
        have e' : b = a := hA b (by rw [q]; simp)
        subst e'
        rw [hK (by rw [q]; simp)] at e; cases e)
    have hM : Mod K mg (hidT s₁.heap H) := ⟨hKb, nsK hns, ⟨mb, nsK hb, hbb⟩, let ⟨mc, h1, h2⟩ := hlim; ⟨mc, nsK h1, h2⟩⟩
    have e0 : Env0 P w K mg (hidT s₁.heap H) callerA [] s₁ H := ⟨rfl, hM, fun b o e => of_hidT e, Nat.le_of_eq (hidT_size _ _), trivial, fun b hb => absurd (show b ∈ ([] : List Addr) from hb) (by simp), hok, .of_eq hg⟩
    refine codeAny_mono ((F _ hKb (nsK hns)).run callerA [] s₁ H ⟨[.ref a], []⟩ [.ref a] [.ref a] _ _ hr e0 (hbind s₁ (.ref a)) (.cons rfl .nil) (hsp H hO hS)) fun r s' h => ?_
    cases r with
    | error e => exact (hCX H e s' h).elim
    | ok fl =>
      cases fl with
      | next => exact False.elim h
      | brk => exact False.elim h
      | cont => exact False.elim h
      | ret u =>
        obtain ⟨v, H', os, bare, un, hok', r', q⟩ := h
        have q' : v = .bl true := q
        subst q'
        obtain rfl : u = Value.bool true := r'
        refine ⟨rfl, OldK.of_keep fun b o e => ?_, os, bare⟩
        cases q : H b with
        | none => exact un.keep b o e q (by intro z; exact absurd (show b ∈ ([] : List Addr) from z) (by simp)) (by simp)
        | some u =>
          rcases hO b with z | ⟨ob, xs, z⟩
          · rw [q] at z; cases z
          · have z2 := un.frzs b ob _ z
            obtain ⟨e1, _⟩ := hok b _ z
            obtain ⟨e2, _⟩ := hok' b _ z2
            rw [e] at e1; cases e1
            exact e2
  cases hk : K.lookup a with
  | some o =>
    -- the script is one of the module's own objects
    have e := KX a o hk
    rw [ha] at e
    cases e
    refine core (fun _ => none) (fun _ => .inl rfl) (.inr ⟨_, vs.toArray, _, hk, rfl, rfl, rfl, by rw [List.size_toArray, lenV]; exact hl, by simpa using rv⟩) (fun b u z => by have z' : (none : Option HO) = some u := z; cases z') (fun b z => absurd rfl z) fun z => absurd rfl z
  | none =>
    refine core (fun b => if b = a then some (.frz { cls := .type "list", data := .seq vs.toArray } (.lst (ns.map V.int))) else none) (fun b => ?_) (.inl (.inr ⟨{ cls := .type "list", data := .seq vs.toArray }, if_pos rfl⟩)) (fun b u z => ?_) (fun b z => ?_) fun _ => hk
    · by_cases hb : b = a
      · exact .inr ⟨_, _, if_pos hb⟩
      · exact .inl (if_neg hb)
    · by_cases hb : b = a
      · have z' := (if_pos hb).symm.trans z
        cases z'
        subst hb
        exact ⟨ha, by rw [List.length_map]; exact hl, vs, _, rv, ha⟩
      · have z' := (if_neg hb).symm.trans z
        cases z'
    · by_cases hb : b = a
      · exact hb
      · exact absurd (if_neg hb) z
end L2

namespace L2
open PySem PySem.Spec PyProof.Rows

theorem walk_of {l : PySem.W.OpenLaw} {n k : Nat} {q : Program} {loose : List Str} {XP : (Str → Option Value) → Heap → Prop} {YP : World → Heap → Prop} {d : DefRec} {K : Params → PySem.W.Frag} {CX : World → CXT} {sp : World → Sp} {x : Str}
    (hn : l.most = some n) (hn2 : n ≤ sizeLine) (hdf : d.params.defaults = []) (hr : Room k callerA)
    (hY : ∀ (w : World) (h : Heap), YP w h → (K w.params).In h)
    (F : ∀ (w : World) (mg : Str → Option Value) (fa : Addr) (h : Heap), (K w.params).In h → h.Ns mainGlobals mg → mg d.name = some (.ref fa) →
      ∃ fd : FuncData, (∀ (s : Shared) (u : Value), BindsTo s fd ⟨[u], []⟩ [(x, u)]) ∧
        ∀ base : Heap, (K w.params).In base → base.Ns mainGlobals mg → FnOk l.prog w (K w.params) mg base (CX w) k fa fd [x] (sp w))
    (hsp : ∀ (w : World) (H : Hp) (a : Addr) (ns : List Int), ns.length ≤ n → Only H → SqL (K w.params) H a (ns.map V.int) → sp w [.ref a] H (fun v _ => v = .bl true) fun _ _ _ => False)
    (hCX : ∀ (w : World) (H : Hp) (s : Shared) (e : Value) (s' : Shared), CX w [] H s (fun _ _ _ => False) e s' → False) :
    PySem.W.WalkO q loose XP YP l.row.toRowW d [] (fun f vs => PySem.call f vs) := by
  refine Att.attach_call hn hdf fun w s₀ s₁ mg mb fa o pm cd doc a vs ns G Y ho hd hcd hmg hobj hints hlen hg => ?_
  have KX := hY w _ Y
  obtain ⟨fd, hb, hF⟩ := F w mg fa _ KX G.T.g hmg
  exact law_call KX G.T.g G.T.b G.T.builtins G.T.nolimit hg hobj hints (Nat.le_trans hlen hn2) hr hF hb (fun H hO hS => hsp w H a ns hlen hO hS) fun H e s' => hCX w H s₁ e s'
end L2


namespace L2
open PySem PySem.Spec PyProof.Rows

def defArgs (s : Stmt) : Arguments := match s with
  | .FunctionDef _ a _ _ _ _ _ _ _ _ => a
  | _ => { posonlyargs := [], args := [], vararg := none, kwonlyargs := [], kw_defaults := [], kwarg := none, defaults := [] }
def defBody (s : Stmt) : List Stmt := match s with
  | .FunctionDef _ _ b _ _ _ _ _ _ _ => b
  | _ => []
def defScope (s : Stmt) : Scope := match s with
  | .FunctionDef _ _ _ _ _ _ sc _ _ _ => sc
  | _ => { kind := .function, names := [], isGenerator := false, isCoroutine := false }

abbrev CX0 : CXT := fun _ _ _ _ _ _ => False
abbrev E0 : XK := fun _ _ _ => False
theorem pass0 {X : Cx} : Passes CX0 X E0 := fun _ _ _ _ _ _ _ h => h.elim

structure Fun (K : PySem.W.Frag) (x qual : Str) (st : Stmt) (f : Addr) (fd : FuncData) : Prop where
  ex : ∃ (oc : Value) (od : Option Addr) (kV doc pm : Value) (an : Option Addr) (cdv ct : Value) (osl : Array (Option Value)),
    fd = PySem.W.fnOf x qual (defArgs st) (defBody st) (defScope st) .none kV doc pm an cdv ct ∧ K.lookup f = some ⟨oc, od, .func fd, osl⟩ ∧ PySem.W.codeIn K cdv qual = true
  kp : PySem.W.keepIn K (.ref f) = true
section
variable {P : Program} {w : World} {K : PySem.W.Frag} {mg : Str → Option Value} {base : Heap}
theorem Fun.ok {x qual : Str} {st : Stmt} {f : Addr} {fd : FuncData} {N ps : List Str} {k : Nat} {sp : Sp} (F : Fun K x qual st f fd) (S : FnScope N ps (defScope st)) (len : ∀ vs H Q E, sp vs H Q E → vs.length = ps.length)
    (hbody : ∀ (cdv : Value) (A : Around) (outer : List Env) (s : Shared) (H : Hp) (vs : List V) (Q : VK) (E : XK), Room k (A.deeper (envOfC qual (defScope st) s.heap.objs.size f cdv)) → sp vs H Q E →
      ∃ t, PSs (cxOf CX0 P w K mg base N qual (defScope st) f cdv A outer s H E).nox (defBody st) t ∧ t { nx := fun _ H' => Q .non H', rt := Q } (start N vs) H) : FnOk P w K mg base CX0 (k + 1) f fd ps sp := by
  obtain ⟨oc, od, kV, doc, pm, an, cdv, ct, osl, rfl, lk, hcd⟩ := F.ex
  refine fn_of lk hcd S len fun A outer s H vs Q E hr hsp => ?_
  obtain ⟨t, h, q⟩ := hbody cdv A outer s H vs Q E hr hsp
  exact ⟨t, h.nox, q⟩
theorem Fun.binds {x qual : Str} {st : Stmt} {f : Addr} {fd : FuncData} {ps : List Str} (F : Fun K x qual st f fd)
    (h : ∀ (kV doc pm : Value) (an : Option Addr) (cdv ct : Value) (us : List Value), us.length = ps.length → bindArgs (PySem.W.fnOf x qual (defArgs st) (defBody st) (defScope st) .none kV doc pm an cdv ct) ⟨us, []⟩ = pure (ps.zip us)) : Binds K fd ps [] := by
  obtain ⟨oc, od, kV, doc, pm, an, cdv, ct, osl, rfl, lk, hcd⟩ := F.ex
  exact .all (h kV doc pm an cdv ct)
theorem fun_mk {x qual : Str} {st : Stmt} {f : Addr} {oc : Value} {od an : Option Addr} {osl : Array (Option Value)} {kV doc pm cdv ct : Value} (l : K.lookup f = some ⟨oc, od, .func (PySem.W.fnOf x qual (defArgs st) (defBody st) (defScope st) .none kV doc pm an cdv ct), osl⟩)
    (c : PySem.W.codeIn K cdv qual = true) (k : PySem.W.keepIn K (.ref f) = true) : Fun K x qual st f (PySem.W.fnOf x qual (defArgs st) (defBody st) (defScope st) .none kV doc pm an cdv ct) := ⟨⟨oc, od, kV, doc, pm, an, cdv, ct, osl, rfl, l, c⟩, k⟩
end
theorem hu_of {A : Around} {k : Nat} (hr : Room k A) : A.units + 1 < cLine := Nat.lt_of_le_of_lt (Nat.add_le_add_left (by decide : 1 ≤ 64) _) hr.units
section
variable {X : Cx}
theorem pv (i : Nat) {x : Str} {pos : Pos} (hN : X.N[i]? = some x := by rfl) (hv : Vis X.env.scope x := by first | exact Or.inl rfl | exact Or.inr (Or.inl rfl) | exact Or.inr (Or.inr rfl)) (hd : (x == ("__debug__" : Str)) = false := by decide)
    (hcd : (x == ("__classdict__" : Str)) = false := by decide) : PE X (.Name x pos) (tVar i) := pe_var hN hv hd hcd
end

def Same (H H' : Hp) : Prop := ∀ b o, H b = some o → H' b = some o
theorem Same.trans {H H1 H2 : Hp} (a : Same H H1) (b : Same H1 H2) : Same H H2 := fun c o h => b c o (a c o h)
theorem Same.free {H H' : Hp} (e : Same H H') {l : Addr} (h : H' l = Option.none) : H l = Option.none := by
  cases q : H l with
  | none => rfl
  | some o =>
    rw [e l o q] at h
    cases h
theorem Same.seq {K : PySem.W.Frag} {H H' : Hp} {a : Addr} {xs : List V} (e : Same H H') (h : SqL K H a xs) : SqL K H' a xs := by
  rcases h with (h | ⟨o, h⟩) | h
  · exact .inl (.inl (e _ _ h))
  · exact .inl (.inr ⟨o, e _ _ h⟩)
  · exact .inr h

end L2

namespace L2
open PySem PySem.Spec PyProof.Rows

structure Cal (P : Program) (w : World) (K : PySem.W.Frag) (mg : Str → Option Value) (base : Heap) (CX : CXT) (x : Str) (k : Nat) (ps : List Str) (sp : Sp) : Prop where
  ex : ∃ f fd, FnOk P w K mg base CX k f fd ps sp ∧ Binds K fd ps [] ∧ PySem.W.keepIn K (.ref f) = true ∧ mg x = some (.ref f)

section
variable {X : Cx} {CX : CXT} {x : Str} {j k : Nat} {ps : List Str} {sp : Sp} {E : XK} {p pos : Pos} {e : Expr} {es : List Expr} {t : TA}
theorem pe_callX (C : Cal X.prog X.w X.K X.mg X.base CX x j ps sp) (hr : Room k X.A) (hg : Gl X x) (hx : Passes CX X E) (ha : PA X (e :: es) t) (hj : j ≤ k := by decide) (hdb : (x == ("__debug__" : Str)) = false := by decide)
    (he : starEach (e :: es) X.env = (false, eval e X.env) :: starEach es X.env := by rfl) (hpl : (backTo pos (starEach es X.env)).any (·.1) = false := by rfl) :
    PE X (.Call (.Name x p) (e :: es) [] pos) (tCall sp [] E t) := by
  obtain ⟨f, fd, F, b, kp, m⟩ := C.ex
  exact pe_call F (hr.mono hj) hg m kp b .nil hx ha hdb he hpl
theorem pe_callC (C : Cal X.prog X.w X.K X.mg X.base CX0 x j ps sp) (hr : Room k X.A) (hg : Gl X x) (ha : PA X (e :: es) t) (hj : j ≤ k := by decide) (hdb : (x == ("__debug__" : Str)) = false := by decide)
    (he : starEach (e :: es) X.env = (false, eval e X.env) :: starEach es X.env := by rfl) (hpl : (backTo pos (starEach es X.env)).any (·.1) = false := by rfl) :
    PE X (.Call (.Name x p) (e :: es) [] pos) (tCall sp [] E0 t) := pe_callX C hr hg pass0 ha hj hdb he hpl
end

inductive Kn where
  | non | bl | int | str | lst | tup | dct
def tyK (T : String) : Option Kn :=
  if T = "int" then some .int else if T = "bool" then some .bl else if T = "str" then some .str else if T = "list" then some .lst else if T = "tuple" then some .tup else none
theorem tyK_int : tyK "int" = some .int := rfl
theorem tyK_bool : tyK "bool" = some .bl := rfl
theorem tyK_str : tyK "str" = some .str := rfl
theorem tyK_list : tyK "list" = some .lst := rfl
theorem tyK_tuple : tyK "tuple" = some .tup := rfl
def isiB : Kn → Kn → Bool
  | .int, .int => true
  | .bl, .int => true
  | .bl, .bl => true
  | .str, .str => true
  | .lst, .lst => true
  | .tup, .tup => true
  | _, _ => false
def dctO (a : Addr) : HO := .ext fun h => ∃ o, h.get? a = some o ∧ o.cls = .type "dict"
def Kd (K : PySem.W.Frag) (H : Hp) : V → Kn → Prop
  | .non, k => k = .non
  | .bl _, k => k = .bl
  | .int _, k => k = .int
  | .str _, k => k = .str
  | .ref a, k => (k = .lst ∧ ∃ xs, SqL K H a xs) ∨ (k = .tup ∧ ∃ xs, SqT K H a xs) ∨ (k = .dct ∧ H a = some (dctO a))
  | _, _ => False
def rIsi (K : PySem.W.Frag) : List V → Hp → VK → Prop := fun xs H Q => ∃ x T kt k, xs = [x, .ty T] ∧ tyK T = some kt ∧ Kd K H x k ∧ Q (.bl (isiB k kt)) H
theorem tyK_some {T : String} {kt : Kn} (h : tyK T = some kt) : (T = "int" ∧ kt = .int) ∨ (T = "bool" ∧ kt = .bl) ∨ (T = "str" ∧ kt = .str) ∨ (T = "list" ∧ kt = .lst) ∨ (T = "tuple" ∧ kt = .tup) := by
  unfold tyK at h
  split at h
  · next e => exact .inl ⟨e, (Option.some.inj h).symm⟩
  split at h
  · next e => exact .inr (.inl ⟨e, (Option.some.inj h).symm⟩)
  split at h
  · next e => exact .inr (.inr (.inl ⟨e, (Option.some.inj h).symm⟩))
  split at h
  · next e => exact .inr (.inr (.inr (.inl ⟨e, (Option.some.inj h).symm⟩)))
  split at h
  · next e => exact .inr (.inr (.inr (.inr ⟨e, (Option.some.inj h).symm⟩)))
  · cases h
section
variable {X : Cx}
theorem call_isi : CallR X (.builtin "isinstance") (rIsi X.K) := by
  intro pins s σ H xs us Q I r h
  obtain ⟨x, T, kt, k, rfl, ht, hk, q⟩ := h
  obtain ⟨u, w', rfl, rx, rt⟩ := vals2 r
  obtain rfl : w' = Value.type T := rt
  have f1 : EP X pins σ Q (.bool (isiB k kt)) s := ⟨.bl _, H, I, rfl, q⟩
  have f2 : EP X pins σ Q (.bool (isiB k kt)) { s with toks := s.toks + 1 } := ⟨.bl _, H, I.tok _, rfl, q⟩
  have hT := tyK_some ht
  clear ht q
  cases x with
  | non =>
    obtain rfl : u = Value.none := rx
    obtain rfl : k = .non := hk
    rcases hT with ⟨rfl, rfl⟩ | ⟨rfl, rfl⟩ | ⟨rfl, rfl⟩ | ⟨rfl, rfl⟩ | ⟨rfl, rfl⟩
    · exact IsiPair.NoneType_int f2
    · exact IsiPair.NoneType_bool f2
    · exact IsiPair.NoneType_str f2
    · exact IsiPair.NoneType_list f2
    · exact IsiPair.NoneType_tuple f2
  | bl b =>
    obtain rfl : u = Value.bool b := rx
    obtain rfl : k = .bl := hk
    rcases hT with ⟨rfl, rfl⟩ | ⟨rfl, rfl⟩ | ⟨rfl, rfl⟩ | ⟨rfl, rfl⟩ | ⟨rfl, rfl⟩
    · first | exact IsiPair.bool_int f1 | exact IsiPair.bool_int f2
    · exact IsiPair.bool_bool f1
    · exact IsiPair.bool_str f2
    · exact IsiPair.bool_list f2
    · exact IsiPair.bool_tuple f2
  | int i =>
    obtain ⟨t, rfl⟩ := rx
    obtain rfl : k = .int := hk
    rcases hT with ⟨rfl, rfl⟩ | ⟨rfl, rfl⟩ | ⟨rfl, rfl⟩ | ⟨rfl, rfl⟩ | ⟨rfl, rfl⟩
    · exact IsiPair.int_int f1
    · exact IsiPair.int_bool f2
    · exact IsiPair.int_str f2
    · exact IsiPair.int_list f2
    · exact IsiPair.int_tuple f2
  | str z =>
    obtain ⟨t, rfl⟩ := rx
    obtain rfl : k = .str := hk
    rcases hT with ⟨rfl, rfl⟩ | ⟨rfl, rfl⟩ | ⟨rfl, rfl⟩ | ⟨rfl, rfl⟩ | ⟨rfl, rfl⟩
    · exact IsiPair.str_int f2
    · exact IsiPair.str_bool f2
    · exact IsiPair.str_str f1
    · exact IsiPair.str_list f2
    · exact IsiPair.str_tuple f2
  | ref a =>
    obtain rfl : u = Value.ref a := rx
    rcases hk with ⟨rfl, xs, hq⟩ | ⟨rfl, xs, hq⟩ | ⟨rfl, hq⟩
    · obtain ⟨its, _, ⟨o, n, e, c, _, _⟩, _⟩ := I.list hq
      rcases hT with ⟨rfl, rfl⟩ | ⟨rfl, rfl⟩ | ⟨rfl, rfl⟩ | ⟨rfl, rfl⟩ | ⟨rfl, rfl⟩
      · exact IsiPair.list_int e c f2
      · exact IsiPair.list_bool e c f2
      · exact IsiPair.list_str e c f2
      · exact IsiPair.list_list e c f1
      · exact IsiPair.list_tuple e c f2
    · obtain ⟨its, _, ⟨o, e, c, _⟩, _⟩ := I.tuple hq
      rcases hT with ⟨rfl, rfl⟩ | ⟨rfl, rfl⟩ | ⟨rfl, rfl⟩ | ⟨rfl, rfl⟩ | ⟨rfl, rfl⟩
      · exact IsiPair.tuple_int e c f2
      · exact IsiPair.tuple_bool e c f2
      · exact IsiPair.tuple_str e c f2
      · exact IsiPair.tuple_list e c f2
      · exact IsiPair.tuple_tuple e c f1
    · obtain ⟨⟨o, e, c⟩, _⟩ := I.hok a _ hq
      rcases hT with ⟨rfl, rfl⟩ | ⟨rfl, rfl⟩ | ⟨rfl, rfl⟩ | ⟨rfl, rfl⟩ | ⟨rfl, rfl⟩
      · exact IsiPair.dict_int e c f2
      · exact IsiPair.dict_bool e c f2
      · exact IsiPair.dict_str e c f2
      · exact IsiPair.dict_list e c f2
      · exact IsiPair.dict_tuple e c f2
  | _ => exact False.elim hk
end

section
variable {X : Cx} {tg : Expr}
end
def ForW (J : It) (g : TG) (tb : TS) (D : Ends) (σ : St) (H : Hp) : Prop := ∃ W : Nat → Nat → St → Hp → Prop, (∃ m, W 0 m σ H) ∧ ∀ i m σ H, W i m σ H →
  (J.stop i H ∧ D.nx σ H) ∨ (J.go i H ∧ ∃ N : St → Hp → Prop, (∀ σ' H', N σ' H' → ∃ m', m' < m ∧ W (i + 1) m' σ' H') ∧ ∀ x H', J.yld i H x H' → g x σ H' fun σ2 H2 => tb { D with nx := N, ct := N, bk := D.nx } σ2 H2)
theorem tFor_eq {wi : TI} {g : TG} {tb : TS} {D : Ends} {σ : St} {H : Hp} : tFor wi g tb D σ H = wi σ H fun J H1 => ForW J g tb D σ H1 := rfl
section
variable {K : PySem.W.Frag} {a : Addr} {xs : List V} {g : TG} {tb : TS} {D : Ends} {σ : St} {H : Hp} {lo : Int} {n : Nat}
theorem forW_list (xs : List V) (Pv : Nat → St → Hp → Prop) (h0 : Pv 0 σ H) (hl : ∀ i σ H, i ≤ xs.length → Pv i σ H → SqL K H a xs)
    (hs : ∀ i x σ H, xs[i]? = some x → Pv i σ H → g x σ H fun σ2 H2 => tb { D with nx := Pv (i + 1), ct := Pv (i + 1), bk := D.nx } σ2 H2) (hd : ∀ σ H, Pv xs.length σ H → D.nx σ H) : ForW (Itl K a) g tb D σ H := for_list Pv h0 hl hs hd
theorem forW_range (Pv : Nat → St → Hp → Prop) (h0 : Pv 0 σ H)
    (hs : ∀ i σ H, i < n → Pv i σ H → g (.int (lo + i)) σ H fun σ2 H2 => tb { D with nx := Pv (i + 1), ct := Pv (i + 1), bk := D.nx } σ2 H2) (hd : ∀ σ H, Pv n σ H → D.nx σ H) : ForW (Itr lo n) g tb D σ H := for_range Pv h0 hs hd
end

structure Bits (n : Nat) (i : Int) : Prop where
  lt : i.natAbs < 2 ^ n
theorem Bits.mono {m n : Nat} {i : Int} (h : Bits m i) (le : m ≤ n) : Bits n i := ⟨Nat.lt_of_lt_of_le h.lt (Nat.pow_le_pow_right (by decide) le)⟩
theorem Bits.of {n : Nat} {i b : Int} (lo : -b ≤ i) (hi : i ≤ b) (hb : b < ((2 ^ n : Nat) : Int)) : Bits n i := ⟨by omega⟩
theorem Bits.bits {n : Nat} {i : Int} (h : Bits n i) : Builtin.Int.intBits i ≤ n := by
  unfold Builtin.Int.intBits
  split
  · exact Nat.zero_le _
  · have q := h.lt
    rcases Nat.eq_zero_or_pos i.natAbs with h0 | hp
    · rw [h0] at q ⊢
      have : (0 : Nat).log2 = 0 := by decide
      rename_i hz
      exact absurd (by simp; omega) hz
    · have := (Nat.log2_lt (Nat.ne_of_gt hp)).mpr q
      omega
def CMulB (i j : Int) : Prop := Bits 100000 i ∧ Bits 100000 j
theorem CMulB.ok {i j : Int} (h : CMulB i j) : IntMulOk i j := IntMulOk.of_bits (Nat.le_trans h.1.bits (by decide)) (Nat.le_trans h.2.bits (by decide))
def CDivB (_ j : Int) : Prop := 0 < j ∧ Bits 8999 j
theorem CDivB.ok {i j : Int} (h : CDivB i j) : Builtin.divisionGoesByPylong i j = false := by
  refine PyProof.noPylong_of_log2 ?_
  have q := h.2.lt
  have := (Nat.log2_lt (n := j.natAbs) (k := 8999) (by have := h.1; omega)).mpr q
  omega
section
variable {X : Cx}
theorem op_mulB : OpR X (binaryOp .Mult) (rI CMulB fun i j => .int (i * j)) := opI fun _ _ _ _ _ _ _ hc q => mul_int q hc.ok
theorem op_fdivB : OpR X (binaryOp .FloorDiv) (rI CDivB fun i j => .int (i / j)) := opI fun i j _ _ _ _ _ hc q => by
  have h1 : (0 : Int) < j := hc.1
  exact floordiv_int (by omega) (by rw [Int.fdiv_eq_ediv_of_nonneg i (by omega)]; exact q) (.inl hc.ok)
def tMenu (t : TA) (ti : TE) : TE := fun σ H Q => t σ H fun xs H1 => xs.length ≤ sizeLine ∧ ti σ H1 fun y H2 => ∃ i v, y = .int i ∧ 0 ≤ i ∧ xs[i.toNat]? = some v ∧ Q v H2
end
section
variable {X : Cx} {es : List Expr} {b : Expr} {t : TA} {ti : TE} {pos p2 : Pos}
theorem pe_menu (h : PA X es t) (hb : PE X b ti) (hs : PlainIx b) : PE X (.Subscript (.List es p2) b pos) (tMenu t ti) := by
  intro pins s σ H Q I hq
  refine Subscript_ (wpAny_List_spliced (thn (h p2 pins s σ H _ I hq) fun us s1 ⟨xs, H1, I1, r, z, q⟩ => ⟨by rw [← r.length]; exact z, ?_⟩))
  have hf : H1 s1.heap.objs.size = none := I1.hok.fresh (Nat.le_refl _)
  have I2 : Inv X (pins ++ [(s1.heap.objs.size, { cls := .type "list", data := .seq us.toArray })]) σ H1 { s1 with heap := s1.heap.push { cls := .type "list", data := .seq us.toArray } } := by
    have J : Inv X pins σ H1 { s1 with heap := s1.heap.push { cls := .type "list", data := .seq us.toArray } } := I1.kept (t' := s1.toks) fun b u e => Heap.get?_push_of_some _ e
    refine J.pins_of fun p hp => ?_
    rcases List.mem_append.mp hp with hp | hp
    · exact J.pin p (List.mem_append_right _ hp)
    · have e := List.mem_singleton.mp hp
      subst e
      exact ⟨Heap.get?_push_size _ rfl, hf, Nat.ne_of_gt I1.lt, I1.nofs (Nat.le_refl _), fun v z => by cases z⟩
  refine thn (hb _ _ σ H1 _ I2 q) fun u s2 ⟨y, H2, I3, ry, i, v, e, h0, ha, q2⟩ => ?_
  subst e
  obtain ⟨t', rfl⟩ := ry
  obtain ⟨hp, _⟩ := I3.pin (s1.heap.objs.size, { cls := .type "list", data := .seq us.toArray }) (List.mem_append_right _ (List.mem_append_right _ (List.mem_singleton.mpr rfl)))
  obtain ⟨w, ew, rw'⟩ := r.get ha
  have I4 : Inv X pins σ H2 s2 := I3.pins_of fun p hp => I3.pin p (List.mem_append_right _ (List.mem_append_left _ hp))
  have hl := r.length
  have hn := line63
  have hi : i.toNat < us.length := (List.getElem?_eq_some_iff.mp ew).1
  have fin : EP X pins σ Q w s2 := ⟨v, H2, I4, rw', q2⟩
  exact item_listR (l := s1.heap.objs.size) ⟨_, hp, rfl, _, rfl⟩ h0 (by omega) (by simpa using ew) fin (hs _ _)
end
theorem isi_non_bl : isiB .non .bl = false := rfl
theorem isi_non_int : isiB .non .int = false := rfl
theorem isi_non_str : isiB .non .str = false := rfl
theorem isi_non_lst : isiB .non .lst = false := rfl
theorem isi_non_tup : isiB .non .tup = false := rfl
theorem isi_bl_bl : isiB .bl .bl = true := rfl
theorem isi_bl_int : isiB .bl .int = true := rfl
theorem isi_bl_str : isiB .bl .str = false := rfl
theorem isi_bl_lst : isiB .bl .lst = false := rfl
theorem isi_bl_tup : isiB .bl .tup = false := rfl
theorem isi_int_bl : isiB .int .bl = false := rfl
theorem isi_int_int : isiB .int .int = true := rfl
theorem isi_int_str : isiB .int .str = false := rfl
theorem isi_int_lst : isiB .int .lst = false := rfl
theorem isi_int_tup : isiB .int .tup = false := rfl
theorem isi_str_bl : isiB .str .bl = false := rfl
theorem isi_str_int : isiB .str .int = false := rfl
theorem isi_str_str : isiB .str .str = true := rfl
theorem isi_str_lst : isiB .str .lst = false := rfl
theorem isi_str_tup : isiB .str .tup = false := rfl
theorem isi_lst_bl : isiB .lst .bl = false := rfl
theorem isi_lst_int : isiB .lst .int = false := rfl
theorem isi_lst_str : isiB .lst .str = false := rfl
theorem isi_lst_lst : isiB .lst .lst = true := rfl
theorem isi_lst_tup : isiB .lst .tup = false := rfl
theorem isi_tup_bl : isiB .tup .bl = false := rfl
theorem isi_tup_int : isiB .tup .int = false := rfl
theorem isi_tup_str : isiB .tup .str = false := rfl
theorem isi_tup_lst : isiB .tup .lst = false := rfl
theorem isi_tup_tup : isiB .tup .tup = true := rfl
theorem isi_dct_bl : isiB .dct .bl = false := rfl
theorem isi_dct_int : isiB .dct .int = false := rfl
theorem isi_dct_str : isiB .dct .str = false := rfl
theorem isi_dct_lst : isiB .dct .lst = false := rfl
theorem isi_dct_tup : isiB .dct .tup = false := rfl
theorem Kd_non {K : PySem.W.Frag} {H : Hp} {k : Kn} : Kd K H .non k = (k = .non) := rfl
theorem Kd_bl {K : PySem.W.Frag} {H : Hp} {k : Kn} {b : Bool} : Kd K H (.bl b) k = (k = .bl) := rfl
theorem Kd_int {K : PySem.W.Frag} {H : Hp} {k : Kn} {i : Int} : Kd K H (.int i) k = (k = .int) := rfl
theorem Kd_str {K : PySem.W.Frag} {H : Hp} {k : Kn} {z : Str} : Kd K H (.str z) k = (k = .str) := rfl
theorem Kd.tup {K : PySem.W.Frag} {H : Hp} {a : Addr} {xs : List V} (h : SqT K H a xs) : Kd K H (.ref a) .tup := .inr (.inl ⟨rfl, xs, h⟩)
theorem Kd.lst {K : PySem.W.Frag} {H : Hp} {a : Addr} {xs : List V} (h : SqL K H a xs) : Kd K H (.ref a) .lst := .inl ⟨rfl, xs, h⟩
theorem Kd.dct {K : PySem.W.Frag} {H : Hp} {a : Addr} (h : H a = some (dctO a)) : Kd K H (.ref a) .dct := .inr (.inr ⟨rfl, h⟩)
theorem Kd.ref {K : PySem.W.Frag} {H : Hp} {a : Addr} {k : Kn} (h : Kd K H (.ref a) k) : k ≠ .int ∧ k ≠ .bl ∧ k ≠ .str ∧ k ≠ .non := by
  rcases h with ⟨rfl, _⟩ | ⟨rfl, _⟩ | ⟨rfl, _⟩ <;> exact ⟨(by intro z; cases z), (by intro z; cases z), (by intro z; cases z), (by intro z; cases z)⟩
theorem sc_non_non : scal .non .non = true := rfl
theorem sc_non_int {x2 : Int} : scal .non (.int x2) = true := rfl
theorem sc_int_non {x1 : Int} : scal (.int x1) .non = true := rfl
theorem sc_non_bl {x2 : Bool} : scal .non (.bl x2) = true := rfl
theorem sc_bl_non {x1 : Bool} : scal (.bl x1) .non = true := rfl
theorem sc_non_str {x2 : Str} : scal .non (.str x2) = true := rfl
theorem sc_str_non {x1 : Str} : scal (.str x1) .non = true := rfl
theorem sc_int_int {x1 : Int} {x2 : Int} : scal (.int x1) (.int x2) = true := rfl
theorem sc_bl_bl {x1 : Bool} {x2 : Bool} : scal (.bl x1) (.bl x2) = true := rfl
theorem sc_str_str {x1 : Str} {x2 : Str} : scal (.str x1) (.str x2) = true := rfl
theorem sc_int_str {x1 : Int} {x2 : Str} : scal (.int x1) (.str x2) = true := rfl
theorem sc_str_int {x1 : Str} {x2 : Int} : scal (.str x1) (.int x2) = true := rfl
theorem sc_bl_str {x1 : Bool} {x2 : Str} : scal (.bl x1) (.str x2) = true := rfl
theorem sc_str_bl {x1 : Str} {x2 : Bool} : scal (.str x1) (.bl x2) = true := rfl
theorem cxK {CX : CXT} {P : Program} {w : World} {K : PySem.W.Frag} {mg : Str → Option Value} {base : Heap} {N : List Str} {qual : Str} {scope : Scope} {f : Addr} {cd : Value} {A : Around} {outer : List Env} {s : Shared} {H : Hp} {E : XK} :
    (cxOf CX P w K mg base N qual scope f cd A outer s H E).K = K := rfl
theorem b_len : bootBuiltins "len" = some (.builtin "len") := by decide +kernel
theorem b_min : bootBuiltins "min" = some (.builtin "min") := by decide +kernel
theorem b_isinstance : bootBuiltins "isinstance" = some (.builtin "isinstance") := by decide +kernel
theorem b_int : bootBuiltins "int" = some (.type "int") := by decide +kernel
theorem b_bool : bootBuiltins "bool" = some (.type "bool") := by decide +kernel
theorem b_list : bootBuiltins "list" = some (.type "list") := by decide +kernel
theorem b_tuple : bootBuiltins "tuple" = some (.type "tuple") := by decide +kernel
theorem b_sum : bootBuiltins "sum" = some (.builtin "sum") := by decide +kernel
theorem b_sorted : bootBuiltins "sorted" = some (.builtin "sorted") := by decide +kernel
structure Mg (mg : Str → Option Value) : Prop where
  m_len : mg "len" = none
  m_range : mg "range" = none
  m_abs : mg "abs" = none
  m_max : mg "max" = none
  m_min : mg "min" = none
  m_isinstance : mg "isinstance" = none
  m_int : mg "int" = none
  m_bool : mg "bool" = none
  m_str : mg "str" = none
  m_list : mg "list" = none
  m_tuple : mg "tuple" = none
  m_sum : mg "sum" = none
  m_all : mg "all" = none
  m_enumerate : mg "enumerate" = none
  m_zip : mg "zip" = none
  m_ValueError : mg "ValueError" = none
  m_any : mg "any" = none
  m_set : mg "set" = none
  m_sorted : mg "sorted" = none
end L2

set_option maxHeartbeats 1000000
namespace L2
open PySem PySem.Spec PyProof.Rows
section
variable {prog : Program} {w : World} {A : Around} {R : Result → Shared → Prop} {s : Shared}
theorem compLoop_go {elt target iter : Expr} {ifs : List Expr} {scope : Scope} {pos : Pos} {it acc : Value} {env : Env} (I : Nat → Shared → Prop)
    (turn : ∀ n s, I n s → wpAny (model prog w) A (pyNext it) (fun r s₁ => match r with
      | none => R (.ok .next) s₁
      | some v => wpAny (model prog w) A (letOwnedTupleGo target it v) (fun _ s₁' => wpAny (model prog w) A (assign target env v) (fun _ s₂ =>
          wpAny (model prog w) A (forIn ifs true fun c r => if r = true then do let ok ← isTrue c env (eval c env); pure (ForInStep.yield ok) else pure (ForInStep.yield r)) (fun ok s₃ =>
            if ok = true then wpAny (model prog w) A (eval elt env) (fun x s₄ =>
              wpAny (model prog w) A (call (.builtin "list.append") [acc, x]) (fun _ s₅ => ∃ m, m < n ∧ I m s₅) (fun _ _ => False) s₄) (fun _ _ => False) s₃
            else ∃ m, m < n ∧ I m s₃) (fun _ _ => False) s₂) (fun _ _ => False) s₁') (fun _ _ => False) s₁) (fun _ _ => False) s)
    (n : Nat) (h : I n s) :
    codeAny (model prog w) A (.compLoop (.ListComp elt [⟨target, iter, ifs, 0⟩] scope pos) 0 it acc env) R s := by
  refine codeAny_loop rfl I (fun n s hI => ?_) n h
  show wpAny _ A ((compTurn (.ListComp elt [⟨target, iter, ifs, 0⟩] scope pos) 0 it acc env).onRaise (fun x => do noteFrame x env; theTreesLotGoes x)) _ _ s
  refine wpAny_noted ?_
  rw [compTurn_list]
  refine wpAny_bind (wpAny_standAt (wpAny_bind (wpAny_mono (turn n s hI) (fun r s₁ h₁ => ?_) fun _ _ h' => h'.elim)))
  cases r with
  | none => exact wpAny_pure h₁
  | some v =>
    refine wpAny_bind (wpAny_mono h₁ (fun _ s₁' h₁' => wpAny_bind (wpAny_mono h₁' (fun _ s₂ h₂ => wpAny_bind (wpAny_mono h₂ (fun ok s₃ h₃ => ?_) fun _ _ h' => h'.elim)) fun _ _ h' => h'.elim)) fun _ _ h' => h'.elim)
    cases ok with
    | false => exact wpAny_pure ⟨rfl, h₃⟩
    | true =>
      exact wpAny_bind (wpAny_bind (wpAny_mono h₃ (fun x s₄ h₄ => wpAny_bind (wpAny_mono h₄ (fun _ s₅ h₅ => wpAny_pure (wpAny_pure ⟨rfl, h₅⟩)) fun _ _ h' => h'.elim)) fun _ _ h' => h'.elim))
end

def blk (X : Cx) (scope : Scope) (cl : List (Str × Addr)) (N' : List Str) (s₀ : Shared) (H₀ : Hp) (C : Addr) (pn : List (Addr × Obj)) (ex : List Addr) : Cx where
  prog := X.prog
  w := X.w
  K := X.K
  mg := X.mg
  base := X.base
  A := X.A
  N := N'
  s₀ := s₀
  H₀ := H₀
  env := compEnvC scope cl C X.env
  outer := X.stack
  stack := X.stack
  ex := ex
  fn := fun _ => false
  calm := X.calm
  pn := pn
  xe := fun _ _ => False
def PIfs (X : Cx) (ifs : List Expr) (t : TT) : Prop :=
  ∀ (pins : List (Addr × Obj)) (s : Shared) (σ : St) (H : Hp) (Q : Bool → Hp → Prop), Inv X pins σ H s → t σ H Q →
    wpAny (model X.prog X.w) X.A (forIn ifs true fun c r => if r = true then do let ok ← isTrue c X.env (eval c X.env); pure (ForInStep.yield ok) else pure (ForInStep.yield r)) (TP X pins σ Q) X.xe s
def tYes : TT := fun _ H Q => Q true H
theorem pif_nil {X : Cx} : PIfs X [] tYes := fun _ _ _ H _ I h => wpAny_tests_nil ⟨H, I, h⟩
theorem pif_one {X : Cx} {c : Expr} {t : TT} (h : PT X c t) : PIfs X [c] t := fun pins s σ H Q I q => wpAny_tests_one (h pins s σ H Q I q)
def slots (ix : List Nat) (σ : St) : St := ix.map fun j => (σ[j]?).getD none
def compW (D : Addr) (J : It) (g : TG) (tt : TT) (te : TE) (Q : VK) (W : Nat → Nat → St → Hp → Prop) : Prop :=
  ∀ i m τ H2, W i m τ H2 → (J.stop i H2 ∧ Q (.ref D) H2) ∨ (J.go i H2 ∧ ∀ x H3, J.yld i H2 x H3 → g x τ H3 fun τ' H3' => tt τ' H3' fun b H4 =>
    if b = true then te τ' H4 fun v H5 => ∃ ys, H5 D = some (.lst ys) ∧ ys.length < sizeLine ∧ ∃ m', m' < m ∧ W (i + 1) m' τ' (upd H5 D (.lst (ys ++ [v]))) else ∃ m', m' < m ∧ W (i + 1) m' τ' H4)
def tComp (ix : List Nat) (nl : Nat) (wi : TI) (g : TG) (tt : TT) (te : TE) : TE := fun σ H Q => wi σ H fun J H1 => ∀ D, H1 D = none →
  ∃ W : Nat → Nat → St → Hp → Prop, (∃ m, W 0 m (slots ix σ ++ List.replicate nl none) (upd H1 D (.lst []))) ∧ compW D J g tt te Q W

structure CompOk (X : Cx) (scope : Scope) (cl : List (Str × Addr)) (N' : List Str) (ix : List Nat) (nl : Nat) : Prop where
  clos : closureFor scope X.env = pure cl
  sub : ∀ y c, cl.lookup y = some c → X.env.cells.lookup y = some c
  has : ∀ p ∈ (relabel scope X.env).names, (p.2 = .cell ∨ p.2 = .free) → (cl.lookup p.1).isSome = true
  cell : ∀ y ∈ scope.names, y.2 ≠ .cell
  kind : scope.kind = .function
  names : ∀ y ∈ scope.names, y.2 = .local → scope.names.lookup y.1 = some .local
  len : N'.length = ix.length + nl
  out : ∀ (i j : Nat) (y : Str), ix[i]? = some j → N'[i]? = some y → X.N[j]? = some y ∧ (X.env.kindOf y = some .cell ∨ X.env.kindOf y = some .free) ∧ ((relabel scope X.env).names.lookup y = some .cell ∨ (relabel scope X.env).names.lookup y = some .free)

theorem fm0 {α : Type} {P : α → Prop} : ∀ p ∈ ([] : List α), P p := fun _ h => nomatch h
theorem fm1 {α : Type} {P : α → Prop} {a : α} {l : List α} (h : P a) (r : ∀ p ∈ l, P p) : ∀ p ∈ a :: l, P p := List.forall_mem_cons.mpr ⟨h, r⟩
def OutsOk (X : Cx) (scope : Scope) : List Nat → List Str → Prop
  | [], _ => True
  | j :: r, y :: t => (X.N[j]? = some y ∧ (X.env.kindOf y = some .cell ∨ X.env.kindOf y = some .free) ∧ ((relabel scope X.env).names.lookup y = some .cell ∨ (relabel scope X.env).names.lookup y = some .free)) ∧ OutsOk X scope r t
  | _ :: _, [] => False
theorem OutsOk.at {X : Cx} {scope : Scope} : ∀ {ix : List Nat} {N : List Str}, OutsOk X scope ix N → ∀ (i j : Nat) (y : Str), ix[i]? = some j → N[i]? = some y → X.N[j]? = some y ∧ (X.env.kindOf y = some .cell ∨ X.env.kindOf y = some .free) ∧ ((relabel scope X.env).names.lookup y = some .cell ∨ (relabel scope X.env).names.lookup y = some .free)
  | [], _, _, i, j, y, h1, _ => by simp at h1
  | _ :: _, [], h, _, _, _, _, _ => h.elim
  | _ :: _, _ :: _, h, 0, j, y, h1, h2 => by
    simp at h1 h2
    subst h1 h2
    exact h.1
  | _ :: _, _ :: _, h, i + 1, j, y, h1, h2 => OutsOk.at h.2 i j y (by simpa using h1) (by simpa using h2)
theorem CompOk.make {X : Cx} {scope : Scope} {cl : List (Str × Addr)} {N' : List Str} {ix : List Nat} {nl : Nat} (clos : closureFor scope X.env = pure cl) (sub : ∀ p ∈ cl, X.env.cells.lookup p.1 = some p.2)
    (has : ((relabel scope X.env).names.all fun p => !(p.2 == .cell || p.2 == .free) || (cl.lookup p.1).isSome) = true) (cell : ∀ y ∈ scope.names, y.2 ≠ .cell) (kind : scope.kind = .function)
    (names : ∀ y ∈ scope.names, y.2 = .local → scope.names.lookup y.1 = some .local) (len : N'.length = ix.length + nl) (out : OutsOk X scope ix N') : CompOk X scope cl N' ix nl :=
  ⟨clos, fun y c h => sub (y, c) (PySem.mem_of_lookup h), fun p hp hc => by
    have q := List.all_eq_true.mp has p hp
    rcases hc with e | e <;> (rw [e] at q; simpa using q), cell, kind, names, len, out.at⟩

section
variable {X : Cx} {pins : List (Addr × Obj)} {σ : St} {H : Hp} {s : Shared}
theorem blk_ok {scope : Scope} {cl : List (Str × Addr)} {N' : List Str} {ix : List Nat} {nl : Nat} {C : Addr} {fp : List Addr} (O : CompOk X scope cl N' ix nl) (I : Inv X pins σ H s) (hC : s.heap.objs.size ≤ C) (f : ∀ b ∈ fp, FpOk X pins H b) (lt : ∀ b ∈ fp, b < s.heap.objs.size) :
    (blk X scope cl N' s H C (X.pn ++ pins) fp).Ok where
  mod := I.ok.mod
  kind := O.kind
  glob := I.ok.glob
  blt := I.ok.blt
  above := hC
  inj := fun x y c h1 h2 => I.ok.inj x y c (O.sub x c h1) (O.sub y c h2)
  has := fun x hx => by
    have hx' : (relabel scope X.env).names.lookup x = some .cell ∨ (relabel scope X.env).names.lookup x = some .free := hx
    rcases hx' with h | h
    · exact Option.isSome_iff_exists.mp (O.has _ (PySem.mem_of_lookup h) (.inl rfl))
    · exact Option.isSome_iff_exists.mp (O.has _ (PySem.mem_of_lookup h) (.inr rfl))
  cab := fun x c h => nomatch (show false = true from h)
  hd := I.ok.hd
  frames := I.ok.frames
  stk := .inl rfl
  exf := fun b hb => ⟨Nat.ne_of_lt (Nat.lt_of_lt_of_le (lt b hb) hC), fun x c h => (f b hb).2.2.2.2.1 x c (O.sub x c h)⟩
  bs := I.bs
  bsz := Nat.le_trans I.ok.bsz I.sz
  noex := fun b o e hb => by
    rcases (f b hb).2.2.2.1 with z | z
    · exact I.ok.noex b o e z
    · exact absurd (Nat.lt_of_lt_of_le (Heap.lt_size e) (Nat.le_trans I.ok.bsz z)) (Nat.lt_irrefl _)
  exfs := fun b hb z => by
    rcases List.mem_cons.mp (I.stkSub b z) with e | e
    · exact (f b hb).2.1 e
    · exact (f b hb).2.2.1 e
  funs := I.stack
  frf := I.stkFree

theorem blk_inv {scope : Scope} {cl : List (Str × Addr)} {N' : List Str} {ix : List Nat} {nl : Nat} {C : Addr} {fp : List Addr} {h' : Heap} {t' : Nat} (O : CompOk X scope cl N' ix nl) (I : Inv X pins σ H s) (hC : s.heap.objs.size ≤ C) (f : ∀ b ∈ fp, FpOk X pins H b) (lt : ∀ b ∈ fp, b < s.heap.objs.size)
    (hn : h'.Ns C fun _ => none) (k : ∀ b o, s.heap.get? b = some o → h'.get? b = some o) :
    Inv (blk X scope cl N' s H C (X.pn ++ pins) fp) [] (slots ix σ ++ List.replicate nl none) H { s with heap := h', toks := t' } := by
  refine ⟨blk_ok O I hC f lt, rfl, I.bare, Un.kept k, ⟨_, hn, fun i x v e1 e2 e3 => ?_⟩, fun x c e => ?_, I.hok.fresh hC, fun x c e => I.freeC x c (O.sub x c e), fun p hp => ?_, I.hok.kept k, ?_⟩
  · have e1 : N'[i]? = some x := e1
    have hi : i < ix.length := by
      by_cases hi : i < ix.length
      · exact hi
      · rw [List.getElem?_append_right (by simpa [slots] using hi)] at e2
        rw [List.getElem?_replicate] at e2
        split at e2 <;> cases e2
    have e2' : (σ[ix[i]]?).getD none = some v := by
      rw [List.getElem?_append_left (by simpa [slots] using hi)] at e2
      simpa [slots, hi] using e2
    have e4 : σ[ix[i]]? = some (some v) := by
      cases q : σ[ix[i]]? with
      | none => rw [q] at e2'; cases e2'
      | some z => rw [q] at e2'; exact congrArg some e2'
    obtain ⟨o1, o2, o3⟩ := O.out i ix[i] x (by simp [hi]) e1
    obtain ⟨m, hm, hl⟩ := I.loc
    have vis : Vis X.env.scope x := by
      rcases o2 with z | z
      · exact .inr (.inl z)
      · exact .inr (.inr z)
    obtain ⟨u, r, l⟩ := hl _ x v o1 e4 vis
    rcases l with ⟨z, _⟩ | ⟨_, c, hc, o, ho, hd⟩
    · rcases o2 with y | y <;> (rw [y] at z; cases z)
    · obtain ⟨c', hc'⟩ := (blk_ok O I hC f lt).has x o3
      have z := O.sub x c' hc'
      rw [hc] at z
      cases z
      exact ⟨u, r, .inr ⟨o3, c, hc', o, k _ _ ho, hd⟩⟩
  · obtain ⟨v, q⟩ := I.cell x c (O.sub x c e)
    exact ⟨v, by obtain ⟨o, ho, hd⟩ := q; exact ⟨o, k _ _ ho, hd⟩⟩
  · have hp' : p ∈ X.pn ++ pins := by
      have z : p ∈ (X.pn ++ pins) ++ [] := hp
      rwa [List.append_nil] at z
    obtain ⟨a1, a2, a3, a4, a5⟩ := I.pin p hp'
    refine ⟨k _ _ a1, a2, Nat.ne_of_lt (Nat.lt_of_lt_of_le (Heap.lt_size a1) hC), fun z => ?_, a5⟩
    rcases List.mem_cons.mp (I.stkSub p.1 z) with e | e
    · exact a3 e
    · exact a4 e
  · show (slots ix σ ++ List.replicate nl none).length = N'.length
    rw [List.length_append, List.length_replicate, O.len]
    simp [slots]

theorem blk_back {scope : Scope} {cl : List (Str × Addr)} {N' : List Str} {C : Addr} {fp : List Addr} {s' : Shared} {τ : St} {H' : Hp} (I : Inv X pins σ H s) (f : ∀ b ∈ fp, FpOk X pins H b)
    (J : Inv (blk X scope cl N' s H C (X.pn ++ pins) fp) [] τ H' s') : Inv X pins σ H' s' :=
  I.call' J.os J.base J.hok J.bare fun b hb => ⟨(f b hb).2.2.2.1, (f b hb).2.1, (f b hb).2.2.2.2.1, (f b hb).2.2.2.2.2⟩
theorem Inv.letgo {C : Addr} {s' : Shared} {h' : Heap} (J : Inv X pins σ H s') (hsz : X.s₀.heap.objs.size ≤ C) (hL : C ≠ X.env.locals) (hc : ∀ x c, X.env.cells.lookup x = some c → c ≠ C) (hp : ∀ p ∈ X.pn ++ pins, p.1 ≠ C) (hH : H C = none)
    (sb : Heap.SameBut C s'.heap h') : Inv X pins σ H { s' with heap := h' } :=
  J.turned (t' := s'.toks) (it := C) (fun b o hb e => sb.extBut b o hb e) hH hL (.inr hsz) hc hp
theorem blk_loop {elt iter tg : Expr} {ifs : List Expr} {scope : Scope} {pos : Pos} {cl : List (Str × Addr)} {N' : List Str} {C D it : Addr} {fp : List Addr} {tn : Nat → Heap → Prop} {J : It} {g : TG} {tt : TT} {te : TE} {s₄ : Shared} {W : Nat → Nat → St → Hp → Prop} {Q : VK}
    {τ : St} {H₀ : Hp} {s₃ : Shared} {pn : List (Addr × Obj)} {m0 : Nat} {R : Result → Shared → Prop} (hc : X.calm = true) (T : Turn X.prog X.w X.K tg J fp it tn)
    (f : ∀ H', (∀ b ∈ fp, H' b = none) → ∀ b ∈ fp, FpOk (blk X scope cl N' s₃ H₀ C pn fp) [] H' b)
    (hg : PG (blk X scope cl N' s₃ H₀ C pn fp) tg g) (ht : PIfs (blk X scope cl N' s₃ H₀ C pn fp) ifs tt) (he : PE (blk X scope cl N' s₃ H₀ C pn fp) elt te)
    (I4 : Inv (blk X scope cl N' s₃ H₀ C pn fp) [] τ H s₄) (st : tn 0 s₄.heap) (fr : ∀ b ∈ fp, H b = none) (w0 : W 0 m0 τ H) (hW : compW D J g tt te Q W)
    (fin : ∀ τ' H' s', Inv (blk X scope cl N' s₃ H₀ C pn fp) [] τ' H' s' → Q (.ref D) H' → R (.ok .next) s') :
    codeAny (model X.prog X.w) X.A (.compLoop (.ListComp elt [⟨tg, iter, ifs, 0⟩] scope pos) 0 (.ref it) (.ref D) (compEnvC scope cl C X.env)) R s₄ := by
  refine compLoop_go (fun n s' => ∃ i τ' H', Inv (blk X scope cl N' s₃ H₀ C pn fp) [] τ' H' s' ∧ tn i s'.heap ∧ (∀ b ∈ fp, H' b = none) ∧ W i n τ' H') ?_ m0 ⟨0, τ, H, I4, st, fr, w0⟩
  rintro n s5 ⟨i, τ5, H5, I5, st5, fr5, w5⟩
  rcases hW i n τ5 H5 w5 with ⟨stop, q⟩ | ⟨go, step⟩
  · refine thn (T.done (blk X scope cl N' s₃ H₀ C pn fp) rfl rfl rfl hc i [] s5 τ5 H5 (fun _ _ => False) I5 (f H5 fr5) st5 stop) fun r s6 ⟨hr, I6⟩ => ?_
    subst hr
    exact fin τ5 H5 s6 I6 q
  · refine thn (T.item (blk X scope cl N' s₃ H₀ C pn fp) rfl rfl rfl hc i [] s5 τ5 H5 (fun _ _ => False) I5 (f H5 fr5) st5 go) fun r s6 ⟨u, hr, h6⟩ => ?_
    subst hr
    refine thn h6 fun _ s7 ⟨x, H7, I7, r7, y7, st7, fr7⟩ => ?_
    have I7' := I7.pinned (f H7 fr7) (T.obj _ _ st7)
    have keep : ∀ {τ8 : St} {H8 : Hp} {s8 : Shared}, Inv (blk X scope cl N' s₃ H₀ C pn fp) ([] ++ pinsAt fp s7.heap) τ8 H8 s8 → Inv (blk X scope cl N' s₃ H₀ C pn fp) [] τ8 H8 s8 ∧ tn (i + 1) s8.heap ∧ ∀ b ∈ fp, H8 b = none := fun {τ8 H8 s8} I8 => by
      refine ⟨I8.unpinned, T.keep _ _ _ st7 fun b hb o e => (I8.pin (b, o) (List.mem_append_right _ (List.mem_append_right _ (mem_pinsAt hb e)))).1, fun b hb => ?_⟩
      obtain ⟨o, e, d⟩ := T.obj _ _ st7 b hb
      exact (I8.pin (b, o) (List.mem_append_right _ (List.mem_append_right _ (mem_pinsAt hb e)))).2.1
    refine thn (hg _ s7 τ5 H7 x u _ I7' r7 (step x H7 y7)) fun _ s8 ⟨τ8, H8, I8, q8⟩ => ?_
    refine thn (ht _ s8 τ8 H8 _ I8 q8) fun b s9 ⟨H9, I9, q9⟩ => ?_
    cases b with
    | false =>
      obtain ⟨m', hm, w'⟩ := q9
      obtain ⟨k1, k2, k3⟩ := keep I9
      exact ⟨m', hm, i + 1, τ8, H9, k1, k2, k3, w'⟩
    | true =>
      refine thn (he _ s9 τ8 H9 _ I9 q9) fun y s10 ⟨v, H10, I10, r10, ys, hD, hl, m', hm, w'⟩ => ?_
      refine thn (mt_append _ s10 τ8 H10 (.ref D) [v] (.ref D) [y] (fun _ H11 => W (i + 1) m' τ8 H11) I10 rfl (.cons r10 .nil) ⟨D, ys, v, rfl, rfl, hD, hl, w'⟩) fun z s11 ⟨_, H11, I11, _, w11⟩ => ?_
      obtain ⟨k1, k2, k3⟩ := keep I11
      exact ⟨m', hm, i + 1, τ8, H11, k1, k2, k3, w11⟩
end

section
variable {X : Cx} {elt iter tg : Expr} {ifs : List Expr} {scope : Scope} {pos : Pos} {cl : List (Str × Addr)} {N' : List Str} {ix : List Nat} {nl : Nat} {wi : TI} {g : TG} {tt : TT} {te : TE}
structure Left (X : Cx) (pins : List (Addr × Obj)) (σ : St) (C : Addr) (H : Hp) (s : Shared) : Prop where
  inv : Inv X pins σ H s
  ns : ∃ m, s.heap.Ns C m
  sz : X.s₀.heap.objs.size ≤ C
  loc : C ≠ X.env.locals
  cel : ∀ x c, X.env.cells.lookup x = some c → c ≠ C
  pin : ∀ p ∈ X.pn ++ pins, p.1 ≠ C
  non : H C = none
theorem comp_run {pins : List (Addr × Obj)} {σ : St} {H1 : Hp} {s2 : Shared} {Q : VK} {it : Addr} {fp : List Addr} {tn : Nat → Heap → Prop} {J : It} {RR : Value → Addr → Result → Shared → Prop} {E : Value → Shared → Prop}
    (hc : X.calm = true) (O : CompOk X scope cl N' ix nl) (hg : ∀ s₀ H₀ C pn ex, PG (blk X scope cl N' s₀ H₀ C pn ex) tg g) (ht : ∀ s₀ H₀ C pn ex, PIfs (blk X scope cl N' s₀ H₀ C pn ex) ifs tt)
    (he : ∀ s₀ H₀ C pn ex, PE (blk X scope cl N' s₀ H₀ C pn ex) elt te) (I1 : Inv X pins σ H1 s2) (T : Turn X.prog X.w X.K tg J fp it tn) (st : tn 0 s2.heap) (f1 : ∀ b ∈ fp, FpOk X pins H1 b)
    (q : ∀ D, H1 D = none → ∃ W : Nat → Nat → St → Hp → Prop, (∃ m, W 0 m (slots ix σ ++ List.replicate nl none) (upd H1 D (.lst []))) ∧ compW D J g tt te Q W)
    (fin : ∀ D C H' s', Left X pins σ C H' s' → Q (.ref D) H' → RR (.ref D) C (.ok .next) s') :
    wpAny (model X.prog X.w) X.A (newList []) (fun acc s₃ => wpAny (model X.prog X.w) X.A (newFunctionEnv scope X.env.globals cl [] X.env.qual none .none (some X.env)) (fun cenv s₄ =>
      codeAny (model X.prog X.w) X.A (.compStart (.ListComp elt [⟨tg, iter, ifs, 0⟩] scope pos) 0 (.ref it) acc { cenv with scope := relabel scope X.env }) (RR acc cenv.locals) s₄) E s₃) E s2 := by
  refine wpAny_newObj_type (wpAny_newFunctionEnv O.cell (by intro y hy; simp at hy) (fun h₁ hns₁ hsb₁ => ?_) O.kind)
  have hf : H1 s2.heap.objs.size = none := I1.hok.fresh (Nat.le_refl _)
  obtain ⟨W, ⟨m0, w0⟩, hW⟩ := q s2.heap.objs.size hf
  have lt : ∀ b ∈ fp, b < s2.heap.objs.size := fun b hb => by
    obtain ⟨o, e, _⟩ := T.obj _ _ st b hb
    exact Heap.lt_size e
  have I3 : Inv X pins σ (upd H1 s2.heap.objs.size (.lst [])) { s2 with heap := s2.heap.push { cls := .type "list", data := .seq ([] : List Value).toArray } } :=
    I1.laid (t' := s2.toks) (fun b u e => Heap.get?_push_of_some _ e) (Nat.le_refl _) ⟨Nat.zero_le _, [], 0, .nil, Heap.get?_push_size _ rfl⟩
  have f3 : ∀ b ∈ fp, FpOk X pins (upd H1 s2.heap.objs.size (.lst [])) b := fun b hb => ⟨by rw [upd_ne (Nat.ne_of_lt (lt b hb))]; exact (f1 b hb).1, (f1 b hb).2⟩
  have sz : (s2.heap.push { cls := .type "list", data := .seq ([] : List Value).toArray }).objs.size = s2.heap.objs.size + 1 := Heap.size_push ..
  have lt3 : ∀ b ∈ fp, b < (s2.heap.push { cls := .type "list", data := .seq ([] : List Value).toArray }).objs.size := fun b hb => by rw [sz]; exact Nat.lt_succ_of_lt (lt b hb)
  have k3 : ∀ b o, (s2.heap.push { cls := .type "list", data := .seq ([] : List Value).toArray }).get? b = some o → h₁.get? b = some o := fun b o e => hsb₁.extBut b o (Nat.ne_of_lt (Heap.lt_size e)) (Heap.get?_push_of_some _ e)
  have I4 := blk_inv (t' := s2.toks + ([] : List (Str × Value)).length) O I3 (Nat.le_refl _) f3 lt3 hns₁ k3
  have st4 : tn 0 h₁ := T.keep _ _ _ st fun b hb o e => k3 b o (Heap.get?_push_of_some _ e)
  have fB : ∀ H', (∀ b ∈ fp, H' b = none) → ∀ b ∈ fp, FpOk (blk X scope cl N' { s2 with heap := s2.heap.push { cls := .type "list", data := .seq ([] : List Value).toArray } } (upd H1 s2.heap.objs.size (.lst [])) (s2.heap.push { cls := .type "list", data := .seq ([] : List Value).toArray }).objs.size (X.pn ++ pins) fp) [] H' b := fun H' hn b hb => by
    refine ⟨hn b hb, Nat.ne_of_lt (lt3 b hb), ?_, .inl hb, fun x c h => (f1 b hb).2.2.2.2.1 x c (O.sub x c h), fun p hp => ?_⟩
    · intro z
      rcases List.mem_cons.mp (I3.stkSub b z) with e | e
      · exact (f1 b hb).2.1 e
      · exact (f1 b hb).2.2.1 e
    · have hp' : p ∈ X.pn ++ pins := by
        have z : p ∈ (X.pn ++ pins) ++ [] := hp
        rwa [List.append_nil] at z
      exact (f1 b hb).2.2.2.2.2 p hp'
  have loop := blk_loop (pos := pos) (iter := iter) (R := RR (.ref s2.heap.objs.size) (s2.heap.push { cls := .type "list", data := .seq ([] : List Value).toArray }).objs.size) hc T fB (hg _ _ _ _ _) (ht _ _ _ _ _) (he _ _ _ _ _) I4 st4 (fun b hb => (f3 b hb).1) w0 hW (fun τ' H' s' J' qf => by
    obtain ⟨m, hm, _⟩ := J'.loc
    refine fin _ _ H' s' ⟨blk_back I3 f3 J', ⟨m, hm⟩, I3.sz, Nat.ne_of_gt I3.lt, fun x c e z => ?_, fun p hp z => ?_, J'.free⟩ qf
    · obtain ⟨v, o, ho, _⟩ := I3.cell x c e
      exact absurd (Heap.lt_size ho) (by rw [z]; exact Nat.lt_irrefl _)
    · exact absurd (Heap.lt_size (I3.pin p hp).1) (by rw [z]; exact Nat.lt_irrefl _))
  exact codeAny_compStart_list loop (T.self _ 0 _ _ _ st4 loop)
theorem pe_comp (hc : X.calm = true) (O : CompOk X scope cl N' ix nl) (hi : PI X tg iter wi) (hg : ∀ s₀ H₀ C pn ex, PG (blk X scope cl N' s₀ H₀ C pn ex) tg g) (ht : ∀ s₀ H₀ C pn ex, PIfs (blk X scope cl N' s₀ H₀ C pn ex) ifs tt)
    (he : ∀ s₀ H₀ C pn ex, PE (blk X scope cl N' s₀ H₀ C pn ex) elt te) (hs : ∀ x, foldedSetIterable iter X.env x = pure x := by intro _; rfl) :
    PE X (.ListComp elt [⟨tg, iter, ifs, 0⟩] scope pos) (tComp ix nl wi g tt te) := by
  intro pins s σ H Q I h
  rw [eval_ListComp]
  refine wpAny_comprehension_free (use := none) rfl hs O.clos O.kind O.names (thn (hi pins s σ H _ I h) fun xv s1 h1 => thn h1 fun itv s2 h2 => ?_)
  obtain ⟨it, fp, tn, J, H1, rfl, I1, T, st, f1, q⟩ := h2
  refine comp_run (RR := fun acc C => compPost (model X.prog X.w) X.A X.xe none (EP X pins σ Q) acc C) hc O hg ht he I1 T st f1 q (fun D C H' s' L qf => ?_)
  obtain ⟨m, hm⟩ := L.ns
  exact ⟨m, hm, fun h' sb => ⟨.ref D, H', L.inv.letgo L.sz L.loc L.cel L.pin L.non sb, rfl, qf⟩⟩
theorem ps_setComp {i : Nat} {y : Str} {py spos : Pos} (hN : X.N.Nodup) (hiy : X.N[i]? = some y) (hy : Loc X.env.scope y) (hc : X.calm = true) (O : CompOk X scope cl N' ix nl) (hi : PI X tg iter wi) (hg : ∀ s₀ H₀ C pn ex, PG (blk X scope cl N' s₀ H₀ C pn ex) tg g)
    (ht : ∀ s₀ H₀ C pn ex, PIfs (blk X scope cl N' s₀ H₀ C pn ex) ifs tt) (he : ∀ s₀ H₀ C pn ex, PE (blk X scope cl N' s₀ H₀ C pn ex) elt te)
    (hsw : swapsWith (.ListComp elt [⟨tg, iter, ifs, 0⟩] scope pos) (some (.Name y py)) spos.line X.env = pure true) (hs : ∀ x, foldedSetIterable iter X.env x = pure x := by intro _; rfl)
    (hf : X.fn y = true ∨ X.env.scope.names.lookup y = some .local := by first | exact .inl rfl | exact .inr rfl | assumption) :
    PS X (.Assign [.Name y py] (.ListComp elt [⟨tg, iter, ifs, 0⟩] scope pos) spos) (tAsg (tComp ix nl wi g tt te) (gName i)) := by
  intro pins s σ H D0 I h
  rw [exec_Assign_Name_used _ _ _ _ hsw]
  refine wpAny_bind (wpAny_standAt (wpAny_bind ?_))
  show wpAny _ X.A (do let _ ← comprehension (.ListComp elt [⟨tg, iter, ifs, 0⟩] scope pos) scope X.env _ (newList []) false (eval iter X.env) (some (assign (.Name y py) X.env))) _ _ s
  refine wpAny_bind (wpAny_mono (wpAny_comprehension_free (use := some (assign (.Name y py) X.env)) (Q := fun _ s' => SP X pins D0 .next s') rfl hs O.clos O.kind O.names (thn (hi pins s σ H _ I h) fun xv s1 h1 => thn h1 fun itv s2 h2 => ?_)) (fun _ s' hq => wpAny_pure (wpAny_pure hq)) fun _ _ e => e)
  obtain ⟨it, fp, tn, J, H1, rfl, I1, T, st, f1, q⟩ := h2
  refine comp_run (RR := fun acc C => compPost (model X.prog X.w) X.A X.xe (some (assign (.Name y py) X.env)) (fun _ s' => SP X pins D0 .next s') acc C) hc O hg ht he I1 T st f1 q (fun D C H' s' L qf => ?_)
  obtain ⟨m, hm⟩ := L.ns
  show wpAny _ X.A (assign (.Name y py) X.env (.ref D)) _ _ _
  refine wpAny_assign_Name (store_ok2 L.inv hN hiy hy (v := .ref D) rfl (fun s'' I'' z => ?_) hf)
  obtain ⟨a, sb2, ha⟩ := z
  have ne : C ≠ a := by
    rcases ha with e | e
    · rw [e]; exact L.loc
    · exact fun z => L.cel _ a e z.symm
  refine ⟨m, hm.at' fun o e => sb2.extBut C o ne e, fun h' sb => ⟨_, H', I''.letgo L.sz L.loc L.cel L.pin L.non sb, qf⟩⟩
end
end L2

namespace L2
open PySem PySem.Spec PyProof.Rows
theorem vals_at {xs : List V} {its : List Value} (r : Vals xs its) {j : Nat} (h : j < its.length) : ∃ x, xs[j]? = some x ∧ RelV x its[j] := by
  have hl := r.length
  have hj : j < xs.length := by omega
  obtain ⟨u, e, rv⟩ := r.get (i := j) (x := xs[j]) (by simp [hj])
  have e2 : its[j]? = some its[j] := by simp [h]
  rw [e2] at e
  cases e
  exact ⟨xs[j], by simp [hj], rv⟩
section
variable {X : Cx}
end
end L2

namespace L2
open PySem PySem.Spec PyProof.Rows
def tComp1 (D : Addr) (g : TG) (tt : TT) (te : TE) (x : V) (τ : St) (H : Hp) (R : St → Hp → Prop) : Prop := g x τ H fun τ' H' => tt τ' H' fun b H4 =>
  if b = true then te τ' H4 fun v H5 => ∃ ys, H5 D = some (.lst ys) ∧ ys.length < sizeLine ∧ R τ' (upd H5 D (.lst (ys ++ [v]))) else R τ' H4
def CompS (D : Addr) (J : It) (g : TG) (tt : TT) (te : TE) (Q : VK) (τ : St) (H : Hp) : Prop := ∃ W : Nat → Nat → St → Hp → Prop, (∃ m, W 0 m τ H) ∧ compW D J g tt te Q W
theorem tComp_eq {ix : List Nat} {nl : Nat} {wi : TI} {g : TG} {tt : TT} {te : TE} {σ : St} {H : Hp} {Q : VK} :
    tComp ix nl wi g tt te σ H Q = wi σ H fun J H1 => ∀ D, H1 D = none → CompS D J g tt te Q (slots ix σ ++ List.replicate nl none) (upd H1 D (.lst [])) := rfl
section
variable {K : PySem.W.Frag} {D a : Addr} {g : TG} {tt : TT} {te : TE} {Q : VK} {τ : St} {H : Hp}
theorem compS_range {lo : Int} {n : Nat} (Pv : Nat → St → Hp → Prop) (h0 : Pv 0 τ H)
    (hs : ∀ i τ H (R : St → Hp → Prop), i < n → Pv i τ H → (∀ τ' H', Pv (i + 1) τ' H' → R τ' H') → tComp1 D g tt te (.int (lo + i)) τ H R) (hd : ∀ τ H, Pv n τ H → Q (.ref D) H) : CompS D (Itr lo n) g tt te Q τ H := by
  refine ⟨fun i m τ H => m = n - i ∧ i ≤ n ∧ Pv i τ H, ⟨n, by simp, Nat.zero_le _, h0⟩, ?_⟩
  rintro i m τ H2 ⟨rfl, hi, p⟩
  by_cases hlt : i < n
  · refine .inr ⟨hlt, fun x H' y => ?_⟩
    obtain ⟨e, y⟩ := y
    subst e y
    exact hs i τ _ (fun τ' H' => ∃ m', m' < n - i ∧ m' = n - (i + 1) ∧ i + 1 ≤ n ∧ Pv (i + 1) τ' H') hlt p fun τ' H' p' => ⟨_, by omega, rfl, hlt, p'⟩
  · have e : i = n := by omega
    subst e
    exact .inl ⟨Nat.le_refl _, hd τ H2 p⟩
theorem compS_list (xs : List V) (Pv : Nat → St → Hp → Prop) (h0 : Pv 0 τ H) (hl : ∀ i τ H, i ≤ xs.length → Pv i τ H → SqL K H a xs)
    (hs : ∀ i x τ H (R : St → Hp → Prop), xs[i]? = some x → Pv i τ H → (∀ τ' H', Pv (i + 1) τ' H' → R τ' H') → tComp1 D g tt te x τ H R) (hd : ∀ τ H, Pv xs.length τ H → Q (.ref D) H) : CompS D (Itl K a) g tt te Q τ H := by
  refine ⟨fun i m τ H => m = xs.length - i ∧ i ≤ xs.length ∧ Pv i τ H, ⟨xs.length, by simp, Nat.zero_le _, h0⟩, ?_⟩
  rintro i m τ H2 ⟨rfl, hi, p⟩
  have q := hl i τ H2 hi p
  by_cases hlt : i < xs.length
  · have hx : xs[i]? = some xs[i] := by simp [hlt]
    refine .inr ⟨⟨xs, _, q, hx⟩, fun x H' y => ?_⟩
    obtain ⟨e, y⟩ := y
    subst e
    have e2 := y xs q
    rw [hx] at e2
    cases e2
    exact hs i _ τ _ (fun τ' H' => ∃ m', m' < xs.length - i ∧ m' = xs.length - (i + 1) ∧ i + 1 ≤ xs.length ∧ Pv (i + 1) τ' H') hx p fun τ' H' p' => ⟨_, by omega, rfl, hlt, p'⟩
  · have e : i = xs.length := by omega
    subst e
    exact .inl ⟨⟨xs, q, Nat.le_refl _⟩, hd τ H2 p⟩
theorem SqT.lst {H : Hp} {p b : Addr} {xs ys zs : List V} (h : SqT K H b xs) (hp : H p = some (.lst ys)) : SqT K (upd H p (.lst zs)) b xs := by
  rcases h with (h | ⟨o, h⟩) | h
  · exact .inl (.inl (by rw [upd_ne (ne_of h hp (by intro z; cases z))]; exact h))
  · exact .inl (.inr ⟨o, by rw [upd_ne (ne_of h hp (by intro z; cases z))]; exact h⟩)
  · exact .inr h
end
section
variable {X : Cx} {K : PySem.W.Frag}
theorem ix_listK (h : X.K = K) : IxR X (rIxL K) := by subst h; exact ix_list
end
end L2

namespace L2
open PySem PySem.Spec PyProof.Rows
section
variable {prog : Program} {w : World} {A : Around} {E : Value → Shared → Prop} {s : Shared}
theorem nextOf_tup_item {it l : Addr} {i : Nat} {items : Array Value} {x : Value} {Q : Value → Shared → Prop} (hit : s.heap.IsTupleIter it l i)
    (hl : s.heap.IsTuple l items) (hx : items[i]? = some x) (hQ : ∀ h', h'.IsTupleIter it l (i + 1) → Heap.SameBut it s.heap h' → Q x { s with heap := h' }) :
    wpAny (model prog w) A (Builtin.SmallTypes.nextOf (.ref it)) Q E s := by
  obtain ⟨o, ho, hc, hd⟩ := id hit
  obtain ⟨ol, hol, _, nl, hdl⟩ := hl
  unfold Builtin.SmallTypes.nextOf
  refine wpAny_bind (wpAny_callSpecial?_slot (name := Str.ofString "__next__") hit.typeIs F.slot_tuple_iterator_next
    (wpAny_call_entry F.slot_tuple_iterator_next hit.typeIs F.entry_tuple_iterator_next ?_ (F.args_tuple_iterator_next_1 _)))
  show wpAny _ _ (field (.ref it) 0 >>= _) _ _ s
  refine wpAny_bind (wpAny_field ho hd (x := .ref l) rfl ?_)
  show wpAny _ _ (if (Value.ref l == Value.none) = true then _ else _) _ _ s
  rw [if_neg (show ¬ ((Value.ref l == Value.none) = true) from Bool.false_ne_true)]
  show wpAny _ _ (field (.ref it) 1 >>= _) _ _ s
  refine wpAny_bind (wpAny_field ho hd (x := .int i 0) rfl ?_)
  show wpAny _ _ (seqItems? (.ref l) >>= _) _ _ s
  refine wpAny_bind (wpAny_seqItems hol hdl ?_)
  simp only [Int.toNat_natCast, hx]
  refine wpAny_bind (wpAny_setField ho hd (by simp) (wpAny_pure ⟨x, rfl, wpAny_pure (hQ _ ?_ (Heap.SameBut.update ..))⟩))
  exact ⟨_, Heap.get?_update_self _ ho (Obj.isFreed_of_fields (Obj.data_mapFields hd _)), (Obj.cls_mapFields ..).trans hc, by
    rw [Obj.data_mapFields hd]; simp [rawInt]⟩
theorem nextOf_tup_end {it l : Addr} {i : Nat} {items : Array Value} {Q : Value → Shared → Prop} (hh : A.handled = none) (hit : s.heap.IsTupleIter it l i) (hl : s.heap.IsTuple l items) (hx : items[i]? = none)
    (hE : ∀ h' e, Heap.ExtBut it s.heap h' → (∃ o, h'.get? e = some o ∧ o.cls = .type "StopIteration") → E (.ref e) { s with heap := h' }) :
    wpAny (model prog w) A (Builtin.SmallTypes.nextOf (.ref it)) Q E s := by
  obtain ⟨o, ho, hc, hd⟩ := id hit
  obtain ⟨ol, hol, _, nl, hdl⟩ := hl
  unfold Builtin.SmallTypes.nextOf
  refine wpAny_bind (wpAny_callSpecial?_slot (name := Str.ofString "__next__") hit.typeIs F.slot_tuple_iterator_next
    (wpAny_call_entry F.slot_tuple_iterator_next hit.typeIs F.entry_tuple_iterator_next ?_ (F.args_tuple_iterator_next_1 _)))
  show wpAny _ _ (field (.ref it) 0 >>= _) _ _ s
  refine wpAny_bind (wpAny_field ho hd (x := .ref l) rfl ?_)
  show wpAny _ _ (if (Value.ref l == Value.none) = true then _ else _) _ _ s
  rw [if_neg (show ¬ ((Value.ref l == Value.none) = true) from Bool.false_ne_true)]
  show wpAny _ _ (field (.ref it) 1 >>= _) _ _ s
  refine wpAny_bind (wpAny_field ho hd (x := .int i 0) rfl ?_)
  show wpAny _ _ (seqItems? (.ref l) >>= _) _ _ s
  refine wpAny_bind (wpAny_seqItems hol hdl ?_)
  simp only [Int.toNat_natCast, hx]
  refine wpAny_bind (wpAny_rule (wpAny_bind (wpAny_setField ho hd (by simp) ?_)))
  show wpAny _ _ (newExc (.type "StopIteration") [] >>= _) _ _ _
  refine wpAny_bind ?_
  simp only [newExc, newTuple]
  refine wpAny_bind (wpAny_newObj_type ?_ (by size_fits))
  refine wpAny_bind (m := firstArgMember _ _) (wpAny_of_eq (a := Value.none) (by first | rfl | (simp only [firstArgMember]; rfl)) ?_)
  refine wpAny_newObj_type ?_ (by size_fits)
  simp only [raiseNew]
  refine wpAny_bind (wpAny_handled ?_)
  first | rw [show A.in1.handled = none from hh] | rw [hh]
  refine wpAny_bind (wpAny_pure (wpAny_throw ?_))
  exact hE _ _ (((Heap.SameBut.update ..).extBut.push _).push _) ⟨_, Heap.get?_push_size _ rfl, rfl⟩
end
theorem Draws.tuple {prog : Program} {w : World} {A : Around} (hh : A.handled = none) (it l : Addr) (hne : l ≠ it) (items : Array Value) :
    Draws prog w A it [it, l] items.size (fun i v => items[i]? = some v) (fun i h => h.IsTupleIter it l i ∧ h.IsTuple l items) where
  live := fun _ _ st => let ⟨o, ho, _⟩ := st.1; ⟨o, ho⟩
  frame := fun _ _ _ st hk => ⟨st.1.at fun o e => hk it (by simp) o e, st.2.at fun o e => hk l (by simp) o e⟩
  item := fun i s Q E hi st hQ => by
    refine nextOf_tup_item st.1 st.2 (x := items[i]) (by simp [hi]) fun h' hit' hs' => ?_
    exact hQ _ h' s.toks (by simp [hi]) ⟨hit', st.2.extBut hs'.extBut hne⟩ hs'
  done := fun s Q E st hE => nextOf_tup_end hh st.1 st.2 (by simp) hE
open AutoSeq1 (wpAny_loadPart') in
theorem meets_enumerate_newT (l : Addr) (items : Array Value) (n : Nat) (dct : Option Addr) (sl : Array (Option Value)) :
    Meets (Builtin.«enumerate.__new__» ⟨[.type "enumerate", .ref l], []⟩) (fun _ R s => s.heap.get? l = some { cls := .type "tuple", dict := dct, data := .seq items n, slots := sl } ∧
      R (.ok (.ret (.ref (s.heap.push { cls := .type "tuple_iterator", data := .fields #[.ref l, .int 0 0] }).objs.size)))
        { s with heap := (s.heap.push { cls := .type "tuple_iterator", data := .fields #[.ref l, .int 0 0] }).push { cls := .type "enumerate", data := .fields #[.none, .bool false, .ref s.heap.objs.size, rawInt 0, .none, .none] } }) :=
  .of_wp fun prog w A R s h => by
    obtain ⟨hp, g, d, tk, os⟩ := s; obtain ⟨hl, h⟩ := h
    have hsub := sub_enumerate
    have hL : Heap.IsTuple (Shared.heap ⟨hp, g, d, tk, os⟩) l items := ⟨_, hl, rfl, n, rfl⟩
    wp_walk using wpAny_loadPart' hl
    refine wpAny_stack_any fun st => wpAny_pure ?_
    split
    · rename_i c _ _ _ _ _
      cases (c == Value.type "enumerate")
      · wp_walk using wpAny_loadPart' hl, wpAny_pyIter_tuple hL
        exact ⟨_, rfl, h⟩
      · wp_walk using wpAny_loadPart' hl, wpAny_pyIter_tuple hL
        exact ⟨_, rfl, h⟩
    · wp_walk using wpAny_loadPart' hl, wpAny_pyIter_tuple hL
      exact ⟨_, rfl, h⟩
section
variable {prog : Program} {w : World} {A : Around} {E : Value → Shared → Prop} {s : Shared}
theorem call_enumerate_tup {l : Addr} {items : Array Value} {Q : Value → Shared → Prop} (hL : s.heap.IsTuple l items)
    (h : ∀ h', IsEnum h' (s.heap.objs.size + 1) s.heap.objs.size 0 .none → h'.IsTupleIter s.heap.objs.size l 0 → h'.objs.size = s.heap.objs.size + 2 →
      (∀ b o, s.heap.get? b = some o → h'.get? b = some o) → Q (.ref (s.heap.objs.size + 1)) { s with heap := h' }) :
    wpAny (model prog w) A (call (.type "enumerate") [.ref l]) Q E s := by
  obtain ⟨⟨c, dct, dt, sl⟩, hl, hc, n, hd⟩ := hL
  replace hc : c = .type "tuple" := hc
  replace hd : dt = .seq items n := hd
  subst hc hd
  refine callType_new F.called_enumerate (by decide) (F.typeCall_enumerate_1 _) (F.newCall_enumerate_1 _) (fun obj => F.args_object_init_2 obj _) F.entry_enumerate_new
    (meets_enumerate_newT l items n dct sl) ⟨hl, ?_⟩
  have hz : (s.heap.push { cls := .type "tuple_iterator", data := .fields #[.ref l, .int 0 0] }).objs.size = s.heap.objs.size + 1 := Heap.size_push ..
  show _ ∧ _
  rw [hz]
  have e1 := Heap.get?_push_size (s.heap.push { cls := .type "tuple_iterator", data := .fields #[.ref l, .int 0 0] }) (o := { cls := .type "enumerate", data := .fields #[.none, .bool false, .ref s.heap.objs.size, rawInt 0, .none, .none] }) rfl
  rw [hz] at e1
  refine ⟨⟨_, e1, rfl⟩, ?_⟩
  exact h _ e1 ⟨_, Heap.get?_push_of_some _ (Heap.get?_push_size _ rfl), rfl, rfl⟩ (by rw [Heap.size_push, hz]) fun b o q => Heap.get?_push_of_some _ (Heap.get?_push_of_some _ q)
end
theorem Inv.drew {X : Cx} {pins : List (Addr × Obj)} {σ : St} {H : Hp} {s : Shared} {ch : List Addr} {T : Addr} {xs : List V} {h' : Heap} {tk : Nat} (I : Inv X pins σ H s) (hf : ∀ b ∈ ch, FpOk X pins H b)
    (k : ∀ b o, b ∉ ch → s.heap.get? b = some o → h'.get? b = some o) (hT : s.heap.objs.size ≤ T) (new : ObjOk X.prog X.w (upd H T (.tup xs)) h' T (.tup xs)) : Inv X pins σ (upd H T (.tup xs)) { s with heap := h', toks := tk } := by
  have hn : H T = none := I.hok.fresh hT
  have nc : ∀ b u, H b = some u → b ∉ ch := fun b u e hb => by
    have z := (hf b hb).1
    rw [e] at z
    cases z
  refine I.call (g' := s.gens) (d' := s.drawn) (ch := ch) ⟨fun b o q n _ hc => k b o hc q, fun b o q n _ hc => ⟨o.slots, k b o hc q⟩, fun b o q n hc => by
    rw [upd_ne (Nat.ne_of_lt (Nat.lt_of_lt_of_le (Heap.lt_size q) hT))]; exact n, fun b o q hc => ⟨o, k b o hc q⟩, fun b ys q => by rw [upd_ne (ne_of_none q hn)]; exact q,
    fun b o u q => by rw [upd_ne (ne_of_none q hn)]; exact q, fun b ps q => ⟨#[], by rw [upd_ne (ne_of_none q hn), q]; simp⟩⟩ (fun b u e => ?_) I.bare fun b hb => ⟨(hf b hb).2.2.2.1, (hf b hb).2.1, (hf b hb).2.2.2.2.1, (hf b hb).2.2.2.2.2⟩
  by_cases hb : b = T
  · subst hb
    rw [upd_same] at e
    cases e
    exact new
  · rw [upd_ne hb] at e
    refine (I.hok b u e).stay (fun c v hc q => k c v ?_ q) (fun c q => by rw [upd_ne (ne_of_none q hn)]; exact q) fun c ys q => by rw [upd_ne (ne_of_none q hn)]; exact q
    rcases hc with rfl | hc
    · exact nc _ _ e
    · exact nc _ _ hc
theorem Inv.turns {X : Cx} {pins : List (Addr × Obj)} {σ : St} {H : Hp} {s : Shared} {ch : List Addr} {h' : Heap} {tk : Nat} (I : Inv X pins σ H s) (hf : ∀ b ∈ ch, FpOk X pins H b)
    (k : ∀ b o, b ∉ ch → s.heap.get? b = some o → h'.get? b = some o) : Inv X pins σ H { s with heap := h', toks := tk } := by
  have nc : ∀ b u, H b = some u → b ∉ ch := fun b u e hb => by
    have z := (hf b hb).1
    rw [e] at z
    cases z
  refine I.call (g' := s.gens) (d' := s.drawn) (ch := ch) ⟨fun b o q n _ hc => k b o hc q, fun b o q n _ hc => ⟨o.slots, k b o hc q⟩, fun b o q n hc => n, fun b o q hc => ⟨o, k b o hc q⟩, fun b ys q => q,
    fun b o u q => q, fun b ps q => ⟨#[], by rw [q]; simp⟩⟩ (fun b u e => ?_) I.bare fun b hb => ⟨(hf b hb).2.2.2.1, (hf b hb).2.1, (hf b hb).2.2.2.2.1, (hf b hb).2.2.2.2.2⟩
  refine (I.hok b u e).stay (fun c v hc q => k c v ?_ q) (fun c q => q) fun c ys q => q
  rcases hc with rfl | hc
  · exact nc _ _ e
  · exact nc _ _ hc
def Ite (sq : Hp → List V → Prop) : It := ⟨fun i H => ∃ xs x, sq H xs ∧ xs[i]? = some x, fun i H x H' => ∃ T v, H T = none ∧ x = .ref T ∧ H' = upd H T (.tup [.int i, v]) ∧ ∀ xs, sq H xs → xs[i]? = some v, fun i H => ∃ xs, sq H xs ∧ xs.length ≤ i⟩
theorem tup2_ok {P : Program} {w : World} {H : Hp} {h : Heap} {T : Addr} {a b : V} {u v : Value} {n : Nat} (ra : RelV a u) (rb : RelV b v) (e : h.get? T = some { cls := .type "tuple", data := .seq #[u, v] n }) : ObjOk P w H h T (.tup [a, b]) :=
  ⟨show 2 ≤ sizeLine by decide, [u, v], .cons ra (.cons rb .nil), ⟨_, e, rfl, _, rfl⟩, _, e, rfl⟩
theorem turn_enumL {P : Program} {w : World} {K : PySem.W.Frag} {elts : List Expr} {kk : Nat} {pos : Pos} (a e it : Addr) (hei : e ≠ it) :
    Turn P w K (.Tuple elts kk pos) (Ite fun H xs => SqL K H a xs) [e, it] e (fun i h => (∃ old, IsEnum h e it i old) ∧ h.IsListIter it a i) where
  mem := by simp
  obj := fun i h st b hb => by
    obtain ⟨⟨old, he⟩, o, ho, c, d⟩ := st
    rcases List.mem_cons.mp hb with rfl | hb
    · exact ⟨_, he, fun v z => by cases z⟩
    · have z := List.mem_singleton.mp hb
      subst z
      exact ⟨o, ho, fun v z => by rw [d] at z; cases z⟩
  keep := fun i h h' st k => by
    obtain ⟨⟨old, he⟩, hit⟩ := st
    exact ⟨⟨old, k e (by simp) _ he⟩, hit.at fun o q => k it (by simp) o q⟩
  item := by
    intro X hP hw hK hc i pins s σ H E I hf st hg
    subst hP hw hK
    obtain ⟨xs, x, hq, hx⟩ := hg
    obtain ⟨⟨old, he⟩, hit⟩ := st
    obtain ⟨its, rv, p, hz⟩ := I.list hq
    obtain ⟨u, hu, ru⟩ := rv.get hx
    refine wpAny_pyNext_enum_item he hit p.isList (x := u) (by simpa using hu) hei fun h' ho hit' hT hsz hk => ⟨_, rfl, ?_⟩
    refine wpAny_letOwnedTupleGo_enum ho fun h2 he2 hs2 => ?_
    have hel : e < s.heap.objs.size := Heap.lt_size he
    have hTe : s.heap.objs.size ≠ e := Nat.ne_of_gt hel
    have hil : it < s.heap.objs.size := by obtain ⟨_, y, _⟩ := hit; exact Heap.lt_size y
    have hT2 : h2.get? s.heap.objs.size = some { cls := .type "tuple", data := .seq #[.int i s.toks, u] } := (hs2.2 _ hTe).trans hT
    have hf' : H s.heap.objs.size = none := I.hok.fresh (Nat.le_refl _)
    refine ⟨.ref s.heap.objs.size, upd H s.heap.objs.size (.tup [.int i, x]), ?_, rfl, ⟨_, x, hf', rfl, rfl, fun ys hy => by rw [I.list_inj hy hq]; exact hx⟩, ⟨⟨u, he2⟩, hit'.at fun o q => (hs2.2 it hei.symm).trans q⟩, fun b hb => ?_⟩
    · exact I.drew (ch := [e, it]) (tk := s.toks + 1) hf (fun b o hb q => (hs2.2 b fun z => hb (by simp [z])).trans (hk b o (fun z => hb (by simp [z])) (fun z => hb (by simp [z])) q)) (Nat.le_refl _) (tup2_ok ⟨_, rfl⟩ ru hT2)
    · have z : b ≠ s.heap.objs.size := by
        rcases List.mem_cons.mp hb with rfl | hb
        · exact hTe.symm
        · rw [List.mem_singleton.mp hb]; exact Nat.ne_of_lt hil
      rw [upd_ne z]
      exact (hf b hb).1
  done := by
    intro X hP hw hK hc i pins s σ H E I hf st hg
    subst hP hw hK
    obtain ⟨xs, hq, hx⟩ := hg
    obtain ⟨⟨old, he⟩, hit⟩ := st
    obtain ⟨its, rv, p, hz⟩ := I.list hq
    have hl := rv.length
    exact wpAny_pyNext_enum_end (I.ok.hd hc) he hit p.isList (by simp; omega) fun h' eb => ⟨rfl, I.turns (ch := [e, it]) (tk := s.toks) hf fun b o hb q => eb b o (fun z => hb (by simp [z])) q⟩
  self := fun A i s Q E st h => by
    obtain ⟨⟨old, he⟩, _⟩ := st
    exact wpAny_pyIter_enum he h
theorem turn_enumT {P : Program} {w : World} {K : PySem.W.Frag} {elts : List Expr} {kk : Nat} {pos : Pos} (a e it : Addr) (hei : e ≠ it) (hea : e ≠ a) (hai : a ≠ it) :
    Turn P w K (.Tuple elts kk pos) (Ite fun H xs => SqT K H a xs) [e, it] e (fun i h => (∃ old, IsEnum h e it i old) ∧ h.IsTupleIter it a i) where
  mem := by simp
  obj := fun i h st b hb => by
    obtain ⟨⟨old, he⟩, o, ho, c, d⟩ := st
    rcases List.mem_cons.mp hb with rfl | hb
    · exact ⟨_, he, fun v z => by cases z⟩
    · have z := List.mem_singleton.mp hb
      subst z
      exact ⟨o, ho, fun v z => by rw [d] at z; cases z⟩
  keep := fun i h h' st k => by
    obtain ⟨⟨old, he⟩, hit⟩ := st
    exact ⟨⟨old, k e (by simp) _ he⟩, hit.at fun o q => k it (by simp) o q⟩
  item := by
    intro X hP hw hK hc i pins s σ H E I hf st hg
    subst hP hw hK
    obtain ⟨xs, x, hq, hx⟩ := hg
    obtain ⟨⟨old, he⟩, hit⟩ := st
    obtain ⟨its, rv, p, hz⟩ := I.tuple hq
    obtain ⟨u, hu, ru⟩ := rv.get hx
    have hu' : its.toArray[i]? = some u := by simpa using hu
    have D := Draws.tuple (prog := X.prog) (w := X.w) (A := X.A.in1) (show X.A.in1.handled = none from I.ok.hd hc) it a hai its.toArray
    refine wpAny_pyNext_enum_itemD D he ⟨hit, p⟩ (Array.getElem?_eq_some_iff.mp hu').1 hei (by simp [hei, hea]) fun x' h' tk hP ho hit' hT hsz hk => ⟨_, rfl, ?_⟩
    rw [hu'] at hP
    cases hP
    refine wpAny_letOwnedTupleGo_enum ho fun h2 he2 hs2 => ?_
    have hel : e < s.heap.objs.size := Heap.lt_size he
    have hTe : s.heap.objs.size ≠ e := Nat.ne_of_gt hel
    have hil : it < s.heap.objs.size := by obtain ⟨_, y, _⟩ := hit; exact Heap.lt_size y
    have hT2 : h2.get? s.heap.objs.size = some { cls := .type "tuple", data := .seq #[.int i tk, u] } := (hs2.2 _ hTe).trans hT
    have hf' : H s.heap.objs.size = none := I.hok.fresh (Nat.le_refl _)
    refine ⟨.ref s.heap.objs.size, upd H s.heap.objs.size (.tup [.int i, x]), ?_, rfl, ⟨_, x, hf', rfl, rfl, fun ys hy => by rw [I.tuple_inj hy hq]; exact hx⟩, ⟨⟨u, he2⟩, hit'.1.at fun o q => (hs2.2 it hei.symm).trans q⟩, fun b hb => ?_⟩
    · exact I.drew (ch := [e, it]) (tk := tk + 1) hf (fun b o hb q => (hs2.2 b fun z => hb (by simp [z])).trans (hk b o (fun z => hb (by simp [z])) (fun z => hb (by simp [z])) q)) (Nat.le_refl _) (tup2_ok ⟨_, rfl⟩ ru hT2)
    · have z : b ≠ s.heap.objs.size := by
        rcases List.mem_cons.mp hb with rfl | hb
        · exact hTe.symm
        · rw [List.mem_singleton.mp hb]; exact Nat.ne_of_lt hil
      rw [upd_ne z]
      exact (hf b hb).1
  done := by
    intro X hP hw hK hc i pins s σ H E I hf st hg
    subst hP hw hK
    obtain ⟨xs, hq, hx⟩ := hg
    obtain ⟨⟨old, he⟩, hit⟩ := st
    obtain ⟨its, rv, p, hz⟩ := I.tuple hq
    have hl := rv.length
    have hT : s.TypeIs (.ref e) "enumerate" := ⟨_, he, rfl⟩
    unfold pyNext
    refine wpAny_bind (wpAny_attempt (wpAny_callSpecial?_slot (name := Str.ofString "__next__") hT F.slot_enumerate_next
      (wpAny_call_entry F.slot_enumerate_next hT F.entry_enumerate_next ?_ (F.args_enumerate_next_1 _))))
    show wpAny _ _ (field (.ref e) 2 >>= _) _ _ _
    refine wpAny_bind (wpAny_field he rfl (x := .ref it) rfl ?_)
    refine wpAny_bind (nextOf_tup_end (show X.A.in1.handled = none from I.ok.hd hc) hit p (by simp; omega) fun h' x he' hx' => ?_)
    obtain ⟨o, ho, hc'⟩ := hx'
    refine wpAny_bind (wpAny_isInstance (T := "StopIteration") (b := true) ⟨o, ho, hc'⟩ isSubtype_stop ?_)
    exact wpAny_pure ⟨rfl, I.turns (ch := [e, it]) (tk := s.toks) hf fun b o hb q => he' b o (fun z => hb (by simp [z])) q⟩
  self := fun A i s Q E st h => by
    obtain ⟨⟨old, he⟩, _⟩ := st
    exact wpAny_pyIter_enum he h
section
variable {X : Cx} {elts : List Expr} {kk : Nat} {tpos : Pos}
def iEnumL (K : PySem.W.Frag) (ta : TA) : TI := fun σ H R => ta σ H fun vs H1 => ∃ a, vs = [.ref a] ∧ (∃ xs, SqL K H1 a xs) ∧ R (Ite fun H xs => SqL K H a xs) H1
def iEnumT (K : PySem.W.Frag) (ta : TA) : TI := fun σ H R => ta σ H fun vs H1 => ∃ a, vs = [.ref a] ∧ (∃ xs, SqT K H1 a xs) ∧ R (Ite fun H xs => SqT K H a xs) H1
theorem pi_enumL {a : Expr} {ta : TA} {p pos : Pos} (hg : Gl X "enumerate") (hm : X.mg "enumerate" = none) (ha : PA X [a] ta) (hs : starEach [a] X.env = [(false, eval a X.env)] := by rfl) :
    PI X (.Tuple elts kk tpos) (.Call (.Name "enumerate" p) [a] [] pos) (iEnumL X.K ta) := by
  intro pins s σ H R I h
  refine Call_ (ld_blt I hg hm boot_enumerate (PyProof.Rows.callWith_type1 (thn (ha pos pins s σ H _ I h) fun us s1 ⟨vs, H1, I1, r1, q1⟩ => ?_) hs rfl))
  obtain ⟨l, e, ⟨xs, hq⟩, q⟩ := q1
  subst e
  cases r1 with
  | cons r rr =>
    cases rr
    cases r
    obtain ⟨its, rv, p, hz⟩ := I1.list hq
    refine call_enumerate_list p.isList fun h' hE hI hsz hk => wpAny_pyIter_enum hE ?_
    refine ⟨_, [s1.heap.objs.size + 1, s1.heap.objs.size], _, _, H1, rfl, I1.kept (t' := s1.toks) hk, turn_enumL l _ _ (Nat.succ_ne_self _), ⟨⟨_, hE⟩, hI⟩, fun b hb => ?_, q⟩
    rcases List.mem_cons.mp hb with rfl | hb
    · exact I1.fpOk (Nat.le_succ _) (I1.hok.fresh (Nat.le_succ _))
    · rw [List.mem_singleton.mp hb]
      exact I1.fpOk (Nat.le_refl _) (I1.hok.fresh (Nat.le_refl _))
theorem pi_enumT {a : Expr} {ta : TA} {p pos : Pos} (hg : Gl X "enumerate") (hm : X.mg "enumerate" = none) (ha : PA X [a] ta) (hs : starEach [a] X.env = [(false, eval a X.env)] := by rfl) :
    PI X (.Tuple elts kk tpos) (.Call (.Name "enumerate" p) [a] [] pos) (iEnumT X.K ta) := by
  intro pins s σ H R I h
  refine Call_ (ld_blt I hg hm boot_enumerate (PyProof.Rows.callWith_type1 (thn (ha pos pins s σ H _ I h) fun us s1 ⟨vs, H1, I1, r1, q1⟩ => ?_) hs rfl))
  obtain ⟨l, e, ⟨xs, hq⟩, q⟩ := q1
  subst e
  cases r1 with
  | cons r rr =>
    cases rr
    cases r
    obtain ⟨its, rv, p, hz⟩ := I1.tuple hq
    have hll : l < s1.heap.objs.size := by obtain ⟨o, ho, _⟩ := p; exact Heap.lt_size ho
    refine call_enumerate_tup p fun h' hE hI hsz hk => wpAny_pyIter_enum hE ?_
    refine ⟨_, [s1.heap.objs.size + 1, s1.heap.objs.size], _, _, H1, rfl, I1.kept (t' := s1.toks) hk, turn_enumT l _ _ (Nat.succ_ne_self _) (Nat.ne_of_gt (Nat.lt_succ_of_lt hll)) (Nat.ne_of_lt hll), ⟨⟨_, hE⟩, hI⟩, fun b hb => ?_, q⟩
    rcases List.mem_cons.mp hb with rfl | hb
    · exact I1.fpOk (Nat.le_succ _) (I1.hok.fresh (Nat.le_succ _))
    · rw [List.mem_singleton.mp hb]
      exact I1.fpOk (Nat.le_refl _) (I1.hok.fresh (Nat.le_refl _))
end
theorem forW_enum {sq : Hp → List V → Prop} {g : TG} {tb : TS} {D : Ends} {σ : St} {H : Hp} (xs : List V) (Pv : Nat → St → Hp → Prop) (h0 : Pv 0 σ H) (hl : ∀ i σ H, i ≤ xs.length → Pv i σ H → sq H xs)
    (hs : ∀ i x T σ H, xs[i]? = some x → Pv i σ H → H T = none → g (.ref T) σ (upd H T (.tup [.int i, x])) fun σ2 H2 => tb { D with nx := Pv (i + 1), ct := Pv (i + 1), bk := D.nx } σ2 H2) (hd : ∀ σ H, Pv xs.length σ H → D.nx σ H) : ForW (Ite sq) g tb D σ H := by
  refine ⟨fun i m σ H => m = xs.length - i ∧ i ≤ xs.length ∧ Pv i σ H, ⟨xs.length, by simp, Nat.zero_le _, h0⟩, ?_⟩
  rintro i m σ H2 ⟨rfl, hi, p⟩
  have q := hl i σ H2 hi p
  by_cases hlt : i < xs.length
  · have hx : xs[i]? = some xs[i] := by simp [hlt]
    refine .inr ⟨⟨xs, _, q, hx⟩, Pv (i + 1), fun σ' H' p' => ⟨xs.length - (i + 1), by omega, rfl, hlt, p'⟩, fun x H' y => ?_⟩
    obtain ⟨T, v, hT, e1, e2, y⟩ := y
    subst e1 e2
    have e2 := y xs q
    exact hs i v T σ _ e2 p hT
  · have e : i = xs.length := by omega
    subst e
    exact .inl ⟨⟨xs, q, Nat.le_refl _⟩, hd σ H2 p⟩
end L2

namespace HT
open PySem PySem.Spec PyProof.Rows
section
variable {prog : Program} {w : World} {A : Around} {E : Value → Shared → Prop} {s : Shared}
end
end HT
namespace L2
open PySem PySem.Spec PyProof.Rows
section
variable {X : Cx}
end
theorem cut_to {xs : List V} {n : Nat} : cutV xs none (some (n : Int)) = xs.take n := by
  unfold cutV
  rw [HT.sIx_nat, HT.sIx_none, List.drop_zero, Nat.sub_zero]
  by_cases h : n ≤ xs.length
  · rw [Nat.min_eq_left h]
  · rw [Nat.min_eq_right (by omega), List.take_of_length_le (Nat.le_refl _), List.take_of_length_le (by omega)]
end L2

namespace L2
open PySem PySem.Spec PyProof.Rows
open PySem.Builtin PySem.Builtin.ObjectAttr PySem.Builtin.Getset_descriptor
open PySem.W (Frag Looks looks_findIn looks_specialIn looks_takesIn looks_mroIn looks_subIn looks_typeIn)

def ExcAt (x D : Addr) (h : Heap) : Prop := ∃ o vs, h.get? x = some o ∧ o.cls = .ref D ∧ o.data = .fields vs
structure XCls (K : Frag) (D : Addr) : Prop where
  ga : PySem.W.findIn K (.ref D) "__getattribute__" = some (some (.builtin "BaseException.__getattribute__"))
  gt : PySem.W.findIn K (.ref D) "__getattr__" = some none
  ca : PySem.W.findIn K (.ref D) "__class__" = some (some (.builtin "object.__class__"))
  cn : PySem.W.specialIn K (.builtin "object.__class__") "__get__" = some (some (.builtin "getset_descriptor.__get__"))
  tk : PySem.W.takesIn K (.builtin "object.__class__") = some true
  mo : PySem.W.mroIn K D (.type "object") = some true
  mb : PySem.W.mroIn K D (.type "BaseException") = some true
  is : (PySem.W.clsIn K D).isSome = true
section
variable {prog : Program} {w : World} {A : Around} {E : Value → Shared → Prop} {s : Shared} {K : Frag} {x D : Addr}
theorem ExcAt.type {M : Model} {h : Heap} (I : ExcAt x D h) : Looks M h (typeOf (.ref x)) (.ref D) := by
  obtain ⟨o, vs, e, c, _⟩ := I
  exact c ▸ (Looks.ld e).andThen .now
end
end L2

namespace L2
open PySem PySem.Spec PyProof.Rows
theorem ObjOk.here {P : Program} {w : World} {H : Hp} {h : Heap} {a : Addr} {o : HO} (x : ObjOk P w H h a o) : ∃ ob, h.get? a = some ob := by
  cases o with
  | lst xs => obtain ⟨_, _, _, _, e⟩ := x; exact ⟨_, e⟩
  | tup xs => obtain ⟨_, _, _, _, ob, e, _⟩ := x; exact ⟨_, e⟩
  | dK kvs => obtain ⟨_, _, _, _, o, _, _, e, _⟩ := x; exact ⟨_, e⟩
  | dT kvs => obtain ⟨_, _, _, _, o, _, _, e, _⟩ := x; exact ⟨_, e⟩
  | set S n => obtain ⟨o, _, _, _, e, _⟩ := x; exact ⟨_, e⟩
  | ins C dx fs => obtain ⟨_, _, _, e, _⟩ := x; exact ⟨_, e⟩
  | own y => exact x
  | xd fs => obtain ⟨_, ⟨_, _, _, e, _⟩, _⟩ := x; exact ⟨_, e⟩
  | rng lo hi => obtain ⟨_, _, _, e⟩ := x; exact ⟨_, e⟩
  | frz ob u => obtain ⟨e, _⟩ := x; exact ⟨_, e⟩
  | tbl ps => exact ⟨_, (show h.get? a = some _ from x)⟩
  | met f y => exact ⟨_, (show h.get? a = some _ from x)⟩
  | ext φ => obtain ⟨_, e, _⟩ := x; exact e
structure Fly (P : Program) (w : World) (outer : List Env) (H : Hp) (s : Shared) (B : Heap) (H' : Hp) (a C : Addr) (a0 : Value) (s' : Shared) : Prop where
  os : s'.os = s.os
  bare : AllBare s'.gens
  un : Un (frs outer) [] H H' s.heap s'.heap
  hok : HOk P w H' s'.heap
  fly : Heap.FlyingW B outer a (.ref C) a0 s'.heap
  old : ∀ b o, s'.heap.get? b = some o → (∃ o', s.heap.get? b = some o') → b ∉ frs outer → B.get? b = some o
  trk : ∀ b u o, H' b = some u → s'.heap.get? b = some o → B.get? b = some o
  new : H' a = none
  fresh : s.heap.get? a = none
section
variable {P : Program} {w : World} {outer : List Env} {H H' : Hp} {s s' : Shared} {B : Heap} {a C : Addr} {a0 : Value} {h6 : Heap}
end
section
variable {X : Cx} {pins : List (Addr × Obj)} {σ : St} {H H' : Hp} {s s' : Shared} {B : Heap} {a C : Addr} {a0 : Value}
end
section
variable {P : Program} {w : World} {K : PySem.W.Frag} {mg : Str → Option Value} {base : Heap} {N : List Str} {qual : Str} {scope : Scope} {f : Addr} {cd : Value} {A : Around} {outer : List Env} {s : Shared} {H : Hp} {E : XK}
end
abbrev bmVE : List Value := [.type "ValueError", .type "Exception", .type "BaseException", .type "object"]
structure XRaise (K : PySem.W.Frag) (mg : Str → Option Value) (x : Str) (C : Addr) : Prop where
  at_ : mg x = some (.ref C)
  ex : PySem.W.excIn K C bmVE "ValueError.__new__" = true
section
variable {X : Cx} {pins : List (Addr × Obj)} {σ : St} {H : Hp} {s : Shared} {a : Addr}
end
structure XCatch (K : PySem.W.Frag) (mg : Str → Option Value) (x : Str) (C : Addr) : Prop where
  at_ : mg x = some (.ref C)
  is : PySem.W.clsIn K C ≠ none
  ty : PySem.W.typeIn K (.ref C) = some (.type "type")
  mb : PySem.W.mroIn K C (.type "BaseException") = some true
section
variable {X : Cx} {CX : CXT} {x y n : Str} {j k i : Nat} {ps : List Str} {sp : Sp} {p pos tpos hpos np epos : Pos} {e : Expr} {es : List Expr} {t : TA} {C : Addr} {b₀ : Stmt} {suite : List Stmt} {ts : TS}
end
end L2

namespace L2
open PySem PySem.Spec PyProof.Rows
section
variable {X : Cx} {K : PySem.W.Frag}
end
structure RoomS (k : Nat) (A : Around) : Prop where
  dp : A.depth + 3 * k + 5 < recursionLimit
  un : A.units + 16 * k + 200 < cLine
structure FnOkS (P : Program) (w : World) (K : PySem.W.Frag) (mg : Str → Option Value) (base : Heap) (CX : CXT) (k : Nat) (f : Addr) (fd : FuncData) (ps : List Str) (sp : Sp) : Prop where
  len : ∀ vs H Q E, sp vs H Q E → vs.length = ps.length
  run : ∀ (A : Around) (outer : List Env) (s : Shared) (H : Hp) (args : Args) (us : List Value) (vs : List V) (Q : VK) (E : XK), RoomS k A → Env0 P w K mg base A outer s H → BindsTo s fd args (ps.zip us) → Vals vs us → sp vs H Q E →
    codeAny (model P w) A (.call (.ref f) args) (CR CX outer P w H s Q E) s
structure CalS (P : Program) (w : World) (K : PySem.W.Frag) (mg : Str → Option Value) (base : Heap) (CX : CXT) (x : Str) (k : Nat) (ps : List Str) (sp : Sp) : Prop where
  ex : ∃ f fd, FnOkS P w K mg base CX k f fd ps sp ∧ Binds K fd ps [] ∧ PySem.W.keepIn K (.ref f) = true ∧ mg x = some (.ref f)
abbrev Cx.any (X : Cx) (A : Around) : Cx := { X with A := A, calm := false }
theorem Inv.any {X : Cx} {pins : List (Addr × Obj)} {σ : St} {H : Hp} {s : Shared} (I : Inv X pins σ H s) {A : Around} (hf : A.frames = some X.stack) : Inv (X.any A) pins σ H s :=
  ⟨⟨I.ok.mod, I.ok.kind, I.ok.glob, I.ok.blt, I.ok.above, I.ok.inj, I.ok.has, I.ok.cab, (fun z => nomatch z), hf, I.ok.stk, I.ok.exf, I.ok.bs, I.ok.bsz, I.ok.noex, I.ok.exfs, I.ok.funs, I.ok.frf⟩, I.os, I.bare, I.base, I.loc, I.cell, I.free, I.freeC, I.pin, I.hok, I.len⟩
end L2

namespace L2
open PySem PySem.Spec PyProof.Rows
def noStar : Expr → Bool
  | .Starred _ _ => false
  | _ => true
theorem star1 {e : Expr} {es : List Expr} {env : Env} (h : noStar e = true) : starEach (e :: es) env = (false, eval e env) :: starEach es env := by
  cases e <;> first | rfl | cases h
theorem star1' {e : Expr} {env : Env} (h : noStar e = true) : starEach [e] env = [(false, eval e env)] := by rw [star1 h]; rfl
theorem nost0 {env : Env} {pos : Pos} : (backTo pos (starEach [] env)).any (·.1) = false := rfl
theorem nost1 {e : Expr} {es : List Expr} {env : Env} {pos : Pos} (h : noStar e = true) (r : (backTo pos (starEach es env)).any (·.1) = false) : (backTo pos (starEach (e :: es) env)).any (·.1) = false := by
  rw [star1 h]
  show (false || (backTo pos (starEach es env)).any (·.1)) = false
  rw [r]
  rfl
def plainT : Expr → Bool
  | .UnaryOp _ _ _ => false
  | .BoolOp _ _ _ => false
  | .IfExp _ _ _ _ => false
  | .Compare _ _ _ _ => false
  | _ => true
theorem test1 {e : Expr} {env : Env} (h : plainT e = true) : ∀ whole, isTrue e env whole = (do let v ← whole; standAt e.pos; holding [v] (truthy v)) := by
  intro whole
  cases e <;> first | rfl | cases h
def noComp : Expr → Bool
  | .ListComp _ _ _ _ => false
  | .SetComp _ _ _ _ => false
  | .DictComp _ _ _ _ _ => false
  | _ => true
theorem swap1 {e : Expr} {tg : Option Expr} {n : Nat} {env : Env} (h : noComp e = true) : swapsWith e tg n env = pure false := by
  cases e <;> first | rfl | cases h
end L2

namespace L2
open PySem PySem.Spec PyProof.Rows
end L2

namespace L2
open PySem PySem.Spec PyProof.Rows
theorem ints_are : ∀ {ns : List Int} {its : List Value}, Vals (ns.map V.int) its → IntsAre its ns
  | [], _, .nil => .nil
  | n :: ns, _, .cons ⟨t, e⟩ r => by subst e; exact .cons n t (ints_are r)
section
variable {X : Cx}
theorem call_sum1 (hc : X.calm = true) : CallR X (.builtin "sum") (fun xs H Q => ∃ (p : Addr) (ns : List Int), xs = [.ref p] ∧ SqL X.K H p (ns.map V.int) ∧ Q (.int ns.sum) H) := by
  intro pins s σ H xs us Q I r h
  obtain ⟨p, ns, rfl, hq, q⟩ := h
  obtain ⟨u, rfl, rx⟩ := vals1 r
  cases rx
  obtain ⟨its, r', pl, hz⟩ := I.list hq
  have hi := ints_are r'
  obtain ⟨xs, e⟩ := hi.allInts.items
  have hl := pl.isList
  have en := hi.numsOf
  rw [show its = its.toArray.toList from rfl, e, nums_intItems] at en
  rw [e] at hl
  refine sum_intListG (I.ok.hd hc) hl fun h' tk t' k => ⟨.int ns.sum, H, I.kept k, ⟨t', ?_⟩, q⟩
  rw [preSum_eq, List.take_of_length_le (by simp), en]
end
end L2

namespace L2
open PySem PySem.Spec PyProof.Rows
structure Apart (z TI TO i1 i2 : Addr) (f1 f2 : List Addr) : Prop where
  zTI : z ≠ TI
  zTO : z ≠ TO
  TITO : TI ≠ TO
  TI1 : TI ≠ i1
  TI2 : TI ≠ i2
  m1 : i1 ∈ f1
  m2 : i2 ∈ f2
  z1 : z ∉ f1
  z2 : z ∉ f2
  t1 : TO ∉ f1
  t2 : TO ∉ f2
  i12 : i1 ∉ f2
  i21 : i2 ∉ f1
section
variable {prog : Program} {w : World} {A : Around} {E : Value → Shared → Prop} {s : Shared} {z TI TO i1 i2 : Addr} {f1 f2 : List Addr} {n1 n2 k : Nat} {P1 P2 : Nat → Value → Prop} {S1 S2 : Nat → Heap → Prop}
end
end L2

namespace L2
open PySem PySem.Spec PyProof.Rows
theorem pg_tupK {X : Cx} {K : PySem.W.Frag} {es : List Expr} {k n : Nat} {t : TGs} {pos : Pos} (hK : X.K = K) (hc : X.calm = true) (h : PGs X es t) (hn : (assignEach es X.env).length = n) (hst : (assignEach es X.env).findIdx? (·.1) = none) : PG X (.Tuple es k pos) (gTup K n t) := by
  subst hK
  exact pg_tup hc h hn hst
end L2

namespace L2
open PySem PySem.Spec PyProof.Rows
section
variable {X : Cx}
theorem ints_at {ns : List Int} {its : List Value} (r : Vals (ns.map V.int) its) {j : Nat} (h : j < its.length) : ∃ t, its[j] = .int (ns.getD j 0) t := by
  obtain ⟨x, e, rv⟩ := vals_at r h
  have hl : j < ns.length := by have := r.length; rw [List.length_map] at this; omega
  rw [List.getElem?_map, List.getElem?_eq_getElem hl] at e
  cases e
  obtain ⟨t, e⟩ := rv
  exact ⟨t, by rw [e]; simp [List.getD, hl]⟩
abbrev Sq (K : PySem.W.Frag) (H : Hp) (a : Addr) (xs : List V) : Prop := SqL K H a xs ∨ SqT K H a xs
section
variable {K : PySem.W.Frag} {D : Ends} {g : TG} {tb : TS} {σ : St} {H : Hp} {a : Addr}
end
section
variable {K : PySem.W.Frag} {D a : Addr} {g : TG} {tt : TT} {te : TE} {Q : VK} {τ : St} {H : Hp}
end
end
end L2

namespace L2
open PySem PySem.Spec PyProof.Rows
section
variable {X : Cx} {tg : Expr}
end
section
variable {g : TG} {tb : TS} {D : Ends} {σ : St} {H : Hp}
end
section
variable {D : Addr} {g : TG} {tt : TT} {te : TE} {Q : VK} {τ : St} {H : Hp}
end
section
variable {X : Cx}
end
end L2

namespace L2
open PySem PySem.Spec PyProof.Rows
deriving instance DecidableEq for Kn
section
variable {X : Cx}
theorem call_listL : CallR X (.type "list") (fun xs H Q => ∃ p ys, xs = [.ref p] ∧ SqL X.K H p ys ∧ ∀ l, H l = none → Q (.ref l) (upd H l (.lst ys))) := by
  intro pins s σ H xs us Q I r h
  obtain ⟨p, ys, rfl, hq, q⟩ := h
  exact call_list_of pins s σ H _ us Q I r ⟨p, ys, rfl, .inl hq, q⟩
end
end L2

namespace PySem
open Sem (wp)
namespace SetL
theorem plain_loop : plainId "set.update.loop" = true := by decide +kernel
theorem entry_loop : entryFor table "set.update.loop" = some Builtin.«set.update.loop» := entryFor_of_tree (by kernel_rfl)
section
variable {prog : Program} {w : World} {A : Around} {R : Result → Shared → Prop} {I : Addr} {fp wr : List Addr} {n : Nat} {P : Nat → Value → Prop} {St : Nat → Heap → Prop}
end
section
variable {prog : Program} {w : World} {A : Around} {E : Value → Shared → Prop} {s : Shared}
end
end SetL
end PySem
namespace L2
open PySem PySem.Spec PyProof.Rows
section
variable {X : Cx}
end
end L2

namespace L2
open PySem PySem.Spec PyProof.Rows
mutual
inductive Rep (K : PySem.W.Frag) (H : Hp) : V → PyData → Prop
  | non : Rep K H .non .none
  | bl (b : Bool) : Rep K H (.bl b) (.bool b)
  | int (i : Int) : Rep K H (.int i) (.int i)
  | str (z : Str) : Rep K H (.str z) (.str z)
  | lst {a : Addr} {xs : List V} {ds : List PyData} : SqL K H a xs → RepAll K H xs ds → Rep K H (.ref a) (.list ds)
  | tup {a : Addr} {xs : List V} {ds : List PyData} : SqT K H a xs → RepAll K H xs ds → Rep K H (.ref a) (.tuple ds)
inductive RepAll (K : PySem.W.Frag) (H : Hp) : List V → List PyData → Prop
  | nil : RepAll K H [] []
  | cons {x : V} {d : PyData} {xs : List V} {ds : List PyData} : Rep K H x d → RepAll K H xs ds → RepAll K H (x :: xs) (d :: ds)
end
theorem sqT_same {K : PySem.W.Frag} {H H' : Hp} {a : Addr} {xs : List V} (e : Same H H') (h : SqT K H a xs) : SqT K H' a xs := by
  rcases h with (h | ⟨o, h⟩) | h
  · exact .inl (.inl (e _ _ h))
  · exact .inl (.inr ⟨o, e _ _ h⟩)
  · exact .inr h
section
variable {X : Cx} {pins : List (Addr × Obj)} {σ : St} {H : Hp} {s : Shared}
mutual
theorem Rep.reads (I : Inv X pins σ H s) : ∀ {v : V} {d : PyData} {u : Value}, Rep X.K H v d → RelV v u → ∃ as, Reads s.heap u d as
  | _, _, u, .non, r => by
    obtain rfl : u = Value.none := r
    exact ⟨[], .none⟩
  | _, _, u, .bl b, r => by
    obtain rfl : u = Value.bool b := r
    exact ⟨[], .bool b⟩
  | _, _, u, .int i, r => by
    obtain ⟨t, rfl⟩ := r
    exact ⟨[], .int i t⟩
  | _, _, u, .str z, r => by
    obtain ⟨t, rfl⟩ := r
    exact ⟨[], .str z t⟩
  | _, _, u, .lst (a := a) h ra, r => by
    obtain rfl : u = Value.ref a := r
    obtain ⟨its, rv, ⟨o, n, e, c, _, dt⟩, _⟩ := I.list h
    obtain ⟨as, ra'⟩ := RepAll.reads I ra rv
    exact ⟨a :: as, .list e c dt (by simpa using ra')⟩
  | _, _, u, .tup (a := a) h ra, r => by
    obtain rfl : u = Value.ref a := r
    obtain ⟨its, rv, ⟨o, e, c, n, dt⟩, _⟩ := I.tuple h
    obtain ⟨as, ra'⟩ := RepAll.reads I ra rv
    exact ⟨as, .tuple e c dt (by simpa using ra')⟩
theorem RepAll.reads (I : Inv X pins σ H s) : ∀ {xs : List V} {ds : List PyData} {us : List Value}, RepAll X.K H xs ds → Vals xs us → ∃ as, ReadsAll s.heap us ds as
  | _, _, _, .nil, .nil => ⟨[], .nil⟩
  | _, _, _, .cons h r, .cons rv rs => by
    obtain ⟨as, h1⟩ := Rep.reads I h rv
    obtain ⟨bs, h2⟩ := RepAll.reads I r rs
    exact ⟨as ++ bs, .cons h1 h2⟩
end
end
def flatD (d : PyData) : Prop := d.canLay0 = true ∧ d.depth ≤ 40
theorem hu60 {A : Around} {k : Nat} (hr : Room k A) : A.units + 60 < cLine := Nat.lt_of_le_of_lt (Nat.add_le_add_left (by decide : 60 ≤ 64) _) hr.units
section
variable {X : Cx}
def rEqD (K : PySem.W.Frag) (neg : Bool) : R2 := fun x y H Q => ∃ d e, Rep K H x d ∧ Rep K H y e ∧ flatD d ∧ flatD e ∧ Q (.bl (if neg then !PyData.eqv d e else PyData.eqv d e)) H
theorem op_eqD (hu : X.A.units + 60 < cLine) : OpR X (compareOp .Eq) (rEqD X.K false) := by
  intro pins s σ H x y v u Q I rx ry h
  obtain ⟨d, e, hd, he, fd, fe, q⟩ := h
  obtain ⟨as, r1⟩ := hd.reads I rx
  obtain ⟨bs, r2⟩ := he.reads I ry
  exact SeqAt.compareEq_reads r1 r2 fd.1 fe.1 (by have := fd.2; have := fe.2; omega) ⟨.bl _, H, I, rfl, q⟩
theorem op_neD (hu : X.A.units + 60 < cLine) : OpR X (compareOp .NotEq) (rEqD X.K true) := by
  intro pins s σ H x y v u Q I rx ry h
  obtain ⟨d, e, hd, he, fd, fe, q⟩ := h
  obtain ⟨as, r1⟩ := hd.reads I rx
  obtain ⟨bs, r2⟩ := he.reads I ry
  exact SeqAt.compareNe_reads r1 r2 fd.1 fe.1 (by have := fd.2; have := fe.2; omega) ⟨.bl _, H, I, rfl, q⟩
end
end L2

namespace HT
open PySem PyProof.Rows
section
open PySem.SeqAt
open PySem.AutoSeq1 (wpAny_loadPart')
open PySem.MeetsSeq PySem.MeetsSeq2 PySem.MeetsSeq3

end
end HT

namespace HT
open PySem PyProof.Rows PySem.SeqAt
section
variable {l b : Addr}
theorem vals_ints {ns : List Int} {its : List Value} (r : L2.Vals (ns.map L2.V.int) its) : IntsAre its ns := L2.ints_are r
end
end HT
namespace L2
open PySem PySem.Spec PyProof.Rows
end L2

namespace L2
open PySem PySem.Spec PyProof.Rows
def iOr (w1 w2 : TI) : TI := fun σ H R => w1 σ H R ∨ w2 σ H R
theorem pi_or {X : Cx} {tg l : Expr} {w1 w2 : TI} (h1 : PI X tg l w1) (h2 : PI X tg l w2) : PI X tg l (iOr w1 w2) := fun pins s σ H R I h => by
  rcases h with h | h
  · exact h1 pins s σ H R I h
  · exact h2 pins s σ H R I h
section
variable {K : PySem.W.Frag} {a : Addr} {g : TG} {tt : TT} {te : TE} {Q : VK} {H : Hp}
theorem compS_ite {D : Addr} {τ : St} {H : Hp} {sq : Hp → List V → Prop} (xs : List V) (Pv : Nat → St → Hp → Prop) (h0 : Pv 0 τ H) (hl : ∀ i τ H, i ≤ xs.length → Pv i τ H → sq H xs)
    (hs : ∀ i x T τ H (R : St → Hp → Prop), xs[i]? = some x → Pv i τ H → H T = none → (∀ τ' H', Pv (i + 1) τ' H' → R τ' H') → tComp1 D g tt te (.ref T) τ (upd H T (.tup [.int i, x])) R) (hd : ∀ τ H, Pv xs.length τ H → Q (.ref D) H) : CompS D (Ite sq) g tt te Q τ H := by
  refine ⟨fun i m τ H => m = xs.length - i ∧ i ≤ xs.length ∧ Pv i τ H, ⟨xs.length, by simp, Nat.zero_le _, h0⟩, ?_⟩
  rintro i m τ H2 ⟨rfl, hi, p⟩
  have q := hl i τ H2 hi p
  by_cases hlt : i < xs.length
  · have hx : xs[i]? = some xs[i] := by simp [hlt]
    refine .inr ⟨⟨xs, _, q, hx⟩, fun x H' y => ?_⟩
    obtain ⟨T, v, hT, e1, e2, y1⟩ := y
    subst e1 e2
    exact hs i _ T τ _ (fun τ' H' => ∃ m', m' < xs.length - i ∧ m' = xs.length - (i + 1) ∧ i + 1 ≤ xs.length ∧ Pv (i + 1) τ' H') (y1 xs q) p hT fun τ' H' p' => ⟨_, by omega, rfl, hlt, p'⟩
  · have e : i = xs.length := by omega
    subst e
    exact .inl ⟨⟨xs, q, Nat.le_refl _⟩, hd τ H2 p⟩
theorem compS_enumQ (xs : List V) (hq : Sq K H a xs) (ix : St) (Pv : Addr → Nat → St → Hp → Prop) (h0 : ∀ D, H D = none → Pv D 0 ix (upd H D (.lst []))) (hl : ∀ D i τ H', H D = none → Pv D i τ H' → Same H H')
    (hs : ∀ D i x T τ H' (R : St → Hp → Prop), H D = none → xs[i]? = some x → Pv D i τ H' → H' T = none → (∀ τ' H', Pv D (i + 1) τ' H' → R τ' H') → tComp1 D g tt te (.ref T) τ (upd H' T (.tup [.int i, x])) R) (hd : ∀ D τ H', H D = none → Pv D xs.length τ H' → Q (.ref D) H') :
    ((∃ xs, SqL K H a xs) ∧ ∀ D, H D = none → CompS D (Ite fun H xs => SqL K H a xs) g tt te Q ix (upd H D (.lst []))) ∨ ((∃ xs, SqT K H a xs) ∧ ∀ D, H D = none → CompS D (Ite fun H xs => SqT K H a xs) g tt te Q ix (upd H D (.lst []))) := by
  rcases hq with hq | hq
  · exact .inl ⟨⟨_, hq⟩, fun D hD => compS_ite xs (Pv D) (h0 D hD) (fun i τ H' _ p => (hl D i τ H' hD p).seq hq) (fun i x T τ H' R hx p hT nx => hs D i x T τ H' R hD hx p hT nx) (fun τ H' => hd D τ H' hD)⟩
  · exact .inr ⟨⟨_, hq⟩, fun D hD => compS_ite xs (Pv D) (h0 D hD) (fun i τ H' _ p => sqT_same (hl D i τ H' hD p) hq) (fun i x T τ H' R hx p hT nx => hs D i x T τ H' R hD hx p hT nx) (fun τ H' => hd D τ H' hD)⟩
end
end L2

namespace L2
open PySem PySem.Spec PyProof.Rows
section
variable {prog : Program} {w : World} {A : Around} {E : Value → Shared → Prop} {s : Shared} {z TI TO i1 i2 : Addr}
end
end L2

namespace L2
open PySem PySem.Spec PyProof.Rows
section
variable {X : Cx}
end
section
variable {K : PySem.W.Frag} {a b : Addr} {g : TG} {tt : TT} {te : TE} {Q : VK} {H : Hp}
end
end L2

namespace L2
open PySem PySem.Spec PyProof.Rows
section
variable {X : Cx}
end
section
variable {X : Cx} {CX : CXT} {x y : Str} {j k : Nat} {ps : List Str} {sp : Sp} {p pos tpos hpos np epos : Pos} {e : Expr} {es : List Expr} {t : TA} {C : Addr} {b₀ : Stmt} {suite : List Stmt} {ts : TS}
end
end L2

namespace L2
open PySem PySem.Spec PyProof.Rows
structure Mk0 (K : PySem.W.Frag) (C : Addr) : Prop where
  makes : PySem.W.makesIn K C = true
  init : PySem.W.findIn K (.ref C) "__init__" = some (some (.builtin "object.__init__"))
  kp : PySem.W.keepIn K (.ref C) = true
section
variable {X : Cx} {C : Addr} {x : Str} {p pos apos : Pos}
end
structure MkC (P : Program) (w : World) (K : PySem.W.Frag) (mg : Str → Option Value) (base : Heap) (x : Str) (C : Addr) (k : Nat) (ps : List Str) (sp : Sp) : Prop where
  ex : ∃ f fd, Mk K C f ∧ FnOk P w K mg base CX0 k f fd ps sp ∧ Binds K fd ps []
  at_ : mg x = some (.ref C)
section
variable {X : Cx} {C : Addr} {x : Str} {j k : Nat} {ps : List Str} {sp : Sp} {p pos apos : Pos} {e o : Expr} {es : List Expr} {t : TA} {ta : TE} {m : Str}
structure Disp (P : Program) (w : World) (K : PySem.W.Frag) (mg : Str → Option Value) (base : Heap) (m : Str) (k : Nat) (ps : List Str) (C : Addr) (sp : Sp) : Prop where
  cls : Cls K C
  ex : ∃ f fd, Meth K C m f ∧ FnOk P w K mg base CX0 k f fd ps sp ∧ Binds K fd ps []
end
structure ICls (K : PySem.W.Frag) (C : Addr) : Prop where
  cl : Cls K C
  ha : PySem.W.findIn K (.ref C) "__class__" = some (some (.builtin "object.__class__"))
  hn : PySem.W.specialIn K (.builtin "object.__class__") "__get__" = some (some (.builtin "getset_descriptor.__get__"))
  htk : PySem.W.takesIn K (.builtin "object.__class__") = some true
  hm : PySem.W.mroIn K C (.type "object") = some true
section
variable {X : Cx} {a b c d : Expr} {ta tb tc td : TE} {pos : Pos}
end
end L2

namespace L2
open PySem PySem.Spec PyProof.Rows
section
variable {prog : Program} {w : World} {A : Around} {E : Value → Shared → Prop} {s : Shared} {z TI TO i1 i2 : Addr}
end
end L2

namespace HT
open PySem PySem.Spec PyProof.Rows
section
variable {prog : Program} {w : World} {A : Around} {E : Value → Shared → Prop} {s : Shared}
end
end HT
namespace L2
open PySem PySem.Spec PyProof.Rows
end L2

namespace L2
open PySem PySem.Spec PyProof.Rows
section
variable {X : Cx} {CX : CXT} {x y n z : Str} {j k i iz : Nat} {ps : List Str} {sp : Sp} {p zpos pos tpos hpos np epos : Pos} {e : Expr} {es : List Expr} {t : TA} {C : Addr} {b₀ : Stmt} {suite : List Stmt} {ts : TS}
end
end L2

namespace L2
open PySem PySem.Spec PyProof.Rows
end L2

namespace L2
open PySem PySem.Spec PyProof.Rows
structure CompOkC (X : Cx) (scope : Scope) (y : Str) (cl : List (Str × Addr)) (N' : List Str) (ix : List Nat) (nl : Nat) : Prop where
  clos : closureFor scope X.env = pure cl
  sub : ∀ z c, cl.lookup z = some c → X.env.cells.lookup z = some c
  has : ∀ p ∈ (relabel scope X.env).names, (p.2 = .cell ∨ p.2 = .free) → (((y, 0) :: cl).lookup p.1).isSome = true
  lay : ∀ n, cellsFrom n scope.names cl = (y, n) :: cl
  push : ∀ h : Heap, pushCells h scope.names = h.push { cls := .type "cell", data := .cell none }
  kind : scope.kind = .function
  names : ∀ z ∈ scope.names, z.2 = .local → scope.names.lookup z.1 = some .local
  len : N'.length = ix.length + nl
  out : ∀ (i j : Nat) (x : Str), ix[i]? = some j → N'[i]? = some x → (x == y) = false ∧ X.N[j]? = some x ∧ (X.env.kindOf x = some .cell ∨ X.env.kindOf x = some .free) ∧ ((relabel scope X.env).names.lookup x = some .cell ∨ (relabel scope X.env).names.lookup x = some .free)
def OutsOkC (X : Cx) (scope : Scope) (y : Str) : List Nat → List Str → Prop
  | [], _ => True
  | j :: r, x :: t => ((x == y) = false ∧ X.N[j]? = some x ∧ (X.env.kindOf x = some .cell ∨ X.env.kindOf x = some .free) ∧ ((relabel scope X.env).names.lookup x = some .cell ∨ (relabel scope X.env).names.lookup x = some .free)) ∧ OutsOkC X scope y r t
  | _ :: _, [] => False
theorem OutsOkC.at {X : Cx} {scope : Scope} {y : Str} : ∀ {ix : List Nat} {N : List Str}, OutsOkC X scope y ix N → ∀ (i j : Nat) (x : Str), ix[i]? = some j → N[i]? = some x → (x == y) = false ∧ X.N[j]? = some x ∧ (X.env.kindOf x = some .cell ∨ X.env.kindOf x = some .free) ∧ ((relabel scope X.env).names.lookup x = some .cell ∨ (relabel scope X.env).names.lookup x = some .free)
  | [], _, _, i, j, y, h1, _ => by simp at h1
  | _ :: _, [], h, _, _, _, _, _ => h.elim
  | _ :: _, _ :: _, h, 0, j, y, h1, h2 => by
    simp at h1 h2
    subst h1 h2
    exact h.1
  | _ :: _, _ :: _, h, i + 1, j, y, h1, h2 => OutsOkC.at h.2 i j y (by simpa using h1) (by simpa using h2)
section
variable {X : Cx} {pins : List (Addr × Obj)} {σ : St} {H : Hp} {s : Shared}
end

section
variable {X : Cx} {elt iter tg : Expr} {ifs : List Expr} {scope : Scope} {pos : Pos} {y : Str} {cl : List (Str × Addr)} {N' : List Str} {ix : List Nat} {nl : Nat} {wi : TI} {g : TG} {tt : TT} {te : TE}
end
end L2

namespace L2
open PySem PySem.Spec PyProof.Rows
section
variable {prog : Program} {w : World} {A : Around} {s : Shared} {R : Result → Shared → Prop}
variable {I : Addr} {fp wr : List Addr} {G : Array GenState → Array GenState → Prop} {n : Nat} {P : Nat → Value → Prop} {St : Nat → Shared → Prop} {T : String}
end
section
variable {prog : Program} {w : World} {A : Around} {E : Value → Shared → Prop} {s : Shared}
variable {I : Addr} {fp wr : List Addr} {G : Array GenState → Array GenState → Prop} {n : Nat} {P : Nat → Value → Prop} {St : Nat → Shared → Prop} {T : String}
end
section
variable {X : Cx} {pins : List (Addr × Obj)} {σ : St} {H : Hp} {s : Shared}
end
section
variable {X : Cx} {e : Expr} {t : TA} {p1 p2 pos1 pos2 : Pos}
end
def IsRvd (h : Heap) (a l : Addr) (i : Int) : Prop := ∃ o, h.get? a = some o ∧ o.cls = .type "reversed" ∧ o.data = .fields #[.ref l, rawInt i]
end L2

namespace L2
open PySem PySem.Spec PyProof.Rows
section
variable {prog : Program} {w : World} {A : Around} {E : Value → Shared → Prop} {s : Shared}
theorem IsRvd.at {h h' : Heap} {a l : Addr} {i : Int} (x : IsRvd h a l i) (e : ∀ o, h.get? a = some o → h'.get? a = some o) : IsRvd h' a l i := let ⟨o, ho, r⟩ := x; ⟨o, e _ ho, r⟩
end
section
variable {X : Cx} {e : Expr} {t : TA} {p1 p2 pos1 pos2 : Pos}
end
end L2

namespace L2
open PySem PySem.Spec PyProof.Rows
end L2

namespace L2
open PySem PySem.Spec PyProof.Rows
section
variable {κ : Type} [DecidableEq κ]
def valV (kvs : List (κ × V)) (k : κ) : Option V := (kvs.find? fun kv => decide (kv.1 = k)).map (·.2)
def putK (kvs : List (κ × V)) (k : κ) (v : V) : List (κ × V) :=
  if (kvs.any fun kv => decide (kv.1 = k)) = true then kvs.map (fun kv => if kv.1 = k then (kv.1, v) else kv) else kvs ++ [(k, v)]
def dropK (kvs : List (κ × V)) (k : κ) : List (κ × V) := kvs.filter fun kv => decide (kv.1 ≠ k)

theorem valV_pos {p : κ × V} {r : List (κ × V)} {k : κ} (e : p.1 = k) : valV (p :: r) k = some p.2 := by simp [valV, List.find?_cons, e]
theorem valV_neg {p : κ × V} {r : List (κ × V)} {k : κ} (e : ¬ p.1 = k) : valV (p :: r) k = valV r k := by simp [valV, List.find?_cons, e]
theorem valV_any (k : κ) : ∀ kvs : List (κ × V), (kvs.any fun kv => decide (kv.1 = k)) = (valV kvs k).isSome
  | [] => rfl
  | p :: r => by
    rw [List.any_cons]
    by_cases e : p.1 = k
    · simp only [valV_pos e, decide_eq_true e, Bool.true_or, Option.isSome_some]
    · rw [valV_neg e, decide_eq_false e, Bool.false_or]; exact valV_any k r
theorem valV_map (k j : κ) (y : V) : ∀ kvs : List (κ × V), valV (kvs.map fun kv => if kv.1 = k then (kv.1, y) else kv) j = (valV kvs j).map fun x => if j = k then y else x
  | [] => rfl
  | p :: r => by
    have ih := valV_map k j y r
    rw [List.map_cons]
    by_cases h : p.1 = k
    · rw [if_pos h]
      by_cases e : p.1 = j
      · rw [valV_pos (p := (p.1, y)) e, valV_pos e, Option.map_some, if_pos (e.symm.trans h)]
      · rw [valV_neg (p := (p.1, y)) e, valV_neg e, ih]
    · rw [if_neg h]
      by_cases e : p.1 = j
      · rw [valV_pos (p := p) e, valV_pos e, Option.map_some, if_neg (fun z => h (e.trans z))]
      · rw [valV_neg (p := p) e, valV_neg e, ih]
theorem valV_snoc (k j : κ) (y : V) : ∀ kvs : List (κ × V), valV kvs k = none → valV (kvs ++ [(k, y)]) j = if j = k then some y else valV kvs j
  | [], _ => by
    by_cases e : k = j
    · rw [if_pos e.symm]; exact valV_pos (p := (k, y)) e
    · rw [if_neg (fun z => e z.symm)]; exact valV_neg (p := (k, y)) e
  | p :: r, hn => by
    rw [List.cons_append]
    have hk : ¬ p.1 = k := fun z => by rw [valV_pos z] at hn; cases hn
    rw [valV_neg hk] at hn
    have ih := valV_snoc k j y r hn
    by_cases e : p.1 = j
    · rw [valV_pos e, valV_pos e, if_neg (fun z => hk (e.trans z))]
    · rw [valV_neg e, valV_neg e, ih]
theorem valV_put (kvs : List (κ × V)) (k j : κ) (y : V) : valV (putK kvs k y) j = if j = k then some y else valV kvs j := by
  unfold putK
  by_cases a : (kvs.any fun kv => decide (kv.1 = k)) = true
  · rw [if_pos a, valV_map]
    rw [valV_any] at a
    by_cases e : j = k
    · obtain ⟨x, hx⟩ := Option.isSome_iff_exists.mp a
      rw [if_pos e, e, hx, Option.map_some, if_pos rfl]
    · rw [if_neg e]
      cases valV kvs j with
      | none => rfl
      | some x => rw [Option.map_some, if_neg e]
  · rw [if_neg a]
    refine valV_snoc k j y kvs ?_
    rw [valV_any] at a
    cases q : valV kvs k with
    | none => rfl
    | some x => rw [q] at a; exact (a rfl).elim
theorem length_putK (kvs : List (κ × V)) (k : κ) (v : V) : (putK kvs k v).length ≤ kvs.length + 1 := by
  unfold putK
  split
  · rw [List.length_map]; omega
  · rw [List.length_append, List.length_cons, List.length_nil]; omega
theorem putK_new {kvs : List (κ × V)} {k : κ} (v : V) (h : valV kvs k = none) : putK kvs k v = kvs ++ [(k, v)] := by
  unfold putK
  rw [valV_any, h]
  exact if_neg (by decide)

theorem RelO.isSome_eq {o : Option V} {u : Option Value} (r : RelO o u) : o.isSome = u.isSome := by
  cases o with
  | none => cases u with
    | none => rfl
    | some _ => exact (show False from r).elim
  | some _ => cases u with
    | none => exact (show False from r).elim
    | some _ => rfl
theorem RelO.getD {o : Option V} {u : Option Value} {d : V} {d' : Value} (r : RelO o u) (rd : RelV d d') : RelV (o.getD d) (u.getD d') := by
  cases o with
  | none => cases u with
    | none => exact rd
    | some _ => exact (show False from r).elim
  | some _ => cases u with
    | none => exact (show False from r).elim
    | some _ => exact r

theorem KV.val {kvs : List (κ × V)} {vs : List (κ × Value)} (r : KV kvs vs) (k : κ) : RelO (valV kvs k) (valueAt vs k) := by
  unfold KV at r
  induction r with
  | nil => exact True.intro
  | @cons p q ps qs h t ih =>
    obtain ⟨h1, h2⟩ := h
    by_cases e : p.1 = k
    · have e' : q.1 = k := h1.symm.trans e
      have b : valueAt (q :: qs) k = some q.2 := by simp [valueAt, List.find?_cons, e']
      rw [valV_pos e, b]; exact h2
    · have e' : ¬ q.1 = k := fun z => e (h1.trans z)
      have b : valueAt (q :: qs) k = valueAt qs k := by simp [valueAt, List.find?_cons, e']
      rw [valV_neg e, b]; exact ih
theorem KV.any {kvs : List (κ × V)} {vs : List (κ × Value)} (r : KV kvs vs) (k : κ) : (kvs.any fun kv => decide (kv.1 = k)) = vs.any fun kv => decide (kv.1 = k) := by
  unfold KV at r
  induction r with
  | nil => rfl
  | cons h t ih => rw [List.any_cons, List.any_cons, ih, h.1]
theorem KV.repl {kvs : List (κ × V)} {vs : List (κ × Value)} (r : KV kvs vs) (k : κ) {y : V} {u : Value} (ry : RelV y u) :
    KV (kvs.map fun kv => if kv.1 = k then (kv.1, y) else kv) (vs.map fun kv => if kv.1 = k then (kv.1, u) else kv) := by
  unfold KV at r ⊢
  induction r with
  | nil => exact .nil
  | @cons p q ps qs h t ih =>
    rw [List.map_cons, List.map_cons]
    refine .cons ?_ ih
    obtain ⟨h1, h2⟩ := h
    by_cases e : p.1 = k
    · rw [if_pos e, if_pos (h1.symm.trans e)]; exact ⟨h1, ry⟩
    · rw [if_neg e, if_neg (fun z => e (h1.trans z))]; exact ⟨h1, h2⟩
theorem KV.put {kvs : List (κ × V)} {vs : List (κ × Value)} (r : KV kvs vs) (k : κ) {y : V} {u : Value} (ry : RelV y u) : KV (putK kvs k y) (stored vs k u) := by
  unfold putK stored
  rw [r.any k]
  by_cases e : (vs.any fun kv => decide (kv.1 = k)) = true
  · rw [if_pos e, if_pos e]; exact r.repl k ry
  · rw [if_neg e, if_neg e]; exact Paired.snoc r ⟨rfl, ry⟩
theorem KV.drop {kvs : List (κ × V)} {vs : List (κ × Value)} (r : KV kvs vs) (k : κ) : KV (dropK kvs k) (without vs k) := by
  unfold KV at r ⊢
  unfold dropK without
  induction r with
  | nil => exact .nil
  | @cons p q ps qs h t ih =>
    obtain ⟨h1, h2⟩ := h
    rw [List.filter_cons, List.filter_cons]
    by_cases e : p.1 = k
    · have a : ¬ decide (p.1 ≠ k) = true := by simp [e]
      have b : ¬ decide (q.1 ≠ k) = true := by simp [h1.symm.trans e]
      rw [if_neg a, if_neg b]; exact ih
    · have e' : ¬ q.1 = k := fun z => e (h1.trans z)
      have a : decide (p.1 ≠ k) = true := by simp [e]
      have b : decide (q.1 ≠ k) = true := by simp [e']
      rw [if_pos a, if_pos b]; exact .cons ⟨h1, h2⟩ ih
theorem KV.keys {kvs : List (κ × V)} {vs : List (κ × Value)} (r : KV kvs vs) : kvs.map (·.1) = vs.map (·.1) := by
  unfold KV at r
  induction r with
  | nil => rfl
  | cons h t ih => rw [List.map_cons, List.map_cons, ih, h.1]
theorem KV.length {kvs : List (κ × V)} {vs : List (κ × Value)} (r : KV kvs vs) : kvs.length = vs.length := Paired.length r
end


theorem kV_is {P : Program} {w : World} {k : Key} {u : Value} (r : RelV (kV k) u) : (mixKind P w).is k u = true := by
  cases k with
  | inl i => obtain ⟨t, e⟩ := (show ∃ t, u = Value.int i t from r); subst e; exact mixKind_int P w i t
  | inr x => obtain ⟨t, e⟩ := (show ∃ t, u = Value.str x t from r); subst e; exact mixKind_str P w x t
theorem items_are {P : Program} {w : World} : ∀ {ks : List Key} {us : List Value}, Vals (ks.map kV) us → ItemsAre (mixKind P w) ks us
  | [], _, r => by rw [List.map_nil] at r; cases r; exact .nil
  | k :: ks, _, r => by
    rw [List.map_cons] at r
    cases r with
    | cons h t => exact .cons (kV_is h) (items_are t)

abbrev KT (H : Hp) : List (List Key × V) → List (List Key × Addr × Value) → Prop := Paired fun p q => p.1 = q.1 ∧ H q.2.1 = some (.tup (p.1.map kV)) ∧ RelV p.2 q.2.2
theorem KT.val {H : Hp} {kvs : List (List Key × V)} {xs : List (List Key × Addr × Value)} (r : KT H kvs xs) (k : List Key) : RelO (valV kvs k) ((atKey xs k).map (·.2)) := by
  induction r with
  | nil => exact True.intro
  | @cons p q ps qs h t ih =>
    obtain ⟨h1, _, h2⟩ := h
    by_cases e : p.1 = k
    · have e' : q.1 = k := h1.symm.trans e
      have b : atKey (q :: qs) k = some q.2 := by simp [atKey, List.find?_cons, e']
      rw [valV_pos e, b]; exact h2
    · have e' : ¬ q.1 = k := fun z => e (h1.trans z)
      have b : atKey (q :: qs) k = atKey qs k := by simp [atKey, List.find?_cons, e']
      rw [valV_neg e, b]; exact ih
theorem KT.repl {H : Hp} {kvs : List (List Key × V)} {xs : List (List Key × Addr × Value)} (r : KT H kvs xs) (k : List Key) {y : V} {u : Value} (ry : RelV y u) :
    KT H (kvs.map fun kv => if kv.1 = k then (kv.1, y) else kv) (xs.map (putAt k u)) := by
  induction r with
  | nil => exact .nil
  | @cons p q ps qs h t ih =>
    rw [List.map_cons, List.map_cons]
    refine .cons ?_ ih
    obtain ⟨h1, h2, h3⟩ := h
    unfold putAt
    by_cases e : p.1 = k
    · rw [if_pos e, if_pos (h1.symm.trans e)]; exact ⟨h1, h2, ry⟩
    · rw [if_neg e, if_neg (fun z => e (h1.trans z))]; exact ⟨h1, h2, h3⟩
theorem KT.put {H : Hp} {kvs : List (List Key × V)} {xs : List (List Key × Addr × Value)} (r : KT H kvs xs) (k : List Key) {b : Addr} {y : V} {u : Value} (hb : H b = some (.tup (k.map kV))) (ry : RelV y u) :
    KT H (putK kvs k y) (storedH xs k b u) := by
  have e : (kvs.any fun kv => decide (kv.1 = k)) = (atKey xs k).isSome := by
    rw [valV_any, (r.val k).isSome_eq, Option.isSome_map]
  unfold putK storedH
  rw [e]
  by_cases q : (atKey xs k).isSome = true
  · rw [if_pos q, if_pos q]; exact r.repl k ry
  · rw [if_neg q, if_neg q]; exact Paired.snoc r ⟨rfl, hb, ry⟩
theorem KT.keeps {H H' : Hp} {kvs : List (List Key × V)} {xs : List (List Key × Addr × Value)} (r : KT H kvs xs) (ht : ∀ b ys, H b = some (.tup ys) → H' b = some (.tup ys)) : KT H' kvs xs :=
  Paired.mapP r fun _ _ z => ⟨z.1, ht _ _ z.2.1, z.2.2⟩

section
variable {P : Program} {w : World} {H : Hp} {h : Heap} {a : Addr}
theorem rd_of {u : HO} (ok : HOk P w H h) (e : Rd H a u) : ObjOk P w H h a u := e.ok ok
theorem dk_rd {kvs : List (Key × V)} (ok : HOk P w H h) (e : Rd H a (.dK kvs)) : kvs.length ≤ sizeLine ∧ (a == sysModules) = false ∧ ∃ vs, KV kvs vs ∧ h.DictOf (mixKind P w) a vs :=
  show ObjOk P w H h a (.dK kvs) from rd_of ok e
theorem dk_of {kvs : List (Key × V)} (ok : HOk P w H h) (e : H a = some (.dK kvs)) : kvs.length ≤ sizeLine ∧ (a == sysModules) = false ∧ ∃ vs, KV kvs vs ∧ h.DictOf (mixKind P w) a vs := dk_rd ok (.inl e)
theorem key_of {ks : List Key} (ok : HOk P w H h) (e : H a = some (.tup (ks.map kV))) : (tupleKind (mixKind P w)).is h ks a := by
  obtain ⟨_, its, r, ⟨o, h1, h2, n, h3⟩, _⟩ := (show ObjOk P w H h a (.tup (ks.map kV)) from ok a _ e)
  exact ⟨o, its.toArray, n, h1, h2, h3, by simpa using items_are r⟩
theorem dt_rd {kvs : List (List Key × V)} (ok : HOk P w H h) (e : Rd H a (.dT kvs)) : kvs.length ≤ sizeLine ∧ (a == sysModules) = false ∧
    ∃ xs, KT H kvs xs ∧ h.DictOfH (tupleKind (mixKind P w)) a xs := by
  obtain ⟨z, y, xs, r, o, es, ep, h1, h2, h3, h4, h5⟩ := (show ObjOk P w H h a (.dT kvs) from rd_of ok e)
  refine ⟨z, y, xs, r, o, es, ep, h1, h2, h3, h4, fun x hx => ?_, h5⟩
  have all : ∀ {l : List (List Key × V)} {m : List (List Key × Addr × Value)}, KT H l m → ∀ x ∈ m, (tupleKind (mixKind P w)).is h x.1 x.2.1 := by
    intro l m q
    induction q with
    | nil => intro x hx; exact nomatch hx
    | @cons p q ps qs hq t ih =>
      intro x hx
      rcases List.mem_cons.mp hx with e | hx
      · subst e
        exact key_of ok (by rw [← hq.1]; exact hq.2.1)
      · exact ih x hx
  exact all r x hx
theorem dt_of {kvs : List (List Key × V)} (ok : HOk P w H h) (e : H a = some (.dT kvs)) : kvs.length ≤ sizeLine ∧ (a == sysModules) = false ∧
    ∃ xs, KT H kvs xs ∧ h.DictOfH (tupleKind (mixKind P w)) a xs := dt_rd ok (.inl e)
end

def DGet (H : Hp) (a : Addr) (y : V) (r : Option V) : Prop :=
  (∃ kvs k, Rd H a (.dK kvs) ∧ y = kV k ∧ r = valV kvs k) ∨ ∃ kvs k b, Rd H a (.dT kvs) ∧ y = .ref b ∧ H b = some (.tup (k.map kV)) ∧ r = valV kvs k
def DPut (H : Hp) (a : Addr) (y v : V) (H' : Hp) : Prop :=
  (∃ kvs k, H a = some (.dK kvs) ∧ y = kV k ∧ kvs.length < sizeLine ∧ H' = upd H a (.dK (putK kvs k v))) ∨
  ∃ kvs k b, H a = some (.dT kvs) ∧ y = .ref b ∧ H b = some (.tup (k.map kV)) ∧ kvs.length < sizeLine ∧ H' = upd H a (.dT (putK kvs k v))
theorem DGet.k {H : Hp} {a : Addr} {kvs : List (Key × V)} {k : Key} (e : H a = some (.dK kvs)) : DGet H a (kV k) (valV kvs k) := .inl ⟨kvs, k, .inl e, rfl, rfl⟩
theorem DGet.t {H : Hp} {a b : Addr} {kvs : List (List Key × V)} {k : List Key} (e : H a = some (.dT kvs)) (eb : H b = some (.tup (k.map kV))) : DGet H a (.ref b) (valV kvs k) := .inr ⟨kvs, k, b, .inl e, rfl, eb, rfl⟩
theorem DPut.k {H : Hp} {a : Addr} {kvs : List (Key × V)} {k : Key} {v : V} (e : H a = some (.dK kvs)) (hl : kvs.length < sizeLine) : DPut H a (kV k) v (upd H a (.dK (putK kvs k v))) := .inl ⟨kvs, k, e, rfl, hl, rfl⟩
theorem DPut.t {H : Hp} {a b : Addr} {kvs : List (List Key × V)} {k : List Key} {v : V} (e : H a = some (.dT kvs)) (eb : H b = some (.tup (k.map kV))) (hl : kvs.length < sizeLine) :
    DPut H a (.ref b) v (upd H a (.dT (putK kvs k v))) := .inr ⟨kvs, k, b, e, rfl, eb, hl, rfl⟩


section
variable {X : Cx} {pins : List (Addr × Obj)} {σ : St} {H : Hp} {s : Shared} {a : Addr} {y v : V} {u r : Value} {o : Option V} {A : Around} {E : Value → Shared → Prop}

theorem Inv.big (I : Inv X pins σ H s) : sysModules < s.heap.objs.size := by
  have h : mainGlobals < s.heap.objs.size := (I.mod.glob.keeps I.bk).lt
  exact Nat.lt_trans (by decide) h

theorem d_getItem {Q : Value → Shared → Prop} (hu : A.units + 1 < cLine) (I : Inv X pins σ H s) (g : DGet H a y (some v)) (ry : RelV y u) (h : ∀ w' s', Inv X pins σ H s' → RelV v w' → Q w' s') :
    wpAny (model X.prog X.w) A (getItem (.ref a) u) Q E s := by
  rcases g with ⟨kvs, k, e, ey, l⟩ | ⟨kvs, k, b, e, ey, eb, l⟩
  · subst ey
    obtain ⟨z, hd, vs, rel, dd⟩ := dk_rd I.hok e
    obtain ⟨w', hw, rw'⟩ := RelO.some_of (v := v) (o := valueAt vs k) (by rw [l]; exact rel.val k)
    exact wpAny_getItem_of (kV_is ry) dd.mapOf hw (h w' _ (I.tok _) rw')
  · subst ey
    cases (show u = Value.ref b from ry)
    obtain ⟨z, hd, xs, rel, dd⟩ := dt_rd I.hok e
    obtain ⟨w', hw, rw'⟩ := RelO.some_of (v := v) (o := (atKey xs k).map (·.2)) (by rw [l]; exact rel.val k)
    obtain ⟨p, hp, hp2⟩ := Option.map_eq_some_iff.mp hw
    refine wpAny_getItem_heap (tupleKind_room_in1 hu) (key_of I.hok eb) dd hp ?_
    rw [hp2]
    exact h w' _ (I.tok _) rw'
theorem d_notIn {Q : Value → Shared → Prop} (hu : A.units + 1 < cLine) (I : Inv X pins σ H s) (g : DGet H a y o) (ry : RelV y u) (h : ∀ s', Inv X pins σ H s' → Q (.bool (!o.isSome)) s') :
    wpAny (model X.prog X.w) A (compareOp .NotIn u (.ref a)) Q E s := by
  rcases g with ⟨kvs, k, e, ey, l⟩ | ⟨kvs, k, b, e, ey, eb, l⟩
  · subst ey
    obtain ⟨z, hd, vs, rel, dd⟩ := dk_rd I.hok e
    refine wpAny_notIn_of (kV_is ry) hd dd.mapOf ?_
    rw [← (rel.val k).isSome_eq, ← l]
    exact h _ (I.tok _)
  · subst ey
    cases (show u = Value.ref b from ry)
    obtain ⟨z, hd, xs, rel, dd⟩ := dt_rd I.hok e
    refine wpAny_notIn_heap (tupleKind_room_in1 hu) (key_of I.hok eb) hd dd ?_
    have q := (rel.val k).isSome_eq
    rw [Option.isSome_map] at q
    rw [← q, ← l]
    exact h _ (I.tok _)
theorem d_write {h' : Heap} {t' : Nat} {ob : HO} (I : Inv X pins σ H s) (mu : Mut (H a)) (hs : Heap.SameBut a s.heap h') (he : ∃ q, h'.get? a = some q) (new : ObjOk X.prog X.w (upd H a ob) h' a ob) :
    Inv X pins σ (upd H a ob) { s with heap := h', toks := t' } :=
  I.write (x := a) (e := a) mu (.inl rfl) (fun b q hb z => (hs.2 b hb).trans z) he new
theorem dk_new {P : Program} {w : World} {H' : Hp} {h' : Heap} {kvs : List (Key × V)} {vs : List (Key × Value)} (z : kvs.length ≤ sizeLine) (hd : (a == sysModules) = false) (rel : KV kvs vs) (dd : h'.DictOf (mixKind P w) a vs) :
    ObjOk P w H' h' a (.dK kvs) := ⟨z, hd, vs, rel, dd⟩
theorem d_setItem {H' : Hp} {Q : Unit → Shared → Prop} (hu : A.units + 1 < cLine) (I : Inv X pins σ H s) (g : DPut H a y v H') (ry : RelV y u) (rv : RelV v r) (h : ∀ s', Inv X pins σ H' s' → Q () s') :
    wpAny (model X.prog X.w) A (setItem (.ref a) u r) Q E s := by
  rcases g with ⟨kvs, k, e, ey, l, eH⟩ | ⟨kvs, k, b, e, ey, eb, l, eH⟩
  · subst ey eH
    obtain ⟨z, hd, vs, rel, dd⟩ := dk_of I.hok e
    have hz : vs.length ≤ sizeLine := by rw [← rel.length]; exact z
    have hl : (putK kvs k v).length ≤ sizeLine := by have := length_putK kvs k v; omega
    refine wpAny_setItem_pairs (hsz := hz) (kV_is ry) dd fun h' dd' hs => h _ ?_
    have he : ∃ q, h'.get? a = some q := let ⟨q, _, _, hq, _⟩ := dd'; ⟨q, hq⟩
    exact d_write I (by rw [e]; exact True.intro) hs he (dk_new hl hd (rel.put k rv) dd')
  · subst ey eH
    cases (show u = Value.ref b from ry)
    obtain ⟨z, hd, xs, rel, dd⟩ := dt_of I.hok e
    have hz : xs.length ≤ sizeLine := by rw [← Paired.length rel]; exact z
    have hl : (putK kvs k v).length ≤ sizeLine := by have := length_putK kvs k v; omega
    refine wpAny_setItem_heap (hsz := hz) (tupleKind_room_in1 hu) (key_of I.hok eb) dd fun h' dd' hs => h _ ?_
    obtain ⟨q, es, ep, hq, h2, h3, h4, _, h5⟩ := dd'
    refine d_write I (by rw [e]; exact True.intro) hs ⟨q, hq⟩ ⟨hl, hd, _, (rel.put k eb rv).keeps fun c ys ec => ?_, q, es, ep, hq, h2, h3, h4, h5⟩
    rw [upd_ne (ne_of ec e (fun z => nomatch z))]
    exact ec
end

section
variable {X : Cx} {pins : List (Addr × Obj)} {σ : St} {H : Hp} {s : Shared} {a : Addr} {kvs : List (Key × V)} {k : Key} {u : Value} {A : Around} {E : Value → Shared → Prop}
end


def NoSl (i : Expr) : Prop := ∀ ov iv, subscripted i false ov iv = operate [ov, iv] (getItem ov iv)
theorem subD_of {prog : Program} {w : World} {A : Around} {E : Value → Shared → Prop} {s : Shared} {env : Env} {value slice : Expr} {pos : Pos} {T id : String} {Q : Value → Shared → Prop}
    (hl : typeLookup (.type T) "__getitem__" = pure (some (.builtin id))) (hs : NoSl slice)
    (h : wpAny (model prog w) A (eval value env) (fun o s₁ => wpAny (model prog w) A (eval slice env) (fun i s₂ => s₂.TypeIs o T ∧ wpAny (model prog w) A (getItem o i) Q E s₂) E s₁) E s) :
    wpAny (model prog w) A (eval (.Subscript value slice pos) env) Q E s := by
  refine Subscript_ (wpAny_mono h (fun o s₁ h₁ => wpAny_mono h₁ (fun i s₂ h₂ => ?_) fun _ _ x => x) fun _ _ x => x)
  obtain ⟨hT, h₂⟩ := h₂
  unfold subscriptTail
  refine wpAny_bind ?_
  rw [getitemInPython_of_ne hT.not_modules]
  refine wpAny_bind (wpAny_specialOf hT hl ?_)
  have fin : wpAny (model prog w) A (subscripted slice false o i) (fun r s₃ => wpAny (model prog w) A (letTemporaryGo value o r >>= fun _ => pure r) Q E s₃) E s₂ := by
    rw [hs o i]
    exact wpAny_operating (wpAny_mono h₂ (fun r s₃ h₃ => wpAny_bind (wpAny_letTemporaryGo (wpAny_pure h₃))) fun _ _ x => x)
  first
    | exact wpAny_pure (wpAny_bind fin)
    | exact wpAny_bind (wpAny_pure (wpAny_bind fin))
    | exact wpAny_bind fin

theorem dict_typeIs {X : Cx} {pins : List (Addr × Obj)} {σ : St} {H : Hp} {s : Shared} {a : Addr} {y : V} {o : Option V} (I : Inv X pins σ H s) (g : DGet H a y o) : s.TypeIs (.ref a) "dict" := by
  rcases g with ⟨kvs, k, e, _, _⟩ | ⟨kvs, k, b, e, _, _, _⟩
  · obtain ⟨_, _, vs, _, dd⟩ := dk_rd I.hok e
    exact dd.typeIs
  · obtain ⟨_, _, xs, _, dd⟩ := dt_rd I.hok e
    exact dd.typeIs
def tDGet (td ty : TE) : TE := fun σ H Q => td σ H fun x H1 => ty σ H1 fun y H2 => ∃ a v, x = .ref a ∧ DGet H2 a y (some v) ∧ Q v H2
def tDNotIn (ty td : TE) : TE := fun σ H Q => ty σ H fun y H1 => td σ H1 fun x H2 => ∃ a o, x = .ref a ∧ DGet H2 a y o ∧ Q (.bl (!o.isSome)) H2
def sDPut (td ty tv : TE) : TS := fun D σ H => tv σ H fun v H1 => td σ H1 fun x H2 => ty σ H2 fun y H3 => ∃ a H4, x = .ref a ∧ DPut H3 a y v H4 ∧ D.nx σ H4
section
variable {X : Cx} {o i e value : Expr} {pos pos' tpos : Pos} {td ty tv : TE}
theorem pe_dget (hu : X.A.units + 1 < cLine) (ho : PE X o td) (hi : PE X i ty) (hs : NoSl i) : PE X (.Subscript o i pos) (tDGet td ty) := by
  intro pins s σ H Q I h
  refine subD_of PySem.F.slot_dict_getitem.lookup hs (thn (ho pins s σ H _ I h) fun u s1 ⟨x, H1, I1, rx, q1⟩ => thn (hi pins s1 σ H1 _ I1 q1) fun iv s2 ⟨y, H2, I2, ry, a, v, ex, g, q2⟩ => ?_)
  subst ex
  obtain rfl : u = Value.ref a := rx
  exact ⟨dict_typeIs I2 g, d_getItem hu I2 g ry fun w' s3 I3 rw' => ⟨v, H2, I3, rw', q2⟩⟩
theorem pc_dnotin (hu : X.A.units + 1 < cLine) (hi : PE X i ty) (ho : PE X o td) : PC X .NotIn i o (tDNotIn ty td) := by
  intro pins s σ H Q I h
  refine thn (hi pins s σ H _ I h) fun iv s1 ⟨y, H1, I1, ry, q1⟩ => thn (ho pins s1 σ H1 _ I1 q1) fun u s2 ⟨x, H2, I2, rx, a, ov, ex, g, q2⟩ => ?_
  subst ex
  obtain rfl : u = Value.ref a := rx
  exact d_notIn hu I2 g ry fun s3 I3 => ⟨.bl (!ov.isSome), H2, I3, rfl, q2⟩
theorem ps_dput (hu : X.A.units + 1 < cLine) (ho : PE X o td) (hi : PE X i ty) (hv : PE X value tv) (hs : swapsWith value (some (.Subscript o i pos')) pos.line X.env = pure false) :
    PS X (.Assign [.Subscript o i pos'] value pos) (sDPut td ty tv) := by
  intro pins s σ H D I h
  refine wpAny_Assign_Subscript (thn (hv pins s σ H _ I h) fun r s1 ⟨v, H1, I1, rv, q1⟩ => thn (ho pins s1 σ H1 _ I1 q1) fun u s2 ⟨x, H2, I2, rx, q2⟩ => thn (hi pins s2 σ H2 _ I2 q2) fun iv s3 ⟨y, H3, I3, ry, a, H4, ex, g, q3⟩ => ?_) hs
  subst ex
  obtain rfl : u = Value.ref a := rx
  exact d_setItem hu I3 g ry rv fun s4 I4 => ⟨σ, H4, I4, q3⟩
end


theorem dk_empty {P : Program} {w : World} {H : Hp} (h : Heap) (hb : sysModules < h.objs.size) : ObjOk P w H (h.push { cls := .type "dict", data := .dict #[] }) h.objs.size (.dK []) :=
  ⟨Nat.zero_le _, beq_eq_false_iff_ne.mpr (Ne.symm (Nat.ne_of_lt hb)), [], .nil, Heap.DictOf.new h⟩
def tDNewK : TE := fun _ H Q => ∀ p, H p = none → Q (.ref p) (upd H p (.dK []))
section
variable {X : Cx} {pos : Pos}
theorem pe_dnewK : PE X (.Dict [] [] pos) tDNewK := fun pins s σ H Q I h =>
  wpAny_Dict_empty ⟨.ref s.heap.objs.size, _, I.laid (a := s.heap.objs.size) (o := .dK []) (t' := s.toks) (fun _ _ q => Heap.get?_push_of_some _ q) (Nat.le_refl _) (dk_empty s.heap I.big), rfl, h _ (I.hok.fresh (Nat.le_refl _))⟩
end

structure M1 (X : Cx) (o : Expr) (m : Str) (apos : Pos) (e : Expr) (cpos : Pos) : Prop where
  base : attributeBase o m X.env (eval o X.env) = eval o X.env
  few : ((backTo cpos (starEach [e] X.env)).all (fun x => !x.1) && (backToKw cpos (keywordEach [] X.env)).all (fun x => x.1.isSome)
    && decide (([e] : List Expr).length + ([] : List Keyword).length + (if ([] : List Keyword).isEmpty then 0 else 1) < 30)) = true
  line : (apos.endLine == cpos.line) = true
  trees : backTo cpos (starEach [e] X.env) = [(false, eval e X.env)]
structure M2 (X : Cx) (o : Expr) (m : Str) (apos : Pos) (e f : Expr) (cpos : Pos) : Prop where
  base : attributeBase o m X.env (eval o X.env) = eval o X.env
  few : ((backTo cpos (starEach [e, f] X.env)).all (fun x => !x.1) && (backToKw cpos (keywordEach [] X.env)).all (fun x => x.1.isSome)
    && decide (([e, f] : List Expr).length + ([] : List Keyword).length + (if ([] : List Keyword).isEmpty then 0 else 1) < 30)) = true
  line : (apos.endLine == cpos.line) = true
  trees : backTo cpos (starEach [e, f] X.env) = [(false, eval e X.env), (false, eval f X.env)]

def IsD (H : Hp) (a : Addr) : Prop := (∃ kvs, Rd H a (.dK kvs)) ∨ ∃ kvs, Rd H a (.dT kvs)
theorem isD_at {X : Cx} {pins : List (Addr × Obj)} {σ : St} {H : Hp} {s : Shared} {a : Addr} (I : Inv X pins σ H s) (d : IsD H a) :
    s.TypeIs (.ref a) "dict" ∧ (∀ b, Value.ref a = .ref b → ∃ ob, s.heap.get? b = some ob ∧ ob.dict = none) ∧ (a == sysModules) = false := by
  rcases d with ⟨kvs, e⟩ | ⟨kvs, e⟩
  · obtain ⟨_, hd, vs, _, dd⟩ := dk_rd I.hok e
    refine ⟨dd.typeIs, fun b q => ?_, hd⟩
    cases q
    obtain ⟨ob, _, _, h1, h2, _⟩ := dd
    exact ⟨ob, h1, h2.2.1⟩
  · obtain ⟨_, hd, xs, _, dd⟩ := dt_rd I.hok e
    refine ⟨dd.typeIs, fun b q => ?_, hd⟩
    cases q
    obtain ⟨ob, _, _, h1, h2, _⟩ := dd
    exact ⟨ob, h1, h2.2.1⟩

section
variable {X : Cx} {pins : List (Addr × Obj)} {σ : St} {H : Hp} {s : Shared} {a : Addr} {y d : V} {u r : Value} {o : Option V} {A : Around} {E : Value → Shared → Prop}
end

section
variable {X : Cx} {o e f : Expr} {apos cpos : Pos} {td ty tx : TE}
end

section
variable {X : Cx} {pins : List (Addr × Obj)} {σ : St} {H : Hp} {s : Shared} {a : Addr} {kvs : List (Key × V)} {A : Around} {E : Value → Shared → Prop}
end


section
variable {X : Cx} {pins : List (Addr × Obj)} {σ : St} {H : Hp} {s : Shared} {a : Addr} {y : V} {u : Value} {A : Around} {E : Value → Shared → Prop}
end
end L2
namespace L2
open PySem PySem.Spec PyProof.Rows
section
variable {κ : Type} [DecidableEq κ]
theorem valV_not {kvs : List (κ × V)} {k : κ} (h : valV kvs k = none) : ¬ k ∈ kvs.map (·.1) := by
  intro m
  obtain ⟨p, hp, e⟩ := List.mem_map.mp m
  have q : (kvs.any fun kv => decide (kv.1 = k)) = true := List.any_eq_true.mpr ⟨p, hp, decide_eq_true e⟩
  rw [valV_any, h] at q
  exact absurd q (by simp)
theorem valV_in {kvs : List (κ × V)} {k : κ} {v : V} (h : valV kvs k = some v) : k ∈ kvs.map (·.1) := by
  have q : (kvs.any fun kv => decide (kv.1 = k)) = true := by
    rw [valV_any, h]
    all_goals rfl
  obtain ⟨p, hp, e⟩ := List.any_eq_true.mp q
  exact List.mem_map.mpr ⟨p, hp, of_decide_eq_true e⟩
theorem nd_snoc : ∀ {l : List κ} {k : κ}, l.Nodup → ¬ k ∈ l → (l ++ [k]).Nodup
  | [], k, _, _ => by simp
  | a :: r, k, h, hk => by
    obtain ⟨h1, h2⟩ := List.nodup_cons.mp h
    show (a :: (r ++ [k])).Nodup
    refine List.nodup_cons.mpr ⟨fun m => ?_, nd_snoc h2 fun m => hk (List.mem_cons.mpr (Or.inr m))⟩
    rcases List.mem_append.mp m with q | q
    · exact h1 q
    · exact hk (List.mem_cons.mpr (Or.inl (List.mem_singleton.mp q).symm))
theorem nd_putK {kvs : List (κ × V)} {k : κ} (v : V) (hn : (kvs.map (·.1)).Nodup) (h : valV kvs k = none) : ((putK kvs k v).map (·.1)).Nodup := by
  rw [putK_new v h, List.map_append]
  exact nd_snoc hn (valV_not h)
end
end L2

namespace L2
open PySem PySem.Spec PyProof.Rows
def KEnt (P : Params) : List DictEntry → List (Str × V) → Prop
  | [], [] => True
  | e :: es, kv :: r => (∃ t, e.key = .str kv.1 t) ∧ e.hash = PyData.keyHash P kv.1 ∧ RelV kv.2 e.val ∧ KEnt P es r
  | _, _ => False
structure KDct (P : Params) (K : PySem.W.Frag) (a : Addr) (kvs : List (Str × V)) : Prop where
  sm : (a == sysModules) = false
  nd : (kvs.map (·.1)).Nodup
  ob : ∃ es ep, K.lookup a = some ⟨.type "dict", none, .dict es ep, #[]⟩ ∧ KEnt P es.toList kvs
section
variable {X : Cx} {pins : List (Addr × Obj)} {σ : St} {H : Hp} {s : Shared} {a : Addr} {k : Str} {v : V} {u : Value} {A : Around} {E : Value → Shared → Prop} {kvs : List (Str × V)}
end
section
variable {X : Cx} {o i : Expr} {pos : Pos} {td ty : TE}
end
end L2

namespace PySem
open Sem (wp)
namespace DictL
section
variable {prog : Program} {w : World} {A : Around} {E : Value → Shared → Prop} {s : Shared}
theorem list_ga : typeLookup (.type "list") (Str.ofString "__getattribute__") = pure (some (.builtin "list.__getattribute__")) := by kernel_rfl
theorem list_keys : typeLookup (.type "list") (Str.ofString "keys") = pure none := by kernel_rfl
theorem ga_call {l : Addr} {xs : Array Value} {n : Nat} {sl : Array (Option Value)} {t : Tok} {R : Result → Shared → Prop} (ho : s.heap.get? l = some { cls := .type "list", dict := none, data := .seq xs n, slots := sl }) (hh : A.handled = none)
    (h : ∀ h' tk e, s.heap.NewAttrErr h' e (.ref l) (Str.ofString "keys") → R (.error (.ref e)) { s with heap := h', toks := tk }) : codeAny (model prog w) A (.call (.builtin "list.__getattribute__") ⟨[.ref l, .str (Str.ofString "keys") t], []⟩) R s :=
  codeAny_call_builtin F.slot_list_getattribute.plain am_entry_list_getattribute (F.slot_list_getattribute.check _ _ _ _ _ _ _ _ ⟨_, ho, rfl⟩ (F.args_list_getattribute_2 _ _)
    (meets_getattribute_miss_list l xs n sl (Str.ofString "keys") t list_keys (by decide) (by decide) prog w A R s ⟨ho, hh, h⟩))
theorem attr_keys_none {l : Addr} {xs : Array Value} {n : Nat} {sl : Array (Option Value)} {Q : Option Value → Shared → Prop} (ho : s.heap.get? l = some { cls := .type "list", dict := none, data := .seq xs n, slots := sl }) (hh : A.handled = none)
    (h : ∀ h' tk, (∀ b o, s.heap.get? b = some o → h'.get? b = some o) → Q none { s with heap := h', toks := tk }) : wpAny (model prog w) A (getAttr? (.ref l) (Str.ofString "keys")) Q E s := by
  have hT : s.TypeIs (.ref l) "list" := ⟨_, ho, rfl⟩
  unfold getAttr? mkText getAttrBy? getAttrBy getAttrByItsOwn hookBefore callGetattribute getattributeRaised
  have h1 := list_ga
  have h2 := list_keys
  wp_walk
  refine wpAny_of_eq (F.slot_list_getattribute.bind _) ?_
  dsimp only
  refine wpAny_call (ga_call ho hh fun h' tk e ne => ?_)
  obtain ⟨kp, nw, t, u, he⟩ := ne
  have h3 := sub_AttributeError
  have h4 := am_list_getattr_none
  dsimp only
  unfold hookBehind hookOrError attributeErrorLeaves
  wp_walk
  exact h h' tk kp
end
theorem pair_items {M : Model} {A : Around} {E : Value → Shared → Prop} {s : Shared} {b : Addr} {o : Obj} {m : Nat} {x y : Value} {Q : List Value → Shared → Prop} (ho : s.heap.get? b = some o) (hc : o.cls = .type "tuple") (hd : o.data = .seq #[x, y] m) (h : Q [x, y] s) : wpAny M A (Builtin.Dict.pairItems (.ref b)) Q E s := by
  unfold Builtin.Dict.pairItems
  have hT : s.TypeIs (.ref b) "tuple" := ⟨_, ho, hc⟩
  refine wpAny_bind (wpAny_typeOf hT ?_)
  rw [if_pos (by decide)]
  refine wpAny_bind (wpAny_seqItems ho hd (wpAny_pure h))
theorem plain_loop : plainId "dict.update.loop" = true := by decide +kernel
theorem entry_loop : entryFor table "dict.update.loop" = some Builtin.«dict.update.loop» := entryFor_of_tree (by kernel_rfl)
section
variable {prog : Program} {w : World} {A : Around} {R : Result → Shared → Prop} {I : Addr} {fp wr : List Addr} {n : Nat} {P : Nat → Value → Prop} {St : Nat → Heap → Prop} {K : Type} [DecidableEq K] {knd : KeyKind prog w K}
theorem stored_len (kvs : List (K × Value)) (k : K) (v : Value) : (stored kvs k v).length ≤ kvs.length + 1 := by
  unfold stored
  split <;> simp
def PairsAt (n : Nat) (tb : Nat → Addr) (ku u : Nat → Value) (h : Heap) : Prop := ∀ i, i < n → ∃ o m, h.get? (tb i) = some o ∧ o.cls = .type "tuple" ∧ o.data = .seq #[ku i, u i] m
theorem codeAny_dict_loop (W : Walks prog w A.in1 I fp wr n P St) (a : Addr) (ha : a ∉ fp) (hw : a ∉ wr) (tb : Nat → Addr) (ku u : Nat → Value) (kk : Nat → K) (hval : ∀ i v, P i v → v = .ref (tb i)) (hk : ∀ i, i < n → knd.is (kk i) (ku i) = true) (ht : ∀ i, i < n → tb i ∉ a :: wr) :
    ∀ (k i : Nat) (s : Shared) (kvs : List (K × Value)) (c : Int) (tk0 : Tok), n - i = k → i ≤ n → St i s.heap → PairsAt n tb ku u s.heap →
    s.heap.DictOf knd a kvs → kvs.length + k ≤ sizeLine →
    (∀ h' tk, h'.DictOf knd a (((List.range n).drop i).foldl (fun q j => stored q (kk j) (u j)) kvs) → (∀ b o, b ∉ a :: wr → s.heap.get? b = some o → h'.get? b = some o) → R (.ok (.ret .none)) { s with heap := h', toks := tk }) →
    codeAny (model prog w) A (.builtin "dict.update.loop" ⟨[.ref a, .ref I, .int c tk0, .none], []⟩) R s := by
  intro k
  induction k with
  | zero =>
    intro i s kvs c tk0 hk' hi hst hT hS hb hR
    have hin : i = n := by omega
    subst hin
    refine codeAny_builtin entry_loop ?_
    rw [Around.under_plainId plain_loop _]
    show wpAny _ A.in1 (pyNext (.ref I) >>= _) _ _ s
    refine wpAny_bind (W.done s _ _ hst fun h' tk hk' => ?_)
    dsimp only
    unfold Builtin.Dict.addKeywords
    wp_walk
    obtain ⟨o, es, ep, ho, r⟩ := hS
    refine hR h' tk ?_ fun b o hbw e => hk' b o (fun z => hbw (List.mem_cons_of_mem _ z)) e
    rw [List.drop_of_length_le (by simp)]
    exact ⟨o, es, ep, hk' a o hw ho, r⟩
  | succ k ih =>
    intro i s kvs c tk0 hk' hi hst hT hS hb hR
    have hlt : i < n := by omega
    have hd : (List.range n).drop i = i :: (List.range n).drop (i + 1) := by
      rw [List.drop_eq_getElem_cons (by simpa using hlt)]; simp
    refine codeAny_builtin entry_loop ?_
    rw [Around.under_plainId plain_loop _]
    show wpAny _ A.in1 (pyNext (.ref I) >>= _) _ _ s
    refine wpAny_bind (W.item i s _ _ hlt hst fun v h' tk hP hst' hkp => ?_)
    obtain rfl := hval i v hP
    obtain ⟨o, m, ho, hc, hd2⟩ := hT i hlt
    have ho' := hkp _ _ (fun z => ht i hlt (List.mem_cons_of_mem _ z)) ho
    obtain ⟨od, es, ep, hod, rr⟩ := hS
    have hS' : h'.DictOf knd a kvs := ⟨od, es, ep, hkp a od hw hod, rr⟩
    dsimp only
    refine wpAny_bind (wpAny_holding (wpAny_bind (wpAny_tryCatch (pair_items ho' hc hd2 ?_))))
    dsimp only
    refine wpAny_holding (wpAny_dictSet_pairs (hk i hlt) hS' (fun h2 hS2 hsb => ?_) (by omega))
    refine wpAny_pure ⟨plainId_quiet plain_loop _, ih (i + 1) _ (stored kvs (kk i) (u i)) _ _ (by omega) hlt ?_ (fun j hj => ?_) hS2 ?_ fun h3 tk3 hS3 hk3 => ?_⟩
    · exact W.frame _ _ _ hst' fun b hbf o e => hsb.2 b (fun z => ha (z ▸ hbf)) ▸ e
    · obtain ⟨o, m, h1, h2, h3⟩ := hT j hj
      refine ⟨o, m, ?_, h2, h3⟩
      have e1 := hkp _ _ (fun z => ht j hj (List.mem_cons_of_mem _ z)) h1
      exact (hsb.2 _ (fun z => ht j hj (z ▸ List.mem_cons_self ..))).trans e1
    · have := stored_len kvs (kk i) (u i)
      omega
    · have := hR h3 tk3
      rw [hd, List.foldl_cons] at this
      refine this hS3 fun b o hbw e => hk3 b o hbw ((hsb.2 b (fun z => hbw (z ▸ List.mem_cons_self ..))).trans (hkp b o (fun z => hbw (List.mem_cons_of_mem _ z)) e))
end
section
variable {prog : Program} {w : World} {A : Around} {E : Value → Shared → Prop} {s : Shared} {K : Type} [DecidableEq K] {knd : KeyKind prog w K}
theorem update_from {l d : Addr} {xs : Array Value} {n : Nat} {sl : Array (Option Value)} {Q : PySem.Fin → Shared → Prop} (ho : s.heap.get? l = some { cls := .type "list", dict := none, data := .seq xs n, slots := sl }) (hh : A.handled = none)
    (h : ∀ (h' : Heap) (tk : Nat), (∀ b o, s.heap.get? b = some o → h'.get? b = some o) → True → Q (.again (.builtin "dict.update.loop" ⟨[.ref d, .ref h'.objs.size, rawInt 0, .none], []⟩)) { s with heap := h'.push { cls := .type "list_iterator", data := .fields #[.ref l, rawInt 0] }, toks := tk }) :
    wpAny (model prog w) A (Builtin.Dict.updateFrom "dict.__init__" d (.ref l) [] .none) Q E s := by
  unfold Builtin.Dict.updateFrom
  refine wpAny_bind (wpAny_typeOf ⟨_, ho, rfl⟩ ?_)
  dsimp only
  rw [if_pos (by decide)]
  refine wpAny_bind (attr_keys_none ho hh fun h' tk kp => ?_)
  rw [if_pos (by rfl)]
  have hl' : h'.IsList l xs := ⟨_, kp _ _ ho, rfl, n, rfl⟩
  wp_walk using wpAny_pyIter_list hl'
  exact h h' tk kp trivial
theorem not_ordered {M : Model} {self x : Value} {Q : Unit → Shared → Prop} (hT : s.TypeIs self "dict") (h : Q () s) : wpAny M A (Builtin.Dict.notOrdered "__init__" ⟨[self, x], []⟩) Q E s := by
  unfold Builtin.Dict.notOrdered
  refine wpAny_bind (wpAny_typeOf (show s.TypeIs (([self, x] : List Value).headD .none) "dict" from hT) ?_)
  rw [if_neg (by decide)]
  exact wpAny_pure h
set_option maxHeartbeats 4000000 in
theorem call_dict_pairs {l : Addr} {its : List Value} {tb : Nat → Addr} {ku u : Nat → Value} {kk : Nat → K} {Q : Value → Shared → Prop} (hh : A.handled = none) (hl : ∃ n sl, s.heap.get? l = some { cls := .type "list", dict := none, data := .seq its.toArray n, slots := sl }) (hi : ∀ (j : Nat) (v : Value), its[j]? = some v → v = .ref (tb j)) (hp : PairsAt its.length tb ku u s.heap) (hk : ∀ i, i < its.length → knd.is (kk i) (ku i) = true) (hb : its.length ≤ sizeLine)
    (h : ∀ h' tk, h'.DictOf knd s.heap.objs.size ((List.range its.length).foldl (fun q j => stored q (kk j) (u j)) []) → (∀ b o, s.heap.get? b = some o → h'.get? b = some o) → Q (.ref s.heap.objs.size) { s with heap := h', toks := tk }) :
    wpAny (model prog w) A (call (.type "dict") [.ref l]) Q E s := by
  obtain ⟨n, sl, hl⟩ := hl
  obtain ⟨c, tl, hmro⟩ := F.kt_called_dict.mro
  have hmade := F.kt_called_dict.made
  have hsub := F.kt_called_dict.sub
  refine wpAny_call (codeAny_of_tree ?_)
  show wpAny _ _ (callAny (.type "dict") _) _ _ _
  refine wpAny_pure ⟨Code.quiet_builtin _ (by decide +kernel), codeAny_builtin F.entry_type_call ?_⟩
  rw [Around.under_plain (weight_type_call_type "dict" [.ref l] []) rfl]
  have h1 := F.kt_called_dict.notType
  have h2 := F.kt_called_dict.canCreate
  have hct := F.kt_typeCall_dict_1 (.ref l)
  repeat (any_goals (first | assumption | wp_step))
  refine codeAny_mono (kt_code_dict_new (E := E) (.ref l) (Q₁ := fun obj s₁ => obj = .ref s.heap.objs.size ∧ s₁ = { s with heap := s.heap.push { cls := .type "dict", data := .dict #[] } }) ⟨rfl, rfl⟩) fun r s₁ hr => ?_
  cases r with
  | error e => exact hr
  | ok fl =>
    cases fl with
    | ret obj =>
      obtain ⟨rfl, rfl⟩ := hr
      have hS : (s.heap.push { cls := .type "dict", data := .dict #[] }).get? s.heap.objs.size = some { cls := .type "dict", data := .dict #[] } := Heap.get?_push_size _ rfl
      have hT : Shared.TypeIs { s with heap := s.heap.push { cls := .type "dict", data := .dict #[] } } (.ref s.heap.objs.size) "dict" := ⟨_, hS, rfl⟩
      have hli := F.kt_called_dict.init.lookup
      have hbi := F.kt_called_dict.init.bind (.ref s.heap.objs.size)
      repeat (any_goals (first | assumption | wp_step))
      refine codeAny_mono (codeAny_call_builtin (R := wants (fun r s₂ => r = .none ∧ Q (.ref s.heap.objs.size) s₂) E) F.kt_called_dict.init.plain F.entry_dict_init (F.slot_dict_init.check _ _ _ _ _ _ _ _ hT (F.args_dict_init_2 _ _) ?_)) fun r₂ s₂ hr₂ => ?_
      · have ho' : (s.heap.push { cls := .type "dict", data := .dict #[] }).get? l = some { cls := .type "list", dict := none, data := .seq its.toArray n, slots := sl } := Heap.get?_push_of_some _ hl
        have hlt : l < s.heap.objs.size := Heap.lt_size hl
        have hsz : (s.heap.push { cls := .type "dict", data := .dict #[] }).objs.size = s.heap.objs.size + 1 := Heap.size_push ..
        unfold Builtin.«dict.__init__» Builtin.Dict.selfAndRest Builtin.Dict.notOrdered Builtin.Dict.addrOf Builtin.Dict.updateCommon
        refine wpAny_bind (wpAny_bind (not_ordered hT ?_))
        dsimp only
        refine wpAny_bind (wpAny_pure (wpAny_pure ?_))
        dsimp only
        refine update_from (d := s.heap.objs.size) ho' hh fun h' tk kp _ => ?_
        have kp' : ∀ b o, s.heap.get? b = some o → h'.get? b = some o := fun b o e => kp b o (Heap.get?_push_of_some _ e)
        have lt' : s.heap.objs.size < h'.objs.size := Heap.lt_size (kp _ _ hS)
        refine ⟨plainId_quiet plain_loop _, ?_⟩
        refine codeAny_dict_loop (knd := knd) (Walks.list (A := A.in1.in1) hh _ l (show l ≠ h'.objs.size from Nat.ne_of_lt (Nat.lt_trans hlt lt')) its.toArray) s.heap.objs.size ?_ ?_ tb ku u kk (fun j v hP => hi j v (by simpa using hP)) (fun i h => hk i (by simpa using h)) ?_ its.toArray.size 0 _ [] 0 0 (Nat.sub_zero _) (Nat.zero_le _) ⟨⟨_, Heap.get?_push_size _ rfl, rfl, rfl⟩, ?_⟩ ?_ ?_ ?_ ?_
        · intro hm
          rcases List.mem_cons.mp hm with e | hm
          · exact absurd e (Nat.ne_of_lt lt')
          · exact absurd (List.mem_singleton.mp hm) (Nat.ne_of_gt hlt)
        · exact fun hm => absurd (List.mem_singleton.mp hm) (Nat.ne_of_lt lt')
        · intro i hi2 hm
          obtain ⟨o, m, ho2, _⟩ := hp i (by simpa using hi2)
          have lt2 := Heap.lt_size ho2
          rcases List.mem_cons.mp hm with e | hm
          · exact absurd e (Nat.ne_of_lt lt2)
          · exact absurd (List.mem_singleton.mp hm) (Nat.ne_of_lt (Nat.lt_trans lt2 lt'))
        · exact ⟨_, Heap.get?_push_of_some _ (kp' _ _ hl), rfl, n, rfl⟩
        · exact fun i hi2 => let ⟨o, m, a, b, c⟩ := hp i (by simpa using hi2); ⟨o, m, Heap.get?_push_of_some _ (kp' _ _ a), b, c⟩
        · exact ⟨_, #[], 0, Heap.get?_push_of_some _ (kp _ _ hS), ⟨rfl, rfl, rfl⟩, rfl, fun e he => by simp at he, .nil, .nil⟩
        · simpa using hb
        · intro h2 tk2 hD hk2
          refine ⟨rfl, h h2 tk2 (by simpa using hD) fun b o e => hk2 b o (fun hm => ?_) (Heap.get?_push_of_some _ (kp' _ _ e))⟩
          have lt2 := Heap.lt_size e
          rcases List.mem_cons.mp hm with z | hm
          · exact absurd z (Nat.ne_of_lt lt2)
          · exact absurd (List.mem_singleton.mp hm) (Nat.ne_of_lt (Nat.lt_trans lt2 lt'))
      · cases r₂ with
        | error e => exact hr₂
        | ok fl₂ =>
          cases fl₂ with
          | ret r =>
            obtain ⟨rfl, hq⟩ := hr₂
            repeat (any_goals (first | assumption | wp_step))
          | _ => exact hr₂.elim
    | _ => exact hr.elim
end
end DictL
end PySem

namespace L2
open PySem PySem.Spec PyProof.Rows
def dictP (kvs : List (Key × V)) : List (Key × V) := kvs.foldl (fun q kv => putK q kv.1 kv.2) []
theorem dictP_len (kvs : List (Key × V)) : (dictP kvs).length ≤ kvs.length := by
  have : ∀ (kvs q : List (Key × V)), (kvs.foldl (fun q kv => putK q kv.1 kv.2) q).length ≤ q.length + kvs.length := by
    intro kvs
    induction kvs with
    | nil => intro q; exact Nat.le_refl _
    | cons a l ih =>
      intro q
      have h1 := ih (putK q a.1 a.2)
      have h2 := length_putK q a.1 a.2
      rw [List.foldl_cons, List.length_cons]
      omega
  have := this kvs []
  simpa [dictP] using this
section
variable {X : Cx}
theorem call_dictP (hc : X.calm = true) : CallR X (.type "dict") (fun xs H Q => ∃ (p : Addr) (ps : List Addr) (kvs : List (Key × V)), xs = [.ref p] ∧ SqL X.K H p (ps.map V.ref) ∧ ps.length = kvs.length ∧ (∀ (j : Nat) (a : Addr) (kv : Key × V), ps[j]? = some a → kvs[j]? = some kv → SqT X.K H a [kV kv.1, kv.2]) ∧ ∀ d, H d = none → Q (.ref d) (upd H d (.dK (dictP kvs)))) := by
  intro pins s σ H xs us Q I r h
  obtain ⟨p, ps, kvs, rfl, hq, hl, ht, q⟩ := h
  obtain ⟨u, rfl, rx⟩ := vals1 r
  cases rx
  obtain ⟨its, r', ⟨o, n, e, c, dn, dt⟩, hz⟩ := I.list hq
  have len := r'.length
  rw [List.length_map] at len hz
  obtain ⟨g, hg⟩ := Classical.axiomOfChoice (r := fun (j : Nat) (g : Addr × Key × Value × Value) => ∀ a kv, ps[j]? = some a → kvs[j]? = some kv → g.1 = a ∧ g.2.1 = kv.1 ∧ (∃ o m, s.heap.get? a = some o ∧ o.cls = .type "tuple" ∧ o.data = .seq #[g.2.2.1, g.2.2.2] m) ∧ RelV (kV kv.1) g.2.2.1 ∧ RelV kv.2 g.2.2.2) (fun j => by
    by_cases hj : j < ps.length
    · have e1 : ps[j]? = some ps[j] := List.getElem?_eq_getElem hj
      have e2 : kvs[j]? = some (kvs[j]'(by omega)) := List.getElem?_eq_getElem (by omega)
      obtain ⟨its2, rv, ⟨o2, h1, h2, m2, h3⟩, _⟩ := I.tuple (ht j _ _ e1 e2)
      cases rv with
      | cons ra rv =>
        cases rv with
        | cons rb rv =>
          cases rv with
          | nil => exact ⟨(ps[j], (kvs[j]'(by omega)).1, _, _), fun a kv h4 h5 => by
              rw [e1] at h4
              rw [e2] at h5
              injection h4 with h4
              injection h5 with h5
              subst h4 h5
              exact ⟨rfl, rfl, ⟨o2, m2, h1, h2, h3⟩, ra, rb⟩⟩
    · exact ⟨(0, .inl 0, .none, .none), fun a kv h4 => absurd (List.getElem?_eq_some_iff.mp h4).1 hj⟩)
  have at_ : ∀ j, j < ps.length → ∃ a kv, ps[j]? = some a ∧ kvs[j]? = some kv := fun j hj => ⟨_, _, List.getElem?_eq_getElem hj, List.getElem?_eq_getElem (by omega)⟩
  have nn : its.length = ps.length := len.symm
  obtain ⟨cls, dd, data, sl⟩ := o
  simp only at c dn dt
  subst c dn dt
  refine PySem.DictL.call_dict_pairs (knd := mixKind X.prog X.w) (tb := fun j => (g j).1) (ku := fun j => (g j).2.2.1) (u := fun j => (g j).2.2.2) (kk := fun j => (g j).2.1) (I.ok.hd hc) ⟨n, sl, e⟩ (fun j v ev => ?_) (fun j hj => ?_) (fun j hj => ?_) (by rw [nn]; exact hz) fun h' tk hD hk => ?_
  · obtain ⟨hj, e'⟩ := List.getElem?_eq_some_iff.mp ev
    obtain ⟨a, kv, h1, h2⟩ := at_ j (by omega)
    obtain ⟨x, hx, rv⟩ := vals_at r' hj
    rw [List.getElem?_map, h1] at hx
    injection hx with hx
    subst hx
    rw [← e', (show its[j] = Value.ref a from rv), (hg j a kv h1 h2).1]
  · obtain ⟨a, kv, h1, h2⟩ := at_ j (by omega)
    obtain ⟨g1, _, ⟨o, m, h3, h4, h5⟩, _⟩ := hg j a kv h1 h2
    exact ⟨o, m, (show s.heap.get? (g j).1 = some o by rw [g1]; exact h3), h4, h5⟩
  · obtain ⟨a, kv, h1, h2⟩ := at_ j (by omega)
    obtain ⟨_, g2, _, g3, _⟩ := hg j a kv h1 h2
    show (mixKind X.prog X.w).is (g j).2.1 (g j).2.2.1 = true
    rw [g2]
    exact kV_is g3
  · have rel : ∀ m, m ≤ kvs.length → KV ((kvs.take m).foldl (fun q kv => putK q kv.1 kv.2) []) ((List.range m).foldl (fun q j => stored q (g j).2.1 (g j).2.2.2) []) := by
      intro m
      induction m with
      | zero => intro _; exact .nil
      | succ m ih =>
        intro hm
        have e2 : kvs[m]? = some (kvs[m]'(by omega)) := List.getElem?_eq_getElem (by omega)
        obtain ⟨_, g2, _, _, g4⟩ := hg m (ps[m]'(by omega)) _ (List.getElem?_eq_getElem (by omega)) e2
        rw [List.range_succ, List.foldl_append, List.take_succ, e2, List.foldl_append]
        show KV (putK _ _ _) (stored _ _ _)
        rw [g2]
        exact (ih (by omega)).put _ g4
    have rel' : KV (dictP kvs) ((List.range its.length).foldl (fun q j => stored q (g j).2.1 (g j).2.2.2) []) := by
      have := rel kvs.length (Nat.le_refl _)
      rw [List.take_length] at this
      rw [nn, hl]
      exact this
    have hd : (s.heap.objs.size == sysModules) = false := by
      have := I.big
      exact beq_false_of_ne fun z => by rw [z] at this; exact absurd this (Nat.lt_irrefl _)
    exact ⟨.ref s.heap.objs.size, _, I.laid (o := .dK (dictP kvs)) hk (Nat.le_refl _) (dk_new (by have := dictP_len kvs; omega) hd rel' hD), rfl, q _ (I.hok.fresh (Nat.le_refl _))⟩
end
end L2

namespace PySem
open Sem (wp)
namespace DictE
section
variable {prog : Program} {w : World} {A : Around} {E : Value → Shared → Prop} {s : Shared} {K : Type} [DecidableEq K] {knd : KeyKind prog w K}
theorem not_ordered {M : Model} {self x : Value} {Q : Unit → Shared → Prop} (hT : s.TypeIs self "dict") (h : Q () s) : wpAny M A (Builtin.Dict.notOrdered "__eq__" ⟨[self, x], []⟩) Q E s := by
  unfold Builtin.Dict.notOrdered
  first
    | (refine wpAny_bind (wpAny_typeOf (show s.TypeIs (([self, x] : List Value).headD .none) "dict" from hT) ?_)
       rw [if_neg (by decide)]
       exact wpAny_pure h)
    | (rw [if_neg (by decide)]
       exact wpAny_pure h)
    | (rw [if_pos (by decide)]
       refine wpAny_bind (wpAny_typeOf (show s.TypeIs (([self, x] : List Value).headD .none) "dict" from hT) ?_)
       rw [if_neg (by decide)]
       exact wpAny_pure h)
    | exact wpAny_pure h
end
end DictE
end PySem

namespace L2
open PySem PySem.Spec PyProof.Rows
section
variable {X : Cx}
end
end L2

namespace PySem
open Sem (wp)
open PyProof.Rows
namespace SortD
section
variable {prog : Program} {w : World} {A : Around} {E : Value → Shared → Prop} {s : Shared} {K : Type} [DecidableEq K] {knd : KeyKind prog w K}
theorem check_sorted {M : Model} {x : Value} {Q : Unit → Shared → Prop} (h : Q () s) : wpAny M A (checkBuiltinCall "sorted" ⟨[x], []⟩) Q E s := by
  unfold checkBuiltinCall
  rw [kind_sorted]
  exact wpAny_of_eq (args_sorted1 x) h
end
end SortD
end PySem
namespace L2
open PySem PySem.Spec PyProof.Rows
section
variable {X : Cx}
end
theorem b_dict : bootBuiltins "dict" = some (.type "dict") := by decide +kernel
theorem call_listLK {X : Cx} {K : PySem.W.Frag} (h : X.K = K) : CallR X (.type "list") (fun xs H Q => ∃ p ys, xs = [.ref p] ∧ SqL K H p ys ∧ ∀ l, H l = none → Q (.ref l) (upd H l (.lst ys))) := by
  subst h
  exact call_listL
end L2

namespace L2
open PySem PySem.Spec PyProof.Rows
open PySem.Builtin PySem.Builtin.ObjectAttr PySem.Builtin.Getset_descriptor
open PySem.W (Frag Looks InstAt looks_findIn looks_specialIn looks_takesIn looks_mroIn looks_subIn looks_typeIn looks_clsIn)
def onlyVE : List Value → Bool
  | .ref _ :: r => onlyVE r
  | l => l == bmVE
def xOver (K : Frag) (C : Addr) : Bool := (PySem.W.clsIn K C).any fun cd => onlyVE cd.mro && cd.hasDict
structure XFld (K : Frag) (C : Addr) : Prop where
  sa : PySem.W.findIn K (.ref C) "__setattr__" = some (some (.builtin "object.__setattr__"))
  ov : xOver K C = true
  xc : XCls K C
section
variable {prog : Program} {w : World} {A : Around} {E : Value → Shared → Prop} {s : Shared} {K : Frag} {x C : Addr} {o : Obj} {vs : Array Value} {name : Str} {v : Value} {R : Result → Shared → Prop}
end
end L2

namespace L2
open PySem PySem.Spec PyProof.Rows
open PySem.W (Frag Looks InstAt looks_findIn looks_specialIn looks_takesIn looks_mroIn looks_subIn looks_typeIn looks_clsIn tailIn nsOkIn nsIn)
def excInI (K : Frag) (C fI : Addr) : Bool := match K.lookup C with
  | some ⟨.type "type", _, .cls cd, sl⟩ => (match cd.mro, sl.toList with
    | .ref C' :: bm, [_, _, _, _, some (.builtin n), _] => C' == C && n == "ValueError.__new__" && !cd.hasDel && tailIn K bmVE bm && nsOkIn K cd.ns && nsIn K cd.ns "__init__" == some (some (.ref fI))
    | _, _ => false)
  | _ => false
section
variable {prog : Program} {w : World} {A : Around} {E : Value → Shared → Prop} {h : Heap} {g : Array GenState} {d : Drawn} {t : Nat} {os : OsState}
variable {nm q : Str} {C N : Addr} {bs bm bmB : List Value} {hdct : Bool} {sn : List Str} {sub : List Value} {ab : Bool} {col : Option Bool} {dd : Option Addr} {k0 k1 k2 k3 k5 : Option Value} {B newId initId : String}
end
end L2

namespace L2
open PySem PySem.Spec PyProof.Rows
open PySem.W (Frag)
section
variable {P : Program} {w : World} {H : Hp} {h : Heap} {a D dx : Addr} {dd : Option Addr}
end
def loose : HO → Prop
  | .ext _ => True
  | .xd _ => True
  | _ => False
section
variable {X : Cx} {pins : List (Addr × Obj)} {σ : St} {H H' : Hp} {s : Shared} {h' : Heap} {a C dx : Addr} {f : Str} {y : V} {u : Value} {fs : List (Str × V)}
end
structure XUp (K : Frag) (mg : Str → Option Value) (x : Str) (T : Addr) : Prop where
  at_ : mg x = some (.ref T)
  ga : PySem.W.specialIn K (.ref T) "__getattribute__" = some (some (.builtin "type.__getattribute__"))
  rd : PySem.W.readsIn K T (.type "type") = true
  fi : PySem.W.findCls K (.ref T) (.type "type") "__init__" = some (.val (.builtin "ValueError.__init__"))
section
variable {X : Cx} {o e value : Expr} {es : List Expr} {f x : Str} {pos pos' tpos p apos : Pos} {ta tv : TE} {t : TA} {T : Addr}
end
end L2

namespace L2
open PySem PySem.Spec PyProof.Rows
open PySem.W (Frag)
section
variable {M : Model} {A : Around} {E : Value → Shared → Prop} {s : Shared}
end
section
variable {M : Model} {A : Around} {E : Value → Shared → Prop} {env : Env}
variable {nm q : Str} {C N : Addr} {bs bm : List Value} {hdct : Bool} {sn : List Str} {sub : List Value} {ab : Bool} {col : Option Bool} {dd : Option Addr} {k0 k1 k2 k3 k5 : Option Value} {newId : String}
end
structure XMk (P : Program) (w : World) (K : Frag) (mg : Str → Option Value) (base : Heap) (x : Str) (C : Addr) (k : Nat) (ps : List Str) (sp : Sp) : Prop where
  ex : ∃ f fd, excInI K C f = true ∧ PySem.W.isFn K (.ref f) = true ∧ FnOk P w K mg base CX0 k f fd ps sp ∧ Binds K fd ps []
  at_ : mg x = some (.ref C)
  kp : PySem.W.keepIn K (.ref C) = true
section
variable {X : Cx} {x y n : Str} {j k i : Nat} {ps : List Str} {sp : Sp} {np cpos pos tpos hpos yp : Pos} {e₀ : Expr} {rest : List Expr} {t : TA} {C CT : Addr} {b₀ : Stmt} {suite : List Stmt} {ts : TS}
end
end L2

namespace L2
open PySem PySem.Spec PyProof.Rows
end L2

namespace L2
open PySem PySem.Spec PyProof.Rows
open PySem.W (Frag envX kla_fn kla_obj)
structure LamSc (sc : Scope) (x y : Str) : Prop where
  kind : sc.kind = .function
  co : sc.isCoroutine = false
  gen : sc.isGenerator = false
  own : sc.names.lookup x = some .local
  free : sc.names.lookup y = some .free
  nocell : ∀ z ∈ sc.names, z.2 ≠ .cell
  only : ∀ z ∈ sc.names, z.2 = .free → z.1 = y
section
variable {X : Cx} {pins : List (Addr × Obj)} {σ : St} {H : Hp} {s : Shared} {x y qual name : Str} {scope : Scope} {q cy : Addr} {cd ctv pm : Value} {j : Nat} {v lv : V} {u : Value} {body : Expr} {params : Arguments} {tb : TE} {Z : V → Hp → Prop}
end
def codeO (c : Addr) (qual : Str) : HO := .ext (fun h => h.CodeRec (.ref c) qual)
def LamTab (H : Hp) (P : Addr) (pos : Pos) (qual : Str) : Prop := H P = some (.tbl #[]) ∨ ∃ c, H P = some (.tbl #[rawInt pos.line, rawInt pos.col, .ref c]) ∧ H c = some (codeO c qual)
section
variable {X : Cx} {pins : List (Addr × Obj)} {σ : St} {H : Hp} {s : Shared} {h' : Heap} {P c' : Addr} {ps more : Array Value} {qual : Str}
end
section
variable {X : Cx} {pins : List (Addr × Obj)} {σ : St} {H : Hp} {s : Shared} {P c : Addr} {pos : Pos} {name qual : Str} {params : Arguments} {body : Expr} {scope : Scope} {clos : List (Str × Addr)} {firstLine : Nat}
end
end L2

namespace L2
open PySem PySem.Spec PyProof.Rows
section
variable {X : Cx} {pins : List (Addr × Obj)} {σ : St} {H : Hp} {p q it S : Addr} {ns : List Int} {kf : Nat → Int} {R : Result → Shared → Prop}
end
end L2

namespace L2
open PySem PySem.Spec PyProof.Rows
open PySem.W (Frag envX kla_fn kla_obj)
def KpT (H H' : Hp) : Prop := ∀ b u, H b = some u → (∀ ps, u ≠ .tbl ps) → H' b = some u
theorem KpT.trans {H H' H'' : Hp} (a : KpT H H') (b : KpT H' H'') : KpT H H'' := fun x u h n => b x u (a x u h n) n
theorem KpT.tup {K : Frag} {H H' : Hp} {a : Addr} {xs : List V} (e : KpT H H') (h : SqT K H a xs) : SqT K H' a xs := by
  rcases h with (h | ⟨o, h⟩) | h
  · exact .inl (.inl (e _ _ h fun _ z => by cases z))
  · exact .inl (.inr ⟨o, e _ _ h fun _ z => by cases z⟩)
  · exact .inr h
theorem KpT.none {H H' : Hp} {b : Addr} (e : KpT H H') (n : H' b = none) : H b = none ∨ ∃ ps, H b = some (.tbl ps) := by
  cases q : H b with
  | none => exact .inl rfl
  | some u =>
    by_cases z : ∃ ps, u = .tbl ps
    · obtain ⟨ps, rfl⟩ := z
      exact .inr ⟨ps, rfl⟩
    · rw [e b u q fun ps w => z ⟨ps, w⟩] at n
      cases n
theorem LamTab.tbl {H : Hp} {P : Addr} {pos : Pos} {qual : Str} (h : LamTab H P pos qual) : ∃ ps, H P = some (.tbl ps) := by
  rcases h with z | ⟨c', z, _⟩
  · exact ⟨_, z⟩
  · exact ⟨_, z⟩
theorem LamTab.upd {H : Hp} {P l : Addr} {pos : Pos} {qual : Str} {xs : List V} {o : HO} (h : LamTab H P pos qual) (hl : H l = some (.lst xs)) : LamTab (upd H l o) P pos qual := by
  rcases h with z | ⟨c', z, zc⟩
  · exact .inl (by rw [upd_ne (fun e => by rw [e, hl] at z; cases z)]; exact z)
  · exact .inr ⟨c', by rw [upd_ne (fun e => by rw [e, hl] at z; cases z)]; exact z, by rw [upd_ne (fun e => by rw [e, hl] at zc; cases zc)]; exact zc⟩
section
variable {X : Cx} {P c cy : Addr} {lpos pos p0 kp : Pos} {x y : Str} {params : Arguments} {body e : Expr} {scope : Scope} {ta : TA} {tb : TE} {j : Nat}
end
end L2

namespace L2
open PySem PySem.Spec PyProof.Rows
def ItK (a : Addr) (o : Obj) (kvs : List (Key × V)) : It := ⟨fun i H => i < kvs.length ∧ H a = some (.frz o (.dK kvs)), fun i H x H' => H' = H ∧ ∃ k v, kvs[i]? = some (k, v) ∧ x = kV k, fun i H => kvs.length ≤ i ∧ H a = some (.frz o (.dK kvs))⟩
theorem rel_key {k : Key} {u : Value} (h : keyIs k u = true) : RelV (kV k) u := by
  rcases keyIs_shape h with ⟨i, t, rfl, rfl⟩ | ⟨x, t, rfl, rfl⟩
  · exact ⟨t, rfl⟩
  · exact ⟨t, rfl⟩
theorem KV.at {κ : Type} : ∀ {kvs : List (κ × V)} {vs : List (κ × Value)}, KV kvs vs → ∀ {i : Nat} {k : κ} {v : Value}, vs[i]? = some (k, v) → ∃ x, kvs[i]? = some (k, x) ∧ RelV x v
  | _, _, .nil, _, _, _, h => by simp at h
  | _, _, .cons (a := p) r t, 0, k, v, h => by
    simp at h
    subst h
    have e : p.1 = k := r.1
    exact ⟨p.2, by rw [← e]; rfl, r.2⟩
  | _, _, .cons r t, i + 1, k, v, h => KV.at t (by simpa using h)
theorem KV.len {κ : Type} : ∀ {kvs : List (κ × V)} {vs : List (κ × Value)}, KV kvs vs → kvs.length = vs.length
  | _, _, .nil => rfl
  | _, _, .cons _ t => congrArg Nat.succ (KV.len t)
theorem frz_at {P : Program} {w : World} {H : Hp} {h : Heap} {a : Addr} {o : Obj} {kvs : List (Key × V)} (x : ObjOk P w H h a (.frz o (.dK kvs))) : ∃ (vs : List (Key × Value)) (es : Array DictEntry) (ep : Nat), o.data = .dict es ep ∧ KV kvs vs ∧ h.DictAt (mixKind P w) a vs ep := by
  obtain ⟨e, _, _, vs, r, o', es, ep, e', x', d', c⟩ := x
  rw [e] at e'
  cases e'
  exact ⟨vs, es, ep, d', r, o, es, e, x', d', c⟩
theorem turn_dictK {P : Program} {w : World} {K : PySem.W.Frag} {tg : Expr} (a it : Addr) (o : Obj) (kvs : List (Key × V)) : Turn P w K tg (ItK a o kvs) [it] it (fun i h => ∃ es ep, o.data = .dict es ep ∧ h.IsKeyIter it a i kvs.length ep) where
  mem := by simp
  obj := fun i h st b hb => by
    have e : b = it := by simpa using hb
    subst e
    obtain ⟨_, _, _, o, e, c, d⟩ := st
    exact ⟨o, e, fun v z => by rw [d] at z; cases z⟩
  keep := fun i h h' st k => by
    obtain ⟨es, ep, e, st⟩ := st
    exact ⟨es, ep, e, st.at fun o e => k it (by simp) o e⟩
  item := by
    intro X hP hw hK hc i pins s σ H E I hf st hg
    subst hP hw hK
    obtain ⟨hi, hH⟩ := hg
    obtain ⟨es, ep, ed, st⟩ := st
    obtain ⟨vs, es', ep', ed', r, da⟩ := frz_at (I.hok a _ hH)
    rw [ed] at ed'
    cases ed'
    have len := KV.len r
    obtain ⟨f0, f1, f2, f3, f4, f5⟩ := hf it (by simp)
    have hx : vs[i]? = some ((vs[i]'(by omega)).1, (vs[i]'(by omega)).2) := List.getElem?_eq_getElem _
    obtain ⟨x, hx2, rx⟩ := KV.at r hx
    rw [len] at st
    refine wpAny_pyNext_dict_item st da hx fun key h' hkey st' sb => ?_
    have I1 : Inv X pins σ H { s with heap := h' } := I.turned (t' := s.toks) (fun b o hb e => (sb.2 b hb).trans e) f0 f1 f3 f4 f5
    obtain ⟨oi, e, c, d⟩ := id st'
    exact ⟨key, rfl, go_of (s := { s with heap := h' }) e c d (by decide) ⟨_, H, I1, rel_key hkey, ⟨rfl, _, _, hx2, rfl⟩, ⟨es, ep, ed, by rw [len]; exact st'⟩, fun b hb => (hf b hb).1⟩⟩
  done := by
    intro X hP hw hK hc i pins s σ H E I hf st hg
    subst hP hw hK
    obtain ⟨hi, hH⟩ := hg
    obtain ⟨es, ep, ed, st⟩ := st
    obtain ⟨vs, es', ep', ed', r, da⟩ := frz_at (I.hok a _ hH)
    rw [ed] at ed'
    cases ed'
    have len := KV.len r
    rw [len] at st
    obtain ⟨f0, f1, f2, f3, f4, f5⟩ := hf it (by simp)
    exact wpAny_pyNext_dict_end (I.ok.hd hc) st da (by simp; omega) fun h' eb => ⟨rfl, I.turned (t' := s.toks) (fun b o hb e => eb b o hb e) f0 f1 f3 f4 f5⟩
  self := fun _ _ _ _ _ st h => by
    obtain ⟨_, _, _, st⟩ := st
    exact wpAny_pyIter_keyiter st h
theorem Inv.frozen {X : Cx} {pins : List (Addr × Obj)} {σ : St} {H : Hp} {s : Shared} {a : Addr} {o : Obj} {kvs : List (Key × V)} (I : Inv X pins σ H s) (hd : H a = some (.dK kvs)) (ho : s.heap.get? a = some o) : Inv X pins σ (upd H a (.frz o (.dK kvs))) s := by
  have ne : ∀ b u, H b = some u → u ≠ .dK kvs → b ≠ a := fun b u q n z => by rw [z, hd] at q; cases q; exact n rfl
  have J := I.un (t' := s.toks) (h' := s.heap) (H' := upd H a (.frz o (.dK kvs))) ⟨fun b o e _ _ _ => e, fun b o e _ _ _ => ⟨o.slots, e⟩, fun b o e n _ => by rw [upd_ne (fun z => by rw [z, hd] at n; cases n)]; exact n, fun b o e _ => ⟨o, e⟩, fun b xs q => by rw [upd_ne (ne b _ q (by intro z; cases z))]; exact q,
    fun b ob u q => by rw [upd_ne (ne b _ q (by intro z; cases z))]; exact q, fun b ps q => ⟨#[], by rw [upd_ne (ne b _ q (by intro z; cases z)), q]; simp⟩⟩ fun b u q => ?_
  · exact J
  · by_cases z : b = a
    · subst z
      rw [upd_same] at q
      cases q
      exact ⟨ho, (I.hok b _ hd).stay (fun _ _ _ q => q) (fun d q => by rw [upd_ne (ne d _ q (by intro z; cases z))]; exact q) fun d xs q => by rw [upd_ne (ne d _ q (by intro z; cases z))]; exact q⟩
    · rw [upd_ne z] at q
      exact (I.hok b u q).stay (fun _ _ _ q => q) (fun d q => by rw [upd_ne (ne d _ q (by intro z; cases z))]; exact q) fun d xs q => by rw [upd_ne (ne d _ q (by intro z; cases z))]; exact q
def iDictK (td : TE) : TI := fun σ H R => td σ H fun x H1 => ∃ a kvs, x = .ref a ∧ Rd H1 a (.dK kvs) ∧ ∀ o H2, H2 a = some (.frz o (.dK kvs)) → (∀ b, b ≠ a → H2 b = H1 b) → R (ItK a o kvs) H2
theorem pi_dictK {X : Cx} {tg l : Expr} {tl : TE} (hl : PE X l tl) : PI X tg l (iDictK tl) := by
  intro pins s σ H R I h
  refine thn (hl pins s σ H _ I h) fun v s1 ⟨x, H1, I1, r1, q1⟩ => ?_
  obtain ⟨a, kvs, e, hq, q⟩ := q1
  subst e
  cases r1
  have fz : ∃ o H2, Inv X pins σ H2 s1 ∧ H2 a = some (.frz o (.dK kvs)) ∧ ∀ b, b ≠ a → H2 b = H1 b := by
    rcases hq with hq | ⟨o, hq⟩
    · obtain ⟨o, ho⟩ := (I1.hok a _ hq).here
      exact ⟨o, _, I1.frozen hq ho, upd_same, fun b hb => upd_ne hb⟩
    · exact ⟨o, H1, I1, hq, fun b _ => rfl⟩
  obtain ⟨o, H2, I2, hH, hoth⟩ := fz
  have sa : (a == sysModules) = false := (I2.hok a _ hH).2.2.1
  obtain ⟨vs, es, ep, ed, r, da⟩ := frz_at (I2.hok a _ hH)
  have len := KV.len r
  refine wpAny_pyIter_dict sa da ?_
  refine ⟨s1.heap.objs.size, [s1.heap.objs.size], _, _, H2, rfl, I2.kept (t' := s1.toks) fun b o e => Heap.get?_push_of_some _ e, turn_dictK a _ o kvs, ⟨es, ep, ed, _, Heap.get?_push_size _ rfl, rfl, by rw [len]; rfl⟩, fun b hb => ?_, q o H2 hH hoth⟩
  have e : b = s1.heap.objs.size := by simpa using hb
  subst e
  exact I2.fpOk (Nat.le_refl _) (I2.hok.fresh (Nat.le_refl _))
theorem forW_dictK {D : Ends} {σ : St} {H : Hp} {g : TG} {tb : TS} {a : Addr} {o : Obj} (kvs : List (Key × V)) (Pv : Nat → St → Hp → Prop) (h0 : Pv 0 σ H) (hl : ∀ i σ H, i ≤ kvs.length → Pv i σ H → H a = some (.frz o (.dK kvs)))
    (hs : ∀ i k v σ H, kvs[i]? = some (k, v) → Pv i σ H → g (kV k) σ H fun σ2 H2 => tb { D with nx := Pv (i + 1), ct := Pv (i + 1), bk := D.nx } σ2 H2) (hd : ∀ σ H, Pv kvs.length σ H → D.nx σ H) : ForW (ItK a o kvs) g tb D σ H := by
  refine ⟨fun i m σ H => m = kvs.length - i ∧ i ≤ kvs.length ∧ Pv i σ H, ⟨_, rfl, Nat.zero_le _, h0⟩, fun i m σ H ⟨hm, hi, p⟩ => ?_⟩
  by_cases e : i = kvs.length
  · subst e
    exact .inl ⟨⟨Nat.le_refl _, hl _ _ _ hi p⟩, hd _ _ p⟩
  · refine .inr ⟨⟨by omega, hl _ _ _ hi p⟩, Pv (i + 1), fun σ' H' p' => ⟨kvs.length - (i + 1), by omega, rfl, by omega, p'⟩, fun x H' hy => ?_⟩
    obtain ⟨rfl, k, v, hx, rfl⟩ := hy
    exact hs i k v σ H' hx p
end L2

namespace Srt
open PySem PyProof.Rows
structure MS where
  q : List Nat
  pd : List (Nat × Nat × Nat)
  g : Nat
structure SX where
  prog : Program
  w : World
  A : Around
  E : Value → Shared → Prop
  s : Shared
  κ : SortKind
  item : Nat → Keyed
  cmp : Nat → Nat → Bool
  n : Nat
  lt : ∀ (i j : Nat), i < n → j < n → ∀ (Q : Bool → Shared → Prop) (E' : Value → Shared → Prop), Q (cmp i j) s → wpAny (model prog w) A (keyLt' κ (item i).1 (item j).1) Q E' s
def SX.arr (X : SX) (q : List Nat) : Array Keyed := (q.map X.item).toArray
def SX.emb (X : SX) (m : MS) : SortSt := SortSt.mk' X.κ (X.arr m.q) m.pd.toArray m.g none
structure FM (X : SX) {α β : Type} (c : StateT SortSt Sem α) (r : β → α) where
  p : MS → Option (β × MS)
  h : ∀ m b m', p m = some (b, m') → ∀ Q : α → SortSt → Prop, Q (r b) (X.emb m') → wpS (model X.prog X.w) X.A X.E X.s c Q (X.emb m)
section
variable {X : SX} {α β γ δ : Type}
def FM.mod {f : SortSt → SortSt} (f' : MS → MS) (e : ∀ m, f (X.emb m) = X.emb (f' m)) : FM X (_root_.modify f : StateT SortSt Sem PUnit) (id : PUnit → PUnit) where
  p m := some (⟨⟩, f' m)
  h m b m' hp Q hq := by
    obtain ⟨rfl, rfl⟩ := Prod.mk.inj (Option.some.inj hp)
    exact wpS_modify (by rw [e]; exact hq)
def stepR (r : β → α) : ForInStep β → ForInStep α
  | .done b => .done (r b)
  | .yield b => .yield (r b)
def FM.loopP {r : β → α} {f : Nat → α → StateT SortSt Sem (ForInStep α)} (F : ∀ i b, FM X (f i (r b)) (stepR r)) : List Nat → β → MS → Option (β × MS)
  | [], b, m => some (b, m)
  | i :: l, b, m => match (F i b).p m with
    | none => none
    | some (.done b', m') => some (b', m')
    | some (.yield b', m') => FM.loopP F l b' m'
theorem FM.loopH {r : β → α} {f : Nat → α → StateT SortSt Sem (ForInStep α)} (F : ∀ i b, FM X (f i (r b)) (stepR r)) : ∀ (l : List Nat) (b : β) (m : MS) (b' : β) (m' : MS), FM.loopP F l b m = some (b', m') → ∀ Q : α → SortSt → Prop, Q (r b') (X.emb m') → wpS (model X.prog X.w) X.A X.E X.s (forIn l (r b) f) Q (X.emb m)
  | [], b, m, b', m', hp, Q, hq => by
    obtain ⟨rfl, rfl⟩ := Prod.mk.inj (Option.some.inj hp)
    rw [List.forIn_nil]; exact wpS_pure hq
  | i :: l, b, m, b', m', hp, Q, hq => by
    rw [List.forIn_cons]
    unfold FM.loopP at hp
    cases hx : (F i b).p m with
    | none => rw [hx] at hp; exact nomatch hp
    | some y =>
      obtain ⟨z, m1⟩ := y
      rw [hx] at hp
      refine wpS_bind ((F i b).h m z m1 hx _ ?_)
      cases z with
      | done b1 =>
        obtain ⟨rfl, rfl⟩ := Prod.mk.inj (Option.some.inj hp)
        exact wpS_pure hq
      | yield b1 => exact FM.loopH F l b1 m1 b' m' hp Q hq
def FM.range {r : β → α} {a e : Nat} {a0 : α} {f : Nat → α → StateT SortSt Sem (ForInStep α)} (b0 : β) (e0 : a0 = r b0) (F : ∀ i b, FM X (f i (r b)) (stepR r)) : FM X (forIn [a:e] a0 f) r where
  p m := FM.loopP F (List.range' a (e - a)) b0 m
  h m b m' hp Q hq := by
    subst e0
    rw [Std.Legacy.Range.forIn_eq_forIn_range']
    have hsz : ([a:e] : Std.Legacy.Range).size = e - a := by simp [Std.Legacy.Range.size]
    show wpS (model X.prog X.w) X.A X.E X.s (forIn (List.range' a ([a:e] : Std.Legacy.Range).size 1) (r b0) f) Q (X.emb m)
    rw [hsz]
    exact FM.loopH F _ b0 m b m' hp Q hq
theorem arr_push (q : List Nat) (k : Nat) : (X.arr q).push (X.item k) = X.arr (q ++ [k]) := by
  unfold SX.arr; rw [List.push_toArray, List.map_append]; rfl
theorem arr_app (p q : List Nat) : X.arr p ++ X.arr q = X.arr (p ++ q) := by
  unfold SX.arr; rw [List.append_toArray, List.map_append]
theorem arr_ext (q : List Nat) (i j : Nat) : (X.arr q).extract i j = X.arr ((q.drop i).take (j - i)) := by
  unfold SX.arr; rw [List.extract_toArray, List.extract_eq_take_drop, List.map_take, List.map_drop]
theorem arr_rev (q : List Nat) : (X.arr q).reverse = X.arr q.reverse := by
  unfold SX.arr; rw [List.reverse_toArray, List.map_reverse]
abbrev Lr (X : SX) {ρ : Type} (b : Option (List Nat) × List Nat × ρ) : Option (Array Keyed) × Array Keyed × ρ := (b.1.map X.arr, X.arr b.2.1, b.2.2)
abbrev Hr (X : SX) {ρ : Type} (b : Option (List Nat) × Nat × Nat × List Nat × ρ) : Option (Array Keyed) × Nat × Nat × Array Keyed × ρ := (b.1.map X.arr, b.2.1, b.2.2.1, X.arr b.2.2.2.1, b.2.2.2.2)
theorem arr_one (x : Nat) : #[X.item x] = X.arr [x] := rfl
local macro_rules | `(tactic| decreasing_trivial) => `(tactic| ((try simp only [Lr, Hr, arr_push, arr_ext, arr_one, arr_rev, arr_app]) <;> with_reducible rfl))
local macro_rules | `(tactic| trivial) => `(tactic| (repeat' first
  | refine FM.bind (FM.elem _ _) fun _ => ?_
  | refine FM.bind (FM.lt _ _) fun _ => ?_
  | refine FM.bind (FM.gallop _ _ _ _ _ _) fun _ => ?_
  | refine FM.bind FM.rule fun _ => ?_
  | refine FM.bind (FM.setG _) fun _ => ?_
  | exact FM.doneS _ _ (by decreasing_trivial) (by decreasing_trivial)
  | exact FM.doneN _ (by decreasing_trivial)
  | exact FM.yieldN _ (by decreasing_trivial)
  | refine FM.ite ?_ ?_))
local macro_rules | `(tactic| trivial) => `(tactic| (repeat' first
  | refine FM.bind (FM.elem _ _) fun _ => ?_
  | refine FM.bind (FM.lt _ _) fun _ => ?_
  | refine FM.bind (FM.gallop _ _ _ _ _ _) fun _ => ?_
  | refine FM.bind FM.rule fun _ => ?_
  | refine FM.bind (FM.setG _) fun _ => ?_
  | exact FM.doneS' _ _ (by decreasing_trivial) (by decreasing_trivial)
  | exact FM.doneN' _ (by decreasing_trivial)
  | exact FM.yieldN' _ (by decreasing_trivial)
  | refine FM.ite ?_ ?_))
end
end Srt

namespace L2
open PySem PySem.Spec PyProof.Rows
section
variable {X : Cx} {pins : List (Addr × Obj)} {σ : St} {H : Hp} {s : Shared}
end
section
variable {X : Cx} {pins : List (Addr × Obj)} {σ : St}
end
section
variable {X : Cx} {pins : List (Addr × Obj)} {σ : St} {H : Hp} {s : Shared}
end
end L2

namespace L2
open PySem PySem.Spec PyProof.Rows
section
variable {X : Cx}
end
section
variable {X : Cx} {x y : Str} {p0 p1 pos kp : Pos} {e : Expr} {ta : TA} {j k : Nat} {ps : List Str} {sp : Sp}
end
end L2

namespace L2
open PySem PySem.Spec PyProof.Rows
def rGetL (K : PySem.W.Frag) : V → V → Hp → VK → Prop := fun o i H Q => ∃ (p : Addr) (xs : List V) (k : Nat) (v : V), o = .ref p ∧ i = .int k ∧ SqL K H p xs ∧ xs[k]? = some v ∧ Q v H
theorem get_list {X : Cx} : PGet X (rGetL X.K) := by
  intro pins s σ H o i ov iv Q I ro ri h
  obtain ⟨p, xs, k, v, rfl, rfl, hq, hx, q⟩ := h
  cases ro
  obtain ⟨t, rfl⟩ := ri
  obtain ⟨its, r, pl, hz⟩ := I.list hq
  obtain ⟨w, ew, rw'⟩ := r.get hx
  have hl := r.length
  have hn := line63
  have hk : k < its.length := (List.getElem?_eq_some_iff.mp ew).1
  exact wpAny_getItem_list pl.isList (by omega) (by omega) (by simpa using ew) ⟨v, H, I, rw', q⟩
section
variable {X : Cx} {pins : List (Addr × Obj)} {σ : St} {H : Hp} {s : Shared} {a : Addr} {kvs : List (Key × V)} {k : Key} {u r : Value} {A : Around} {E : Value → Shared → Prop}
theorem d_setdef {x : V} {Q : Value → Shared → Prop} (I : Inv X pins σ H s) (e : H a = some (.dK kvs)) (ry : RelV (kV k) u) (rx : RelV x r) (hz : kvs.length < sizeLine) (h1 : ∀ v w' s', valV kvs k = some v → Inv X pins σ H s' → RelV v w' → Q w' s')
    (h2 : valV kvs k = none → ∀ s', Inv X pins σ (upd H a (.dK (putK kvs k x))) s' → Q r s') : wpAny (model X.prog X.w) A (call (.builtin "dict.setdefault") [.ref a, u, r]) Q E s := by
  obtain ⟨z, hd, vs, rel, dd⟩ := dk_of I.hok e
  have hl : (putK kvs k x).length ≤ sizeLine := by have := length_putK kvs k x; omega
  refine call_meetsIn PySem.F.slot_dict_setdefault dd.typeIs PySem.F.entry_dict_setdefault (PySem.F.args_dict_setdefault_3 _ _ _) (kt_meets_setdefault (mixKind X.prog X.w) a (kV_is ry) hd r) ⟨vs, dd, by rw [← rel.length]; exact z, fun w' hw => ?_, fun hn h' dd' hs => ?_⟩
  · cases hv : valV kvs k with
    | none =>
      have : valueAt vs k = none := RelO.none_of (by rw [← hv]; exact rel.val k)
      rw [this] at hw
      cases hw
    | some v =>
      obtain ⟨w2, hw2, rw2⟩ := RelO.some_of (v := v) (o := valueAt vs k) (by rw [← hv]; exact rel.val k)
      rw [hw] at hw2
      cases hw2
      exact h1 v _ _ hv (I.tok _) rw2
  · have hv : valV kvs k = none := by
      cases hv : valV kvs k with
      | none => rfl
      | some v =>
        obtain ⟨w2, hw2, _⟩ := RelO.some_of (v := v) (o := valueAt vs k) (by rw [← hv]; exact rel.val k)
        rw [hn] at hw2
        cases hw2
    have he : ∃ q, h'.get? a = some q := let ⟨q, _, _, hq, _⟩ := dd'; ⟨q, hq⟩
    exact h2 hv _ (d_write I (by rw [e]; exact True.intro) hs he (dk_new hl hd (rel.put k rx) dd'))
end
def tDSetDef (td ty tx : TE) : TE := fun σ H Q => td σ H fun x H1 => ∃ a, x = .ref a ∧ IsD H1 a ∧ ty σ H1 fun y H2 => tx σ H2 fun z H3 => ∃ kvs k, H3 a = some (.dK kvs) ∧ y = kV k ∧ kvs.length < sizeLine ∧
  (∀ v, valV kvs k = some v → Q v H3) ∧ (valV kvs k = none → Q z (upd H3 a (.dK (putK kvs k z))))
section
variable {X : Cx} {o e f : Expr} {apos cpos : Pos} {td ty tx : TE}
theorem pe_dsetdef (ho : PE X o td) (he : PE X e ty) (hf : PE X f tx) (m : M2 X o "setdefault" apos e f cpos) : PE X (.Call (.Attribute o "setdefault" apos) [e, f] [] cpos) (tDSetDef td ty tx) := by
  intro pins s σ H Q I h
  refine wpAny_Call_method m.base m.few m.line PySem.F.plainAttrs_dict PySem.F.slot_dict_setdefault PySem.F.type_dict_setdefault (thn (ho pins s σ H _ I h) fun u s1 ⟨x, H1, I1, rx, a, ex, d, q1⟩ => ?_)
  subst ex
  obtain rfl : u = Value.ref a := rx
  obtain ⟨t1, t2, _⟩ := isD_at I1 d
  refine ⟨t1, t2, ?_⟩
  rw [m.trees]
  refine Calls.callWith_builtin rfl (Calls.evalArgs_plain (Calls.spliced_cons (thn (he pins s1 σ H1 _ I1 q1) fun iv s2 ⟨y, H2, I2, ry, q2⟩ =>
    Calls.spliced_cons (thn (hf pins s2 σ H2 _ I2 q2) fun fv s3 ⟨z, H3, I3, rz, kvs, k, ea, ey, hz, qa, qb⟩ => Calls.spliced_nil ?_))))
  subst ey
  exact d_setdef I3 ea ry rz hz (fun v w' s4 hv I4 rw' => ⟨v, H3, I4, rw', qa v hv⟩) fun hn s4 I4 => ⟨z, _, I4, rz, qb hn⟩
end
end L2

namespace PySem
open Sem (wp)
open PyProof.Rows
namespace SortD
section
variable {prog : Program} {w : World} {A : Around} {E : Value → Shared → Prop} {s : Shared} {K : Type} [DecidableEq K] {knd : KeyKind prog w K}
theorem sort_intsB {B : Addr} {vs : List Value} {ns : List Int} {n : Nat} {Q : Value → Shared → Prop} (hB : s.heap.get? B = some (seqObj "list" vs.toArray n)) (hS : IntsAre vs ns) (hn : vs.length < 64)
    (h : ∀ out ns', IntsAre out.toList ns' → ns'.Perm ns → ns'.Pairwise (· ≤ ·) → Q .none { s with heap := sortedHeap s.heap B vs out }) : wpAny (model prog w) A (call (.builtin "list.sort") [.ref B]) Q E s := by
  refine wpAny_call (codeAny_call_builtin F.slot_list_sort.plain entry_list_sort (F.slot_list_sort.check _ _ _ _ _ _ _ _ ⟨_, hB, rfl⟩ (args_list_sort _) ?_))
  exact list_sort_tree hB hS hn fun out ns' h1 h2 h3 => h _ _ h1 h2 h3
theorem intsAre_of : ∀ {vs : List Value} {ns : List Int}, vs.length = ns.length → (∀ (i : Nat) (v : Value) (x : Int), vs[i]? = some v → ns[i]? = some x → ∃ t, v = .int x t) → IntsAre vs ns
  | [], [], _, _ => .nil
  | v :: vs, x :: ns, hl, h => by
    obtain ⟨t, rfl⟩ := h 0 v x rfl rfl
    exact .cons x t (intsAre_of (by simpa using hl) fun i v x h1 h2 => h (i + 1) v x (by simpa using h1) (by simpa using h2))
  | [], _ :: _, h, _ => by simp at h
  | _ :: _, [], h, _ => by simp at h
theorem call_sorted_dictI {d : Addr} {kvs : List (K × Value)} {ns : List Int} {Q : Value → Shared → Prop} (hh : A.handled = none) (hs : (d == sysModules) = false) (hD : s.heap.DictOf knd d kvs) (hl : ns.length = kvs.length) (hn : kvs.length < 64)
    (hk : ∀ (i : Nat) (k : K) (v x : Value) (y : Int), kvs[i]? = some (k, x) → ns[i]? = some y → knd.is k v = true → ∃ t, v = .int y t)
    (h : ∀ (h1 h' : Heap) (tk : Nat) (out : Array Value) (e : Nat) (ns' : List Int), (∀ b o, s.heap.get? b = some o → h1.get? b = some o) → (∀ b o, h1.get? b = some o → h'.get? b = some o) → h'.get? h1.objs.size = some (seqObj "list" out e) → IntsAre out.toList ns' → ns'.Perm ns → ns'.Pairwise (· ≤ ·) → Q (.ref h1.objs.size) { s with heap := h', toks := tk }) :
    wpAny (model prog w) A (call (.builtin "sorted") [.ref d]) Q E s := by
  obtain ⟨o, es, ep, g1, x1, e1, k1, p1, nd⟩ := hD
  refine wpAny_call (codeAny_call_builtin plain_sorted entry_sorted (check_sorted ?_))
  unfold Builtin.sorted
  refine wpAny_bind (wpAny_of_eq (a := ()) rfl ?_)
  refine wpAny_bind (W.kdu_collect (W.kdl_dict (knd := knd) (kvs := kvs) (ep := ep) hs) hh ⟨o, es, g1, x1, e1, k1, p1, nd⟩ (Nat.le_trans (Nat.le_of_lt hn) (by decide)) fun h1 tk1 acc kp hacc => ?_)
  obtain ⟨za, ha⟩ := hacc
  have la : acc.toList.length = ns.length := by rw [Array.length_toList, za, hl]
  have hS : IntsAre acc.toList ns := intsAre_of la fun i v y h1 h2 => by
    rw [Array.getElem?_toList] at h1
    obtain ⟨k, x, e2, e3⟩ := ha i v h1
    exact hk i k v x y e2 h2 e3
  refine wpAny_bind (wpAny_newList (hsz := Nat.le_trans (m := 64) (by rw [la]; omega) (by decide)) ?_)
  have hB : (h1.push { cls := Value.type "list", data := Data.seq acc.toList.toArray }).get? h1.objs.size = some (seqObj "list" acc.toList.toArray 0) := Heap.get?_push_size _ rfl
  refine wpAny_bind (wpAny_holding (sort_intsB (B := h1.objs.size) hB hS (by rw [la]; omega) fun out ns' s1 s2 s3 => wpAny_pure ?_))
  obtain ⟨e, he⟩ := sortedHeap_at (out := out) hB
  refine h h1 _ _ out e ns' kp (fun b o hb1 => ?_) he s1 s2 s3
  have lb := Heap.lt_size hb1
  rw [sortedHeap_old (Nat.ne_of_lt lb) (by rw [Heap.size_push]; exact Nat.lt_succ_of_lt lb)]
  exact Heap.get?_push_of_some _ hb1
end
end SortD
end PySem
namespace L2
open PySem PySem.Spec PyProof.Rows
theorem valsOf : ∀ {xs : List V} {its : List Value}, its.length = xs.length → (∀ (j : Nat) (v : Value), its[j]? = some v → ∃ x, xs[j]? = some x ∧ RelV x v) → Vals xs its
  | [], [], _, _ => .nil
  | x :: xs, v :: its, hl, h => by
    obtain ⟨x', e, r⟩ := h 0 v rfl
    cases e
    exact .cons r (valsOf (by simpa using hl) fun j u hu => by simpa using h (j + 1) u (by simpa using hu))
  | [], _ :: _, hl, _ => by simp at hl
  | _ :: _, [], hl, _ => by simp at hl
section
variable {X : Cx}
theorem call_listDK (hc : X.calm = true) : CallR X (.type "list") (fun xs H Q => ∃ (a : Addr) (kvs : List (Key × V)), xs = [.ref a] ∧ Rd H a (.dK kvs) ∧ ∀ l, H l = none → Q (.ref l) (upd H l (.lst (kvs.map fun kv => kV kv.1)))) := by
  intro pins s σ H xs us Q I r h
  obtain ⟨a, kvs, rfl, hd, q⟩ := h
  obtain ⟨u, rfl, rx⟩ := vals1 r
  cases rx
  obtain ⟨z, sa, vs, rel, dd⟩ := dk_rd I.hok hd
  obtain ⟨ep, hat⟩ := dd.dictAt
  have len := KV.len rel
  refine PySem.W.kdl_call (PySem.W.kdl_dict (knd := mixKind X.prog X.w) (kvs := vs) (ep := ep) sa) (I.ok.hd hc) hat (by omega) fun h' tk acc c hk hS hacc => ?_
  refine ⟨.ref _, _, I.laid (o := .lst (kvs.map fun kv => kV kv.1)) hk (Nat.le_refl _) ⟨by rw [List.length_map]; exact z, acc.toList, c, valsOf (by rw [Array.length_toList, hacc.1, List.length_map]; omega) (fun j v hv => ?_), hS⟩, rfl, q _ (I.hok.fresh (Nat.le_refl _))⟩
  obtain ⟨k, x, hx, hkey⟩ := hacc.2 j v (by rw [← Array.getElem?_toList]; exact hv)
  obtain ⟨y, hy, _⟩ := KV.at rel hx
  exact ⟨kV k, by rw [List.getElem?_map, hy]; rfl, rel_key hkey⟩
end
section
variable {X : Cx}
theorem argBest_min {ns : List Int} (h : 0 < ns.length) : ns.getD (argBest (fun i j => decide (ns.getD i 0 < ns.getD j 0)) (ns.length - 1)) 0 ∈ ns ∧ (∀ a ∈ ns, ns.getD (argBest (fun i j => decide (ns.getD i 0 < ns.getD j 0)) (ns.length - 1)) 0 ≤ a) ∧ argBest (fun i j => decide (ns.getD i 0 < ns.getD j 0)) (ns.length - 1) < ns.length := by
  obtain ⟨h1, h2⟩ := argBest_lt (fun i => ns.getD i 0) (ns.length - 1)
  have hb : argBest (fun i j => decide (ns.getD i 0 < ns.getD j 0)) (ns.length - 1) < ns.length := by
    have : argBest (fun i j => decide (ns.getD i 0 < ns.getD j 0)) (ns.length - 1) ≤ ns.length - 1 := h1
    omega
  refine ⟨?_, fun a ha => ?_, hb⟩
  · generalize argBest _ _ = k at hb
    have e : ns.getD k 0 = ns[k] := by simp [List.getD, hb]
    rw [e]
    exact List.getElem_mem hb
  · obtain ⟨j, hj, rfl⟩ := List.getElem_of_mem ha
    have := h2 j (by omega)
    have e : ns.getD j 0 = ns[j] := by simp [List.getD, hj]
    rw [← e]
    exact this
theorem call_min1 (hc : X.calm = true) : CallR X (.builtin "min") (fun xs H Q => ∃ (p : Addr) (ns : List Int), xs = [.ref p] ∧ SqL X.K H p (ns.map V.int) ∧ 0 < ns.length ∧ ∀ m, m ∈ ns → (∀ a ∈ ns, m ≤ a) → Q (.int m) H) := by
  intro pins s σ H xs us Q I r h
  obtain ⟨p, ns, rfl, hq, hn, q⟩ := h
  obtain ⟨u, rfl, rx⟩ := vals1 r
  cases rx
  obtain ⟨b1, b2, b3⟩ := argBest_min hn
  obtain ⟨its, r', pl, hz⟩ := I.list hq
  have hl := pl.isList
  have hlt : p < s.heap.objs.size := by obtain ⟨_, e, _⟩ := hl; exact Heap.lt_size e
  have len := r'.length
  rw [List.length_map] at len
  refine call_min_walk (wpAny_pyIter_list hl ⟨_, _, _, _, _, _, (fun i j => decide (ns.getD i 0 < ns.getD j 0)), rfl, Walks.list (A := X.A.in1) (I.ok.hd hc) s.heap.objs.size p (Nat.ne_of_lt hlt) its.toArray, ⟨⟨_, Heap.get?_push_size _ rfl, rfl, rfl⟩, hl.push _⟩, ?_, ?_, ?_, ?_⟩)
  · intro b hb
    show b < (s.heap.push _).objs.size
    rw [Heap.size_push]
    rcases List.mem_cons.mp hb with rfl | hb
    · exact Nat.lt_succ_self _
    · rcases List.mem_cons.mp hb with rfl | hb
      · exact Nat.lt_succ_of_lt hlt
      · cases hb
  · rw [List.size_toArray, ← len]
    exact hn
  · refine CmpOf.ints_lt (fun i => ns.getD i 0) fun i v hP => ?_
    have hP' : its[i]? = some v := by simpa using hP
    obtain ⟨hi, e⟩ := List.getElem?_eq_some_iff.mp hP'
    rw [← e]
    exact ints_at r' hi
  · intro v h' tk hP hk
    have hP' : its[argBest (fun i j => decide (ns.getD i 0 < ns.getD j 0)) (ns.length - 1)]? = some v := by
      rw [List.size_toArray, ← len] at hP
      simpa using hP
    obtain ⟨hi, e⟩ := List.getElem?_eq_some_iff.mp hP'
    obtain ⟨t, e2⟩ := ints_at r' hi
    exact ⟨.int _, H, I.kept (old_kept hk), ⟨t, by rw [← e, e2]⟩, q _ b1 b2⟩
end
theorem compS_dictK {D a : Addr} {o : Obj} {g : TG} {tt : TT} {te : TE} {Q : VK} {τ : St} {H : Hp} (kvs : List (Key × V)) (Pv : Nat → St → Hp → Prop) (h0 : Pv 0 τ H) (hl : ∀ i τ H, i ≤ kvs.length → Pv i τ H → H a = some (.frz o (.dK kvs)))
    (hs : ∀ i k v τ H (R : St → Hp → Prop), kvs[i]? = some (k, v) → Pv i τ H → (∀ τ' H', Pv (i + 1) τ' H' → R τ' H') → tComp1 D g tt te (kV k) τ H R) (hd : ∀ τ H, Pv kvs.length τ H → Q (.ref D) H) : CompS D (ItK a o kvs) g tt te Q τ H := by
  refine ⟨fun i m τ H => m = kvs.length - i ∧ i ≤ kvs.length ∧ Pv i τ H, ⟨kvs.length, by simp, Nat.zero_le _, h0⟩, ?_⟩
  rintro i m τ H2 ⟨rfl, hi, p⟩
  by_cases e : i = kvs.length
  · subst e
    exact .inl ⟨⟨Nat.le_refl _, hl _ _ _ hi p⟩, hd _ _ p⟩
  · refine .inr ⟨⟨by omega, hl _ _ _ hi p⟩, fun x H' hy => ?_⟩
    obtain ⟨rfl, k, v, hx, rfl⟩ := hy
    exact hs i k v τ _ (fun τ' H' => ∃ m', m' < kvs.length - i ∧ m' = kvs.length - (i + 1) ∧ i + 1 ≤ kvs.length ∧ Pv (i + 1) τ' H') hx p fun τ' H' p' => ⟨_, by omega, rfl, by omega, p'⟩
theorem vals_intsA : ∀ {vs : List Value} {ns : List Int}, IntsAre vs ns → Vals (ns.map V.int) vs
  | _, _, .nil => .nil
  | _, _, .cons y t h => .cons ⟨t, rfl⟩ (vals_intsA h)
section
variable {X : Cx}
theorem call_sortedDI (hc : X.calm = true) : CallR X (.builtin "sorted") (fun xs H Q => ∃ (a : Addr) (kvs : List (Key × V)) (ns : List Int), xs = [.ref a] ∧ Rd H a (.dK kvs) ∧ kvs.map (·.1) = ns.map (Sum.inl : Int → Key) ∧ ns.length < 64 ∧ ∀ (l : Addr) (ns' : List Int), H l = none → ns'.Perm ns → ns'.Pairwise (· ≤ ·) → Q (.ref l) (upd H l (.lst (ns'.map V.int)))) := by
  intro pins s σ H xs us Q I r h
  obtain ⟨a, kvs, ns, rfl, hd, hk, hn, q⟩ := h
  obtain ⟨u, rfl, rx⟩ := vals1 r
  cases rx
  obtain ⟨_, sa, vs, rel, dd⟩ := dk_rd I.hok hd
  have ek := rel.keys
  have l1 : ns.length = vs.length := by
    have := congrArg List.length (hk.symm.trans ek)
    simpa using this
  refine PySem.SortD.call_sorted_dictI (knd := mixKind X.prog X.w) (ns := ns) (I.ok.hd hc) sa dd l1 (by omega) (fun i k v x y h1 h2 h3 => ?_) fun h1 h' tk out e ns' kp kp2 he hS hp hs => ?_
  · have : (vs.map (·.1))[i]? = some (Sum.inl y : Key) := by rw [← ek, hk, List.getElem?_map, h2]; rfl
    rw [List.getElem?_map, h1] at this
    injection this with this
    have hk2 : k = .inl y := this
    subst hk2
    exact (rel_key (k := .inl y) (u := v) h3 : RelV (kV (.inl y)) v)
  · have I1 : Inv X pins σ H { s with heap := h1, toks := tk } := I.kept kp
    have len : ns'.length ≤ sizeLine := Nat.le_trans (m := 64) (by rw [hp.length_eq]; omega) (by decide)
    exact ⟨.ref h1.objs.size, _, I1.laid (t' := tk) (o := .lst (ns'.map V.int)) kp2 (Nat.le_refl _) ⟨by rw [List.length_map]; exact len, out.toList, e, vals_intsA hS, by simpa using he⟩, rfl, q _ _ (I1.hok.fresh (Nat.le_refl _)) hp hs⟩
end
end L2

namespace L2
open PySem PySem.Spec PyProof.Rows
end L2

namespace L2
open PySem PySem.Spec PyProof.Rows
section
variable {pr : Program} {wo : World} {B : Around} {R : Result → Shared → Prop} {it S : Addr} {fp wr : List Addr} {n : Nat} {Pi : Nat → Value → Prop} {St : Nat → Heap → Prop} {kw : List (Str × Value)}
end
section
variable {X : Cx} {pins : List (Addr × Obj)} {σ : St} {H : Hp} {s : Shared} {p : Addr} {ns : List Int} {d : Value} {E : Value → Shared → Prop} {Q : Value → Shared → Prop}
end
end L2

namespace Tb
open PySem L2 PyProof.Rows
abbrev Dc := List (Str × Int)
def ks (d : Dc) : List Str := d.map (·.1)
def gt : Dc → Str → Int
  | [], _ => 0
  | p :: d, k => if p.1 = k then p.2 else gt d k
def sm (d : Dc) : Int := (d.map (·.2)).sum
def cs (rows : Dc) (s : Str) : Int := (rows.map fun p => if p.1 = s then p.2 else 0).sum
end Tb

namespace MthL
theorem first {ws : List Int} {w : Int} (h : w ∈ ws) : ∃ i, i < ws.length ∧ ws.getD i 0 = w ∧ ∀ j, j < i → ws.getD j 0 ≠ w := by
  induction ws with
  | nil => cases h
  | cons a ws ih =>
    by_cases e : a = w
    · exact ⟨0, Nat.zero_lt_succ _, e, fun j hj => absurd hj (Nat.not_lt_zero _)⟩
    · obtain ⟨i, h1, h2, h3⟩ := ih ((List.mem_cons.mp h).resolve_left fun z => e z.symm)
      refine ⟨i + 1, Nat.succ_lt_succ h1, h2, fun j hj => ?_⟩
      cases j with
      | zero => exact e
      | succ j => exact h3 j (Nat.lt_of_succ_lt_succ hj)
theorem below {ws : List Int} (w : Int) : (∀ o ∈ ws, 0 < o → w ≤ o) ∨ ∃ v ∈ ws, 0 < v ∧ v < w ∧ ∀ o ∈ ws, o < w → o ≤ v := by
  induction ws with
  | nil => exact .inl fun o ho => by cases ho
  | cons a ws ih =>
    by_cases ha : 0 < a ∧ a < w
    · rcases ih with ih | ⟨v, h1, h2, h3, h4⟩
      · refine .inr ⟨a, List.mem_cons_self .., ha.1, ha.2, fun o ho hl => ?_⟩
        rcases List.mem_cons.mp ho with rfl | ho
        · exact Int.le_refl _
        · by_cases h0 : 0 < o
          · have := ih o ho h0
            omega
          · omega
      · by_cases hv : a ≤ v
        · refine .inr ⟨v, List.mem_cons_of_mem _ h1, h2, h3, fun o ho hl => ?_⟩
          rcases List.mem_cons.mp ho with rfl | ho
          · exact hv
          · exact h4 o ho hl
        · refine .inr ⟨a, List.mem_cons_self .., ha.1, ha.2, fun o ho hl => ?_⟩
          rcases List.mem_cons.mp ho with rfl | ho
          · exact Int.le_refl _
          · have := h4 o ho hl
            omega
    · rcases ih with ih | ⟨v, h1, h2, h3, h4⟩
      · refine .inl fun o ho h0 => ?_
        rcases List.mem_cons.mp ho with rfl | ho
        · omega
        · exact ih o ho h0
      · refine .inr ⟨v, List.mem_cons_of_mem _ h1, h2, h3, fun o ho hl => ?_⟩
        rcases List.mem_cons.mp ho with rfl | ho
        · omega
        · exact h4 o ho hl
end MthL

namespace Mth
def cell (ns : List Int) (k : Int) : Int :=
  if k < (ns.length : Int) then ns.getD k.toNat 0 % 10 ^ 60
  else (if 0 < (ns.length : Int) then ns.getD (k * 7 % (ns.length : Int)).toNat 0 % 10 ^ 60 * 48271 + k * k * 69621 else 7919 * k + 5) % 2147483647 * 16807 % 2147483629
def gcd (a b : Int) : Int := (Int.gcd a b : Nat)
structure IsShare (t b x y : Int) : Prop where
  pos : 0 < y
  low : gcd x y = 1
  eq : x * b = t * y
  le1 : x.natAbs ≤ t.natAbs
  le2 : y.natAbs ≤ b.natAbs
structure Low (T : Int × Int) (x y : Int) : Prop where
  pos : 0 < y
  low : gcd x y = 1
  eq : x * T.2 = T.1 * y
end Mth

set_option maxHeartbeats 4000000
namespace My
open PySem L2
def spLaw (K : PySem.W.Frag) : Sp := fun vs H Q _ => ∃ (a : Addr) (ns : List Int), vs = [.ref a] ∧ SqL K H a (ns.map V.int) ∧ ns.length ≤ 63 ∧ ∀ H', Q (.bl true) H'
theorem atI_map {ns : List Int} {k : Int} (h0 : 0 ≤ k) (h1 : k < ns.length) : atI (ns.map V.int) k = some (.int (ns.getD k.toNat 0)) := by
  have e : k = ((k.toNat : Nat) : Int) := by omega
  have h2 : k.toNat < ns.length := by omega
  have q : (ns.map V.int)[k.toNat]? = some (.int (ns.getD k.toNat 0)) := by
    rw [List.getElem?_map, List.getElem?_eq_getElem h2]
    simp [List.getD, h2]
  have := atI_nat q
  rw [← e] at this
  exact this
theorem bitsN {n : Nat} {i : Int} (lo : -(10 ^ 61) ≤ i) (hi : i ≤ 10 ^ 61) (hn : 204 ≤ n := by decide) : Bits n i := (Bits.of (n := 204) (b := 10 ^ 61) lo hi (by decide)).mono hn
theorem same_new {H : Hp} {p : Addr} (h : H p = none) (o : HO) : Same H (upd H p o) := fun b u q => by rw [upd_ne (ne_of_none q h)]; exact q
theorem Same.tup {K : PySem.W.Frag} {H H' : Hp} {a : Addr} {xs : List V} (e : Same H H') (h : SqT K H a xs) : SqT K H' a xs := by
  rcases h with (h | ⟨o, h⟩) | h
  · exact .inl (.inl (e _ _ h))
  · exact .inl (.inr ⟨o, e _ _ h⟩)
  · exact .inr h
theorem cpow {n : Int} (h0 : 0 ≤ n := by decide) (h1 : n ≤ 1000000 := by decide) : CPow 10 n := ⟨h0, h1, by decide⟩
theorem cmul {i j : Int} (a : -(10 ^ 61) ≤ i) (b : i ≤ 10 ^ 61) (c : -(10 ^ 61) ≤ j) (d : j ≤ 10 ^ 61) : CMulB i j := ⟨bitsN a b, bitsN c d⟩
theorem cdiv {i j : Int} (a : 0 < j) (b : j ≤ 10 ^ 61) : CDivB i j := ⟨a, bitsN (by omega) b⟩
theorem getD_at {α : Type} {ws : List α} {j : Nat} {d : α} (h : j < ws.length) : ws.getD j d = ws[j] := by simp only [List.getD, List.getElem?_eq_getElem h, Option.getD_some]
theorem ixN_nat {n j : Nat} (h : j < n) : ixN n (j : Int) = some j := by
  unfold ixN
  rw [if_pos (by omega), if_pos (by omega)]
  rfl
theorem fresh_tup {K : PySem.W.Frag} {H : Hp} {p : Addr} (h : H p = none) (xs : List V) : ∃ H1, H1 = upd H p (.tup xs) ∧ Same H H1 ∧ SqT K H1 p xs := ⟨_, rfl, same_new h _, SqT.of upd_same⟩
theorem fresh_lst {K : PySem.W.Frag} {H : Hp} {p : Addr} (h : H p = none) (xs : List V) : ∃ H1, H1 = upd H p (.lst xs) ∧ Same H H1 ∧ SqL K H1 p xs := ⟨_, rfl, same_new h _, SqL.of upd_same⟩
theorem same_upd {H H' : Hp} {l : Addr} (e : Same H H') (h : H l = none) (o : HO) : Same H (upd H' l o) := fun b u hb => by rw [upd_ne (ne_of_none hb h)]; exact e _ _ hb



def top (i : Nat) : Stmt := PySem.Challenge.pw_tariffgate_k64_cuts.main.body.getD i (.Pass ⟨0, 0, 0, 0⟩)
theorem dn_line : (("line" : Str) == ("__debug__" : Str)) = false := by decide
theorem dc_line : (("line" : Str) == ("__classdict__" : Str)) = false := by decide
theorem dn_flows : (("flows" : Str) == ("__debug__" : Str)) = false := by decide
theorem dc_flows : (("flows" : Str) == ("__classdict__" : Str)) = false := by decide
theorem dn_place : (("place" : Str) == ("__debug__" : Str)) = false := by decide
theorem dc_place : (("place" : Str) == ("__classdict__" : Str)) = false := by decide
theorem dn_others : (("others" : Str) == ("__debug__" : Str)) = false := by decide
theorem dc_others : (("others" : Str) == ("__classdict__" : Str)) = false := by decide
theorem dn_entry : (("entry" : Str) == ("__debug__" : Str)) = false := by decide
theorem dc_entry : (("entry" : Str) == ("__classdict__" : Str)) = false := by decide
theorem dn_flow : (("flow" : Str) == ("__debug__" : Str)) = false := by decide
theorem dc_flow : (("flow" : Str) == ("__classdict__" : Str)) = false := by decide
theorem dn_other : (("other" : Str) == ("__debug__" : Str)) = false := by decide
theorem dc_other : (("other" : Str) == ("__classdict__" : Str)) = false := by decide
abbrev s_led_over : Stmt := top 1
theorem sc_led_over : FnScope ["line", "flows", "place", "others", "entry", "flow", "other"] ["line", "flows", "place"] (defScope s_led_over) := ⟨rfl, rfl, rfl, by decide +kernel, rfl, by decide +kernel, by decide +kernel⟩
theorem v_led_over_0 : Vis (defScope s_led_over) "line" := by first | exact Or.inl rfl | exact Or.inr (Or.inl rfl) | exact Or.inr (Or.inr rfl)
theorem v_led_over_1 : Vis (defScope s_led_over) "flows" := by first | exact Or.inl rfl | exact Or.inr (Or.inl rfl) | exact Or.inr (Or.inr rfl)
theorem v_led_over_2 : Vis (defScope s_led_over) "place" := by first | exact Or.inl rfl | exact Or.inr (Or.inl rfl) | exact Or.inr (Or.inr rfl)
theorem v_led_over_3 : Vis (defScope s_led_over) "others" := by first | exact Or.inl rfl | exact Or.inr (Or.inl rfl) | exact Or.inr (Or.inr rfl)
theorem l_led_over_3 : Loc (defScope s_led_over) "others" := by first | exact Or.inl rfl | exact Or.inr rfl
theorem v_led_over_4 : Vis (defScope s_led_over) "entry" := by first | exact Or.inl rfl | exact Or.inr (Or.inl rfl) | exact Or.inr (Or.inr rfl)
theorem l_led_over_4 : Loc (defScope s_led_over) "entry" := by first | exact Or.inl rfl | exact Or.inr rfl
theorem v_led_over_5 : Vis (defScope s_led_over) "flow" := by first | exact Or.inl rfl | exact Or.inr (Or.inl rfl) | exact Or.inr (Or.inr rfl)
theorem l_led_over_5 : Loc (defScope s_led_over) "flow" := by first | exact Or.inl rfl | exact Or.inr rfl
theorem v_led_over_6 : Vis (defScope s_led_over) "other" := by first | exact Or.inl rfl | exact Or.inr (Or.inl rfl) | exact Or.inr (Or.inr rfl)
theorem l_led_over_6 : Loc (defScope s_led_over) "other" := by first | exact Or.inl rfl | exact Or.inr rfl
theorem g_led_over_enumerate : (defScope s_led_over).names.lookup ("enumerate" : Str) = some .globalImplicit := by rfl

abbrev En := List Nat × Int
def LnAt (K : PySem.W.Frag) (H : Hp) (l : Addr) (L : List En) : Prop := ∃ us, SqL K H l us ∧ Paired (fun v (e : En) => ∃ t q, v = V.ref t ∧ SqT K H t [.ref q, .int e.2] ∧ SqL K H q (e.1.map fun j : Nat => V.int (j : Int))) us L
theorem pair_same {K : PySem.W.Frag} {H H' : Hp} (e : Same H H') : ∀ {us : List V} {L : List En}, Paired (fun v (e : En) => ∃ t q, v = V.ref t ∧ SqT K H t [.ref q, .int e.2] ∧ SqL K H q (e.1.map fun j : Nat => V.int (j : Int))) us L → Paired (fun v (e : En) => ∃ t q, v = V.ref t ∧ SqT K H' t [.ref q, .int e.2] ∧ SqL K H' q (e.1.map fun j : Nat => V.int (j : Int))) us L
  | _, _, .nil => .nil
  | _, _, .cons ⟨t, q, a, b, c⟩ r => .cons ⟨t, q, a, Same.tup e b, e.seq c⟩ (pair_same e r)
theorem LnAt.same {K : PySem.W.Frag} {H H' : Hp} {l : Addr} {L : List En} (h : LnAt K H l L) (e : Same H H') : LnAt K H' l L := by
  obtain ⟨us, a, b⟩ := h
  exact ⟨us, e.seq a, pair_same e b⟩
theorem pair_get {K : PySem.W.Frag} {H : Hp} : ∀ {us : List V} {L : List En} {i : Nat} {en : En}, Paired (fun v (e : En) => ∃ t q, v = V.ref t ∧ SqT K H t [.ref q, .int e.2] ∧ SqL K H q (e.1.map fun j : Nat => V.int (j : Int))) us L → L[i]? = some en → ∃ t q, us[i]? = some (.ref t) ∧ SqT K H t [.ref q, .int en.2] ∧ SqL K H q (en.1.map fun j : Nat => V.int (j : Int))
  | _, _, _, _, .nil, h => by cases h
  | _, _, 0, _, .cons ⟨t, q, a, b, c⟩ _, h => by
    cases h
    exact ⟨t, q, by rw [a]; rfl, b, c⟩
  | _, _, i + 1, _, .cons _ r, h => by
    rw [List.getElem?_cons_succ] at h
    obtain ⟨t, q, a, b, c⟩ := pair_get r h
    exact ⟨t, q, by rw [List.getElem?_cons_succ]; exact a, b, c⟩
theorem LnAt.get {K : PySem.W.Frag} {H : Hp} {l : Addr} {L : List En} {i : Nat} {en : En} (h : LnAt K H l L) (hi : L[i]? = some en) : ∃ us t q, SqL K H l us ∧ us[i]? = some (.ref t) ∧ SqT K H t [.ref q, .int en.2] ∧ SqL K H q (en.1.map fun j : Nat => V.int (j : Int)) := by
  obtain ⟨us, a, b⟩ := h
  obtain ⟨t, q, c, d, e⟩ := pair_get b hi
  exact ⟨us, t, q, a, c, d, e⟩
structure FlAt (H : Hp) (g : Addr) (rs : List Addr) (F : List (List Int)) : Prop where
  top : H g = some (.lst (rs.map V.ref))
  len : rs.length = F.length
  row : ∀ (e : Nat) (r : Addr) (fl : List Int), rs[e]? = some r → F[e]? = some fl → H r = some (.lst (fl.map V.int))
  nd : rs.Nodup
  ne : ∀ r ∈ rs, r ≠ g
theorem FlAt.same {H H' : Hp} {g : Addr} {rs : List Addr} {F : List (List Int)} (h : FlAt H g rs F) (e : Same H H') : FlAt H' g rs F := ⟨e _ _ h.top, h.len, fun i r fl a b => e _ _ (h.row i r fl a b), h.nd, h.ne⟩
def fl (F : List (List Int)) (e j : Nat) : Int := (F.getD e []).getD j 0
def pl (L : List En) (e : Nat) : List Nat := (L.getD e ([], 0)).1
def Led (L : List En) (F : List (List Int)) (j e o : Nat) : Prop := e < F.length ∧ 0 < fl F e j ∧ o ∈ pl L e
structure LedS (S : Nat → Nat → Prop) (kvs : List (Key × V)) : Prop where
  out : ∀ k v, valV kvs k = some v → ∃ o e : Nat, k = .inl (o : Int) ∧ v = .int (e : Int) ∧ S e o
  all : ∀ e o, S e o → ∃ v, valV kvs (.inl (o : Int)) = some v
  nd : (kvs.map (·.1)).Nodup
theorem LedS.weak {S S' : Nat → Nat → Prop} {kvs : List (Key × V)} (h : LedS S kvs) (a : ∀ e o, S e o → S' e o) (b : ∀ e o, S' e o → S e o) : LedS S' kvs :=
  ⟨fun k v q => by obtain ⟨o, e, x, y, z⟩ := h.out k v q; exact ⟨o, e, x, y, a _ _ z⟩, fun e o s => h.all e o (b _ _ s), h.nd⟩
theorem LedS.put {S S' : Nat → Nat → Prop} {kvs : List (Key × V)} {e o : Nat} (h : LedS S kvs) (hn : valV kvs (.inl (o : Int)) = none) (a : ∀ e o, S e o → S' e o) (s : S' e o) (b : ∀ e' o', S' e' o' → S e' o' ∨ o' = o) : LedS S' (putK kvs (.inl (o : Int)) (.int (e : Int))) := by
  refine ⟨fun k v q => ?_, fun e' o' s' => ?_, nd_putK _ h.nd hn⟩
  · rw [valV_put] at q
    by_cases z : k = .inl (o : Int)
    · rw [if_pos z] at q
      cases q
      exact ⟨o, e, z, rfl, s⟩
    · rw [if_neg z] at q
      obtain ⟨o', e', x, y, w⟩ := h.out k v q
      exact ⟨o', e', x, y, a _ _ w⟩
  · rw [valV_put]
    by_cases z : (Sum.inl (o' : Int) : Key) = .inl (o : Int)
    · rw [if_pos z]
      exact ⟨_, rfl⟩
    · rw [if_neg z]
      rcases b _ _ s' with w | w
      · exact h.all _ _ w
      · exact absurd (by rw [w]) z
theorem LedS.stay {S S' : Nat → Nat → Prop} {kvs : List (Key × V)} {o : Nat} {v : V} (h : LedS S kvs) (hv : valV kvs (.inl (o : Int)) = some v) (a : ∀ e o, S e o → S' e o) (b : ∀ e' o', S' e' o' → S e' o' ∨ o' = o) : LedS S' kvs :=
  ⟨fun k v q => by obtain ⟨o, e, x, y, z⟩ := h.out k v q; exact ⟨o, e, x, y, a _ _ z⟩, fun e' o' s => by
    rcases b _ _ s with w | w
    · exact h.all _ _ w
    · rw [w]
      exact ⟨v, hv⟩, h.nd⟩
structure Siz (m : Nat) (L : List En) (F : List (List Int)) : Prop where
  fl : F.length ≤ L.length
  l : L.length ≤ 64
  row : ∀ r ∈ F, r.length = m
  pl : ∀ en ∈ L, en.1.length ≤ 64 ∧ ∀ o ∈ en.1, o < m
  nd : ∀ en ∈ L, en.1.Nodup
  m : m ≤ 60
def spLed (K : PySem.W.Frag) : Sp := fun vs H Q _ => ∃ (l g : Addr) (j m : Nat) (L : List En) (rs : List Addr) (F : List (List Int)), vs = [.ref l, .ref g, .int j] ∧ LnAt K H l L ∧ FlAt H g rs F ∧ Siz m L F ∧ j < m ∧
  ∀ (D : Addr) (kvs : List (Key × V)) (H' : Hp), Same H H' → H D = none → H' D = some (.dK kvs) → LedS (Led L F j) kvs → Q (.ref D) H'
section
variable {P : Program} {w : World} {K : PySem.W.Frag} {mg : Str → Option Value} {base : Heap} {f : Addr} {fd : FuncData}
theorem ok_led_over (F : Fun K "led_over" "led_over" s_led_over f fd) (M : Mg mg) : FnOk P w K mg base CX0 1 f fd ["line", "flows", "place"] (spLed K) := by
  refine F.ok sc_led_over (fun vs H Q E h => ?_) (fun cdv A outer s H vs Q E hr h => ?_)
  · obtain ⟨l, g, j, m, L, rs, F', rfl, _⟩ := h
    rfl
  obtain ⟨l, g, j, m, L, rs, Fl, rfl, hL, hF, sz, hj, q⟩ := h
  refine ⟨_, (@pss_cons _ _ _ _ _ (@ps_set _ _ 3 _ _ _ _ sc_led_over.nd rfl l_led_over_3 (@pe_dnewK _ _) (swap1 rfl) (.inl rfl)) (@pss_cons _ _ _ _ _ (@ps_for _ _ _ _ _ _ _ _ PassesOwn.never rfl (@pi_enumL _ _ _ _ _ _ _ _ g_led_over_enumerate M.m_enumerate (@pa_cons _ _ _ _ _ (@pe_var _ 1 _ _ rfl v_led_over_1 dn_flows dc_flows) (@pa_nil _) (star1 rfl)) (by rfl)) (@pg_tup _ _ _ _ _ _ rfl (@pgs_cons _ _ _ _ _ (@pg_name _ _ 4 _ sc_led_over.nd rfl l_led_over_4 (.inl rfl)) (@pgs_cons _ _ _ _ _ (@pg_name _ _ 5 _ sc_led_over.nd rfl l_led_over_5 (.inl rfl)) (@pgs_nil _) (by rfl)) (by rfl)) (by rfl) (by rfl)) (@pss_one _ _ _ (@ps_if _ _ _ _ _ _ _ _ (@pt_cmpR _ _ _ _ _ _ _ _ (@op_gt _) (@pe_ix _ _ _ _ _ _ _ (@ix_list _) (@pe_var _ 5 _ _ rfl v_led_over_5 dn_flow dc_flow) (@pe_var _ 2 _ _ rfl v_led_over_2 dn_place dc_place) (fun _ _ => rfl)) (@pe_int _ _ _ _) (nomark _)) (@pss_one _ _ _ (@ps_for _ _ _ _ _ _ _ _ PassesOwn.never rfl (@pi_list _ _ _ _ (@pe_ix _ _ _ _ _ _ _ (@ix_tup _) (@pe_ix _ _ _ _ _ _ _ (@ix_list _) (@pe_var _ 0 _ _ rfl v_led_over_0 dn_line dc_line) (@pe_var _ 4 _ _ rfl v_led_over_4 dn_entry dc_entry) (fun _ _ => rfl)) (@pe_int _ _ _ _) (fun _ _ => rfl))) (@pg_name _ _ 6 _ sc_led_over.nd rfl l_led_over_6 (.inl rfl)) (@pss_one _ _ _ (@ps_expr _ _ _ _ (@pe_dsetdef _ _ _ _ _ _ _ _ _ (@pe_var _ 3 _ _ rfl v_led_over_3 dn_others dc_others) (@pe_var _ 6 _ _ rfl v_led_over_6 dn_other dc_other) (@pe_var _ 4 _ _ rfl v_led_over_4 dn_entry dc_entry) ⟨rfl, rfl, rfl, rfl⟩) (swap1 rfl))) (by intro _; rfl))) (@pss_nil _))) (by intro _; rfl)) (@pss_one _ _ _ (@ps_ret _ _ _ _ (@pe_var _ 3 _ _ rfl v_led_over_3 dn_others dc_others))))), ?_⟩
  simp only [tDNewK, tDSetDef, iEnumL, slots, Option.getD_some, Option.getD_none, tSeq, tAsg, gName, tOp, tC, tVar, tCons, tNil, rI0, tRet, tIfS, tTest, tDrop, tNext, gTup, gCons, gNil, rIxL, rIxT, Kd_non, Kd_bl, Kd_int, Kd_str, decide_true, decide_false, tFor_eq, iList, L2.start, cxK, Int.reduceToNat, List.map_cons, List.map_nil, List.length_cons, List.length_nil, Nat.reduceAdd, Nat.reduceSub, Nat.zero_add, List.replicate_succ, List.replicate_zero, List.cons_append, List.nil_append, List.append_nil, List.getElem?_cons_zero, List.getElem?_cons_succ, List.set_cons_zero, List.set_cons_succ, Option.some.injEq, V.int.injEq, V.bl.injEq, V.ref.injEq, V.str.injEq, V.ty.injEq, List.cons.injEq, exists_eq_left', exists_eq_left, exists_eq_right, exists_and_left, exists_and_right, and_true, true_and, and_assoc, exists_const, decide_eq_true_eq, Bool.not_eq_true', Bool.not_true, Bool.not_false, Bool.not_not, decide_eq_false_iff_not, ite_not, Bool.false_eq_true, if_true, if_false, reduceCtorEq, and_false, false_and, exists_false, or_false, false_or, ↓reduceIte, eq_self, reduceIte]
  refine fun p hp => ⟨⟨_, SqL.of (same_new hp _ _ _ hF.top)⟩, ?_⟩
  obtain ⟨Pv, hP⟩ : ∃ Pv : Nat → St → Hp → Prop, Pv = fun i σ H' => ∃ (kvs : List (Key × V)) (x y z : Option V), H' p = some (.dK kvs) ∧ LedS (fun e o => e < i ∧ Led L Fl j e o) kvs ∧ kvs.length ≤ i * 64 ∧ Same H H' ∧ σ = [some (.ref l), some (.ref g), some (.int j), some (.ref p), x, y, z] := ⟨_, rfl⟩
  refine forW_enum (rs.map V.ref) Pv ?_ (fun i σ H' _ h => by rw [hP] at h; obtain ⟨_, _, _, _, _, _, _, e, _⟩ := h; exact SqL.of (e _ _ hF.top)) ?_ ?_
  · rw [hP]
    exact ⟨[], _, _, _, upd_same, ⟨(fun k v z => by cases z), (fun e o z => by omega), List.nodup_nil⟩, Nat.zero_le _, same_new hp _, rfl⟩
  · intro i v T σ H' hi h hT
    rw [hP] at h
    obtain ⟨kvs, x, y, z, d, led, lk, e, rfl⟩ := h
    rw [List.getElem?_map] at hi
    obtain ⟨r, hr', rfl⟩ := Option.map_eq_some_iff.mp hi
    have li : i < Fl.length := by rw [← hF.len]; exact (List.getElem?_eq_some_iff.mp hr').1
    simp only [tDNewK, tDSetDef, iEnumL, slots, Option.getD_some, Option.getD_none, tSeq, tAsg, gName, tOp, tC, tVar, tCons, tNil, rI0, tRet, tIfS, tTest, tDrop, tNext, gTup, gCons, gNil, rIxL, rIxT, Kd_non, Kd_bl, Kd_int, Kd_str, decide_true, decide_false, tFor_eq, iList, L2.start, cxK, Int.reduceToNat, List.map_cons, List.map_nil, List.length_cons, List.length_nil, Nat.reduceAdd, Nat.reduceSub, Nat.zero_add, List.replicate_succ, List.replicate_zero, List.cons_append, List.nil_append, List.append_nil, List.getElem?_cons_zero, List.getElem?_cons_succ, List.set_cons_zero, List.set_cons_succ, Option.some.injEq, V.int.injEq, V.bl.injEq, V.ref.injEq, V.str.injEq, V.ty.injEq, List.cons.injEq, exists_eq_left', exists_eq_left, exists_eq_right, exists_and_left, exists_and_right, and_true, true_and, and_assoc, exists_const, decide_eq_true_eq, Bool.not_eq_true', Bool.not_true, Bool.not_false, Bool.not_not, decide_eq_false_iff_not, ite_not, Bool.false_eq_true, if_true, if_false, reduceCtorEq, and_false, false_and, exists_false, or_false, false_or, ↓reduceIte, eq_self, reduceIte]
    obtain ⟨H2, gH, S2, T2⟩ := fresh_tup (K := K) hT [V.int (i : Int), V.ref r]
    rw [← gH]
    clear gH
    have e2 := e.trans S2
    have d2 := S2 _ _ d
    obtain ⟨row, hrow⟩ : ∃ row, Fl[i]? = some row := ⟨_, List.getElem?_eq_getElem li⟩
    have dr := hF.row i r row hr' hrow
    have lrow : row.length = m := sz.row row (List.mem_iff_getElem?.mpr ⟨_, hrow⟩)
    have hjr : atI (row.map V.int) (j : Int) = some (.int (row.getD j 0)) := atI_map (by omega) (by omega)
    have efl : fl Fl i j = row.getD j 0 := by
      unfold fl
      rw [show Fl.getD i [] = row by simp [List.getD, hrow]]
    refine ⟨_, T2, rfl, _, _, rfl, _, _, rfl, rfl, r, rfl, _, SqL.of (e2 _ _ dr), _, hjr, _, rfl, ?_⟩
    by_cases hpos : 0 < row.getD j 0
    · rw [if_pos hpos]
      have li2 : i < L.length := by have := sz.fl; omega
      obtain ⟨en, hen⟩ : ∃ en, L[i]? = some en := ⟨_, List.getElem?_eq_getElem li2⟩
      have epl : pl L i = en.1 := by
        unfold pl
        rw [show L.getD i ([], 0) = en by simp [List.getD, hen]]
      obtain ⟨us, t, q', a1, a2, a3, a4⟩ := hL.get hen
      obtain ⟨len1, len2⟩ := sz.pl en (List.mem_iff_getElem?.mpr ⟨_, hen⟩)
      refine ⟨us, (i : Int), rfl, e2.seq a1, _, atI_nat a2, t, rfl, _, Same.tup e2 a3, _, rfl, q', rfl, ⟨_, e2.seq a4⟩, ?_⟩
      obtain ⟨Pw, hW⟩ : ∃ Pw : Nat → St → Hp → Prop, Pw = fun k σ H3 => ∃ (kvs : List (Key × V)) (z : Option V), H3 p = some (.dK kvs) ∧ LedS (fun e o => (e < i ∧ Led L Fl j e o) ∨ (e = i ∧ o ∈ en.1.take k)) kvs ∧ kvs.length ≤ i * 64 + k ∧ Same H H3 ∧ σ = [some (.ref l), some (.ref g), some (.int j), some (.ref p), some (.int (i : Int)), some (.ref r), z] := ⟨_, rfl⟩
      refine forW_list (K := K) (en.1.map fun j : Nat => V.int (j : Int)) Pw ?_ (fun k σ H3 _ h => by rw [hW] at h; obtain ⟨_, _, _, _, _, e3, _⟩ := h; exact e3.seq a4) ?_ ?_
      · rw [hW]
        exact ⟨kvs, _, d2, led.weak (fun e o s => .inl s) (fun e o s => by
          rcases s with s | ⟨_, s⟩
          · exact s
          · rw [List.take_zero] at s; cases s), by omega, e2, rfl⟩
      · intro k v σ H3 hk h
        rw [hW] at h
        obtain ⟨kv3, z3, d3, led3, lk3, e3, rfl⟩ := h
        rw [List.getElem?_map] at hk
        obtain ⟨o, ho, rfl⟩ := Option.map_eq_some_iff.mp hk
        have lk' : k < en.1.length := (List.getElem?_eq_some_iff.mp ho).1
        have et : en.1.take (k + 1) = en.1.take k ++ [o] := by
          rw [List.take_add_one, ho]
          rfl
        have up : ∀ e o', ((e < i ∧ Led L Fl j e o') ∨ (e = i ∧ o' ∈ en.1.take k)) → ((e < i ∧ Led L Fl j e o') ∨ (e = i ∧ o' ∈ en.1.take (k + 1))) := fun e o' s => by
          rcases s with s | ⟨s1, s2⟩
          · exact .inl s
          · exact .inr ⟨s1, by rw [et]; exact List.mem_append_left _ s2⟩
        have dn : ∀ e o', ((e < i ∧ Led L Fl j e o') ∨ (e = i ∧ o' ∈ en.1.take (k + 1))) → ((e < i ∧ Led L Fl j e o') ∨ (e = i ∧ o' ∈ en.1.take k)) ∨ o' = o := fun e o' s => by
          rcases s with s | ⟨s1, s2⟩
          · exact .inl (.inl s)
          · rw [et] at s2
            rcases List.mem_append.mp s2 with s2 | s2
            · exact .inl (.inr ⟨s1, s2⟩)
            · exact .inr (List.mem_singleton.mp s2)
        have l6 := sz.l
        simp only [tDNewK, tDSetDef, iEnumL, slots, Option.getD_some, Option.getD_none, tSeq, tAsg, gName, tOp, tC, tVar, tCons, tNil, rI0, tRet, tIfS, tTest, tDrop, tNext, gTup, gCons, gNil, rIxL, rIxT, Kd_non, Kd_bl, Kd_int, Kd_str, decide_true, decide_false, tFor_eq, iList, L2.start, cxK, Int.reduceToNat, List.map_cons, List.map_nil, List.length_cons, List.length_nil, Nat.reduceAdd, Nat.reduceSub, Nat.zero_add, List.replicate_succ, List.replicate_zero, List.cons_append, List.nil_append, List.append_nil, List.getElem?_cons_zero, List.getElem?_cons_succ, List.set_cons_zero, List.set_cons_succ, Option.some.injEq, V.int.injEq, V.bl.injEq, V.ref.injEq, V.str.injEq, V.ty.injEq, List.cons.injEq, exists_eq_left', exists_eq_left, exists_eq_right, exists_and_left, exists_and_right, and_true, true_and, and_assoc, exists_const, decide_eq_true_eq, Bool.not_eq_true', Bool.not_true, Bool.not_false, Bool.not_not, decide_eq_false_iff_not, ite_not, Bool.false_eq_true, if_true, if_false, reduceCtorEq, and_false, false_and, exists_false, or_false, false_or, ↓reduceIte, eq_self, reduceIte]
        refine ⟨.inl ⟨_, .inl d3⟩, kv3, d3, .inl (o : Int), rfl, Nat.lt_of_lt_of_le (m := 5000) (by omega) (by decide), fun v hv => ?_, fun hn => ?_⟩
        · rw [hW]
          exact ⟨kv3, _, d3, led3.stay hv up dn, by omega, e3, rfl⟩
        · rw [hW]
          refine ⟨_, _, upd_same, led3.put hn up (.inr ⟨rfl, by rw [et]; exact List.mem_append_right _ (List.mem_singleton.mpr rfl)⟩) dn, ?_, same_upd e3 hp _, rfl⟩
          have := length_putK kv3 (.inl (o : Int)) (.int (i : Int))
          omega
      · intro σ H3 h
        rw [hW] at h
        obtain ⟨kv3, z3, d3, led3, lk3, e3, rfl⟩ := h
        rw [List.length_map, List.take_of_length_le (Nat.le_refl _)] at led3
        rw [List.length_map] at lk3
        rw [hP]
        refine ⟨kv3, _, _, _, d3, led3.weak (fun e o s => ?_) (fun e o s => ?_), by omega, e3, rfl⟩
        · rcases s with s | ⟨rfl, s⟩
          · exact ⟨by omega, s.2⟩
          · exact ⟨by omega, li, by rw [efl]; exact hpos, by rw [epl]; exact s⟩
        · by_cases z : e < i
          · exact .inl ⟨z, s.2⟩
          · have ee : e = i := by omega
            subst ee
            exact .inr ⟨rfl, by rw [← epl]; exact s.2.2.2⟩
    · rw [if_neg hpos, hP]
      refine ⟨kvs, _, _, _, d2, led.weak (fun e o s => ⟨by omega, s.2⟩) (fun e o s => ⟨?_, s.2⟩), by omega, e2, rfl⟩
      by_cases z : e < i
      · exact z
      · have ee : e = i := by omega
        subst ee
        have := s.2.2.1
        rw [efl] at this
        exact absurd this hpos
  · intro σ H' h
    rw [hP] at h
    obtain ⟨kvs, x, y, z, d, led, lk, e, rfl⟩ := h
    simp only [tDNewK, tDSetDef, iEnumL, slots, Option.getD_some, Option.getD_none, tSeq, tAsg, gName, tOp, tC, tVar, tCons, tNil, rI0, tRet, tIfS, tTest, tDrop, tNext, gTup, gCons, gNil, rIxL, rIxT, Kd_non, Kd_bl, Kd_int, Kd_str, decide_true, decide_false, tFor_eq, iList, L2.start, cxK, Int.reduceToNat, List.map_cons, List.map_nil, List.length_cons, List.length_nil, Nat.reduceAdd, Nat.reduceSub, Nat.zero_add, List.replicate_succ, List.replicate_zero, List.cons_append, List.nil_append, List.append_nil, List.getElem?_cons_zero, List.getElem?_cons_succ, List.set_cons_zero, List.set_cons_succ, Option.some.injEq, V.int.injEq, V.bl.injEq, V.ref.injEq, V.str.injEq, V.ty.injEq, List.cons.injEq, exists_eq_left', exists_eq_left, exists_eq_right, exists_and_left, exists_and_right, and_true, true_and, and_assoc, exists_const, decide_eq_true_eq, Bool.not_eq_true', Bool.not_true, Bool.not_false, Bool.not_not, decide_eq_false_iff_not, ite_not, Bool.false_eq_true, if_true, if_false, reduceCtorEq, and_false, false_and, exists_false, or_false, false_or, ↓reduceIte, eq_self, reduceIte]
    refine q _ _ _ e hp d (led.weak (fun e o s => s.2) fun e o s => ⟨?_, s⟩)
    rw [List.length_map, hF.len]
    exact s.1
end

end My
namespace MyB
open My PySem L2
def top (i : Nat) : Stmt := PySem.Challenge.pw_tariffgate_k64_cuts.main.body.getD i (.Pass ⟨0, 0, 0, 0⟩)
theorem dn_reached : (("reached" : Str) == ("__debug__" : Str)) = false := by decide
theorem dc_reached : (("reached" : Str) == ("__classdict__" : Str)) = false := by decide
theorem dn_waiting : (("waiting" : Str) == ("__debug__" : Str)) = false := by decide
theorem dc_waiting : (("waiting" : Str) == ("__classdict__" : Str)) = false := by decide
theorem dn_dict : (("dict" : Str) == ("__debug__" : Str)) = false := by decide
theorem nn_dict : ("dict" : Str) ≠ "__name__" := by decide
theorem dn_list : (("list" : Str) == ("__debug__" : Str)) = false := by decide
theorem nn_list : ("list" : Str) ≠ "__name__" := by decide
theorem dn_len : (("len" : Str) == ("__debug__" : Str)) = false := by decide
theorem nn_len : ("len" : Str) ≠ "__name__" := by decide
theorem dn_led_over : (("led_over" : Str) == ("__debug__" : Str)) = false := by decide
abbrev s_reached_by : Stmt := top 2
theorem sc_reached_by : FnScope ["line", "flows", "entry", "reached", "waiting", "place", "others", "other"] ["line", "flows", "entry"] (defScope s_reached_by) := ⟨rfl, rfl, rfl, by decide +kernel, rfl, by decide +kernel, by decide +kernel⟩
theorem v_reached_by_0 : Vis (defScope s_reached_by) "line" := by first | exact Or.inl rfl | exact Or.inr (Or.inl rfl) | exact Or.inr (Or.inr rfl)
theorem v_reached_by_1 : Vis (defScope s_reached_by) "flows" := by first | exact Or.inl rfl | exact Or.inr (Or.inl rfl) | exact Or.inr (Or.inr rfl)
theorem v_reached_by_2 : Vis (defScope s_reached_by) "entry" := by first | exact Or.inl rfl | exact Or.inr (Or.inl rfl) | exact Or.inr (Or.inr rfl)
theorem v_reached_by_3 : Vis (defScope s_reached_by) "reached" := by first | exact Or.inl rfl | exact Or.inr (Or.inl rfl) | exact Or.inr (Or.inr rfl)
theorem l_reached_by_3 : Loc (defScope s_reached_by) "reached" := by first | exact Or.inl rfl | exact Or.inr rfl
theorem v_reached_by_4 : Vis (defScope s_reached_by) "waiting" := by first | exact Or.inl rfl | exact Or.inr (Or.inl rfl) | exact Or.inr (Or.inr rfl)
theorem l_reached_by_4 : Loc (defScope s_reached_by) "waiting" := by first | exact Or.inl rfl | exact Or.inr rfl
theorem v_reached_by_5 : Vis (defScope s_reached_by) "place" := by first | exact Or.inl rfl | exact Or.inr (Or.inl rfl) | exact Or.inr (Or.inr rfl)
theorem l_reached_by_5 : Loc (defScope s_reached_by) "place" := by first | exact Or.inl rfl | exact Or.inr rfl
theorem v_reached_by_6 : Vis (defScope s_reached_by) "others" := by first | exact Or.inl rfl | exact Or.inr (Or.inl rfl) | exact Or.inr (Or.inr rfl)
theorem l_reached_by_6 : Loc (defScope s_reached_by) "others" := by first | exact Or.inl rfl | exact Or.inr rfl
theorem v_reached_by_7 : Vis (defScope s_reached_by) "other" := by first | exact Or.inl rfl | exact Or.inr (Or.inl rfl) | exact Or.inr (Or.inr rfl)
theorem l_reached_by_7 : Loc (defScope s_reached_by) "other" := by first | exact Or.inl rfl | exact Or.inr rfl
theorem g_reached_by_dict : (defScope s_reached_by).names.lookup ("dict" : Str) = some .globalImplicit := by rfl
theorem g_reached_by_list : (defScope s_reached_by).names.lookup ("list" : Str) = some .globalImplicit := by rfl
theorem g_reached_by_len : (defScope s_reached_by).names.lookup ("len" : Str) = some .globalImplicit := by rfl
theorem g_reached_by_led_over : (defScope s_reached_by).names.lookup ("led_over" : Str) = some .globalImplicit := by rfl

abbrev Rc := Nat × Nat × Option Nat
def optV : Option Nat → V
  | none => .non
  | some b => .int (b : Int)
def RcAt (K : PySem.W.Frag) (H : Hp) (kvs : List (Key × V)) (R : List Rc) : Prop := Paired (fun (kv : Key × V) (x : Rc) => kv.1 = .inl (x.1 : Int) ∧ ∃ t, kv.2 = V.ref t ∧ SqT K H t [.int (x.2.1 : Int), optV x.2.2]) kvs R
theorem RcAt.same {K : PySem.W.Frag} {H H' : Hp} (e : Same H H') : ∀ {kvs : List (Key × V)} {R : List Rc}, RcAt K H kvs R → RcAt K H' kvs R
  | _, _, .nil => .nil
  | _, _, .cons ⟨a, t, b, c⟩ r => .cons ⟨a, t, b, Same.tup e c⟩ (RcAt.same e r)
theorem sqt_updO {K : PySem.W.Frag} {H : Hp} {D p : Addr} {o o' : HO} {xs : List V} (hD : H D = some o) (n1 : ∀ ys, o ≠ .tup ys) (n2 : ∀ ob ys, o ≠ .frz ob (.tup ys)) (h : SqT K H p xs) : SqT K (upd H D o') p xs := by
  rcases h with (h | ⟨ob, h⟩) | h
  · exact .inl (.inl (by rw [upd_ne (fun z => by rw [z, hD] at h; cases h; exact n1 _ rfl)]; exact h))
  · exact .inl (.inr ⟨ob, by rw [upd_ne (fun z => by rw [z, hD] at h; cases h; exact n2 _ _ rfl)]; exact h⟩)
  · exact .inr h
theorem RcAt.upd {K : PySem.W.Frag} {H : Hp} {D : Addr} {o o' : HO} (hD : H D = some o) (n1 : ∀ ys, o ≠ .tup ys) (n2 : ∀ ob ys, o ≠ .frz ob (.tup ys)) : ∀ {kvs : List (Key × V)} {R : List Rc}, RcAt K H kvs R → RcAt K (L2.upd H D o') kvs R
  | _, _, .nil => .nil
  | _, _, .cons ⟨a, t, b, c⟩ r => .cons ⟨a, t, b, sqt_updO hD n1 n2 c⟩ (RcAt.upd hD n1 n2 r)
theorem RcAt.snoc {K : PySem.W.Frag} {H : Hp} {p e : Nat} {b : Option Nat} {t : Addr} (h : SqT K H t [.int (e : Int), optV b]) : ∀ {kvs : List (Key × V)} {R : List Rc}, RcAt K H kvs R → RcAt K H (kvs ++ [(.inl (p : Int), .ref t)]) (R ++ [(p, e, b)])
  | _, _, .nil => .cons ⟨rfl, t, rfl, h⟩ .nil
  | _, _, .cons a r => .cons a (RcAt.snoc h r)
theorem RcAt.keys {K : PySem.W.Frag} {H : Hp} : ∀ {kvs : List (Key × V)} {R : List Rc}, RcAt K H kvs R → kvs.map (·.1) = R.map fun x => (Sum.inl (x.1 : Int) : Key)
  | _, _, .nil => rfl
  | _, _, .cons ⟨a, _⟩ r => by rw [List.map_cons, List.map_cons, RcAt.keys r, a]
theorem RcAt.len {K : PySem.W.Frag} {H : Hp} {kvs : List (Key × V)} {R : List Rc} (h : RcAt K H kvs R) : kvs.length = R.length := by
  have := congrArg List.length h.keys
  simpa using this
theorem RcAt.mem {K : PySem.W.Frag} {H : Hp} {kvs : List (Key × V)} {R : List Rc} (h : RcAt K H kvs R) (p : Nat) : (Sum.inl (p : Int) : Key) ∈ kvs.map (·.1) ↔ p ∈ R.map (·.1) := by
  rw [h.keys]
  constructor
  · intro z
    obtain ⟨x, hx, e⟩ := List.mem_map.mp z
    have : x.1 = p := by
      have := Sum.inl.inj e
      omega
    exact List.mem_map.mpr ⟨x, hx, this⟩
  · intro z
    obtain ⟨x, hx, e⟩ := List.mem_map.mp z
    exact List.mem_map.mpr ⟨x, hx, by rw [e]⟩
theorem putK_new {kvs : List (Key × V)} {k : Key} {v : V} (h : valV kvs k = none) : putK kvs k v = kvs ++ [(k, v)] := by
  unfold putK
  rw [if_neg]
  intro z
  obtain ⟨kv, a, b⟩ := List.any_eq_true.mp z
  exact valV_not h (List.mem_map.mpr ⟨kv, a, of_decide_eq_true b⟩)
theorem fold_put : ∀ (kvs q : List (Key × V)), (q.map (·.1) ++ kvs.map (·.1)).Nodup → kvs.foldl (fun q kv => putK q kv.1 kv.2) q = q ++ kvs
  | [], q, _ => by simp
  | kv :: kvs, q, h => by
    have hn : valV q kv.1 = none := by
      cases hv : valV q kv.1 with
      | none => rfl
      | some v =>
        have m1 := valV_in hv
        rw [List.map_cons, List.nodup_append] at h
        exact absurd rfl (h.2.2 _ m1 _ List.mem_cons_self)
    rw [List.foldl_cons, putK_new hn, fold_put kvs (q ++ [(kv.1, kv.2)]) (by
      rw [List.map_append, List.append_assoc]
      exact h)]
    simp
theorem dictP_nd {kvs : List (Key × V)} (h : (kvs.map (·.1)).Nodup) : dictP kvs = kvs := by
  unfold dictP
  rw [fold_put kvs [] (by simpa using h)]
  rfl
theorem nd_inl : ∀ {l : List Nat}, l.Nodup → (l.map fun p : Nat => (Sum.inl (p : Int) : Key)).Nodup
  | [], _ => List.nodup_nil
  | a :: l, h => by
    rw [List.map_cons, List.nodup_cons] at *
    refine ⟨fun z => ?_, nd_inl h.2⟩
    obtain ⟨b, hb, e⟩ := List.mem_map.mp z
    have : b = a := by
      have := Sum.inl.inj e
      omega
    exact h.1 (this ▸ hb)
theorem nd_len : ∀ (m : Nat) (l : List Nat), l.Nodup → (∀ x ∈ l, x < m) → l.length ≤ m
  | 0, [], _, _ => Nat.le_refl _
  | 0, x :: l, _, h => absurd (h x List.mem_cons_self) (Nat.not_lt_zero _)
  | m + 1, l, nd, h => by
    by_cases hm : m ∈ l
    · have := nd_len m (l.erase m) (nd.erase _) fun x hx => by
        have h1 := (nd.mem_erase_iff.mp hx)
        have := h x h1.2
        have := h1.1
        omega
      rw [List.length_erase_of_mem hm] at this
      omega
    · have := nd_len m l nd fun x hx => by
        have h1 := h x hx
        have : x ≠ m := fun e => hm (e ▸ hx)
        omega
      omega
theorem valV_at : ∀ {kvs : List (Key × V)} {i : Nat} {k : Key} {v : V}, (kvs.map (·.1)).Nodup → kvs[i]? = some (k, v) → valV kvs k = some v
  | [], _, _, _, _, h => by cases h
  | kv :: kvs, 0, _, _, _, h => by
    cases h
    exact valV_pos rfl
  | kv :: kvs, i + 1, k, v, nd, h => by
    rw [List.map_cons, List.nodup_cons] at nd
    rw [List.getElem?_cons_succ] at h
    have ih := valV_at nd.2 h
    have ne : ¬ kv.1 = k := fun e => nd.1 (by rw [e]; exact valV_in ih)
    unfold valV
    rw [List.find?_cons_of_neg (by simpa using ne)]
    exact ih
theorem valV_ix : ∀ {kvs : List (Key × V)} {k : Key} {v : V}, valV kvs k = some v → ∃ i : Nat, kvs[i]? = some (k, v)
  | [], _, _, h => by cases h
  | kv :: kvs, k, v, h => by
    by_cases e : kv.1 = k
    · rw [valV_pos e] at h
      cases h
      exact ⟨0, by rw [← e]; rfl⟩
    · unfold valV at h
      rw [List.find?_cons_of_neg (by simpa using e)] at h
      obtain ⟨i, hi⟩ := valV_ix h
      exact ⟨i + 1, by rw [List.getElem?_cons_succ]; exact hi⟩
structure Way (L : List En) (F : List (List Int)) (e0 : Nat) (R : List Rc) : Prop where
  nd : (R.map (·.1)).Nodup
  ok : ∀ (i : Nat) (x : Rc), R[i]? = some x → (x.2.2 = none ∧ x.2.1 = e0 ∧ x.1 ∈ pl L e0) ∨ ∃ b, x.2.2 = some b ∧ b ∈ (R.take i).map (·.1) ∧ Led L F b x.2.1 x.1
theorem Way.snoc {L : List En} {F : List (List Int)} {e0 p e b : Nat} {R : List Rc} (h : Way L F e0 R) (hp : p ∉ R.map (·.1)) (hb : b ∈ R.map (·.1)) (hl : Led L F b e p) : Way L F e0 (R ++ [(p, e, some b)]) := by
  refine ⟨?_, fun i x hx => ?_⟩
  · rw [List.map_append]
    exact nd_snoc h.nd hp
  · by_cases hi : i < R.length
    · rw [List.getElem?_append_left hi] at hx
      rcases h.ok i x hx with z | ⟨b', z1, z2, z3⟩
      · exact .inl z
      · exact .inr ⟨b', z1, by rw [List.take_append_of_le_length (by omega)]; exact z2, z3⟩
    · rw [List.getElem?_append_right (by omega)] at hx
      have hi2 : i - R.length = 0 := by
        by_cases z : i - R.length = 0
        · exact z
        · rw [List.getElem?_eq_none (by simp; omega)] at hx
          cases hx
      rw [hi2] at hx
      cases hx
      refine .inr ⟨b, rfl, ?_, hl⟩
      rw [show i = R.length by omega, List.take_left]
      exact hb
structure Reach (L : List En) (F : List (List Int)) (e0 : Nat) (R : List Rc) : Prop where
  way : Way L F e0 R
  base : ∀ p ∈ pl L e0, p ∈ R.map (·.1)
  shut : ∀ p ∈ R.map (·.1), ∀ e o, Led L F p e o → o ∈ R.map (·.1)
theorem led_lt {m : Nat} {L : List En} {F : List (List Int)} {j e o : Nat} (sz : Siz m L F) (h : Led L F j e o) : o < m := by
  obtain ⟨h1, _, h3⟩ := h
  have h4 : e < L.length := Nat.lt_of_lt_of_le h1 sz.fl
  unfold pl at h3
  rw [show L.getD e ([], 0) = L[e] by simp [List.getD, h4]] at h3
  exact (sz.pl _ (List.getElem_mem h4)).2 o h3
def spRch (K : PySem.W.Frag) : Sp := fun vs H Q _ => ∃ (l g : Addr) (e0 m : Nat) (L : List En) (rs : List Addr) (F : List (List Int)), vs = [.ref l, .ref g, .int e0] ∧ LnAt K H l L ∧ FlAt H g rs F ∧ Siz m L F ∧ e0 < L.length ∧
  ∀ (D : Addr) (kvs : List (Key × V)) (R : List Rc) (H' : Hp), Same H H' → H D = none → H' D = some (.dK kvs) → RcAt K H' kvs R → Reach L F e0 R → (∀ p ∈ R.map (·.1), p < m) → Q (.ref D) H'
section
variable {P : Program} {w : World} {K : PySem.W.Frag} {mg : Str → Option Value} {base : Heap} {f : Addr} {fd : FuncData}
theorem ok_reached_by (F : Fun K "reached_by" "reached_by" s_reached_by f fd) (M : Mg mg) (m_dict : mg "dict" = none) (C_led_over : Cal P w K mg base CX0 "led_over" 1 ["line", "flows", "place"] (spLed K)) : FnOk P w K mg base CX0 2 f fd ["line", "flows", "entry"] (spRch K) := by
  refine F.ok sc_reached_by (fun vs H Q E h => ?_) (fun cdv A outer s H vs Q E hr h => ?_)
  · obtain ⟨l, g, e0, m, L, rs, F', rfl, _⟩ := h
    rfl
  obtain ⟨l, g, e0, m, L, rs, Fl, rfl, hL, hF, sz, he0, q⟩ := h
  refine ⟨_, (@pss_cons _ _ _ _ _ (@ps_set _ _ 3 _ _ _ _ sc_reached_by.nd rfl l_reached_by_3 (@pe_callTy _ _ _ _ _ _ _ _ _ (call_dictP rfl) g_reached_by_dict m_dict b_dict (@pa_cons _ _ _ _ _ (@pe_comp _ _ _ _ _ _ _ _ _ _ _ _ _ _ _ rfl (CompOk.make (N' := ["entry", "place"]) (ix := [2]) (nl := 1) (by rfl) (fm1 rfl fm0) (by rfl) (by decide +kernel) rfl (by decide +kernel) rfl (And.intro ⟨rfl, .inl rfl, .inl rfl⟩ True.intro)) (@pi_list _ _ _ _ (@pe_ix _ _ _ _ _ _ _ (@ix_tup _) (@pe_ix _ _ _ _ _ _ _ (@ix_list _) (@pe_var _ 0 _ _ rfl v_reached_by_0 dn_line dc_line) (@pe_var _ 2 _ _ rfl v_reached_by_2 dn_entry dc_entry) (fun _ _ => rfl)) (@pe_int _ _ _ _) (fun _ _ => rfl))) (fun _ _ _ _ _ => (@pg_name _ _ 1 _ (show List.Nodup (["entry", "place"] : List Str) from by decide) rfl (Or.inl rfl) (by first | exact .inl rfl | exact .inr rfl | assumption))) (fun _ _ _ _ _ => (@pif_nil _)) (fun _ _ _ _ _ => (@pe_tup _ _ _ _ _ (@pa_cons _ _ _ _ _ (@pv _ 1 _ _ (by rfl) (by first | exact Or.inl rfl | exact Or.inr (Or.inl rfl) | exact Or.inr (Or.inr rfl)) (by decide) (by decide)) (@pa_cons _ _ _ _ _ (@pe_tup _ _ _ _ _ (@pa_cons _ _ _ _ _ (@pv _ 0 _ _ (by rfl) (by first | exact Or.inl rfl | exact Or.inr (Or.inl rfl) | exact Or.inr (Or.inr rfl)) (by decide) (by decide)) (@pa_cons _ _ _ _ _ (@pe_non _ _ _) (@pa_nil _) (star1 rfl)) (star1 rfl))) (@pa_nil _) (star1 rfl)) (star1 rfl)))) (by intro _; rfl)) (@pa_nil _) (star1 rfl)) nn_dict dn_dict (star1 rfl) nost0) (swap1 rfl) (.inl rfl)) (@pss_cons _ _ _ _ _ (@ps_set _ _ 4 _ _ _ _ sc_reached_by.nd rfl l_reached_by_4 (@pe_callTy _ _ _ _ _ _ _ _ _ (call_listDK rfl) g_reached_by_list M.m_list b_list (@pa_cons _ _ _ _ _ (@pe_var _ 3 _ _ rfl v_reached_by_3 dn_reached dc_reached) (@pa_nil _) (star1 rfl)) nn_list dn_list (star1 rfl) nost0) (swap1 rfl) (.inl rfl)) (@pss_cons _ _ _ _ _ (@ps_while _ _ _ _ _ _ PassesOwn.never (@pt_cmpR _ _ _ _ _ _ _ _ (@op_gt _) (@pe_callB _ _ _ _ _ _ _ _ _ call_len_seq g_reached_by_len M.m_len b_len (@pa_cons _ _ _ _ _ (@pe_var _ 4 _ _ rfl v_reached_by_4 dn_waiting dc_waiting) (@pa_nil _) (star1 rfl)) nn_len dn_len (star1 rfl) nost0) (@pe_int _ _ _ _) (nomark _)) (@pss_cons _ _ _ _ _ (@ps_set _ _ 5 _ _ _ _ sc_reached_by.nd rfl l_reached_by_5 (@pe_bm _ _ _ _ _ _ _ _ _ _ _ _ PySem.F.plainAttrs_list PySem.F.slot_list_pop PySem.F.type_list_pop mt_popAt (@pe_var _ 4 _ _ rfl v_reached_by_4 dn_waiting dc_waiting) (@pa_cons _ _ _ _ _ (@pe_int _ _ _ _) (@pa_nil _) (star1 rfl)) (by rfl) (by rfl) (by rfl) (by rfl) (by rfl)) (swap1 rfl) (.inl rfl)) (@pss_cons _ _ _ _ _ (@ps_set _ _ 6 _ _ _ _ sc_reached_by.nd rfl l_reached_by_6 (@pe_callC _ _ _ _ _ _ _ _ _ _ _ C_led_over hr g_reached_by_led_over (@pa_cons _ _ _ _ _ (@pe_var _ 0 _ _ rfl v_reached_by_0 dn_line dc_line) (@pa_cons _ _ _ _ _ (@pe_var _ 1 _ _ rfl v_reached_by_1 dn_flows dc_flows) (@pa_cons _ _ _ _ _ (@pe_var _ 5 _ _ rfl v_reached_by_5 dn_place dc_place) (@pa_nil _) (star1 rfl)) (star1 rfl)) (star1 rfl)) (by decide) dn_led_over (star1 rfl) (nost1 rfl (nost1 rfl nost0))) (swap1 rfl) (.inl rfl)) (@pss_one _ _ _ (@ps_for _ _ _ _ _ _ _ _ PassesOwn.never rfl (@pi_dictK _ _ _ _ (@pe_var _ 6 _ _ rfl v_reached_by_6 dn_others dc_others)) (@pg_name _ _ 7 _ sc_reached_by.nd rfl l_reached_by_7 (.inl rfl)) (@pss_one _ _ _ (@ps_if _ _ _ _ _ _ _ _ (pt_cmp (@pc_dnotin _ _ _ _ _ (hu_of hr) (@pe_var _ 7 _ _ rfl v_reached_by_7 dn_other dc_other) (@pe_var _ 3 _ _ rfl v_reached_by_3 dn_reached dc_reached)) (by rfl)) (@pss_cons _ _ _ _ _ (@ps_dput _ _ _ _ _ _ _ _ _ (hu_of hr) (@pe_var _ 3 _ _ rfl v_reached_by_3 dn_reached dc_reached) (@pe_var _ 7 _ _ rfl v_reached_by_7 dn_other dc_other) (@pe_tup _ _ _ _ _ (@pa_cons _ _ _ _ _ (@pe_dget _ _ _ _ _ _ (hu_of hr) (@pe_var _ 6 _ _ rfl v_reached_by_6 dn_others dc_others) (@pe_var _ 7 _ _ rfl v_reached_by_7 dn_other dc_other) (fun _ _ => rfl)) (@pa_cons _ _ _ _ _ (@pe_var _ 5 _ _ rfl v_reached_by_5 dn_place dc_place) (@pa_nil _) (star1 rfl)) (star1 rfl))) (swap1 rfl)) (@pss_one _ _ _ (@ps_expr _ _ _ _ (@pe_bm _ _ _ _ _ _ _ _ _ _ _ _ PySem.F.plainAttrs_list PySem.F.slot_list_append PySem.F.type_list_append mt_append (@pe_var _ 4 _ _ rfl v_reached_by_4 dn_waiting dc_waiting) (@pa_cons _ _ _ _ _ (@pe_var _ 7 _ _ rfl v_reached_by_7 dn_other dc_other) (@pa_nil _) (star1 rfl)) (by rfl) (by rfl) (by rfl) (by rfl) (by rfl)) (swap1 rfl)))) (@pss_nil _))) (by intro _; rfl)))))) (@pss_one _ _ _ (@ps_ret _ _ _ _ (@pe_var _ 3 _ _ rfl v_reached_by_3 dn_reached dc_reached)))))), ?_⟩
  simp only [tDNotIn, sDPut, tDGet, iDictK, rPopAt, tComp_eq, tComp1, slots, Option.getD_some, Option.getD_none, tYes, tSeq, tAsg, gName, tOp, tC, tVar, tCB, tCons, tNil, tCall, rI0, tRet, tIfS, tTest, tB, tDrop, tTup, tNext, tBM, rAppend, rIxL, rIxT, Kd_non, Kd_bl, Kd_int, Kd_str, decide_true, decide_false, tFor_eq, iList, L2.start, cxK, Int.reduceToNat, List.map_cons, List.map_nil, List.length_cons, List.length_nil, Nat.reduceAdd, Nat.reduceSub, Nat.zero_add, List.replicate_succ, List.replicate_zero, List.cons_append, List.nil_append, List.append_nil, List.getElem?_cons_zero, List.getElem?_cons_succ, List.set_cons_zero, List.set_cons_succ, Option.some.injEq, V.int.injEq, V.bl.injEq, V.ref.injEq, V.str.injEq, V.ty.injEq, List.cons.injEq, exists_eq_left', exists_eq_left, exists_eq_right, exists_and_left, exists_and_right, and_true, true_and, and_assoc, exists_const, decide_eq_true_eq, Bool.not_eq_true', Bool.not_true, Bool.not_false, Bool.not_not, decide_eq_false_iff_not, ite_not, Bool.false_eq_true, if_true, if_false, reduceCtorEq, and_false, false_and, exists_false, or_false, false_or, ↓reduceIte, eq_self, reduceIte]
  obtain ⟨en, hen⟩ : ∃ en, L[e0]? = some en := ⟨_, List.getElem?_eq_getElem he0⟩
  have epl : pl L e0 = en.1 := by
    unfold pl
    rw [show L.getD e0 ([], 0) = en by simp [List.getD, hen]]
  obtain ⟨us, t, q', a1, a2, a3, a4⟩ := hL.get hen
  have men : en ∈ L := List.mem_iff_getElem?.mpr ⟨_, hen⟩
  obtain ⟨len1, len2⟩ := sz.pl en men
  have lnd := sz.nd en men
  refine ⟨us, a1, _, atI_nat a2, t, rfl, _, a3, _, rfl, q', rfl, ⟨_, a4⟩, fun D hD => ?_⟩
  obtain ⟨Pc, hC⟩ : ∃ Pc : Nat → St → Hp → Prop, Pc = fun i τ H2 => ∃ (as : List Addr) (kvs : List (Key × V)) (z : Option V), H2 D = some (.lst (as.map V.ref)) ∧ as.length = kvs.length ∧ (∀ (j : Nat) (a : Addr) (kv : Key × V), as[j]? = some a → kvs[j]? = some kv → SqT K H2 a [kV kv.1, kv.2]) ∧ RcAt K H2 kvs ((en.1.take i).map fun p => (p, e0, none)) ∧ Same H H2 ∧ τ = [some (.int (e0 : Int)), z] := ⟨_, rfl⟩
  refine compS_list (K := K) (en.1.map fun j : Nat => V.int (j : Int)) Pc ?_ (fun k σ H3 _ h => by rw [hC] at h; obtain ⟨_, _, _, _, _, _, _, e3, _⟩ := h; exact e3.seq a4) ?_ ?_
  · rw [hC]
    exact ⟨[], [], _, upd_same, rfl, (fun j a kv z => by cases z), .nil, same_new hD _, rfl⟩
  · intro i v τ H2 R' hi h next
    rw [hC] at h
    obtain ⟨as, kvs, z, d2, la, ta, ra, e2, rfl⟩ := h
    rw [List.getElem?_map] at hi
    obtain ⟨o, ho, rfl⟩ := Option.map_eq_some_iff.mp hi
    have et : en.1.take (i + 1) = en.1.take i ++ [o] := by
      rw [List.take_add_one, ho]
      rfl
    have li : i < en.1.length := (List.getElem?_eq_some_iff.mp ho).1
    have lk : kvs.length ≤ i := by
      rw [ra.len, List.length_map, List.length_take]
      omega
    simp only [tDNotIn, sDPut, tDGet, iDictK, rPopAt, tComp_eq, tComp1, slots, Option.getD_some, Option.getD_none, tYes, tSeq, tAsg, gName, tOp, tC, tVar, tCB, tCons, tNil, tCall, rI0, tRet, tIfS, tTest, tB, tDrop, tTup, tNext, tBM, rAppend, rIxL, rIxT, Kd_non, Kd_bl, Kd_int, Kd_str, decide_true, decide_false, tFor_eq, iList, L2.start, cxK, Int.reduceToNat, List.map_cons, List.map_nil, List.length_cons, List.length_nil, Nat.reduceAdd, Nat.reduceSub, Nat.zero_add, List.replicate_succ, List.replicate_zero, List.cons_append, List.nil_append, List.append_nil, List.getElem?_cons_zero, List.getElem?_cons_succ, List.set_cons_zero, List.set_cons_succ, Option.some.injEq, V.int.injEq, V.bl.injEq, V.ref.injEq, V.str.injEq, V.ty.injEq, List.cons.injEq, exists_eq_left', exists_eq_left, exists_eq_right, exists_and_left, exists_and_right, and_true, true_and, and_assoc, exists_const, decide_eq_true_eq, Bool.not_eq_true', Bool.not_true, Bool.not_false, Bool.not_not, decide_eq_false_iff_not, ite_not, Bool.false_eq_true, if_true, if_false, reduceCtorEq, and_false, false_and, exists_false, or_false, false_or, ↓reduceIte, eq_self, reduceIte]
    refine ⟨by decide, fun p hp => ⟨by decide, fun p1 hp1 => ?_⟩⟩
    obtain ⟨H3, g3, S3, T3⟩ := fresh_tup (K := K) hp [V.int (e0 : Int), V.non]
    rw [← g3] at hp1 ⊢
    clear g3
    obtain ⟨H4, g4, S4, T4⟩ := fresh_tup (K := K) hp1 [V.int (o : Int), V.ref p]
    rw [← g4]
    clear g4
    have S34 := S3.trans S4
    have d4 := S34 _ _ d2
    refine ⟨_, d4, Nat.lt_of_lt_of_le (m := 1000) (by rw [List.length_map]; omega) (by decide), next _ _ ?_⟩
    rw [hC]
    refine ⟨as ++ [p1], kvs ++ [(.inl (o : Int), .ref p)], _, by rw [upd_same, List.map_append]; rfl, by simp [la], fun j a kv ha hk => ?_, ?_, same_upd (e2.trans S34) hD _, rfl⟩
    · by_cases hj : j < as.length
      · rw [List.getElem?_append_left hj] at ha
        rw [List.getElem?_append_left (by omega)] at hk
        exact sqt_updO d4 (fun ys z => by cases z) (fun _ _ z => by cases z) (Same.tup S34 (ta j a kv ha hk))
      · have hj2 : j < (as ++ [p1]).length := (List.getElem?_eq_some_iff.mp ha).1
        rw [List.length_append, List.length_singleton] at hj2
        have ej : j = as.length := by omega
        subst ej
        rw [List.getElem?_append_right (Nat.le_refl _), Nat.sub_self] at ha
        rw [la, List.getElem?_append_right (Nat.le_refl _), Nat.sub_self] at hk
        cases ha
        cases hk
        exact sqt_updO d4 (fun ys z => by cases z) (fun _ _ z => by cases z) T4
    · rw [et, List.map_append]
      exact RcAt.snoc (b := none) (sqt_updO d4 (fun ys z => by cases z) (fun _ _ z => by cases z) (Same.tup S4 T3)) (RcAt.upd d4 (fun ys z => by cases z) (fun _ _ z => by cases z) (ra.same S34))
  · intro τ H2 h
    rw [hC] at h
    obtain ⟨as, kvs, z, d2, la, ta, ra, e2, rfl⟩ := h
    rw [List.length_map, List.take_of_length_le (Nat.le_refl _)] at ra
    refine ⟨D, rfl, as, SqL.of d2, kvs, la, ta, fun d hd => ?_⟩
    rw [dictP_nd (by rw [ra.keys, List.map_map]; exact nd_inl lnd)]
    have hdH : H d = none := e2.free hd
    refine ⟨kvs, .inl upd_same, fun w hw => ?_⟩
    have wd : w ≠ d := fun z => by rw [z, upd_same] at hw; cases hw
    have hw2 : H2 w = none := by rw [upd_ne wd] at hw; exact hw
    have hwH : H w = none := e2.free hw2
    have R0p : ((en.1.map fun p => ((p, e0, none) : Rc)).map (·.1)) = en.1 := by rw [List.map_map]; exact List.map_id _
    obtain ⟨IV, hIV⟩ : ∃ IV : Nat → St → Hp → Prop, IV = fun M σ H' => ∃ (kvs : List (Key × V)) (R : List Rc) (W : List Nat) (x y z : Option V), H' d = some (.dK kvs) ∧ H' w = some (.lst (W.map fun p : Nat => V.int (p : Int))) ∧ RcAt K H' kvs R ∧ Way L Fl e0 R ∧ (∀ p ∈ pl L e0, p ∈ R.map (·.1)) ∧ (∀ p ∈ W, p ∈ R.map (·.1)) ∧ (∀ p ∈ R.map (·.1), p ∈ W ∨ ∀ e o, Led L Fl p e o → o ∈ R.map (·.1)) ∧ (∀ p ∈ R.map (·.1), p < m) ∧ M + 2 * R.length = 2 * m + W.length ∧ W.length ≤ R.length ∧ Same H H' ∧ σ = [some (.ref l), some (.ref g), some (.int (e0 : Int)), some (.ref d), some (.ref w), x, y, z] := ⟨_, rfl⟩
    refine ⟨IV, ⟨2 * m + en.1.length - 2 * en.1.length, ?_⟩, ?_⟩
    · rw [hIV]
      refine ⟨kvs, en.1.map fun p => (p, e0, none), en.1, _, _, _, by rw [upd_ne (Ne.symm wd), upd_same], ?_, RcAt.same ((same_new hd _).trans (same_new hw _)) ra, ⟨by rw [R0p]; exact lnd, fun i x hx => ?_⟩, fun p hp => by rw [R0p, ← epl]; exact hp, fun p hp => by rw [R0p]; exact hp, fun p hp => .inl (by rw [R0p] at hp; exact hp), fun p hp => len2 p (by rw [R0p] at hp; exact hp), ?_, by rw [List.length_map]; exact Nat.le_refl _, (e2.trans (same_new hd _)).trans (same_new hw _), rfl⟩
      · rw [upd_same]
        have := congrArg (List.map kV) ra.keys
        rw [List.map_map, List.map_map, List.map_map] at this
        exact congrArg (fun z => some (HO.lst z)) this
      · rw [List.getElem?_map] at hx
        obtain ⟨p, hp, rfl⟩ := Option.map_eq_some_iff.mp hx
        exact .inl ⟨rfl, rfl, by rw [epl]; exact List.mem_iff_getElem?.mpr ⟨_, hp⟩⟩
      · have := nd_len m en.1 lnd len2
        rw [List.length_map]
        omega
    intro M' σ H3 h3
    rw [hIV] at h3
    obtain ⟨kv3, R, W, x, y, z, d3, w3, r3, way, bs, wi, sh, lt, hM, wr, e3, rfl⟩ := h3
    simp only [tDNotIn, sDPut, tDGet, iDictK, rPopAt, tComp_eq, tComp1, slots, Option.getD_some, Option.getD_none, tYes, tSeq, tAsg, gName, tOp, tC, tVar, tCB, tCons, tNil, tCall, rI0, tRet, tIfS, tTest, tB, tDrop, tTup, tNext, tBM, rAppend, rIxL, rIxT, Kd_non, Kd_bl, Kd_int, Kd_str, decide_true, decide_false, tFor_eq, iList, L2.start, cxK, Int.reduceToNat, List.map_cons, List.map_nil, List.length_cons, List.length_nil, Nat.reduceAdd, Nat.reduceSub, Nat.zero_add, List.replicate_succ, List.replicate_zero, List.cons_append, List.nil_append, List.append_nil, List.getElem?_cons_zero, List.getElem?_cons_succ, List.set_cons_zero, List.set_cons_succ, Option.some.injEq, V.int.injEq, V.bl.injEq, V.ref.injEq, V.str.injEq, V.ty.injEq, List.cons.injEq, exists_eq_left', exists_eq_left, exists_eq_right, exists_and_left, exists_and_right, and_true, true_and, and_assoc, exists_const, decide_eq_true_eq, Bool.not_eq_true', Bool.not_true, Bool.not_false, Bool.not_not, decide_eq_false_iff_not, ite_not, Bool.false_eq_true, if_true, if_false, reduceCtorEq, and_false, false_and, exists_false, or_false, false_or, ↓reduceIte, eq_self, reduceIte]
    refine ⟨_, .inl (SqL.of w3), ?_⟩
    cases W with
    | nil =>
      rw [if_neg (by simp)]
      exact q d kv3 R H3 e3 hdH d3 r3 ⟨way, bs, fun p hp => (sh p hp).resolve_left (fun z => by cases z)⟩ lt
    | cons p W =>
      rw [if_pos (by simp)]
      refine ⟨fun σ' H' => ∃ m', m' < M' ∧ IV m' σ' H', fun _ _ h => h, .inl ⟨rfl, _, SqL.of w3⟩, _, w3, by decide, by decide, 0, by rw [List.length_map]; exact seqIndex_of (by decide) (by simp), _, rfl, ?_⟩
      have pR := wi p List.mem_cons_self
      have e4 : Same H (upd H3 w (.lst (W.map fun p : Nat => V.int (p : Int)))) := same_upd e3 hwH _
      refine ⟨l, g, p, m, L, rs, Fl, rfl, hL.same e4, hF.same e4, sz, lt p pR, fun D2 kl H5 e5 hD2 dD2 led => ⟨D2, rfl, kl, .inl dD2, fun ob H6 h6 oth => ?_⟩⟩
      have s46 : Same (upd H3 w (.lst (W.map fun p : Nat => V.int (p : Int)))) H6 := fun b u hb => by
        rw [oth b (ne_of_none hb hD2)]
        exact e5 b u hb
      have hD2H : H D2 = none := e4.free hD2
      have dD : d ≠ D2 := ne_of_none (show upd H3 w (.lst (W.map fun p : Nat => V.int (p : Int))) d = some (.dK kv3) by rw [upd_ne (Ne.symm wd)]; exact d3) hD2
      have wD : w ≠ D2 := ne_of_none (show upd H3 w (.lst (W.map fun p : Nat => V.int (p : Int))) w = some (.lst (W.map fun p : Nat => V.int (p : Int))) from upd_same) hD2
      obtain ⟨Pw, hW⟩ : ∃ Pw : Nat → St → Hp → Prop, Pw = fun i σ H7 => ∃ (kvs : List (Key × V)) (R : List Rc) (W : List Nat) (z : Option V) (N : Nat), H7 d = some (.dK kvs) ∧ H7 w = some (.lst (W.map fun p : Nat => V.int (p : Int))) ∧ RcAt K H7 kvs R ∧ Way L Fl e0 R ∧ (∀ q ∈ pl L e0, q ∈ R.map (·.1)) ∧ (∀ q ∈ W, q ∈ R.map (·.1)) ∧ (∀ q ∈ R.map (·.1), q ∈ W ∨ q = p ∨ ∀ e o, Led L Fl q e o → o ∈ R.map (·.1)) ∧ (∀ (k o : Nat) (v : V), k < i → kl[k]? = some (.inl (o : Int), v) → o ∈ R.map (·.1)) ∧ (∀ q ∈ R.map (·.1), q < m) ∧ p ∈ R.map (·.1) ∧ N < M' ∧ N + 2 * R.length = 2 * m + W.length ∧ W.length ≤ R.length ∧ H7 D2 = some (.frz ob (.dK kl)) ∧ Same H H7 ∧ σ = [some (.ref l), some (.ref g), some (.int (e0 : Int)), some (.ref d), some (.ref w), some (.int (p : Int)), some (.ref D2), z] := ⟨_, rfl⟩
      refine forW_dictK kl Pw ?_ (fun i σ H7 _ h => by rw [hW] at h; obtain ⟨_, _, _, _, _, _, _, _, _, _, _, _, _, _, _, _, _, _, z, _⟩ := h; exact z) ?_ ?_
      · rw [hW]
        refine ⟨kv3, R, W, _, M' - 1, s46 _ _ (by rw [upd_ne (Ne.symm wd)]; exact d3), s46 _ _ upd_same, RcAt.same s46 (RcAt.upd w3 (fun ys z => by cases z) (fun _ _ z => by cases z) r3), way, bs, fun q hq => wi q (List.mem_cons_of_mem _ hq), fun q hq => ?_, fun k o v z => by omega, lt, pR, ?_, ?_, by rw [List.length_cons] at wr; omega, h6, e4.trans s46, rfl⟩
        · rcases sh q hq with z | z
          · rcases List.mem_cons.mp z with z | z
            · exact .inr (.inl z)
            · exact .inl z
          · exact .inr (.inr z)
        · have := nd_len m (R.map (·.1)) way.nd lt
          rw [List.length_map] at this
          rw [List.length_cons] at hM
          omega
        · have := nd_len m (R.map (·.1)) way.nd lt
          rw [List.length_map] at this
          rw [List.length_cons] at hM
          omega
      · intro i k v σ H7 hk h
        rw [hW] at h
        obtain ⟨kv7, R7, W7, z7, N7, d7, w7, r7, way7, bs7, wi7, sh7, pr7, lt7, p7, n7, hM7, wr7, D7, e7, rfl⟩ := h
        have hv := valV_at led.nd hk
        obtain ⟨o, e, rfl, rfl, hled⟩ := led.out k v hv
        show gName 7 (V.int (o : Int)) _ _ _
        have om : o < m := led_lt sz hled
        have prn : ∀ (S : List Nat), (∀ z ∈ R7.map (·.1), z ∈ S) → o ∈ S → ∀ (k o2 : Nat) (v : V), k < i + 1 → kl[k]? = some (.inl (o2 : Int), v) → o2 ∈ S := fun S h1 h2 k2 o2 v2 hk2 hk3 => by
          by_cases z : k2 < i
          · exact h1 _ (pr7 k2 o2 v2 z hk3)
          · have ek : k2 = i := by omega
            subst ek
            rw [hk] at hk3
            have h4 : ((o : Nat) : Int) = (o2 : Int) := Sum.inl.inj (Prod.mk.inj (Option.some.inj hk3)).1
            have : o2 = o := by omega
            rw [this]
            exact h2
        have lenR := nd_len m (R7.map (·.1)) way7.nd lt7
        rw [List.length_map] at lenR
        have m64 := sz.m
        simp only [tDNotIn, sDPut, tDGet, iDictK, rPopAt, tComp_eq, tComp1, slots, Option.getD_some, Option.getD_none, tYes, tSeq, tAsg, gName, tOp, tC, tVar, tCB, tCons, tNil, tCall, rI0, tRet, tIfS, tTest, tB, tDrop, tTup, tNext, tBM, rAppend, rIxL, rIxT, Kd_non, Kd_bl, Kd_int, Kd_str, decide_true, decide_false, tFor_eq, iList, L2.start, cxK, Int.reduceToNat, List.map_cons, List.map_nil, List.length_cons, List.length_nil, Nat.reduceAdd, Nat.reduceSub, Nat.zero_add, List.replicate_succ, List.replicate_zero, List.cons_append, List.nil_append, List.append_nil, List.getElem?_cons_zero, List.getElem?_cons_succ, List.set_cons_zero, List.set_cons_succ, Option.some.injEq, V.int.injEq, V.bl.injEq, V.ref.injEq, V.str.injEq, V.ty.injEq, List.cons.injEq, exists_eq_left', exists_eq_left, exists_eq_right, exists_and_left, exists_and_right, and_true, true_and, and_assoc, exists_const, decide_eq_true_eq, Bool.not_eq_true', Bool.not_true, Bool.not_false, Bool.not_not, decide_eq_false_iff_not, ite_not, Bool.false_eq_true, if_true, if_false, reduceCtorEq, and_false, false_and, exists_false, or_false, false_or, ↓reduceIte, eq_self, reduceIte]
        refine ⟨valV kv7 (.inl (o : Int)), .inl ⟨kv7, .inl (o : Int), .inl d7, rfl, rfl⟩, ?_⟩
        cases hv7 : valV kv7 (.inl (o : Int)) with
        | some v' =>
          rw [if_neg (by simp)]
          have oR := (r7.mem o).mp (valV_in hv7)
          rw [hW]
          exact ⟨kv7, R7, W7, _, N7, d7, w7, r7, way7, bs7, wi7, sh7, prn _ (fun _ z => z) oR, lt7, p7, n7, hM7, wr7, D7, e7, rfl⟩
        | none =>
          rw [if_pos (by simp)]
          have oN : o ∉ R7.map (·.1) := fun z => valV_not hv7 ((r7.mem o).mpr z)
          refine ⟨.int (e : Int), .inl ⟨kl, .inl (o : Int), .inr ⟨ob, D7⟩, rfl, hv.symm⟩, by decide, fun T hT => ?_⟩
          obtain ⟨H8, g8, S8, T8⟩ := fresh_tup (K := K) hT [V.int (e : Int), V.int (p : Int)]
          rw [← g8]
          clear g8
          have d8 := S8 _ _ d7
          have way8 := way7.snoc oN p7 hled
          have lt8 : ∀ q ∈ (R7 ++ [((o, e, some p) : Rc)]).map (·.1), q < m := fun q hq => by
            rw [List.map_append] at hq
            rcases List.mem_append.mp hq with hq | hq
            · exact lt7 q hq
            · rw [List.mem_singleton.mp hq]
              exact om
          have lenR8 := nd_len m _ way8.nd lt8
          rw [List.length_map, List.length_append, List.length_singleton] at lenR8
          have old : ∀ z ∈ R7.map (·.1), z ∈ (R7 ++ [((o, e, some p) : Rc)]).map (·.1) := fun z hz => by
            rw [List.map_append]
            exact List.mem_append_left _ hz
          have oin : o ∈ (R7 ++ [((o, e, some p) : Rc)]).map (·.1) := by
            rw [List.map_append]
            exact List.mem_append_right _ (List.mem_singleton.mpr rfl)
          have w9 : upd H8 d (.dK (putK kv7 (.inl (o : Int)) (.ref T))) w = some (.lst (W7.map fun p : Nat => V.int (p : Int))) := by
            rw [upd_ne wd]
            exact S8 _ _ w7
          refine ⟨_, .inl ⟨kv7, .inl (o : Int), d8, rfl, Nat.lt_of_lt_of_le (m := 1000) (by rw [r7.len]; omega) (by decide), rfl⟩, .inl ⟨rfl, _, SqL.of w9⟩, _, w9, Nat.lt_of_lt_of_le (m := 1000) (by rw [List.length_map]; omega) (by decide), ?_⟩
          rw [hW]
          refine ⟨kv7 ++ [(.inl (o : Int), .ref T)], R7 ++ [(o, e, some p)], W7 ++ [o], _, N7 - 1, by rw [upd_ne (Ne.symm wd), upd_same, putK_new hv7], by rw [upd_same, List.map_append]; rfl, ?_, way8, fun q hq => old q (bs7 q hq), fun q hq => ?_, fun q hq => ?_, prn _ old oin, lt8, old p p7, by omega, by rw [List.length_append, List.length_append, List.length_singleton, List.length_singleton]; omega, by rw [List.length_append, List.length_append, List.length_singleton, List.length_singleton]; omega, by rw [upd_ne (Ne.symm wD), upd_ne (Ne.symm dD)]; exact S8 _ _ D7, same_upd (same_upd (e7.trans S8) hdH _) hwH _, rfl⟩
          · refine RcAt.upd w9 (fun ys z => by cases z) (fun _ _ z => by cases z) (RcAt.upd d8 (fun ys z => by cases z) (fun _ _ z => by cases z) (RcAt.snoc (b := some p) T8 (r7.same S8)))
          · rcases List.mem_append.mp hq with hq | hq
            · exact old q (wi7 q hq)
            · rw [List.mem_singleton.mp hq]
              exact oin
          · rw [List.map_append] at hq
            rcases List.mem_append.mp hq with hq | hq
            · rcases sh7 q hq with z | z | z
              · exact .inl (List.mem_append_left _ z)
              · exact .inr (.inl z)
              · exact .inr (.inr fun e o hl => old _ (z e o hl))
            · exact .inl (List.mem_append_right _ hq)
      · intro σ H7 h
        rw [hW] at h
        obtain ⟨kv7, R7, W7, z7, N7, d7, w7, r7, way7, bs7, wi7, sh7, pr7, lt7, p7, n7, hM7, wr7, D7, e7, rfl⟩ := h
        refine ⟨N7, n7, ?_⟩
        rw [hIV]
        refine ⟨kv7, R7, W7, _, _, _, d7, w7, r7, way7, bs7, wi7, fun q hq => ?_, lt7, hM7, wr7, e7, rfl⟩
        rcases sh7 q hq with z | z | z
        · exact .inl z
        · subst z
          refine .inr fun e o hl => ?_
          obtain ⟨v, hv⟩ := led.all e o hl
          obtain ⟨k, hk⟩ := valV_ix hv
          exact pr7 k o v (List.getElem?_eq_some_iff.mp hk).1 hk
        · exact .inr z
end

end MyB
namespace MyC
open My MyB PySem L2
def top (i : Nat) : Stmt := PySem.Challenge.pw_tariffgate_k64_cuts.main.body.getD i (.Pass ⟨0, 0, 0, 0⟩)
theorem dn_moves : (("moves" : Str) == ("__debug__" : Str)) = false := by decide
theorem dc_moves : (("moves" : Str) == ("__classdict__" : Str)) = false := by decide
theorem dn_move : (("move" : Str) == ("__debug__" : Str)) = false := by decide
theorem dc_move : (("move" : Str) == ("__classdict__" : Str)) = false := by decide
abbrev s_moves_to : Stmt := top 3
theorem sc_moves_to : FnScope ["reached", "place", "moves", "move"] ["reached", "place"] (defScope s_moves_to) := ⟨rfl, rfl, rfl, by decide +kernel, rfl, by decide +kernel, by decide +kernel⟩
theorem v_moves_to_0 : Vis (defScope s_moves_to) "reached" := by first | exact Or.inl rfl | exact Or.inr (Or.inl rfl) | exact Or.inr (Or.inr rfl)
theorem v_moves_to_1 : Vis (defScope s_moves_to) "place" := by first | exact Or.inl rfl | exact Or.inr (Or.inl rfl) | exact Or.inr (Or.inr rfl)
theorem l_moves_to_1 : Loc (defScope s_moves_to) "place" := by first | exact Or.inl rfl | exact Or.inr rfl
theorem v_moves_to_2 : Vis (defScope s_moves_to) "moves" := by first | exact Or.inl rfl | exact Or.inr (Or.inl rfl) | exact Or.inr (Or.inr rfl)
theorem l_moves_to_2 : Loc (defScope s_moves_to) "moves" := by first | exact Or.inl rfl | exact Or.inr rfl
theorem v_moves_to_3 : Vis (defScope s_moves_to) "move" := by first | exact Or.inl rfl | exact Or.inr (Or.inl rfl) | exact Or.inr (Or.inr rfl)
theorem l_moves_to_3 : Loc (defScope s_moves_to) "move" := by first | exact Or.inl rfl | exact Or.inr rfl

abbrev Mv := Nat × Option Nat × Nat
def MvAt (K : PySem.W.Frag) (H : Hp) (vs : List V) (MV : List Mv) : Prop := Paired (fun (v : V) (x : Mv) => ∃ t, v = V.ref t ∧ SqT K H t [.int (x.1 : Int), optV x.2.1, .int (x.2.2 : Int)]) vs MV
theorem MvAt.same {K : PySem.W.Frag} {H H' : Hp} (e : Same H H') : ∀ {vs : List V} {MV : List Mv}, MvAt K H vs MV → MvAt K H' vs MV
  | _, _, .nil => .nil
  | _, _, .cons ⟨t, a, b⟩ r => .cons ⟨t, a, Same.tup e b⟩ (MvAt.same e r)
theorem MvAt.upd {K : PySem.W.Frag} {H : Hp} {D : Addr} {o o' : HO} (hD : H D = some o) (n1 : ∀ ys, o ≠ .tup ys) (n2 : ∀ ob ys, o ≠ .frz ob (.tup ys)) : ∀ {vs : List V} {MV : List Mv}, MvAt K H vs MV → MvAt K (L2.upd H D o') vs MV
  | _, _, .nil => .nil
  | _, _, .cons ⟨t, a, b⟩ r => .cons ⟨t, a, sqt_updO hD n1 n2 b⟩ (MvAt.upd hD n1 n2 r)
theorem MvAt.snoc {K : PySem.W.Frag} {H : Hp} {e c : Nat} {b : Option Nat} {t : Addr} (h : SqT K H t [.int (e : Int), optV b, .int (c : Int)]) : ∀ {vs : List V} {MV : List Mv}, MvAt K H vs MV → MvAt K H (vs ++ [.ref t]) (MV ++ [(e, b, c)])
  | _, _, .nil => .cons ⟨t, rfl, h⟩ .nil
  | _, _, .cons a r => .cons a (MvAt.snoc h r)
theorem MvAt.len {K : PySem.W.Frag} {H : Hp} : ∀ {vs : List V} {MV : List Mv}, MvAt K H vs MV → vs.length = MV.length
  | _, _, .nil => rfl
  | _, _, .cons _ r => by rw [List.length_cons, List.length_cons, MvAt.len r]
theorem rc_get {K : PySem.W.Frag} {H : Hp} : ∀ {kvs : List (Key × V)} {R : List Rc} {i : Nat} {x : Rc}, RcAt K H kvs R → R[i]? = some x → ∃ t, kvs[i]? = some (.inl (x.1 : Int), .ref t) ∧ SqT K H t [.int (x.2.1 : Int), optV x.2.2]
  | _, _, _, _, .nil, h => by cases h
  | _, _, 0, _, .cons (a := kv) ⟨a, t, b, c⟩ _, h => by
    cases h
    exact ⟨t, by rw [← a, ← b]; rfl, c⟩
  | _, _, i + 1, _, .cons _ r, h => by
    rw [List.getElem?_cons_succ] at h
    obtain ⟨t, a, b⟩ := rc_get r h
    exact ⟨t, by rw [List.getElem?_cons_succ]; exact a, b⟩
structure Pre (L : List En) (F : List (List Int)) (e0 p : Nat) (MV : List Mv) (cur : Option Nat) : Prop where
  hd : (MV = [] ∧ cur = some p) ∨ ∃ x, MV[0]? = some x ∧ x.2.2 = p
  ok : ∀ (i : Nat) (x : Mv), MV[i]? = some x → (x.2.1 = none ∧ i + 1 = MV.length ∧ cur = none ∧ x.1 = e0 ∧ x.2.2 ∈ pl L e0) ∨ ∃ b, x.2.1 = some b ∧ Led L F b x.1 x.2.2 ∧ ((i + 1 = MV.length ∧ cur = some b) ∨ ∃ y, MV[i + 1]? = some y ∧ y.2.2 = b)
  nd : (MV.map (·.2.2)).Nodup
def spMoves (K : PySem.W.Frag) : Sp := fun vs H Q _ => ∃ (d : Addr) (p e0 m : Nat) (L : List En) (F : List (List Int)) (kvs : List (Key × V)) (R : List Rc), vs = [.ref d, .int p] ∧ Rd H d (.dK kvs) ∧ RcAt K H kvs R ∧ Way L F e0 R ∧ p ∈ R.map (·.1) ∧ R.length ≤ 64 ∧
  ∀ (l : Addr) (vs : List V) (MV : List Mv) (H' : Hp), Same H H' → H l = none → H' l = some (.lst vs) → MvAt K H' vs MV → Pre L F e0 p MV none → (∀ x ∈ MV, x.2.2 ∈ R.map (·.1)) → Q (.ref l) H'
section
variable {P : Program} {w : World} {K : PySem.W.Frag} {mg : Str → Option Value} {base : Heap} {f : Addr} {fd : FuncData}
theorem ok_moves_to (F : Fun K "moves_to" "moves_to" s_moves_to f fd) (M : Mg mg) : FnOk P w K mg base CX0 1 f fd ["reached", "place"] (spMoves K) := by
  refine F.ok sc_moves_to (fun vs H Q E h => ?_) (fun cdv A outer s H vs Q E hr h => ?_)
  · obtain ⟨d, p, e0, m, L, F', kvs, R, rfl, _⟩ := h
    rfl
  obtain ⟨d, p, e0, m, L, Fl, kvs, R, rfl, hd, hR, way, hp, l64, q⟩ := h
  refine ⟨_, (@pss_cons _ _ _ _ _ (@ps_set _ _ 2 _ _ _ _ sc_moves_to.nd rfl l_moves_to_2 (@pe_lst _ _ _ _ (@pa_nil _)) (swap1 rfl) (.inl rfl)) (@pss_cons _ _ _ _ _ (@ps_while _ _ _ _ _ _ PassesOwn.never (@pt_cmpR _ _ _ _ _ _ _ _ op_notN (@pe_var _ 1 _ _ rfl v_moves_to_1 dn_place dc_place) (@pe_non _ _ _) (nomark _)) (@pss_cons _ _ _ _ _ (@ps_set _ _ 3 _ _ _ _ sc_moves_to.nd rfl l_moves_to_3 (@pe_dget _ _ _ _ _ _ (hu_of hr) (@pe_var _ 0 _ _ rfl v_moves_to_0 dn_reached dc_reached) (@pe_var _ 1 _ _ rfl v_moves_to_1 dn_place dc_place) (fun _ _ => rfl)) (swap1 rfl) (.inl rfl)) (@pss_cons _ _ _ _ _ (@ps_expr _ _ _ _ (@pe_bm _ _ _ _ _ _ _ _ _ _ _ _ PySem.F.plainAttrs_list PySem.F.slot_list_append PySem.F.type_list_append mt_append (@pe_var _ 2 _ _ rfl v_moves_to_2 dn_moves dc_moves) (@pa_cons _ _ _ _ _ (@pe_tup _ _ _ _ _ (@pa_cons _ _ _ _ _ (@pe_ix _ _ _ _ _ _ _ (@ix_tup _) (@pe_var _ 3 _ _ rfl v_moves_to_3 dn_move dc_move) (@pe_int _ _ _ _) (fun _ _ => rfl)) (@pa_cons _ _ _ _ _ (@pe_ix _ _ _ _ _ _ _ (@ix_tup _) (@pe_var _ 3 _ _ rfl v_moves_to_3 dn_move dc_move) (@pe_int _ _ _ _) (fun _ _ => rfl)) (@pa_cons _ _ _ _ _ (@pe_var _ 1 _ _ rfl v_moves_to_1 dn_place dc_place) (@pa_nil _) (star1 rfl)) (star1 rfl)) (star1 rfl))) (@pa_nil _) (star1 rfl)) (by rfl) (by rfl) (by rfl) (by rfl) (by rfl)) (swap1 rfl)) (@pss_one _ _ _ (@ps_set _ _ 1 _ _ _ _ sc_moves_to.nd rfl l_moves_to_1 (@pe_ix _ _ _ _ _ _ _ (@ix_tup _) (@pe_var _ 3 _ _ rfl v_moves_to_3 dn_move dc_move) (@pe_int _ _ _ _) (fun _ _ => rfl)) (swap1 rfl) (.inl rfl)))))) (@pss_one _ _ _ (@ps_ret _ _ _ _ (@pe_var _ 2 _ _ rfl v_moves_to_2 dn_moves dc_moves))))), ?_⟩
  simp only [tDGet, slots, Option.getD_some, Option.getD_none, tSeq, tAsg, gName, tOp, tC, tVar, tCons, tNil, tRet, tTest, tDrop, tTup, tLst, tBM, rAppend, rIxT, Kd_non, Kd_bl, Kd_int, Kd_str, decide_true, decide_false, L2.start, cxK, Int.reduceToNat, List.map_cons, List.map_nil, List.length_cons, List.length_nil, Nat.reduceAdd, Nat.reduceSub, Nat.zero_add, List.replicate_succ, List.replicate_zero, List.cons_append, List.nil_append, List.append_nil, List.getElem?_cons_zero, List.getElem?_cons_succ, List.set_cons_zero, List.set_cons_succ, Option.some.injEq, V.int.injEq, V.bl.injEq, V.ref.injEq, V.str.injEq, V.ty.injEq, List.cons.injEq, exists_eq_left', exists_eq_left, exists_eq_right, exists_and_left, exists_and_right, and_true, true_and, and_assoc, exists_const, decide_eq_true_eq, Bool.not_eq_true', Bool.not_true, Bool.not_false, Bool.not_not, decide_eq_false_iff_not, ite_not, Bool.false_eq_true, if_true, if_false, reduceCtorEq, and_false, false_and, exists_false, or_false, false_or, ↓reduceIte, eq_self, reduceIte]
  refine ⟨by decide, fun l hl => ?_⟩
  obtain ⟨IV, hIV⟩ : ∃ IV : Nat → St → Hp → Prop, IV = fun N σ H' => ∃ (vs : List V) (MV : List Mv) (cur : Option Nat) (z : Option V), H' l = some (.lst vs) ∧ MvAt K H' vs MV ∧ Pre L Fl e0 p MV cur ∧ (∀ x ∈ MV, x.2.2 ∈ R.map (·.1)) ∧ MV.length ≤ R.length ∧ (∀ c, cur = some c → ∃ (j e : Nat) (b : Option Nat), R[j]? = some (c, e, b) ∧ N = j + 1 ∧ MV.length + j < R.length ∧ ∀ y ∈ MV, ∃ (jy : Nat) (ry : Rc), j < jy ∧ R[jy]? = some ry ∧ ry.1 = y.2.2) ∧ Same H H' ∧ σ = [some (.ref d), some (optV cur), some (.ref l), z] := ⟨_, rfl⟩
  obtain ⟨rp, hrp, erp⟩ := List.mem_map.mp hp
  obtain ⟨j0, hj0⟩ := List.mem_iff_getElem?.mp hrp
  obtain ⟨p', ep, bp⟩ := rp
  replace erp : p' = p := erp
  subst erp
  refine ⟨IV, ⟨j0 + 1, ?_⟩, ?_⟩
  · rw [hIV]
    refine ⟨[], [], some p', _, upd_same, .nil, ⟨.inl ⟨rfl, rfl⟩, (fun i x z => by cases z), List.nodup_nil⟩, (fun x z => by cases z), Nat.zero_le _, fun c hc => ?_, same_new hl _, rfl⟩
    cases hc
    exact ⟨j0, ep, bp, hj0, rfl, by have := (List.getElem?_eq_some_iff.mp hj0).1; simpa using this, fun y z => by cases z⟩
  intro N σ H3 h3
  rw [hIV] at h3
  obtain ⟨vs, MV, cur, z, d3, mv, pre, inR, lMR, idx, e3, rfl⟩ := h3
  cases cur with
  | none =>
    simp only [tDGet, slots, Option.getD_some, Option.getD_none, tSeq, tAsg, gName, tOp, tC, tVar, tCons, tNil, tRet, tTest, tDrop, tTup, tLst, tBM, rAppend, rIxT, Kd_non, Kd_bl, Kd_int, Kd_str, decide_true, decide_false, L2.start, cxK, Int.reduceToNat, List.map_cons, List.map_nil, List.length_cons, List.length_nil, Nat.reduceAdd, Nat.reduceSub, Nat.zero_add, List.replicate_succ, List.replicate_zero, List.cons_append, List.nil_append, List.append_nil, List.getElem?_cons_zero, List.getElem?_cons_succ, List.set_cons_zero, List.set_cons_succ, Option.some.injEq, V.int.injEq, V.bl.injEq, V.ref.injEq, V.str.injEq, V.ty.injEq, List.cons.injEq, exists_eq_left', exists_eq_left, exists_eq_right, exists_and_left, exists_and_right, and_true, true_and, and_assoc, exists_const, decide_eq_true_eq, Bool.not_eq_true', Bool.not_true, Bool.not_false, Bool.not_not, decide_eq_false_iff_not, ite_not, Bool.false_eq_true, if_true, if_false, reduceCtorEq, and_false, false_and, exists_false, or_false, false_or, ↓reduceIte, eq_self, reduceIte]
    rw [if_pos (show optV none = V.non from rfl)]
    exact q l vs MV H3 e3 hl d3 mv pre inR
  | some c =>
    obtain ⟨j, e, b, hj, rfl, lj, idx2⟩ := idx c rfl
    obtain ⟨t, hk, hT⟩ := rc_get hR hj
    have knd : (kvs.map (·.1)).Nodup := by
      rw [hR.keys]
      have := nd_inl way.nd
      rwa [List.map_map] at this
    have hv := valV_at knd hk
    have hT3 := Same.tup e3 hT
    have rd3 : Rd H3 d (.dK kvs) := by
      rcases hd with h | ⟨o, h⟩
      · exact .inl (e3 _ _ h)
      · exact .inr ⟨o, e3 _ _ h⟩
    have cR : c ∈ R.map (·.1) := List.mem_map.mpr ⟨_, List.mem_iff_getElem?.mpr ⟨_, hj⟩, rfl⟩
    have cN : c ∉ MV.map (·.2.2) := fun z => by
      obtain ⟨y, hy, ey⟩ := List.mem_map.mp z
      obtain ⟨jy, ry, h1, h2, h3⟩ := idx2 y hy
      have a1 : (R.map (·.1))[j]? = some c := by rw [List.getElem?_map, hj]; rfl
      have a2 : (R.map (·.1))[jy]? = some c := by rw [List.getElem?_map, h2]; show some ry.1 = _; rw [h3, ey]
      have a3 : j < (R.map (·.1)).length := (List.getElem?_eq_some_iff.mp a1).1
      have := (List.getElem?_inj a3 way.nd).mp (a1.trans a2.symm)
      omega
    have preN : ∀ cur', ((b = none ∧ cur' = none ∧ e = e0 ∧ c ∈ pl L e0) ∨ ∃ b', b = some b' ∧ cur' = some b' ∧ Led L Fl b' e c) → Pre L Fl e0 p' (MV ++ [(e, b, c)]) cur' := fun cur' hc => by
      refine ⟨.inr ?_, fun i x hx => ?_, ?_⟩
      · rcases pre.hd with ⟨h1, h2⟩ | ⟨x, h1, h2⟩
        · cases h2
          rw [h1]
          exact ⟨_, rfl, rfl⟩
        · exact ⟨x, by rw [List.getElem?_append_left (List.getElem?_eq_some_iff.mp h1).1]; exact h1, h2⟩
      · rw [List.length_append, List.length_singleton]
        by_cases hi : i < MV.length
        · rw [List.getElem?_append_left hi] at hx
          rcases pre.ok i x hx with ⟨_, _, z, _⟩ | ⟨b1, h1, h2, h3⟩
          · cases z
          · refine .inr ⟨b1, h1, h2, .inr ?_⟩
            rcases h3 with ⟨h4, h5⟩ | ⟨y, h4, h5⟩
            · cases h5
              exact ⟨(e, b, c), by rw [h4, List.getElem?_append_right (Nat.le_refl _), Nat.sub_self]; rfl, rfl⟩
            · exact ⟨y, by rw [List.getElem?_append_left (List.getElem?_eq_some_iff.mp h4).1]; exact h4, h5⟩
        · have hi2 : i < (MV ++ [((e, b, c) : Mv)]).length := (List.getElem?_eq_some_iff.mp hx).1
          rw [List.length_append, List.length_singleton] at hi2
          have ei : i = MV.length := by omega
          subst ei
          rw [List.getElem?_append_right (Nat.le_refl _), Nat.sub_self] at hx
          cases hx
          rcases hc with ⟨h1, h2, h3, h4⟩ | ⟨b', h1, h2, h3⟩
          · exact .inl ⟨h1, rfl, h2, h3, h4⟩
          · exact .inr ⟨b', h1, h3, .inl ⟨rfl, h2⟩⟩
      · rw [List.map_append]
        exact nd_snoc pre.nd cN
    have inN : ∀ x ∈ MV ++ [((e, b, c) : Mv)], x.2.2 ∈ R.map (·.1) := fun x hx => by
      rcases List.mem_append.mp hx with hx | hx
      · exact inR x hx
      · rw [List.mem_singleton.mp hx]
        exact cR
    simp only [tDGet, slots, Option.getD_some, Option.getD_none, tSeq, tAsg, gName, tOp, tC, tVar, tCons, tNil, tRet, tTest, tDrop, tTup, tLst, tBM, rAppend, rIxT, Kd_non, Kd_bl, Kd_int, Kd_str, decide_true, decide_false, L2.start, cxK, Int.reduceToNat, List.map_cons, List.map_nil, List.length_cons, List.length_nil, Nat.reduceAdd, Nat.reduceSub, Nat.zero_add, List.replicate_succ, List.replicate_zero, List.cons_append, List.nil_append, List.append_nil, List.getElem?_cons_zero, List.getElem?_cons_succ, List.set_cons_zero, List.set_cons_succ, Option.some.injEq, V.int.injEq, V.bl.injEq, V.ref.injEq, V.str.injEq, V.ty.injEq, List.cons.injEq, exists_eq_left', exists_eq_left, exists_eq_right, exists_and_left, exists_and_right, and_true, true_and, and_assoc, exists_const, decide_eq_true_eq, Bool.not_eq_true', Bool.not_true, Bool.not_false, Bool.not_not, decide_eq_false_iff_not, ite_not, Bool.false_eq_true, if_true, if_false, reduceCtorEq, and_false, false_and, exists_false, or_false, false_or, ↓reduceIte, eq_self, reduceIte]
    rw [if_neg (fun z => by cases z)]
    refine ⟨fun σ' H' => ∃ m', m' < j + 1 ∧ IV m' σ' H', fun _ _ h => h, .ref t, .inl ⟨kvs, .inl (c : Int), rd3, rfl, hv.symm⟩, .inl ⟨rfl, _, SqL.of d3⟩, t, rfl, _, hT3, _, rfl, t, rfl, _, hT3, _, rfl, by decide, fun T hT' => ?_⟩
    obtain ⟨H4, g4, S4, T4⟩ := fresh_tup (K := K) hT' [V.int (e : Int), optV b, optV (some c)]
    rw [← g4]
    clear g4
    have d4 := S4 _ _ d3
    refine ⟨vs, d4, Nat.lt_of_lt_of_le (m := 1000) (by rw [mv.len]; omega) (by decide), t, rfl, _, sqt_updO d4 (fun ys z => by cases z) (fun _ _ z => by cases z) (Same.tup S4 hT3), _, rfl, ?_⟩
    have mvN : MvAt K (upd H4 l (.lst (vs ++ [V.ref T]))) (vs ++ [V.ref T]) (MV ++ [(e, b, c)]) := MvAt.upd d4 (fun ys z => by cases z) (fun _ _ z => by cases z) (MvAt.snoc T4 (mv.same S4))
    have lenN : (MV ++ [((e, b, c) : Mv)]).length = MV.length + 1 := by rw [List.length_append]; rfl
    rcases way.ok j _ hj with ⟨h1, h2, h3⟩ | ⟨b', h1, h2, h3⟩
    · refine ⟨0, by omega, ?_⟩
      rw [hIV]
      replace h1 : b = none := h1
      subst h1
      exact ⟨_, _, none, _, upd_same, mvN, preN none (.inl ⟨rfl, rfl, h2, h3⟩), inN, by rw [lenN]; omega, (fun c hc => by cases hc), same_upd (e3.trans S4) hl _, rfl⟩
    · replace h1 : b = some b' := h1
      subst h1
      obtain ⟨x, hx, ex⟩ := List.mem_map.mp h2
      obtain ⟨j', hj'⟩ := List.mem_iff_getElem?.mp hx
      have lj' : j' < j := by
        have := (List.getElem?_eq_some_iff.mp hj').1
        rw [List.length_take] at this
        omega
      rw [List.getElem?_take_of_lt lj'] at hj'
      obtain ⟨xb, xe, xo⟩ := x
      replace ex : xb = b' := ex
      subst ex
      refine ⟨j' + 1, by omega, ?_⟩
      rw [hIV]
      refine ⟨_, _, some xb, _, upd_same, mvN, preN _ (.inr ⟨xb, rfl, rfl, h3⟩), inN, by rw [lenN]; omega, fun c' hc => ?_, same_upd (e3.trans S4) hl _, rfl⟩
      cases hc
      refine ⟨j', xe, xo, hj', rfl, by rw [lenN]; omega, fun y hy => ?_⟩
      rcases List.mem_append.mp hy with hy | hy
      · obtain ⟨jy, ry, a1, a2, a3⟩ := idx2 y hy
        exact ⟨jy, ry, by omega, a2, a3⟩
      · rw [List.mem_singleton.mp hy]
        exact ⟨j, _, lj', hj, rfl⟩
end

end MyC
namespace MyD
open My MyB MyC PySem L2
def top (i : Nat) : Stmt := PySem.Challenge.pw_tariffgate_k64_cuts.main.body.getD i (.Pass ⟨0, 0, 0, 0⟩)
theorem dn_left : (("left" : Str) == ("__debug__" : Str)) = false := by decide
theorem dc_left : (("left" : Str) == ("__classdict__" : Str)) = false := by decide
theorem dn_wanted : (("wanted" : Str) == ("__debug__" : Str)) = false := by decide
theorem dc_wanted : (("wanted" : Str) == ("__classdict__" : Str)) = false := by decide
theorem dn_end : (("end" : Str) == ("__debug__" : Str)) = false := by decide
theorem dc_end : (("end" : Str) == ("__classdict__" : Str)) = false := by decide
theorem dn_there : (("there" : Str) == ("__debug__" : Str)) = false := by decide
theorem dc_there : (("there" : Str) == ("__classdict__" : Str)) = false := by decide
theorem dn_amount : (("amount" : Str) == ("__debug__" : Str)) = false := by decide
theorem dc_amount : (("amount" : Str) == ("__classdict__" : Str)) = false := by decide
theorem dn_min : (("min" : Str) == ("__debug__" : Str)) = false := by decide
theorem nn_min : ("min" : Str) ≠ "__name__" := by decide
theorem dn_before : (("before" : Str) == ("__debug__" : Str)) = false := by decide
theorem dc_before : (("before" : Str) == ("__classdict__" : Str)) = false := by decide
abbrev s_lead : Stmt := top 4
theorem sc_lead : FnScope ["flows", "left", "wanted", "moves", "end", "there", "amount", "entry", "before", "place"] ["flows", "left", "wanted", "moves"] (defScope s_lead) := ⟨rfl, rfl, rfl, by decide +kernel, rfl, by decide +kernel, by decide +kernel⟩
theorem v_lead_0 : Vis (defScope s_lead) "flows" := by first | exact Or.inl rfl | exact Or.inr (Or.inl rfl) | exact Or.inr (Or.inr rfl)
theorem v_lead_1 : Vis (defScope s_lead) "left" := by first | exact Or.inl rfl | exact Or.inr (Or.inl rfl) | exact Or.inr (Or.inr rfl)
theorem v_lead_2 : Vis (defScope s_lead) "wanted" := by first | exact Or.inl rfl | exact Or.inr (Or.inl rfl) | exact Or.inr (Or.inr rfl)
theorem v_lead_3 : Vis (defScope s_lead) "moves" := by first | exact Or.inl rfl | exact Or.inr (Or.inl rfl) | exact Or.inr (Or.inr rfl)
theorem v_lead_4 : Vis (defScope s_lead) "end" := by first | exact Or.inl rfl | exact Or.inr (Or.inl rfl) | exact Or.inr (Or.inr rfl)
theorem l_lead_4 : Loc (defScope s_lead) "end" := by first | exact Or.inl rfl | exact Or.inr rfl
theorem v_lead_5 : Vis (defScope s_lead) "there" := by first | exact Or.inl rfl | exact Or.inr (Or.inl rfl) | exact Or.inr (Or.inr rfl)
theorem l_lead_5 : Loc (defScope s_lead) "there" := by first | exact Or.inl rfl | exact Or.inr rfl
theorem v_lead_6 : Vis (defScope s_lead) "amount" := by first | exact Or.inl rfl | exact Or.inr (Or.inl rfl) | exact Or.inr (Or.inr rfl)
theorem l_lead_6 : Loc (defScope s_lead) "amount" := by first | exact Or.inl rfl | exact Or.inr rfl
theorem v_lead_7 : Vis (defScope s_lead) "entry" := by first | exact Or.inl rfl | exact Or.inr (Or.inl rfl) | exact Or.inr (Or.inr rfl)
theorem l_lead_7 : Loc (defScope s_lead) "entry" := by first | exact Or.inl rfl | exact Or.inr rfl
theorem v_lead_8 : Vis (defScope s_lead) "before" := by first | exact Or.inl rfl | exact Or.inr (Or.inl rfl) | exact Or.inr (Or.inr rfl)
theorem l_lead_8 : Loc (defScope s_lead) "before" := by first | exact Or.inl rfl | exact Or.inr rfl
theorem v_lead_9 : Vis (defScope s_lead) "place" := by first | exact Or.inl rfl | exact Or.inr (Or.inl rfl) | exact Or.inr (Or.inr rfl)
theorem l_lead_9 : Loc (defScope s_lead) "place" := by first | exact Or.inl rfl | exact Or.inr rfl
theorem g_lead_min : (defScope s_lead).names.lookup ("min" : Str) = some .globalImplicit := by rfl

def addF (F : List (List Int)) (e j : Nat) (a : Int) : List (List Int) := F.set e ((F.getD e []).set j ((F.getD e []).getD j 0 + a))
def stepF (a : Int) (F : List (List Int)) (x : Mv) : List (List Int) := addF (match x.2.1 with | none => F | some b => addF F x.1 b (-a)) x.1 x.2.2 a
def ledF (a : Int) (F : List (List Int)) (MV : List Mv) : List (List Int) := MV.foldl (stepF a) F
def Rows (n m : Nat) (F : List (List Int)) : Prop := F.length = n ∧ ∀ r ∈ F, r.length = m
theorem Rows.add {n m e j : Nat} {a : Int} {F : List (List Int)} (h : Rows n m F) (he : e < n) : Rows n m (addF F e j a) := by
  refine ⟨by unfold addF; rw [List.length_set]; exact h.1, fun r hr => ?_⟩
  unfold addF at hr
  rcases List.mem_or_eq_of_mem_set hr with hr | rfl
  · exact h.2 r hr
  · rw [List.length_set]
    have he' : e < F.length := by rw [h.1]; exact he
    rw [show F.getD e [] = F[e] by simp [List.getD, he']]
    exact h.2 _ (List.getElem_mem he')
theorem Rows.step {n m : Nat} {a : Int} {F : List (List Int)} {x : Mv} (h : Rows n m F) (he : x.1 < n) : Rows n m (stepF a F x) := by
  unfold stepF
  cases x.2.1 with
  | none => exact h.add he
  | some b => exact (h.add he).add he
theorem Rows.led {n m : Nat} {a : Int} : ∀ (MV : List Mv) {F : List (List Int)}, Rows n m F → (∀ x ∈ MV, x.1 < n) → Rows n m (ledF a F MV)
  | [], _, h, _ => h
  | x :: MV, _, h, hx => Rows.led MV (h.step (hx x List.mem_cons_self)) fun y hy => hx y (List.mem_cons_of_mem _ hy)
theorem ledF_snoc (a : Int) (F : List (List Int)) (MV : List Mv) (x : Mv) : ledF a F (MV ++ [x]) = stepF a (ledF a F MV) x := by
  unfold ledF
  rw [List.foldl_append]
  rfl
theorem ne_mem {b r : Addr} {rs : List Addr} (h : b ∉ rs) (hr : r ∈ rs) : b ≠ r := fun z => h (by rw [z]; exact hr)
theorem fl_put {H : Hp} {g : Addr} {rs : List Addr} {F : List (List Int)} {e : Nat} {r : Addr} {row' : List Int} (h : FlAt H g rs F) (hr : rs[e]? = some r) : FlAt (upd H r (.lst (row'.map V.int))) g rs (F.set e row') := by
  have rg : r ≠ g := h.ne r (List.mem_iff_getElem?.mpr ⟨_, hr⟩)
  have le : e < F.length := by rw [← h.len]; exact (List.getElem?_eq_some_iff.mp hr).1
  refine ⟨by rw [upd_ne (Ne.symm rg)]; exact h.top, by rw [List.length_set]; exact h.len, fun i r2 fl a b => ?_, h.nd, h.ne⟩
  by_cases hi : i = e
  · subst hi
    rw [hr] at a
    cases a
    rw [upd_same]
    rw [List.getElem?_set_self le] at b
    cases b
    rfl
  · have ne : r2 ≠ r := fun z => by
      subst z
      exact hi ((List.getElem?_inj (List.getElem?_eq_some_iff.mp a).1 h.nd).mp (a.trans hr.symm))
    rw [upd_ne ne]
    rw [List.getElem?_set_ne (Ne.symm hi)] at b
    exact h.row i r2 fl a b
theorem aug_at {H : Hp} {g : Addr} {rs : List Addr} {F : List (List Int)} {n m e j : Nat} (h : FlAt H g rs F) (rw' : Rows n m F) (he : e < n) (hj : j < m) (a : Int) : ∃ (r : Addr) (row : List Int), r ∈ rs ∧ (rs.map V.ref)[e]? = some (.ref r) ∧ H r = some (.lst (row.map V.int)) ∧ row.length = m ∧ (row.map V.int)[j]? = some (.int (row.getD j 0)) ∧ ixN (row.map V.int).length (j : Int) = some j ∧ FlAt (upd H r (.lst ((row.map V.int).set j (.int (row.getD j 0 + a))))) g rs (addF F e j a) := by
  obtain ⟨r, hr1⟩ : ∃ r, rs[e]? = some r := ⟨_, List.getElem?_eq_getElem (by rw [h.len, rw'.1]; exact he)⟩
  obtain ⟨row, hrow⟩ : ∃ row, F[e]? = some row := ⟨_, List.getElem?_eq_getElem (by rw [rw'.1]; exact he)⟩
  have lrow := rw'.2 row (List.mem_iff_getElem?.mpr ⟨_, hrow⟩)
  refine ⟨r, row, List.mem_iff_getElem?.mpr ⟨_, hr1⟩, by rw [List.getElem?_map, hr1]; rfl, h.row _ r row hr1 hrow, lrow, ?_, ixN_nat (by rw [List.length_map]; omega), ?_⟩
  · rw [List.getElem?_map, List.getElem?_eq_getElem (by omega), My.getD_at (show j < row.length by omega)]
    rfl
  · have e1 : F.getD e [] = row := by simp [List.getD, hrow]
    unfold addF
    rw [e1, ← List.map_set]
    exact fl_put h hr1
def MvOk (n m : Nat) (MV : List Mv) : Prop := ∀ x ∈ MV, x.1 < n ∧ x.2.2 < m ∧ ∀ b, x.2.1 = some b → b < m
def thereOf (F : List (List Int)) (MV : List Mv) : List Int := MV.filterMap fun x => x.2.1.map fun b => fl F x.1 b
def spLead (K : PySem.W.Frag) : Sp := fun vs H Q _ => ∃ (g f mo : Addr) (wn : Int) (n m : Nat) (rs : List Addr) (F : List (List Int)) (lf : List Int) (us : List V) (MV : List Mv) (x0 : Mv), vs = [.ref g, .ref f, .int wn, .ref mo] ∧ FlAt H g rs F ∧ Rows n m F ∧ H f = some (.lst (lf.map V.int)) ∧ lf.length = m ∧ f ∉ rs ∧ f ≠ g ∧ H mo = some (.lst us) ∧ mo ∉ rs ∧ mo ≠ f ∧ MvAt K H us MV ∧ MvOk n m MV ∧ MV[0]? = some x0 ∧ MV.length ≤ 64 ∧
  ∀ (a : Int) (H' : Hp), a ∈ wn :: lf.getD x0.2.2 0 :: thereOf F MV → (∀ z ∈ wn :: lf.getD x0.2.2 0 :: thereOf F MV, a ≤ z) → (∀ b u, b ∉ rs → b ≠ f → H b = some u → H' b = some u) → FlAt H' g rs (ledF a F MV) → H' f = some (.lst ((lf.set x0.2.2 (lf.getD x0.2.2 0 - a)).map V.int)) → Q (.int a) H'
theorem mv_get {K : PySem.W.Frag} {H : Hp} : ∀ {vs : List V} {MV : List Mv} {i : Nat} {v : V}, MvAt K H vs MV → vs[i]? = some v → ∃ x t, MV[i]? = some x ∧ v = V.ref t ∧ SqT K H t [.int (x.1 : Int), optV x.2.1, .int (x.2.2 : Int)]
  | _, _, _, _, .nil, h => by cases h
  | _, _, 0, _, .cons ⟨t, a, b⟩ _, h => by
    cases h
    exact ⟨_, t, rfl, a, b⟩
  | _, _, i + 1, _, .cons _ r, h => by
    rw [List.getElem?_cons_succ] at h
    obtain ⟨x, t, a, b, c⟩ := mv_get r h
    exact ⟨x, t, by rw [List.getElem?_cons_succ]; exact a, b, c⟩
section
variable {P : Program} {w : World} {K : PySem.W.Frag} {mg : Str → Option Value} {base : Heap} {f : Addr} {fd : FuncData}
theorem ok_lead (F : Fun K "lead" "lead" s_lead f fd) (M : Mg mg) : FnOk P w K mg base CX0 1 f fd ["flows", "left", "wanted", "moves"] (spLead K) := by
  refine F.ok sc_lead (fun vs H Q E h => ?_) (fun cdv A outer s H vs Q E hr h => ?_)
  · obtain ⟨g, f, mo, wn, n, m, rs, F', lf, us, MV, x0, rfl, _⟩ := h
    rfl
  obtain ⟨g, fa, mo, wn, n, m, rs, Fl, lf, us, MV, x0, rfl, hF, rows, hf, llf, frs, fg, hmo, mors, mof, hmv, ok, hx0, l64, q⟩ := h
  refine ⟨_, (@pss_cons _ _ _ _ _ (@ps_set _ _ 4 _ _ _ _ sc_lead.nd rfl l_lead_4 (@pe_ix _ _ _ _ _ _ _ (@ix_tup _) (@pe_ix _ _ _ _ _ _ _ (@ix_list _) (@pe_var _ 3 _ _ rfl v_lead_3 dn_moves dc_moves) (@pe_int _ _ _ _) (fun _ _ => rfl)) (@pe_int _ _ _ _) (fun _ _ => rfl)) (swap1 rfl) (.inl rfl)) (@pss_cons _ _ _ _ _ (@ps_setComp _ _ _ _ _ _ _ _ _ _ _ _ _ _ _ 5 _ _ _ sc_lead.nd rfl l_lead_5 rfl (CompOk.make (N' := ["flows", "entry", "before", "place"]) (ix := [0]) (nl := 3) (by rfl) (fm1 rfl fm0) (by rfl) (by decide +kernel) rfl (by decide +kernel) rfl (And.intro ⟨rfl, .inl rfl, .inl rfl⟩ True.intro)) (@pi_list _ _ _ _ (@pe_var _ 3 _ _ rfl v_lead_3 dn_moves dc_moves)) (fun _ _ _ _ _ => (@pg_tupK _ K _ _ 3 _ _ rfl rfl (@pgs_cons _ _ _ _ _ (@pg_name _ _ 1 _ (show List.Nodup (["flows", "entry", "before", "place"] : List Str) from by decide) rfl (Or.inl rfl) (by first | exact .inl rfl | exact .inr rfl | assumption)) (@pgs_cons _ _ _ _ _ (@pg_name _ _ 2 _ (show List.Nodup (["flows", "entry", "before", "place"] : List Str) from by decide) rfl (Or.inl rfl) (by first | exact .inl rfl | exact .inr rfl | assumption)) (@pgs_cons _ _ _ _ _ (@pg_name _ _ 3 _ (show List.Nodup (["flows", "entry", "before", "place"] : List Str) from by decide) rfl (Or.inl rfl) (by first | exact .inl rfl | exact .inr rfl | assumption)) (@pgs_nil _) (by rfl)) (by rfl)) (by rfl)) (by rfl) (by rfl))) (fun _ _ _ _ _ => (@pif_one _ _ _ (@pt_cmpR _ _ _ _ _ _ _ _ op_notN (@pv _ 2 _ _ (by rfl) (by first | exact Or.inl rfl | exact Or.inr (Or.inl rfl) | exact Or.inr (Or.inr rfl)) (by decide) (by decide)) (@pe_non _ _ _) (nomark _)))) (fun _ _ _ _ _ => (@pe_ix _ _ _ _ _ _ _ (@ix_listK _ K rfl) (@pe_ix _ _ _ _ _ _ _ (@ix_listK _ K rfl) (@pv _ 0 _ _ (by rfl) (by first | exact Or.inl rfl | exact Or.inr (Or.inl rfl) | exact Or.inr (Or.inr rfl)) (by decide) (by decide)) (@pv _ 1 _ _ (by rfl) (by first | exact Or.inl rfl | exact Or.inr (Or.inl rfl) | exact Or.inr (Or.inr rfl)) (by decide) (by decide)) (fun _ _ => rfl)) (@pv _ 2 _ _ (by rfl) (by first | exact Or.inl rfl | exact Or.inr (Or.inl rfl) | exact Or.inr (Or.inr rfl)) (by decide) (by decide)) (fun _ _ => rfl))) (by rfl) (by intro _; rfl) (by first | exact .inl rfl | exact .inr rfl | assumption)) (@pss_cons _ _ _ _ _ (@ps_set _ _ 6 _ _ _ _ sc_lead.nd rfl l_lead_6 (@pe_callB _ _ _ _ _ _ _ _ _ (call_min1 rfl) g_lead_min M.m_min b_min (@pa_cons _ _ _ _ _ (@pe_op _ _ _ _ _ _ _ _ (@op_cat _) (@pe_lst _ _ _ _ (@pa_cons _ _ _ _ _ (@pe_var _ 2 _ _ rfl v_lead_2 dn_wanted dc_wanted) (@pa_cons _ _ _ _ _ (@pe_ix _ _ _ _ _ _ _ (@ix_list _) (@pe_var _ 1 _ _ rfl v_lead_1 dn_left dc_left) (@pe_var _ 4 _ _ rfl v_lead_4 dn_end dc_end) (fun _ _ => rfl)) (@pa_nil _) (star1 rfl)) (star1 rfl))) (@pe_var _ 5 _ _ rfl v_lead_5 dn_there dc_there)) (@pa_nil _) (star1 rfl)) nn_min dn_min (star1 rfl) nost0) (swap1 rfl) (.inl rfl)) (@pss_cons _ _ _ _ _ (@ps_for _ _ _ _ _ _ _ _ PassesOwn.never rfl (@pi_list _ _ _ _ (@pe_var _ 3 _ _ rfl v_lead_3 dn_moves dc_moves)) (@pg_tup _ _ _ _ _ _ rfl (@pgs_cons _ _ _ _ _ (@pg_name _ _ 7 _ sc_lead.nd rfl l_lead_7 (.inl rfl)) (@pgs_cons _ _ _ _ _ (@pg_name _ _ 8 _ sc_lead.nd rfl l_lead_8 (.inl rfl)) (@pgs_cons _ _ _ _ _ (@pg_name _ _ 9 _ sc_lead.nd rfl l_lead_9 (.inl rfl)) (@pgs_nil _) (by rfl)) (by rfl)) (by rfl)) (by rfl) (by rfl)) (@pss_cons _ _ _ _ _ (@ps_if _ _ _ _ _ _ _ _ (@pt_cmpR _ _ _ _ _ _ _ _ op_notN (@pe_var _ 8 _ _ rfl v_lead_8 dn_before dc_before) (@pe_non _ _ _) (nomark _)) (@pss_one _ _ _ (@ps_augS _ _ _ _ _ _ _ _ _ _ _ _ _ (@pe_ix _ _ _ _ _ _ _ (@ix_list _) (@pe_var _ 0 _ _ rfl v_lead_0 dn_flows dc_flows) (@pe_var _ 7 _ _ rfl v_lead_7 dn_entry dc_entry) (fun _ _ => rfl)) (@pe_var _ 8 _ _ rfl v_lead_8 dn_before dc_before) get_list (@pe_var _ 6 _ _ rfl v_lead_6 dn_amount dc_amount) ip_sub set_list (by intros; rfl))) (@pss_nil _)) (@pss_one _ _ _ (@ps_augS _ _ _ _ _ _ _ _ _ _ _ _ _ (@pe_ix _ _ _ _ _ _ _ (@ix_list _) (@pe_var _ 0 _ _ rfl v_lead_0 dn_flows dc_flows) (@pe_var _ 7 _ _ rfl v_lead_7 dn_entry dc_entry) (fun _ _ => rfl)) (@pe_var _ 9 _ _ rfl v_lead_9 dn_place dc_place) get_list (@pe_var _ 6 _ _ rfl v_lead_6 dn_amount dc_amount) ip_add set_list (by intros; rfl)))) (by intro _; rfl)) (@pss_cons _ _ _ _ _ (@ps_augS _ _ _ _ _ _ _ _ _ _ _ _ _ (@pe_var _ 1 _ _ rfl v_lead_1 dn_left dc_left) (@pe_var _ 4 _ _ rfl v_lead_4 dn_end dc_end) get_list (@pe_var _ 6 _ _ rfl v_lead_6 dn_amount dc_amount) ip_sub set_list (by intros; rfl)) (@pss_one _ _ _ (@ps_ret _ _ _ _ (@pe_var _ 6 _ _ rfl v_lead_6 dn_amount dc_amount)))))))), ?_⟩
  simp only [rCat, tAugS, ipI, rGetL, tComp_eq, tComp1, slots, Option.getD_some, Option.getD_none, tSeq, tAsg, gName, tOp, tC, tVar, tCB, tCons, tNil, tRet, tIfS, tTest, tLst, tNext, gTup, gCons, gNil, rSetL, rIxL, rIxT, Kd_non, Kd_bl, Kd_int, Kd_str, decide_true, decide_false, tFor_eq, iList, L2.start, cxK, Int.reduceToNat, List.map_cons, List.map_nil, List.length_cons, List.length_nil, Nat.reduceAdd, Nat.reduceSub, Nat.zero_add, List.replicate_succ, List.replicate_zero, List.cons_append, List.nil_append, List.append_nil, List.getElem?_cons_zero, List.getElem?_cons_succ, List.set_cons_zero, List.set_cons_succ, Option.some.injEq, V.int.injEq, V.bl.injEq, V.ref.injEq, V.str.injEq, V.ty.injEq, List.cons.injEq, exists_eq_left', exists_eq_left, exists_eq_right, exists_and_left, exists_and_right, and_true, true_and, and_assoc, exists_const, decide_eq_true_eq, Bool.not_eq_true', Bool.not_true, Bool.not_false, Bool.not_not, decide_eq_false_iff_not, ite_not, Bool.false_eq_true, if_true, if_false, reduceCtorEq, and_false, false_and, exists_false, or_false, false_or, ↓reduceIte, eq_self, reduceIte]
  have l0 : 0 < us.length := by rw [hmv.len]; exact (List.getElem?_eq_some_iff.mp hx0).1
  obtain ⟨v0, hv0⟩ : ∃ v0, us[0]? = some v0 := ⟨_, List.getElem?_eq_getElem l0⟩
  obtain ⟨x0', t0, e0, rfl, hT0⟩ := mv_get hmv hv0
  rw [hx0] at e0
  cases e0
  obtain ⟨ok1, ok2, ok3⟩ := ok x0 (List.mem_iff_getElem?.mpr ⟨_, hx0⟩)
  refine ⟨us, SqL.of hmo, _, atI_nat hv0, t0, rfl, _, hT0, _, rfl, ⟨_, SqL.of hmo⟩, fun D hD => ?_⟩
  obtain ⟨Pc, hC⟩ : ∃ Pc : Nat → St → Hp → Prop, Pc = fun i τ H2 => ∃ (x y z : Option V), H2 D = some (.lst ((thereOf Fl (MV.take i)).map V.int)) ∧ Same H H2 ∧ τ = [some (.ref g), x, y, z] := ⟨_, rfl⟩
  refine compS_list (K := K) us Pc ?_ (fun k σ H3 _ h => by rw [hC] at h; obtain ⟨_, _, _, _, e3, _⟩ := h; exact SqL.of (e3 _ _ hmo)) ?_ ?_
  · rw [hC]
    exact ⟨_, _, _, by rw [upd_same, List.take_zero]; rfl, same_new hD _, rfl⟩
  · intro i v τ H2 R' hi h next
    rw [hC] at h
    obtain ⟨x1, y1, z1, d2, e2, rfl⟩ := h
    obtain ⟨x, t, hx, rfl, hT⟩ := mv_get hmv hi
    have hT2 := Same.tup e2 hT
    have et : MV.take (i + 1) = MV.take i ++ [x] := by
      rw [List.take_add_one, hx]
      rfl
    obtain ⟨o1, o2, o3⟩ := ok x (List.mem_iff_getElem?.mpr ⟨_, hx⟩)
    have li : i < MV.length := (List.getElem?_eq_some_iff.mp hx).1
    have lti : (thereOf Fl (MV.take i)).length ≤ i := by
      refine Nat.le_trans (List.length_filterMap_le ..) ?_
      rw [List.length_take]
      omega
    simp only [rCat, tAugS, ipI, rGetL, tComp_eq, tComp1, slots, Option.getD_some, Option.getD_none, tSeq, tAsg, gName, tOp, tC, tVar, tCB, tCons, tNil, tRet, tIfS, tTest, tLst, tNext, gTup, gCons, gNil, rSetL, rIxL, rIxT, Kd_non, Kd_bl, Kd_int, Kd_str, decide_true, decide_false, tFor_eq, iList, L2.start, cxK, Int.reduceToNat, List.map_cons, List.map_nil, List.length_cons, List.length_nil, Nat.reduceAdd, Nat.reduceSub, Nat.zero_add, List.replicate_succ, List.replicate_zero, List.cons_append, List.nil_append, List.append_nil, List.getElem?_cons_zero, List.getElem?_cons_succ, List.set_cons_zero, List.set_cons_succ, Option.some.injEq, V.int.injEq, V.bl.injEq, V.ref.injEq, V.str.injEq, V.ty.injEq, List.cons.injEq, exists_eq_left', exists_eq_left, exists_eq_right, exists_and_left, exists_and_right, and_true, true_and, and_assoc, exists_const, decide_eq_true_eq, Bool.not_eq_true', Bool.not_true, Bool.not_false, Bool.not_not, decide_eq_false_iff_not, ite_not, Bool.false_eq_true, if_true, if_false, reduceCtorEq, and_false, false_and, exists_false, or_false, false_or, ↓reduceIte, eq_self, reduceIte]
    refine ⟨_, hT2, rfl, _, _, rfl, _, _, rfl, _, _, rfl, rfl, ?_⟩
    cases hb : x.2.1 with
    | none =>
      rw [if_pos (show optV none = V.non from rfl)]
      refine next _ _ ?_
      rw [hC]
      refine ⟨_, _, _, ?_, e2, rfl⟩
      rw [d2, et]
      unfold thereOf
      rw [List.filterMap_append]
      simp [hb]
    | some b =>
      rw [if_neg (fun z => by cases z)]
      have lb := o3 b hb
      obtain ⟨r, hr1⟩ : ∃ r, rs[x.1]? = some r := ⟨_, List.getElem?_eq_getElem (by rw [hF.len, rows.1]; exact o1)⟩
      obtain ⟨row, hrow⟩ : ∃ row, Fl[x.1]? = some row := ⟨_, List.getElem?_eq_getElem (by rw [rows.1]; exact o1)⟩
      have lrow := rows.2 row (List.mem_iff_getElem?.mpr ⟨_, hrow⟩)
      refine ⟨rs.map V.ref, (x.1 : Int), rfl, SqL.of (e2 _ _ hF.top), .ref r, atI_nat (by rw [List.getElem?_map, hr1]; rfl), r, rfl, row.map V.int, (b : Int), rfl, SqL.of (e2 _ _ (hF.row _ r row hr1 hrow)), _, atI_map (by omega) (by omega), _, d2, Nat.lt_of_lt_of_le (m := 1000) (by rw [List.length_map]; omega) (by decide), next _ _ ?_⟩
      rw [hC]
      refine ⟨_, _, _, ?_, same_upd e2 hD _, rfl⟩
      rw [upd_same, et]
      unfold thereOf
      rw [List.filterMap_append, List.map_append]
      have ef : fl Fl x.1 b = row.getD b 0 := by
        unfold fl
        rw [show Fl.getD x.1 [] = row by simp [List.getD, hrow]]
      simp [hb, ef]
  · intro τ H2 h
    rw [hC] at h
    obtain ⟨x1, y1, z1, d2, e2, rfl⟩ := h
    rw [hmv.len, List.take_length] at d2
    have lt : (thereOf Fl MV).length ≤ MV.length := List.length_filterMap_le ..
    have lfx : atI (lf.map V.int) (x0.2.2 : Int) = some (.int (lf.getD x0.2.2 0)) := atI_map (by omega) (by omega)
    simp only [rCat, tAugS, ipI, rGetL, tComp_eq, tComp1, slots, Option.getD_some, Option.getD_none, tSeq, tAsg, gName, tOp, tC, tVar, tCB, tCons, tNil, tRet, tIfS, tTest, tLst, tNext, gTup, gCons, gNil, rSetL, rIxL, rIxT, Kd_non, Kd_bl, Kd_int, Kd_str, decide_true, decide_false, tFor_eq, iList, L2.start, cxK, Int.reduceToNat, List.map_cons, List.map_nil, List.length_cons, List.length_nil, Nat.reduceAdd, Nat.reduceSub, Nat.zero_add, List.replicate_succ, List.replicate_zero, List.cons_append, List.nil_append, List.append_nil, List.getElem?_cons_zero, List.getElem?_cons_succ, List.set_cons_zero, List.set_cons_succ, Option.some.injEq, V.int.injEq, V.bl.injEq, V.ref.injEq, V.str.injEq, V.ty.injEq, List.cons.injEq, exists_eq_left', exists_eq_left, exists_eq_right, exists_and_left, exists_and_right, and_true, true_and, and_assoc, exists_const, decide_eq_true_eq, Bool.not_eq_true', Bool.not_true, Bool.not_false, Bool.not_not, decide_eq_false_iff_not, ite_not, Bool.false_eq_true, if_true, if_false, reduceCtorEq, and_false, false_and, exists_false, or_false, false_or, ↓reduceIte, eq_self, reduceIte]
    refine ⟨lf.map V.int, SqL.of (e2 _ _ hf), _, lfx, by decide, fun p hp => ?_⟩
    have d3 := same_new hp (.lst [V.int wn, .int (lf.getD x0.2.2 0)]) _ _ d2
    refine ⟨_, upd_same, _, d3, Nat.le_trans (m := 1000) (by rw [List.length_map]; simp; omega) (by decide), fun p1 hp1 => ?_⟩
    refine ⟨wn :: lf.getD x0.2.2 0 :: thereOf Fl MV, SqL.of upd_same, by simp, fun a ha hle => ?_⟩
    have S3 : Same H (upd (upd H2 p (.lst [V.int wn, .int (lf.getD x0.2.2 0)])) p1 (.lst ([V.int wn, .int (lf.getD x0.2.2 0)] ++ (thereOf Fl MV).map V.int))) := (e2.trans (same_new hp _)).trans (same_new hp1 _)
    obtain ⟨H3, g3⟩ : ∃ H3, H3 = upd (upd H2 p (.lst [V.int wn, .int (lf.getD x0.2.2 0)])) p1 (.lst ([V.int wn, .int (lf.getD x0.2.2 0)] ++ (thereOf Fl MV).map V.int)) := ⟨_, rfl⟩
    rw [← g3] at S3 ⊢
    refine ⟨⟨us, SqL.of (S3 _ _ hmo)⟩, ?_⟩
    obtain ⟨Pv, hP⟩ : ∃ Pv : Nat → St → Hp → Prop, Pv = fun i σ H' => ∃ (x y z : Option V), FlAt H' g rs (ledF a Fl (MV.take i)) ∧ H' fa = some (.lst (lf.map V.int)) ∧ H' mo = some (.lst us) ∧ MvAt K H' us MV ∧ (∀ b u, b ∉ rs → H b = some u → H' b = some u) ∧ σ = [some (.ref g), some (.ref fa), some (.int wn), some (.ref mo), some (.int (x0.2.2 : Int)), some (.ref D), some (.int a), x, y, z] := ⟨_, rfl⟩
    refine forW_list (K := K) us Pv ?_ (fun k σ H3 _ h => by rw [hP] at h; obtain ⟨_, _, _, _, _, z, _⟩ := h; exact SqL.of z) ?_ ?_
    · rw [hP]
      exact ⟨_, _, _, hF.same S3, S3 _ _ hf, S3 _ _ hmo, hmv.same S3, fun b u _ z => S3 b u z, rfl⟩
    · intro i v σ H4 hi h
      rw [hP] at h
      obtain ⟨x1, y1, z1, F4, f4, m4, v4, fr4, rfl⟩ := h
      obtain ⟨x, t, hx, rfl, hT⟩ := mv_get v4 hi
      obtain ⟨o1, o2, o3⟩ := ok x (List.mem_iff_getElem?.mpr ⟨_, hx⟩)
      have et : MV.take (i + 1) = MV.take i ++ [x] := by
        rw [List.take_add_one, hx]
        rfl
      have R4 : Rows n m (ledF a Fl (MV.take i)) := Rows.led _ rows fun y hy => (ok y (List.mem_of_mem_take hy)).1
      simp only [rCat, tAugS, ipI, rGetL, tComp_eq, tComp1, slots, Option.getD_some, Option.getD_none, tSeq, tAsg, gName, tOp, tC, tVar, tCB, tCons, tNil, tRet, tIfS, tTest, tLst, tNext, gTup, gCons, gNil, rSetL, rIxL, rIxT, Kd_non, Kd_bl, Kd_int, Kd_str, decide_true, decide_false, tFor_eq, iList, L2.start, cxK, Int.reduceToNat, List.map_cons, List.map_nil, List.length_cons, List.length_nil, Nat.reduceAdd, Nat.reduceSub, Nat.zero_add, List.replicate_succ, List.replicate_zero, List.cons_append, List.nil_append, List.append_nil, List.getElem?_cons_zero, List.getElem?_cons_succ, List.set_cons_zero, List.set_cons_succ, Option.some.injEq, V.int.injEq, V.bl.injEq, V.ref.injEq, V.str.injEq, V.ty.injEq, List.cons.injEq, exists_eq_left', exists_eq_left, exists_eq_right, exists_and_left, exists_and_right, and_true, true_and, and_assoc, exists_const, decide_eq_true_eq, Bool.not_eq_true', Bool.not_true, Bool.not_false, Bool.not_not, decide_eq_false_iff_not, ite_not, Bool.false_eq_true, if_true, if_false, reduceCtorEq, and_false, false_and, exists_false, or_false, false_or, ↓reduceIte, eq_self, reduceIte]
      refine ⟨_, hT, rfl, _, _, rfl, _, _, rfl, _, _, rfl, rfl, ?_⟩
      cases hb : x.2.1 with
      | none =>
        rw [if_pos (show optV none = V.non from rfl)]
        obtain ⟨r, row, b1, b2, b3, b4, b5, b6, b7⟩ := aug_at F4 R4 o1 o2 a
        refine ⟨rs.map V.ref, (x.1 : Int), rfl, SqL.of F4.top, _, atI_nat b2, r, rfl, row.map V.int, x.2.2, rfl, SqL.of b3, _, b5, _, rfl, r, rfl, row.map V.int, (x.2.2 : Int), rfl, b3, x.2.2, b6, ?_⟩
        rw [hP]
        refine ⟨_, _, _, ?_, by rw [upd_ne (ne_mem frs b1)]; exact f4, by rw [upd_ne (ne_mem mors b1)]; exact m4, MvAt.upd b3 (fun ys z => by cases z) (fun _ _ z => by cases z) v4, fun b u hb' hu => by rw [upd_ne (ne_mem hb' b1)]; exact fr4 b u hb' hu, rfl⟩
        rw [et, ledF_snoc]
        unfold stepF
        rw [hb]
        exact b7
      | some b =>
        rw [if_neg (fun z => by cases z)]
        obtain ⟨r, row, b1, b2, b3, b4, b5, b6, b7⟩ := aug_at F4 R4 o1 (o3 b hb) (-a)
        rw [← Int.sub_eq_add_neg] at b7
        obtain ⟨H5, g5⟩ : ∃ H5, H5 = upd H4 r (.lst ((row.map V.int).set b (.int (row.getD b 0 - a)))) := ⟨_, rfl⟩
        have v5 : MvAt K H5 us MV := by rw [g5]; exact MvAt.upd b3 (fun ys z => by cases z) (fun _ _ z => by cases z) v4
        have f5 : H5 fa = some (.lst (lf.map V.int)) := by rw [g5, upd_ne (ne_mem frs b1)]; exact f4
        have m5 : H5 mo = some (.lst us) := by rw [g5, upd_ne (ne_mem mors b1)]; exact m4
        have fr5 : ∀ b u, b ∉ rs → H b = some u → H5 b = some u := fun b u hb' hu => by rw [g5, upd_ne (ne_mem hb' b1)]; exact fr4 b u hb' hu
        rw [← g5] at b7
        obtain ⟨r', row', c1, c2, c3, c4, c5, c6, c7⟩ := aug_at b7 (R4.add o1) o1 o2 a
        refine ⟨rs.map V.ref, (x.1 : Int), rfl, SqL.of F4.top, _, atI_nat b2, r, rfl, row.map V.int, b, rfl, SqL.of b3, _, b5, _, rfl, r, rfl, row.map V.int, (b : Int), rfl, b3, b, b6, ?_⟩
        rw [← g5]
        refine ⟨rs.map V.ref, (x.1 : Int), rfl, SqL.of b7.top, _, atI_nat c2, r', rfl, row'.map V.int, x.2.2, rfl, SqL.of c3, _, c5, _, rfl, r', rfl, row'.map V.int, (x.2.2 : Int), rfl, c3, x.2.2, c6, ?_⟩
        rw [hP]
        refine ⟨_, _, _, ?_, by rw [upd_ne (ne_mem frs c1)]; exact f5, by rw [upd_ne (ne_mem mors c1)]; exact m5, MvAt.upd c3 (fun ys z => by cases z) (fun _ _ z => by cases z) v5, fun b u hb' hu => by rw [upd_ne (ne_mem hb' c1)]; exact fr5 b u hb' hu, rfl⟩
        rw [et, ledF_snoc]
        unfold stepF
        rw [hb]
        exact c7
    · intro σ H4 h
      rw [hP] at h
      obtain ⟨x1, y1, z1, F4, f4, m4, v4, fr4, rfl⟩ := h
      rw [hmv.len, List.take_length] at F4
      simp only [rCat, tAugS, ipI, rGetL, tComp_eq, tComp1, slots, Option.getD_some, Option.getD_none, tSeq, tAsg, gName, tOp, tC, tVar, tCB, tCons, tNil, tRet, tIfS, tTest, tLst, tNext, gTup, gCons, gNil, rSetL, rIxL, rIxT, Kd_non, Kd_bl, Kd_int, Kd_str, decide_true, decide_false, tFor_eq, iList, L2.start, cxK, Int.reduceToNat, List.map_cons, List.map_nil, List.length_cons, List.length_nil, Nat.reduceAdd, Nat.reduceSub, Nat.zero_add, List.replicate_succ, List.replicate_zero, List.cons_append, List.nil_append, List.append_nil, List.getElem?_cons_zero, List.getElem?_cons_succ, List.set_cons_zero, List.set_cons_succ, Option.some.injEq, V.int.injEq, V.bl.injEq, V.ref.injEq, V.str.injEq, V.ty.injEq, List.cons.injEq, exists_eq_left', exists_eq_left, exists_eq_right, exists_and_left, exists_and_right, and_true, true_and, and_assoc, exists_const, decide_eq_true_eq, Bool.not_eq_true', Bool.not_true, Bool.not_false, Bool.not_not, decide_eq_false_iff_not, ite_not, Bool.false_eq_true, if_true, if_false, reduceCtorEq, and_false, false_and, exists_false, or_false, false_or, ↓reduceIte, eq_self, reduceIte]
      refine ⟨lf.map V.int, x0.2.2, rfl, SqL.of f4, .int (lf.getD x0.2.2 0), ?_, _, rfl, _, f4, x0.2.2, ixN_nat (by rw [List.length_map]; omega), ?_⟩
      · rw [List.getElem?_map, List.getElem?_eq_getElem (show x0.2.2 < lf.length by omega), My.getD_at (show x0.2.2 < lf.length by omega)]
        rfl
      · refine q a _ ha hle (fun b u hb1 hb2 hu => by rw [upd_ne hb2]; exact fr4 b u hb1 hu) ⟨by rw [upd_ne (Ne.symm fg)]; exact F4.top, F4.len, fun e r fl h1 h2 => ?_, F4.nd, F4.ne⟩ (by rw [upd_same, List.map_set])
        rw [upd_ne (Ne.symm (ne_mem frs (List.mem_iff_getElem?.mpr ⟨_, h1⟩)))]
        exact F4.row e r fl h1 h2
end

end MyD
namespace MyE
open My MyB MyC MyD PySem L2
theorem sum_set : ∀ (l : List Int) (i : Nat) (x : Int), i < l.length → (l.set i x).sum = l.sum + x - l.getD i 0
  | [], i, x, h => absurd h (Nat.not_lt_zero _)
  | y :: l, 0, x, _ => by
    rw [List.set_cons_zero, List.sum_cons, List.sum_cons]
    show x + l.sum = y + l.sum + x - y
    omega
  | y :: l, i + 1, x, h => by
    rw [List.set_cons_succ, List.sum_cons, List.sum_cons, sum_set l i x (by simpa using h)]
    show y + (l.sum + x - l.getD i 0) = y + l.sum + x - l.getD i 0
    omega
def colS (F : List (List Int)) (j : Nat) : Int := (F.map fun r => r.getD j 0).sum
def rowS (F : List (List Int)) (e : Nat) : Int := (F.getD e []).sum
theorem getD_set {α : Type} {l : List α} {i j : Nat} {x d : α} (h : i < l.length) : (l.set i x).getD j d = if i = j then x else l.getD j d := by
  unfold List.getD
  by_cases e : i = j
  · subst e
    rw [List.getElem?_set_self h, if_pos rfl]
    rfl
  · rw [List.getElem?_set_ne e, if_neg e]
section
variable {n m e j : Nat} {a : Int} {F : List (List Int)}
theorem row_len (h : Rows n m F) (he : e < n) : (F.getD e []).length = m := by
  have he' : e < F.length := by rw [h.1]; exact he
  rw [show F.getD e [] = F[e] by simp [List.getD, he']]
  exact h.2 _ (List.getElem_mem he')
theorem fl_add (h : Rows n m F) (he : e < n) (hj : j < m) (e' j' : Nat) : fl (addF F e j a) e' j' = fl F e' j' + (if e = e' ∧ j = j' then a else 0) := by
  have he' : e < F.length := by rw [h.1]; exact he
  have hl := row_len h he
  unfold fl addF
  rw [getD_set he']
  by_cases e1 : e = e'
  · subst e1
    rw [if_pos rfl, getD_set (by omega)]
    by_cases e2 : j = j'
    · subst e2
      rw [if_pos rfl, if_pos ⟨rfl, rfl⟩]
    · rw [if_neg e2, if_neg fun z => e2 z.2]
      omega
  · rw [if_neg e1, if_neg fun z => e1 z.1]
    omega
theorem col_add (h : Rows n m F) (he : e < n) (hj : j < m) (j' : Nat) : colS (addF F e j a) j' = colS F j' + (if j = j' then a else 0) := by
  have he' : e < F.length := by rw [h.1]; exact he
  have hl := row_len h he
  unfold colS addF
  rw [List.map_set, sum_set _ _ _ (by rw [List.length_map]; exact he')]
  have e1 : (F.map fun r => r.getD j' 0).getD e 0 = (F.getD e []).getD j' 0 := by
    simp [List.getD, he']
  rw [e1, getD_set (by omega)]
  by_cases e2 : j = j'
  · subst e2
    rw [if_pos rfl, if_pos rfl]
    omega
  · rw [if_neg e2, if_neg e2]
    omega
theorem row_add (h : Rows n m F) (he : e < n) (hj : j < m) (e' : Nat) : rowS (addF F e j a) e' = rowS F e' + (if e = e' then a else 0) := by
  have he' : e < F.length := by rw [h.1]; exact he
  have hl := row_len h he
  unfold rowS addF
  rw [getD_set he']
  by_cases e1 : e = e'
  · subst e1
    rw [if_pos rfl, if_pos rfl, sum_set _ _ _ (by omega)]
    omega
  · rw [if_neg e1, if_neg e1]
    omega
end
inductive Chn (e0 : Nat) : Nat → List Mv → Prop
  | last (c : Nat) : Chn e0 c [(e0, none, c)]
  | cons {b e c : Nat} {r : List Mv} : Chn e0 b r → Chn e0 c ((e, some b, c) :: r)
theorem chn_of {L : List En} {F : List (List Int)} {e0 p : Nat} {MV : List Mv} (h : Pre L F e0 p MV none) : ∀ (k i : Nat) (x : Mv), MV.length - i = k → MV[i]? = some x → Chn e0 x.2.2 (MV.drop i)
  | 0, i, x, hk, hx => by
    have := (List.getElem?_eq_some_iff.mp hx).1
    omega
  | k + 1, i, x, hk, hx => by
    have li := (List.getElem?_eq_some_iff.mp hx).1
    have ed : MV.drop i = x :: MV.drop (i + 1) := by
      rw [List.drop_eq_getElem_cons li]
      congr 1
      exact (List.getElem?_eq_some_iff.mp hx).2
    rw [ed]
    obtain ⟨xe, xb, xc⟩ := x
    rcases h.ok i _ hx with ⟨h1, h2, _, h3, _⟩ | ⟨b, h1, _, ⟨_, h2⟩ | ⟨y, h2, h3⟩⟩
    · replace h1 : xb = none := h1
      replace h3 : xe = e0 := h3
      subst h1 h3
      rw [List.drop_of_length_le (by omega)]
      exact .last _
    · cases h2
    · replace h1 : xb = some b := h1
      subst h1
      have := chn_of h k (i + 1) y (by omega) h2
      rw [h3] at this
      exact .cons this
theorem Chn.head {e0 c : Nat} {r : List Mv} (h : Chn e0 c r) : c ∈ r.map (·.2.2) := by
  cases h with
  | last => exact List.mem_singleton.mpr rfl
  | cons _ => exact List.mem_cons_self
theorem chn_befores {e0 c : Nat} {r : List Mv} (h : Chn e0 c r) : ∀ x ∈ r, ∀ b, x.2.1 = some b → ∃ y ∈ r.tail, y.2.2 = b := by
  induction h with
  | last c =>
    intro x hx b hb
    rw [List.mem_singleton.mp hx] at hb
    cases hb
  | @cons b e c r hr ih =>
    intro x hx b2 hb2
    rcases List.mem_cons.mp hx with rfl | hx
    · cases hb2
      obtain ⟨y, hy, ey⟩ := List.mem_map.mp hr.head
      exact ⟨y, hy, ey⟩
    · obtain ⟨y, hy, ey⟩ := ih x hx b2 hb2
      exact ⟨y, List.mem_of_mem_tail hy, ey⟩
theorem chn_no_head {e0 c : Nat} {r : List Mv} (h : Chn e0 c r) (nd : (r.map (·.2.2)).Nodup) : ∀ x ∈ r, x.2.1 ≠ some c := fun x hx hb => by
  obtain ⟨y, hy, ey⟩ := chn_befores h x hx c hb
  cases h with
  | last => cases hy
  | cons hr =>
    rw [List.map_cons, List.nodup_cons] at nd
    exact nd.1 (List.mem_map.mpr ⟨y, hy, ey⟩)
section
variable {n m e0 : Nat} {a : Int}
theorem col_led {c : Nat} {MV : List Mv} (h : Chn e0 c MV) (j : Nat) : ∀ {F : List (List Int)}, Rows n m F → MvOk n m MV → colS (ledF a F MV) j = colS F j + (if c = j then a else 0) := by
  induction h with
  | last c =>
    intro F R ok
    obtain ⟨o1, o2, _⟩ := ok _ List.mem_cons_self
    exact col_add R o1 o2 j
  | @cons b e c r _ ih =>
    intro F R ok
    obtain ⟨o1, o2, o3⟩ := ok _ List.mem_cons_self
    have R1 := R.add (j := b) (a := -a) o1
    have := ih (F := stepF a F (e, some b, c)) (R.step o1) fun x hx => ok x (List.mem_cons_of_mem _ hx)
    show colS (ledF a (stepF a F (e, some b, c)) r) j = _
    rw [this]
    show colS (addF (addF F e b (-a)) e c a) j + _ = _
    rw [col_add R1 o1 o2, col_add R o1 (o3 b rfl)]
    by_cases e1 : b = j <;> by_cases e2 : c = j <;> simp [e1, e2] <;> omega
theorem row_led {c : Nat} {MV : List Mv} (h : Chn e0 c MV) (e' : Nat) : ∀ {F : List (List Int)}, Rows n m F → MvOk n m MV → rowS (ledF a F MV) e' = rowS F e' + (if e0 = e' then a else 0) := by
  induction h with
  | last c =>
    intro F R ok
    obtain ⟨o1, o2, _⟩ := ok _ List.mem_cons_self
    exact row_add R o1 o2 e'
  | @cons b e c r _ ih =>
    intro F R ok
    obtain ⟨o1, o2, o3⟩ := ok _ List.mem_cons_self
    have R1 := R.add (j := b) (a := -a) o1
    have := ih (F := stepF a F (e, some b, c)) (R.step o1) fun x hx => ok x (List.mem_cons_of_mem _ hx)
    show rowS (ledF a (stepF a F (e, some b, c)) r) e' = _
    rw [this]
    show rowS (addF (addF F e b (-a)) e c a) e' + _ = _
    rw [row_add R1 o1 o2, row_add R o1 (o3 b rfl)]
    by_cases e1 : e = e' <;> simp [e1] <;> omega
theorem fl_step {F : List (List Int)} {b e c : Nat} (R : Rows n m F) (o1 : e < n) (o2 : c < m) (o3 : b < m) (e' j : Nat) : fl (stepF a F (e, some b, c)) e' j = fl F e' j + (if e = e' ∧ b = j then -a else 0) + (if e = e' ∧ c = j then a else 0) := by
  show fl (addF (addF F e b (-a)) e c a) e' j = _
  rw [fl_add (R.add o1) o1 o2, fl_add R o1 o3]
theorem fl_far {c : Nat} {MV : List Mv} (h : Chn e0 c MV) (j : Nat) : ∀ {F : List (List Int)}, Rows n m F → MvOk n m MV → j ∉ MV.map (·.2.2) → ∀ e', fl (ledF a F MV) e' j = fl F e' j := by
  induction h with
  | last c =>
    intro F R ok hj e'
    obtain ⟨o1, o2, _⟩ := ok _ List.mem_cons_self
    have : c ≠ j := fun z => hj (by rw [z]; exact List.mem_cons_self)
    show fl (addF F e0 c a) e' j = _
    rw [fl_add R o1 o2, if_neg fun z => this z.2]
    omega
  | @cons b e c r hr ih =>
    intro F R ok hj e'
    obtain ⟨o1, o2, o3⟩ := ok _ List.mem_cons_self
    have hj2 : j ∉ r.map (·.2.2) := fun z => hj (List.mem_cons_of_mem _ z)
    have cj : c ≠ j := fun z => hj (by rw [z]; exact List.mem_cons_self)
    have bj : b ≠ j := fun z => hj2 (z ▸ hr.head)
    have := ih (F := stepF a F (e, some b, c)) (R.step o1) (fun x hx => ok x (List.mem_cons_of_mem _ hx)) hj2 e'
    show fl (ledF a (stepF a F (e, some b, c)) r) e' j = _
    rw [this, fl_step R o1 o2 (o3 b rfl), if_neg fun z => bj z.2, if_neg fun z => cj z.2]
    omega
theorem nn_led {c : Nat} {MV : List Mv} (h : Chn e0 c MV) (a0 : 0 ≤ a) : ∀ {F : List (List Int)}, Rows n m F → MvOk n m MV → (MV.map (·.2.2)).Nodup → (∀ e j, 0 ≤ fl F e j) → (∀ x ∈ MV, ∀ b, x.2.1 = some b → a ≤ fl F x.1 b) → ∀ e j, 0 ≤ fl (ledF a F MV) e j := by
  induction h with
  | last c =>
    intro F R ok nd nn th e' j
    obtain ⟨o1, o2, _⟩ := ok _ List.mem_cons_self
    show 0 ≤ fl (addF F e0 c a) e' j
    rw [fl_add R o1 o2]
    have := nn e' j
    split <;> omega
  | @cons b e c r hr ih =>
    intro F R ok nd nn th e' j
    obtain ⟨o1, o2, o3⟩ := ok _ List.mem_cons_self
    have lb := o3 b rfl
    rw [List.map_cons, List.nodup_cons] at nd
    have tb := th _ List.mem_cons_self b rfl
    refine ih (F := stepF a F (e, some b, c)) (R.step o1) (fun x hx => ok x (List.mem_cons_of_mem _ hx)) nd.2 (fun e2 j2 => ?_) (fun x hx b2 hb2 => ?_) e' j
    · rw [fl_step R o1 o2 lb]
      have h1 := nn e2 j2
      by_cases z : e = e2 ∧ b = j2
      · obtain ⟨rfl, rfl⟩ := z
        rw [if_pos ⟨rfl, rfl⟩]
        replace tb : a ≤ fl F e b := tb
        split <;> omega
      · rw [if_neg z]
        split <;> omega
    · have h1 := th x (List.mem_cons_of_mem _ hx) b2 hb2
      rw [fl_step R o1 o2 lb]
      have nb : b ≠ b2 := fun z => by
        subst z
        exact chn_no_head hr nd.2 x hx hb2
      rw [if_neg fun z => nb z.2]
      split <;> omega
theorem su_led {L : List En} {c : Nat} {MV : List Mv} (h : Chn e0 c MV) (a0 : 0 ≤ a) : ∀ {F : List (List Int)}, Rows n m F → MvOk n m MV → (∀ e j, 0 < fl F e j → j ∈ pl L e) → (∀ x ∈ MV, x.2.2 ∈ pl L x.1) → ∀ e j, 0 < fl (ledF a F MV) e j → j ∈ pl L e := by
  induction h with
  | last c =>
    intro F R ok su th e' j hp
    obtain ⟨o1, o2, _⟩ := ok _ List.mem_cons_self
    replace hp : 0 < fl (addF F e0 c a) e' j := hp
    rw [fl_add R o1 o2] at hp
    by_cases z : e0 = e' ∧ c = j
    · obtain ⟨rfl, rfl⟩ := z
      exact th _ List.mem_cons_self
    · rw [if_neg z] at hp
      exact su e' j (by omega)
  | @cons b e c r hr ih =>
    intro F R ok su th e' j hp
    obtain ⟨o1, o2, o3⟩ := ok _ List.mem_cons_self
    refine ih (F := stepF a F (e, some b, c)) (R.step o1) (fun x hx => ok x (List.mem_cons_of_mem _ hx)) (fun e2 j2 h2 => ?_) (fun x hx => th x (List.mem_cons_of_mem _ hx)) e' j hp
    rw [fl_step R o1 o2 (o3 b rfl)] at h2
    by_cases z : e = e2 ∧ c = j2
    · obtain ⟨rfl, rfl⟩ := z
      exact th _ List.mem_cons_self
    · rw [if_neg z] at h2
      refine su e2 j2 ?_
      split at h2 <;> omega
end

end MyE
namespace MyF
open My MyB MyC MyD MyE PySem L2
def top (i : Nat) : Stmt := PySem.Challenge.pw_tariffgate_k64_cuts.main.body.getD i (.Pass ⟨0, 0, 0, 0⟩)
theorem dn_ends : (("ends" : Str) == ("__debug__" : Str)) = false := by decide
theorem dc_ends : (("ends" : Str) == ("__classdict__" : Str)) = false := by decide
theorem dn_reached_by : (("reached_by" : Str) == ("__debug__" : Str)) = false := by decide
theorem dn_lead : (("lead" : Str) == ("__debug__" : Str)) = false := by decide
theorem dn_sorted : (("sorted" : Str) == ("__debug__" : Str)) = false := by decide
theorem nn_sorted : ("sorted" : Str) ≠ "__name__" := by decide
theorem dn_moves_to : (("moves_to" : Str) == ("__debug__" : Str)) = false := by decide
abbrev s_serve : Stmt := top 5
theorem sc_serve : FnScope ["line", "flows", "left", "entry", "wanted", "reached", "ends"] ["line", "flows", "left", "entry"] (defScope s_serve) := ⟨rfl, rfl, rfl, by decide +kernel, rfl, by decide +kernel, by decide +kernel⟩
theorem v_serve_0 : Vis (defScope s_serve) "line" := by first | exact Or.inl rfl | exact Or.inr (Or.inl rfl) | exact Or.inr (Or.inr rfl)
theorem v_serve_1 : Vis (defScope s_serve) "flows" := by first | exact Or.inl rfl | exact Or.inr (Or.inl rfl) | exact Or.inr (Or.inr rfl)
theorem v_serve_2 : Vis (defScope s_serve) "left" := by first | exact Or.inl rfl | exact Or.inr (Or.inl rfl) | exact Or.inr (Or.inr rfl)
theorem v_serve_3 : Vis (defScope s_serve) "entry" := by first | exact Or.inl rfl | exact Or.inr (Or.inl rfl) | exact Or.inr (Or.inr rfl)
theorem v_serve_4 : Vis (defScope s_serve) "wanted" := by first | exact Or.inl rfl | exact Or.inr (Or.inl rfl) | exact Or.inr (Or.inr rfl)
theorem l_serve_4 : Loc (defScope s_serve) "wanted" := by first | exact Or.inl rfl | exact Or.inr rfl
theorem v_serve_5 : Vis (defScope s_serve) "reached" := by first | exact Or.inl rfl | exact Or.inr (Or.inl rfl) | exact Or.inr (Or.inr rfl)
theorem l_serve_5 : Loc (defScope s_serve) "reached" := by first | exact Or.inl rfl | exact Or.inr rfl
theorem v_serve_6 : Vis (defScope s_serve) "ends" := by first | exact Or.inl rfl | exact Or.inr (Or.inl rfl) | exact Or.inr (Or.inr rfl)
theorem l_serve_6 : Loc (defScope s_serve) "ends" := by first | exact Or.inl rfl | exact Or.inr rfl
theorem g_serve_reached_by : (defScope s_serve).names.lookup ("reached_by" : Str) = some .globalImplicit := by rfl
theorem g_serve_len : (defScope s_serve).names.lookup ("len" : Str) = some .globalImplicit := by rfl
theorem g_serve_sorted : (defScope s_serve).names.lookup ("sorted" : Str) = some .globalImplicit := by rfl
theorem g_serve_lead : (defScope s_serve).names.lookup ("lead" : Str) = some .globalImplicit := by rfl
theorem g_serve_moves_to : (defScope s_serve).names.lookup ("moves_to" : Str) = some .globalImplicit := by rfl

structure Flo (L : List En) (n m : Nat) (rooms : List Int) (F : List (List Int)) (lf : List Int) : Prop where
  rows : Rows n m F
  nn : ∀ e j, 0 ≤ fl F e j
  su : ∀ e j, 0 < fl F e j → j ∈ pl L e
  ln : lf.length = m
  l0 : ∀ j, 0 ≤ lf.getD j 0
  col : ∀ j, j < m → colS F j + lf.getD j 0 = rooms.getD j 0
def Shut (L : List En) (F : List (List Int)) (lf : List Int) (S : Nat → Prop) : Prop := (∀ j, S j → lf.getD j 0 = 0) ∧ ∀ j, S j → ∀ e o, Led L F j e o → S o
theorem led_all {L : List En} {n m e0 p : Nat} {rooms lf : List Int} {F : List (List Int)} {MV : List Mv} {a : Int} (h : Flo L n m rooms F lf) (pre : Pre L F e0 p MV none) (ok : MvOk n m MV) (a0 : 0 ≤ a) (al : a ≤ lf.getD p 0) (pm : p < m) (th : ∀ z ∈ thereOf F MV, a ≤ z) :
    Flo L n m rooms (ledF a F MV) (lf.set p (lf.getD p 0 - a)) ∧ (∀ e, rowS (ledF a F MV) e = rowS F e + (if e0 = e then a else 0)) ∧ ((0 < lf.getD p 0) → ∀ S, Shut L F lf S → Shut L (ledF a F MV) (lf.set p (lf.getD p 0 - a)) S) := by
  obtain ⟨x0, hx0, ex0⟩ : ∃ x, MV[0]? = some x ∧ x.2.2 = p := by
    rcases pre.hd with ⟨_, z⟩ | z
    · cases z
    · exact z
  have chn : Chn e0 p MV := by
    have := chn_of pre _ 0 x0 rfl hx0
    rw [ex0] at this
    exact this
  have lp : p < lf.length := by rw [h.ln]; exact pm
  have th2 : ∀ x ∈ MV, ∀ b, x.2.1 = some b → a ≤ fl F x.1 b := fun x hx b hb => th _ (List.mem_filterMap.mpr ⟨x, hx, by rw [hb]; rfl⟩)
  have inp : ∀ x ∈ MV, x.2.2 ∈ pl L x.1 := fun x hx => by
    obtain ⟨i, hi⟩ := List.mem_iff_getElem?.mp hx
    rcases pre.ok i x hi with ⟨_, _, _, h1, h2⟩ | ⟨b, _, h1, _⟩
    · rw [h1]; exact h2
    · exact h1.2.2
  have R' := Rows.led (a := a) MV h.rows fun x hx => (ok x hx).1
  refine ⟨⟨R', nn_led chn a0 h.rows ok pre.nd h.nn th2, su_led chn a0 h.rows ok h.su inp, by rw [List.length_set]; exact h.ln, fun j => ?_, fun j hj => ?_⟩, fun e => row_led chn e h.rows ok, fun lpos S sh => ?_⟩
  · rw [getD_set lp]
    split
    · omega
    · exact h.l0 j
  · rw [col_led chn j h.rows ok, getD_set lp]
    have := h.col j hj
    by_cases z : p = j
    · subst z
      rw [if_pos rfl, if_pos rfl]
      omega
    · rw [if_neg z, if_neg z]
      omega
  · have pS : ¬ S p := fun z => by
      have := sh.1 p z
      omega
    have out : ∀ (k i : Nat) (x : Mv), i = k → MV[i]? = some x → ¬ S x.2.2 := by
      intro k
      induction k with
      | zero =>
        intro i x hi hx
        subst hi
        rw [hx0] at hx
        cases hx
        rw [ex0]
        exact pS
      | succ k ih =>
        intro i x hi hx
        have li := (List.getElem?_eq_some_iff.mp hx).1
        obtain ⟨y, hy⟩ : ∃ y, MV[k]? = some y := ⟨_, List.getElem?_eq_getElem (by omega)⟩
        have hyS := ih k y rfl hy
        rcases pre.ok k y hy with ⟨_, h2, _⟩ | ⟨b, _, h1, ⟨_, h2⟩ | ⟨x', h2, h3⟩⟩
        · omega
        · cases h2
        · rw [← hi, hx] at h2
          cases h2
          rw [h3]
          exact fun z => hyS (sh.2 b z _ _ h1)
    have far : ∀ j, S j → ∀ e, fl (ledF a F MV) e j = fl F e j := fun j hj => fl_far chn j h.rows ok fun z => by
      obtain ⟨x, hx, ex⟩ := List.mem_map.mp z
      obtain ⟨i, hi⟩ := List.mem_iff_getElem?.mp hx
      exact out i i x rfl hi (by rw [ex]; exact hj)
    refine ⟨fun j hj => ?_, fun j hj e o hl => ?_⟩
    · rw [getD_set lp, if_neg (fun z => pS (by rw [z]; exact hj))]
      exact sh.1 j hj
    · obtain ⟨h1, h2, h3⟩ := hl
      rw [far j hj] at h2
      exact sh.2 j hj e o ⟨by rw [R'.1] at h1; rw [h.rows.1]; exact h1, h2, h3⟩
theorem sqt_but {K : PySem.W.Frag} {H H' : Hp} {D p : Addr} {o : HO} {xs : List V} (hD : H D = some o) (n1 : ∀ ys, o ≠ .tup ys) (n2 : ∀ ob ys, o ≠ .frz ob (.tup ys)) (e : ∀ b, b ≠ D → H' b = H b) (h : SqT K H p xs) : SqT K H' p xs := by
  rcases h with (h | ⟨ob, h⟩) | h
  · exact .inl (.inl (by rw [e p (fun z => by rw [z, hD] at h; cases h; exact n1 _ rfl)]; exact h))
  · exact .inl (.inr ⟨ob, by rw [e p (fun z => by rw [z, hD] at h; cases h; exact n2 _ _ rfl)]; exact h⟩)
  · exact .inr h
theorem rc_but {K : PySem.W.Frag} {H H' : Hp} {D : Addr} {o : HO} (hD : H D = some o) (n1 : ∀ ys, o ≠ .tup ys) (n2 : ∀ ob ys, o ≠ .frz ob (.tup ys)) (e : ∀ b, b ≠ D → H' b = H b) : ∀ {kvs : List (Key × V)} {R : List Rc}, RcAt K H kvs R → RcAt K H' kvs R
  | _, _, .nil => .nil
  | _, _, .cons ⟨a, t, b, c⟩ r => .cons ⟨a, t, b, sqt_but hD n1 n2 e c⟩ (rc_but hD n1 n2 e r)
theorem mv_ok {L : List En} {F : List (List Int)} {e0 p m : Nat} {MV : List Mv} (pre : Pre L F e0 p MV none) (hn : F.length = e0 + 1) (lt : ∀ x ∈ MV, x.2.2 < m) : MvOk (e0 + 1) m MV := fun x hx => by
  obtain ⟨i, hi⟩ := List.mem_iff_getElem?.mp hx
  rcases pre.ok i x hi with ⟨h1, _, _, h2, _⟩ | ⟨b, h1, h2, ⟨_, h3⟩ | ⟨y, h3, h4⟩⟩
  · exact ⟨by omega, lt x hx, fun b hb => by rw [h1] at hb; cases hb⟩
  · cases h3
  · refine ⟨by have := h2.1; omega, lt x hx, fun b' hb => ?_⟩
    rw [h1] at hb
    cases hb
    rw [← h4]
    exact lt y (List.mem_iff_getElem?.mpr ⟨_, h3⟩)
theorem there_pos {L : List En} {F : List (List Int)} {e0 p : Nat} {MV : List Mv} (pre : Pre L F e0 p MV none) : ∀ z ∈ thereOf F MV, 0 < z := fun z hz => by
  obtain ⟨x, hx, e⟩ := List.mem_filterMap.mp hz
  obtain ⟨i, hi⟩ := List.mem_iff_getElem?.mp hx
  rcases pre.ok i x hi with ⟨h1, _⟩ | ⟨b, h1, h2, _⟩
  · rw [h1] at e
    cases e
  · rw [h1] at e
    cases e
    exact h2.2.1
def spServe (K : PySem.W.Frag) : Sp := fun vs H Q _ => ∃ (l g fa : Addr) (e0 m : Nat) (L : List En) (rs : List Addr) (F : List (List Int)) (lf rooms : List Int) (en : En) (H0 : Hp), vs = [.ref l, .ref g, .ref fa, .int e0] ∧ LnAt K H0 l L ∧ Same H0 H ∧ H0 fa = none ∧ (∀ r ∈ rs, H0 r = none) ∧ FlAt H g rs F ∧ Siz m L F ∧ Flo L (e0 + 1) m rooms F lf ∧ H fa = some (.lst (lf.map V.int)) ∧ fa ∉ rs ∧ fa ≠ g ∧ L[e0]? = some en ∧ 0 ≤ en.2 ∧ rowS F e0 = 0 ∧
  ∀ (F' : List (List Int)) (lf' : List Int) (H' : Hp), Same H0 H' → (∀ b u, b ∉ rs → b ≠ fa → H b = some u → H' b = some u) → FlAt H' g rs F' → H' fa = some (.lst (lf'.map V.int)) → Flo L (e0 + 1) m rooms F' lf' → (∀ e, e ≠ e0 → rowS F' e = rowS F e) → (∀ S, Shut L F lf S → Shut L F' lf' S) →
    (rowS F' e0 = en.2 → Q .non H') ∧ ∀ (c : Addr) (ns : List Int), H c = none → H' c = some (.lst (ns.map V.int)) → rowS F' e0 < en.2 → ns.Pairwise (· < ·) → (∀ x ∈ ns, ∃ j : Nat, x = (j : Int) ∧ j < m) → Shut L F' lf' (fun j => (j : Int) ∈ ns) → (∀ j ∈ pl L e0, (j : Int) ∈ ns) → Q (.ref c) H'
section
variable {P : Program} {w : World} {K : PySem.W.Frag} {mg : Str → Option Value} {base : Heap} {f : Addr} {fd : FuncData}
theorem ok_serve (F : Fun K "serve" "serve" s_serve f fd) (M : Mg mg) (C_reached_by : Cal P w K mg base CX0 "reached_by" 2 ["line", "flows", "entry"] (spRch K)) (C_moves_to : Cal P w K mg base CX0 "moves_to" 1 ["reached", "place"] (spMoves K)) (C_lead : Cal P w K mg base CX0 "lead" 1 ["flows", "left", "wanted", "moves"] (spLead K)) : FnOk P w K mg base CX0 3 f fd ["line", "flows", "left", "entry"] (spServe K) := by
  refine F.ok sc_serve (fun vs H Q E h => ?_) (fun cdv A outer s H vs Q E hr h => ?_)
  · obtain ⟨l, g, fa, e0, m, L, rs, F', lf, rooms, en, H0, rfl, _⟩ := h
    rfl
  obtain ⟨l, g, fa, e0, m, L, rs, Fl, lf, rooms, en, H0, rfl, hL0, S0, hfa0, hrs0, hF, sz, flo, hf, frs, fg, hen, w0, row0, q⟩ := h
  refine ⟨_, (@pss_cons _ _ _ _ _ (@ps_set _ _ 4 _ _ _ _ sc_serve.nd rfl l_serve_4 (@pe_ix _ _ _ _ _ _ _ (@ix_tup _) (@pe_ix _ _ _ _ _ _ _ (@ix_list _) (@pe_var _ 0 _ _ rfl v_serve_0 dn_line dc_line) (@pe_var _ 3 _ _ rfl v_serve_3 dn_entry dc_entry) (fun _ _ => rfl)) (@pe_int _ _ _ _) (fun _ _ => rfl)) (swap1 rfl) (.inl rfl)) (@pss_cons _ _ _ _ _ (@ps_while _ _ _ _ _ _ PassesOwn.never (@pt_cmpR _ _ _ _ _ _ _ _ (@op_gt _) (@pe_var _ 4 _ _ rfl v_serve_4 dn_wanted dc_wanted) (@pe_int _ _ _ _) (nomark _)) (@pss_cons _ _ _ _ _ (@ps_set _ _ 5 _ _ _ _ sc_serve.nd rfl l_serve_5 (@pe_callC _ _ _ _ _ _ _ _ _ _ _ C_reached_by hr g_serve_reached_by (@pa_cons _ _ _ _ _ (@pe_var _ 0 _ _ rfl v_serve_0 dn_line dc_line) (@pa_cons _ _ _ _ _ (@pe_var _ 1 _ _ rfl v_serve_1 dn_flows dc_flows) (@pa_cons _ _ _ _ _ (@pe_var _ 3 _ _ rfl v_serve_3 dn_entry dc_entry) (@pa_nil _) (star1 rfl)) (star1 rfl)) (star1 rfl)) (by decide) dn_reached_by (star1 rfl) (nost1 rfl (nost1 rfl nost0))) (swap1 rfl) (.inl rfl)) (@pss_cons _ _ _ _ _ (@ps_setComp _ _ _ _ _ _ _ _ _ _ _ _ _ _ _ 6 _ _ _ sc_serve.nd rfl l_serve_6 rfl (CompOk.make (N' := ["left", "place"]) (ix := [2]) (nl := 1) (by rfl) (fm1 rfl fm0) (by rfl) (by decide +kernel) rfl (by decide +kernel) rfl (And.intro ⟨rfl, .inl rfl, .inl rfl⟩ True.intro)) (@pi_dictK _ _ _ _ (@pe_var _ 5 _ _ rfl v_serve_5 dn_reached dc_reached)) (fun _ _ _ _ _ => (@pg_name _ _ 1 _ (show List.Nodup (["left", "place"] : List Str) from by decide) rfl (Or.inl rfl) (by first | exact .inl rfl | exact .inr rfl | assumption))) (fun _ _ _ _ _ => (@pif_one _ _ _ (@pt_cmpR _ _ _ _ _ _ _ _ (@op_gt _) (@pe_ix _ _ _ _ _ _ _ (@ix_listK _ K rfl) (@pv _ 0 _ _ (by rfl) (by first | exact Or.inl rfl | exact Or.inr (Or.inl rfl) | exact Or.inr (Or.inr rfl)) (by decide) (by decide)) (@pv _ 1 _ _ (by rfl) (by first | exact Or.inl rfl | exact Or.inr (Or.inl rfl) | exact Or.inr (Or.inr rfl)) (by decide) (by decide)) (fun _ _ => rfl)) (@pe_int _ _ _ _) (nomark _)))) (fun _ _ _ _ _ => (@pv _ 1 _ _ (by rfl) (by first | exact Or.inl rfl | exact Or.inr (Or.inl rfl) | exact Or.inr (Or.inr rfl)) (by decide) (by decide))) (by rfl) (by intro _; rfl) (by first | exact .inl rfl | exact .inr rfl | assumption)) (@pss_cons _ _ _ _ _ (@ps_if _ _ _ _ _ _ _ _ (@pt_cmpR _ _ _ _ _ _ _ _ (@op_eq _) (@pe_callB _ _ _ _ _ _ _ _ _ call_len_seq g_serve_len M.m_len b_len (@pa_cons _ _ _ _ _ (@pe_var _ 6 _ _ rfl v_serve_6 dn_ends dc_ends) (@pa_nil _) (star1 rfl)) nn_len dn_len (star1 rfl) nost0) (@pe_int _ _ _ _) (nomark _)) (@pss_one _ _ _ (@ps_ret _ _ _ _ (@pe_callB _ _ _ _ _ _ _ _ _ (call_sortedDI rfl) g_serve_sorted M.m_sorted b_sorted (@pa_cons _ _ _ _ _ (@pe_var _ 5 _ _ rfl v_serve_5 dn_reached dc_reached) (@pa_nil _) (star1 rfl)) nn_sorted dn_sorted (star1 rfl) nost0))) (@pss_nil _)) (@pss_one _ _ _ (@ps_aug _ _ 4 _ _ _ _ _ _ sc_serve.nd rfl l_serve_4 (@pe_callC _ _ _ _ _ _ _ _ _ _ _ C_lead hr g_serve_lead (@pa_cons _ _ _ _ _ (@pe_var _ 1 _ _ rfl v_serve_1 dn_flows dc_flows) (@pa_cons _ _ _ _ _ (@pe_var _ 2 _ _ rfl v_serve_2 dn_left dc_left) (@pa_cons _ _ _ _ _ (@pe_var _ 4 _ _ rfl v_serve_4 dn_wanted dc_wanted) (@pa_cons _ _ _ _ _ (@pe_callC _ _ _ _ _ _ _ _ _ _ _ C_moves_to hr g_serve_moves_to (@pa_cons _ _ _ _ _ (@pe_var _ 5 _ _ rfl v_serve_5 dn_reached dc_reached) (@pa_cons _ _ _ _ _ (@pe_ix _ _ _ _ _ _ _ (@ix_list _) (@pe_var _ 6 _ _ rfl v_serve_6 dn_ends dc_ends) (@pe_int _ _ _ _) (fun _ _ => rfl)) (@pa_nil _) (star1 rfl)) (star1 rfl)) (by decide) dn_moves_to (star1 rfl) (nost1 rfl nost0)) (@pa_nil _) (star1 rfl)) (star1 rfl)) (star1 rfl)) (star1 rfl)) (by decide) dn_lead (star1 rfl) (nost1 rfl (nost1 rfl (nost1 rfl nost0)))) ip_sub (.inl rfl))))))) (@pss_one _ _ _ (@ps_ret _ _ _ _ (@pe_non _ _ _))))), ?_⟩
  obtain ⟨us, t, q', a1, a2, a3, a4⟩ := (hL0.same S0).get hen
  simp only [iDictK, tAug, ipI, tComp_eq, tComp1, slots, Option.getD_some, Option.getD_none, tSeq, tAsg, gName, tOp, tC, tVar, tCB, tCons, tNil, tCall, rI0, tRet, tIfS, tTest, tNext, rEq, rIxL, rIxT, Kd_non, Kd_bl, Kd_int, Kd_str, sc_non_non, sc_non_int, sc_int_non, sc_non_bl, sc_bl_non, sc_non_str, sc_str_non, sc_int_int, sc_bl_bl, sc_str_str, sc_int_str, sc_str_int, sc_bl_str, sc_str_bl, decide_true, decide_false, L2.start, cxK, Int.reduceToNat, List.map_cons, List.map_nil, List.length_cons, List.length_nil, Nat.reduceAdd, Nat.reduceSub, Nat.zero_add, List.replicate_succ, List.replicate_zero, List.cons_append, List.nil_append, List.append_nil, List.getElem?_cons_zero, List.getElem?_cons_succ, List.set_cons_zero, List.set_cons_succ, Option.some.injEq, V.int.injEq, V.bl.injEq, V.ref.injEq, V.str.injEq, V.ty.injEq, List.cons.injEq, exists_eq_left', exists_eq_left, exists_eq_right, exists_and_left, exists_and_right, and_true, true_and, and_assoc, exists_const, decide_eq_true_eq, Bool.not_eq_true', Bool.not_true, Bool.not_false, Bool.not_not, decide_eq_false_iff_not, ite_not, Bool.false_eq_true, if_true, if_false, reduceCtorEq, and_false, false_and, exists_false, or_false, false_or, ↓reduceIte, eq_self, reduceIte]
  refine ⟨us, a1, _, atI_nat a2, t, rfl, _, a3, _, rfl, ?_⟩
  obtain ⟨IV, hIV⟩ : ∃ IV : Nat → St → Hp → Prop, IV = fun N σ H' => ∃ (F' : List (List Int)) (lf' : List Int) (wn : Int) (x y : Option V), Same H0 H' ∧ (∀ b u, b ∉ rs → b ≠ fa → H b = some u → H' b = some u) ∧ FlAt H' g rs F' ∧ H' fa = some (.lst (lf'.map V.int)) ∧ Flo L (e0 + 1) m rooms F' lf' ∧ (∀ e, e ≠ e0 → rowS F' e = rowS Fl e) ∧ (∀ S, Shut L Fl lf S → Shut L F' lf' S) ∧ rowS F' e0 + wn = en.2 ∧ 0 ≤ wn ∧ N = wn.toNat ∧ σ = [some (.ref l), some (.ref g), some (.ref fa), some (.int (e0 : Int)), some (.int wn), x, y] := ⟨_, rfl⟩
  refine ⟨IV, ⟨en.2.toNat, ?_⟩, ?_⟩
  · rw [hIV]
    exact ⟨Fl, lf, en.2, _, _, S0, fun b u _ _ z => z, hF, hf, flo, fun _ _ => rfl, fun _ z => z, by omega, w0, rfl, rfl⟩
  intro N σ H3 h3
  rw [hIV] at h3
  obtain ⟨F3, lf3, wn, x, y, S3, fr3, hF3, hf3, flo3, row3, sh3, sum3, wn0, rfl, rfl⟩ := h3
  obtain ⟨qa, qb⟩ := q F3 lf3 H3 S3 fr3 hF3 hf3 flo3 row3 sh3
  simp only [iDictK, tAug, ipI, tComp_eq, tComp1, slots, Option.getD_some, Option.getD_none, tSeq, tAsg, gName, tOp, tC, tVar, tCB, tCons, tNil, tCall, rI0, tRet, tIfS, tTest, tNext, rEq, rIxL, rIxT, Kd_non, Kd_bl, Kd_int, Kd_str, sc_non_non, sc_non_int, sc_int_non, sc_non_bl, sc_bl_non, sc_non_str, sc_str_non, sc_int_int, sc_bl_bl, sc_str_str, sc_int_str, sc_str_int, sc_bl_str, sc_str_bl, decide_true, decide_false, L2.start, cxK, Int.reduceToNat, List.map_cons, List.map_nil, List.length_cons, List.length_nil, Nat.reduceAdd, Nat.reduceSub, Nat.zero_add, List.replicate_succ, List.replicate_zero, List.cons_append, List.nil_append, List.append_nil, List.getElem?_cons_zero, List.getElem?_cons_succ, List.set_cons_zero, List.set_cons_succ, Option.some.injEq, V.int.injEq, V.bl.injEq, V.ref.injEq, V.str.injEq, V.ty.injEq, List.cons.injEq, exists_eq_left', exists_eq_left, exists_eq_right, exists_and_left, exists_and_right, and_true, true_and, and_assoc, exists_const, decide_eq_true_eq, Bool.not_eq_true', Bool.not_true, Bool.not_false, Bool.not_not, decide_eq_false_iff_not, ite_not, Bool.false_eq_true, if_true, if_false, reduceCtorEq, and_false, false_and, exists_false, or_false, false_or, ↓reduceIte, eq_self, reduceIte]
  by_cases hw : 0 < wn
  · rw [if_pos hw]
    have sz3 : Siz m L F3 := ⟨by rw [flo3.rows.1, ← flo.rows.1]; exact sz.fl, sz.l, flo3.rows.2, sz.pl, sz.nd, sz.m⟩
    have hL3 := hL0.same S3
    refine ⟨fun σ' H' => ∃ m', m' < wn.toNat ∧ IV m' σ' H', fun _ _ h => h, l, g, e0, m, L, rs, F3, rfl, hL3, hF3, sz3, (List.getElem?_eq_some_iff.mp hen).1, fun D kvs R H4 e4 hD d4 r4 rch lt4 => ?_⟩
    refine ⟨D, rfl, kvs, .inl d4, fun ob H5 h5 oth C hC => ?_⟩
    have s35 : Same H3 H5 := fun b u hb => by
      rw [oth b (ne_of_none hb hD)]
      exact e4 b u hb
    have r5 : RcAt K H5 kvs R := rc_but d4 (fun ys z => by cases z) (fun _ _ z => by cases z) oth r4
    have lR : R.length ≤ 60 := by
      have := nd_len m _ rch.way.nd lt4
      rw [List.length_map] at this
      have := sz.m
      omega
    obtain ⟨Pc, hPc⟩ : ∃ Pc : Nat → St → Hp → Prop, Pc = fun i τ H6 => ∃ (z : Option V), H6 C = some (.lst ((((R.map (·.1)).take i).filter fun j => decide (0 < lf3.getD j 0)).map fun j : Nat => V.int (j : Int))) ∧ Same H5 H6 ∧ τ = [some (.ref fa), z] := ⟨_, rfl⟩
    refine compS_dictK kvs Pc ?_ (fun i τ H6 _ h => by rw [hPc] at h; obtain ⟨_, _, e6, _⟩ := h; exact e6 _ _ h5) ?_ ?_
    · rw [hPc]
      exact ⟨_, by rw [upd_same]; rfl, same_new hC _, rfl⟩
    · intro i k v τ H6 R' hk h next
      rw [hPc] at h
      obtain ⟨z, d6, e6, rfl⟩ := h
      have hki : (kvs.map (·.1))[i]? = some k := by rw [List.getElem?_map, hk]; rfl
      rw [r5.keys, List.getElem?_map] at hki
      obtain ⟨xr, hxr, rfl⟩ := Option.map_eq_some_iff.mp hki
      have hp : (R.map (·.1))[i]? = some xr.1 := by rw [List.getElem?_map, hxr]; rfl
      have et : (R.map (·.1)).take (i + 1) = (R.map (·.1)).take i ++ [xr.1] := by
        rw [List.take_add_one, hp]
        rfl
      have lm : xr.1 < m := lt4 _ (List.mem_iff_getElem?.mpr ⟨_, hp⟩)
      have lfl := flo3.ln
      have hat : atI (lf3.map V.int) (xr.1 : Int) = some (.int (lf3.getD xr.1 0)) := atI_map (by omega) (by omega)
      have lf6 : ((((R.map (·.1)).take i).filter fun j => decide (0 < lf3.getD j 0)).map fun j : Nat => V.int (j : Int)).length ≤ 60 := by
        rw [List.length_map]
        refine Nat.le_trans (List.length_filter_le ..) ?_
        rw [List.length_take, List.length_map]
        omega
      show tComp1 C (gName 1) _ _ (V.int (xr.1 : Int)) _ _ _
      simp only [iDictK, tAug, ipI, tComp_eq, tComp1, slots, Option.getD_some, Option.getD_none, tSeq, tAsg, gName, tOp, tC, tVar, tCB, tCons, tNil, tCall, rI0, tRet, tIfS, tTest, tNext, rEq, rIxL, rIxT, Kd_non, Kd_bl, Kd_int, Kd_str, sc_non_non, sc_non_int, sc_int_non, sc_non_bl, sc_bl_non, sc_non_str, sc_str_non, sc_int_int, sc_bl_bl, sc_str_str, sc_int_str, sc_str_int, sc_bl_str, sc_str_bl, decide_true, decide_false, L2.start, cxK, Int.reduceToNat, List.map_cons, List.map_nil, List.length_cons, List.length_nil, Nat.reduceAdd, Nat.reduceSub, Nat.zero_add, List.replicate_succ, List.replicate_zero, List.cons_append, List.nil_append, List.append_nil, List.getElem?_cons_zero, List.getElem?_cons_succ, List.set_cons_zero, List.set_cons_succ, Option.some.injEq, V.int.injEq, V.bl.injEq, V.ref.injEq, V.str.injEq, V.ty.injEq, List.cons.injEq, exists_eq_left', exists_eq_left, exists_eq_right, exists_and_left, exists_and_right, and_true, true_and, and_assoc, exists_const, decide_eq_true_eq, Bool.not_eq_true', Bool.not_true, Bool.not_false, Bool.not_not, decide_eq_false_iff_not, ite_not, Bool.false_eq_true, if_true, if_false, reduceCtorEq, and_false, false_and, exists_false, or_false, false_or, ↓reduceIte, eq_self, reduceIte]
      refine ⟨_, SqL.of (e6 _ _ (s35 _ _ hf3)), _, hat, _, rfl, ?_⟩
      by_cases hpos : 0 < lf3.getD xr.1 0
      · rw [if_pos hpos]
        refine ⟨_, d6, Nat.lt_of_lt_of_le (m := 1000) (by omega) (by decide), next _ _ ?_⟩
        rw [hPc]
        refine ⟨_, ?_, same_upd e6 hC _, rfl⟩
        rw [upd_same, et, List.filter_append, List.filter_cons_of_pos (by rw [decide_eq_true hpos]), List.map_append]
        rfl
      · rw [if_neg hpos]
        refine next _ _ ?_
        rw [hPc]
        refine ⟨_, ?_, e6, rfl⟩
        rw [et, List.filter_append, List.filter_cons_of_neg (by rw [decide_eq_false hpos]; decide), List.filter_nil, List.append_nil]
        exact d6
    · intro τ H6 h
      rw [hPc] at h
      obtain ⟨z, d6, e6, rfl⟩ := h
      rw [r5.len, ← List.length_map (f := fun x : Rc => x.1), List.take_length] at d6
      have s36 := s35.trans e6
      have h6D := e6 _ _ h5
      have r6 := RcAt.same e6 r5
      obtain ⟨es, hes⟩ : ∃ es : List Nat, es = (R.map (·.1)).filter fun j => decide (0 < lf3.getD j 0) := ⟨_, rfl⟩
      rw [← hes] at d6
      have noH : ∀ c, H6 c = none → H c = none := fun c hc => by
        have h3c := s36.free hc
        cases hcH : H c with
        | none => rfl
        | some u =>
          by_cases c1 : c ∈ rs
          · obtain ⟨i, hi⟩ := List.mem_iff_getElem?.mp c1
            obtain ⟨row, hrow⟩ : ∃ row, F3[i]? = some row := ⟨_, List.getElem?_eq_getElem (by rw [← hF3.len]; exact (List.getElem?_eq_some_iff.mp hi).1)⟩
            rw [hF3.row i c row hi hrow] at h3c
            cases h3c
          · by_cases c2 : c = fa
            · rw [c2, hf3] at h3c
              cases h3c
            · rw [fr3 c u c1 c2 hcH] at h3c
              cases h3c
      refine ⟨C, rfl, _, .inl (SqL.of d6), ?_⟩
      cases es with
      | nil =>
        rw [if_pos (by simp)]
        refine ⟨D, rfl, kvs, .inr ⟨ob, h6D⟩, R.map fun x => (x.1 : Int), by rw [r6.keys, List.map_map]; rfl, by rw [List.length_map]; omega, fun c ns' hc hp hs => ?_⟩
        have inn : ∀ j : Nat, (j : Int) ∈ ns' ↔ j ∈ R.map (·.1) := fun j => by
          rw [hp.mem_iff]
          constructor
          · intro z
            obtain ⟨x, hx, e⟩ := List.mem_map.mp z
            exact List.mem_map.mpr ⟨x, hx, by omega⟩
          · intro z
            obtain ⟨x, hx, e⟩ := List.mem_map.mp z
            exact List.mem_map.mpr ⟨x, hx, by rw [e]⟩
        have nd9 : ns'.Nodup := by
          refine hp.nodup_iff.mpr ?_
          have e9 : (R.map fun x => (x.1 : Int)) = (R.map (·.1)).map fun j : Nat => (j : Int) := by rw [List.map_map]; rfl
          rw [e9]
          exact List.pairwise_map.mpr (rch.way.nd.imp fun a b => a (by omega))
        have hs9 : ns'.Pairwise (· < ·) := (hs.and nd9).imp fun ab => by have := ab.1; have := ab.2; omega
        have rg9 : ∀ x ∈ ns', ∃ j : Nat, x = (j : Int) ∧ j < m := fun x hx => by
          obtain ⟨y, hy, ey⟩ := List.mem_map.mp (hp.mem_iff.mp hx)
          exact ⟨y.1, ey.symm, lt4 _ (List.mem_map.mpr ⟨y, hy, rfl⟩)⟩
        have s3c := s36.trans (same_new hc (.lst (ns'.map V.int)))
        refine (q F3 lf3 _ (S3.trans s3c) (fun b u b1 b2 z => s3c _ _ (fr3 b u b1 b2 z)) (hF3.same s3c) (s3c _ _ hf3) flo3 row3 sh3).2 c ns' (noH c hc) upd_same (by omega) hs9 rg9 ⟨fun j hj => ?_, fun j hj e o hl => (inn o).mpr (rch.shut j ((inn j).mp hj) e o hl)⟩ fun j hj => (inn j).mpr (rch.base j hj)
        have jR := (inn j).mp hj
        have nn := flo3.l0 j
        by_cases z : 0 < lf3.getD j 0
        · have : j ∈ ([] : List Nat) := by
            rw [hes]
            exact List.mem_filter.mpr ⟨jR, decide_eq_true z⟩
          cases this
        · omega
      | cons p es =>
        rw [if_neg (by simp; omega)]
        have pf : p ∈ (R.map (·.1)).filter fun j => decide (0 < lf3.getD j 0) := by rw [← hes]; exact List.mem_cons_self
        obtain ⟨pR, pp⟩ := List.mem_filter.mp pf
        have ppos : 0 < lf3.getD p 0 := of_decide_eq_true pp
        have at0 : atI ((p :: es).map fun j : Nat => V.int (j : Int)) 0 = some (V.int (p : Int)) := atI_nat (j := 0) rfl
        refine ⟨C, rfl, _, SqL.of d6, _, at0, D, p, e0, m, L, F3, kvs, R, rfl, .inr ⟨ob, h6D⟩, r6, rch.way, pR, by omega, fun lm vs MV H7 e7 hlm d7 mv7 pre7 in7 => ?_⟩
        have s37 := s36.trans e7
        obtain ⟨x0, hx0, ex0⟩ : ∃ x, MV[0]? = some x ∧ x.2.2 = p := by
          rcases pre7.hd with ⟨_, z⟩ | z
          · cases z
          · exact z
        have ltm : ∀ x ∈ MV, x.2.2 < m := fun x hx => lt4 _ (in7 x hx)
        have ok7 := mv_ok pre7 flo3.rows.1 ltm
        have lMV : MV.length ≤ 64 := by
          have := nd_len m _ pre7.nd fun c hc => by
            obtain ⟨x, hx, e⟩ := List.mem_map.mp hc
            rw [← e]
            exact ltm x hx
          rw [List.length_map] at this
          have := sz.m
          omega
        have lmrs : lm ∉ rs := fun c1 => by
          obtain ⟨i, hi⟩ := List.mem_iff_getElem?.mp c1
          obtain ⟨row, hrow⟩ : ∃ row, F3[i]? = some row := ⟨_, List.getElem?_eq_getElem (by rw [← hF3.len]; exact (List.getElem?_eq_some_iff.mp hi).1)⟩
          rw [s36 _ _ (hF3.row i lm row hi hrow)] at hlm
          cases hlm
        have lmfa : lm ≠ fa := fun z => by rw [z, s36 _ _ hf3] at hlm; cases hlm
        refine ⟨g, fa, lm, wn, e0 + 1, m, rs, F3, lf3, vs, MV, x0, rfl, hF3.same s37, flo3.rows, s37 _ _ hf3, flo3.ln, frs, fg, d7, lmrs, lmfa, mv7, ok7, hx0, lMV, fun a H8 ha hle fr8 F8 f8 => ?_⟩
        rw [ex0] at ha hle f8
        have apos : 0 < a := by
          rcases List.mem_cons.mp ha with rfl | ha
          · exact hw
          · rcases List.mem_cons.mp ha with rfl | ha
            · exact ppos
            · exact there_pos pre7 a ha
        have aw : a ≤ wn := hle _ List.mem_cons_self
        obtain ⟨L1, L2', L3⟩ := led_all flo3 pre7 ok7 (by omega : 0 ≤ a) (hle _ (List.mem_cons_of_mem _ List.mem_cons_self)) (lt4 p pR) fun z hz => hle z (List.mem_cons_of_mem _ (List.mem_cons_of_mem _ hz))
        refine ⟨a, rfl, (wn - a).toNat, by omega, ?_⟩
        rw [hIV]
        refine ⟨ledF a F3 MV, _, wn - a, _, _, fun b u hb => fr8 b u (fun z => by rw [hrs0 b z] at hb; cases hb) (fun z => by rw [z, hfa0] at hb; cases hb) (s37 _ _ (S3 _ _ hb)), fun b u b1 b2 hb => fr8 b u b1 b2 (s37 _ _ (fr3 b u b1 b2 hb)), F8, f8, L1, fun e he => by rw [L2' e, if_neg (Ne.symm he), row3 e he]; omega, fun S hS => L3 ppos S (sh3 S hS), by rw [L2' e0, if_pos rfl]; omega, by omega, rfl, rfl⟩
  · rw [if_neg hw]
    exact qa (by omega)
end

end MyF
namespace MyG
open My MyB MyC MyD MyE MyF PySem L2
def top (i : Nat) : Stmt := PySem.Challenge.pw_tariffgate_k64_cuts.main.body.getD i (.Pass ⟨0, 0, 0, 0⟩)
abbrev s_route_of : Stmt := top 6
theorem sc_route_of : FnScope ["flow"] ["flow"] (defScope s_route_of) := ⟨rfl, rfl, rfl, by decide +kernel, rfl, by decide +kernel, by decide +kernel⟩
theorem v_route_of_0 : Vis (defScope s_route_of) "flow" := by first | exact Or.inl rfl | exact Or.inr (Or.inl rfl) | exact Or.inr (Or.inr rfl)
theorem g_route_of_enumerate : (defScope s_route_of).names.lookup ("enumerate" : Str) = some .globalImplicit := by rfl

theorem call_sum1K {X : Cx} {K : PySem.W.Frag} (h : X.K = K) (hc : X.calm = true) : CallR X (.builtin "sum") (fun xs H Q => ∃ (p : Addr) (ns : List Int), xs = [.ref p] ∧ SqL K H p (ns.map V.int) ∧ Q (.int ns.sum) H) := by subst h; exact call_sum1 hc
def rt (fw : List Int) : List (Nat × Int) := ((List.range fw.length).filter fun j => decide (0 < fw.getD j 0)).map fun j => (j, fw.getD j 0)
def RtAt (K : PySem.W.Frag) (H : Hp) (us : List V) (xs : List (Nat × Int)) : Prop := Paired (fun (v : V) (x : Nat × Int) => ∃ t, v = V.ref t ∧ SqT K H t [.int (x.1 : Int), .int x.2]) us xs
theorem RtAt.same {K : PySem.W.Frag} {H H' : Hp} (e : Same H H') : ∀ {us : List V} {xs : List (Nat × Int)}, RtAt K H us xs → RtAt K H' us xs
  | _, _, .nil => .nil
  | _, _, .cons ⟨t, a, b⟩ r => .cons ⟨t, a, Same.tup e b⟩ (RtAt.same e r)
theorem RtAt.upd {K : PySem.W.Frag} {H : Hp} {D : Addr} {o o' : HO} (hD : H D = some o) (n1 : ∀ ys, o ≠ .tup ys) (n2 : ∀ ob ys, o ≠ .frz ob (.tup ys)) : ∀ {us : List V} {xs : List (Nat × Int)}, RtAt K H us xs → RtAt K (L2.upd H D o') us xs
  | _, _, .nil => .nil
  | _, _, .cons ⟨t, a, b⟩ r => .cons ⟨t, a, sqt_updO hD n1 n2 b⟩ (RtAt.upd hD n1 n2 r)
theorem RtAt.snoc {K : PySem.W.Frag} {H : Hp} {j : Nat} {x : Int} {t : Addr} (h : SqT K H t [.int (j : Int), .int x]) : ∀ {us : List V} {xs : List (Nat × Int)}, RtAt K H us xs → RtAt K H (us ++ [.ref t]) (xs ++ [(j, x)])
  | _, _, .nil => .cons ⟨t, rfl, h⟩ .nil
  | _, _, .cons a r => .cons a (RtAt.snoc h r)
theorem RtAt.len {K : PySem.W.Frag} {H : Hp} : ∀ {us : List V} {xs : List (Nat × Int)}, RtAt K H us xs → us.length = xs.length
  | _, _, .nil => rfl
  | _, _, .cons _ r => by rw [List.length_cons, List.length_cons, RtAt.len r]
def spRoute (K : PySem.W.Frag) : Sp := fun vs H Q _ => ∃ (r : Addr) (fw : List Int), vs = [.ref r] ∧ SqL K H r (fw.map V.int) ∧ fw.length ≤ 64 ∧ ∀ (l : Addr) (us : List V) (H' : Hp), Same H H' → H l = none → H' l = some (.lst us) → RtAt K H' us (rt fw) → Q (.ref l) H'
section
variable {P : Program} {w : World} {K : PySem.W.Frag} {mg : Str → Option Value} {base : Heap} {f : Addr} {fd : FuncData}
theorem ok_route_of (F : Fun K "route_of" "route_of" s_route_of f fd) (M : Mg mg) : FnOk P w K mg base CX0 1 f fd ["flow"] (spRoute K) := by
  refine F.ok sc_route_of (fun vs H Q E h => ?_) (fun cdv A outer s H vs Q E hr h => ?_)
  · obtain ⟨r, fw, rfl, _⟩ := h
    rfl
  obtain ⟨r, fw, rfl, hS, l64, q⟩ := h
  refine ⟨_, (@pss_one _ _ _ (@ps_ret _ _ _ _ (@pe_comp _ _ _ _ _ _ _ _ _ _ _ _ _ _ _ rfl (CompOk.make (N' := ["place", "amount"]) (ix := []) (nl := 2) (by rfl) fm0 (by rfl) (by decide +kernel) rfl (by decide +kernel) rfl True.intro) (@pi_or _ _ _ _ _ (@pi_enumL _ _ _ _ _ _ _ _ g_route_of_enumerate M.m_enumerate (@pa_cons _ _ _ _ _ (@pe_var _ 0 _ _ rfl v_route_of_0 dn_flow dc_flow) (@pa_nil _) (star1 rfl)) (by rfl)) (@pi_enumT _ _ _ _ _ _ _ _ g_route_of_enumerate M.m_enumerate (@pa_cons _ _ _ _ _ (@pe_var _ 0 _ _ rfl v_route_of_0 dn_flow dc_flow) (@pa_nil _) (star1 rfl)) (by rfl))) (fun _ _ _ _ _ => (@pg_tupK _ K _ _ 2 _ _ rfl rfl (@pgs_cons _ _ _ _ _ (@pg_name _ _ 0 _ (show List.Nodup (["place", "amount"] : List Str) from by decide) rfl (Or.inl rfl) (by first | exact .inl rfl | exact .inr rfl | assumption)) (@pgs_cons _ _ _ _ _ (@pg_name _ _ 1 _ (show List.Nodup (["place", "amount"] : List Str) from by decide) rfl (Or.inl rfl) (by first | exact .inl rfl | exact .inr rfl | assumption)) (@pgs_nil _) (by rfl)) (by rfl)) (by rfl) (by rfl))) (fun _ _ _ _ _ => (@pif_one _ _ _ (@pt_cmpR _ _ _ _ _ _ _ _ (@op_gt _) (@pv _ 1 _ _ (by rfl) (by first | exact Or.inl rfl | exact Or.inr (Or.inl rfl) | exact Or.inr (Or.inr rfl)) (by decide) (by decide)) (@pe_int _ _ _ _) (nomark _)))) (fun _ _ _ _ _ => (@pe_tup _ _ _ _ _ (@pa_cons _ _ _ _ _ (@pv _ 0 _ _ (by rfl) (by first | exact Or.inl rfl | exact Or.inr (Or.inl rfl) | exact Or.inr (Or.inr rfl)) (by decide) (by decide)) (@pa_cons _ _ _ _ _ (@pv _ 1 _ _ (by rfl) (by first | exact Or.inl rfl | exact Or.inr (Or.inl rfl) | exact Or.inr (Or.inr rfl)) (by decide) (by decide)) (@pa_nil _) (star1 rfl)) (star1 rfl)))) (by intro _; rfl)))), ?_⟩
  simp only [iEnumL, iEnumT, iOr, tComp_eq, tComp1, slots, Option.getD_some, Option.getD_none, gName, tOp, tC, tVar, tCons, tNil, rI0, tRet, tTest, tTup, gTup, gCons, gNil, Kd_non, Kd_bl, Kd_int, Kd_str, decide_true, decide_false, L2.start, cxK, Int.reduceToNat, List.map_cons, List.map_nil, List.length_cons, List.length_nil, Nat.reduceAdd, Nat.reduceSub, Nat.zero_add, List.replicate_succ, List.replicate_zero, List.cons_append, List.nil_append, List.append_nil, List.getElem?_cons_zero, List.getElem?_cons_succ, List.set_cons_zero, List.set_cons_succ, Option.some.injEq, V.int.injEq, V.bl.injEq, V.ref.injEq, V.str.injEq, V.ty.injEq, List.cons.injEq, exists_eq_left', exists_eq_left, exists_eq_right, exists_and_left, exists_and_right, and_true, true_and, and_assoc, exists_const, decide_eq_true_eq, Bool.not_eq_true', Bool.not_true, Bool.not_false, Bool.not_not, decide_eq_false_iff_not, ite_not, Bool.false_eq_true, if_true, if_false, reduceCtorEq, and_false, false_and, exists_false, or_false, false_or, ↓reduceIte, eq_self, reduceIte]
  obtain ⟨Pc, hC⟩ : ∃ Pc : Addr → Nat → St → Hp → Prop, Pc = fun D i τ H' => ∃ (us : List V) (y z : Option V), H' D = some (.lst us) ∧ RtAt K H' us (((List.range i).filter fun j => decide (0 < fw.getD j 0)).map fun j => (j, fw.getD j 0)) ∧ Same H H' ∧ τ = [y, z] := ⟨_, rfl⟩
  refine compS_enumQ (fw.map V.int) (.inl hS) _ Pc ?_ (fun D i τ H' hD h => by rw [hC] at h; obtain ⟨_, y, z, _, _, e, _⟩ := h; exact e) ?_ ?_
  · intro D hD
    rw [hC]
    exact ⟨[], _, _, upd_same, .nil, same_new hD _, rfl⟩
  · intro D i x T τ H' R' hD hx h hT next
    rw [hC] at h
    obtain ⟨us, y, z, d1, ra, d2, rfl⟩ := h
    rw [List.getElem?_map] at hx
    obtain ⟨o, ho, rfl⟩ := Option.map_eq_some_iff.mp hx
    have li := (List.getElem?_eq_some_iff.mp ho).1
    have eo : fw.getD i 0 = o := by rw [List.getD, ho]; rfl
    obtain ⟨H2, g2, S2, T2⟩ := fresh_tup (K := K) hT [.int i, .int o]
    rw [← g2]
    clear g2
    replace d1 := S2 _ _ d1
    replace ra := ra.same S2
    replace d2 := d2.trans S2
    have ep : (List.range (i + 1)).filter (fun j => decide (0 < fw.getD j 0)) = (List.range i).filter (fun j => decide (0 < fw.getD j 0)) ++ [i].filter (fun j => decide (0 < fw.getD j 0)) := by
      rw [List.range_succ, List.filter_append]
    have lp : us.length ≤ i := by
      rw [ra.len, List.length_map]
      refine Nat.le_trans (List.length_filter_le ..) ?_
      rw [List.length_range]
      exact Nat.le_refl _
    simp only [iEnumL, iEnumT, iOr, tComp_eq, tComp1, slots, Option.getD_some, Option.getD_none, gName, tOp, tC, tVar, tCons, tNil, rI0, tRet, tTest, tTup, gTup, gCons, gNil, Kd_non, Kd_bl, Kd_int, Kd_str, decide_true, decide_false, L2.start, cxK, Int.reduceToNat, List.map_cons, List.map_nil, List.length_cons, List.length_nil, Nat.reduceAdd, Nat.reduceSub, Nat.zero_add, List.replicate_succ, List.replicate_zero, List.cons_append, List.nil_append, List.append_nil, List.getElem?_cons_zero, List.getElem?_cons_succ, List.set_cons_zero, List.set_cons_succ, Option.some.injEq, V.int.injEq, V.bl.injEq, V.ref.injEq, V.str.injEq, V.ty.injEq, List.cons.injEq, exists_eq_left', exists_eq_left, exists_eq_right, exists_and_left, exists_and_right, and_true, true_and, and_assoc, exists_const, decide_eq_true_eq, Bool.not_eq_true', Bool.not_true, Bool.not_false, Bool.not_not, decide_eq_false_iff_not, ite_not, Bool.false_eq_true, if_true, if_false, reduceCtorEq, and_false, false_and, exists_false, or_false, false_or, ↓reduceIte, eq_self, reduceIte]
    refine ⟨_, T2, rfl, ?_⟩
    simp only [iEnumL, iEnumT, iOr, tComp_eq, tComp1, slots, Option.getD_some, Option.getD_none, gName, tOp, tC, tVar, tCons, tNil, rI0, tRet, tTest, tTup, gTup, gCons, gNil, Kd_non, Kd_bl, Kd_int, Kd_str, decide_true, decide_false, L2.start, cxK, Int.reduceToNat, List.map_cons, List.map_nil, List.length_cons, List.length_nil, Nat.reduceAdd, Nat.reduceSub, Nat.zero_add, List.replicate_succ, List.replicate_zero, List.cons_append, List.nil_append, List.append_nil, List.getElem?_cons_zero, List.getElem?_cons_succ, List.set_cons_zero, List.set_cons_succ, Option.some.injEq, V.int.injEq, V.bl.injEq, V.ref.injEq, V.str.injEq, V.ty.injEq, List.cons.injEq, exists_eq_left', exists_eq_left, exists_eq_right, exists_and_left, exists_and_right, and_true, true_and, and_assoc, exists_const, decide_eq_true_eq, Bool.not_eq_true', Bool.not_true, Bool.not_false, Bool.not_not, decide_eq_false_iff_not, ite_not, Bool.false_eq_true, if_true, if_false, reduceCtorEq, and_false, false_and, exists_false, or_false, false_or, ↓reduceIte, eq_self, reduceIte]
    by_cases hz : 0 < o
    · rw [if_pos hz]
      refine ⟨by decide, fun t ht => ?_⟩
      obtain ⟨H3, g3, S3, T3⟩ := fresh_tup (K := K) ht [.int i, .int o]
      rw [← g3]
      clear g3
      have d3 := S3 _ _ d1
      refine ⟨_, d3, Nat.lt_of_lt_of_le (m := 1000) (by omega) (by decide), next _ _ ?_⟩
      rw [hC]
      refine ⟨_, _, _, upd_same, ?_, same_upd (d2.trans S3) hD _, rfl⟩
      rw [ep, List.filter_cons_of_pos (by rw [eo]; simp [hz]), List.filter_nil, List.map_append]
      exact RtAt.upd d3 (fun ys z => by cases z) (fun _ _ z => by cases z) (RtAt.snoc (by rw [eo]; exact T3) (ra.same S3))
    · rw [if_neg hz]
      refine next _ _ ?_
      rw [hC]
      refine ⟨us, _, _, d1, ?_, d2, rfl⟩
      rw [ep, List.filter_cons_of_neg (by rw [eo]; simp; omega), List.filter_nil, List.append_nil]
      exact ra
  · intro D τ H' hD h
    rw [hC] at h
    obtain ⟨us, y, z, d1, ra, d2, rfl⟩ := h
    rw [List.length_map] at ra
    exact q D us H' d2 hD d1 ra
end

end MyG
namespace MyS
open My MyB MyC MyD MyE MyF MyG PySem L2
def sumN (k : Nat) (g : Nat → Int) : Int := ((List.range k).map g).sum
theorem sumN_succ (k : Nat) (g : Nat → Int) : sumN (k + 1) g = sumN k g + g k := by
  unfold sumN
  rw [List.range_succ, List.map_append, List.sum_append]
  simp
theorem sumN_congr {g h : Nat → Int} : ∀ {k : Nat}, (∀ i, i < k → g i = h i) → sumN k g = sumN k h
  | 0, _ => rfl
  | k + 1, e => by rw [sumN_succ, sumN_succ, sumN_congr fun i hi => e i (by omega), e k (by omega)]
theorem sumN_add (g h : Nat → Int) : ∀ k, sumN k (fun i => g i + h i) = sumN k g + sumN k h
  | 0 => rfl
  | k + 1 => by
    rw [sumN_succ, sumN_succ, sumN_succ, sumN_add g h k]
    omega
theorem sumN_zero : ∀ k, sumN k (fun _ => 0) = 0
  | 0 => rfl
  | k + 1 => by rw [sumN_succ, sumN_zero k]; rfl
theorem sumN_eq0 {g : Nat → Int} {k : Nat} (h : ∀ i, i < k → g i = 0) : sumN k g = 0 := (sumN_congr h).trans (sumN_zero k)
theorem sumN_swap (f : Nat → Nat → Int) (m : Nat) : ∀ n, sumN m (fun j => sumN n fun e => f e j) = sumN n fun e => sumN m fun j => f e j
  | 0 => by
    show sumN m (fun _ => 0) = 0
    exact sumN_zero m
  | n + 1 => by
    rw [sumN_succ, ← sumN_swap f m n, ← sumN_add]
    exact sumN_congr fun j _ => sumN_succ n _
theorem sumN_le {g h : Nat → Int} : ∀ {k : Nat}, (∀ i, i < k → g i ≤ h i) → sumN k g ≤ sumN k h
  | 0, _ => Int.le_refl _
  | k + 1, e => by
    rw [sumN_succ, sumN_succ]
    have := sumN_le (k := k) fun i hi => e i (by omega)
    have := e k (by omega)
    omega
theorem sumN_nn {g : Nat → Int} {k : Nat} (h : ∀ i, i < k → 0 ≤ g i) : 0 ≤ sumN k g := by
  have := sumN_le (g := fun _ => 0) h
  rw [sumN_zero] at this
  exact this
theorem sum_getD : ∀ l : List Int, l.sum = sumN l.length fun j => l.getD j 0
  | [] => rfl
  | x :: l => by
    unfold sumN
    rw [List.sum_cons, List.length_cons, List.range_succ_eq_map, List.map_cons, List.sum_cons, List.map_map, sum_getD l]
    rfl
theorem row_sum {n m e : Nat} {F : List (List Int)} (h : Rows n m F) (he : e < n) : rowS F e = sumN m fun j => fl F e j := by
  unfold rowS
  rw [sum_getD, row_len h he]
  rfl
theorem col_sum {n m j : Nat} {F : List (List Int)} (h : Rows n m F) : colS F j = sumN n fun e => fl F e j := by
  unfold colS
  rw [sum_getD, List.length_map, h.1]
  refine sumN_congr fun e he => ?_
  unfold fl
  have he' : e < F.length := by rw [h.1]; exact he
  simp [List.getD, he']
def roomS (rooms : List Int) (m : Nat) (S : Nat → Bool) : Int := sumN m fun j => if S j = true then rooms.getD j 0 else 0
def sumG (L : List En) (G : Nat → Int) (S : Nat → Bool) (k : Nat) : Int := sumN k fun e => if (pl L e).all S = true then G e else 0
theorem room_eq {L : List En} {n m : Nat} {rooms lf : List Int} {F : List (List Int)} (h : Flo L n m rooms F lf) (S : Nat → Bool) : roomS rooms m S = sumN n (fun e => sumN m fun j => if S j = true then fl F e j else 0) + sumN m (fun j => if S j = true then lf.getD j 0 else 0) := by
  unfold roomS
  rw [← sumN_swap (fun e j => if S j = true then fl F e j else 0) m n, ← sumN_add]
  refine sumN_congr fun j hj => ?_
  have := h.col j hj
  rw [col_sum h.rows] at this
  by_cases z : S j = true
  · rw [if_pos z, if_pos z, ← this]
    congr 1
    exact sumN_congr fun e _ => by rw [if_pos z]
  · rw [if_neg z, if_neg z]
    have : (sumN n fun e => if S j = true then fl F e j else 0) = 0 := sumN_eq0 fun e _ => by rw [if_neg z]
    omega
theorem tight {L : List En} {n m : Nat} {rooms lf : List Int} {F : List (List Int)} (h : Flo L n m rooms F lf) (S : Nat → Bool) (sh : Shut L F lf fun j => S j = true) : roomS rooms m S = sumG L (rowS F) S n := by
  rw [room_eq h S]
  have z0 : (sumN m fun j => if S j = true then lf.getD j 0 else 0) = 0 := by
    refine sumN_eq0 fun j _ => ?_
    by_cases z : S j = true
    · rw [if_pos z]
      exact sh.1 j z
    · rw [if_neg z]
  rw [z0, Int.add_zero]
  unfold sumG
  refine sumN_congr fun e he => ?_
  by_cases ha : (pl L e).all S = true
  · rw [if_pos ha, row_sum h.rows he]
    refine sumN_congr fun j _ => ?_
    by_cases z : S j = true
    · rw [if_pos z]
    · rw [if_neg z]
      have nn := h.nn e j
      by_cases p : 0 < fl F e j
      · exact absurd (List.all_eq_true.mp ha j (h.su e j p)) z
      · omega
  · rw [if_neg ha]
    refine sumN_eq0 fun j _ => ?_
    by_cases z : S j = true
    · rw [if_pos z]
      have nn := h.nn e j
      by_cases p : 0 < fl F e j
      · exact absurd (List.all_eq_true.mpr fun o ho => sh.2 j z e o ⟨by rw [h.rows.1]; exact he, p, ho⟩) ha
      · omega
    · rw [if_neg z]
theorem loose {L : List En} {n m : Nat} {rooms lf : List Int} {F : List (List Int)} (h : Flo L n m rooms F lf) (S : Nat → Bool) (k : Nat) (hk : k ≤ n) : sumG L (rowS F) S k ≤ roomS rooms m S := by
  rw [room_eq h S]
  have n0 : 0 ≤ sumN m (fun j => if S j = true then lf.getD j 0 else 0) := by
    refine sumN_nn fun j _ => ?_
    split
    · exact h.l0 j
    · exact Int.le_refl _
  have nn : ∀ e, 0 ≤ sumN m fun j => if S j = true then fl F e j else 0 := fun e => by
    refine sumN_nn fun j _ => ?_
    split
    · exact h.nn e j
    · exact Int.le_refl _
  have up : ∀ d, sumN k (fun e => sumN m fun j => if S j = true then fl F e j else 0) ≤ sumN (k + d) fun e => sumN m fun j => if S j = true then fl F e j else 0 := fun d => by
    induction d with
    | zero => exact Int.le_refl _
    | succ d ih =>
      rw [← Nat.add_assoc, sumN_succ]
      have := nn (k + d)
      omega
  have := up (n - k)
  rw [show k + (n - k) = n by omega] at this
  have l1 : sumG L (rowS F) S k ≤ sumN k fun e => sumN m fun j => if S j = true then fl F e j else 0 := by
    unfold sumG
    refine sumN_le fun e he => ?_
    by_cases ha : (pl L e).all S = true
    · rw [if_pos ha, row_sum h.rows (by omega)]
      refine sumN_le fun j _ => ?_
      by_cases z : S j = true
      · rw [if_pos z]
        exact Int.le_refl _
      · rw [if_neg z]
        by_cases p : 0 < fl F e j
        · exact absurd (List.all_eq_true.mp ha j (h.su e j p)) z
        · omega
    · rw [if_neg ha]
      exact nn e
  omega
def zr (m : Nat) : List Int := List.replicate m 0
theorem zr_len {m : Nat} : (zr m).length = m := List.length_replicate ..
theorem zr_at {m j : Nat} : (zr m).getD j 0 = 0 := by
  unfold zr
  by_cases hj : j < m
  · simp [List.getD, hj]
  · simp [List.getD, hj]
theorem fl_new {n m : Nat} {F : List (List Int)} (h : Rows n m F) (e j : Nat) : fl (F ++ [zr m]) e j = fl F e j := by
  unfold fl
  by_cases he : e < F.length
  · rw [show (F ++ [zr m]).getD e [] = F.getD e [] by simp [List.getD, List.getElem?_append_left he]]
  · rw [show F.getD e [] = [] by simp [List.getD, List.getElem?_eq_none (show F.length ≤ e by omega)]]
    by_cases e2 : e = F.length
    · subst e2
      rw [show (F ++ [zr m]).getD F.length [] = zr m by simp [List.getD]]
      rw [zr_at]
      rfl
    · rw [show (F ++ [zr m]).getD e [] = [] by simp [List.getD, List.getElem?_eq_none (show (F ++ [zr m]).length ≤ e by simp; omega)]]
theorem flo_new {L : List En} {n m : Nat} {rooms lf : List Int} {F : List (List Int)} (h : Flo L n m rooms F lf) : Flo L (n + 1) m rooms (F ++ [zr m]) lf := by
  have R : Rows (n + 1) m (F ++ [zr m]) := ⟨by rw [List.length_append, h.rows.1]; rfl, fun r hr => by
    rcases List.mem_append.mp hr with hr | hr
    · exact h.rows.2 r hr
    · rw [List.mem_singleton.mp hr, zr_len]⟩
  refine ⟨R, fun e j => by rw [fl_new h.rows]; exact h.nn e j, fun e j hp => h.su e j (by rw [fl_new h.rows] at hp; exact hp), h.ln, h.l0, fun j hj => ?_⟩
  rw [col_sum R, sumN_succ]
  have := h.col j hj
  rw [col_sum h.rows] at this
  have e1 : (sumN n fun e => fl (F ++ [zr m]) e j) = sumN n fun e => fl F e j := sumN_congr fun e _ => fl_new h.rows e j
  rw [e1, fl_new h.rows]
  have : fl F n j = 0 := by
    unfold fl
    rw [show F.getD n [] = [] by simp [List.getD, List.getElem?_eq_none (show F.length ≤ n by rw [h.rows.1]; exact Nat.le_refl _)]]
    rfl
  omega
theorem shut_new {L : List En} {n m : Nat} {lf : List Int} {F : List (List Int)} {S : Nat → Prop} (R : Rows n m F) (h : Shut L F lf S) : Shut L (F ++ [zr m]) lf S := by
  refine ⟨h.1, fun j hj e o hl => ?_⟩
  obtain ⟨h1, h2, h3⟩ := hl
  rw [fl_new R] at h2
  refine h.2 j hj e o ⟨?_, h2, h3⟩
  by_cases z : e < F.length
  · exact z
  · have : fl F e j = 0 := by
      unfold fl
      rw [show F.getD e [] = [] by simp [List.getD, List.getElem?_eq_none (show F.length ≤ e by omega)]]
      rfl
    omega
theorem row_new {n m e : Nat} {F : List (List Int)} (R : Rows n m F) (he : e < n) : rowS (F ++ [zr m]) e = rowS F e := by
  have he' : e < F.length := by rw [R.1]; exact he
  unfold rowS
  rw [show (F ++ [zr m]).getD e [] = F.getD e [] by simp [List.getD, List.getElem?_append_left he']]
theorem row_zero {n m : Nat} {F : List (List Int)} (R : Rows n m F) : rowS (F ++ [zr m]) n = 0 := by
  unfold rowS
  rw [show (F ++ [zr m]).getD n [] = zr m by rw [← R.1]; simp [List.getD]]
  rw [sum_getD]
  exact sumN_eq0 fun j _ => zr_at

end MyS
namespace MyI
open My MyB MyC MyD MyE MyF MyG MyS PySem L2
def top (i : Nat) : Stmt := PySem.Challenge.pw_tariffgate_k64_cuts.main.body.getD i (.Pass ⟨0, 0, 0, 0⟩)
theorem dn_rooms : (("rooms" : Str) == ("__debug__" : Str)) = false := by decide
theorem dc_rooms : (("rooms" : Str) == ("__classdict__" : Str)) = false := by decide
theorem dn_cuts : (("cuts" : Str) == ("__debug__" : Str)) = false := by decide
theorem dc_cuts : (("cuts" : Str) == ("__classdict__" : Str)) = false := by decide
theorem dn_serve : (("serve" : Str) == ("__debug__" : Str)) = false := by decide
theorem dn_sum : (("sum" : Str) == ("__debug__" : Str)) = false := by decide
theorem nn_sum : ("sum" : Str) ≠ "__name__" := by decide
theorem dn_route_of : (("route_of" : Str) == ("__debug__" : Str)) = false := by decide
abbrev s_served : Stmt := top 7
theorem sc_served : FnScope ["rooms", "line", "left", "flows", "cuts", "entry"] ["rooms", "line"] (defScope s_served) := ⟨rfl, rfl, rfl, by decide +kernel, rfl, by decide +kernel, by decide +kernel⟩
theorem v_served_0 : Vis (defScope s_served) "rooms" := by first | exact Or.inl rfl | exact Or.inr (Or.inl rfl) | exact Or.inr (Or.inr rfl)
theorem v_served_1 : Vis (defScope s_served) "line" := by first | exact Or.inl rfl | exact Or.inr (Or.inl rfl) | exact Or.inr (Or.inr rfl)
theorem v_served_2 : Vis (defScope s_served) "left" := by first | exact Or.inl rfl | exact Or.inr (Or.inl rfl) | exact Or.inr (Or.inr rfl)
theorem l_served_2 : Loc (defScope s_served) "left" := by first | exact Or.inl rfl | exact Or.inr rfl
theorem v_served_3 : Vis (defScope s_served) "flows" := by first | exact Or.inl rfl | exact Or.inr (Or.inl rfl) | exact Or.inr (Or.inr rfl)
theorem l_served_3 : Loc (defScope s_served) "flows" := by first | exact Or.inl rfl | exact Or.inr rfl
theorem v_served_4 : Vis (defScope s_served) "cuts" := by first | exact Or.inl rfl | exact Or.inr (Or.inl rfl) | exact Or.inr (Or.inr rfl)
theorem l_served_4 : Loc (defScope s_served) "cuts" := by first | exact Or.inl rfl | exact Or.inr rfl
theorem v_served_5 : Vis (defScope s_served) "entry" := by first | exact Or.inl rfl | exact Or.inr (Or.inl rfl) | exact Or.inr (Or.inr rfl)
theorem l_served_5 : Loc (defScope s_served) "entry" := by first | exact Or.inl rfl | exact Or.inr rfl
theorem g_served_list : (defScope s_served).names.lookup ("list" : Str) = some .globalImplicit := by rfl
theorem g_served_range : (defScope s_served).names.lookup ("range" : Str) = some .globalImplicit := by rfl
theorem g_served_len : (defScope s_served).names.lookup ("len" : Str) = some .globalImplicit := by rfl
theorem g_served_serve : (defScope s_served).names.lookup ("serve" : Str) = some .globalImplicit := by rfl

def wt (L : List En) (e : Nat) : Int := (L.getD e ([], 0)).2
def inS (ns : List Int) : Nat → Bool := fun j => decide ((j : Int) ∈ ns)
def CutAt (L : List En) (m : Nat) (rooms : List Int) (F : List (List Int)) (lf : List Int) (H : Hp) (ok : Addr → Prop) (e : Nat) (v : V) : Prop := (v = .non ∧ rowS F e = wt L e) ∨ ∃ (c : Addr) (ns : List Int), v = .ref c ∧ ok c ∧ H c = some (.lst (ns.map V.int)) ∧ rowS F e < wt L e ∧ ns.Pairwise (· < ·) ∧ (∀ x ∈ ns, ∃ j : Nat, x = (j : Int) ∧ j < m) ∧ Shut L F lf (fun j => (j : Int) ∈ ns) ∧ (∀ j ∈ pl L e, (j : Int) ∈ ns) ∧ roomS rooms m (inS ns) = sumG L (rowS F) (inS ns) (e + 1)
theorem sumG_congr {L : List En} {G G' : Nat → Int} {S : Nat → Bool} {k : Nat} (h : ∀ e, e < k → G e = G' e) : sumG L G S k = sumG L G' S k := by
  unfold sumG
  exact sumN_congr fun e he => by rw [h e he]
theorem CutAt.go {L : List En} {m : Nat} {rooms : List Int} {F F' : List (List Int)} {lf lf' : List Int} {H H' : Hp} {ok ok' : Addr → Prop} {e : Nat} {v : V} (h : CutAt L m rooms F lf H ok e v) (hr : ∀ e', e' ≤ e → rowS F' e' = rowS F e') (hs : ∀ S, Shut L F lf S → Shut L F' lf' S) (hh : ∀ c u, ok c → H c = some u → ok' c ∧ H' c = some u) : CutAt L m rooms F' lf' H' ok' e v := by
  rcases h with ⟨a, b⟩ | ⟨c, ns, a, b, d, e1, e2, e6, e3, e4, e5⟩
  · exact .inl ⟨a, by rw [hr e (Nat.le_refl _)]; exact b⟩
  · obtain ⟨h1, h2⟩ := hh c _ b d
    exact .inr ⟨c, ns, a, h1, h2, by rw [hr e (Nat.le_refl _)]; exact e1, e2, e6, hs _ e3, e4, by rw [e5]; exact sumG_congr fun e' he => (hr e' (by omega)).symm⟩
theorem fl_snoc {H : Hp} {g r : Addr} {rs : List Addr} {F : List (List Int)} {row : List Int} (h : FlAt H g rs F) (hr : H r = some (.lst (row.map V.int))) (hn : r ∉ rs) (rg : r ≠ g) (gr : g ∉ rs) : FlAt (upd H g (.lst ((rs ++ [r]).map V.ref))) g (rs ++ [r]) (F ++ [row]) := by
  refine ⟨upd_same, by rw [List.length_append, List.length_append, h.len]; rfl, fun e r2 fl2 a b => ?_, ?_, fun r2 hr2 => ?_⟩
  · by_cases he : e < rs.length
    · rw [List.getElem?_append_left he] at a
      rw [List.getElem?_append_left (by rw [← h.len]; exact he)] at b
      rw [upd_ne (h.ne r2 (List.mem_iff_getElem?.mpr ⟨_, a⟩))]
      exact h.row e r2 fl2 a b
    · have he2 := (List.getElem?_eq_some_iff.mp a).1
      rw [List.length_append, List.length_singleton] at he2
      have ee : e = rs.length := by omega
      subst ee
      rw [List.getElem?_append_right (Nat.le_refl _), Nat.sub_self] at a
      rw [h.len, List.getElem?_append_right (Nat.le_refl _), Nat.sub_self] at b
      cases a
      cases b
      rw [upd_ne rg]
      exact hr
  · rw [List.nodup_append]
    refine ⟨h.nd, by simp, fun x hx y hy z => ?_⟩
    rw [List.mem_singleton.mp hy] at z
    exact hn (z ▸ hx)
  · rcases List.mem_append.mp hr2 with hr2 | hr2
    · exact h.ne r2 hr2
    · rw [List.mem_singleton.mp hr2]
      exact rg
theorem rep_flat {α : Type} (x : α) : ∀ n : Nat, (List.replicate n [x]).flatten = List.replicate n x
  | 0 => rfl
  | n + 1 => by
    rw [List.replicate_succ, List.flatten_cons, rep_flat x n, List.replicate_succ]
    rfl
theorem pair_snoc {α β : Type} {R : α → β → Prop} {a : α} {b : β} (h : R a b) : ∀ {xs : List α} {ys : List β}, Paired R xs ys → Paired R (xs ++ [a]) (ys ++ [b])
  | _, _, .nil => .cons h .nil
  | _, _, .cons r t => .cons r (pair_snoc h t)
theorem pair_mem {α β : Type} {R : α → β → Prop} : ∀ {xs : List α} {ys : List β} {x : α}, Paired R xs ys → x ∈ xs → ∃ y, R x y
  | _, _, _, .nil, h => by cases h
  | _, _, _, .cons r t, h => by
    rcases List.mem_cons.mp h with h | h
    · subst h
      exact ⟨_, r⟩
    · exact pair_mem t h
theorem nodup_snoc {α : Type} {xs : List α} {a : α} (h : xs.Nodup) (ha : a ∉ xs) : (xs ++ [a]).Nodup := by
  rw [List.nodup_append]
  refine ⟨h, by simp, fun x hx y hy z => ?_⟩
  rw [List.mem_singleton.mp hy] at z
  exact ha (z ▸ hx)
structure LnOk (m : Nat) (L : List En) : Prop where
  l : L.length ≤ 64
  pl : ∀ en ∈ L, en.1.length ≤ 64 ∧ ∀ o ∈ en.1, o < m
  nd : ∀ en ∈ L, en.1.Nodup
  m : m ≤ 60
  w : ∀ en ∈ L, 0 ≤ en.2
structure Sep (H : Hp) (ga ra ca : Addr) (ras : List Addr) (cs : List V) : Prop where
  g : H ga = none
  r : H ra = none
  c : H ca = none
  rs : ∀ r ∈ ras, H r = none
  nd : ras.Nodup
  gr : ga ≠ ra
  gc : ga ≠ ca
  rc : ra ≠ ca
  g1 : ga ∉ ras
  r1 : ra ∉ ras
  c1 : ca ∉ ras
  sc : ∀ (e e' : Nat) (c : Addr), cs[e]? = some (V.ref c) → cs[e']? = some (V.ref c) → e = e'
structure Fnd (K : PySem.W.Frag) (H : Hp) (t ga ra ca : Addr) (F : List (List Int)) (ras : List Addr) (cs : List V) : Prop where
  t : SqT K H t [.ref ga, .ref ra, .ref ca]
  g : H ga = some (.lst ((F.map List.sum).map V.int))
  r : H ra = some (.lst (ras.map V.ref))
  rs : Paired (fun r row => ∃ us, H r = some (.lst us) ∧ RtAt K H us (rt row)) ras F
  c : H ca = some (.lst cs)
theorem Fnd.same {K : PySem.W.Frag} {H H' : Hp} {t ga ra ca : Addr} {F : List (List Int)} {ras : List Addr} {cs : List V} (h : Fnd K H t ga ra ca F ras cs) (e : Same H H') : Fnd K H' t ga ra ca F ras cs :=
  ⟨Same.tup e h.t, e _ _ h.g, e _ _ h.r, Paired.mapP h.rs fun r row => by rintro ⟨us, a, b⟩; exact ⟨us, e _ _ a, b.same e⟩, e _ _ h.c⟩
def spServed (K : PySem.W.Frag) : Sp := fun vs H Q _ => ∃ (rm l : Addr) (rooms : List Int) (L : List En), vs = [.ref rm, .ref l] ∧ SqL K H rm (rooms.map V.int) ∧ LnAt K H l L ∧ LnOk rooms.length L ∧ (∀ x ∈ rooms, 0 ≤ x) ∧
  ∀ (t ga ra ca : Addr) (F : List (List Int)) (lf : List Int) (ras : List Addr) (cs : List V) (H' : Hp), Same H H' → H t = none → Fnd K H' t ga ra ca F ras cs → cs.length = L.length → (∀ (e : Nat) (v : V), cs[e]? = some v → CutAt L rooms.length rooms F lf H' (fun c => H c = none ∧ c ≠ ga ∧ c ≠ ra ∧ c ≠ ca ∧ c ∉ ras) e v) → Flo L L.length rooms.length rooms F lf → Sep H ga ra ca ras cs → Q (.ref t) H'
theorem none_of {H H' : Hp} {a : Addr} (e : Same H H') (h : H' a = none) : H a = none := by
  cases hh : H a with
  | none => rfl
  | some u => rw [e _ _ hh] at h; cases h
section
variable {P : Program} {w : World} {K : PySem.W.Frag} {mg : Str → Option Value} {base : Heap} {f : Addr} {fd : FuncData}
theorem ok_served (F : Fun K "served" "served" s_served f fd) (M : Mg mg) (C_serve : Cal P w K mg base CX0 "serve" 3 ["line", "flows", "left", "entry"] (spServe K)) (C_route_of : Cal P w K mg base CX0 "route_of" 1 ["flow"] (spRoute K)) : FnOk P w K mg base CX0 4 f fd ["rooms", "line"] (spServed K) := by
  refine F.ok sc_served (fun vs H Q E h => ?_) (fun cdv A outer s H vs Q E hr h => ?_)
  · obtain ⟨rm, l, rooms, L, rfl, _⟩ := h
    rfl
  obtain ⟨rm, l, rooms, L, rfl, hrm, hL, lo, r0, q⟩ := h
  refine ⟨_, (@pss_cons _ _ _ _ _ (@ps_set _ _ 2 _ _ _ _ sc_served.nd rfl l_served_2 (@pe_callTy _ _ _ _ _ _ _ _ _ call_listL g_served_list M.m_list b_list (@pa_cons _ _ _ _ _ (@pe_var _ 0 _ _ rfl v_served_0 dn_rooms dc_rooms) (@pa_nil _) (star1 rfl)) nn_list dn_list (star1 rfl) nost0) (swap1 rfl) (.inl rfl)) (@pss_cons _ _ _ _ _ (@ps_set _ _ 3 _ _ _ _ sc_served.nd rfl l_served_3 (@pe_lst _ _ _ _ (@pa_nil _)) (swap1 rfl) (.inl rfl)) (@pss_cons _ _ _ _ _ (@ps_set _ _ 4 _ _ _ _ sc_served.nd rfl l_served_4 (@pe_lst _ _ _ _ (@pa_nil _)) (swap1 rfl) (.inl rfl)) (@pss_cons _ _ _ _ _ (@ps_for _ _ _ _ _ _ _ _ PassesOwn.never rfl (@pi_range1 _ _ _ _ _ _ g_served_range M.m_range (@pa_cons _ _ _ _ _ (@pe_callB _ _ _ _ _ _ _ _ _ call_len_seq g_served_len M.m_len b_len (@pa_cons _ _ _ _ _ (@pe_var _ 1 _ _ rfl v_served_1 dn_line dc_line) (@pa_nil _) (star1 rfl)) nn_len dn_len (star1 rfl) nost0) (@pa_nil _) (star1 rfl)) (star1' rfl)) (@pg_name _ _ 5 _ sc_served.nd rfl l_served_5 (.inl rfl)) (@pss_cons _ _ _ _ _ (@ps_expr _ _ _ _ (@pe_bm _ _ _ _ _ _ _ _ _ _ _ _ PySem.F.plainAttrs_list PySem.F.slot_list_append PySem.F.type_list_append mt_append (@pe_var _ 3 _ _ rfl v_served_3 dn_flows dc_flows) (@pa_cons _ _ _ _ _ (@pe_op _ _ _ _ _ _ _ _ op_rep (@pe_lst _ _ _ _ (@pa_cons _ _ _ _ _ (@pe_int _ _ _ _) (@pa_nil _) (star1 rfl))) (@pe_callB _ _ _ _ _ _ _ _ _ call_len_seq g_served_len M.m_len b_len (@pa_cons _ _ _ _ _ (@pe_var _ 0 _ _ rfl v_served_0 dn_rooms dc_rooms) (@pa_nil _) (star1 rfl)) nn_len dn_len (star1 rfl) nost0)) (@pa_nil _) (star1 rfl)) (by rfl) (by rfl) (by rfl) (by rfl) (by rfl)) (swap1 rfl)) (@pss_one _ _ _ (@ps_expr _ _ _ _ (@pe_bm _ _ _ _ _ _ _ _ _ _ _ _ PySem.F.plainAttrs_list PySem.F.slot_list_append PySem.F.type_list_append mt_append (@pe_var _ 4 _ _ rfl v_served_4 dn_cuts dc_cuts) (@pa_cons _ _ _ _ _ (@pe_callC _ _ _ _ _ _ _ _ _ _ _ C_serve hr g_served_serve (@pa_cons _ _ _ _ _ (@pe_var _ 1 _ _ rfl v_served_1 dn_line dc_line) (@pa_cons _ _ _ _ _ (@pe_var _ 3 _ _ rfl v_served_3 dn_flows dc_flows) (@pa_cons _ _ _ _ _ (@pe_var _ 2 _ _ rfl v_served_2 dn_left dc_left) (@pa_cons _ _ _ _ _ (@pe_var _ 5 _ _ rfl v_served_5 dn_entry dc_entry) (@pa_nil _) (star1 rfl)) (star1 rfl)) (star1 rfl)) (star1 rfl)) (by decide) dn_serve (star1 rfl) (nost1 rfl (nost1 rfl (nost1 rfl nost0)))) (@pa_nil _) (star1 rfl)) (by rfl) (by rfl) (by rfl) (by rfl) (by rfl)) (swap1 rfl)))) (by intro _; rfl)) (@pss_one _ _ _ (@ps_ret _ _ _ _ (@pe_tup _ _ _ _ _ (@pa_cons _ _ _ _ _ (@pe_comp _ _ _ _ _ _ _ _ _ _ _ _ _ _ _ rfl (CompOk.make (N' := ["flow"]) (ix := []) (nl := 1) (by rfl) fm0 (by rfl) (by decide +kernel) rfl (by decide +kernel) rfl True.intro) (@pi_list _ _ _ _ (@pe_var _ 3 _ _ rfl v_served_3 dn_flows dc_flows)) (fun _ _ _ _ _ => (@pg_name _ _ 0 _ (show List.Nodup (["flow"] : List Str) from by decide) rfl (Or.inl rfl) (by first | exact .inl rfl | exact .inr rfl | assumption))) (fun _ _ _ _ _ => (@pif_nil _)) (fun _ _ _ _ _ => (@pe_callB _ _ _ _ _ _ _ _ _ (call_sum1K (K := K) rfl rfl) rfl M.m_sum b_sum (@pa_cons _ _ _ _ _ (@pv _ 0 _ _ (by rfl) (by first | exact Or.inl rfl | exact Or.inr (Or.inl rfl) | exact Or.inr (Or.inr rfl)) (by decide) (by decide)) (@pa_nil _) (star1 rfl)) nn_sum dn_sum (star1 rfl) nost0)) (by intro _; rfl)) (@pa_cons _ _ _ _ _ (@pe_comp _ _ _ _ _ _ _ _ _ _ _ _ _ _ _ rfl (CompOk.make (N' := ["flow"]) (ix := []) (nl := 1) (by rfl) fm0 (by rfl) (by decide +kernel) rfl (by decide +kernel) rfl True.intro) (@pi_list _ _ _ _ (@pe_var _ 3 _ _ rfl v_served_3 dn_flows dc_flows)) (fun _ _ _ _ _ => (@pg_name _ _ 0 _ (show List.Nodup (["flow"] : List Str) from by decide) rfl (Or.inl rfl) (by first | exact .inl rfl | exact .inr rfl | assumption))) (fun _ _ _ _ _ => (@pif_nil _)) (fun _ _ _ _ _ => (@pe_callC _ _ _ _ _ _ _ _ _ _ _ C_route_of hr rfl (@pa_cons _ _ _ _ _ (@pv _ 0 _ _ (by rfl) (by first | exact Or.inl rfl | exact Or.inr (Or.inl rfl) | exact Or.inr (Or.inr rfl)) (by decide) (by decide)) (@pa_nil _) (star1 rfl)) (by decide) dn_route_of (star1 rfl) nost0)) (by intro _; rfl)) (@pa_cons _ _ _ _ _ (@pe_var _ 4 _ _ rfl v_served_4 dn_cuts dc_cuts) (@pa_nil _) (star1 rfl)) (star1 rfl)) (star1 rfl))))))))), ?_⟩
  obtain ⟨us, hus, hpa⟩ := id hL
  have lus : us.length = L.length := Paired.length hpa
  have l64 := lo.l
  simp only [rRep, tComp_eq, tComp1, slots, Option.getD_some, Option.getD_none, tYes, tSeq, tAsg, gName, tOp, tC, tVar, tCB, tCons, tNil, tCall, tRet, tDrop, tTup, tLst, tBM, rAppend, Kd_non, Kd_bl, Kd_int, Kd_str, decide_true, decide_false, tFor_eq, iList, iRng1, L2.start, cxK, Int.reduceToNat, List.map_cons, List.map_nil, List.length_cons, List.length_nil, Nat.reduceAdd, Nat.reduceSub, Nat.zero_add, List.replicate_succ, List.replicate_zero, List.cons_append, List.nil_append, List.append_nil, List.getElem?_cons_zero, List.getElem?_cons_succ, List.set_cons_zero, List.set_cons_succ, Option.some.injEq, V.int.injEq, V.bl.injEq, V.ref.injEq, V.str.injEq, V.ty.injEq, List.cons.injEq, exists_eq_left', exists_eq_left, exists_eq_right, exists_and_left, exists_and_right, and_true, true_and, and_assoc, exists_const, decide_eq_true_eq, Bool.not_eq_true', Bool.not_true, Bool.not_false, Bool.not_not, decide_eq_false_iff_not, ite_not, Bool.false_eq_true, if_true, if_false, reduceCtorEq, and_false, false_and, exists_false, or_false, false_or, ↓reduceIte, eq_self, reduceIte]
  refine ⟨_, hrm, fun fa hfa => ⟨by decide, fun p hp => ⟨by decide, fun ca hca => ?_⟩⟩⟩
  have pfa : p ≠ fa := fun z => by rw [z, upd_same] at hp; cases hp
  have hpH : H p = none := by rw [upd_ne pfa] at hp; exact hp
  have cap : ca ≠ p := fun z => by rw [z, upd_same] at hca; cases hca
  have cafa : ca ≠ fa := fun z => by rw [z, upd_ne (Ne.symm pfa), upd_same] at hca; cases hca
  have hcaH : H ca = none := by rw [upd_ne cap, upd_ne cafa] at hca; exact hca
  have S1 := ((same_new hfa (.lst (rooms.map V.int))).trans (same_new hp (.lst []))).trans (same_new hca (.lst []))
  refine ⟨us, .inl (S1.seq hus), by omega, by omega, ?_⟩
  obtain ⟨Pv, hP⟩ : ∃ Pv : Nat → St → Hp → Prop, Pv = fun i σ H' => ∃ (rs : List Addr) (F : List (List Int)) (lf : List Int) (cs : List V) (x : Option V), FlAt H' p rs F ∧ Flo L i rooms.length rooms F lf ∧ H' fa = some (.lst (lf.map V.int)) ∧ fa ∉ rs ∧ p ∉ rs ∧ ca ∉ rs ∧ (∀ r ∈ rs, H r = none) ∧ H' ca = some (.lst cs) ∧ cs.length = i ∧ (∀ (e : Nat) (v : V), cs[e]? = some v → CutAt L rooms.length rooms F lf H' (fun c => c ∉ rs ∧ c ≠ fa ∧ c ≠ p ∧ c ≠ ca ∧ H c = none) e v) ∧ (∀ (e e' : Nat) (c : Addr), cs[e]? = some (V.ref c) → cs[e']? = some (V.ref c) → e = e') ∧ Same H H' ∧ σ = [some (.ref rm), some (.ref l), some (.ref fa), some (.ref p), some (.ref ca), x] := ⟨_, rfl⟩
  refine forW_range Pv ?_ ?_ ?_
  · rw [hP]
    refine ⟨[], [], rooms, [], _, ⟨by rw [upd_ne (Ne.symm cap), upd_same]; rfl, rfl, (fun e r fl z => by cases z), List.nodup_nil, (fun r z => by cases z)⟩, ⟨⟨rfl, fun r z => by cases z⟩, fun e j => by simp [fl], fun e j z => by simp [fl] at z, rfl, fun j => ?_, fun j hj => ?_⟩, by rw [upd_ne (Ne.symm cafa), upd_ne (Ne.symm pfa), upd_same], by simp, by simp, by simp, (fun r z => by cases z), upd_same, rfl, (fun e v z => by cases z), (fun e e' c z => by cases z), S1, rfl⟩
    · by_cases hj : j < rooms.length
      · rw [My.getD_at hj]
        exact r0 _ (List.getElem_mem hj)
      · simp [List.getD, List.getElem?_eq_none (show rooms.length ≤ j by omega)]
    · simp [colS]
  · intro i σ H3 hi h
    rw [hP] at h
    obtain ⟨rs, F3, lf3, cs, x, hF3, flo3, f3, frs, prs, crs, rs0, c3, lcs, cut3, sep3, e3, rfl⟩ := h
    have hi' : i < L.length := by omega
    simp only [rRep, tComp_eq, tComp1, slots, Option.getD_some, Option.getD_none, tYes, tSeq, tAsg, gName, tOp, tC, tVar, tCB, tCons, tNil, tCall, tRet, tDrop, tTup, tLst, tBM, rAppend, Kd_non, Kd_bl, Kd_int, Kd_str, decide_true, decide_false, tFor_eq, iList, iRng1, L2.start, cxK, Int.reduceToNat, List.map_cons, List.map_nil, List.length_cons, List.length_nil, Nat.reduceAdd, Nat.reduceSub, Nat.zero_add, List.replicate_succ, List.replicate_zero, List.cons_append, List.nil_append, List.append_nil, List.getElem?_cons_zero, List.getElem?_cons_succ, List.set_cons_zero, List.set_cons_succ, Option.some.injEq, V.int.injEq, V.bl.injEq, V.ref.injEq, V.str.injEq, V.ty.injEq, List.cons.injEq, exists_eq_left', exists_eq_left, exists_eq_right, exists_and_left, exists_and_right, and_true, true_and, and_assoc, exists_const, decide_eq_true_eq, Bool.not_eq_true', Bool.not_true, Bool.not_false, Bool.not_not, decide_eq_false_iff_not, ite_not, Bool.false_eq_true, if_true, if_false, reduceCtorEq, and_false, false_and, exists_false, or_false, false_or, ↓reduceIte, eq_self, reduceIte]
    have mm := lo.m
    have lrs : rs.length = i := by rw [hF3.len, flo3.rows.1]
    refine ⟨.inl ⟨rfl, _, SqL.of hF3.top⟩, by decide, fun a1 h1 => ⟨rooms.map V.int, .inl ((e3.trans (same_new h1 _)).seq hrm), [.int 0], upd_same, by omega, by rw [List.length_map]; omega, ?_, fun r h2 => ?_⟩⟩
    · rw [List.length_map, List.length_singleton]
      refine Nat.le_trans (m := 1000) (by omega) (by decide)
    obtain ⟨Ha, ga, Sa, la⟩ := fresh_lst (K := K) h1 [.int 0]
    rw [← ga] at h2 ⊢
    clear ga
    have ez : (List.replicate ((rooms.map V.int).length : Int).toNat [V.int 0]).flatten = (zr rooms.length).map V.int := by
      rw [List.length_map, rep_flat, zr, List.map_replicate]
      rfl
    rw [ez]
    have hr2 : Ha r = none := h2
    obtain ⟨Hb, gb, Sb, lb⟩ : ∃ Hb, Hb = upd Ha r (.lst ((zr rooms.length).map V.int)) ∧ Same Ha Hb ∧ Hb r = some (.lst ((zr rooms.length).map V.int)) := ⟨_, rfl, same_new h2 _, upd_same⟩
    rw [← gb]
    clear gb
    have Sab := Sa.trans Sb
    have rn : ∀ b u, H3 b = some u → r ≠ b := fun b u hb z => by
      rw [← z] at hb
      rw [Sa _ _ hb] at hr2
      cases hr2
    have rp : r ≠ p := rn _ _ hF3.top
    have rfa : r ≠ fa := rn _ _ f3
    have rca : r ≠ ca := rn _ _ c3
    have rrs : r ∉ rs := fun z => by
      obtain ⟨e, he⟩ := List.mem_iff_getElem?.mp z
      have hl := (List.getElem?_eq_some_iff.mp he).1
      have hl2 : e < F3.length := by rw [← hF3.len]; exact hl
      exact rn _ _ (hF3.row e r _ he (List.getElem?_eq_getElem hl2)) rfl
    have rH : H r = none := by
      cases hh : H r with
      | none => rfl
      | some u => exact absurd rfl (rn _ _ (e3 _ _ hh))
    refine ⟨rs.map V.ref, Sab _ _ hF3.top, by rw [List.length_map]; exact Nat.lt_of_lt_of_le (m := 1000) (by omega) (by decide), .inl ⟨rfl, cs, SqL.of (by rw [upd_ne cap]; exact Sab _ _ c3)⟩, ?_⟩
    have hFb := fl_snoc (hF3.same Sab) lb rrs rp prs
    rw [List.map_append, List.map_cons, List.map_nil] at hFb
    have hSb : Same H (upd Hb p (.lst (rs.map V.ref ++ [.ref r]))) := same_upd (e3.trans Sab) hpH _
    have hfb : (upd Hb p (.lst (rs.map V.ref ++ [.ref r]))) fa = some (.lst (lf3.map V.int)) := by
      rw [upd_ne (Ne.symm pfa)]
      exact Sab _ _ f3
    have hcb : (upd Hb p (.lst (rs.map V.ref ++ [.ref r]))) ca = some (.lst cs) := by
      rw [upd_ne cap]
      exact Sab _ _ c3
    have flob := flo_new flo3
    have frs2 : fa ∉ rs ++ [r] := fun z => by
      rcases List.mem_append.mp z with z | z
      · exact frs z
      · exact rfa (List.mem_singleton.mp z).symm
    have prs2 : p ∉ rs ++ [r] := fun z => by
      rcases List.mem_append.mp z with z | z
      · exact prs z
      · exact rp (List.mem_singleton.mp z).symm
    have crs2 : ca ∉ rs ++ [r] := fun z => by
      rcases List.mem_append.mp z with z | z
      · exact crs z
      · exact rca (List.mem_singleton.mp z).symm
    have rs02 : ∀ b ∈ rs ++ [r], H b = none := fun b z => by
      rcases List.mem_append.mp z with z | z
      · exact rs0 b z
      · rw [List.mem_singleton.mp z]
        exact rH
    have hen : L[i]? = some L[i] := List.getElem?_eq_getElem hi'
    have ewt : wt L i = (L[i]).2 := by rw [wt, List.getD, hen]; rfl
    have sizb : Siz rooms.length L (F3 ++ [zr rooms.length]) := ⟨by rw [flob.rows.1]; omega, lo.l, flob.rows.2, lo.pl, lo.nd, lo.m⟩
    obtain ⟨Hc, gc⟩ : ∃ Hc, Hc = upd Hb p (.lst (rs.map V.ref ++ [.ref r])) := ⟨_, rfl⟩
    have old : ∀ c u, (c ∉ rs ∧ c ≠ fa ∧ c ≠ p ∧ c ≠ ca ∧ H c = none) → H3 c = some u → (c ∉ rs ++ [r]) ∧ Hc c = some u := fun c u hc hu => by
      refine ⟨fun z => ?_, ?_⟩
      · rcases List.mem_append.mp z with z | z
        · exact hc.1 z
        · exact rn _ _ hu (List.mem_singleton.mp z).symm
      · rw [gc, upd_ne hc.2.2.1]
        exact Sab _ _ hu
    rw [← gc] at hFb hSb hfb hcb ⊢
    refine ⟨l, p, fa, i, rooms.length, L, rs ++ [r], F3 ++ [zr rooms.length], lf3, rooms, L[i], H, by rw [Int.zero_add], hL, hSb, hfa, rs02, hFb, sizb, flob, hfb, frs2, Ne.symm pfa, hen, lo.w _ (List.getElem_mem hi'), row_zero flo3.rows, ?_⟩
    intro F4 lf4 H4 S4 fr4 hF4 hf4 flo4 row4 sh4
    have hc4 : H4 ca = some (.lst cs) := fr4 _ _ crs2 cafa hcb
    have lc : cs.length < sizeLine := Nat.lt_of_lt_of_le (m := 1000) (by omega) (by decide)
    have olds : ∀ (v0 : V) (e : Nat) (v : V), cs[e]? = some v → CutAt L rooms.length rooms F4 lf4 (upd H4 ca (.lst (cs ++ [v0]))) (fun c => c ∉ rs ++ [r] ∧ c ≠ fa ∧ c ≠ p ∧ c ≠ ca ∧ H c = none) e v := fun v0 e v hv => by
      have he : e < i := by rw [← lcs]; exact (List.getElem?_eq_some_iff.mp hv).1
      refine (cut3 e v hv).go (fun e' he' => ?_) (fun S sh => sh4 S (shut_new flo3.rows sh)) (fun c u hc hu => ?_)
      · rw [row4 e' (by omega), row_new flo3.rows (by omega)]
      · obtain ⟨o1, o2⟩ := old c u hc hu
        exact ⟨⟨o1, hc.2⟩, by rw [upd_ne hc.2.2.2.1]; exact fr4 _ _ o1 hc.2.1 o2⟩
    have sepc : ∀ v0 : V, (∀ (e : Nat) (c : Addr), cs[e]? = some (V.ref c) → v0 ≠ V.ref c) → ∀ (e e' : Nat) (c : Addr), (cs ++ [v0])[e]? = some (V.ref c) → (cs ++ [v0])[e']? = some (V.ref c) → e = e' := fun v0 hn0 e e' c h1 h2 => by
      have a1 := (List.getElem?_eq_some_iff.mp h1).1
      have a2 := (List.getElem?_eq_some_iff.mp h2).1
      rw [List.length_append, List.length_singleton] at a1 a2
      by_cases b1 : e < cs.length <;> by_cases b2 : e' < cs.length
      · rw [List.getElem?_append_left b1] at h1
        rw [List.getElem?_append_left b2] at h2
        exact sep3 e e' c h1 h2
      · rw [List.getElem?_append_left b1] at h1
        rw [List.getElem?_append_right (by omega), show e' - cs.length = 0 by omega] at h2
        exact absurd (Option.some.inj h2) (hn0 _ _ h1)
      · rw [List.getElem?_append_left b2] at h2
        rw [List.getElem?_append_right (by omega), show e - cs.length = 0 by omega] at h1
        exact absurd (Option.some.inj h1) (hn0 _ _ h2)
      · omega
    have done : ∀ v0 : V, CutAt L rooms.length rooms F4 lf4 (upd H4 ca (.lst (cs ++ [v0]))) (fun c => c ∉ rs ++ [r] ∧ c ≠ fa ∧ c ≠ p ∧ c ≠ ca ∧ H c = none) i v0 → (∀ (e : Nat) (c : Addr), cs[e]? = some (V.ref c) → v0 ≠ V.ref c) → Pv (i + 1) [some (V.ref rm), some (V.ref l), some (V.ref fa), some (V.ref p), some (V.ref ca), some (V.int (0 + (i : Int)))] (upd H4 ca (.lst (cs ++ [v0]))) := fun v0 hv0 hn0 => by
      rw [hP]
      refine ⟨rs ++ [r], F4, lf4, cs ++ [v0], _, ⟨by rw [upd_ne (Ne.symm cap)]; exact hF4.top, hF4.len, fun e b fl he hf => ?_, hF4.nd, hF4.ne⟩, flo4, by rw [upd_ne (Ne.symm cafa)]; exact hf4, frs2, prs2, crs2, rs02, upd_same, by rw [List.length_append, lcs]; rfl, fun e v hv => ?_, sepc v0 hn0, same_upd S4 hcaH _, rfl⟩
      · rw [upd_ne (fun z : b = ca => crs2 (z ▸ List.mem_iff_getElem?.mpr ⟨_, he⟩))]
        exact hF4.row e b fl he hf
      · by_cases he : e < cs.length
        · rw [List.getElem?_append_left he] at hv
          exact olds v0 e v hv
        · have he2 := (List.getElem?_eq_some_iff.mp hv).1
          rw [List.length_append, List.length_singleton] at he2
          have ee : e = i := by omega
          subst ee
          rw [List.getElem?_append_right (by omega), lcs, Nat.sub_self] at hv
          cases hv
          exact hv0
    refine ⟨fun e4 => ⟨cs, hc4, lc, done .non (.inl ⟨rfl, by rw [e4, ewt]⟩) (fun _ _ _ z => by cases z)⟩, fun c ns hcn hc lt4 so4 rg4 sh4' in4 => ⟨cs, hc4, lc, done (.ref c) (.inr ?_) ?_⟩⟩
    rotate_left
    · intro e c' hc' z
      cases z
      rcases cut3 e _ hc' with ⟨z, _⟩ | ⟨c2, ns2, z, ok2, h2, _⟩
      · cases z
      · cases z
        rw [(old _ _ ok2 h2).2] at hcn
        cases hcn
    have cn : ∀ b u, Hc b = some u → c ≠ b := fun b u hb z => by rw [z, hb] at hcn; cases hcn
    refine ⟨c, ns, rfl, ⟨fun z => ?_, cn _ _ hfb, cn _ _ hFb.top, cn _ _ hcb, none_of hSb hcn⟩, by rw [upd_ne (cn _ _ hcb)]; exact hc, by rw [ewt]; exact lt4, so4, rg4, sh4', in4, ?_⟩
    · obtain ⟨e, he⟩ := List.mem_iff_getElem?.mp z
      have hl := (List.getElem?_eq_some_iff.mp he).1
      have hl2 : e < (F3 ++ [zr rooms.length]).length := by rw [← hFb.len]; exact hl
      exact cn _ _ (hFb.row e c _ he (List.getElem?_eq_getElem hl2)) rfl
    · refine tight flo4 (inS ns) ?_
      have ei : (fun j : Nat => inS ns j = true) = fun j : Nat => (j : Int) ∈ ns := by
        funext j
        simp [inS]
      rw [ei]
      exact sh4'
  · intro σ H3 h
    rw [hP] at h
    obtain ⟨rs, F3, lf3, cs, x, hF3, flo3, f3, frs, prs, crs, rs0, c3, lcs, cut3, sep3, e3, rfl⟩ := h
    rw [show ((us.length : Int)).toNat = L.length by omega] at flo3 lcs
    simp only [rRep, tComp_eq, tComp1, slots, Option.getD_some, Option.getD_none, tYes, tSeq, tAsg, gName, tOp, tC, tVar, tCB, tCons, tNil, tCall, tRet, tDrop, tTup, tLst, tBM, rAppend, Kd_non, Kd_bl, Kd_int, Kd_str, decide_true, decide_false, tFor_eq, iList, iRng1, L2.start, cxK, Int.reduceToNat, List.map_cons, List.map_nil, List.length_cons, List.length_nil, Nat.reduceAdd, Nat.reduceSub, Nat.zero_add, List.replicate_succ, List.replicate_zero, List.cons_append, List.nil_append, List.append_nil, List.getElem?_cons_zero, List.getElem?_cons_succ, List.set_cons_zero, List.set_cons_succ, Option.some.injEq, V.int.injEq, V.bl.injEq, V.ref.injEq, V.str.injEq, V.ty.injEq, List.cons.injEq, exists_eq_left', exists_eq_left, exists_eq_right, exists_and_left, exists_and_right, and_true, true_and, and_assoc, exists_const, decide_eq_true_eq, Bool.not_eq_true', Bool.not_true, Bool.not_false, Bool.not_not, decide_eq_false_iff_not, ite_not, Bool.false_eq_true, if_true, if_false, reduceCtorEq, and_false, false_and, exists_false, or_false, false_or, ↓reduceIte, eq_self, reduceIte]
    have mm := lo.m
    have lrs : rs.length = L.length := by rw [hF3.len, flo3.rows.1]
    refine ⟨⟨_, SqL.of hF3.top⟩, fun D1 hD1 => ?_⟩
    have at3 : ∀ (i : Nat) (x : V), (rs.map V.ref)[i]? = some x → ∃ (r : Addr) (row : List Int), x = .ref r ∧ F3[i]? = some row ∧ H3 r = some (.lst (row.map V.int)) ∧ row ∈ F3 ∧ i < L.length := fun i x hx => by
      rw [List.getElem?_map] at hx
      obtain ⟨r, hr, rfl⟩ := Option.map_eq_some_iff.mp hx
      have hl := (List.getElem?_eq_some_iff.mp hr).1
      have hl2 : i < F3.length := by rw [← hF3.len]; exact hl
      exact ⟨r, F3[i], rfl, List.getElem?_eq_getElem hl2, hF3.row i r _ hr (List.getElem?_eq_getElem hl2), List.getElem_mem hl2, by omega⟩
    obtain ⟨Pc, hC⟩ : ∃ Pc : Nat → St → Hp → Prop, Pc = fun i τ H' => ∃ (z : Option V), H' D1 = some (.lst (((F3.take i).map List.sum).map V.int)) ∧ Same H3 H' ∧ τ = [z] := ⟨_, rfl⟩
    refine compS_list (rs.map V.ref) Pc ?_ (fun i τ H' _ h => by rw [hC] at h; obtain ⟨z, _, e, _⟩ := h; exact SqL.of (e _ _ hF3.top)) ?_ ?_
    · rw [hC]
      exact ⟨_, upd_same, same_new hD1 _, rfl⟩
    · intro i x τ H' R' hx h next
      rw [hC] at h
      obtain ⟨z, d1, e1, rfl⟩ := h
      obtain ⟨r, row, rfl, hrow, hr, _, li⟩ := at3 i x hx
      simp only [rRep, tComp_eq, tComp1, slots, Option.getD_some, Option.getD_none, tYes, tSeq, tAsg, gName, tOp, tC, tVar, tCB, tCons, tNil, tCall, tRet, tDrop, tTup, tLst, tBM, rAppend, Kd_non, Kd_bl, Kd_int, Kd_str, decide_true, decide_false, tFor_eq, iList, iRng1, L2.start, cxK, Int.reduceToNat, List.map_cons, List.map_nil, List.length_cons, List.length_nil, Nat.reduceAdd, Nat.reduceSub, Nat.zero_add, List.replicate_succ, List.replicate_zero, List.cons_append, List.nil_append, List.append_nil, List.getElem?_cons_zero, List.getElem?_cons_succ, List.set_cons_zero, List.set_cons_succ, Option.some.injEq, V.int.injEq, V.bl.injEq, V.ref.injEq, V.str.injEq, V.ty.injEq, List.cons.injEq, exists_eq_left', exists_eq_left, exists_eq_right, exists_and_left, exists_and_right, and_true, true_and, and_assoc, exists_const, decide_eq_true_eq, Bool.not_eq_true', Bool.not_true, Bool.not_false, Bool.not_not, decide_eq_false_iff_not, ite_not, Bool.false_eq_true, if_true, if_false, reduceCtorEq, and_false, false_and, exists_false, or_false, false_or, ↓reduceIte, eq_self, reduceIte]
      refine ⟨row, SqL.of (e1 _ _ hr), _, d1, ?_, next _ _ ?_⟩
      · rw [List.length_map, List.length_map, List.length_take]
        exact Nat.lt_of_lt_of_le (m := 1000) (by omega) (by decide)
      · rw [hC]
        refine ⟨_, ?_, same_upd e1 hD1 _, rfl⟩
        rw [upd_same, List.take_add_one, hrow, List.map_append, List.map_append]
        rfl
    intro τ H4 h
    rw [hC] at h
    obtain ⟨z, d1, e1, rfl⟩ := h
    rw [List.length_map, hF3.len, List.take_length] at d1
    refine ⟨⟨_, SqL.of (e1 _ _ hF3.top)⟩, fun D2 hD2 => ?_⟩
    obtain ⟨Pd, hD⟩ : ∃ Pd : Nat → St → Hp → Prop, Pd = fun i τ H' => ∃ (z : Option V) (ras : List Addr), H' D2 = some (.lst (ras.map V.ref)) ∧ Paired (fun a (row : List Int) => ∃ us, H' a = some (.lst us) ∧ RtAt K H' us (rt row) ∧ a ≠ D2 ∧ H4 a = none) ras (F3.take i) ∧ ras.Nodup ∧ Same H4 H' ∧ τ = [z] := ⟨_, rfl⟩
    refine compS_list (rs.map V.ref) Pd ?_ (fun i τ H' _ h => by rw [hD] at h; obtain ⟨z, _, _, _, _, e, _⟩ := h; exact SqL.of (e _ _ (e1 _ _ hF3.top))) ?_ ?_
    · rw [hD]
      exact ⟨_, [], upd_same, .nil, List.nodup_nil, same_new hD2 _, rfl⟩
    · intro i x τ H' R' hx h next
      rw [hD] at h
      obtain ⟨z, ras, d2, pr, nd, e2, rfl⟩ := h
      obtain ⟨r, row, rfl, hrow, hr, mrow, li⟩ := at3 i x hx
      have lru : ras.length ≤ i := by
        rw [Paired.length pr, List.length_take]
        omega
      simp only [rRep, tComp_eq, tComp1, slots, Option.getD_some, Option.getD_none, tYes, tSeq, tAsg, gName, tOp, tC, tVar, tCB, tCons, tNil, tCall, tRet, tDrop, tTup, tLst, tBM, rAppend, Kd_non, Kd_bl, Kd_int, Kd_str, decide_true, decide_false, tFor_eq, iList, iRng1, L2.start, cxK, Int.reduceToNat, List.map_cons, List.map_nil, List.length_cons, List.length_nil, Nat.reduceAdd, Nat.reduceSub, Nat.zero_add, List.replicate_succ, List.replicate_zero, List.cons_append, List.nil_append, List.append_nil, List.getElem?_cons_zero, List.getElem?_cons_succ, List.set_cons_zero, List.set_cons_succ, Option.some.injEq, V.int.injEq, V.bl.injEq, V.ref.injEq, V.str.injEq, V.ty.injEq, List.cons.injEq, exists_eq_left', exists_eq_left, exists_eq_right, exists_and_left, exists_and_right, and_true, true_and, and_assoc, exists_const, decide_eq_true_eq, Bool.not_eq_true', Bool.not_true, Bool.not_false, Bool.not_not, decide_eq_false_iff_not, ite_not, Bool.false_eq_true, if_true, if_false, reduceCtorEq, and_false, false_and, exists_false, or_false, false_or, ↓reduceIte, eq_self, reduceIte]
      refine ⟨r, row, rfl, SqL.of (e2 _ _ (e1 _ _ hr)), by rw [flo3.rows.2 row mrow]; omega, fun a vs H6 e6 ha h6 rt6 => ?_⟩
      have aD : a ≠ D2 := fun z => by rw [z, d2] at ha; cases ha
      refine ⟨ras.map V.ref, e6 _ _ d2, Nat.lt_of_lt_of_le (m := 1000) (by rw [List.length_map]; omega) (by decide), next _ _ ?_⟩
      have anr : a ∉ ras := fun z => by
        obtain ⟨_, us, h2, _⟩ := pair_mem pr z
        rw [h2] at ha
        cases ha
      rw [hD]
      refine ⟨_, ras ++ [a], by rw [upd_same, List.map_append]; rfl, ?_, nodup_snoc nd anr, same_upd (e2.trans e6) hD2 _, rfl⟩
      rw [List.take_add_one, hrow]
      refine pair_snoc ?_ (Paired.mapP pr fun v row => ?_)
      · exact ⟨vs, by rw [upd_ne aD]; exact h6, RtAt.upd (e6 _ _ d2) (fun ys z => by cases z) (fun _ _ z => by cases z) rt6, aD, none_of e2 ha⟩
      · rintro ⟨ws, h2, h3, h4, h5⟩
        exact ⟨ws, by rw [upd_ne h4]; exact e6 _ _ h2, RtAt.upd (e6 _ _ d2) (fun ys z => by cases z) (fun _ _ z => by cases z) (h3.same e6), h4, h5⟩
    intro τ H5 h
    rw [hD] at h
    obtain ⟨z, ras, d2, pr, nd, e2, rfl⟩ := h
    rw [List.length_map, hF3.len, List.take_length] at pr
    refine ⟨by decide, fun t ht => ?_⟩
    obtain ⟨H6, g6, S6, T6⟩ := fresh_tup (K := K) ht [.ref D1, .ref D2, .ref ca]
    rw [← g6]
    clear g6
    have e36 := (e1.trans e2).trans S6
    have tH : H t = none := by
      cases hh : H t with
      | none => rfl
      | some u =>
        rw [(e1.trans e2) _ _ (e3 _ _ hh)] at ht
        cases ht
    have D2H : H D2 = none := none_of (e3.trans e1) hD2
    have rsH : ∀ r ∈ ras, H4 r = none := fun r hr => by
      obtain ⟨_, _, _, _, _, h⟩ := pair_mem pr hr
      exact h
    have rD2 : ∀ r ∈ ras, r ≠ D2 := fun r hr => by
      obtain ⟨_, _, _, _, h, _⟩ := pair_mem pr hr
      exact h
    have nn : ∀ {Hx : Hp} {a b : Addr} {u : HO}, Hx a = none → Hx b = some u → b ≠ a := fun h1 h2 z => by rw [z, h1] at h2; cases h2
    have c4 := e1 _ _ c3
    refine q t D1 D2 ca F3 lf3 ras cs H6 (e3.trans e36) tH ⟨T6, (e2.trans S6) _ _ d1, S6 _ _ d2, Paired.mapP pr fun a row => ?_, e36 _ _ c3⟩ lcs (fun e v hv => (cut3 e v hv).go (fun _ _ => rfl) (fun _ h => h) fun c u hc hu => ⟨⟨hc.2.2.2.2, nn hD1 hu, nn hD2 (e1 _ _ hu), hc.2.2.2.1, fun z => nn (rsH c z) (e1 _ _ hu) rfl⟩, e36 _ _ hu⟩) flo3 ⟨none_of e3 hD1, D2H, hcaH, fun r hr => none_of (e3.trans e1) (rsH r hr), nd, nn hD2 d1, Ne.symm (nn hD1 c3), Ne.symm (nn hD2 c4), fun z => nn (rsH _ z) d1 rfl, fun z => rD2 _ z rfl, fun z => nn (rsH _ z) c4 rfl, sep3⟩
    rintro ⟨ws, h2, h3, h4, h5⟩
    exact ⟨ws, S6 _ _ h2, h3.same S6⟩
end

end MyI
namespace MyJ
open My MyB MyC MyD MyE MyF MyG MyS MyI PySem L2
def top (i : Nat) : Stmt := PySem.Challenge.pw_tariffgate_k64_cuts.main.body.getD i (.Pass ⟨0, 0, 0, 0⟩)
theorem dn__law_script : (("_law_script" : Str) == ("__debug__" : Str)) = false := by decide
theorem dc__law_script : (("_law_script" : Str) == ("__classdict__" : Str)) = false := by decide
theorem dn__law_k : (("_law_k" : Str) == ("__debug__" : Str)) = false := by decide
theorem dc__law_k : (("_law_k" : Str) == ("__classdict__" : Str)) = false := by decide
theorem dn__law_first : (("_law_first" : Str) == ("__debug__" : Str)) = false := by decide
theorem dc__law_first : (("_law_first" : Str) == ("__classdict__" : Str)) = false := by decide
theorem dn__law_head : (("_law_head" : Str) == ("__debug__" : Str)) = false := by decide
theorem dc__law_head : (("_law_head" : Str) == ("__classdict__" : Str)) = false := by decide
theorem dn__law_top : (("_law_top" : Str) == ("__debug__" : Str)) = false := by decide
theorem dc__law_top : (("_law_top" : Str) == ("__classdict__" : Str)) = false := by decide
theorem dn__law_many : (("_law_many" : Str) == ("__debug__" : Str)) = false := by decide
theorem dc__law_many : (("_law_many" : Str) == ("__classdict__" : Str)) = false := by decide
theorem dn__law_cell : (("_law_cell" : Str) == ("__debug__" : Str)) = false := by decide
theorem dn__law_part : (("_law_part" : Str) == ("__debug__" : Str)) = false := by decide
theorem dc__law_part : (("_law_part" : Str) == ("__classdict__" : Str)) = false := by decide
theorem dn__law_line_here : (("_law_line_here" : Str) == ("__debug__" : Str)) = false := by decide
theorem dc__law_line_here : (("_law_line_here" : Str) == ("__classdict__" : Str)) = false := by decide
theorem dn__law_cell_here : (("_law_cell_here" : Str) == ("__debug__" : Str)) = false := by decide
theorem dc__law_cell_here : (("_law_cell_here" : Str) == ("__classdict__" : Str)) = false := by decide
theorem dn__law_places : (("_law_places" : Str) == ("__debug__" : Str)) = false := by decide
theorem dc__law_places : (("_law_places" : Str) == ("__classdict__" : Str)) = false := by decide
theorem dn__law_place : (("_law_place" : Str) == ("__debug__" : Str)) = false := by decide
theorem dc__law_place : (("_law_place" : Str) == ("__classdict__" : Str)) = false := by decide
theorem dn__law_found : (("_law_found" : Str) == ("__debug__" : Str)) = false := by decide
theorem dc__law_found : (("_law_found" : Str) == ("__classdict__" : Str)) = false := by decide
theorem dn_isinstance : (("isinstance" : Str) == ("__debug__" : Str)) = false := by decide
theorem nn_isinstance : ("isinstance" : Str) ≠ "__name__" := by decide
theorem dn_int : (("int" : Str) == ("__debug__" : Str)) = false := by decide
theorem nn_int : ("int" : Str) ≠ "__name__" := by decide
theorem dn_bool : (("bool" : Str) == ("__debug__" : Str)) = false := by decide
theorem nn_bool : ("bool" : Str) ≠ "__name__" := by decide
abbrev s_law_cell : Stmt := top 9
theorem sc_law_cell : FnScope ["_law_script", "_law_k", "_law_first"] ["_law_script", "_law_k"] (defScope s_law_cell) := ⟨rfl, rfl, rfl, by decide +kernel, rfl, by decide +kernel, by decide +kernel⟩
theorem v_law_cell_0 : Vis (defScope s_law_cell) "_law_script" := by first | exact Or.inl rfl | exact Or.inr (Or.inl rfl) | exact Or.inr (Or.inr rfl)
theorem v_law_cell_1 : Vis (defScope s_law_cell) "_law_k" := by first | exact Or.inl rfl | exact Or.inr (Or.inl rfl) | exact Or.inr (Or.inr rfl)
theorem v_law_cell_2 : Vis (defScope s_law_cell) "_law_first" := by first | exact Or.inl rfl | exact Or.inr (Or.inl rfl) | exact Or.inr (Or.inr rfl)
theorem l_law_cell_2 : Loc (defScope s_law_cell) "_law_first" := by first | exact Or.inl rfl | exact Or.inr rfl
theorem g_law_cell_len : (defScope s_law_cell).names.lookup ("len" : Str) = some .globalImplicit := by rfl
abbrev s_law_rooms : Stmt := top 10
theorem sc_law_rooms : FnScope ["_law_script", "_law_head", "_law_top", "_law_many"] ["_law_script"] (defScope s_law_rooms) := ⟨rfl, rfl, rfl, by decide +kernel, rfl, by decide +kernel, by decide +kernel⟩
theorem v_law_rooms_0 : Vis (defScope s_law_rooms) "_law_script" := by first | exact Or.inl rfl | exact Or.inr (Or.inl rfl) | exact Or.inr (Or.inr rfl)
theorem v_law_rooms_1 : Vis (defScope s_law_rooms) "_law_head" := by first | exact Or.inl rfl | exact Or.inr (Or.inl rfl) | exact Or.inr (Or.inr rfl)
theorem l_law_rooms_1 : Loc (defScope s_law_rooms) "_law_head" := by first | exact Or.inl rfl | exact Or.inr rfl
theorem l_law_rooms_2 : Loc (defScope s_law_rooms) "_law_top" := by first | exact Or.inl rfl | exact Or.inr rfl
theorem v_law_rooms_3 : Vis (defScope s_law_rooms) "_law_many" := by first | exact Or.inl rfl | exact Or.inr (Or.inl rfl) | exact Or.inr (Or.inr rfl)
theorem l_law_rooms_3 : Loc (defScope s_law_rooms) "_law_many" := by first | exact Or.inl rfl | exact Or.inr rfl
theorem g_law_rooms__law_cell : (defScope s_law_rooms).names.lookup ("_law_cell" : Str) = some .globalImplicit := by rfl
theorem g_law_rooms_range : (defScope s_law_rooms).names.lookup ("range" : Str) = some .globalImplicit := by rfl
abbrev s_law_line : Stmt := top 11
theorem sc_law_line : FnScope ["_law_script", "_law_many", "_law_head", "_law_top", "_law_part", "_law_line_here", "_law_k", "_law_cell_here", "_law_places"] ["_law_script", "_law_many"] (defScope s_law_line) := ⟨rfl, rfl, rfl, by decide +kernel, rfl, by decide +kernel, by decide +kernel⟩
theorem v_law_line_0 : Vis (defScope s_law_line) "_law_script" := by first | exact Or.inl rfl | exact Or.inr (Or.inl rfl) | exact Or.inr (Or.inr rfl)
theorem v_law_line_1 : Vis (defScope s_law_line) "_law_many" := by first | exact Or.inl rfl | exact Or.inr (Or.inl rfl) | exact Or.inr (Or.inr rfl)
theorem v_law_line_2 : Vis (defScope s_law_line) "_law_head" := by first | exact Or.inl rfl | exact Or.inr (Or.inl rfl) | exact Or.inr (Or.inr rfl)
theorem l_law_line_2 : Loc (defScope s_law_line) "_law_head" := by first | exact Or.inl rfl | exact Or.inr rfl
theorem v_law_line_3 : Vis (defScope s_law_line) "_law_top" := by first | exact Or.inl rfl | exact Or.inr (Or.inl rfl) | exact Or.inr (Or.inr rfl)
theorem l_law_line_3 : Loc (defScope s_law_line) "_law_top" := by first | exact Or.inl rfl | exact Or.inr rfl
theorem v_law_line_4 : Vis (defScope s_law_line) "_law_part" := by first | exact Or.inl rfl | exact Or.inr (Or.inl rfl) | exact Or.inr (Or.inr rfl)
theorem l_law_line_4 : Loc (defScope s_law_line) "_law_part" := by first | exact Or.inl rfl | exact Or.inr rfl
theorem v_law_line_5 : Vis (defScope s_law_line) "_law_line_here" := by first | exact Or.inl rfl | exact Or.inr (Or.inl rfl) | exact Or.inr (Or.inr rfl)
theorem l_law_line_5 : Loc (defScope s_law_line) "_law_line_here" := by first | exact Or.inl rfl | exact Or.inr rfl
theorem v_law_line_6 : Vis (defScope s_law_line) "_law_k" := by first | exact Or.inl rfl | exact Or.inr (Or.inl rfl) | exact Or.inr (Or.inr rfl)
theorem l_law_line_6 : Loc (defScope s_law_line) "_law_k" := by first | exact Or.inl rfl | exact Or.inr rfl
theorem v_law_line_7 : Vis (defScope s_law_line) "_law_cell_here" := by first | exact Or.inl rfl | exact Or.inr (Or.inl rfl) | exact Or.inr (Or.inr rfl)
theorem l_law_line_7 : Loc (defScope s_law_line) "_law_cell_here" := by first | exact Or.inl rfl | exact Or.inr rfl
theorem v_law_line_8 : Vis (defScope s_law_line) "_law_places" := by first | exact Or.inl rfl | exact Or.inr (Or.inl rfl) | exact Or.inr (Or.inr rfl)
theorem l_law_line_8 : Loc (defScope s_law_line) "_law_places" := by first | exact Or.inl rfl | exact Or.inr rfl
theorem g_law_line__law_cell : (defScope s_law_line).names.lookup ("_law_cell" : Str) = some .globalImplicit := by rfl
theorem g_law_line_range : (defScope s_law_line).names.lookup ("range" : Str) = some .globalImplicit := by rfl
abbrev s_law_copy : Stmt := top 12
theorem sc_law_copy : FnScope ["_law_line_here"] ["_law_line_here"] (defScope s_law_copy) := ⟨rfl, rfl, rfl, by decide +kernel, rfl, by decide +kernel, by decide +kernel⟩
theorem v_law_copy_0 : Vis (defScope s_law_copy) "_law_line_here" := by first | exact Or.inl rfl | exact Or.inr (Or.inl rfl) | exact Or.inr (Or.inr rfl)
abbrev s_law_whole : Stmt := top 13
theorem sc_law_whole : FnScope ["_law_found"] ["_law_found"] (defScope s_law_whole) := ⟨rfl, rfl, rfl, by decide +kernel, rfl, by decide +kernel, by decide +kernel⟩
theorem v_law_whole_0 : Vis (defScope s_law_whole) "_law_found" := by first | exact Or.inl rfl | exact Or.inr (Or.inl rfl) | exact Or.inr (Or.inr rfl)
theorem g_law_whole_isinstance : (defScope s_law_whole).names.lookup ("isinstance" : Str) = some .globalImplicit := by rfl
theorem g_law_whole_int : (defScope s_law_whole).names.lookup ("int" : Str) = some .globalImplicit := by rfl
theorem g_law_whole_bool : (defScope s_law_whole).names.lookup ("bool" : Str) = some .globalImplicit := by rfl

def spCell (K : PySem.W.Frag) : Sp := fun vs H Q _ => ∃ (a : Addr) (ns : List Int) (k : Int), vs = [.ref a, .int k] ∧ SqL K H a (ns.map V.int) ∧ 0 ≤ k ∧ k ≤ 1000 ∧ ∀ c, Q (.int c) H
def spIsInt : Sp := fun vs H Q _ => ∃ i, vs = [V.int i] ∧ Q (.bl true) H
def spRooms (K : PySem.W.Frag) : Sp := fun vs H Q _ => ∃ (a : Addr) (ns : List Int), vs = [.ref a] ∧ SqL K H a (ns.map V.int) ∧ ∀ (l : Addr) (rooms : List Int) (H' : Hp), Same H H' → H l = none → H' l = some (.lst (rooms.map V.int)) → rooms.length ≤ 6 → (∀ x ∈ rooms, 0 ≤ x ∧ x ≤ 10 ^ 15) → Q (.ref l) H'
structure LnL (m : Nat) (L : List En) : Prop where
  l : L.length ≤ 40
  pl : ∀ en ∈ L, en.1.Sublist (List.range m)
  w : ∀ en ∈ L, 0 ≤ en.2 ∧ en.2 ≤ 10 ^ 15
def spLine (K : PySem.W.Frag) : Sp := fun vs H Q _ => ∃ (a : Addr) (ns : List Int) (m : Nat), vs = [.ref a, .int m] ∧ SqL K H a (ns.map V.int) ∧ m ≤ 6 ∧ ∀ (l : Addr) (L : List En) (H' : Hp), Same H H' → H l = none → LnAt K H' l L → LnL m L → Q (.ref l) H'
def LnNew (K : PySem.W.Frag) (H0 H : Hp) (l : Addr) (L : List En) : Prop := ∃ us, H l = some (.lst us) ∧ Paired (fun v (e : En) => ∃ t q, v = V.ref t ∧ SqT K H t [.ref q, .int e.2] ∧ H q = some (.lst (e.1.map fun j : Nat => V.int (j : Int))) ∧ q ≠ l ∧ H0 q = none) us L
theorem LnNew.at {K : PySem.W.Frag} {H0 H : Hp} {l : Addr} {L : List En} (h : LnNew K H0 H l L) : LnAt K H l L := by
  obtain ⟨us, a, b⟩ := h
  refine ⟨us, SqL.of a, Paired.mapP b fun v e => ?_⟩
  rintro ⟨t, q, h1, h2, h3, _⟩
  exact ⟨t, q, h1, h2, SqL.of h3⟩
def spCopy (K : PySem.W.Frag) : Sp := fun vs H Q _ => ∃ (l : Addr) (L : List En), vs = [.ref l] ∧ LnAt K H l L ∧ L.length ≤ 64 ∧ ∀ (l' : Addr) (H' : Hp), Same H H' → H l' = none → LnNew K H H' l' L → Q (.ref l') H'
theorem menu4 (c : Int) : ∃ t : Int, [V.int 3, V.int 12, V.int 1000, V.int (10 ^ 15)][(c / 12 % 4).toNat]? = some (.int t) ∧ 0 ≤ t ∧ t ≤ 10 ^ 15 := by
  have a := Int.emod_nonneg (c / 12) (show (4 : Int) ≠ 0 by decide)
  have b := Int.emod_lt_of_pos (c / 12) (show (0 : Int) < 4 by decide)
  have h : (c / 12 % 4).toNat < 4 := by omega
  generalize (c / 12 % 4).toNat = n at h
  rcases n with _ | _ | _ | _ | n
  · exact ⟨_, rfl, by decide, by decide⟩
  · exact ⟨_, rfl, by decide, by decide⟩
  · exact ⟨_, rfl, by decide, by decide⟩
  · exact ⟨_, rfl, by decide, by decide⟩
  · omega
theorem menu12 (c : Int) : ∃ n : Nat, [V.int 0, V.int 1, V.int 1, V.int 2, V.int 2, V.int 3, V.int 3, V.int 3, V.int 4, V.int 4, V.int 5, V.int 6][(c % 12).toNat]? = some (.int (n : Int)) ∧ n ≤ 6 := by
  have a := Int.emod_nonneg c (show (12 : Int) ≠ 0 by decide)
  have b := Int.emod_lt_of_pos c (show (0 : Int) < 12 by decide)
  have h : (c % 12).toNat < 12 := by omega
  generalize (c % 12).toNat = n at h
  rcases n with _ | _ | _ | _ | _ | _ | _ | _ | _ | _ | _ | _ | n
  · exact ⟨0, rfl, by decide⟩
  · exact ⟨1, rfl, by decide⟩
  · exact ⟨1, rfl, by decide⟩
  · exact ⟨2, rfl, by decide⟩
  · exact ⟨2, rfl, by decide⟩
  · exact ⟨3, rfl, by decide⟩
  · exact ⟨3, rfl, by decide⟩
  · exact ⟨3, rfl, by decide⟩
  · exact ⟨4, rfl, by decide⟩
  · exact ⟨4, rfl, by decide⟩
  · exact ⟨5, rfl, by decide⟩
  · exact ⟨6, rfl, by decide⟩
  · omega
theorem menu7 {m : Nat} (h : m ≤ 6) : ∃ n : Nat, [V.int 40, V.int 40, V.int 40, V.int 40, V.int 24, V.int 12, V.int 12][((m : Nat) : Int).toNat]? = some (.int (n : Int)) ∧ n ≤ 40 := by
  rw [Int.toNat_natCast]
  rcases m with _ | _ | _ | _ | _ | _ | _ | m
  · exact ⟨40, rfl, by decide⟩
  · exact ⟨40, rfl, by decide⟩
  · exact ⟨40, rfl, by decide⟩
  · exact ⟨40, rfl, by decide⟩
  · exact ⟨24, rfl, by decide⟩
  · exact ⟨12, rfl, by decide⟩
  · exact ⟨12, rfl, by decide⟩
  · omega
theorem menu2 (c x y : Int) : [V.int x, V.int y][(c / 48 % 2).toNat]? = some (.int x) ∨ [V.int x, V.int y][(c / 48 % 2).toNat]? = some (.int y) := by
  have a := Int.emod_nonneg (c / 48) (show (2 : Int) ≠ 0 by decide)
  have b := Int.emod_lt_of_pos (c / 48) (show (0 : Int) < 2 by decide)
  have h : (c / 48 % 2).toNat < 2 := by omega
  generalize (c / 48 % 2).toNat = n at h
  rcases n with _ | _ | n
  · exact .inl rfl
  · exact .inr rfl
  · omega
theorem cut4 {s1 s2 s3 s4 tl : TS} {D : Ends} {σ : St} {H : Hp} (h : ∀ tl', tl' = tl → tSeq s1 (tSeq s2 (tSeq s3 (tSeq s4 tl'))) D σ H) : tSeq s1 (tSeq s2 (tSeq s3 (tSeq s4 tl))) D σ H := h tl rfl
section
variable {P : Program} {w : World} {K : PySem.W.Frag} {mg : Str → Option Value} {base : Heap} {f : Addr} {fd : FuncData}
theorem ok_law_cell (F : Fun K "_law_cell" "_law_cell" s_law_cell f fd) (M : Mg mg) : FnOk P w K mg base CX0 1 f fd ["_law_script", "_law_k"] (spCell K) := by
  refine F.ok sc_law_cell (fun vs H Q E h => ?_) (fun cdv A outer s H vs Q E hr h => ?_)
  · obtain ⟨a, ns, k, rfl, _⟩ := h
    rfl
  obtain ⟨a, ns, k, rfl, hS, k0, k1, q⟩ := h
  refine ⟨_, (@pss_cons _ _ _ _ _ (@ps_if _ _ _ _ _ _ _ _ (@pt_cmpR _ _ _ _ _ _ _ _ (@op_lt _) (@pe_var _ 1 _ _ rfl v_law_cell_1 dn__law_k dc__law_k) (@pe_callB _ _ _ _ _ _ _ _ _ call_len_seq g_law_cell_len M.m_len b_len (@pa_cons _ _ _ _ _ (@pe_var _ 0 _ _ rfl v_law_cell_0 dn__law_script dc__law_script) (@pa_nil _) (star1 rfl)) nn_len dn_len (star1 rfl) nost0) (nomark _)) (@pss_one _ _ _ (@ps_ret _ _ _ _ (@pe_ix _ _ _ _ _ _ _ (@ix_list _) (@pe_var _ 0 _ _ rfl v_law_cell_0 dn__law_script dc__law_script) (@pe_var _ 1 _ _ rfl v_law_cell_1 dn__law_k dc__law_k) (fun _ _ => rfl)))) (@pss_nil _)) (@pss_cons _ _ _ _ _ (@ps_set _ _ 2 _ _ _ _ sc_law_cell.nd rfl l_law_cell_2 (@pe_int _ _ _ _) (swap1 rfl) (.inl rfl)) (@pss_cons _ _ _ _ _ (@ps_if _ _ _ _ _ _ _ _ (@pt_cmpR _ _ _ _ _ _ _ _ (@op_gt _) (@pe_callB _ _ _ _ _ _ _ _ _ call_len_seq g_law_cell_len M.m_len b_len (@pa_cons _ _ _ _ _ (@pe_var _ 0 _ _ rfl v_law_cell_0 dn__law_script dc__law_script) (@pa_nil _) (star1 rfl)) nn_len dn_len (star1 rfl) nost0) (@pe_int _ _ _ _) (nomark _)) (@pss_one _ _ _ (@ps_set _ _ 2 _ _ _ _ sc_law_cell.nd rfl l_law_cell_2 (@pe_op _ _ _ _ _ _ _ _ (@op_add _) (@pe_op _ _ _ _ _ _ _ _ (@op_mod _) (@pe_ix _ _ _ _ _ _ _ (@ix_list _) (@pe_var _ 0 _ _ rfl v_law_cell_0 dn__law_script dc__law_script) (@pe_op _ _ _ _ _ _ _ _ (@op_mod _) (@pe_op _ _ _ _ _ _ _ _ (@op_add _) (@pe_op _ _ _ _ _ _ _ _ (@op_mulB _) (@pe_var _ 1 _ _ rfl v_law_cell_1 dn__law_k dc__law_k) (@pe_int _ _ _ _)) (@pe_int _ _ _ _)) (@pe_callB _ _ _ _ _ _ _ _ _ call_len_seq g_law_cell_len M.m_len b_len (@pa_cons _ _ _ _ _ (@pe_var _ 0 _ _ rfl v_law_cell_0 dn__law_script dc__law_script) (@pa_nil _) (star1 rfl)) nn_len dn_len (star1 rfl) nost0)) (fun _ _ => rfl)) (@pe_int _ _ _ _)) (@pe_int _ _ _ _)) (swap1 rfl) (.inl rfl))) (@pss_nil _)) (@pss_one _ _ _ (@ps_ret _ _ _ _ (@pe_op _ _ _ _ _ _ _ _ (@op_mod _) (@pe_op _ _ _ _ _ _ _ _ (@op_mulB _) (@pe_op _ _ _ _ _ _ _ _ (@op_mod _) (@pe_op _ _ _ _ _ _ _ _ (@op_mulB _) (@pe_var _ 2 _ _ rfl v_law_cell_2 dn__law_first dc__law_first) (@pe_int _ _ _ _)) (@pe_int _ _ _ _)) (@pe_op _ _ _ _ _ _ _ _ (@op_add _) (@pe_op _ _ _ _ _ _ _ _ (@op_add _) (@pe_op _ _ _ _ _ _ _ _ (@op_mulB _) (@pe_var _ 1 _ _ rfl v_law_cell_1 dn__law_k dc__law_k) (@pe_var _ 1 _ _ rfl v_law_cell_1 dn__law_k dc__law_k)) (@pe_op _ _ _ _ _ _ _ _ (@op_mulB _) (@pe_int _ _ _ _) (@pe_var _ 1 _ _ rfl v_law_cell_1 dn__law_k dc__law_k))) (@pe_int _ _ _ _))) (@pe_int _ _ _ _))))))), ?_⟩
  simp only [slots, Option.getD_some, Option.getD_none, tSeq, tAsg, gName, tOp, tC, tVar, tCB, tCons, tNil, rI, rI0, tRet, tIfS, tTest, tNext, rIxL, Kd_non, Kd_bl, Kd_int, Kd_str, decide_true, decide_false, L2.start, cxK, Int.reduceToNat, List.map_cons, List.map_nil, List.length_cons, List.length_nil, Nat.reduceAdd, Nat.reduceSub, Nat.zero_add, List.replicate_succ, List.replicate_zero, List.cons_append, List.nil_append, List.append_nil, List.getElem?_cons_zero, List.getElem?_cons_succ, List.set_cons_zero, List.set_cons_succ, Option.some.injEq, V.int.injEq, V.bl.injEq, V.ref.injEq, V.str.injEq, V.ty.injEq, List.cons.injEq, exists_eq_left', exists_eq_left, exists_eq_right, exists_and_left, exists_and_right, and_true, true_and, and_assoc, exists_const, decide_eq_true_eq, Bool.not_eq_true', Bool.not_true, Bool.not_false, Bool.not_not, decide_eq_false_iff_not, ite_not, Bool.false_eq_true, if_true, if_false, reduceCtorEq, and_false, false_and, exists_false, or_false, false_or, ↓reduceIte, eq_self, reduceIte]
  refine ⟨_, .inl hS, ?_⟩
  rw [List.length_map]
  by_cases hk : k < (ns.length : Int)
  · rw [if_pos hk]
    exact ⟨_, hS, _, atI_map k0 hk, q _⟩
  rw [if_neg hk]
  have kk0 := Int.mul_nonneg k0 k0
  have kk1 : k * k ≤ 1000 * 1000 := Int.mul_le_mul k1 k1 k0 (by decide)
  have fin : ∀ f : Int, 0 ≤ f → f ≤ 10 ^ 7 → CMulB f 48271 ∧ (0 : Int) < 2147483647 ∧ CMulB k k ∧ CMulB 3 k ∧ CMulB (f * 48271 % 2147483647) (k * k + 3 * k + 11) ∧ (0 : Int) < 1000000007 ∧ Q (.int (f * 48271 % 2147483647 * (k * k + 3 * k + 11) % 1000000007)) H := fun f f0 f1 => by
    have m0 := Int.emod_nonneg (f * 48271) (show (2147483647 : Int) ≠ 0 by decide)
    have m1 := Int.emod_lt_of_pos (f * 48271) (show (0 : Int) < 2147483647 by decide)
    exact ⟨cmul (by omega) (by omega) (by decide) (by decide), by decide, cmul (by omega) (by omega) (by omega) (by omega), cmul (by decide) (by decide) (by omega) (by omega), cmul (by omega) (by omega) (by omega) (by omega), by decide, q _⟩
  refine ⟨_, .inl hS, ?_⟩
  rw [List.length_map]
  by_cases hz : 0 < (ns.length : Int)
  · rw [if_pos hz]
    have j0 := Int.emod_nonneg (k * 7 + 1) (Int.ne_of_gt hz)
    have j1 := Int.emod_lt_of_pos (k * 7 + 1) hz
    refine ⟨cmul (by omega) (by omega) (by decide) (by decide), _, .inl hS, ?_, _, hS, ?_⟩
    · rw [List.length_map]
      exact hz
    · rw [List.length_map]
      refine ⟨_, atI_map j0 j1, _, rfl, by decide, ?_⟩
      have e0 := Int.emod_nonneg (ns.getD ((k * 7 + 1) % (ns.length : Int)).toNat 0) (show (1000003 : Int) ≠ 0 by decide)
      have e1 := Int.emod_lt_of_pos (ns.getD ((k * 7 + 1) % (ns.length : Int)).toNat 0) (show (0 : Int) < 1000003 by decide)
      exact fin _ (by omega) (by omega)
  · rw [if_neg hz]
    exact fin 5 (by decide) (by decide)

theorem ok_law_whole (F : Fun K "_law_whole" "_law_whole" s_law_whole f fd) (M : Mg mg) : FnOk P w K mg base CX0 1 f fd ["_law_found"] spIsInt := by
  refine F.ok sc_law_whole (fun vs H Q E h => ?_) (fun cdv A outer s H vs Q E hr h => ?_)
  · obtain ⟨i, rfl, _⟩ := h
    rfl
  obtain ⟨i, rfl, q⟩ := h
  refine ⟨_, (@pss_one _ _ _ (@ps_ret _ _ _ _ (@pe_and _ _ _ _ _ _ _ (@pe_callB _ _ _ _ _ _ _ _ _ call_isi g_law_whole_isinstance M.m_isinstance b_isinstance (@pa_cons _ _ _ _ _ (@pe_var _ 0 _ _ rfl v_law_whole_0 dn__law_found dc__law_found) (@pa_cons _ _ _ _ _ (@pe_bltn _ _ (.ty "int") _ _ g_law_whole_int M.m_int b_int rfl nn_int dn_int) (@pa_nil _) (star1 rfl)) (star1 rfl)) nn_isinstance dn_isinstance (star1 rfl) (nost1 rfl nost0)) (@pe_one _ _ _ _ _ (@pe_not _ _ _ _ (@pe_callB _ _ _ _ _ _ _ _ _ call_isi g_law_whole_isinstance M.m_isinstance b_isinstance (@pa_cons _ _ _ _ _ (@pe_var _ 0 _ _ rfl v_law_whole_0 dn__law_found dc__law_found) (@pa_cons _ _ _ _ _ (@pe_bltn _ _ (.ty "bool") _ _ g_law_whole_bool M.m_bool b_bool rfl nn_bool dn_bool) (@pa_nil _) (star1 rfl)) (star1 rfl)) nn_isinstance dn_isinstance (star1 rfl) (nost1 rfl nost0))))))), ?_⟩
  simp only [slots, Option.getD_some, Option.getD_none, tC, tVar, tCB, tCons, tNil, tRet, tAndV, tNotV, rIsi, isi_non_bl, isi_non_int, isi_non_str, isi_non_lst, isi_non_tup, isi_bl_bl, isi_bl_int, isi_bl_str, isi_bl_lst, isi_bl_tup, isi_int_bl, isi_int_int, isi_int_str, isi_int_lst, isi_int_tup, isi_str_bl, isi_str_int, isi_str_str, isi_str_lst, isi_str_tup, isi_lst_bl, isi_lst_int, isi_lst_str, isi_lst_lst, isi_lst_tup, isi_tup_bl, isi_tup_int, isi_tup_str, isi_tup_lst, isi_tup_tup, isi_dct_bl, isi_dct_int, isi_dct_str, isi_dct_lst, isi_dct_tup, Kd_non, Kd_bl, Kd_int, Kd_str, decide_true, decide_false, tyK_int, tyK_bool, tyK_str, tyK_list, tyK_tuple, L2.start, cxK, Int.reduceToNat, List.map_cons, List.map_nil, List.length_cons, List.length_nil, Nat.reduceAdd, Nat.reduceSub, Nat.zero_add, List.replicate_succ, List.replicate_zero, List.cons_append, List.nil_append, List.append_nil, List.getElem?_cons_zero, List.getElem?_cons_succ, List.set_cons_zero, List.set_cons_succ, Option.some.injEq, V.int.injEq, V.bl.injEq, V.ref.injEq, V.str.injEq, V.ty.injEq, List.cons.injEq, exists_eq_left', exists_eq_left, exists_eq_right, exists_and_left, exists_and_right, and_true, true_and, and_assoc, exists_const, decide_eq_true_eq, Bool.not_eq_true', Bool.not_true, Bool.not_false, Bool.not_not, decide_eq_false_iff_not, ite_not, Bool.false_eq_true, if_true, if_false, reduceCtorEq, and_false, false_and, exists_false, or_false, false_or, ↓reduceIte, eq_self, reduceIte]
  exact q
theorem ok_law_rooms (F : Fun K "_law_rooms" "_law_rooms" s_law_rooms f fd) (M : Mg mg) (C_law_cell : Cal P w K mg base CX0 "_law_cell" 1 ["_law_script", "_law_k"] (spCell K)) : FnOk P w K mg base CX0 2 f fd ["_law_script"] (spRooms K) := by
  refine F.ok sc_law_rooms (fun vs H Q E h => ?_) (fun cdv A outer s H vs Q E hr h => ?_)
  · obtain ⟨a, ns, rfl, _⟩ := h
    rfl
  obtain ⟨a, ns, rfl, hS, q⟩ := h
  refine ⟨_, (@pss_cons _ _ _ _ _ (@ps_set _ _ 1 _ _ _ _ sc_law_rooms.nd rfl l_law_rooms_1 (@pe_callC _ _ _ _ _ _ _ _ _ _ _ C_law_cell hr g_law_rooms__law_cell (@pa_cons _ _ _ _ _ (@pe_var _ 0 _ _ rfl v_law_rooms_0 dn__law_script dc__law_script) (@pa_cons _ _ _ _ _ (@pe_int _ _ _ _) (@pa_nil _) (star1 rfl)) (star1 rfl)) (by decide) dn__law_cell (star1 rfl) (nost1 rfl nost0)) (swap1 rfl) (.inl rfl)) (@pss_cons _ _ _ _ _ (@ps_set _ _ 2 _ _ _ _ sc_law_rooms.nd rfl l_law_rooms_2 (@pe_menu _ _ _ _ _ _ _ (@pa_cons _ _ _ _ _ (@pe_int _ _ _ _) (@pa_cons _ _ _ _ _ (@pe_int _ _ _ _) (@pa_cons _ _ _ _ _ (@pe_int _ _ _ _) (@pa_cons _ _ _ _ _ (@pe_op _ _ _ _ _ _ _ _ (@op_pow _) (@pe_int _ _ _ _) (@pe_int _ _ _ _)) (@pa_nil _) (star1 rfl)) (star1 rfl)) (star1 rfl)) (star1 rfl)) (@pe_op _ _ _ _ _ _ _ _ (@op_mod _) (@pe_op _ _ _ _ _ _ _ _ (@op_fdivB _) (@pe_var _ 1 _ _ rfl v_law_rooms_1 dn__law_head dc__law_head) (@pe_int _ _ _ _)) (@pe_int _ _ _ _)) (fun _ _ => rfl)) (swap1 rfl) (.inl rfl)) (@pss_cons _ _ _ _ _ (@ps_set _ _ 3 _ _ _ _ sc_law_rooms.nd rfl l_law_rooms_3 (@pe_menu _ _ _ _ _ _ _ (@pa_cons _ _ _ _ _ (@pe_int _ _ _ _) (@pa_cons _ _ _ _ _ (@pe_int _ _ _ _) (@pa_cons _ _ _ _ _ (@pe_int _ _ _ _) (@pa_cons _ _ _ _ _ (@pe_int _ _ _ _) (@pa_cons _ _ _ _ _ (@pe_int _ _ _ _) (@pa_cons _ _ _ _ _ (@pe_int _ _ _ _) (@pa_cons _ _ _ _ _ (@pe_int _ _ _ _) (@pa_cons _ _ _ _ _ (@pe_int _ _ _ _) (@pa_cons _ _ _ _ _ (@pe_int _ _ _ _) (@pa_cons _ _ _ _ _ (@pe_int _ _ _ _) (@pa_cons _ _ _ _ _ (@pe_int _ _ _ _) (@pa_cons _ _ _ _ _ (@pe_int _ _ _ _) (@pa_nil _) (star1 rfl)) (star1 rfl)) (star1 rfl)) (star1 rfl)) (star1 rfl)) (star1 rfl)) (star1 rfl)) (star1 rfl)) (star1 rfl)) (star1 rfl)) (star1 rfl)) (star1 rfl)) (@pe_op _ _ _ _ _ _ _ _ (@op_mod _) (@pe_var _ 1 _ _ rfl v_law_rooms_1 dn__law_head dc__law_head) (@pe_int _ _ _ _)) (fun _ _ => rfl)) (swap1 rfl) (.inl rfl)) (@pss_one _ _ _ (@ps_ret _ _ _ _ (@pe_comp _ _ _ _ _ _ _ _ _ _ _ _ _ _ _ rfl (CompOk.make (N' := ["_law_script", "_law_top", "_law_k"]) (ix := [0, 2]) (nl := 1) (by rfl) (fm1 rfl (fm1 rfl fm0)) (by rfl) (by decide +kernel) rfl (by decide +kernel) rfl (And.intro ⟨rfl, .inl rfl, .inl rfl⟩ (And.intro ⟨rfl, .inl rfl, .inl rfl⟩ True.intro))) (@pi_range1 _ _ _ _ _ _ g_law_rooms_range M.m_range (@pa_cons _ _ _ _ _ (@pe_var _ 3 _ _ rfl v_law_rooms_3 dn__law_many dc__law_many) (@pa_nil _) (star1 rfl)) (star1' rfl)) (fun _ _ _ _ _ => (@pg_name _ _ 2 _ (show List.Nodup (["_law_script", "_law_top", "_law_k"] : List Str) from by decide) rfl (Or.inl rfl) (by first | exact .inl rfl | exact .inr rfl | assumption))) (fun _ _ _ _ _ => (@pif_nil _)) (fun _ _ _ _ _ => (@pe_op _ _ _ _ _ _ _ _ (@op_mod _) (@pe_callC _ _ _ _ _ _ _ _ _ _ _ C_law_cell hr rfl (@pa_cons _ _ _ _ _ (@pv _ 0 _ _ (by rfl) (by first | exact Or.inl rfl | exact Or.inr (Or.inl rfl) | exact Or.inr (Or.inr rfl)) (by decide) (by decide)) (@pa_cons _ _ _ _ _ (@pe_op _ _ _ _ _ _ _ _ (@op_add _) (@pe_int _ _ _ _) (@pv _ 2 _ _ (by rfl) (by first | exact Or.inl rfl | exact Or.inr (Or.inl rfl) | exact Or.inr (Or.inr rfl)) (by decide) (by decide))) (@pa_nil _) (star1 rfl)) (star1 rfl)) (by decide) dn__law_cell (star1 rfl) (nost1 rfl nost0)) (@pe_op _ _ _ _ _ _ _ _ (@op_add _) (@pv _ 1 _ _ (by rfl) (by first | exact Or.inl rfl | exact Or.inr (Or.inl rfl) | exact Or.inr (Or.inr rfl)) (by decide) (by decide)) (@pe_int _ _ _ _)))) (by intro _; rfl))))))), ?_⟩
  simp only [tComp_eq, tComp1, slots, Option.getD_some, Option.getD_none, tYes, tSeq, tAsg, gName, tOp, tC, tVar, tCons, tNil, tCall, rI, rI0, tRet, tMenu, Kd_non, Kd_bl, Kd_int, Kd_str, decide_true, decide_false, iRng1, L2.start, cxK, Int.reduceToNat, List.map_cons, List.map_nil, List.length_cons, List.length_nil, Nat.reduceAdd, Nat.reduceSub, Nat.zero_add, List.replicate_succ, List.replicate_zero, List.cons_append, List.nil_append, List.append_nil, List.getElem?_cons_zero, List.getElem?_cons_succ, List.set_cons_zero, List.set_cons_succ, Option.some.injEq, V.int.injEq, V.bl.injEq, V.ref.injEq, V.str.injEq, V.ty.injEq, List.cons.injEq, exists_eq_left', exists_eq_left, exists_eq_right, exists_and_left, exists_and_right, and_true, true_and, and_assoc, exists_const, decide_eq_true_eq, Bool.not_eq_true', Bool.not_true, Bool.not_false, Bool.not_not, decide_eq_false_iff_not, ite_not, Bool.false_eq_true, if_true, if_false, reduceCtorEq, and_false, false_and, exists_false, or_false, false_or, ↓reduceIte, eq_self, reduceIte]
  refine ⟨a, ns, 0, rfl, hS, by decide, by decide, fun c => ⟨cpow, by decide, c, rfl, cdiv (by decide) (by decide), by decide, Int.emod_nonneg _ (by decide), ?_⟩⟩
  obtain ⟨t, ht, t0, t1⟩ := menu4 c
  refine ⟨_, ht, by decide, c, rfl, by decide, Int.emod_nonneg _ (by decide), ?_⟩
  obtain ⟨n, hn, n6⟩ := menu12 c
  refine ⟨_, hn, _, rfl, by omega, by omega, fun D hD => ?_⟩
  obtain ⟨Pc, hC⟩ : ∃ Pc : Nat → St → Hp → Prop, Pc = fun i τ H' => ∃ (z : Option V) (rooms : List Int), H' D = some (.lst (rooms.map V.int)) ∧ rooms.length = i ∧ (∀ x ∈ rooms, 0 ≤ x ∧ x ≤ 10 ^ 15) ∧ Same H H' ∧ τ = [some (.ref a), some (.int t), z] := ⟨_, rfl⟩
  refine compS_range Pc ?_ ?_ ?_
  · rw [hC]
    exact ⟨_, [], upd_same, rfl, (fun x z => by cases z), same_new hD _, rfl⟩
  · intro i τ H' R' hi h next
    rw [hC] at h
    obtain ⟨z, rooms, d1, lr, b, e, rfl⟩ := h
    simp only [tComp_eq, tComp1, slots, Option.getD_some, Option.getD_none, tYes, tSeq, tAsg, gName, tOp, tC, tVar, tCons, tNil, tCall, rI, rI0, tRet, tMenu, Kd_non, Kd_bl, Kd_int, Kd_str, decide_true, decide_false, iRng1, L2.start, cxK, Int.reduceToNat, List.map_cons, List.map_nil, List.length_cons, List.length_nil, Nat.reduceAdd, Nat.reduceSub, Nat.zero_add, List.replicate_succ, List.replicate_zero, List.cons_append, List.nil_append, List.append_nil, List.getElem?_cons_zero, List.getElem?_cons_succ, List.set_cons_zero, List.set_cons_succ, Option.some.injEq, V.int.injEq, V.bl.injEq, V.ref.injEq, V.str.injEq, V.ty.injEq, List.cons.injEq, exists_eq_left', exists_eq_left, exists_eq_right, exists_and_left, exists_and_right, and_true, true_and, and_assoc, exists_const, decide_eq_true_eq, Bool.not_eq_true', Bool.not_true, Bool.not_false, Bool.not_not, decide_eq_false_iff_not, ite_not, Bool.false_eq_true, if_true, if_false, reduceCtorEq, and_false, false_and, exists_false, or_false, false_or, ↓reduceIte, eq_self, reduceIte]
    refine ⟨a, ns, _, rfl, e.seq hS, by omega, by omega, fun c2 => ⟨c2, rfl, by omega, _, d1, ?_, next _ _ ?_⟩⟩
    · rw [List.length_map]
      exact Nat.lt_of_lt_of_le (m := 1000) (by omega) (by decide)
    · rw [hC]
      refine ⟨_, rooms ++ [c2 % (t + 1)], ?_, by rw [List.length_append, lr]; rfl, fun x hx => ?_, same_upd e hD _, rfl⟩
      · rw [upd_same, List.map_append]
        rfl
      · rcases List.mem_append.mp hx with hx | hx
        · exact b x hx
        · rw [List.mem_singleton.mp hx]
          have := Int.emod_nonneg c2 (show t + 1 ≠ 0 by omega)
          have := Int.emod_lt_of_pos c2 (show 0 < t + 1 by omega)
          omega
  · intro τ H' h
    rw [hC] at h
    obtain ⟨z, rooms, d1, lr, b, e, rfl⟩ := h
    exact q D rooms H' e hD d1 (by omega) b
theorem ok_law_line (F : Fun K "_law_line" "_law_line" s_law_line f fd) (M : Mg mg) (C_law_cell : Cal P w K mg base CX0 "_law_cell" 1 ["_law_script", "_law_k"] (spCell K)) : FnOk P w K mg base CX0 2 f fd ["_law_script", "_law_many"] (spLine K) := by
  refine F.ok sc_law_line (fun vs H Q E h => ?_) (fun cdv A outer s H vs Q E hr h => ?_)
  · obtain ⟨a, ns, m, rfl, _⟩ := h
    rfl
  obtain ⟨a, ns, m, rfl, hS, m6, q⟩ := h
  refine ⟨_, (@pss_cons _ _ _ _ _ (@ps_set _ _ 2 _ _ _ _ sc_law_line.nd rfl l_law_line_2 (@pe_callC _ _ _ _ _ _ _ _ _ _ _ C_law_cell hr g_law_line__law_cell (@pa_cons _ _ _ _ _ (@pe_var _ 0 _ _ rfl v_law_line_0 dn__law_script dc__law_script) (@pa_cons _ _ _ _ _ (@pe_int _ _ _ _) (@pa_nil _) (star1 rfl)) (star1 rfl)) (by decide) dn__law_cell (star1 rfl) (nost1 rfl nost0)) (swap1 rfl) (.inl rfl)) (@pss_cons _ _ _ _ _ (@ps_set _ _ 3 _ _ _ _ sc_law_line.nd rfl l_law_line_3 (@pe_menu _ _ _ _ _ _ _ (@pa_cons _ _ _ _ _ (@pe_int _ _ _ _) (@pa_cons _ _ _ _ _ (@pe_int _ _ _ _) (@pa_cons _ _ _ _ _ (@pe_int _ _ _ _) (@pa_cons _ _ _ _ _ (@pe_op _ _ _ _ _ _ _ _ (@op_pow _) (@pe_int _ _ _ _) (@pe_int _ _ _ _)) (@pa_nil _) (star1 rfl)) (star1 rfl)) (star1 rfl)) (star1 rfl)) (@pe_op _ _ _ _ _ _ _ _ (@op_mod _) (@pe_op _ _ _ _ _ _ _ _ (@op_fdivB _) (@pe_var _ 2 _ _ rfl v_law_line_2 dn__law_head dc__law_head) (@pe_int _ _ _ _)) (@pe_int _ _ _ _)) (fun _ _ => rfl)) (swap1 rfl) (.inl rfl)) (@pss_cons _ _ _ _ _ (@ps_set _ _ 4 _ _ _ _ sc_law_line.nd rfl l_law_line_4 (@pe_menu _ _ _ _ _ _ _ (@pa_cons _ _ _ _ _ (@pe_op _ _ _ _ _ _ _ _ (@op_add _) (@pe_var _ 3 _ _ rfl v_law_line_3 dn__law_top dc__law_top) (@pe_int _ _ _ _)) (@pa_cons _ _ _ _ _ (@pe_op _ _ _ _ _ _ _ _ (@op_add _) (@pe_op _ _ _ _ _ _ _ _ (@op_fdivB _) (@pe_var _ 3 _ _ rfl v_law_line_3 dn__law_top dc__law_top) (@pe_int _ _ _ _)) (@pe_int _ _ _ _)) (@pa_nil _) (star1 rfl)) (star1 rfl)) (@pe_op _ _ _ _ _ _ _ _ (@op_mod _) (@pe_op _ _ _ _ _ _ _ _ (@op_fdivB _) (@pe_var _ 2 _ _ rfl v_law_line_2 dn__law_head dc__law_head) (@pe_int _ _ _ _)) (@pe_int _ _ _ _)) (fun _ _ => rfl)) (swap1 rfl) (.inl rfl)) (@pss_cons _ _ _ _ _ (@ps_set _ _ 5 _ _ _ _ sc_law_line.nd rfl l_law_line_5 (@pe_lst _ _ _ _ (@pa_nil _)) (swap1 rfl) (.inl rfl)) (@pss_cons _ _ _ _ _ (@ps_for _ _ _ _ _ _ _ _ PassesOwn.never rfl (@pi_range1 _ _ _ _ _ _ g_law_line_range M.m_range (@pa_cons _ _ _ _ _ (@pe_op _ _ _ _ _ _ _ _ (@op_mod _) (@pe_callC _ _ _ _ _ _ _ _ _ _ _ C_law_cell hr g_law_line__law_cell (@pa_cons _ _ _ _ _ (@pe_var _ 0 _ _ rfl v_law_line_0 dn__law_script dc__law_script) (@pa_cons _ _ _ _ _ (@pe_int _ _ _ _) (@pa_nil _) (star1 rfl)) (star1 rfl)) (by decide) dn__law_cell (star1 rfl) (nost1 rfl nost0)) (@pe_op _ _ _ _ _ _ _ _ (@op_add _) (@pe_menu _ _ _ _ _ _ _ (@pa_cons _ _ _ _ _ (@pe_int _ _ _ _) (@pa_cons _ _ _ _ _ (@pe_int _ _ _ _) (@pa_cons _ _ _ _ _ (@pe_int _ _ _ _) (@pa_cons _ _ _ _ _ (@pe_int _ _ _ _) (@pa_cons _ _ _ _ _ (@pe_int _ _ _ _) (@pa_cons _ _ _ _ _ (@pe_int _ _ _ _) (@pa_cons _ _ _ _ _ (@pe_int _ _ _ _) (@pa_nil _) (star1 rfl)) (star1 rfl)) (star1 rfl)) (star1 rfl)) (star1 rfl)) (star1 rfl)) (star1 rfl)) (@pe_var _ 1 _ _ rfl v_law_line_1 dn__law_many dc__law_many) (fun _ _ => rfl)) (@pe_int _ _ _ _))) (@pa_nil _) (star1 rfl)) (star1' rfl)) (@pg_name _ _ 6 _ sc_law_line.nd rfl l_law_line_6 (.inl rfl)) (@pss_cons _ _ _ _ _ (@ps_set _ _ 7 _ _ _ _ sc_law_line.nd rfl l_law_line_7 (@pe_callC _ _ _ _ _ _ _ _ _ _ _ C_law_cell hr g_law_line__law_cell (@pa_cons _ _ _ _ _ (@pe_var _ 0 _ _ rfl v_law_line_0 dn__law_script dc__law_script) (@pa_cons _ _ _ _ _ (@pe_op _ _ _ _ _ _ _ _ (@op_add _) (@pe_int _ _ _ _) (@pe_var _ 6 _ _ rfl v_law_line_6 dn__law_k dc__law_k)) (@pa_nil _) (star1 rfl)) (star1 rfl)) (by decide) dn__law_cell (star1 rfl) (nost1 rfl nost0)) (swap1 rfl) (.inl rfl)) (@pss_cons _ _ _ _ _ (@ps_setComp _ _ _ _ _ _ _ _ _ _ _ _ _ _ _ 8 _ _ _ sc_law_line.nd rfl l_law_line_8 rfl (CompOk.make (N' := ["_law_cell_here", "_law_place"]) (ix := [7]) (nl := 1) (by rfl) (fm1 rfl fm0) (by rfl) (by decide +kernel) rfl (by decide +kernel) rfl (And.intro ⟨rfl, .inl rfl, .inl rfl⟩ True.intro)) (@pi_range1 _ _ _ _ _ _ g_law_line_range M.m_range (@pa_cons _ _ _ _ _ (@pe_var _ 1 _ _ rfl v_law_line_1 dn__law_many dc__law_many) (@pa_nil _) (star1 rfl)) (star1' rfl)) (fun _ _ _ _ _ => (@pg_name _ _ 1 _ (show List.Nodup (["_law_cell_here", "_law_place"] : List Str) from by decide) rfl (Or.inl rfl) (by first | exact .inl rfl | exact .inr rfl | assumption))) (fun _ _ _ _ _ => (@pif_one _ _ _ (@pt_cmpR _ _ _ _ _ _ _ _ (@op_eq _) (@pe_op _ _ _ _ _ _ _ _ op_and (@pe_op _ _ _ _ _ _ _ _ op_shr (@pe_op _ _ _ _ _ _ _ _ (@op_mod _) (@pv _ 0 _ _ (by rfl) (by first | exact Or.inl rfl | exact Or.inr (Or.inl rfl) | exact Or.inr (Or.inr rfl)) (by decide) (by decide)) (@pe_int _ _ _ _)) (@pv _ 1 _ _ (by rfl) (by first | exact Or.inl rfl | exact Or.inr (Or.inl rfl) | exact Or.inr (Or.inr rfl)) (by decide) (by decide))) (@pe_int _ _ _ _)) (@pe_int _ _ _ _) (nomark _)))) (fun _ _ _ _ _ => (@pv _ 1 _ _ (by rfl) (by first | exact Or.inl rfl | exact Or.inr (Or.inl rfl) | exact Or.inr (Or.inr rfl)) (by decide) (by decide))) (by rfl) (by intro _; rfl) (by first | exact .inl rfl | exact .inr rfl | assumption)) (@pss_one _ _ _ (@ps_expr _ _ _ _ (@pe_bm _ _ _ _ _ _ _ _ _ _ _ _ PySem.F.plainAttrs_list PySem.F.slot_list_append PySem.F.type_list_append mt_append (@pe_var _ 5 _ _ rfl v_law_line_5 dn__law_line_here dc__law_line_here) (@pa_cons _ _ _ _ _ (@pe_tup _ _ _ _ _ (@pa_cons _ _ _ _ _ (@pe_var _ 8 _ _ rfl v_law_line_8 dn__law_places dc__law_places) (@pa_cons _ _ _ _ _ (@pe_op _ _ _ _ _ _ _ _ (@op_mod _) (@pe_op _ _ _ _ _ _ _ _ (@op_add _) (@pe_op _ _ _ _ _ _ _ _ (@op_mul _) (@pe_op _ _ _ _ _ _ _ _ (@op_fdivB _) (@pe_var _ 7 _ _ rfl v_law_line_7 dn__law_cell_here dc__law_cell_here) (@pe_int _ _ _ _)) (@pe_int _ _ _ _)) (@pe_var _ 7 _ _ rfl v_law_line_7 dn__law_cell_here dc__law_cell_here)) (@pe_var _ 4 _ _ rfl v_law_line_4 dn__law_part dc__law_part)) (@pa_nil _) (star1 rfl)) (star1 rfl))) (@pa_nil _) (star1 rfl)) (by rfl) (by rfl) (by rfl) (by rfl) (by rfl)) (swap1 rfl))))) (by intro _; rfl)) (@pss_one _ _ _ (@ps_ret _ _ _ _ (@pe_var _ 5 _ _ rfl v_law_line_5 dn__law_line_here dc__law_line_here)))))))), ?_⟩
  refine cut4 fun tl htl => ?_
  have tail : ∀ (H' : Hp) (p : Addr) (v1 v2 : V) (pt : Int), Same H H' → H p = none → H' p = some (.lst []) → 0 < pt → pt ≤ 10 ^ 15 + 1 → tl { nx := fun _ H' => Q .non H', rt := Q } [some (.ref a), some (.int m), some v1, some v2, some (.int pt), some (.ref p), none, none, none] H' := by
    intro H1 p v1 v2 pt S1 hp d1 p0 p1
    obtain ⟨mo, hn, m40⟩ := menu7 m6
    rw [htl]
    simp only [tComp_eq, tComp1, slots, Option.getD_some, Option.getD_none, tSeq, tAsg, gName, tOp, tC, tVar, tCons, tNil, tCall, rI, rI0, tRet, tTest, tMenu, tDrop, tTup, tLst, tBM, rAppend, rEq, Kd_non, Kd_bl, Kd_int, Kd_str, sc_non_non, sc_non_int, sc_int_non, sc_non_bl, sc_bl_non, sc_non_str, sc_str_non, sc_int_int, sc_bl_bl, sc_str_str, sc_int_str, sc_str_int, sc_bl_str, sc_str_bl, decide_true, decide_false, tFor_eq, iRng1, L2.start, cxK, Int.reduceToNat, List.map_cons, List.map_nil, List.length_cons, List.length_nil, Nat.reduceAdd, Nat.reduceSub, Nat.zero_add, List.replicate_succ, List.replicate_zero, List.cons_append, List.nil_append, List.append_nil, List.getElem?_cons_zero, List.getElem?_cons_succ, List.set_cons_zero, List.set_cons_succ, Option.some.injEq, V.int.injEq, V.bl.injEq, V.ref.injEq, V.str.injEq, V.ty.injEq, List.cons.injEq, exists_eq_left', exists_eq_left, exists_eq_right, exists_and_left, exists_and_right, and_true, true_and, and_assoc, exists_const, decide_eq_true_eq, Bool.not_eq_true', Bool.not_true, Bool.not_false, Bool.not_not, decide_eq_false_iff_not, ite_not, Bool.false_eq_true, if_true, if_false, reduceCtorEq, and_false, false_and, exists_false, or_false, false_or, ↓reduceIte, eq_self, reduceIte]
    refine ⟨a, ns, 7, rfl, S1.seq hS, by decide, by decide, fun c => ⟨by decide, by omega, _, hn, _, rfl, c, rfl, by omega, ?_⟩⟩
    have c0 := Int.emod_nonneg c (show (mo : Int) + 1 ≠ 0 by omega)
    have c1 := Int.emod_lt_of_pos c (show 0 < (mo : Int) + 1 by omega)
    refine ⟨by omega, by omega, ?_⟩
    obtain ⟨Pv, hP⟩ : ∃ Pv : Nat → St → Hp → Prop, Pv = fun i σ H' => ∃ (us : List V) (L : List En) (z1 z2 z3 : Option V), H' p = some (.lst us) ∧ Paired (fun v (e : En) => ∃ t q, v = V.ref t ∧ SqT K H' t [.ref q, .int e.2] ∧ H' q = some (.lst (e.1.map fun j : Nat => V.int (j : Int))) ∧ q ≠ p) us L ∧ L.length = i ∧ (∀ en ∈ L, en.1.Sublist (List.range m)) ∧ (∀ en ∈ L, 0 ≤ en.2 ∧ en.2 ≤ 10 ^ 15) ∧ Same H H' ∧ σ = [some (.ref a), some (.int m), some v1, some v2, some (.int pt), some (.ref p), z1, z2, z3] := ⟨_, rfl⟩
    refine forW_range Pv ?_ ?_ ?_
    · rw [hP]
      exact ⟨[], [], _, _, _, d1, .nil, rfl, (fun en z => by cases z), (fun en z => by cases z), S1, rfl⟩
    · intro i σ H3 hi h
      rw [hP] at h
      obtain ⟨us, L, z1, z2, z3, d3, pr, lL, sb, wb, e3, rfl⟩ := h
      have lus : us.length = i := by rw [Paired.length pr, lL]
      simp only [tComp_eq, tComp1, slots, Option.getD_some, Option.getD_none, tSeq, tAsg, gName, tOp, tC, tVar, tCons, tNil, tCall, rI, rI0, tRet, tTest, tMenu, tDrop, tTup, tLst, tBM, rAppend, rEq, Kd_non, Kd_bl, Kd_int, Kd_str, sc_non_non, sc_non_int, sc_int_non, sc_non_bl, sc_bl_non, sc_non_str, sc_str_non, sc_int_int, sc_bl_bl, sc_str_str, sc_int_str, sc_str_int, sc_bl_str, sc_str_bl, decide_true, decide_false, tFor_eq, iRng1, L2.start, cxK, Int.reduceToNat, List.map_cons, List.map_nil, List.length_cons, List.length_nil, Nat.reduceAdd, Nat.reduceSub, Nat.zero_add, List.replicate_succ, List.replicate_zero, List.cons_append, List.nil_append, List.append_nil, List.getElem?_cons_zero, List.getElem?_cons_succ, List.set_cons_zero, List.set_cons_succ, Option.some.injEq, V.int.injEq, V.bl.injEq, V.ref.injEq, V.str.injEq, V.ty.injEq, List.cons.injEq, exists_eq_left', exists_eq_left, exists_eq_right, exists_and_left, exists_and_right, and_true, true_and, and_assoc, exists_const, decide_eq_true_eq, Bool.not_eq_true', Bool.not_true, Bool.not_false, Bool.not_not, decide_eq_false_iff_not, ite_not, Bool.false_eq_true, if_true, if_false, reduceCtorEq, and_false, false_and, exists_false, or_false, false_or, ↓reduceIte, eq_self, reduceIte]
      refine ⟨a, ns, _, rfl, e3.seq hS, by omega, by omega, fun c2 => ⟨by omega, by omega, fun D hD => ?_⟩⟩
      have Dp : D ≠ p := fun z => by rw [z, d3] at hD; cases hD
      obtain ⟨fp, hfp⟩ : ∃ fp : Nat → Bool, fp = fun j => decide (Builtin.bitAnd (c2 % 64 / 2 ^ j) 1 = 1) := ⟨_, rfl⟩
      obtain ⟨Pc, hC⟩ : ∃ Pc : Nat → St → Hp → Prop, Pc = fun j τ H' => ∃ (z : Option V), H' D = some (.lst (((List.range j).filter fp).map fun j : Nat => V.int (j : Int))) ∧ Same H3 H' ∧ τ = [some (.int c2), z] := ⟨_, rfl⟩
      refine compS_range Pc ?_ ?_ ?_
      · rw [hC]
        exact ⟨_, upd_same, same_new hD _, rfl⟩
      · intro j τ H' R' hj h next
        rw [hC] at h
        obtain ⟨z, d4, e4, rfl⟩ := h
        have ep : (List.range (j + 1)).filter fp = (List.range j).filter fp ++ [j].filter fp := by
          rw [List.range_succ, List.filter_append]
        have ll : ((List.range j).filter fp).length ≤ j := by
          refine Nat.le_trans (List.length_filter_le ..) ?_
          rw [List.length_range]
          exact Nat.le_refl _
        simp only [tComp_eq, tComp1, slots, Option.getD_some, Option.getD_none, tSeq, tAsg, gName, tOp, tC, tVar, tCons, tNil, tCall, rI, rI0, tRet, tTest, tMenu, tDrop, tTup, tLst, tBM, rAppend, rEq, Kd_non, Kd_bl, Kd_int, Kd_str, sc_non_non, sc_non_int, sc_int_non, sc_non_bl, sc_bl_non, sc_non_str, sc_str_non, sc_int_int, sc_bl_bl, sc_str_str, sc_int_str, sc_str_int, sc_bl_str, sc_str_bl, decide_true, decide_false, tFor_eq, iRng1, L2.start, cxK, Int.reduceToNat, List.map_cons, List.map_nil, List.length_cons, List.length_nil, Nat.reduceAdd, Nat.reduceSub, Nat.zero_add, List.replicate_succ, List.replicate_zero, List.cons_append, List.nil_append, List.append_nil, List.getElem?_cons_zero, List.getElem?_cons_succ, List.set_cons_zero, List.set_cons_succ, Option.some.injEq, V.int.injEq, V.bl.injEq, V.ref.injEq, V.str.injEq, V.ty.injEq, List.cons.injEq, exists_eq_left', exists_eq_left, exists_eq_right, exists_and_left, exists_and_right, and_true, true_and, and_assoc, exists_const, decide_eq_true_eq, Bool.not_eq_true', Bool.not_true, Bool.not_false, Bool.not_not, decide_eq_false_iff_not, ite_not, Bool.false_eq_true, if_true, if_false, reduceCtorEq, and_false, false_and, exists_false, or_false, false_or, ↓reduceIte, eq_self, reduceIte]
        rw [show (0 + (j : Int)) = ((j : Nat) : Int) by omega, Int.toNat_natCast]
        refine ⟨by decide, by omega, ?_⟩
        by_cases hz : Builtin.bitAnd (c2 % 64 / 2 ^ j) 1 = 1
        · rw [if_pos hz]
          refine ⟨_, d4, by rw [List.length_map]; exact Nat.lt_of_lt_of_le (m := 1000) (by omega) (by decide), next _ _ ?_⟩
          rw [hC]
          refine ⟨_, ?_, same_upd e4 hD _, rfl⟩
          rw [upd_same, ep, List.filter_cons_of_pos (by rw [hfp]; exact decide_eq_true hz), List.filter_nil, List.map_append]
          rfl
        · rw [if_neg hz]
          refine next _ _ ?_
          rw [hC]
          refine ⟨_, ?_, e4, rfl⟩
          rw [ep, List.filter_cons_of_neg (by rw [hfp]; simpa using hz), List.filter_nil, List.append_nil]
          exact d4
      intro τ H4 h
      rw [hC] at h
      obtain ⟨z, d4, e4, rfl⟩ := h
      rw [Int.toNat_natCast] at d4
      have w0 := Int.emod_nonneg (c2 / 64 * 7 + c2) (show pt ≠ 0 by omega)
      have w1 := Int.emod_lt_of_pos (c2 / 64 * 7 + c2) p0
      refine ⟨.inl ⟨rfl, _, SqL.of (e4 _ _ d3)⟩, c2, rfl, cdiv (by decide) (by decide), .inr (by decide), c2, rfl, p0, by decide, fun t ht => ?_⟩
      obtain ⟨H5, g5, S5, T5⟩ := fresh_tup (K := K) ht [.ref D, .int ((c2 / 64 * 7 + c2) % pt)]
      rw [← g5]
      clear g5
      have e35 := e4.trans S5
      have d5 := e35 _ _ d3
      refine ⟨_, d5, Nat.lt_of_lt_of_le (m := 1000) (by omega) (by decide), ?_⟩
      rw [hP]
      refine ⟨us ++ [.ref t], L ++ [((List.range m).filter fp, (c2 / 64 * 7 + c2) % pt)], _, _, _, upd_same, ?_, by rw [List.length_append, lL]; rfl, fun en hen => ?_, fun en hen => ?_, same_upd (e3.trans e35) hp _, rfl⟩
      · have kt : ∀ (b : Addr) (xs : List V), SqT K H5 b xs → SqT K (upd H5 p (.lst (us ++ [.ref t]))) b xs := fun b xs hb => sqt_but d5 (fun ys z => by cases z) (fun _ _ z => by cases z) (fun b hb => upd_ne hb) hb
        refine pair_snoc ?_ (Paired.mapP pr fun v row => ?_)
        · exact ⟨t, D, rfl, kt _ _ T5, by rw [upd_ne Dp]; exact S5 _ _ d4, Dp⟩
        · rintro ⟨b, q', h1, h2, h3, h4⟩
          exact ⟨b, q', h1, kt _ _ (Same.tup e35 h2), by rw [upd_ne h4]; exact e35 _ _ h3, h4⟩
      · rcases List.mem_append.mp hen with hen | hen
        · exact sb en hen
        · rw [List.mem_singleton.mp hen]
          exact List.filter_sublist
      · rcases List.mem_append.mp hen with hen | hen
        · exact wb en hen
        · rw [List.mem_singleton.mp hen]
          exact ⟨w0, by omega⟩
    · intro σ H3 h
      rw [hP] at h
      obtain ⟨us, L, z1, z2, z3, d3, pr, lL, sb, wb, e3, rfl⟩ := h
      simp only [tComp_eq, tComp1, slots, Option.getD_some, Option.getD_none, tSeq, tAsg, gName, tOp, tC, tVar, tCons, tNil, tCall, rI, rI0, tRet, tTest, tMenu, tDrop, tTup, tLst, tBM, rAppend, rEq, Kd_non, Kd_bl, Kd_int, Kd_str, sc_non_non, sc_non_int, sc_int_non, sc_non_bl, sc_bl_non, sc_non_str, sc_str_non, sc_int_int, sc_bl_bl, sc_str_str, sc_int_str, sc_str_int, sc_bl_str, sc_str_bl, decide_true, decide_false, tFor_eq, iRng1, L2.start, cxK, Int.reduceToNat, List.map_cons, List.map_nil, List.length_cons, List.length_nil, Nat.reduceAdd, Nat.reduceSub, Nat.zero_add, List.replicate_succ, List.replicate_zero, List.cons_append, List.nil_append, List.append_nil, List.getElem?_cons_zero, List.getElem?_cons_succ, List.set_cons_zero, List.set_cons_succ, Option.some.injEq, V.int.injEq, V.bl.injEq, V.ref.injEq, V.str.injEq, V.ty.injEq, List.cons.injEq, exists_eq_left', exists_eq_left, exists_eq_right, exists_and_left, exists_and_right, and_true, true_and, and_assoc, exists_const, decide_eq_true_eq, Bool.not_eq_true', Bool.not_true, Bool.not_false, Bool.not_not, decide_eq_false_iff_not, ite_not, Bool.false_eq_true, if_true, if_false, reduceCtorEq, and_false, false_and, exists_false, or_false, false_or, ↓reduceIte, eq_self, reduceIte]
      refine q p L H3 e3 hp ⟨us, SqL.of d3, Paired.mapP pr fun v e => ?_⟩ ⟨by omega, sb, wb⟩
      rintro ⟨b, q', h1, h2, h3, h4⟩
      exact ⟨b, q', h1, h2, SqL.of h3⟩
  simp only [tComp_eq, tComp1, slots, Option.getD_some, Option.getD_none, tSeq, tAsg, gName, tOp, tC, tVar, tCons, tNil, tCall, rI, rI0, tRet, tTest, tMenu, tDrop, tTup, tLst, tBM, rAppend, rEq, Kd_non, Kd_bl, Kd_int, Kd_str, sc_non_non, sc_non_int, sc_int_non, sc_non_bl, sc_bl_non, sc_non_str, sc_str_non, sc_int_int, sc_bl_bl, sc_str_str, sc_int_str, sc_str_int, sc_bl_str, sc_str_bl, decide_true, decide_false, tFor_eq, iRng1, L2.start, cxK, Int.reduceToNat, List.map_cons, List.map_nil, List.length_cons, List.length_nil, Nat.reduceAdd, Nat.reduceSub, Nat.zero_add, List.replicate_succ, List.replicate_zero, List.cons_append, List.nil_append, List.append_nil, List.getElem?_cons_zero, List.getElem?_cons_succ, List.set_cons_zero, List.set_cons_succ, Option.some.injEq, V.int.injEq, V.bl.injEq, V.ref.injEq, V.str.injEq, V.ty.injEq, List.cons.injEq, exists_eq_left', exists_eq_left, exists_eq_right, exists_and_left, exists_and_right, and_true, true_and, and_assoc, exists_const, decide_eq_true_eq, Bool.not_eq_true', Bool.not_true, Bool.not_false, Bool.not_not, decide_eq_false_iff_not, ite_not, Bool.false_eq_true, if_true, if_false, reduceCtorEq, and_false, false_and, exists_false, or_false, false_or, ↓reduceIte, eq_self, reduceIte]
  refine ⟨a, ns, 0, rfl, hS, by decide, by decide, fun c => ⟨cpow, by decide, c, rfl, cdiv (by decide) (by decide), by decide, Int.emod_nonneg _ (by decide), ?_⟩⟩
  obtain ⟨t, ht, t0, t1⟩ := menu4 c
  refine ⟨_, ht, t, rfl, t, rfl, cdiv (by decide) (by decide), by decide, c, rfl, cdiv (by decide) (by decide), by decide, Int.emod_nonneg _ (by decide), ?_⟩
  obtain ⟨pt, hpt, p0, p1⟩ : ∃ pt : Int, [V.int (t + 1), V.int (t / 3 + 2)][(c / 48 % 2).toNat]? = some (.int pt) ∧ 0 < pt ∧ pt ≤ 10 ^ 15 + 1 := by
    rcases menu2 c (t + 1) (t / 3 + 2) with h | h
    · exact ⟨_, h, by omega, by omega⟩
    · exact ⟨_, h, by omega, by omega⟩
  refine ⟨_, hpt, by decide, fun p hp => ?_⟩
  exact tail _ p _ _ pt (same_new hp _) hp upd_same p0 p1
theorem ok_law_copy (F : Fun K "_law_copy" "_law_copy" s_law_copy f fd) (M : Mg mg) : FnOk P w K mg base CX0 1 f fd ["_law_line_here"] (spCopy K) := by
  refine F.ok sc_law_copy (fun vs H Q E h => ?_) (fun cdv A outer s H vs Q E hr h => ?_)
  · obtain ⟨l, L, rfl, _⟩ := h
    rfl
  obtain ⟨l, L, rfl, hL, l64, q⟩ := h
  refine ⟨_, (@pss_one _ _ _ (@ps_ret _ _ _ _ (@pe_comp _ _ _ _ _ _ _ _ _ _ _ _ _ _ _ rfl (CompOk.make (N' := ["_law_places", "_law_weight"]) (ix := []) (nl := 2) (by rfl) fm0 (by rfl) (by decide +kernel) rfl (by decide +kernel) rfl True.intro) (@pi_list _ _ _ _ (@pe_var _ 0 _ _ rfl v_law_copy_0 dn__law_line_here dc__law_line_here)) (fun _ _ _ _ _ => (@pg_tupK _ K _ _ 2 _ _ rfl rfl (@pgs_cons _ _ _ _ _ (@pg_name _ _ 0 _ (show List.Nodup (["_law_places", "_law_weight"] : List Str) from by decide) rfl (Or.inl rfl) (by first | exact .inl rfl | exact .inr rfl | assumption)) (@pgs_cons _ _ _ _ _ (@pg_name _ _ 1 _ (show List.Nodup (["_law_places", "_law_weight"] : List Str) from by decide) rfl (Or.inl rfl) (by first | exact .inl rfl | exact .inr rfl | assumption)) (@pgs_nil _) (by rfl)) (by rfl)) (by rfl) (by rfl))) (fun _ _ _ _ _ => (@pif_nil _)) (fun _ _ _ _ _ => (@pe_tup _ _ _ _ _ (@pa_cons _ _ _ _ _ (@pe_callTy _ _ _ _ _ _ _ _ _ (call_listLK (K := K) rfl) rfl M.m_list b_list (@pa_cons _ _ _ _ _ (@pv _ 0 _ _ (by rfl) (by first | exact Or.inl rfl | exact Or.inr (Or.inl rfl) | exact Or.inr (Or.inr rfl)) (by decide) (by decide)) (@pa_nil _) (star1 rfl)) nn_list dn_list (star1 rfl) nost0) (@pa_cons _ _ _ _ _ (@pv _ 1 _ _ (by rfl) (by first | exact Or.inl rfl | exact Or.inr (Or.inl rfl) | exact Or.inr (Or.inr rfl)) (by decide) (by decide)) (@pa_nil _) (star1 rfl)) (star1 rfl)))) (by intro _; rfl)))), ?_⟩
  simp only [tComp_eq, tComp1, slots, Option.getD_some, Option.getD_none, tYes, gName, tVar, tCB, tCons, tNil, tRet, tTup, gTup, gCons, gNil, Kd_non, Kd_bl, Kd_int, Kd_str, decide_true, decide_false, iList, L2.start, cxK, Int.reduceToNat, List.map_cons, List.map_nil, List.length_cons, List.length_nil, Nat.reduceAdd, Nat.reduceSub, Nat.zero_add, List.replicate_succ, List.replicate_zero, List.cons_append, List.nil_append, List.append_nil, List.getElem?_cons_zero, List.getElem?_cons_succ, List.set_cons_zero, List.set_cons_succ, Option.some.injEq, V.int.injEq, V.bl.injEq, V.ref.injEq, V.str.injEq, V.ty.injEq, List.cons.injEq, exists_eq_left', exists_eq_left, exists_eq_right, exists_and_left, exists_and_right, and_true, true_and, and_assoc, exists_const, decide_eq_true_eq, Bool.not_eq_true', Bool.not_true, Bool.not_false, Bool.not_not, decide_eq_false_iff_not, ite_not, Bool.false_eq_true, if_true, if_false, reduceCtorEq, and_false, false_and, exists_false, or_false, false_or, ↓reduceIte, eq_self, reduceIte]
  obtain ⟨us, hus, hpa⟩ := hL
  have lus : us.length = L.length := Paired.length hpa
  refine ⟨⟨_, hus⟩, fun D hD => ?_⟩
  obtain ⟨Pc, hC⟩ : ∃ Pc : Nat → St → Hp → Prop, Pc = fun i τ H' => ∃ (ws : List V) (y z : Option V), H' D = some (.lst ws) ∧ Paired (fun v (e : En) => ∃ t q, v = V.ref t ∧ SqT K H' t [.ref q, .int e.2] ∧ H' q = some (.lst (e.1.map fun j : Nat => V.int (j : Int))) ∧ q ≠ D ∧ H q = none) ws (L.take i) ∧ Same H H' ∧ τ = [y, z] := ⟨_, rfl⟩
  refine compS_list us Pc ?_ (fun i τ H' _ h => by rw [hC] at h; obtain ⟨_, _, _, _, _, e, _⟩ := h; exact e.seq hus) ?_ ?_
  · rw [hC]
    exact ⟨[], _, _, upd_same, .nil, same_new hD _, rfl⟩
  · intro i x τ H' R' hx h next
    rw [hC] at h
    obtain ⟨ws, y, z, d1, pr, e, rfl⟩ := h
    have li : i < us.length := (List.getElem?_eq_some_iff.mp hx).1
    have hen : L[i]? = some (L[i]'(by omega)) := List.getElem?_eq_getElem (by omega)
    generalize L[i]'(by omega) = en at hen
    obtain ⟨t, q', a1, a2, a3⟩ := pair_get hpa hen
    rw [hx] at a1
    cases a1
    have lw : ws.length ≤ i := by
      rw [Paired.length pr, List.length_take]
      omega
    simp only [tComp_eq, tComp1, slots, Option.getD_some, Option.getD_none, tYes, gName, tVar, tCB, tCons, tNil, tRet, tTup, gTup, gCons, gNil, Kd_non, Kd_bl, Kd_int, Kd_str, decide_true, decide_false, iList, L2.start, cxK, Int.reduceToNat, List.map_cons, List.map_nil, List.length_cons, List.length_nil, Nat.reduceAdd, Nat.reduceSub, Nat.zero_add, List.replicate_succ, List.replicate_zero, List.cons_append, List.nil_append, List.append_nil, List.getElem?_cons_zero, List.getElem?_cons_succ, List.set_cons_zero, List.set_cons_succ, Option.some.injEq, V.int.injEq, V.bl.injEq, V.ref.injEq, V.str.injEq, V.ty.injEq, List.cons.injEq, exists_eq_left', exists_eq_left, exists_eq_right, exists_and_left, exists_and_right, and_true, true_and, and_assoc, exists_const, decide_eq_true_eq, Bool.not_eq_true', Bool.not_true, Bool.not_false, Bool.not_not, decide_eq_false_iff_not, ite_not, Bool.false_eq_true, if_true, if_false, reduceCtorEq, and_false, false_and, exists_false, or_false, false_or, ↓reduceIte, eq_self, reduceIte]
    refine ⟨_, Same.tup e a2, rfl, ?_⟩
    simp only [tComp_eq, tComp1, slots, Option.getD_some, Option.getD_none, tYes, gName, tVar, tCB, tCons, tNil, tRet, tTup, gTup, gCons, gNil, Kd_non, Kd_bl, Kd_int, Kd_str, decide_true, decide_false, iList, L2.start, cxK, Int.reduceToNat, List.map_cons, List.map_nil, List.length_cons, List.length_nil, Nat.reduceAdd, Nat.reduceSub, Nat.zero_add, List.replicate_succ, List.replicate_zero, List.cons_append, List.nil_append, List.append_nil, List.getElem?_cons_zero, List.getElem?_cons_succ, List.set_cons_zero, List.set_cons_succ, Option.some.injEq, V.int.injEq, V.bl.injEq, V.ref.injEq, V.str.injEq, V.ty.injEq, List.cons.injEq, exists_eq_left', exists_eq_left, exists_eq_right, exists_and_left, exists_and_right, and_true, true_and, and_assoc, exists_const, decide_eq_true_eq, Bool.not_eq_true', Bool.not_true, Bool.not_false, Bool.not_not, decide_eq_false_iff_not, ite_not, Bool.false_eq_true, if_true, if_false, reduceCtorEq, and_false, false_and, exists_false, or_false, false_or, ↓reduceIte, eq_self, reduceIte]
    refine ⟨_, e.seq a3, fun l2 hl2 => ⟨by decide, fun t2 ht2 => ?_⟩⟩
    have l2D : l2 ≠ D := fun z => by rw [z, d1] at hl2; cases hl2
    obtain ⟨H4, g4, S4, T4⟩ : ∃ H4, H4 = upd H' l2 (.lst (en.1.map fun j : Nat => V.int (j : Int))) ∧ Same H' H4 ∧ H4 l2 = some (.lst (en.1.map fun j : Nat => V.int (j : Int))) := ⟨_, rfl, same_new hl2 _, upd_same⟩
    rw [← g4] at ht2 ⊢
    clear g4
    obtain ⟨H5, g5, S5, T5⟩ := fresh_tup (K := K) ht2 [.ref l2, .int en.2]
    rw [← g5]
    clear g5
    have e45 := S4.trans S5
    have d5 := e45 _ _ d1
    refine ⟨_, d5, Nat.lt_of_lt_of_le (m := 1000) (by omega) (by decide), next _ _ ?_⟩
    rw [hC]
    refine ⟨ws ++ [.ref t2], _, _, upd_same, ?_, same_upd (e.trans e45) hD _, rfl⟩
    have kt : ∀ (b : Addr) (xs : List V), SqT K H5 b xs → SqT K (upd H5 D (.lst (ws ++ [.ref t2]))) b xs := fun b xs hb => sqt_but d5 (fun ys z => by cases z) (fun _ _ z => by cases z) (fun b hb => upd_ne hb) hb
    rw [List.take_add_one, hen]
    refine pair_snoc ?_ (Paired.mapP pr fun v row => ?_)
    · exact ⟨t2, l2, rfl, kt _ _ T5, by rw [upd_ne l2D]; exact S5 _ _ T4, l2D, none_of e hl2⟩
    · rintro ⟨b, q', h1, h2, h3, h4⟩
      exact ⟨b, q', h1, kt _ _ (Same.tup e45 h2), by rw [upd_ne h4.1]; exact e45 _ _ h3, h4⟩
  · intro τ H' h
    rw [hC] at h
    obtain ⟨ws, y, z, d1, pr, e, rfl⟩ := h
    rw [lus, List.take_length] at pr
    exact q D H' e hD ⟨ws, d1, pr⟩
end

end MyJ
namespace MyK
open My MyB MyC MyD MyE MyF MyG MyS MyI MyJ PySem L2
structure Most (rooms : List Int) (L : List En) (G : List Int) : Prop where
  len : G.length = L.length
  nn : ∀ e, e < L.length → 0 ≤ G.getD e 0
  le : ∀ e, e < L.length → G.getD e 0 ≤ wt L e
  loose : ∀ S k, k ≤ L.length → sumG L (fun e => G.getD e 0) S k ≤ roomS rooms rooms.length S
  tight : ∀ e, e < L.length → G.getD e 0 < wt L e → ∃ S : Nat → Bool, (pl L e).all S = true ∧ roomS rooms rooms.length S = sumG L (fun e => G.getD e 0) S (e + 1)
theorem sum_at {F : List (List Int)} {e : Nat} : (F.map List.sum).getD e 0 = rowS F e := by
  unfold rowS
  rw [List.getD, List.getElem?_map, List.getD]
  cases F[e]? <;> rfl
theorem most_of {K : PySem.W.Frag} {rooms : List Int} {L : List En} {F : List (List Int)} {lf : List Int} {cs : List V} {H : Hp} {ok : Addr → Prop} (flo : Flo L L.length rooms.length rooms F lf) (lc : cs.length = L.length) (h : ∀ (e : Nat) (v : V), cs[e]? = some v → CutAt L rooms.length rooms F lf H ok e v) : Most rooms L (F.map List.sum) := by
  have ef : (fun e => (F.map List.sum).getD e 0) = rowS F := by
    funext e
    exact sum_at
  have cut : ∀ e, e < L.length → ∃ v, CutAt L rooms.length rooms F lf H ok e v := fun e he => ⟨_, h e _ (List.getElem?_eq_getElem (by omega))⟩
  refine ⟨by rw [List.length_map, flo.rows.1], fun e he => ?_, fun e he => ?_, fun S k hk => ?_, fun e he hlt => ?_⟩
  · rw [sum_at, row_sum flo.rows he]
    exact sumN_nn fun j _ => flo.nn e j
  · obtain ⟨v, hv⟩ := cut e he
    rw [sum_at]
    rcases hv with ⟨_, z⟩ | ⟨c, ns, _, _, _, z, _⟩
    · omega
    · omega
  · rw [ef]
    exact MyS.loose flo S k hk
  · obtain ⟨v, hv⟩ := cut e he
    rw [sum_at] at hlt
    rcases hv with ⟨_, z⟩ | ⟨c, ns, _, _, _, _, _, _, _, z1, z2⟩
    · omega
    · refine ⟨inS ns, ?_, ?_⟩
      · rw [List.all_eq_true]
        intro j hj
        exact decide_eq_true (z1 j hj)
      · rw [ef]
        exact z2

theorem ln_ok {m : Nat} {L : List En} (h : LnL m L) (m6 : m ≤ 6) : LnOk m L := by
  have len : ∀ en ∈ L, en.1.length ≤ m := fun en hen => by
    have := (h.pl en hen).length_le
    rwa [List.length_range] at this
  refine ⟨by have := h.l; omega, fun en hen => ⟨by have := len en hen; omega, fun o ho => List.mem_range.mp ((h.pl en hen).subset ho)⟩, fun en hen => (h.pl en hen).nodup List.nodup_range, by omega, fun en hen => (h.w en hen).1⟩

end MyK
namespace MyL
open My MyB MyC MyD MyE MyF MyG MyS MyI MyJ MyK PySem L2
def top (i : Nat) : Stmt := PySem.Challenge.pw_tariffgate_k64_cuts.main.body.getD i (.Pass ⟨0, 0, 0, 0⟩)
theorem dn__law_cut_here : (("_law_cut_here" : Str) == ("__debug__" : Str)) = false := by decide
theorem dc__law_cut_here : (("_law_cut_here" : Str) == ("__classdict__" : Str)) = false := by decide
theorem dn__law_rooms_here : (("_law_rooms_here" : Str) == ("__debug__" : Str)) = false := by decide
theorem dc__law_rooms_here : (("_law_rooms_here" : Str) == ("__classdict__" : Str)) = false := by decide
theorem dn__law_granted : (("_law_granted" : Str) == ("__debug__" : Str)) = false := by decide
theorem dc__law_granted : (("_law_granted" : Str) == ("__classdict__" : Str)) = false := by decide
theorem dn__law_at : (("_law_at" : Str) == ("__debug__" : Str)) = false := by decide
theorem dc__law_at : (("_law_at" : Str) == ("__classdict__" : Str)) = false := by decide
theorem dn__law_behind : (("_law_behind" : Str) == ("__debug__" : Str)) = false := by decide
theorem dc__law_behind : (("_law_behind" : Str) == ("__classdict__" : Str)) = false := by decide
theorem dn__law_spare : (("_law_spare" : Str) == ("__debug__" : Str)) = false := by decide
theorem dc__law_spare : (("_law_spare" : Str) == ("__classdict__" : Str)) = false := by decide
theorem dn__law_within : (("_law_within" : Str) == ("__debug__" : Str)) = false := by decide
theorem dn__law_whole : (("_law_whole" : Str) == ("__debug__" : Str)) = false := by decide
abbrev s_law_within : Stmt := top 14
theorem sc_law_within : FnScope ["_law_places", "_law_cut_here", "_law_place"] ["_law_places", "_law_cut_here"] (defScope s_law_within) := ⟨rfl, rfl, rfl, by decide +kernel, rfl, by decide +kernel, by decide +kernel⟩
theorem v_law_within_0 : Vis (defScope s_law_within) "_law_places" := by first | exact Or.inl rfl | exact Or.inr (Or.inl rfl) | exact Or.inr (Or.inr rfl)
theorem v_law_within_1 : Vis (defScope s_law_within) "_law_cut_here" := by first | exact Or.inl rfl | exact Or.inr (Or.inl rfl) | exact Or.inr (Or.inr rfl)
theorem v_law_within_2 : Vis (defScope s_law_within) "_law_place" := by first | exact Or.inl rfl | exact Or.inr (Or.inl rfl) | exact Or.inr (Or.inr rfl)
theorem l_law_within_2 : Loc (defScope s_law_within) "_law_place" := by first | exact Or.inl rfl | exact Or.inr rfl
abbrev s_law_cut : Stmt := top 15
theorem sc_law_cut : FnScope ["_law_cut_here", "_law_rooms_here", "_law_line_here", "_law_granted", "_law_at", "_law_behind", "_law_place", "_law_spare", "_law_k"] ["_law_cut_here", "_law_rooms_here", "_law_line_here", "_law_granted", "_law_at"] (defScope s_law_cut) := ⟨rfl, rfl, rfl, by decide +kernel, rfl, by decide +kernel, by decide +kernel⟩
theorem v_law_cut_0 : Vis (defScope s_law_cut) "_law_cut_here" := by first | exact Or.inl rfl | exact Or.inr (Or.inl rfl) | exact Or.inr (Or.inr rfl)
theorem v_law_cut_1 : Vis (defScope s_law_cut) "_law_rooms_here" := by first | exact Or.inl rfl | exact Or.inr (Or.inl rfl) | exact Or.inr (Or.inr rfl)
theorem v_law_cut_2 : Vis (defScope s_law_cut) "_law_line_here" := by first | exact Or.inl rfl | exact Or.inr (Or.inl rfl) | exact Or.inr (Or.inr rfl)
theorem v_law_cut_3 : Vis (defScope s_law_cut) "_law_granted" := by first | exact Or.inl rfl | exact Or.inr (Or.inl rfl) | exact Or.inr (Or.inr rfl)
theorem v_law_cut_4 : Vis (defScope s_law_cut) "_law_at" := by first | exact Or.inl rfl | exact Or.inr (Or.inl rfl) | exact Or.inr (Or.inr rfl)
theorem v_law_cut_5 : Vis (defScope s_law_cut) "_law_behind" := by first | exact Or.inl rfl | exact Or.inr (Or.inl rfl) | exact Or.inr (Or.inr rfl)
theorem l_law_cut_5 : Loc (defScope s_law_cut) "_law_behind" := by first | exact Or.inl rfl | exact Or.inr rfl
theorem v_law_cut_6 : Vis (defScope s_law_cut) "_law_place" := by first | exact Or.inl rfl | exact Or.inr (Or.inl rfl) | exact Or.inr (Or.inr rfl)
theorem l_law_cut_6 : Loc (defScope s_law_cut) "_law_place" := by first | exact Or.inl rfl | exact Or.inr rfl
theorem v_law_cut_7 : Vis (defScope s_law_cut) "_law_spare" := by first | exact Or.inl rfl | exact Or.inr (Or.inl rfl) | exact Or.inr (Or.inr rfl)
theorem l_law_cut_7 : Loc (defScope s_law_cut) "_law_spare" := by first | exact Or.inl rfl | exact Or.inr rfl
theorem v_law_cut_8 : Vis (defScope s_law_cut) "_law_k" := by first | exact Or.inl rfl | exact Or.inr (Or.inl rfl) | exact Or.inr (Or.inr rfl)
theorem l_law_cut_8 : Loc (defScope s_law_cut) "_law_k" := by first | exact Or.inl rfl | exact Or.inr rfl
theorem g_law_cut_isinstance : (defScope s_law_cut).names.lookup ("isinstance" : Str) = some .globalImplicit := by rfl
theorem g_law_cut_list : (defScope s_law_cut).names.lookup ("list" : Str) = some .globalImplicit := by rfl
theorem g_law_cut__law_whole : (defScope s_law_cut).names.lookup ("_law_whole" : Str) = some .globalImplicit := by rfl
theorem g_law_cut_len : (defScope s_law_cut).names.lookup ("len" : Str) = some .globalImplicit := by rfl
theorem g_law_cut__law_within : (defScope s_law_cut).names.lookup ("_law_within" : Str) = some .globalImplicit := by rfl
theorem g_law_cut_sum : (defScope s_law_cut).names.lookup ("sum" : Str) = some .globalImplicit := by rfl
theorem g_law_cut_range : (defScope s_law_cut).names.lookup ("range" : Str) = some .globalImplicit := by rfl

theorem in_ints_iff (ks : List Int) (j : Int) : inV (.int j) (ks.map V.int) = decide (j ∈ ks) := by
  unfold inV
  rw [Bool.eq_iff_iff, List.any_eq_true, decide_eq_true_iff]
  refine ⟨?_, fun h => ⟨_, List.mem_map.mpr ⟨j, h, rfl⟩, by simp [eqV]⟩⟩
  rintro ⟨x, hx, e⟩
  obtain ⟨i, hi, rfl⟩ := List.mem_map.mp hx
  have : i = j := by simpa [eqV] using e
  rw [← this]
  exact hi
theorem flat_ints (ks : List Int) : (ks.map V.int).all flatV = true := by
  rw [List.all_eq_true]
  intro x hx
  obtain ⟨j, _, rfl⟩ := List.mem_map.mp hx
  rfl
def spWithin (K : PySem.W.Frag) : Sp := fun vs H Q _ => ∃ (r c : Addr) (ps : List Nat) (ns : List Int), vs = [.ref r, .ref c] ∧ SqL K H r (ps.map fun j : Nat => V.int (j : Int)) ∧ SqL K H c (ns.map V.int) ∧ Q (.bl (ps.all (inS ns))) H
structure CutOk (rooms : List Int) (L : List En) (G : Nat → Int) (e : Nat) (ns : List Int) : Prop where
  so : ns.Pairwise (· < ·)
  rg : ∀ x ∈ ns, ∃ j : Nat, x = (j : Int) ∧ j < rooms.length
  pl : ∀ j ∈ pl L e, (j : Int) ∈ ns
  ti : roomS rooms rooms.length (inS ns) = sumG L G (inS ns) (e + 1)
def spCutL (K : PySem.W.Frag) : Sp := fun vs H Q _ => ∃ (c rm l g : Addr) (e : Nat) (ns rooms G : List Int) (L : List En), vs = [.ref c, .ref rm, .ref l, .ref g, .int (e : Int)] ∧ SqL K H c (ns.map V.int) ∧ SqL K H rm (rooms.map V.int) ∧ LnAt K H l L ∧ SqL K H g (G.map V.int) ∧ e < L.length ∧ G.length = L.length ∧ L.length ≤ 64 ∧ rooms.length ≤ 64 ∧ CutOk rooms L (fun e => G.getD e 0) e ns ∧ ∀ H', Same H H' → Q (.bl true) H'
theorem sum_rise {g : Nat → Int} : ∀ {m : Nat} {ns : List Int}, ns.Pairwise (· < ·) → (∀ x ∈ ns, ∃ j : Nat, x = (j : Int) ∧ j < m) → (ns.map fun x => g x.toNat).sum = sumN m fun j => if inS ns j = true then g j else 0
  | 0, ns, _, h => by
    cases ns with
    | nil => rfl
    | cons x xs =>
      obtain ⟨j, _, hj⟩ := h x List.mem_cons_self
      omega
  | m + 1, ns, so, h => by
    have key : ∀ xs : List Int, xs.Pairwise (· < ·) → (∀ x ∈ xs, ∃ j : Nat, x = (j : Int) ∧ j < m) → (∀ j, j < m → inS ns j = inS xs j) → (xs.map fun x => g x.toNat).sum = sumN m fun j => if inS ns j = true then g j else 0 := fun xs a b c => by
      rw [sum_rise a b]
      exact sumN_congr fun j hj => by rw [c j hj]
    rw [sumN_succ]
    by_cases hm : (m : Int) ∈ ns
    · obtain ⟨xs, rfl⟩ : ∃ xs, ns = xs ++ [(m : Int)] := by
        obtain ⟨s, t, rfl⟩ := List.append_of_mem hm
        refine ⟨s, ?_⟩
        cases t with
        | nil => rfl
        | cons y ys =>
          rw [List.pairwise_append] at so
          have h1 := (List.pairwise_cons.mp so.2.1).1 y List.mem_cons_self
          obtain ⟨j, e1, e2⟩ := h y (List.mem_append_right _ (List.mem_cons_of_mem _ List.mem_cons_self))
          omega
      rw [List.pairwise_append] at so
      have lt : ∀ x ∈ xs, x < (m : Int) := fun x hx => so.2.2 x hx _ (List.mem_singleton.mpr rfl)
      rw [List.map_append, List.sum_append, key xs so.1 (fun x hx => by
        obtain ⟨j, e1, e2⟩ := h x (List.mem_append_left _ hx)
        have := lt x hx
        exact ⟨j, e1, by omega⟩) (fun j hj => by
        unfold inS
        rw [decide_eq_decide, List.mem_append]
        refine ⟨fun z => z.resolve_right fun y => ?_, .inl⟩
        have := List.mem_singleton.mp y
        omega)]
      rw [if_pos (show inS (xs ++ [(m : Int)]) m = true from decide_eq_true hm)]
      simp
    · rw [if_neg (show ¬ inS ns m = true from fun z => hm (of_decide_eq_true z)), Int.add_zero]
      refine key ns so (fun x hx => ?_) fun j _ => rfl
      obtain ⟨j, e1, e2⟩ := h x hx
      refine ⟨j, e1, ?_⟩
      by_cases z : j = m
      · subst z
        rw [← e1] at hm
        exact absurd hx hm
      · omega
theorem rise_len {m : Nat} {ns : List Int} (so : ns.Pairwise (· < ·)) (h : ∀ x ∈ ns, ∃ j : Nat, x = (j : Int) ∧ j < m) : ns.length ≤ m := by
  have e := sum_rise (g := fun _ => 1) so h
  have l1 : (sumN m fun j => if inS ns j = true then (1 : Int) else 0) ≤ sumN m fun _ => 1 := sumN_le fun j _ => by split <;> omega
  have l2 : ∀ k, sumN k (fun _ => (1 : Int)) = k := fun k => by
    induction k with
    | zero => rfl
    | succ k ih => rw [sumN_succ, ih]; omega
  have l3 : ∀ l : List Int, (l.map fun _ => (1 : Int)).sum = l.length := fun l => by
    induction l with
    | nil => rfl
    | cons x xs ih => rw [List.map_cons, List.sum_cons, ih, List.length_cons]; omega
  have := l3 ns
  rw [l2] at l1
  omega
section
variable {P : Program} {w : World} {K : PySem.W.Frag} {mg : Str → Option Value} {base : Heap} {f : Addr} {fd : FuncData}
theorem ok_law_within (F : Fun K "_law_within" "_law_within" s_law_within f fd) (M : Mg mg) : FnOk P w K mg base CX0 1 f fd ["_law_places", "_law_cut_here"] (spWithin K) := by
  refine F.ok sc_law_within (fun vs H Q E h => ?_) (fun cdv A outer s H vs Q E hr h => ?_)
  · obtain ⟨r, c, ps, ns, rfl, _⟩ := h
    rfl
  obtain ⟨r, c, ps, ns, rfl, hr', hc, q⟩ := h
  refine ⟨_, (@pss_cons _ _ _ _ _ (@ps_for _ _ _ _ _ _ _ _ PassesOwn.never rfl (@pi_list _ _ _ _ (@pe_var _ 0 _ _ rfl v_law_within_0 dn__law_places dc__law_places)) (@pg_name _ _ 2 _ sc_law_within.nd rfl l_law_within_2 (.inl rfl)) (@pss_one _ _ _ (@ps_if _ _ _ _ _ _ _ _ (@pt_cmpR _ _ _ _ _ _ _ _ (@op_notIn_seq _) (@pe_var _ 2 _ _ rfl v_law_within_2 dn__law_place dc__law_place) (@pe_var _ 1 _ _ rfl v_law_within_1 dn__law_cut_here dc__law_cut_here) (by with_unfolding_all rfl)) (@pss_one _ _ _ (@ps_ret _ _ _ _ (@pe_bl _ _ _ _))) (@pss_nil _))) (by intro _; rfl)) (@pss_one _ _ _ (@ps_ret _ _ _ _ (@pe_bl _ _ _ _)))), ?_⟩
  simp only [slots, Option.getD_some, Option.getD_none, tSeq, gName, tOp, tC, tVar, tRet, tIfS, tTest, tNext, Kd_non, Kd_bl, Kd_int, Kd_str, decide_true, decide_false, tFor_eq, iList, L2.start, cxK, Int.reduceToNat, List.map_cons, List.map_nil, List.length_cons, List.length_nil, Nat.reduceAdd, Nat.reduceSub, Nat.zero_add, List.replicate_succ, List.replicate_zero, List.cons_append, List.nil_append, List.append_nil, List.getElem?_cons_zero, List.getElem?_cons_succ, List.set_cons_zero, List.set_cons_succ, Option.some.injEq, V.int.injEq, V.bl.injEq, V.ref.injEq, V.str.injEq, V.ty.injEq, List.cons.injEq, exists_eq_left', exists_eq_left, exists_eq_right, exists_and_left, exists_and_right, and_true, true_and, and_assoc, exists_const, decide_eq_true_eq, Bool.not_eq_true', Bool.not_true, Bool.not_false, Bool.not_not, decide_eq_false_iff_not, ite_not, Bool.false_eq_true, if_true, if_false, reduceCtorEq, and_false, false_and, exists_false, or_false, false_or, ↓reduceIte, eq_self, reduceIte]
  refine ⟨⟨_, hr'⟩, ?_⟩
  obtain ⟨Pv, hP⟩ : ∃ Pv : Nat → St → Hp → Prop, Pv = fun i σ H' => ∃ (z : Option V), H' = H ∧ (ps.take i).all (inS ns) = true ∧ σ = [some (.ref r), some (.ref c), z] := ⟨_, rfl⟩
  refine forW_list _ Pv ?_ (fun i σ H' _ h => by rw [hP] at h; obtain ⟨_, rfl, _⟩ := h; exact hr') ?_ ?_
  · rw [hP]
    exact ⟨_, rfl, rfl, rfl⟩
  · intro i v σ H' hv h
    rw [hP] at h
    obtain ⟨z, rfl, ha, rfl⟩ := h
    rw [List.getElem?_map] at hv
    obtain ⟨j, hj, rfl⟩ := Option.map_eq_some_iff.mp hv
    simp only [slots, Option.getD_some, Option.getD_none, tSeq, gName, tOp, tC, tVar, tRet, tIfS, tTest, tNext, Kd_non, Kd_bl, Kd_int, Kd_str, decide_true, decide_false, tFor_eq, iList, L2.start, cxK, Int.reduceToNat, List.map_cons, List.map_nil, List.length_cons, List.length_nil, Nat.reduceAdd, Nat.reduceSub, Nat.zero_add, List.replicate_succ, List.replicate_zero, List.cons_append, List.nil_append, List.append_nil, List.getElem?_cons_zero, List.getElem?_cons_succ, List.set_cons_zero, List.set_cons_succ, Option.some.injEq, V.int.injEq, V.bl.injEq, V.ref.injEq, V.str.injEq, V.ty.injEq, List.cons.injEq, exists_eq_left', exists_eq_left, exists_eq_right, exists_and_left, exists_and_right, and_true, true_and, and_assoc, exists_const, decide_eq_true_eq, Bool.not_eq_true', Bool.not_true, Bool.not_false, Bool.not_not, decide_eq_false_iff_not, ite_not, Bool.false_eq_true, if_true, if_false, reduceCtorEq, and_false, false_and, exists_false, or_false, false_or, ↓reduceIte, eq_self, reduceIte]
    refine ⟨c, _, rfl, .inl hc, rfl, flat_ints ns, !inS ns j, ?_, ?_⟩
    · rw [in_ints_iff]
      rfl
    cases hz : inS ns j with
    | true =>
      rw [if_neg (by decide), hP]
      refine ⟨_, rfl, ?_, rfl⟩
      rw [List.take_add_one, hj, List.all_append, ha]
      show (true && (inS ns j && true)) = true
      rw [hz]
      rfl
    | false =>
      rw [if_pos (by decide)]
      have : ps.all (inS ns) = false := by
        rw [List.all_eq_false]
        exact ⟨j, List.mem_of_getElem? hj, by rw [hz]; decide⟩
      rw [this] at q
      exact q
  · intro σ H' h
    rw [hP] at h
    obtain ⟨z, rfl, ha, rfl⟩ := h
    rw [List.length_map, List.take_length] at ha
    rw [ha] at q
    simp only [slots, Option.getD_some, Option.getD_none, tSeq, gName, tOp, tC, tVar, tRet, tIfS, tTest, tNext, Kd_non, Kd_bl, Kd_int, Kd_str, decide_true, decide_false, tFor_eq, iList, L2.start, cxK, Int.reduceToNat, List.map_cons, List.map_nil, List.length_cons, List.length_nil, Nat.reduceAdd, Nat.reduceSub, Nat.zero_add, List.replicate_succ, List.replicate_zero, List.cons_append, List.nil_append, List.append_nil, List.getElem?_cons_zero, List.getElem?_cons_succ, List.set_cons_zero, List.set_cons_succ, Option.some.injEq, V.int.injEq, V.bl.injEq, V.ref.injEq, V.str.injEq, V.ty.injEq, List.cons.injEq, exists_eq_left', exists_eq_left, exists_eq_right, exists_and_left, exists_and_right, and_true, true_and, and_assoc, exists_const, decide_eq_true_eq, Bool.not_eq_true', Bool.not_true, Bool.not_false, Bool.not_not, decide_eq_false_iff_not, ite_not, Bool.false_eq_true, if_true, if_false, reduceCtorEq, and_false, false_and, exists_false, or_false, false_or, ↓reduceIte, eq_self, reduceIte]
    exact q
theorem ok_law_cut (F : Fun K "_law_cut" "_law_cut" s_law_cut f fd) (M : Mg mg) (C_law_whole : Cal P w K mg base CX0 "_law_whole" 1 ["_law_found"] spIsInt) (C_law_within : Cal P w K mg base CX0 "_law_within" 1 ["_law_places", "_law_cut_here"] (spWithin K)) : FnOk P w K mg base CX0 2 f fd ["_law_cut_here", "_law_rooms_here", "_law_line_here", "_law_granted", "_law_at"] (spCutL K) := by
  refine F.ok sc_law_cut (fun vs H Q E h => ?_) (fun cdv A outer s H vs Q E hr h => ?_)
  · obtain ⟨c, rm, l, g, e, ns, rooms, G, L, rfl, _⟩ := h
    rfl
  obtain ⟨c, rm, l, g, e, ns, rooms, G, L, rfl, hc, hrm, hL, hg, he, lG, l64, m64, ok, q⟩ := h
  refine ⟨_, (@pss_cons _ _ _ _ _ (@ps_if _ _ _ _ _ _ _ _ (@pt_not _ _ _ _ (@pt_val _ _ _ (@pe_callB _ _ _ _ _ _ _ _ _ call_isi g_law_cut_isinstance M.m_isinstance b_isinstance (@pa_cons _ _ _ _ _ (@pe_var _ 0 _ _ rfl v_law_cut_0 dn__law_cut_here dc__law_cut_here) (@pa_cons _ _ _ _ _ (@pe_bltn _ _ (.ty "list") _ _ g_law_cut_list M.m_list b_list rfl nn_list dn_list) (@pa_nil _) (star1 rfl)) (star1 rfl)) nn_isinstance dn_isinstance (star1 rfl) (nost1 rfl nost0)) (test1 rfl))) (@pss_one _ _ _ (@ps_ret _ _ _ _ (@pe_bl _ _ _ _))) (@pss_nil _)) (@pss_cons _ _ _ _ _ (@ps_set _ _ 5 _ _ _ _ sc_law_cut.nd rfl l_law_cut_5 (@pe_un _ _ _ _ _ _ (@un_neg _) (@pe_int _ _ _ _)) (swap1 rfl) (.inl rfl)) (@pss_cons _ _ _ _ _ (@ps_for _ _ _ _ _ _ _ _ PassesOwn.never rfl (@pi_list _ _ _ _ (@pe_var _ 0 _ _ rfl v_law_cut_0 dn__law_cut_here dc__law_cut_here)) (@pg_name _ _ 6 _ sc_law_cut.nd rfl l_law_cut_6 (.inl rfl)) (@pss_cons _ _ _ _ _ (@ps_if _ _ _ _ _ _ _ _ (@PW.pt _ _ _ (@pw_or _ _ _ _ _ _ _ (@pt_not _ _ _ _ (@pt_val _ _ _ (@pe_callC _ _ _ _ _ _ _ _ _ _ _ C_law_whole hr g_law_cut__law_whole (@pa_cons _ _ _ _ _ (@pe_var _ 6 _ _ rfl v_law_cut_6 dn__law_place dc__law_place) (@pa_nil _) (star1 rfl)) (by decide) dn__law_whole (star1 rfl) nost0) (test1 rfl))) (@pw_or1 _ _ _ _ (@pt_not _ _ _ _ (@pt_chain _ _ _ _ _ _ _ _ _ _ _ _ (@op_lt _) (@op_lt _) (@pe_var _ 5 _ _ rfl v_law_cut_5 dn__law_behind dc__law_behind) (@pe_var _ 6 _ _ rfl v_law_cut_6 dn__law_place dc__law_place) (@pe_callB _ _ _ _ _ _ _ _ _ call_len_seq g_law_cut_len M.m_len b_len (@pa_cons _ _ _ _ _ (@pe_var _ 1 _ _ rfl v_law_cut_1 dn__law_rooms_here dc__law_rooms_here) (@pa_nil _) (star1 rfl)) nn_len dn_len (star1 rfl) nost0) (by with_unfolding_all rfl)))))) (@pss_one _ _ _ (@ps_ret _ _ _ _ (@pe_bl _ _ _ _))) (@pss_nil _)) (@pss_one _ _ _ (@ps_set _ _ 5 _ _ _ _ sc_law_cut.nd rfl l_law_cut_5 (@pe_var _ 6 _ _ rfl v_law_cut_6 dn__law_place dc__law_place) (swap1 rfl) (.inl rfl)))) (by intro _; rfl)) (@pss_cons _ _ _ _ _ (@ps_if _ _ _ _ _ _ _ _ (@pt_not _ _ _ _ (@pt_val _ _ _ (@pe_callC _ _ _ _ _ _ _ _ _ _ _ C_law_within hr g_law_cut__law_within (@pa_cons _ _ _ _ _ (@pe_ix _ _ _ _ _ _ _ (@ix_tup _) (@pe_ix _ _ _ _ _ _ _ (@ix_list _) (@pe_var _ 2 _ _ rfl v_law_cut_2 dn__law_line_here dc__law_line_here) (@pe_var _ 4 _ _ rfl v_law_cut_4 dn__law_at dc__law_at) (fun _ _ => rfl)) (@pe_int _ _ _ _) (fun _ _ => rfl)) (@pa_cons _ _ _ _ _ (@pe_var _ 0 _ _ rfl v_law_cut_0 dn__law_cut_here dc__law_cut_here) (@pa_nil _) (star1 rfl)) (star1 rfl)) (by decide) dn__law_within (star1 rfl) (nost1 rfl nost0)) (test1 rfl))) (@pss_one _ _ _ (@ps_ret _ _ _ _ (@pe_bl _ _ _ _))) (@pss_nil _)) (@pss_cons _ _ _ _ _ (@ps_set _ _ 7 _ _ _ _ sc_law_cut.nd rfl l_law_cut_7 (@pe_callB _ _ _ _ _ _ _ _ _ (call_sum1 rfl) g_law_cut_sum M.m_sum b_sum (@pa_cons _ _ _ _ _ (@pe_comp _ _ _ _ _ _ _ _ _ _ _ _ _ _ _ rfl (CompOk.make (N' := ["_law_rooms_here", "_law_place"]) (ix := [1]) (nl := 1) (by rfl) (fm1 rfl fm0) (by rfl) (by decide +kernel) rfl (by decide +kernel) rfl (And.intro ⟨rfl, .inl rfl, .inl rfl⟩ True.intro)) (@pi_list _ _ _ _ (@pe_var _ 0 _ _ rfl v_law_cut_0 dn__law_cut_here dc__law_cut_here)) (fun _ _ _ _ _ => (@pg_name _ _ 1 _ (show List.Nodup (["_law_rooms_here", "_law_place"] : List Str) from by decide) rfl (Or.inl rfl) (by first | exact .inl rfl | exact .inr rfl | assumption))) (fun _ _ _ _ _ => (@pif_nil _)) (fun _ _ _ _ _ => (@pe_ix _ _ _ _ _ _ _ (@ix_listK _ K rfl) (@pv _ 0 _ _ (by rfl) (by first | exact Or.inl rfl | exact Or.inr (Or.inl rfl) | exact Or.inr (Or.inr rfl)) (by decide) (by decide)) (@pv _ 1 _ _ (by rfl) (by first | exact Or.inl rfl | exact Or.inr (Or.inl rfl) | exact Or.inr (Or.inr rfl)) (by decide) (by decide)) (fun _ _ => rfl))) (by intro _; rfl)) (@pa_nil _) (star1 rfl)) nn_sum dn_sum (star1 rfl) nost0) (swap1 rfl) (.inl rfl)) (@pss_cons _ _ _ _ _ (@ps_for _ _ _ _ _ _ _ _ PassesOwn.never rfl (@pi_range1 _ _ _ _ _ _ g_law_cut_range M.m_range (@pa_cons _ _ _ _ _ (@pe_op _ _ _ _ _ _ _ _ (@op_add _) (@pe_var _ 4 _ _ rfl v_law_cut_4 dn__law_at dc__law_at) (@pe_int _ _ _ _)) (@pa_nil _) (star1 rfl)) (star1' rfl)) (@pg_name _ _ 8 _ sc_law_cut.nd rfl l_law_cut_8 (.inl rfl)) (@pss_one _ _ _ (@ps_if _ _ _ _ _ _ _ _ (@pt_val _ _ _ (@pe_callC _ _ _ _ _ _ _ _ _ _ _ C_law_within hr g_law_cut__law_within (@pa_cons _ _ _ _ _ (@pe_ix _ _ _ _ _ _ _ (@ix_tup _) (@pe_ix _ _ _ _ _ _ _ (@ix_list _) (@pe_var _ 2 _ _ rfl v_law_cut_2 dn__law_line_here dc__law_line_here) (@pe_var _ 8 _ _ rfl v_law_cut_8 dn__law_k dc__law_k) (fun _ _ => rfl)) (@pe_int _ _ _ _) (fun _ _ => rfl)) (@pa_cons _ _ _ _ _ (@pe_var _ 0 _ _ rfl v_law_cut_0 dn__law_cut_here dc__law_cut_here) (@pa_nil _) (star1 rfl)) (star1 rfl)) (by decide) dn__law_within (star1 rfl) (nost1 rfl nost0)) (test1 rfl)) (@pss_one _ _ _ (@ps_set _ _ 7 _ _ _ _ sc_law_cut.nd rfl l_law_cut_7 (@pe_op _ _ _ _ _ _ _ _ (@op_sub _) (@pe_var _ 7 _ _ rfl v_law_cut_7 dn__law_spare dc__law_spare) (@pe_ix _ _ _ _ _ _ _ (@ix_list _) (@pe_var _ 3 _ _ rfl v_law_cut_3 dn__law_granted dc__law_granted) (@pe_var _ 8 _ _ rfl v_law_cut_8 dn__law_k dc__law_k) (fun _ _ => rfl))) (swap1 rfl) (.inl rfl))) (@pss_nil _))) (by intro _; rfl)) (@pss_one _ _ _ (@ps_ret _ _ _ _ (@pe_cmpR _ _ _ _ _ _ _ _ (@op_eq _) (@pe_var _ 7 _ _ rfl v_law_cut_7 dn__law_spare dc__law_spare) (@pe_int _ _ _ _) (nomark _)))))))))), ?_⟩
  obtain ⟨us, hus, hpa⟩ := id hL
  have lus : us.length = L.length := Paired.length hpa
  simp only [tComp_eq, tComp1, slots, Option.getD_some, Option.getD_none, tYes, tSeq, tAsg, gName, tOp, tUn, tC, tVar, tCB, tCons, tNil, tCall, rI0, rU, tRet, tIfS, tTest, tB, tOr, tNot, tChain, tNext, rEq, rIsi, rIxL, rIxT, isi_non_bl, isi_non_int, isi_non_str, isi_non_lst, isi_non_tup, isi_bl_bl, isi_bl_int, isi_bl_str, isi_bl_lst, isi_bl_tup, isi_int_bl, isi_int_int, isi_int_str, isi_int_lst, isi_int_tup, isi_str_bl, isi_str_int, isi_str_str, isi_str_lst, isi_str_tup, isi_lst_bl, isi_lst_int, isi_lst_str, isi_lst_lst, isi_lst_tup, isi_tup_bl, isi_tup_int, isi_tup_str, isi_tup_lst, isi_tup_tup, isi_dct_bl, isi_dct_int, isi_dct_str, isi_dct_lst, isi_dct_tup, Kd_non, Kd_bl, Kd_int, Kd_str, sc_non_non, sc_non_int, sc_int_non, sc_non_bl, sc_bl_non, sc_non_str, sc_str_non, sc_int_int, sc_bl_bl, sc_str_str, sc_int_str, sc_str_int, sc_bl_str, sc_str_bl, decide_true, decide_false, tFor_eq, iList, iRng1, tyK_int, tyK_bool, tyK_str, tyK_list, tyK_tuple, L2.start, cxK, Int.reduceToNat, List.map_cons, List.map_nil, List.length_cons, List.length_nil, Nat.reduceAdd, Nat.reduceSub, Nat.zero_add, List.replicate_succ, List.replicate_zero, List.cons_append, List.nil_append, List.append_nil, List.getElem?_cons_zero, List.getElem?_cons_succ, List.set_cons_zero, List.set_cons_succ, Option.some.injEq, V.int.injEq, V.bl.injEq, V.ref.injEq, V.str.injEq, V.ty.injEq, List.cons.injEq, exists_eq_left', exists_eq_left, exists_eq_right, exists_and_left, exists_and_right, and_true, true_and, and_assoc, exists_const, decide_eq_true_eq, Bool.not_eq_true', Bool.not_true, Bool.not_false, Bool.not_not, decide_eq_false_iff_not, ite_not, Bool.false_eq_true, if_true, if_false, reduceCtorEq, and_false, false_and, exists_false, or_false, false_or, ↓reduceIte, eq_self, reduceIte]
  refine ⟨.lst, Kd.lst hc, ?_⟩
  rw [if_neg (by decide)]
  refine ⟨⟨_, hc⟩, ?_⟩
  obtain ⟨Pv, hP⟩ : ∃ Pv : Nat → St → Hp → Prop, Pv = fun i σ H' => ∃ (b : Int) (z : Option V), H' = H ∧ (∀ x ∈ ns.drop i, b < x) ∧ σ = [some (.ref c), some (.ref rm), some (.ref l), some (.ref g), some (.int (e : Int)), some (.int b), z, none, none] := ⟨_, rfl⟩
  refine forW_list _ Pv ?_ (fun i σ H' _ h => by rw [hP] at h; obtain ⟨_, _, rfl, _⟩ := h; exact hc) ?_ ?_
  · rw [hP]
    refine ⟨-1, _, rfl, fun x hx => ?_, rfl⟩
    obtain ⟨j, rfl, _⟩ := ok.rg x (List.mem_of_mem_drop hx)
    omega
  · intro i v σ H' hv h
    rw [hP] at h
    obtain ⟨b, z, rfl, hb, rfl⟩ := h
    rw [List.getElem?_map] at hv
    obtain ⟨x, hx, rfl⟩ := Option.map_eq_some_iff.mp hv
    obtain ⟨j, ej, hj⟩ := ok.rg x (List.mem_of_getElem? hx)
    have hlt := (List.getElem?_eq_some_iff.mp hx).1
    have hd : ns.drop i = x :: ns.drop (i + 1) := by rw [List.drop_eq_getElem_cons hlt, (List.getElem?_eq_some_iff.mp hx).2]
    have h1 := hb x (by rw [hd]; exact List.mem_cons_self)
    simp only [tComp_eq, tComp1, slots, Option.getD_some, Option.getD_none, tYes, tSeq, tAsg, gName, tOp, tUn, tC, tVar, tCB, tCons, tNil, tCall, rI0, rU, tRet, tIfS, tTest, tB, tOr, tNot, tChain, tNext, rEq, rIsi, rIxL, rIxT, isi_non_bl, isi_non_int, isi_non_str, isi_non_lst, isi_non_tup, isi_bl_bl, isi_bl_int, isi_bl_str, isi_bl_lst, isi_bl_tup, isi_int_bl, isi_int_int, isi_int_str, isi_int_lst, isi_int_tup, isi_str_bl, isi_str_int, isi_str_str, isi_str_lst, isi_str_tup, isi_lst_bl, isi_lst_int, isi_lst_str, isi_lst_lst, isi_lst_tup, isi_tup_bl, isi_tup_int, isi_tup_str, isi_tup_lst, isi_tup_tup, isi_dct_bl, isi_dct_int, isi_dct_str, isi_dct_lst, isi_dct_tup, Kd_non, Kd_bl, Kd_int, Kd_str, sc_non_non, sc_non_int, sc_int_non, sc_non_bl, sc_bl_non, sc_non_str, sc_str_non, sc_int_int, sc_bl_bl, sc_str_str, sc_int_str, sc_str_int, sc_bl_str, sc_str_bl, decide_true, decide_false, tFor_eq, iList, iRng1, tyK_int, tyK_bool, tyK_str, tyK_list, tyK_tuple, L2.start, cxK, Int.reduceToNat, List.map_cons, List.map_nil, List.length_cons, List.length_nil, Nat.reduceAdd, Nat.reduceSub, Nat.zero_add, List.replicate_succ, List.replicate_zero, List.cons_append, List.nil_append, List.append_nil, List.getElem?_cons_zero, List.getElem?_cons_succ, List.set_cons_zero, List.set_cons_succ, Option.some.injEq, V.int.injEq, V.bl.injEq, V.ref.injEq, V.str.injEq, V.ty.injEq, List.cons.injEq, exists_eq_left', exists_eq_left, exists_eq_right, exists_and_left, exists_and_right, and_true, true_and, and_assoc, exists_const, decide_eq_true_eq, Bool.not_eq_true', Bool.not_true, Bool.not_false, Bool.not_not, decide_eq_false_iff_not, ite_not, Bool.false_eq_true, if_true, if_false, reduceCtorEq, and_false, false_and, exists_false, or_false, false_or, ↓reduceIte, eq_self, reduceIte]
    refine ⟨x, rfl, true, rfl, ?_⟩
    rw [if_neg (by decide), if_pos h1]
    refine ⟨_, .inl hrm, ?_⟩
    rw [List.length_map, if_pos (by omega), hP]
    refine ⟨_, _, rfl, fun y hy => ?_, rfl⟩
    have := ok.so.drop (i := i)
    rw [hd, List.pairwise_cons] at this
    exact this.1 y hy
  intro σ H' h
  rw [hP] at h
  obtain ⟨b, z, rfl, hb, rfl⟩ := h
  clear hP
  obtain ⟨en, hen⟩ : ∃ en, L[e]? = some en := ⟨_, List.getElem?_eq_getElem he⟩
  obtain ⟨te, qe, a1, a2, a3⟩ := pair_get hpa hen
  have ep : pl L e = en.1 := by rw [pl, List.getD, hen]; rfl
  have eall : en.1.all (inS ns) = true := by
    rw [← ep, List.all_eq_true]
    exact fun j hj => decide_eq_true (ok.pl j hj)
  simp only [tComp_eq, tComp1, slots, Option.getD_some, Option.getD_none, tYes, tSeq, tAsg, gName, tOp, tUn, tC, tVar, tCB, tCons, tNil, tCall, rI0, rU, tRet, tIfS, tTest, tB, tOr, tNot, tChain, tNext, rEq, rIsi, rIxL, rIxT, isi_non_bl, isi_non_int, isi_non_str, isi_non_lst, isi_non_tup, isi_bl_bl, isi_bl_int, isi_bl_str, isi_bl_lst, isi_bl_tup, isi_int_bl, isi_int_int, isi_int_str, isi_int_lst, isi_int_tup, isi_str_bl, isi_str_int, isi_str_str, isi_str_lst, isi_str_tup, isi_lst_bl, isi_lst_int, isi_lst_str, isi_lst_lst, isi_lst_tup, isi_tup_bl, isi_tup_int, isi_tup_str, isi_tup_lst, isi_tup_tup, isi_dct_bl, isi_dct_int, isi_dct_str, isi_dct_lst, isi_dct_tup, Kd_non, Kd_bl, Kd_int, Kd_str, sc_non_non, sc_non_int, sc_int_non, sc_non_bl, sc_bl_non, sc_non_str, sc_str_non, sc_int_int, sc_bl_bl, sc_str_str, sc_int_str, sc_str_int, sc_bl_str, sc_str_bl, decide_true, decide_false, tFor_eq, iList, iRng1, tyK_int, tyK_bool, tyK_str, tyK_list, tyK_tuple, L2.start, cxK, Int.reduceToNat, List.map_cons, List.map_nil, List.length_cons, List.length_nil, Nat.reduceAdd, Nat.reduceSub, Nat.zero_add, List.replicate_succ, List.replicate_zero, List.cons_append, List.nil_append, List.append_nil, List.getElem?_cons_zero, List.getElem?_cons_succ, List.set_cons_zero, List.set_cons_succ, Option.some.injEq, V.int.injEq, V.bl.injEq, V.ref.injEq, V.str.injEq, V.ty.injEq, List.cons.injEq, exists_eq_left', exists_eq_left, exists_eq_right, exists_and_left, exists_and_right, and_true, true_and, and_assoc, exists_const, decide_eq_true_eq, Bool.not_eq_true', Bool.not_true, Bool.not_false, Bool.not_not, decide_eq_false_iff_not, ite_not, Bool.false_eq_true, if_true, if_false, reduceCtorEq, and_false, false_and, exists_false, or_false, false_or, ↓reduceIte, eq_self, reduceIte]
  refine ⟨us, hus, _, atI_nat a1, te, rfl, _, a2, _, rfl, qe, c, en.1, ns, rfl, a3, hc, ?_⟩
  rw [eall]
  refine ⟨true, rfl, ?_⟩
  rw [if_neg (by decide)]
  refine ⟨⟨_, hc⟩, fun D hD => ?_⟩
  obtain ⟨Pc, hC⟩ : ∃ Pc : Nat → St → Hp → Prop, Pc = fun i τ H'' => ∃ (z : Option V), H'' D = some (.lst (((ns.take i).map fun x => rooms.getD x.toNat 0).map V.int)) ∧ Same H' H'' ∧ τ = [some (.ref rm), z] := ⟨_, rfl⟩
  refine compS_list (ns.map V.int) Pc ?_ (fun i τ H'' _ h => by rw [hC] at h; obtain ⟨_, _, e, _⟩ := h; exact e.seq hc) ?_ ?_
  · rw [hC]
    exact ⟨_, upd_same, same_new hD _, rfl⟩
  · intro i x τ H2 R' hx h next
    rw [hC] at h
    obtain ⟨z2, d1, e1, rfl⟩ := h
    rw [List.getElem?_map] at hx
    obtain ⟨x, hx2, rfl⟩ := Option.map_eq_some_iff.mp hx
    replace hx := hx2
    obtain ⟨j, ej, hj⟩ := ok.rg x (List.mem_of_getElem? hx)
    have hlt := (List.getElem?_eq_some_iff.mp hx).1
    have xat : atI (rooms.map V.int) x = some (.int (rooms.getD x.toNat 0)) := atI_map (by omega) (by omega)
    simp only [tComp_eq, tComp1, slots, Option.getD_some, Option.getD_none, tYes, tSeq, tAsg, gName, tOp, tUn, tC, tVar, tCB, tCons, tNil, tCall, rI0, rU, tRet, tIfS, tTest, tB, tOr, tNot, tChain, tNext, rEq, rIsi, rIxL, rIxT, isi_non_bl, isi_non_int, isi_non_str, isi_non_lst, isi_non_tup, isi_bl_bl, isi_bl_int, isi_bl_str, isi_bl_lst, isi_bl_tup, isi_int_bl, isi_int_int, isi_int_str, isi_int_lst, isi_int_tup, isi_str_bl, isi_str_int, isi_str_str, isi_str_lst, isi_str_tup, isi_lst_bl, isi_lst_int, isi_lst_str, isi_lst_lst, isi_lst_tup, isi_tup_bl, isi_tup_int, isi_tup_str, isi_tup_lst, isi_tup_tup, isi_dct_bl, isi_dct_int, isi_dct_str, isi_dct_lst, isi_dct_tup, Kd_non, Kd_bl, Kd_int, Kd_str, sc_non_non, sc_non_int, sc_int_non, sc_non_bl, sc_bl_non, sc_non_str, sc_str_non, sc_int_int, sc_bl_bl, sc_str_str, sc_int_str, sc_str_int, sc_bl_str, sc_str_bl, decide_true, decide_false, tFor_eq, iList, iRng1, tyK_int, tyK_bool, tyK_str, tyK_list, tyK_tuple, L2.start, cxK, Int.reduceToNat, List.map_cons, List.map_nil, List.length_cons, List.length_nil, Nat.reduceAdd, Nat.reduceSub, Nat.zero_add, List.replicate_succ, List.replicate_zero, List.cons_append, List.nil_append, List.append_nil, List.getElem?_cons_zero, List.getElem?_cons_succ, List.set_cons_zero, List.set_cons_succ, Option.some.injEq, V.int.injEq, V.bl.injEq, V.ref.injEq, V.str.injEq, V.ty.injEq, List.cons.injEq, exists_eq_left', exists_eq_left, exists_eq_right, exists_and_left, exists_and_right, and_true, true_and, and_assoc, exists_const, decide_eq_true_eq, Bool.not_eq_true', Bool.not_true, Bool.not_false, Bool.not_not, decide_eq_false_iff_not, ite_not, Bool.false_eq_true, if_true, if_false, reduceCtorEq, and_false, false_and, exists_false, or_false, false_or, ↓reduceIte, eq_self, reduceIte]
    refine ⟨_, e1.seq hrm, _, xat, _, d1, ?_, next _ _ ?_⟩
    · rw [List.length_map, List.length_map]
      refine Nat.lt_of_le_of_lt (m := 64) ?_ (by decide)
      have := rise_len ok.so ok.rg
      rw [List.length_take]
      omega
    · rw [hC]
      refine ⟨_, ?_, same_upd e1 hD _, rfl⟩
      rw [upd_same, List.take_add_one, hx, List.map_append, List.map_append]
      rfl
  intro τ H2 h
  rw [hC] at h
  obtain ⟨z2, d1, e1, rfl⟩ := h
  rw [List.length_map, List.take_length] at d1
  have esum : (ns.map fun x => rooms.getD x.toNat 0).sum = roomS rooms rooms.length (inS ns) := sum_rise (g := fun j => rooms.getD j 0) ok.so ok.rg
  refine ⟨D, rfl, _, SqL.of d1, by omega, by omega, ?_⟩
  rw [esum]
  obtain ⟨Po, hO⟩ : ∃ Po : Nat → St → Hp → Prop, Po = fun k σ H'' => ∃ (z8 : Option V) (sp : Int), H'' = H2 ∧ sp = roomS rooms rooms.length (inS ns) - sumG L (fun e => G.getD e 0) (inS ns) k ∧ σ = [some (.ref c), some (.ref rm), some (.ref l), some (.ref g), some (.int (e : Int)), some (.int b), z, some (.int sp), z8] := ⟨_, rfl⟩
  refine forW_range Po ?_ ?_ ?_
  · rw [hO]
    exact ⟨_, _, rfl, by rw [show sumG L (fun e => G.getD e 0) (inS ns) 0 = 0 from rfl]; omega, rfl⟩
  · intro k σ H'' hk h
    rw [hO] at h
    obtain ⟨z8, sp, rfl, esp, rfl⟩ := h
    have hk' : k < L.length := by omega
    obtain ⟨ek, hek⟩ : ∃ ek, L[k]? = some ek := ⟨_, List.getElem?_eq_getElem hk'⟩
    obtain ⟨tk, qk, b1, b2, b3⟩ := pair_get (pair_same e1 hpa) hek
    have epk : pl L k = ek.1 := by rw [pl, List.getD, hek]; rfl
    have lat : atI us (0 + (k : Int)) = some (.ref tk) := by
      rw [Int.zero_add]
      exact atI_nat b1
    have gat : atI (G.map V.int) (0 + (k : Int)) = some (.int (G.getD k 0)) := by
      have := atI_map (ns := G) (k := (k : Int)) (by omega) (by omega)
      rwa [Int.toNat_natCast, ← Int.zero_add (k : Int)] at this
    simp only [tComp_eq, tComp1, slots, Option.getD_some, Option.getD_none, tYes, tSeq, tAsg, gName, tOp, tUn, tC, tVar, tCB, tCons, tNil, tCall, rI0, rU, tRet, tIfS, tTest, tB, tOr, tNot, tChain, tNext, rEq, rIsi, rIxL, rIxT, isi_non_bl, isi_non_int, isi_non_str, isi_non_lst, isi_non_tup, isi_bl_bl, isi_bl_int, isi_bl_str, isi_bl_lst, isi_bl_tup, isi_int_bl, isi_int_int, isi_int_str, isi_int_lst, isi_int_tup, isi_str_bl, isi_str_int, isi_str_str, isi_str_lst, isi_str_tup, isi_lst_bl, isi_lst_int, isi_lst_str, isi_lst_lst, isi_lst_tup, isi_tup_bl, isi_tup_int, isi_tup_str, isi_tup_lst, isi_tup_tup, isi_dct_bl, isi_dct_int, isi_dct_str, isi_dct_lst, isi_dct_tup, Kd_non, Kd_bl, Kd_int, Kd_str, sc_non_non, sc_non_int, sc_int_non, sc_non_bl, sc_bl_non, sc_non_str, sc_str_non, sc_int_int, sc_bl_bl, sc_str_str, sc_int_str, sc_str_int, sc_bl_str, sc_str_bl, decide_true, decide_false, tFor_eq, iList, iRng1, tyK_int, tyK_bool, tyK_str, tyK_list, tyK_tuple, L2.start, cxK, Int.reduceToNat, List.map_cons, List.map_nil, List.length_cons, List.length_nil, Nat.reduceAdd, Nat.reduceSub, Nat.zero_add, List.replicate_succ, List.replicate_zero, List.cons_append, List.nil_append, List.append_nil, List.getElem?_cons_zero, List.getElem?_cons_succ, List.set_cons_zero, List.set_cons_succ, Option.some.injEq, V.int.injEq, V.bl.injEq, V.ref.injEq, V.str.injEq, V.ty.injEq, List.cons.injEq, exists_eq_left', exists_eq_left, exists_eq_right, exists_and_left, exists_and_right, and_true, true_and, and_assoc, exists_const, decide_eq_true_eq, Bool.not_eq_true', Bool.not_true, Bool.not_false, Bool.not_not, decide_eq_false_iff_not, ite_not, Bool.false_eq_true, if_true, if_false, reduceCtorEq, and_false, false_and, exists_false, or_false, false_or, ↓reduceIte, eq_self, reduceIte]
    refine ⟨us, e1.seq hus, _, lat, tk, rfl, _, b2, _, rfl, qk, c, ek.1, ns, rfl, b3, e1.seq hc, _, rfl, ?_⟩
    by_cases hz : ek.1.all (inS ns) = true
    · rw [if_pos hz]
      refine ⟨_, e1.seq hg, _, gat, _, rfl, ?_⟩
      rw [hO]
      refine ⟨_, _, rfl, ?_, rfl⟩
      unfold sumG at esp ⊢
      rw [sumN_succ, if_pos (by rw [epk]; exact hz)]
      show sp - G.getD k 0 = _ - (_ + G.getD k 0)
      omega
    · rw [if_neg hz, hO]
      refine ⟨_, _, rfl, ?_, rfl⟩
      unfold sumG at esp ⊢
      rw [sumN_succ, if_neg (by rw [epk]; exact hz)]
      omega
  · intro σ H'' h
    rw [hO] at h
    obtain ⟨z8, sp, rfl, esp, rfl⟩ := h
    have s0 : sp = 0 := by
      have := ok.ti
      rw [show ((e : Int) + 1).toNat = e + 1 by omega] at esp
      omega
    simp only [tComp_eq, tComp1, slots, Option.getD_some, Option.getD_none, tYes, tSeq, tAsg, gName, tOp, tUn, tC, tVar, tCB, tCons, tNil, tCall, rI0, rU, tRet, tIfS, tTest, tB, tOr, tNot, tChain, tNext, rEq, rIsi, rIxL, rIxT, isi_non_bl, isi_non_int, isi_non_str, isi_non_lst, isi_non_tup, isi_bl_bl, isi_bl_int, isi_bl_str, isi_bl_lst, isi_bl_tup, isi_int_bl, isi_int_int, isi_int_str, isi_int_lst, isi_int_tup, isi_str_bl, isi_str_int, isi_str_str, isi_str_lst, isi_str_tup, isi_lst_bl, isi_lst_int, isi_lst_str, isi_lst_lst, isi_lst_tup, isi_tup_bl, isi_tup_int, isi_tup_str, isi_tup_lst, isi_tup_tup, isi_dct_bl, isi_dct_int, isi_dct_str, isi_dct_lst, isi_dct_tup, Kd_non, Kd_bl, Kd_int, Kd_str, sc_non_non, sc_non_int, sc_int_non, sc_non_bl, sc_bl_non, sc_non_str, sc_str_non, sc_int_int, sc_bl_bl, sc_str_str, sc_int_str, sc_str_int, sc_bl_str, sc_str_bl, decide_true, decide_false, tFor_eq, iList, iRng1, tyK_int, tyK_bool, tyK_str, tyK_list, tyK_tuple, L2.start, cxK, Int.reduceToNat, List.map_cons, List.map_nil, List.length_cons, List.length_nil, Nat.reduceAdd, Nat.reduceSub, Nat.zero_add, List.replicate_succ, List.replicate_zero, List.cons_append, List.nil_append, List.append_nil, List.getElem?_cons_zero, List.getElem?_cons_succ, List.set_cons_zero, List.set_cons_succ, Option.some.injEq, V.int.injEq, V.bl.injEq, V.ref.injEq, V.str.injEq, V.ty.injEq, List.cons.injEq, exists_eq_left', exists_eq_left, exists_eq_right, exists_and_left, exists_and_right, and_true, true_and, and_assoc, exists_const, decide_eq_true_eq, Bool.not_eq_true', Bool.not_true, Bool.not_false, Bool.not_not, decide_eq_false_iff_not, ite_not, Bool.false_eq_true, if_true, if_false, reduceCtorEq, and_false, false_and, exists_false, or_false, false_or, ↓reduceIte, eq_self, reduceIte]
    rw [s0]
    exact q _ e1
end

end MyL
namespace MyN
open My MyB MyC MyD MyE MyF MyG MyS MyI MyJ MyK MyL PySem L2
def top (i : Nat) : Stmt := PySem.Challenge.pw_tariffgate_k64_cuts.main.body.getD i (.Pass ⟨0, 0, 0, 0⟩)
theorem dn__law_told : (("_law_told" : Str) == ("__debug__" : Str)) = false := by decide
theorem dc__law_told : (("_law_told" : Str) == ("__classdict__" : Str)) = false := by decide
theorem dn_tuple : (("tuple" : Str) == ("__debug__" : Str)) = false := by decide
theorem nn_tuple : ("tuple" : Str) ≠ "__name__" := by decide
theorem dn__law_cut : (("_law_cut" : Str) == ("__debug__" : Str)) = false := by decide
abbrev s_law_fits : Stmt := top 16
theorem sc_law_fits : FnScope ["_law_found", "_law_rooms_here", "_law_line_here", "_law_told", "_law_k"] ["_law_found", "_law_rooms_here", "_law_line_here"] (defScope s_law_fits) := ⟨rfl, rfl, rfl, by decide +kernel, rfl, by decide +kernel, by decide +kernel⟩
theorem v_law_fits_0 : Vis (defScope s_law_fits) "_law_found" := by first | exact Or.inl rfl | exact Or.inr (Or.inl rfl) | exact Or.inr (Or.inr rfl)
theorem v_law_fits_1 : Vis (defScope s_law_fits) "_law_rooms_here" := by first | exact Or.inl rfl | exact Or.inr (Or.inl rfl) | exact Or.inr (Or.inr rfl)
theorem v_law_fits_2 : Vis (defScope s_law_fits) "_law_line_here" := by first | exact Or.inl rfl | exact Or.inr (Or.inl rfl) | exact Or.inr (Or.inr rfl)
theorem v_law_fits_3 : Vis (defScope s_law_fits) "_law_told" := by first | exact Or.inl rfl | exact Or.inr (Or.inl rfl) | exact Or.inr (Or.inr rfl)
theorem l_law_fits_3 : Loc (defScope s_law_fits) "_law_told" := by first | exact Or.inl rfl | exact Or.inr rfl
theorem v_law_fits_4 : Vis (defScope s_law_fits) "_law_k" := by first | exact Or.inl rfl | exact Or.inr (Or.inl rfl) | exact Or.inr (Or.inr rfl)
theorem l_law_fits_4 : Loc (defScope s_law_fits) "_law_k" := by first | exact Or.inl rfl | exact Or.inr rfl
theorem g_law_fits_isinstance : (defScope s_law_fits).names.lookup ("isinstance" : Str) = some .globalImplicit := by rfl
theorem g_law_fits_tuple : (defScope s_law_fits).names.lookup ("tuple" : Str) = some .globalImplicit := by rfl
theorem g_law_fits_len : (defScope s_law_fits).names.lookup ("len" : Str) = some .globalImplicit := by rfl
theorem g_law_fits_list : (defScope s_law_fits).names.lookup ("list" : Str) = some .globalImplicit := by rfl
theorem g_law_fits_range : (defScope s_law_fits).names.lookup ("range" : Str) = some .globalImplicit := by rfl
theorem g_law_fits__law_whole : (defScope s_law_fits).names.lookup ("_law_whole" : Str) = some .globalImplicit := by rfl
theorem g_law_fits__law_cut : (defScope s_law_fits).names.lookup ("_law_cut" : Str) = some .globalImplicit := by rfl

def spFits (K : PySem.W.Frag) : Sp := fun vs H Q _ => ∃ (t rm l ga ra ca : Addr) (rooms lf : List Int) (L : List En) (F : List (List Int)) (ras : List Addr) (cs : List V) (ok : Addr → Prop), vs = [.ref t, .ref rm, .ref l] ∧ Fnd K H t ga ra ca F ras cs ∧ SqL K H rm (rooms.map V.int) ∧ LnAt K H l L ∧ LnOk rooms.length L ∧ cs.length = L.length ∧ Flo L L.length rooms.length rooms F lf ∧ (∀ (e : Nat) (v : V), cs[e]? = some v → CutAt L rooms.length rooms F lf H ok e v) ∧ ∀ H', Same H H' → Q (.bl true) H'
section
variable {P : Program} {w : World} {K : PySem.W.Frag} {mg : Str → Option Value} {base : Heap} {f : Addr} {fd : FuncData}
theorem ok_law_fits (F : Fun K "_law_fits" "_law_fits" s_law_fits f fd) (M : Mg mg) (C_law_whole : Cal P w K mg base CX0 "_law_whole" 1 ["_law_found"] spIsInt) (C_law_cut : Cal P w K mg base CX0 "_law_cut" 2 ["_law_cut_here", "_law_rooms_here", "_law_line_here", "_law_granted", "_law_at"] (spCutL K)) : FnOk P w K mg base CX0 3 f fd ["_law_found", "_law_rooms_here", "_law_line_here"] (spFits K) := by
  refine F.ok sc_law_fits (fun vs H Q E h => ?_) (fun cdv A outer s H vs Q E hr h => ?_)
  · obtain ⟨t, rm, l, ga, ra, ca, rooms, lf, L, F, ras, cs, ok, rfl, _⟩ := h
    rfl
  obtain ⟨t, rm, l, ga, ra, ca, rooms, lf, L, Fl, ras, cs, okc, rfl, fnd, hrm, hL, lok, lcs, flo, cut, q⟩ := h
  refine ⟨_, (@pss_cons _ _ _ _ _ (@ps_if _ _ _ _ _ _ _ _ (@PW.pt _ _ _ (@pw_or _ _ _ _ _ _ _ (@pt_not _ _ _ _ (@pt_val _ _ _ (@pe_callB _ _ _ _ _ _ _ _ _ call_isi g_law_fits_isinstance M.m_isinstance b_isinstance (@pa_cons _ _ _ _ _ (@pe_var _ 0 _ _ rfl v_law_fits_0 dn__law_found dc__law_found) (@pa_cons _ _ _ _ _ (@pe_bltn _ _ (.ty "tuple") _ _ g_law_fits_tuple M.m_tuple b_tuple rfl nn_tuple dn_tuple) (@pa_nil _) (star1 rfl)) (star1 rfl)) nn_isinstance dn_isinstance (star1 rfl) (nost1 rfl nost0)) (test1 rfl))) (@pw_or1 _ _ _ _ (@pt_cmpR _ _ _ _ _ _ _ _ (@op_ne _) (@pe_callB _ _ _ _ _ _ _ _ _ call_len_seq g_law_fits_len M.m_len b_len (@pa_cons _ _ _ _ _ (@pe_var _ 0 _ _ rfl v_law_fits_0 dn__law_found dc__law_found) (@pa_nil _) (star1 rfl)) nn_len dn_len (star1 rfl) nost0) (@pe_int _ _ _ _) (nomark _))))) (@pss_one _ _ _ (@ps_ret _ _ _ _ (@pe_bl _ _ _ _))) (@pss_nil _)) (@pss_cons _ _ _ _ _ (@ps_for _ _ _ _ _ _ _ _ PassesOwn.never rfl (@pi_list _ _ _ _ (@pe_lst _ _ _ _ (@pa_cons _ _ _ _ _ (@pe_ix _ _ _ _ _ _ _ (@ix_tup _) (@pe_var _ 0 _ _ rfl v_law_fits_0 dn__law_found dc__law_found) (@pe_int _ _ _ _) (fun _ _ => rfl)) (@pa_cons _ _ _ _ _ (@pe_ix _ _ _ _ _ _ _ (@ix_tup _) (@pe_var _ 0 _ _ rfl v_law_fits_0 dn__law_found dc__law_found) (@pe_int _ _ _ _) (fun _ _ => rfl)) (@pa_nil _) (star1 rfl)) (star1 rfl)))) (@pg_name _ _ 3 _ sc_law_fits.nd rfl l_law_fits_3 (.inl rfl)) (@pss_one _ _ _ (@ps_if _ _ _ _ _ _ _ _ (@PW.pt _ _ _ (@pw_or _ _ _ _ _ _ _ (@pt_not _ _ _ _ (@pt_val _ _ _ (@pe_callB _ _ _ _ _ _ _ _ _ call_isi g_law_fits_isinstance M.m_isinstance b_isinstance (@pa_cons _ _ _ _ _ (@pe_var _ 3 _ _ rfl v_law_fits_3 dn__law_told dc__law_told) (@pa_cons _ _ _ _ _ (@pe_bltn _ _ (.ty "list") _ _ g_law_fits_list M.m_list b_list rfl nn_list dn_list) (@pa_nil _) (star1 rfl)) (star1 rfl)) nn_isinstance dn_isinstance (star1 rfl) (nost1 rfl nost0)) (test1 rfl))) (@pw_or1 _ _ _ _ (@pt_cmpR _ _ _ _ _ _ _ _ (@op_ne _) (@pe_callB _ _ _ _ _ _ _ _ _ call_len_seq g_law_fits_len M.m_len b_len (@pa_cons _ _ _ _ _ (@pe_var _ 3 _ _ rfl v_law_fits_3 dn__law_told dc__law_told) (@pa_nil _) (star1 rfl)) nn_len dn_len (star1 rfl) nost0) (@pe_callB _ _ _ _ _ _ _ _ _ call_len_seq g_law_fits_len M.m_len b_len (@pa_cons _ _ _ _ _ (@pe_var _ 2 _ _ rfl v_law_fits_2 dn__law_line_here dc__law_line_here) (@pa_nil _) (star1 rfl)) nn_len dn_len (star1 rfl) nost0) (nomark _))))) (@pss_one _ _ _ (@ps_ret _ _ _ _ (@pe_bl _ _ _ _))) (@pss_nil _))) (by intro _; rfl)) (@pss_cons _ _ _ _ _ (@ps_for _ _ _ _ _ _ _ _ PassesOwn.never rfl (@pi_range1 _ _ _ _ _ _ g_law_fits_range M.m_range (@pa_cons _ _ _ _ _ (@pe_callB _ _ _ _ _ _ _ _ _ call_len_seq g_law_fits_len M.m_len b_len (@pa_cons _ _ _ _ _ (@pe_var _ 2 _ _ rfl v_law_fits_2 dn__law_line_here dc__law_line_here) (@pa_nil _) (star1 rfl)) nn_len dn_len (star1 rfl) nost0) (@pa_nil _) (star1 rfl)) (star1' rfl)) (@pg_name _ _ 4 _ sc_law_fits.nd rfl l_law_fits_4 (.inl rfl)) (@pss_cons _ _ _ _ _ (@ps_if _ _ _ _ _ _ _ _ (@PW.pt _ _ _ (@pw_or _ _ _ _ _ _ _ (@pt_not _ _ _ _ (@pt_val _ _ _ (@pe_callC _ _ _ _ _ _ _ _ _ _ _ C_law_whole hr g_law_fits__law_whole (@pa_cons _ _ _ _ _ (@pe_ix _ _ _ _ _ _ _ (@ix_list _) (@pe_ix _ _ _ _ _ _ _ (@ix_tup _) (@pe_var _ 0 _ _ rfl v_law_fits_0 dn__law_found dc__law_found) (@pe_int _ _ _ _) (fun _ _ => rfl)) (@pe_var _ 4 _ _ rfl v_law_fits_4 dn__law_k dc__law_k) (fun _ _ => rfl)) (@pa_nil _) (star1 rfl)) (by decide) dn__law_whole (star1 rfl) nost0) (test1 rfl))) (@pw_or1 _ _ _ _ (@pt_not _ _ _ _ (@pt_chain _ _ _ _ _ _ _ _ _ _ _ _ op_le op_le (@pe_int _ _ _ _) (@pe_ix _ _ _ _ _ _ _ (@ix_list _) (@pe_ix _ _ _ _ _ _ _ (@ix_tup _) (@pe_var _ 0 _ _ rfl v_law_fits_0 dn__law_found dc__law_found) (@pe_int _ _ _ _) (fun _ _ => rfl)) (@pe_var _ 4 _ _ rfl v_law_fits_4 dn__law_k dc__law_k) (fun _ _ => rfl)) (@pe_ix _ _ _ _ _ _ _ (@ix_tup _) (@pe_ix _ _ _ _ _ _ _ (@ix_list _) (@pe_var _ 2 _ _ rfl v_law_fits_2 dn__law_line_here dc__law_line_here) (@pe_var _ 4 _ _ rfl v_law_fits_4 dn__law_k dc__law_k) (fun _ _ => rfl)) (@pe_int _ _ _ _) (fun _ _ => rfl)) (by with_unfolding_all rfl)))))) (@pss_one _ _ _ (@ps_ret _ _ _ _ (@pe_bl _ _ _ _))) (@pss_nil _)) (@pss_cons _ _ _ _ _ (@ps_if _ _ _ _ _ _ _ _ (@PW.pt _ _ _ (@pw_and _ _ _ _ _ _ _ (@pt_cmpR _ _ _ _ _ _ _ _ (@op_eq _) (@pe_ix _ _ _ _ _ _ _ (@ix_list _) (@pe_ix _ _ _ _ _ _ _ (@ix_tup _) (@pe_var _ 0 _ _ rfl v_law_fits_0 dn__law_found dc__law_found) (@pe_int _ _ _ _) (fun _ _ => rfl)) (@pe_var _ 4 _ _ rfl v_law_fits_4 dn__law_k dc__law_k) (fun _ _ => rfl)) (@pe_ix _ _ _ _ _ _ _ (@ix_tup _) (@pe_ix _ _ _ _ _ _ _ (@ix_list _) (@pe_var _ 2 _ _ rfl v_law_fits_2 dn__law_line_here dc__law_line_here) (@pe_var _ 4 _ _ rfl v_law_fits_4 dn__law_k dc__law_k) (fun _ _ => rfl)) (@pe_int _ _ _ _) (fun _ _ => rfl)) (nomark _)) (@pw_and1 _ _ _ _ (@pt_cmpR _ _ _ _ _ _ _ _ op_notN (@pe_ix _ _ _ _ _ _ _ (@ix_list _) (@pe_ix _ _ _ _ _ _ _ (@ix_tup _) (@pe_var _ 0 _ _ rfl v_law_fits_0 dn__law_found dc__law_found) (@pe_int _ _ _ _) (fun _ _ => rfl)) (@pe_var _ 4 _ _ rfl v_law_fits_4 dn__law_k dc__law_k) (fun _ _ => rfl)) (@pe_non _ _ _) (nomark _))))) (@pss_one _ _ _ (@ps_ret _ _ _ _ (@pe_bl _ _ _ _))) (@pss_nil _)) (@pss_one _ _ _ (@ps_if _ _ _ _ _ _ _ _ (@PW.pt _ _ _ (@pw_and _ _ _ _ _ _ _ (@pt_cmpR _ _ _ _ _ _ _ _ (@op_lt _) (@pe_ix _ _ _ _ _ _ _ (@ix_list _) (@pe_ix _ _ _ _ _ _ _ (@ix_tup _) (@pe_var _ 0 _ _ rfl v_law_fits_0 dn__law_found dc__law_found) (@pe_int _ _ _ _) (fun _ _ => rfl)) (@pe_var _ 4 _ _ rfl v_law_fits_4 dn__law_k dc__law_k) (fun _ _ => rfl)) (@pe_ix _ _ _ _ _ _ _ (@ix_tup _) (@pe_ix _ _ _ _ _ _ _ (@ix_list _) (@pe_var _ 2 _ _ rfl v_law_fits_2 dn__law_line_here dc__law_line_here) (@pe_var _ 4 _ _ rfl v_law_fits_4 dn__law_k dc__law_k) (fun _ _ => rfl)) (@pe_int _ _ _ _) (fun _ _ => rfl)) (nomark _)) (@pw_and1 _ _ _ _ (@pt_not _ _ _ _ (@pt_val _ _ _ (@pe_callC _ _ _ _ _ _ _ _ _ _ _ C_law_cut hr g_law_fits__law_cut (@pa_cons _ _ _ _ _ (@pe_ix _ _ _ _ _ _ _ (@ix_list _) (@pe_ix _ _ _ _ _ _ _ (@ix_tup _) (@pe_var _ 0 _ _ rfl v_law_fits_0 dn__law_found dc__law_found) (@pe_int _ _ _ _) (fun _ _ => rfl)) (@pe_var _ 4 _ _ rfl v_law_fits_4 dn__law_k dc__law_k) (fun _ _ => rfl)) (@pa_cons _ _ _ _ _ (@pe_var _ 1 _ _ rfl v_law_fits_1 dn__law_rooms_here dc__law_rooms_here) (@pa_cons _ _ _ _ _ (@pe_var _ 2 _ _ rfl v_law_fits_2 dn__law_line_here dc__law_line_here) (@pa_cons _ _ _ _ _ (@pe_ix _ _ _ _ _ _ _ (@ix_tup _) (@pe_var _ 0 _ _ rfl v_law_fits_0 dn__law_found dc__law_found) (@pe_int _ _ _ _) (fun _ _ => rfl)) (@pa_cons _ _ _ _ _ (@pe_var _ 4 _ _ rfl v_law_fits_4 dn__law_k dc__law_k) (@pa_nil _) (star1 rfl)) (star1 rfl)) (star1 rfl)) (star1 rfl)) (star1 rfl)) (by decide) dn__law_cut (star1 rfl) (nost1 rfl (nost1 rfl (nost1 rfl (nost1 rfl nost0))))) (test1 rfl)))))) (@pss_one _ _ _ (@ps_ret _ _ _ _ (@pe_bl _ _ _ _))) (@pss_nil _))))) (by intro _; rfl)) (@pss_one _ _ _ (@ps_ret _ _ _ _ (@pe_bl _ _ _ _)))))), ?_⟩
  obtain ⟨us, hus, hpa⟩ := id hL
  have lus : us.length = L.length := Paired.length hpa
  have lF : Fl.length = L.length := flo.rows.1
  have l64 := lok.l
  have mo := most_of (K := K) flo lcs cut
  have m60 := lok.m
  simp only [slots, Option.getD_some, Option.getD_none, tSeq, gName, tOp, tC, tVar, tCB, tCons, tNil, tCall, rI0, tRet, tIfS, tTest, tB, tAnd, tOr, tNot, tChain, tLst, tNext, rEq, rNe, rIsi, rIxL, rIxT, isi_non_bl, isi_non_int, isi_non_str, isi_non_lst, isi_non_tup, isi_bl_bl, isi_bl_int, isi_bl_str, isi_bl_lst, isi_bl_tup, isi_int_bl, isi_int_int, isi_int_str, isi_int_lst, isi_int_tup, isi_str_bl, isi_str_int, isi_str_str, isi_str_lst, isi_str_tup, isi_lst_bl, isi_lst_int, isi_lst_str, isi_lst_lst, isi_lst_tup, isi_tup_bl, isi_tup_int, isi_tup_str, isi_tup_lst, isi_tup_tup, isi_dct_bl, isi_dct_int, isi_dct_str, isi_dct_lst, isi_dct_tup, Kd_non, Kd_bl, Kd_int, Kd_str, sc_non_non, sc_non_int, sc_int_non, sc_non_bl, sc_bl_non, sc_non_str, sc_str_non, sc_int_int, sc_bl_bl, sc_str_str, sc_int_str, sc_str_int, sc_bl_str, sc_str_bl, decide_true, decide_false, tFor_eq, iList, iRng1, tyK_int, tyK_bool, tyK_str, tyK_list, tyK_tuple, L2.start, cxK, Int.reduceToNat, List.map_cons, List.map_nil, List.length_cons, List.length_nil, Nat.reduceAdd, Nat.reduceSub, Nat.zero_add, List.replicate_succ, List.replicate_zero, List.cons_append, List.nil_append, List.append_nil, List.getElem?_cons_zero, List.getElem?_cons_succ, List.set_cons_zero, List.set_cons_succ, Option.some.injEq, V.int.injEq, V.bl.injEq, V.ref.injEq, V.str.injEq, V.ty.injEq, List.cons.injEq, exists_eq_left', exists_eq_left, exists_eq_right, exists_and_left, exists_and_right, and_true, true_and, and_assoc, exists_const, decide_eq_true_eq, Bool.not_eq_true', Bool.not_true, Bool.not_false, Bool.not_not, decide_eq_false_iff_not, ite_not, Bool.false_eq_true, if_true, if_false, reduceCtorEq, and_false, false_and, exists_false, or_false, false_or, ↓reduceIte, eq_self, reduceIte]
  refine ⟨.tup, Kd.tup fnd.t, ?_⟩
  rw [if_neg (by decide)]
  refine ⟨_, .inr fnd.t, ?_⟩
  rw [if_pos (by rfl)]
  refine ⟨_, fnd.t, _, rfl, _, fnd.t, _, rfl, by decide, fun p1 hp1 => ?_⟩
  obtain ⟨H1, g1, S1, T1⟩ := fresh_lst (K := K) hp1 [V.ref ga, V.ref ca]
  rw [← g1]
  clear g1
  have fnd1 := fnd.same S1
  refine ⟨⟨_, T1⟩, ?_⟩
  obtain ⟨Pv, hP⟩ : ∃ Pv : Nat → St → Hp → Prop, Pv = fun i σ H' => ∃ z, H' = H1 ∧ σ = [some (.ref t), some (.ref rm), some (.ref l), z, none] := ⟨_, rfl⟩
  refine forW_list _ Pv ?_ (fun i σ H' _ h => by rw [hP] at h; obtain ⟨_, rfl, _⟩ := h; exact T1) ?_ ?_
  · rw [hP]
    exact ⟨_, rfl, rfl⟩
  · intro i v σ H' hv h
    rw [hP] at h
    obtain ⟨z, rfl, rfl⟩ := h
    obtain ⟨a, ys, rfl, ha, lys⟩ : ∃ a ys, v = V.ref a ∧ SqL K H' a ys ∧ ys.length = L.length := by
      rcases i with _ | _ | i
      · cases hv
        exact ⟨_, _, rfl, SqL.of fnd1.g, by rw [List.length_map, List.length_map, lF]⟩
      · cases hv
        exact ⟨_, _, rfl, SqL.of fnd1.c, lcs⟩
      · cases hv
    simp only [slots, Option.getD_some, Option.getD_none, tSeq, gName, tOp, tC, tVar, tCB, tCons, tNil, tCall, rI0, tRet, tIfS, tTest, tB, tAnd, tOr, tNot, tChain, tLst, tNext, rEq, rNe, rIsi, rIxL, rIxT, isi_non_bl, isi_non_int, isi_non_str, isi_non_lst, isi_non_tup, isi_bl_bl, isi_bl_int, isi_bl_str, isi_bl_lst, isi_bl_tup, isi_int_bl, isi_int_int, isi_int_str, isi_int_lst, isi_int_tup, isi_str_bl, isi_str_int, isi_str_str, isi_str_lst, isi_str_tup, isi_lst_bl, isi_lst_int, isi_lst_str, isi_lst_lst, isi_lst_tup, isi_tup_bl, isi_tup_int, isi_tup_str, isi_tup_lst, isi_tup_tup, isi_dct_bl, isi_dct_int, isi_dct_str, isi_dct_lst, isi_dct_tup, Kd_non, Kd_bl, Kd_int, Kd_str, sc_non_non, sc_non_int, sc_int_non, sc_non_bl, sc_bl_non, sc_non_str, sc_str_non, sc_int_int, sc_bl_bl, sc_str_str, sc_int_str, sc_str_int, sc_bl_str, sc_str_bl, decide_true, decide_false, tFor_eq, iList, iRng1, tyK_int, tyK_bool, tyK_str, tyK_list, tyK_tuple, L2.start, cxK, Int.reduceToNat, List.map_cons, List.map_nil, List.length_cons, List.length_nil, Nat.reduceAdd, Nat.reduceSub, Nat.zero_add, List.replicate_succ, List.replicate_zero, List.cons_append, List.nil_append, List.append_nil, List.getElem?_cons_zero, List.getElem?_cons_succ, List.set_cons_zero, List.set_cons_succ, Option.some.injEq, V.int.injEq, V.bl.injEq, V.ref.injEq, V.str.injEq, V.ty.injEq, List.cons.injEq, exists_eq_left', exists_eq_left, exists_eq_right, exists_and_left, exists_and_right, and_true, true_and, and_assoc, exists_const, decide_eq_true_eq, Bool.not_eq_true', Bool.not_true, Bool.not_false, Bool.not_not, decide_eq_false_iff_not, ite_not, Bool.false_eq_true, if_true, if_false, reduceCtorEq, and_false, false_and, exists_false, or_false, false_or, ↓reduceIte, eq_self, reduceIte]
    refine ⟨.lst, Kd.lst ha, ?_⟩
    rw [if_neg (by decide)]
    refine ⟨_, .inl ha, us, .inl (S1.seq hus), ?_⟩
    rw [lys, lus, if_pos rfl, hP]
    exact ⟨_, rfl, rfl⟩
  intro σ H' h
  rw [hP] at h
  obtain ⟨z, rfl, rfl⟩ := h
  clear hP
  simp only [slots, Option.getD_some, Option.getD_none, tSeq, gName, tOp, tC, tVar, tCB, tCons, tNil, tCall, rI0, tRet, tIfS, tTest, tB, tAnd, tOr, tNot, tChain, tLst, tNext, rEq, rNe, rIsi, rIxL, rIxT, isi_non_bl, isi_non_int, isi_non_str, isi_non_lst, isi_non_tup, isi_bl_bl, isi_bl_int, isi_bl_str, isi_bl_lst, isi_bl_tup, isi_int_bl, isi_int_int, isi_int_str, isi_int_lst, isi_int_tup, isi_str_bl, isi_str_int, isi_str_str, isi_str_lst, isi_str_tup, isi_lst_bl, isi_lst_int, isi_lst_str, isi_lst_lst, isi_lst_tup, isi_tup_bl, isi_tup_int, isi_tup_str, isi_tup_lst, isi_tup_tup, isi_dct_bl, isi_dct_int, isi_dct_str, isi_dct_lst, isi_dct_tup, Kd_non, Kd_bl, Kd_int, Kd_str, sc_non_non, sc_non_int, sc_int_non, sc_non_bl, sc_bl_non, sc_non_str, sc_str_non, sc_int_int, sc_bl_bl, sc_str_str, sc_int_str, sc_str_int, sc_bl_str, sc_str_bl, decide_true, decide_false, tFor_eq, iList, iRng1, tyK_int, tyK_bool, tyK_str, tyK_list, tyK_tuple, L2.start, cxK, Int.reduceToNat, List.map_cons, List.map_nil, List.length_cons, List.length_nil, Nat.reduceAdd, Nat.reduceSub, Nat.zero_add, List.replicate_succ, List.replicate_zero, List.cons_append, List.nil_append, List.append_nil, List.getElem?_cons_zero, List.getElem?_cons_succ, List.set_cons_zero, List.set_cons_succ, Option.some.injEq, V.int.injEq, V.bl.injEq, V.ref.injEq, V.str.injEq, V.ty.injEq, List.cons.injEq, exists_eq_left', exists_eq_left, exists_eq_right, exists_and_left, exists_and_right, and_true, true_and, and_assoc, exists_const, decide_eq_true_eq, Bool.not_eq_true', Bool.not_true, Bool.not_false, Bool.not_not, decide_eq_false_iff_not, ite_not, Bool.false_eq_true, if_true, if_false, reduceCtorEq, and_false, false_and, exists_false, or_false, false_or, ↓reduceIte, eq_self, reduceIte]
  refine ⟨us, .inl (S1.seq hus), by omega, by omega, ?_⟩
  rw [lus, Int.toNat_natCast]
  obtain ⟨Po, hO⟩ : ∃ Po : Nat → St → Hp → Prop, Po = fun k σ H' => ∃ (z5 : Option V), Same H H' ∧ σ = [some (.ref t), some (.ref rm), some (.ref l), z, z5] := ⟨_, rfl⟩
  refine forW_range Po ?_ ?_ ?_
  · rw [hO]
    exact ⟨_, S1, rfl⟩
  · intro k σ H3 hk h
    rw [hO] at h
    obtain ⟨z5, e3, rfl⟩ := h
    have fnd3 := fnd.same e3
    obtain ⟨en, hen⟩ : ∃ en, L[k]? = some en := ⟨_, List.getElem?_eq_getElem (by omega)⟩
    obtain ⟨te, qe, a1, a2, a3⟩ := pair_get (pair_same e3 hpa) hen
    have ew : wt L k = en.2 := by rw [wt, List.getD, hen]; rfl
    obtain ⟨cv, hcv⟩ : ∃ cv, cs[k]? = some cv := ⟨_, List.getElem?_eq_getElem (by omega)⟩
    have cutk := cut k cv hcv
    have nn := mo.nn k hk
    have le := mo.le k hk
    have er : (Fl.map List.sum).getD k 0 = rowS Fl k := sum_at
    rw [er] at nn le
    have gat : atI ((Fl.map List.sum).map V.int) (0 + (k : Int)) = some (.int (rowS Fl k)) := by
      have := atI_map (ns := Fl.map List.sum) (k := (k : Int)) (by omega) (by rw [List.length_map]; omega)
      rwa [Int.toNat_natCast, ← Int.zero_add (k : Int), er] at this
    have cat : atI cs (0 + (k : Int)) = some cv := by
      rw [Int.zero_add]
      exact atI_nat hcv
    have lat : atI us (0 + (k : Int)) = some (.ref te) := by
      rw [Int.zero_add]
      exact atI_nat a1
    have ft := fnd3.t
    have fg := SqL.of (K := K) fnd3.g
    have fc := SqL.of (K := K) fnd3.c
    have hus3 := e3.seq hus
    rw [← ew] at a2
    simp only [slots, Option.getD_some, Option.getD_none, tSeq, gName, tOp, tC, tVar, tCB, tCons, tNil, tCall, rI0, tRet, tIfS, tTest, tB, tAnd, tOr, tNot, tChain, tLst, tNext, rEq, rNe, rIsi, rIxL, rIxT, isi_non_bl, isi_non_int, isi_non_str, isi_non_lst, isi_non_tup, isi_bl_bl, isi_bl_int, isi_bl_str, isi_bl_lst, isi_bl_tup, isi_int_bl, isi_int_int, isi_int_str, isi_int_lst, isi_int_tup, isi_str_bl, isi_str_int, isi_str_str, isi_str_lst, isi_str_tup, isi_lst_bl, isi_lst_int, isi_lst_str, isi_lst_lst, isi_lst_tup, isi_tup_bl, isi_tup_int, isi_tup_str, isi_tup_lst, isi_tup_tup, isi_dct_bl, isi_dct_int, isi_dct_str, isi_dct_lst, isi_dct_tup, Kd_non, Kd_bl, Kd_int, Kd_str, sc_non_non, sc_non_int, sc_int_non, sc_non_bl, sc_bl_non, sc_non_str, sc_str_non, sc_int_int, sc_bl_bl, sc_str_str, sc_int_str, sc_str_int, sc_bl_str, sc_str_bl, decide_true, decide_false, tFor_eq, iList, iRng1, tyK_int, tyK_bool, tyK_str, tyK_list, tyK_tuple, L2.start, cxK, Int.reduceToNat, List.map_cons, List.map_nil, List.length_cons, List.length_nil, Nat.reduceAdd, Nat.reduceSub, Nat.zero_add, List.replicate_succ, List.replicate_zero, List.cons_append, List.nil_append, List.append_nil, List.getElem?_cons_zero, List.getElem?_cons_succ, List.set_cons_zero, List.set_cons_succ, Option.some.injEq, V.int.injEq, V.bl.injEq, V.ref.injEq, V.str.injEq, V.ty.injEq, List.cons.injEq, exists_eq_left', exists_eq_left, exists_eq_right, exists_and_left, exists_and_right, and_true, true_and, and_assoc, exists_const, decide_eq_true_eq, Bool.not_eq_true', Bool.not_true, Bool.not_false, Bool.not_not, decide_eq_false_iff_not, ite_not, Bool.false_eq_true, if_true, if_false, reduceCtorEq, and_false, false_and, exists_false, or_false, false_or, ↓reduceIte, eq_self, reduceIte]
    refine ⟨_, ft, _, rfl, ga, rfl, _, fg, _, gat, _, rfl, true, rfl, ?_⟩
    rw [if_neg (by decide)]
    refine ⟨_, ft, _, rfl, ga, rfl, _, fg, _, gat, _, rfl, ?_⟩
    rw [if_pos nn]
    refine ⟨us, hus3, _, lat, te, rfl, _, a2, _, rfl, _, rfl, _, rfl, ?_⟩
    rw [if_pos le]
    refine ⟨_, ft, _, rfl, ga, rfl, _, fg, _, gat, us, hus3, _, lat, te, rfl, _, a2, _, rfl, ?_⟩
    refine ⟨rfl, ?_⟩
    have done : Po (k + 1) [some (V.ref t), some (V.ref rm), some (V.ref l), z, some (V.int (0 + (k : Int)))] H3 := by
      rw [hO]
      exact ⟨_, e3, rfl⟩
    rcases cutk with ⟨c1, c2⟩ | ⟨c, ns, c1, _, c3, c4, c5, c6, _, c7, c8⟩
    · subst c1
      rw [c2, if_pos rfl]
      rw [c2] at gat
      refine ⟨_, ft, _, rfl, ca, rfl, _, fc, _, cat, ?_⟩
      rw [if_pos rfl]
      refine ⟨_, ft, _, rfl, ga, rfl, _, fg, _, gat, us, hus3, _, lat, te, rfl, _, a2, _, rfl, _, rfl, _, rfl, ?_⟩
      rw [if_neg (Int.lt_irrefl _)]
      exact done
    · subst c1
      rw [if_neg (fun y => by have := V.int.inj y; omega)]
      refine ⟨_, ft, _, rfl, ga, rfl, _, fg, _, gat, us, hus3, _, lat, te, rfl, _, a2, _, rfl, _, rfl, _, rfl, ?_⟩
      rw [if_pos c4]
      refine ⟨_, ft, _, rfl, ca, rfl, _, fc, _, cat, _, ft, _, rfl, c, rm, l, ga, k, ns, rooms, Fl.map List.sum, L, by rw [Int.zero_add], SqL.of (e3 _ _ c3), e3.seq hrm, hL.same e3, fg, hk, mo.len, l64, by omega, ⟨c5, c6, c7, ?_⟩, fun H4 e4 => ⟨true, rfl, ?_⟩⟩
      · rw [c8]
        exact sumG_congr fun e _ => sum_at.symm
      · rw [if_neg (by decide), hO]
        exact ⟨_, e3.trans e4, rfl⟩
  · intro σ H3 h
    rw [hO] at h
    obtain ⟨z5, e3, rfl⟩ := h
    simp only [slots, Option.getD_some, Option.getD_none, tSeq, gName, tOp, tC, tVar, tCB, tCons, tNil, tCall, rI0, tRet, tIfS, tTest, tB, tAnd, tOr, tNot, tChain, tLst, tNext, rEq, rNe, rIsi, rIxL, rIxT, isi_non_bl, isi_non_int, isi_non_str, isi_non_lst, isi_non_tup, isi_bl_bl, isi_bl_int, isi_bl_str, isi_bl_lst, isi_bl_tup, isi_int_bl, isi_int_int, isi_int_str, isi_int_lst, isi_int_tup, isi_str_bl, isi_str_int, isi_str_str, isi_str_lst, isi_str_tup, isi_lst_bl, isi_lst_int, isi_lst_str, isi_lst_lst, isi_lst_tup, isi_tup_bl, isi_tup_int, isi_tup_str, isi_tup_lst, isi_tup_tup, isi_dct_bl, isi_dct_int, isi_dct_str, isi_dct_lst, isi_dct_tup, Kd_non, Kd_bl, Kd_int, Kd_str, sc_non_non, sc_non_int, sc_int_non, sc_non_bl, sc_bl_non, sc_non_str, sc_str_non, sc_int_int, sc_bl_bl, sc_str_str, sc_int_str, sc_str_int, sc_bl_str, sc_str_bl, decide_true, decide_false, tFor_eq, iList, iRng1, tyK_int, tyK_bool, tyK_str, tyK_list, tyK_tuple, L2.start, cxK, Int.reduceToNat, List.map_cons, List.map_nil, List.length_cons, List.length_nil, Nat.reduceAdd, Nat.reduceSub, Nat.zero_add, List.replicate_succ, List.replicate_zero, List.cons_append, List.nil_append, List.append_nil, List.getElem?_cons_zero, List.getElem?_cons_succ, List.set_cons_zero, List.set_cons_succ, Option.some.injEq, V.int.injEq, V.bl.injEq, V.ref.injEq, V.str.injEq, V.ty.injEq, List.cons.injEq, exists_eq_left', exists_eq_left, exists_eq_right, exists_and_left, exists_and_right, and_true, true_and, and_assoc, exists_const, decide_eq_true_eq, Bool.not_eq_true', Bool.not_true, Bool.not_false, Bool.not_not, decide_eq_false_iff_not, ite_not, Bool.false_eq_true, if_true, if_false, reduceCtorEq, and_false, false_and, exists_false, or_false, false_or, ↓reduceIte, eq_self, reduceIte]
    exact q _ e3
end

end MyN
namespace MyP
open My MyB MyC MyD MyE MyF MyG MyS MyI MyJ MyK MyL MyN PySem L2
def top (i : Nat) : Stmt := PySem.Challenge.pw_tariffgate_k64_cuts.main.body.getD i (.Pass ⟨0, 0, 0, 0⟩)
theorem dn__law_cuts : (("_law_cuts" : Str) == ("__debug__" : Str)) = false := by decide
theorem dc__law_cuts : (("_law_cuts" : Str) == ("__classdict__" : Str)) = false := by decide
theorem dn__law_some : (("_law_some" : Str) == ("__debug__" : Str)) = false := by decide
theorem dc__law_some : (("_law_some" : Str) == ("__classdict__" : Str)) = false := by decide
theorem dn__law_kept : (("_law_kept" : Str) == ("__debug__" : Str)) = false := by decide
theorem dc__law_kept : (("_law_kept" : Str) == ("__classdict__" : Str)) = false := by decide
abbrev s_law_apart : Stmt := top 17
theorem sc_law_apart : FnScope ["_law_cuts", "_law_cell_here", "_law_some", "_law_at", "_law_kept"] ["_law_cuts", "_law_cell_here"] (defScope s_law_apart) := ⟨rfl, rfl, rfl, by decide +kernel, rfl, by decide +kernel, by decide +kernel⟩
theorem v_law_apart_0 : Vis (defScope s_law_apart) "_law_cuts" := by first | exact Or.inl rfl | exact Or.inr (Or.inl rfl) | exact Or.inr (Or.inr rfl)
theorem v_law_apart_1 : Vis (defScope s_law_apart) "_law_cell_here" := by first | exact Or.inl rfl | exact Or.inr (Or.inl rfl) | exact Or.inr (Or.inr rfl)
theorem v_law_apart_2 : Vis (defScope s_law_apart) "_law_some" := by first | exact Or.inl rfl | exact Or.inr (Or.inl rfl) | exact Or.inr (Or.inr rfl)
theorem l_law_apart_2 : Loc (defScope s_law_apart) "_law_some" := by first | exact Or.inl rfl | exact Or.inr rfl
theorem v_law_apart_3 : Vis (defScope s_law_apart) "_law_at" := by first | exact Or.inl rfl | exact Or.inr (Or.inl rfl) | exact Or.inr (Or.inr rfl)
theorem l_law_apart_3 : Loc (defScope s_law_apart) "_law_at" := by first | exact Or.inl rfl | exact Or.inr rfl
theorem v_law_apart_4 : Vis (defScope s_law_apart) "_law_kept" := by first | exact Or.inl rfl | exact Or.inr (Or.inl rfl) | exact Or.inr (Or.inr rfl)
theorem l_law_apart_4 : Loc (defScope s_law_apart) "_law_kept" := by first | exact Or.inl rfl | exact Or.inr rfl
theorem g_law_apart_range : (defScope s_law_apart).names.lookup ("range" : Str) = some .globalImplicit := by rfl
theorem g_law_apart_len : (defScope s_law_apart).names.lookup ("len" : Str) = some .globalImplicit := by rfl

def Flt (n : Nat) (d : PyData) : Prop := d.canLay0 = true ∧ d.depth ≤ n
theorem flt_all {n : Nat} : ∀ {ds : List PyData}, (∀ d ∈ ds, Flt n d) → PyData.canLayAll0 ds = true ∧ PyData.depthAll ds ≤ n
  | [], _ => ⟨rfl, Nat.zero_le _⟩
  | d :: ds, h => by
    obtain ⟨a, b⟩ := h d List.mem_cons_self
    obtain ⟨c, e⟩ := flt_all fun x hx => h x (List.mem_cons_of_mem _ hx)
    refine ⟨?_, ?_⟩
    · show (PyData.canLay0 d && PyData.canLayAll0 ds) = true
      rw [a, c]
      rfl
    · show max (PyData.depth d) (PyData.depthAll ds) ≤ n
      omega
theorem flt_list {n : Nat} {ds : List PyData} (h : ∀ d ∈ ds, Flt n d) : Flt (n + 1) (.list ds) := ⟨(flt_all h).1, Nat.succ_le_succ (flt_all h).2⟩
theorem flt_tup {n : Nat} {ds : List PyData} (h : ∀ d ∈ ds, Flt n d) : Flt (n + 1) (.tuple ds) := ⟨(flt_all h).1, Nat.succ_le_succ (flt_all h).2⟩
theorem flt_int {n : Nat} (i : Int) : Flt n (.int i) := ⟨rfl, Nat.zero_le _⟩
theorem flt_flat {n : Nat} {d : PyData} (h : Flt n d) (hn : n ≤ 40) : flatD d := ⟨h.1, Nat.le_trans h.2 hn⟩
theorem flt_map {α : Type} {n : Nat} {g : α → PyData} {l : List α} (h : ∀ x ∈ l, Flt n (g x)) : ∀ d ∈ l.map g, Flt n d := fun d hd => by
  obtain ⟨x, hx, rfl⟩ := List.mem_map.mp hd
  exact h x hx
theorem flt_two {n : Nat} {a b : PyData} (ha : Flt n a) (hb : Flt n b) : ∀ d ∈ [a, b], Flt n d := fun d hd => by
  rcases List.mem_cons.mp hd with rfl | hd
  · exact ha
  · rw [List.mem_singleton.mp hd]
    exact hb
theorem rep_pair {α : Type} {K : PySem.W.Frag} {H : Hp} {R : V → α → Prop} {g : α → PyData} (h : ∀ v y, R v y → Rep K H v (g y)) : ∀ {us : List V} {ys : List α}, Paired R us ys → RepAll K H us (ys.map g)
  | _, _, .nil => .nil
  | _, _, .cons r t => .cons (h _ _ r) (rep_pair h t)
theorem rep_ints {K : PySem.W.Frag} {H : Hp} : ∀ ns : List Int, RepAll K H (ns.map V.int) (ns.map PyData.int)
  | [] => .nil
  | n :: ns => .cons (.int n) (rep_ints ns)
theorem rep_nats {K : PySem.W.Frag} {H : Hp} : ∀ ns : List Nat, RepAll K H (ns.map fun j : Nat => V.int (j : Int)) (ns.map fun j : Nat => PyData.int (j : Int))
  | [] => .nil
  | n :: ns => .cons (.int n) (rep_nats ns)
def enD (e : En) : PyData := .tuple [.list (e.1.map fun j : Nat => PyData.int (j : Int)), .int e.2]
def lnD (L : List En) : PyData := .list (L.map enD)
def intsD (ns : List Int) : PyData := .list (ns.map PyData.int)
theorem flt_en (e : En) : Flt 2 (enD e) := flt_tup (flt_two (flt_list (flt_map fun j _ => flt_int _)) (flt_int _))
theorem flt_ln (L : List En) : Flt 3 (lnD L) := flt_list (flt_map fun e _ => flt_en e)
theorem flt_ints (ns : List Int) : Flt 1 (intsD ns) := flt_list (flt_map fun j _ => flt_int _)
theorem flt_up {n m : Nat} {d : PyData} (h : Flt n d) (hm : n ≤ m) : Flt m d := ⟨h.1, Nat.le_trans h.2 hm⟩
theorem rep_ln {K : PySem.W.Frag} {H : Hp} {l : Addr} {L : List En} (h : LnAt K H l L) : Rep K H (.ref l) (lnD L) := by
  obtain ⟨us, a, b⟩ := h
  refine .lst a (rep_pair (fun v e => ?_) b)
  rintro ⟨t, q, rfl, h1, h2⟩
  exact .tup h1 (.cons (.lst h2 (rep_nats _)) (.cons (.int _) .nil))
theorem rep_rooms {K : PySem.W.Frag} {H : Hp} {a : Addr} {ns : List Int} (h : SqL K H a (ns.map V.int)) : Rep K H (.ref a) (intsD ns) := .lst h (rep_ints ns)
theorem new_lst {H : Hp} {p : Addr} (h : H p = none) (xs : List V) : ∃ H1, H1 = upd H p (.lst xs) ∧ Same H H1 ∧ H1 p = some (.lst xs) := ⟨_, rfl, same_new h _, upd_same⟩
theorem cut_from {xs : List V} {n : Nat} : cutV xs (some (n : Int)) none = xs.drop n := by
  unfold cutV
  rw [HT.sIx_none, HT.sIx_nat]
  rcases Nat.le_total n xs.length with h | h
  · rw [Nat.min_eq_left h, ← List.length_drop, List.take_length]
  · rw [Nat.min_eq_right h, Nat.sub_self, List.take_zero, List.drop_eq_nil_of_le h]
theorem small {n : Nat} (h : n ≤ 1000) : n ≤ sizeLine := Nat.le_trans h (by decide)
theorem pair_drop {α β : Type} {R : α → β → Prop} : ∀ {xs : List α} {ys : List β} (k : Nat), Paired R xs ys → Paired R (xs.drop k) (ys.drop k)
  | _, _, 0, h => h
  | _, _, _ + 1, .nil => .nil
  | _, _, k + 1, .cons r t => by rw [List.drop_succ_cons, List.drop_succ_cons]; exact pair_drop k t
theorem pair_take {α β : Type} {R : α → β → Prop} : ∀ {xs : List α} {ys : List β} (k : Nat), Paired R xs ys → Paired R (xs.take k) (ys.take k)
  | _, _, 0, _ => by rw [List.take_zero, List.take_zero]; exact .nil
  | _, _, _ + 1, .nil => .nil
  | _, _, k + 1, .cons r t => by rw [List.take_succ_cons, List.take_succ_cons]; exact .cons r (pair_take k t)
theorem pair_app {α β : Type} {R : α → β → Prop} {x2 : List α} {y2 : List β} (h2 : Paired R x2 y2) : ∀ {xs : List α} {ys : List β}, Paired R xs ys → Paired R (xs ++ x2) (ys ++ y2)
  | _, _, .nil => h2
  | _, _, .cons r t => .cons r (pair_app h2 t)

def spApart (K : PySem.W.Frag) : Sp := fun vs H Q _ => ∃ (ca : Addr) (cs : List V) (c : Int), vs = [.ref ca, .int c] ∧ H ca = some (.lst cs) ∧ cs.length ≤ 64 ∧ (∀ (e : Nat) (v : V), cs[e]? = some v → v = .non ∨ ∃ (a : Addr) (ns : List Int), v = .ref a ∧ H a = some (.lst (ns.map V.int)) ∧ ns.length ≤ 64 ∧ a ≠ ca) ∧ (∀ (e e' : Nat) (a : Addr), cs[e]? = some (V.ref a) → cs[e']? = some (V.ref a) → e = e') ∧ ∀ H', Q (.bl true) H'
section
variable {P : Program} {w : World} {K : PySem.W.Frag} {mg : Str → Option Value} {base : Heap} {f : Addr} {fd : FuncData}
theorem ok_law_apart (F : Fun K "_law_apart" "_law_apart" s_law_apart f fd) (M : Mg mg) : FnOk P w K mg base CX0 1 f fd ["_law_cuts", "_law_cell_here"] (spApart K) := by
  refine F.ok sc_law_apart (fun vs H Q E h => ?_) (fun cdv A outer s H vs Q E hr h => ?_)
  · obtain ⟨ca, cs, c, rfl, _⟩ := h
    rfl
  obtain ⟨ca, cs, c, rfl, hca, l64, cut, sep, q⟩ := h
  refine ⟨_, (@pss_cons _ _ _ _ _ (@ps_setComp _ _ _ _ _ _ _ _ _ _ _ _ _ _ _ 2 _ _ _ sc_law_apart.nd rfl l_law_apart_2 rfl (CompOk.make (N' := ["_law_cuts", "_law_k"]) (ix := [0]) (nl := 1) (by rfl) (fm1 rfl fm0) (by rfl) (by decide +kernel) rfl (by decide +kernel) rfl (And.intro ⟨rfl, .inl rfl, .inl rfl⟩ True.intro)) (@pi_range1 _ _ _ _ _ _ g_law_apart_range M.m_range (@pa_cons _ _ _ _ _ (@pe_callB _ _ _ _ _ _ _ _ _ call_len_seq g_law_apart_len M.m_len b_len (@pa_cons _ _ _ _ _ (@pe_var _ 0 _ _ rfl v_law_apart_0 dn__law_cuts dc__law_cuts) (@pa_nil _) (star1 rfl)) nn_len dn_len (star1 rfl) nost0) (@pa_nil _) (star1 rfl)) (star1' rfl)) (fun _ _ _ _ _ => (@pg_name _ _ 1 _ (show List.Nodup (["_law_cuts", "_law_k"] : List Str) from by decide) rfl (Or.inl rfl) (by first | exact .inl rfl | exact .inr rfl | assumption))) (fun _ _ _ _ _ => (@pif_one _ _ _ (@pt_cmpR _ _ _ _ _ _ _ _ op_notN (@pe_ix _ _ _ _ _ _ _ (@ix_listK _ K rfl) (@pv _ 0 _ _ (by rfl) (by first | exact Or.inl rfl | exact Or.inr (Or.inl rfl) | exact Or.inr (Or.inr rfl)) (by decide) (by decide)) (@pv _ 1 _ _ (by rfl) (by first | exact Or.inl rfl | exact Or.inr (Or.inl rfl) | exact Or.inr (Or.inr rfl)) (by decide) (by decide)) (fun _ _ => rfl)) (@pe_non _ _ _) (nomark _)))) (fun _ _ _ _ _ => (@pv _ 1 _ _ (by rfl) (by first | exact Or.inl rfl | exact Or.inr (Or.inl rfl) | exact Or.inr (Or.inr rfl)) (by decide) (by decide))) (by rfl) (by intro _; rfl) (by first | exact .inl rfl | exact .inr rfl | assumption)) (@pss_cons _ _ _ _ _ (@ps_if _ _ _ _ _ _ _ _ (@pt_cmpR _ _ _ _ _ _ _ _ (@op_eq _) (@pe_callB _ _ _ _ _ _ _ _ _ call_len_seq g_law_apart_len M.m_len b_len (@pa_cons _ _ _ _ _ (@pe_var _ 2 _ _ rfl v_law_apart_2 dn__law_some dc__law_some) (@pa_nil _) (star1 rfl)) nn_len dn_len (star1 rfl) nost0) (@pe_int _ _ _ _) (nomark _)) (@pss_one _ _ _ (@ps_ret _ _ _ _ (@pe_bl _ _ _ _))) (@pss_nil _)) (@pss_cons _ _ _ _ _ (@ps_set _ _ 3 _ _ _ _ sc_law_apart.nd rfl l_law_apart_3 (@pe_ix _ _ _ _ _ _ _ (@ix_list _) (@pe_var _ 2 _ _ rfl v_law_apart_2 dn__law_some dc__law_some) (@pe_op _ _ _ _ _ _ _ _ (@op_mod _) (@pe_var _ 1 _ _ rfl v_law_apart_1 dn__law_cell_here dc__law_cell_here) (@pe_callB _ _ _ _ _ _ _ _ _ call_len_seq g_law_apart_len M.m_len b_len (@pa_cons _ _ _ _ _ (@pe_var _ 2 _ _ rfl v_law_apart_2 dn__law_some dc__law_some) (@pa_nil _) (star1 rfl)) nn_len dn_len (star1 rfl) nost0)) (fun _ _ => rfl)) (swap1 rfl) (.inl rfl)) (@pss_cons _ _ _ _ _ (@ps_setComp _ _ _ _ _ _ _ _ _ _ _ _ _ _ _ 4 _ _ _ sc_law_apart.nd rfl l_law_apart_4 rfl (CompOk.make (N' := ["_law_cuts", "_law_at", "_law_k"]) (ix := [0, 3]) (nl := 1) (by rfl) (fm1 rfl (fm1 rfl fm0)) (by rfl) (by decide +kernel) rfl (by decide +kernel) rfl (And.intro ⟨rfl, .inl rfl, .inl rfl⟩ (And.intro ⟨rfl, .inl rfl, .inl rfl⟩ True.intro))) (@pi_list _ _ _ _ (@pe_var _ 2 _ _ rfl v_law_apart_2 dn__law_some dc__law_some)) (fun _ _ _ _ _ => (@pg_name _ _ 2 _ (show List.Nodup (["_law_cuts", "_law_at", "_law_k"] : List Str) from by decide) rfl (Or.inl rfl) (by first | exact .inl rfl | exact .inr rfl | assumption))) (fun _ _ _ _ _ => (@pif_one _ _ _ (@pt_cmpR _ _ _ _ _ _ _ _ (@op_ne _) (@pv _ 2 _ _ (by rfl) (by first | exact Or.inl rfl | exact Or.inr (Or.inl rfl) | exact Or.inr (Or.inr rfl)) (by decide) (by decide)) (@pv _ 1 _ _ (by rfl) (by first | exact Or.inl rfl | exact Or.inr (Or.inl rfl) | exact Or.inr (Or.inr rfl)) (by decide) (by decide)) (nomark _)))) (fun _ _ _ _ _ => (@pe_callTy _ _ _ _ _ _ _ _ _ (call_listLK (K := K) rfl) rfl M.m_list b_list (@pa_cons _ _ _ _ _ (@pe_ix _ _ _ _ _ _ _ (@ix_listK _ K rfl) (@pv _ 0 _ _ (by rfl) (by first | exact Or.inl rfl | exact Or.inr (Or.inl rfl) | exact Or.inr (Or.inr rfl)) (by decide) (by decide)) (@pv _ 2 _ _ (by rfl) (by first | exact Or.inl rfl | exact Or.inr (Or.inl rfl) | exact Or.inr (Or.inr rfl)) (by decide) (by decide)) (fun _ _ => rfl)) (@pa_nil _) (star1 rfl)) nn_list dn_list (star1 rfl) nost0)) (by rfl) (by intro _; rfl) (by first | exact .inl rfl | exact .inr rfl | assumption)) (@pss_cons _ _ _ _ _ (@ps_expr _ _ _ _ (@pe_bm _ _ _ _ _ _ _ _ _ _ _ _ PySem.F.plainAttrs_list PySem.F.slot_list_append PySem.F.type_list_append mt_append (@pe_ix _ _ _ _ _ _ _ (@ix_list _) (@pe_var _ 0 _ _ rfl v_law_apart_0 dn__law_cuts dc__law_cuts) (@pe_var _ 3 _ _ rfl v_law_apart_3 dn__law_at dc__law_at) (fun _ _ => rfl)) (@pa_cons _ _ _ _ _ (@pe_int _ _ _ _) (@pa_nil _) (star1 rfl)) (by rfl) (by rfl) (by rfl) (by rfl) (by rfl)) (swap1 rfl)) (@pss_one _ _ _ (@ps_ret _ _ _ _ (@pe_cmpR _ _ _ _ _ _ _ _ (op_eqD (hu60 hr)) (@pe_comp _ _ _ _ _ _ _ _ _ _ _ _ _ _ _ rfl (CompOk.make (N' := ["_law_cuts", "_law_at", "_law_k"]) (ix := [0, 3]) (nl := 1) (by rfl) (fm1 rfl (fm1 rfl fm0)) (by rfl) (by decide +kernel) rfl (by decide +kernel) rfl (And.intro ⟨rfl, .inl rfl, .inl rfl⟩ (And.intro ⟨rfl, .inl rfl, .inl rfl⟩ True.intro))) (@pi_list _ _ _ _ (@pe_var _ 2 _ _ rfl v_law_apart_2 dn__law_some dc__law_some)) (fun _ _ _ _ _ => (@pg_name _ _ 2 _ (show List.Nodup (["_law_cuts", "_law_at", "_law_k"] : List Str) from by decide) rfl (Or.inl rfl) (by first | exact .inl rfl | exact .inr rfl | assumption))) (fun _ _ _ _ _ => (@pif_one _ _ _ (@pt_cmpR _ _ _ _ _ _ _ _ (@op_ne _) (@pv _ 2 _ _ (by rfl) (by first | exact Or.inl rfl | exact Or.inr (Or.inl rfl) | exact Or.inr (Or.inr rfl)) (by decide) (by decide)) (@pv _ 1 _ _ (by rfl) (by first | exact Or.inl rfl | exact Or.inr (Or.inl rfl) | exact Or.inr (Or.inr rfl)) (by decide) (by decide)) (nomark _)))) (fun _ _ _ _ _ => (@pe_ix _ _ _ _ _ _ _ (@ix_listK _ K rfl) (@pv _ 0 _ _ (by rfl) (by first | exact Or.inl rfl | exact Or.inr (Or.inl rfl) | exact Or.inr (Or.inr rfl)) (by decide) (by decide)) (@pv _ 2 _ _ (by rfl) (by first | exact Or.inl rfl | exact Or.inr (Or.inl rfl) | exact Or.inr (Or.inr rfl)) (by decide) (by decide)) (fun _ _ => rfl))) (by intro _; rfl)) (@pe_var _ 4 _ _ rfl v_law_apart_4 dn__law_kept dc__law_kept) (nomark _))))))))), ?_⟩
  simp only [tComp_eq, tComp1, slots, Option.getD_some, Option.getD_none, tSeq, tAsg, gName, tOp, tC, tVar, tCB, tCons, tNil, rI, tRet, tIfS, tTest, tDrop, tNext, tBM, rAppend, rEq, rNe, rIxL, Kd_non, Kd_bl, Kd_int, Kd_str, sc_non_non, sc_non_int, sc_int_non, sc_non_bl, sc_bl_non, sc_non_str, sc_str_non, sc_int_int, sc_bl_bl, sc_str_str, sc_int_str, sc_str_int, sc_bl_str, sc_str_bl, decide_true, decide_false, iList, iRng1, L2.start, cxK, Int.reduceToNat, List.map_cons, List.map_nil, List.length_cons, List.length_nil, Nat.reduceAdd, Nat.reduceSub, Nat.zero_add, List.replicate_succ, List.replicate_zero, List.cons_append, List.nil_append, List.append_nil, List.getElem?_cons_zero, List.getElem?_cons_succ, List.set_cons_zero, List.set_cons_succ, Option.some.injEq, V.int.injEq, V.bl.injEq, V.ref.injEq, V.str.injEq, V.ty.injEq, List.cons.injEq, exists_eq_left', exists_eq_left, exists_eq_right, exists_and_left, exists_and_right, and_true, true_and, and_assoc, exists_const, decide_eq_true_eq, Bool.not_eq_true', Bool.not_true, Bool.not_false, Bool.not_not, decide_eq_false_iff_not, ite_not, Bool.false_eq_true, if_true, if_false, reduceCtorEq, and_false, false_and, exists_false, or_false, false_or, ↓reduceIte, eq_self, reduceIte]
  refine ⟨_, .inl (SqL.of hca), by omega, by omega, fun D hD => ?_⟩
  rw [Int.toNat_natCast]
  obtain ⟨Pc, hC⟩ : ∃ Pc : Nat → St → Hp → Prop, Pc = fun i τ H' => ∃ (z : Option V), H' D = some (.lst (((List.range i).filter fun k => decide (cs[k]? ≠ some .non)).map fun j : Nat => V.int (j : Int))) ∧ Same H H' ∧ τ = [some (.ref ca), z] := ⟨_, rfl⟩
  refine compS_range Pc ?_ ?_ ?_
  · rw [hC]
    exact ⟨_, upd_same, same_new hD _, rfl⟩
  · intro i τ H1 R' hi h next
    rw [hC] at h
    obtain ⟨z, d1, e1, rfl⟩ := h
    obtain ⟨v, hv⟩ : ∃ v, cs[i]? = some v := ⟨_, List.getElem?_eq_getElem hi⟩
    have vat : atI cs (0 + (i : Int)) = some v := by
      rw [Int.zero_add]
      exact atI_nat hv
    have ep : (List.range (i + 1)).filter (fun k => decide (cs[k]? ≠ some .non)) = (List.range i).filter (fun k => decide (cs[k]? ≠ some .non)) ++ [i].filter (fun k => decide (cs[k]? ≠ some .non)) := by
      rw [List.range_succ, List.filter_append]
    have ll : ((List.range i).filter fun k => decide (cs[k]? ≠ some .non)).length ≤ i := by
      refine Nat.le_trans (List.length_filter_le ..) ?_
      rw [List.length_range]
      exact Nat.le_refl _
    simp only [tComp_eq, tComp1, slots, Option.getD_some, Option.getD_none, tSeq, tAsg, gName, tOp, tC, tVar, tCB, tCons, tNil, rI, tRet, tIfS, tTest, tDrop, tNext, tBM, rAppend, rEq, rNe, rIxL, Kd_non, Kd_bl, Kd_int, Kd_str, sc_non_non, sc_non_int, sc_int_non, sc_non_bl, sc_bl_non, sc_non_str, sc_str_non, sc_int_int, sc_bl_bl, sc_str_str, sc_int_str, sc_str_int, sc_bl_str, sc_str_bl, decide_true, decide_false, iList, iRng1, L2.start, cxK, Int.reduceToNat, List.map_cons, List.map_nil, List.length_cons, List.length_nil, Nat.reduceAdd, Nat.reduceSub, Nat.zero_add, List.replicate_succ, List.replicate_zero, List.cons_append, List.nil_append, List.append_nil, List.getElem?_cons_zero, List.getElem?_cons_succ, List.set_cons_zero, List.set_cons_succ, Option.some.injEq, V.int.injEq, V.bl.injEq, V.ref.injEq, V.str.injEq, V.ty.injEq, List.cons.injEq, exists_eq_left', exists_eq_left, exists_eq_right, exists_and_left, exists_and_right, and_true, true_and, and_assoc, exists_const, decide_eq_true_eq, Bool.not_eq_true', Bool.not_true, Bool.not_false, Bool.not_not, decide_eq_false_iff_not, ite_not, Bool.false_eq_true, if_true, if_false, reduceCtorEq, and_false, false_and, exists_false, or_false, false_or, ↓reduceIte, eq_self, reduceIte]
    refine ⟨_, SqL.of (e1 _ _ hca), _, vat, ?_⟩
    by_cases hz : v = V.non
    · rw [if_pos hz]
      refine next _ _ ?_
      rw [hC]
      refine ⟨_, ?_, e1, rfl⟩
      rw [ep, List.filter_cons_of_neg (by rw [hv, hz]; simp), List.filter_nil, List.append_nil]
      exact d1
    · rw [if_neg hz]
      refine ⟨_, d1, by rw [List.length_map]; exact Nat.lt_of_lt_of_le (m := 1000) (by omega) (by decide), next _ _ ?_⟩
      rw [hC]
      refine ⟨_, ?_, same_upd e1 hD _, rfl⟩
      rw [upd_same, ep, List.filter_cons_of_pos (by rw [hv]; simpa using hz), List.filter_nil, List.map_append, Int.zero_add]
      rfl
  intro τ H1 h
  rw [hC] at h
  obtain ⟨z, d1, e1, rfl⟩ := h
  clear hC
  obtain ⟨I, hI⟩ : ∃ I : List Nat, I = (List.range cs.length).filter fun k => decide (cs[k]? ≠ some .non) := ⟨_, rfl⟩
  rw [← hI] at d1
  have Iok : ∀ k ∈ I, k < cs.length ∧ ∃ (a : Addr) (ns : List Int), cs[k]? = some (.ref a) ∧ H a = some (.lst (ns.map V.int)) ∧ ns.length ≤ 64 ∧ a ≠ ca := fun k hk => by
    rw [hI] at hk
    obtain ⟨m1, m2⟩ := List.mem_filter.mp hk
    have m1 := List.mem_range.mp m1
    obtain ⟨v, hv⟩ : ∃ v, cs[k]? = some v := ⟨_, List.getElem?_eq_getElem m1⟩
    have m2 := of_decide_eq_true m2
    rcases cut k v hv with rfl | ⟨a, ns, rfl, h1, h2, h3⟩
    · exact absurd hv m2
    · exact ⟨m1, a, ns, hv, h1, h2, h3⟩
  have lI : I.length ≤ 64 := by
    rw [hI]
    refine Nat.le_trans (List.length_filter_le ..) ?_
    rw [List.length_range]
    exact l64
  clear hI
  refine ⟨D, rfl, _, .inl (SqL.of d1), ?_⟩
  rw [List.length_map]
  by_cases hz : (I.length : Int) = 0
  · rw [if_pos hz]
    exact q _
  rw [if_neg hz]
  have l0 : 0 < (I.length : Int) := by omega
  have x0 := Int.emod_nonneg c (show (I.length : Int) ≠ 0 by omega)
  have x1 := Int.emod_lt_of_pos c l0
  obtain ⟨G, hG⟩ : ∃ G : Nat → List Int, ∀ k, k ∈ I → ∃ a : Addr, cs[k]? = some (.ref a) ∧ H a = some (.lst ((G k).map V.int)) ∧ (G k).length ≤ 64 ∧ a ≠ ca := by
    refine (Classical.skolem (b := fun _ : Nat => List Int) (p := fun (k : Nat) (g : List Int) => k ∈ I → ∃ a : Addr, cs[k]? = some (.ref a) ∧ H a = some (.lst (g.map V.int)) ∧ g.length ≤ 64 ∧ a ≠ ca)).mp fun k => ?_
    by_cases hk : k ∈ I
    · obtain ⟨_, a, ns, h1, h2, h3, h4⟩ := Iok k hk
      exact ⟨ns, fun _ => ⟨a, h1, h2, h3, h4⟩⟩
    · exact ⟨[], fun z => absurd z hk⟩
  obtain ⟨k0, hk0, ek0⟩ : ∃ k0, k0 ∈ I ∧ (I.map fun j : Nat => V.int (j : Int))[(c % (I.length : Int)).toNat]? = some (.int (k0 : Int)) := by
    have hl : (c % (I.length : Int)).toNat < I.length := by omega
    exact ⟨I[(c % (I.length : Int)).toNat], List.getElem_mem hl, by rw [List.getElem?_map, List.getElem?_eq_getElem hl]; rfl⟩
  have kat : atI (I.map fun j : Nat => V.int (j : Int)) (c % (I.length : Int)) = some (.int (k0 : Int)) := by
    rw [show c % (I.length : Int) = (((c % (I.length : Int)).toNat : Nat) : Int) by omega]
    exact atI_nat ek0
  refine ⟨D, rfl, _, .inl (SqL.of d1), ?_⟩
  rw [List.length_map]
  refine ⟨l0, D, rfl, _, SqL.of d1, _, kat, D, rfl, ⟨_, SqL.of d1⟩, fun D2 hD2 => ?_⟩
  have lt1 : ∀ i, ((I.take i).filter (fun k => decide (k ≠ k0))).length ≤ 64 := fun i => by
    refine Nat.le_trans (List.length_filter_le ..) ?_
    rw [List.length_take]
    omega
  have ep : ∀ i k, I[i]? = some k → (I.take (i + 1)).filter (fun k => decide (k ≠ k0)) = (I.take i).filter (fun k => decide (k ≠ k0)) ++ [k].filter (fun k => decide (k ≠ k0)) := fun i k hk => by
    rw [List.take_add_one, hk, List.filter_append]
    rfl
  have cat : ∀ (k : Nat) (a : Addr), cs[k]? = some (V.ref a) → atI cs (k : Int) = some (.ref a) := fun k a h => atI_nat h
  obtain ⟨Pc, hC⟩ : ∃ Pc : Nat → St → Hp → Prop, Pc = fun i τ H' => ∃ (ws : List V) (z : Option V), H' D2 = some (.lst ws) ∧ Paired (fun v (k : Nat) => ∃ b, v = V.ref b ∧ H' b = some (.lst ((G k).map V.int)) ∧ b ≠ D2 ∧ H1 b = none) ws ((I.take i).filter fun k => decide (k ≠ k0)) ∧ Same H1 H' ∧ τ = [some (.ref ca), some (.int (k0 : Int)), z] := ⟨_, rfl⟩
  refine compS_list (I.map fun j : Nat => V.int (j : Int)) Pc ?_ (fun i τ H' _ h => by rw [hC] at h; obtain ⟨_, _, _, _, e, _⟩ := h; exact SqL.of (e _ _ d1)) ?_ ?_
  · rw [hC]
    exact ⟨[], _, upd_same, .nil, same_new hD2 _, rfl⟩
  · intro i x τ H' R' hx h next
    rw [hC] at h
    obtain ⟨ws, z, dw, pr, e, rfl⟩ := h
    rw [List.getElem?_map] at hx
    obtain ⟨k, hk, rfl⟩ := Option.map_eq_some_iff.mp hx
    have lw := lt1 i
    rw [← Paired.length pr] at lw
    obtain ⟨a, h1, h2, h3, h4⟩ := hG k (List.mem_of_getElem? hk)
    simp only [tComp_eq, tComp1, slots, Option.getD_some, Option.getD_none, tSeq, tAsg, gName, tOp, tC, tVar, tCB, tCons, tNil, rI, tRet, tIfS, tTest, tDrop, tNext, tBM, rAppend, rEq, rNe, rIxL, Kd_non, Kd_bl, Kd_int, Kd_str, sc_non_non, sc_non_int, sc_int_non, sc_non_bl, sc_bl_non, sc_non_str, sc_str_non, sc_int_int, sc_bl_bl, sc_str_str, sc_int_str, sc_str_int, sc_bl_str, sc_str_bl, decide_true, decide_false, iList, iRng1, L2.start, cxK, Int.reduceToNat, List.map_cons, List.map_nil, List.length_cons, List.length_nil, Nat.reduceAdd, Nat.reduceSub, Nat.zero_add, List.replicate_succ, List.replicate_zero, List.cons_append, List.nil_append, List.append_nil, List.getElem?_cons_zero, List.getElem?_cons_succ, List.set_cons_zero, List.set_cons_succ, Option.some.injEq, V.int.injEq, V.bl.injEq, V.ref.injEq, V.str.injEq, V.ty.injEq, List.cons.injEq, exists_eq_left', exists_eq_left, exists_eq_right, exists_and_left, exists_and_right, and_true, true_and, and_assoc, exists_const, decide_eq_true_eq, Bool.not_eq_true', Bool.not_true, Bool.not_false, Bool.not_not, decide_eq_false_iff_not, ite_not, Bool.false_eq_true, if_true, if_false, reduceCtorEq, and_false, false_and, exists_false, or_false, false_or, ↓reduceIte, eq_self, reduceIte]
    by_cases hz : (k : Int) = (k0 : Int)
    · have hz' : k = k0 := by omega
      simp only [hz, if_true, rNe, sc_int_int]
      refine next _ _ ?_
      rw [hC]
      refine ⟨ws, _, dw, ?_, e, rfl⟩
      rw [ep i k hk, List.filter_cons_of_neg (by simpa using hz'), List.filter_nil, List.append_nil]
      exact pr
    · have hz' : ¬ k = k0 := by omega
      simp only [hz, if_false, rNe, sc_int_int]
      refine ⟨_, SqL.of ((e1.trans e) _ _ hca), _, cat k a h1, a, rfl, _, SqL.of ((e1.trans e) _ _ h2), fun b hb => ?_⟩
      have bD : b ≠ D2 := fun z => by rw [z, dw] at hb; cases hb
      obtain ⟨H4, g4, S4', T4⟩ := new_lst hb ((G k).map V.int)
      rw [← g4]
      clear g4
      have d4 := S4' _ _ dw
      refine ⟨_, d4, Nat.lt_of_lt_of_le (m := 1000) (by omega) (by decide), next _ _ ?_⟩
      rw [hC]
      refine ⟨ws ++ [.ref b], _, upd_same, ?_, same_upd (e.trans S4') hD2 _, rfl⟩
      rw [ep i k hk, List.filter_cons_of_pos (by simpa using hz'), List.filter_nil]
      refine pair_snoc ?_ (Paired.mapP pr fun v row => ?_)
      · exact ⟨b, rfl, by rw [upd_ne bD]; exact T4, bD, none_of e hb⟩
      · rintro ⟨b', h1, h2, h3, h4⟩
        exact ⟨b', h1, by rw [upd_ne h3]; exact S4' _ _ h2, h3, h4⟩
  intro τ H2 h
  rw [hC] at h
  obtain ⟨ws, z2, dw, pr, e2, rfl⟩ := h
  clear hC
  rw [List.length_map, List.take_length] at pr
  obtain ⟨a0, p1, p2, p3, p4⟩ := hG k0 hk0
  have e12 := e1.trans e2
  refine ⟨_, _, rfl, SqL.of (e12 _ _ hca), _, cat k0 a0 p1, .inl ⟨rfl, _, SqL.of (e12 _ _ p2)⟩, a0, rfl, _, e12 _ _ p2, Nat.lt_of_le_of_lt (m := 64) (by rw [List.length_map]; exact p3) (by decide), ?_⟩
  obtain ⟨H3, g3⟩ : ∃ H3, H3 = upd H2 a0 (.lst ((G k0).map V.int ++ [V.int 0])) := ⟨_, rfl⟩
  have ne : ∀ {b : Addr} {u : HO}, H2 b = some u → b ≠ a0 → H3 b = some u := fun h1 h2 => by rw [g3, upd_ne h2]; exact h1
  have n1 : D ≠ a0 := fun y => by rw [y, p2] at hD; cases hD
  have n2 : D2 ≠ a0 := fun y => by rw [y, e1 _ _ p2] at hD2; cases hD2
  have n3 : ca ≠ a0 := Ne.symm p4
  rw [← g3]
  have d3 := ne (e2 _ _ d1) n1
  have ca3 := ne (e12 _ _ hca) n3
  have dw3 := ne dw n2
  have pr3 : Paired (fun v (k : Nat) => ∃ b, v = V.ref b ∧ H3 b = some (.lst ((G k).map V.int))) ws (I.filter fun k => decide (k ≠ k0)) := Paired.mapP pr fun v k => by
    rintro ⟨b, h1, h2, h3, h4⟩
    refine ⟨b, h1, ne h2 fun y => ?_⟩
    rw [y, e1 _ _ p2] at h4
    cases h4
  have hG3 : ∀ k, k ∈ I → k ≠ k0 → ∃ a : Addr, cs[k]? = some (.ref a) ∧ H3 a = some (.lst ((G k).map V.int)) := fun k hk hn => by
    obtain ⟨a, h1, h2, h3, h4⟩ := hG k hk
    refine ⟨a, h1, ne (e12 _ _ h2) fun y => ?_⟩
    rw [y] at h1
    exact hn (sep k k0 a0 h1 p1)
  clear g3 ne
  refine ⟨D, rfl, ⟨_, SqL.of d3⟩, fun D3 hD3 => ?_⟩
  obtain ⟨Pc, hC⟩ : ∃ Pc : Nat → St → Hp → Prop, Pc = fun i τ H' => ∃ (vs : List V) (z : Option V), H' D3 = some (.lst vs) ∧ Paired (fun v (k : Nat) => ∃ b, v = V.ref b ∧ H3 b = some (.lst ((G k).map V.int))) vs ((I.take i).filter fun k => decide (k ≠ k0)) ∧ Same H3 H' ∧ τ = [some (.ref ca), some (.int (k0 : Int)), z] := ⟨_, rfl⟩
  refine compS_list (I.map fun j : Nat => V.int (j : Int)) Pc ?_ (fun i τ H' _ h => by rw [hC] at h; obtain ⟨_, _, _, _, e, _⟩ := h; exact SqL.of (e _ _ d3)) ?_ ?_
  · rw [hC]
    exact ⟨[], _, upd_same, .nil, same_new hD3 _, rfl⟩
  · intro i x τ H' R' hx h next
    rw [hC] at h
    obtain ⟨vs, z, dv, pv, e, rfl⟩ := h
    rw [List.getElem?_map] at hx
    obtain ⟨k, hk, rfl⟩ := Option.map_eq_some_iff.mp hx
    have lw := lt1 i
    rw [← Paired.length pv] at lw
    simp only [tComp_eq, tComp1, slots, Option.getD_some, Option.getD_none, tSeq, tAsg, gName, tOp, tC, tVar, tCB, tCons, tNil, rI, tRet, tIfS, tTest, tDrop, tNext, tBM, rAppend, rEq, rNe, rIxL, Kd_non, Kd_bl, Kd_int, Kd_str, sc_non_non, sc_non_int, sc_int_non, sc_non_bl, sc_bl_non, sc_non_str, sc_str_non, sc_int_int, sc_bl_bl, sc_str_str, sc_int_str, sc_str_int, sc_bl_str, sc_str_bl, decide_true, decide_false, iList, iRng1, L2.start, cxK, Int.reduceToNat, List.map_cons, List.map_nil, List.length_cons, List.length_nil, Nat.reduceAdd, Nat.reduceSub, Nat.zero_add, List.replicate_succ, List.replicate_zero, List.cons_append, List.nil_append, List.append_nil, List.getElem?_cons_zero, List.getElem?_cons_succ, List.set_cons_zero, List.set_cons_succ, Option.some.injEq, V.int.injEq, V.bl.injEq, V.ref.injEq, V.str.injEq, V.ty.injEq, List.cons.injEq, exists_eq_left', exists_eq_left, exists_eq_right, exists_and_left, exists_and_right, and_true, true_and, and_assoc, exists_const, decide_eq_true_eq, Bool.not_eq_true', Bool.not_true, Bool.not_false, Bool.not_not, decide_eq_false_iff_not, ite_not, Bool.false_eq_true, if_true, if_false, reduceCtorEq, and_false, false_and, exists_false, or_false, false_or, ↓reduceIte, eq_self, reduceIte]
    by_cases hz : (k : Int) = (k0 : Int)
    · have hz' : k = k0 := by omega
      simp only [hz, if_true, rNe, sc_int_int]
      refine next _ _ ?_
      rw [hC]
      refine ⟨vs, _, dv, ?_, e, rfl⟩
      rw [ep i k hk, List.filter_cons_of_neg (by simpa using hz'), List.filter_nil, List.append_nil]
      exact pv
    · have hz' : ¬ k = k0 := by omega
      obtain ⟨a, h1, h2⟩ := hG3 k (List.mem_of_getElem? hk) hz'
      simp only [hz, if_false, rNe, sc_int_int]
      refine ⟨_, SqL.of (e _ _ ca3), _, cat k a h1, _, dv, Nat.lt_of_lt_of_le (m := 1000) (by omega) (by decide), next _ _ ?_⟩
      rw [hC]
      refine ⟨vs ++ [.ref a], _, upd_same, ?_, same_upd e hD3 _, rfl⟩
      rw [ep i k hk, List.filter_cons_of_pos (by simpa using hz'), List.filter_nil]
      exact pair_snoc ⟨a, rfl, h2⟩ pv
  intro τ H4 h
  rw [hC] at h
  obtain ⟨vs, z4, dv, pv, e4, rfl⟩ := h
  rw [List.length_map, List.take_length] at pv
  have fd := flt_flat (flt_list (n := 1) (flt_map (l := I.filter fun k => decide (k ≠ k0)) (g := fun k => intsD (G k)) fun k _ => flt_ints _)) (by decide)
  refine ⟨_, _, .lst (SqL.of dv) (rep_pair (g := fun k => intsD (G k)) (fun v k => ?_) pv), .lst (SqL.of (e4 _ _ dw3)) (rep_pair (g := fun k => intsD (G k)) (fun v k => ?_) pr3), fd, fd, ?_⟩
  · rintro ⟨b, rfl, h1⟩
    exact rep_rooms (SqL.of (e4 _ _ h1))
  · rintro ⟨b, rfl, h1⟩
    exact rep_rooms (SqL.of (e4 _ _ h1))
  · rw [SeqAt.eqv_refl _ fd.1]
    exact q _
end

end MyP
namespace MyO
open My MyB MyC MyD MyE MyF MyG MyS MyI MyJ MyK MyL MyN MyP PySem L2
def top (i : Nat) : Stmt := PySem.Challenge.pw_tariffgate_k64_cuts.main.body.getD i (.Pass ⟨0, 0, 0, 0⟩)
theorem dn__law_handed : (("_law_handed" : Str) == ("__debug__" : Str)) = false := by decide
theorem dc__law_handed : (("_law_handed" : Str) == ("__classdict__" : Str)) = false := by decide
theorem dn__law_more : (("_law_more" : Str) == ("__debug__" : Str)) = false := by decide
theorem dc__law_more : (("_law_more" : Str) == ("__classdict__" : Str)) = false := by decide
theorem dn__law_other : (("_law_other" : Str) == ("__debug__" : Str)) = false := by decide
theorem dc__law_other : (("_law_other" : Str) == ("__classdict__" : Str)) = false := by decide
theorem dn__law_rooms : (("_law_rooms" : Str) == ("__debug__" : Str)) = false := by decide
theorem dn__law_line : (("_law_line" : Str) == ("__debug__" : Str)) = false := by decide
theorem dn_served : (("served" : Str) == ("__debug__" : Str)) = false := by decide
theorem dn__law_copy : (("_law_copy" : Str) == ("__debug__" : Str)) = false := by decide
theorem dn__law_fits : (("_law_fits" : Str) == ("__debug__" : Str)) = false := by decide
theorem dn__law_apart : (("_law_apart" : Str) == ("__debug__" : Str)) = false := by decide
abbrev s_law : Stmt := top 18
theorem sc_law : FnScope ["_law_script", "_law_rooms_here", "_law_line_here", "_law_handed", "_law_found", "_law_cell_here", "_law_places", "_law_some", "_law_at", "_law_more", "_law_other", "_law_cut_here"] ["_law_script"] (defScope s_law) := ⟨rfl, rfl, rfl, by decide +kernel, rfl, by decide +kernel, by decide +kernel⟩
theorem v_law_0 : Vis (defScope s_law) "_law_script" := by first | exact Or.inl rfl | exact Or.inr (Or.inl rfl) | exact Or.inr (Or.inr rfl)
theorem v_law_1 : Vis (defScope s_law) "_law_rooms_here" := by first | exact Or.inl rfl | exact Or.inr (Or.inl rfl) | exact Or.inr (Or.inr rfl)
theorem l_law_1 : Loc (defScope s_law) "_law_rooms_here" := by first | exact Or.inl rfl | exact Or.inr rfl
theorem v_law_2 : Vis (defScope s_law) "_law_line_here" := by first | exact Or.inl rfl | exact Or.inr (Or.inl rfl) | exact Or.inr (Or.inr rfl)
theorem l_law_2 : Loc (defScope s_law) "_law_line_here" := by first | exact Or.inl rfl | exact Or.inr rfl
theorem v_law_3 : Vis (defScope s_law) "_law_handed" := by first | exact Or.inl rfl | exact Or.inr (Or.inl rfl) | exact Or.inr (Or.inr rfl)
theorem l_law_3 : Loc (defScope s_law) "_law_handed" := by first | exact Or.inl rfl | exact Or.inr rfl
theorem v_law_4 : Vis (defScope s_law) "_law_found" := by first | exact Or.inl rfl | exact Or.inr (Or.inl rfl) | exact Or.inr (Or.inr rfl)
theorem l_law_4 : Loc (defScope s_law) "_law_found" := by first | exact Or.inl rfl | exact Or.inr rfl
theorem v_law_5 : Vis (defScope s_law) "_law_cell_here" := by first | exact Or.inl rfl | exact Or.inr (Or.inl rfl) | exact Or.inr (Or.inr rfl)
theorem l_law_5 : Loc (defScope s_law) "_law_cell_here" := by first | exact Or.inl rfl | exact Or.inr rfl
theorem v_law_6 : Vis (defScope s_law) "_law_places" := by first | exact Or.inl rfl | exact Or.inr (Or.inl rfl) | exact Or.inr (Or.inr rfl)
theorem l_law_6 : Loc (defScope s_law) "_law_places" := by first | exact Or.inl rfl | exact Or.inr rfl
theorem v_law_7 : Vis (defScope s_law) "_law_some" := by first | exact Or.inl rfl | exact Or.inr (Or.inl rfl) | exact Or.inr (Or.inr rfl)
theorem l_law_7 : Loc (defScope s_law) "_law_some" := by first | exact Or.inl rfl | exact Or.inr rfl
theorem v_law_8 : Vis (defScope s_law) "_law_at" := by first | exact Or.inl rfl | exact Or.inr (Or.inl rfl) | exact Or.inr (Or.inr rfl)
theorem l_law_8 : Loc (defScope s_law) "_law_at" := by first | exact Or.inl rfl | exact Or.inr rfl
theorem v_law_9 : Vis (defScope s_law) "_law_more" := by first | exact Or.inl rfl | exact Or.inr (Or.inl rfl) | exact Or.inr (Or.inr rfl)
theorem l_law_9 : Loc (defScope s_law) "_law_more" := by first | exact Or.inl rfl | exact Or.inr rfl
theorem v_law_10 : Vis (defScope s_law) "_law_other" := by first | exact Or.inl rfl | exact Or.inr (Or.inl rfl) | exact Or.inr (Or.inr rfl)
theorem l_law_10 : Loc (defScope s_law) "_law_other" := by first | exact Or.inl rfl | exact Or.inr rfl
theorem v_law_11 : Vis (defScope s_law) "_law_cut_here" := by first | exact Or.inl rfl | exact Or.inr (Or.inl rfl) | exact Or.inr (Or.inr rfl)
theorem l_law_11 : Loc (defScope s_law) "_law_cut_here" := by first | exact Or.inl rfl | exact Or.inr rfl
theorem g_law__law_rooms : (defScope s_law).names.lookup ("_law_rooms" : Str) = some .globalImplicit := by rfl
theorem g_law__law_line : (defScope s_law).names.lookup ("_law_line" : Str) = some .globalImplicit := by rfl
theorem g_law_len : (defScope s_law).names.lookup ("len" : Str) = some .globalImplicit := by rfl
theorem g_law_list : (defScope s_law).names.lookup ("list" : Str) = some .globalImplicit := by rfl
theorem g_law__law_copy : (defScope s_law).names.lookup ("_law_copy" : Str) = some .globalImplicit := by rfl
theorem g_law_served : (defScope s_law).names.lookup ("served" : Str) = some .globalImplicit := by rfl
theorem g_law__law_fits : (defScope s_law).names.lookup ("_law_fits" : Str) = some .globalImplicit := by rfl
theorem g_law__law_cell : (defScope s_law).names.lookup ("_law_cell" : Str) = some .globalImplicit := by rfl
theorem g_law_range : (defScope s_law).names.lookup ("range" : Str) = some .globalImplicit := by rfl
theorem g_law_min : (defScope s_law).names.lookup ("min" : Str) = some .globalImplicit := by rfl
theorem g_law_sum : (defScope s_law).names.lookup ("sum" : Str) = some .globalImplicit := by rfl
theorem g_law__law_apart : (defScope s_law).names.lookup ("_law_apart" : Str) = some .globalImplicit := by rfl

section
variable {P : Program} {w : World} {K : PySem.W.Frag} {mg : Str → Option Value} {base : Heap} {f : Addr} {fd : FuncData}
theorem ok_law (F : Fun K "law" "law" s_law f fd) (M : Mg mg) (C_served : Cal P w K mg base CX0 "served" 4 ["rooms", "line"] (spServed K)) (C_law_cell : Cal P w K mg base CX0 "_law_cell" 1 ["_law_script", "_law_k"] (spCell K)) (C_law_rooms : Cal P w K mg base CX0 "_law_rooms" 2 ["_law_script"] (spRooms K)) (C_law_line : Cal P w K mg base CX0 "_law_line" 2 ["_law_script", "_law_many"] (spLine K)) (C_law_copy : Cal P w K mg base CX0 "_law_copy" 1 ["_law_line_here"] (spCopy K)) (C_law_fits : Cal P w K mg base CX0 "_law_fits" 3 ["_law_found", "_law_rooms_here", "_law_line_here"] (spFits K)) (C_law_apart : Cal P w K mg base CX0 "_law_apart" 1 ["_law_cuts", "_law_cell_here"] (spApart K)) : FnOk P w K mg base CX0 5 f fd ["_law_script"] (spLaw K) := by
  refine F.ok sc_law (fun vs H Q E h => ?_) (fun cdv A outer s H vs Q E hr h => ?_)
  · obtain ⟨a, ns, rfl, _⟩ := h
    rfl
  obtain ⟨a, ns, rfl, hS, n63, q⟩ := h
  refine ⟨_, (@pss_cons _ _ _ _ _ (@ps_set _ _ 1 _ _ _ _ sc_law.nd rfl l_law_1 (@pe_callC _ _ _ _ _ _ _ _ _ _ _ C_law_rooms hr g_law__law_rooms (@pa_cons _ _ _ _ _ (@pe_var _ 0 _ _ rfl v_law_0 dn__law_script dc__law_script) (@pa_nil _) (star1 rfl)) (by decide) dn__law_rooms (star1 rfl) nost0) (swap1 rfl) (.inl rfl)) (@pss_cons _ _ _ _ _ (@ps_set _ _ 2 _ _ _ _ sc_law.nd rfl l_law_2 (@pe_callC _ _ _ _ _ _ _ _ _ _ _ C_law_line hr g_law__law_line (@pa_cons _ _ _ _ _ (@pe_var _ 0 _ _ rfl v_law_0 dn__law_script dc__law_script) (@pa_cons _ _ _ _ _ (@pe_callB _ _ _ _ _ _ _ _ _ call_len_seq g_law_len M.m_len b_len (@pa_cons _ _ _ _ _ (@pe_var _ 1 _ _ rfl v_law_1 dn__law_rooms_here dc__law_rooms_here) (@pa_nil _) (star1 rfl)) nn_len dn_len (star1 rfl) nost0) (@pa_nil _) (star1 rfl)) (star1 rfl)) (by decide) dn__law_line (star1 rfl) (nost1 rfl nost0)) (swap1 rfl) (.inl rfl)) (@pss_cons _ _ _ _ _ (@ps_set _ _ 3 _ _ _ _ sc_law.nd rfl l_law_3 (@pe_lst _ _ _ _ (@pa_cons _ _ _ _ _ (@pe_callTy _ _ _ _ _ _ _ _ _ call_listL g_law_list M.m_list b_list (@pa_cons _ _ _ _ _ (@pe_var _ 1 _ _ rfl v_law_1 dn__law_rooms_here dc__law_rooms_here) (@pa_nil _) (star1 rfl)) nn_list dn_list (star1 rfl) nost0) (@pa_cons _ _ _ _ _ (@pe_callC _ _ _ _ _ _ _ _ _ _ _ C_law_copy hr g_law__law_copy (@pa_cons _ _ _ _ _ (@pe_var _ 2 _ _ rfl v_law_2 dn__law_line_here dc__law_line_here) (@pa_nil _) (star1 rfl)) (by decide) dn__law_copy (star1 rfl) nost0) (@pa_nil _) (star1 rfl)) (star1 rfl))) (swap1 rfl) (.inl rfl)) (@pss_cons _ _ _ _ _ (@ps_set _ _ 4 _ _ _ _ sc_law.nd rfl l_law_4 (@pe_callC _ _ _ _ _ _ _ _ _ _ _ C_served hr g_law_served (@pa_cons _ _ _ _ _ (@pe_ix _ _ _ _ _ _ _ (@ix_list _) (@pe_var _ 3 _ _ rfl v_law_3 dn__law_handed dc__law_handed) (@pe_int _ _ _ _) (fun _ _ => rfl)) (@pa_cons _ _ _ _ _ (@pe_ix _ _ _ _ _ _ _ (@ix_list _) (@pe_var _ 3 _ _ rfl v_law_3 dn__law_handed dc__law_handed) (@pe_int _ _ _ _) (fun _ _ => rfl)) (@pa_nil _) (star1 rfl)) (star1 rfl)) (by decide) dn_served (star1 rfl) (nost1 rfl nost0)) (swap1 rfl) (.inl rfl)) (@pss_cons _ _ _ _ _ (@ps_if _ _ _ _ _ _ _ _ (@PW.pt _ _ _ (@pw_or _ _ _ _ _ _ _ (@pt_not _ _ _ _ (@pt_val _ _ _ (@pe_callC _ _ _ _ _ _ _ _ _ _ _ C_law_fits hr g_law__law_fits (@pa_cons _ _ _ _ _ (@pe_var _ 4 _ _ rfl v_law_4 dn__law_found dc__law_found) (@pa_cons _ _ _ _ _ (@pe_var _ 1 _ _ rfl v_law_1 dn__law_rooms_here dc__law_rooms_here) (@pa_cons _ _ _ _ _ (@pe_var _ 2 _ _ rfl v_law_2 dn__law_line_here dc__law_line_here) (@pa_nil _) (star1 rfl)) (star1 rfl)) (star1 rfl)) (by decide) dn__law_fits (star1 rfl) (nost1 rfl (nost1 rfl nost0))) (test1 rfl))) (@pw_or1 _ _ _ _ (@pt_cmpR _ _ _ _ _ _ _ _ (op_neD (hu60 hr)) (@pe_var _ 3 _ _ rfl v_law_3 dn__law_handed dc__law_handed) (@pe_lst _ _ _ _ (@pa_cons _ _ _ _ _ (@pe_var _ 1 _ _ rfl v_law_1 dn__law_rooms_here dc__law_rooms_here) (@pa_cons _ _ _ _ _ (@pe_var _ 2 _ _ rfl v_law_2 dn__law_line_here dc__law_line_here) (@pa_nil _) (star1 rfl)) (star1 rfl))) (nomark _))))) (@pss_one _ _ _ (@ps_ret _ _ _ _ (@pe_bl _ _ _ _))) (@pss_nil _)) (@pss_cons _ _ _ _ _ (@ps_set _ _ 5 _ _ _ _ sc_law.nd rfl l_law_5 (@pe_callC _ _ _ _ _ _ _ _ _ _ _ C_law_cell hr g_law__law_cell (@pa_cons _ _ _ _ _ (@pe_var _ 0 _ _ rfl v_law_0 dn__law_script dc__law_script) (@pa_cons _ _ _ _ _ (@pe_int _ _ _ _) (@pa_nil _) (star1 rfl)) (star1 rfl)) (by decide) dn__law_cell (star1 rfl) (nost1 rfl nost0)) (swap1 rfl) (.inl rfl)) (@pss_cons _ _ _ _ _ (@ps_setComp _ _ _ _ _ _ _ _ _ _ _ _ _ _ _ 6 _ _ _ sc_law.nd rfl l_law_6 rfl (CompOk.make (N' := ["_law_cell_here", "_law_place"]) (ix := [5]) (nl := 1) (by rfl) (fm1 rfl fm0) (by rfl) (by decide +kernel) rfl (by decide +kernel) rfl (And.intro ⟨rfl, .inl rfl, .inl rfl⟩ True.intro)) (@pi_range1 _ _ _ _ _ _ g_law_range M.m_range (@pa_cons _ _ _ _ _ (@pe_callB _ _ _ _ _ _ _ _ _ call_len_seq g_law_len M.m_len b_len (@pa_cons _ _ _ _ _ (@pe_var _ 1 _ _ rfl v_law_1 dn__law_rooms_here dc__law_rooms_here) (@pa_nil _) (star1 rfl)) nn_len dn_len (star1 rfl) nost0) (@pa_nil _) (star1 rfl)) (star1' rfl)) (fun _ _ _ _ _ => (@pg_name _ _ 1 _ (show List.Nodup (["_law_cell_here", "_law_place"] : List Str) from by decide) rfl (Or.inl rfl) (by first | exact .inl rfl | exact .inr rfl | assumption))) (fun _ _ _ _ _ => (@pif_one _ _ _ (@pt_cmpR _ _ _ _ _ _ _ _ (@op_eq _) (@pe_op _ _ _ _ _ _ _ _ op_and (@pe_op _ _ _ _ _ _ _ _ op_shr (@pe_op _ _ _ _ _ _ _ _ (@op_mod _) (@pv _ 0 _ _ (by rfl) (by first | exact Or.inl rfl | exact Or.inr (Or.inl rfl) | exact Or.inr (Or.inr rfl)) (by decide) (by decide)) (@pe_int _ _ _ _)) (@pv _ 1 _ _ (by rfl) (by first | exact Or.inl rfl | exact Or.inr (Or.inl rfl) | exact Or.inr (Or.inr rfl)) (by decide) (by decide))) (@pe_int _ _ _ _)) (@pe_int _ _ _ _) (nomark _)))) (fun _ _ _ _ _ => (@pv _ 1 _ _ (by rfl) (by first | exact Or.inl rfl | exact Or.inr (Or.inl rfl) | exact Or.inr (Or.inr rfl)) (by decide) (by decide))) (by rfl) (by intro _; rfl) (by first | exact .inl rfl | exact .inr rfl | assumption)) (@pss_cons _ _ _ _ _ (@ps_set _ _ 7 _ _ _ _ sc_law.nd rfl l_law_7 (@pe_slice _ _ _ _ _ _ _ _ _ _ (@sl_list _) (@pe_var _ 2 _ _ rfl v_law_2 dn__law_line_here dc__law_line_here) (@po_none _) (@po_some _ _ _ (@pe_int _ _ _ _))) (swap1 rfl) (.inl rfl)) (@pss_cons _ _ _ _ _ (@ps_set _ _ 8 _ _ _ _ sc_law.nd rfl l_law_8 (@pe_op _ _ _ _ _ _ _ _ (@op_mod _) (@pe_op _ _ _ _ _ _ _ _ (@op_fdivB _) (@pe_var _ 5 _ _ rfl v_law_5 dn__law_cell_here dc__law_cell_here) (@pe_int _ _ _ _)) (@pe_op _ _ _ _ _ _ _ _ (@op_add _) (@pe_callB _ _ _ _ _ _ _ _ _ call_len_seq g_law_len M.m_len b_len (@pa_cons _ _ _ _ _ (@pe_var _ 7 _ _ rfl v_law_7 dn__law_some dc__law_some) (@pa_nil _) (star1 rfl)) nn_len dn_len (star1 rfl) nost0) (@pe_int _ _ _ _))) (swap1 rfl) (.inl rfl)) (@pss_cons _ _ _ _ _ (@ps_set _ _ 9 _ _ _ _ sc_law.nd rfl l_law_9 (@pe_op _ _ _ _ _ _ _ _ (@op_cat _) (@pe_op _ _ _ _ _ _ _ _ (@op_cat _) (@pe_slice _ _ _ _ _ _ _ _ _ _ (@sl_list _) (@pe_var _ 7 _ _ rfl v_law_7 dn__law_some dc__law_some) (@po_none _) (@po_some _ _ _ (@pe_var _ 8 _ _ rfl v_law_8 dn__law_at dc__law_at))) (@pe_lst _ _ _ _ (@pa_cons _ _ _ _ _ (@pe_tup _ _ _ _ _ (@pa_cons _ _ _ _ _ (@pe_var _ 6 _ _ rfl v_law_6 dn__law_places dc__law_places) (@pa_cons _ _ _ _ _ (@pe_callB _ _ _ _ _ _ _ _ _ (call_min2 rfl) g_law_min M.m_min b_min (@pa_cons _ _ _ _ _ (@pe_op _ _ _ _ _ _ _ _ (@op_add _) (@pe_callB _ _ _ _ _ _ _ _ _ (call_sum1 rfl) g_law_sum M.m_sum b_sum (@pa_cons _ _ _ _ _ (@pe_var _ 1 _ _ rfl v_law_1 dn__law_rooms_here dc__law_rooms_here) (@pa_nil _) (star1 rfl)) nn_sum dn_sum (star1 rfl) nost0) (@pe_int _ _ _ _)) (@pa_cons _ _ _ _ _ (@pe_op _ _ _ _ _ _ _ _ (@op_pow _) (@pe_int _ _ _ _) (@pe_int _ _ _ _)) (@pa_nil _) (star1 rfl)) (star1 rfl)) nn_min dn_min (star1 rfl) (nost1 rfl nost0)) (@pa_nil _) (star1 rfl)) (star1 rfl))) (@pa_nil _) (star1 rfl)))) (@pe_slice _ _ _ _ _ _ _ _ _ _ (@sl_list _) (@pe_var _ 7 _ _ rfl v_law_7 dn__law_some dc__law_some) (@po_some _ _ _ (@pe_var _ 8 _ _ rfl v_law_8 dn__law_at dc__law_at)) (@po_none _))) (swap1 rfl) (.inl rfl)) (@pss_cons _ _ _ _ _ (@ps_set _ _ 10 _ _ _ _ sc_law.nd rfl l_law_10 (@pe_callC _ _ _ _ _ _ _ _ _ _ _ C_served hr g_law_served (@pa_cons _ _ _ _ _ (@pe_callTy _ _ _ _ _ _ _ _ _ call_listL g_law_list M.m_list b_list (@pa_cons _ _ _ _ _ (@pe_var _ 1 _ _ rfl v_law_1 dn__law_rooms_here dc__law_rooms_here) (@pa_nil _) (star1 rfl)) nn_list dn_list (star1 rfl) nost0) (@pa_cons _ _ _ _ _ (@pe_callC _ _ _ _ _ _ _ _ _ _ _ C_law_copy hr g_law__law_copy (@pa_cons _ _ _ _ _ (@pe_var _ 9 _ _ rfl v_law_9 dn__law_more dc__law_more) (@pa_nil _) (star1 rfl)) (by decide) dn__law_copy (star1 rfl) nost0) (@pa_nil _) (star1 rfl)) (star1 rfl)) (by decide) dn_served (star1 rfl) (nost1 rfl nost0)) (swap1 rfl) (.inl rfl)) (@pss_cons _ _ _ _ _ (@ps_if _ _ _ _ _ _ _ _ (@pt_not _ _ _ _ (@pt_val _ _ _ (@pe_callC _ _ _ _ _ _ _ _ _ _ _ C_law_fits hr g_law__law_fits (@pa_cons _ _ _ _ _ (@pe_var _ 10 _ _ rfl v_law_10 dn__law_other dc__law_other) (@pa_cons _ _ _ _ _ (@pe_var _ 1 _ _ rfl v_law_1 dn__law_rooms_here dc__law_rooms_here) (@pa_cons _ _ _ _ _ (@pe_var _ 9 _ _ rfl v_law_9 dn__law_more dc__law_more) (@pa_nil _) (star1 rfl)) (star1 rfl)) (star1 rfl)) (by decide) dn__law_fits (star1 rfl) (nost1 rfl (nost1 rfl nost0))) (test1 rfl))) (@pss_one _ _ _ (@ps_ret _ _ _ _ (@pe_bl _ _ _ _))) (@pss_nil _)) (@pss_cons _ _ _ _ _ (@ps_for _ _ _ _ _ _ _ _ PassesOwn.never rfl (@pi_list _ _ _ _ (@pe_ix _ _ _ _ _ _ _ (@ix_tup _) (@pe_var _ 10 _ _ rfl v_law_10 dn__law_other dc__law_other) (@pe_int _ _ _ _) (fun _ _ => rfl))) (@pg_name _ _ 11 _ sc_law.nd rfl l_law_11 (.inl rfl)) (@pss_one _ _ _ (@ps_if _ _ _ _ _ _ _ _ (@pt_cmpR _ _ _ _ _ _ _ _ op_notN (@pe_var _ 11 _ _ rfl v_law_11 dn__law_cut_here dc__law_cut_here) (@pe_non _ _ _) (nomark _)) (@pss_one _ _ _ (@ps_expr _ _ _ _ (@pe_bm _ _ _ _ _ _ _ _ _ _ _ _ PySem.F.plainAttrs_list PySem.F.slot_list_append PySem.F.type_list_append mt_append (@pe_var _ 11 _ _ rfl v_law_11 dn__law_cut_here dc__law_cut_here) (@pa_cons _ _ _ _ _ (@pe_int _ _ _ _) (@pa_nil _) (star1 rfl)) (by rfl) (by rfl) (by rfl) (by rfl) (by rfl)) (swap1 rfl))) (@pss_nil _))) (by intro _; rfl)) (@pss_one _ _ _ (@ps_ret _ _ _ _ (@pe_and _ _ _ _ _ _ _ (@pe_callC _ _ _ _ _ _ _ _ _ _ _ C_law_fits hr g_law__law_fits (@pa_cons _ _ _ _ _ (@pe_var _ 4 _ _ rfl v_law_4 dn__law_found dc__law_found) (@pa_cons _ _ _ _ _ (@pe_var _ 1 _ _ rfl v_law_1 dn__law_rooms_here dc__law_rooms_here) (@pa_cons _ _ _ _ _ (@pe_var _ 2 _ _ rfl v_law_2 dn__law_line_here dc__law_line_here) (@pa_nil _) (star1 rfl)) (star1 rfl)) (star1 rfl)) (by decide) dn__law_fits (star1 rfl) (nost1 rfl (nost1 rfl nost0))) (@pe_one _ _ _ _ _ (@pe_callC _ _ _ _ _ _ _ _ _ _ _ C_law_apart hr g_law__law_apart (@pa_cons _ _ _ _ _ (@pe_ix _ _ _ _ _ _ _ (@ix_tup _) (@pe_var _ 4 _ _ rfl v_law_4 dn__law_found dc__law_found) (@pe_int _ _ _ _) (fun _ _ => rfl)) (@pa_cons _ _ _ _ _ (@pe_op _ _ _ _ _ _ _ _ (@op_fdivB _) (@pe_var _ 5 _ _ rfl v_law_5 dn__law_cell_here dc__law_cell_here) (@pe_int _ _ _ _)) (@pa_nil _) (star1 rfl)) (star1 rfl)) (by decide) dn__law_apart (star1 rfl) (nost1 rfl nost0))))))))))))))))))), ?_⟩
  simp only [rCat, tComp_eq, tComp1, slots, Option.getD_some, Option.getD_none, tSeq, tAsg, gName, tOp, tC, tVar, tCB, tCons, tNil, tCall, rI, rI0, tRet, tIfS, tTest, tB, tOr, tNot, tAndV, tDrop, tTup, tLst, tNext, tSl, tPart, tNoPart, tBM, rAppend, rEq, rIxL, rIxT, rSlL, Kd_non, Kd_bl, Kd_int, Kd_str, sc_non_non, sc_non_int, sc_int_non, sc_non_bl, sc_bl_non, sc_non_str, sc_str_non, sc_int_int, sc_bl_bl, sc_str_str, sc_int_str, sc_str_int, sc_bl_str, sc_str_bl, decide_true, decide_false, tFor_eq, iList, iRng1, L2.start, cxK, Int.reduceToNat, List.map_cons, List.map_nil, List.length_cons, List.length_nil, Nat.reduceAdd, Nat.reduceSub, Nat.zero_add, List.replicate_succ, List.replicate_zero, List.cons_append, List.nil_append, List.append_nil, List.getElem?_cons_zero, List.getElem?_cons_succ, List.set_cons_zero, List.set_cons_succ, Option.some.injEq, V.int.injEq, V.bl.injEq, V.ref.injEq, V.str.injEq, V.ty.injEq, List.cons.injEq, exists_eq_left', exists_eq_left, exists_eq_right, exists_and_left, exists_and_right, and_true, true_and, and_assoc, exists_const, decide_eq_true_eq, Bool.not_eq_true', Bool.not_true, Bool.not_false, Bool.not_not, decide_eq_false_iff_not, ite_not, Bool.false_eq_true, if_true, if_false, reduceCtorEq, and_false, false_and, exists_false, or_false, false_or, ↓reduceIte, eq_self, reduceIte]
  refine ⟨a, ns, rfl, hS, fun rm rooms H1 e1 hrm d1 m6 rb => ⟨rm, rfl, _, .inl (SqL.of d1), ?_⟩⟩
  rw [List.length_map]
  refine ⟨a, ns, rooms.length, rfl, e1.seq hS, m6, fun l L H2 e2 hl hL ln => ⟨rm, rfl, _, SqL.of (e2 _ _ d1), fun r2 hr2 => ?_⟩⟩
  have lok := ln_ok ln m6
  have l64 := lok.l
  have d2 := e2 _ _ d1
  have r0 : ∀ x ∈ rooms, 0 ≤ x := fun x hx => (rb x hx).1
  obtain ⟨H3, g3, S3, T3⟩ := new_lst hr2 (rooms.map V.int)
  rw [← g3]
  clear g3
  refine ⟨l, L, rfl, hL.same S3, l64, fun l2 H4 S4 hl2 hL2 => ⟨small (by decide), fun p hp => ?_⟩⟩
  obtain ⟨H5, g5, S5, T5⟩ := new_lst hp [V.ref r2, V.ref l2]
  rw [← g5]
  clear g5
  have e25 := (S3.trans S4).trans S5
  refine ⟨_, SqL.of T5, _, rfl, _, SqL.of T5, _, rfl, r2, l2, rooms, L, rfl, SqL.of ((S4.trans S5) _ _ T3), hL2.at.same S5, lok, r0, fun t ga ra ca Fl lf ras cs H6 S6 ht fnd lcs cut flo sep => ?_⟩
  have e26 := e25.trans S6
  refine ⟨t, rm, l, ga, ra, ca, rooms, lf, L, Fl, ras, cs, _, rfl, fnd, SqL.of (e26 _ _ d2), hL.same e26, lok, lcs, flo, cut, fun H7 S7 => ⟨true, rfl, ?_⟩⟩
  rw [if_neg (by decide)]
  refine ⟨small (by decide), fun p8 hp8 => ?_⟩
  obtain ⟨H8, g8, S8, T8⟩ := new_lst hp8 [V.ref rm, V.ref l]
  rw [← g8]
  clear g8
  have S68 := S7.trans S8
  have e28 := e26.trans S68
  have S58 := S6.trans S68
  have fd := flt_flat (flt_list (flt_two (flt_up (flt_ints rooms) (show 1 ≤ 3 by decide)) (flt_ln L))) (by decide)
  refine ⟨.list [intsD rooms, lnD L], .list [intsD rooms, lnD L], .lst (SqL.of (S58 _ _ T5)) (.cons (rep_rooms (SqL.of (((S4.trans S5).trans S58) _ _ T3))) (.cons (rep_ln (hL2.at.same (S5.trans S58))) .nil)), .lst (SqL.of T8) (.cons (rep_rooms (SqL.of (e28 _ _ d2))) (.cons (rep_ln (hL.same e28)) .nil)), fd, fd, false, by rw [SeqAt.eqv_refl _ fd.1]; rfl, ?_⟩
  rw [if_neg (by decide)]
  refine ⟨a, ns, 48, rfl, ((e1.trans e2).trans e28).seq hS, by decide, by decide, fun c => ?_⟩
  have m60 := lok.m
  refine ⟨rm, rfl, _, .inl (SqL.of (e28 _ _ d2)), by rw [List.length_map]; omega, by rw [List.length_map]; omega, fun D hD => ?_⟩
  rw [List.length_map, Int.toNat_natCast]
  obtain ⟨fp, hfp⟩ : ∃ fp : Nat → Bool, fp = fun j => decide (Builtin.bitAnd (c % 64 / 2 ^ j) 1 = 1) := ⟨_, rfl⟩
  obtain ⟨Pc, hC⟩ : ∃ Pc : Nat → St → Hp → Prop, Pc = fun j τ H' => ∃ (z : Option V), H' D = some (.lst (((List.range j).filter fp).map fun j : Nat => V.int (j : Int))) ∧ Same H8 H' ∧ τ = [some (.int c), z] := ⟨_, rfl⟩
  refine compS_range Pc ?_ ?_ ?_
  · rw [hC]
    exact ⟨_, upd_same, same_new hD _, rfl⟩
  · intro j τ H' R' hj h next
    rw [hC] at h
    obtain ⟨z, d4, e4, rfl⟩ := h
    have ep : (List.range (j + 1)).filter fp = (List.range j).filter fp ++ [j].filter fp := by
      rw [List.range_succ, List.filter_append]
    have ll : ((List.range j).filter fp).length ≤ j := by
      refine Nat.le_trans (List.length_filter_le ..) ?_
      rw [List.length_range]
      exact Nat.le_refl _
    simp only [rCat, tComp_eq, tComp1, slots, Option.getD_some, Option.getD_none, tSeq, tAsg, gName, tOp, tC, tVar, tCB, tCons, tNil, tCall, rI, rI0, tRet, tIfS, tTest, tB, tOr, tNot, tAndV, tDrop, tTup, tLst, tNext, tSl, tPart, tNoPart, tBM, rAppend, rEq, rIxL, rIxT, rSlL, Kd_non, Kd_bl, Kd_int, Kd_str, sc_non_non, sc_non_int, sc_int_non, sc_non_bl, sc_bl_non, sc_non_str, sc_str_non, sc_int_int, sc_bl_bl, sc_str_str, sc_int_str, sc_str_int, sc_bl_str, sc_str_bl, decide_true, decide_false, tFor_eq, iList, iRng1, L2.start, cxK, Int.reduceToNat, List.map_cons, List.map_nil, List.length_cons, List.length_nil, Nat.reduceAdd, Nat.reduceSub, Nat.zero_add, List.replicate_succ, List.replicate_zero, List.cons_append, List.nil_append, List.append_nil, List.getElem?_cons_zero, List.getElem?_cons_succ, List.set_cons_zero, List.set_cons_succ, Option.some.injEq, V.int.injEq, V.bl.injEq, V.ref.injEq, V.str.injEq, V.ty.injEq, List.cons.injEq, exists_eq_left', exists_eq_left, exists_eq_right, exists_and_left, exists_and_right, and_true, true_and, and_assoc, exists_const, decide_eq_true_eq, Bool.not_eq_true', Bool.not_true, Bool.not_false, Bool.not_not, decide_eq_false_iff_not, ite_not, Bool.false_eq_true, if_true, if_false, reduceCtorEq, and_false, false_and, exists_false, or_false, false_or, ↓reduceIte, eq_self, reduceIte]
    rw [show (0 + (j : Int)) = ((j : Nat) : Int) by omega, Int.toNat_natCast]
    refine ⟨by decide, by omega, ?_⟩
    by_cases hz : Builtin.bitAnd (c % 64 / 2 ^ j) 1 = 1
    · rw [if_pos hz]
      refine ⟨_, d4, by rw [List.length_map]; exact Nat.lt_of_lt_of_le (m := 1000) (by omega) (by decide), next _ _ ?_⟩
      rw [hC]
      refine ⟨_, ?_, same_upd e4 hD _, rfl⟩
      rw [upd_same, ep, List.filter_cons_of_pos (by rw [hfp]; exact decide_eq_true hz), List.filter_nil, List.map_append]
      rfl
    · rw [if_neg hz]
      refine next _ _ ?_
      rw [hC]
      refine ⟨_, ?_, e4, rfl⟩
      rw [ep, List.filter_cons_of_neg (by rw [hfp]; simpa using hz), List.filter_nil, List.append_nil]
      exact d4
  intro τ H9 h
  rw [hC] at h
  obtain ⟨z, dD, e9, rfl⟩ := h
  clear hC
  obtain ⟨pls, hpls⟩ : ∃ pls, pls = (List.range rooms.length).filter fp := ⟨_, rfl⟩
  rw [← hpls] at dD
  have plsS : pls.Sublist (List.range rooms.length) := by rw [hpls]; exact List.filter_sublist
  have e29 := e28.trans e9
  obtain ⟨us, hus, hpa⟩ := id hL
  have lus : us.length = L.length := Paired.length hpa
  refine ⟨l, rfl, us, e29.seq hus, fun sm hsm => ?_⟩
  rw [show cutV us none (some 39) = us.take 39 from cut_to (n := 39)]
  obtain ⟨Ha, gA, Sa, Ta⟩ := new_lst hsm (us.take 39)
  rw [← gA]
  clear gA
  refine ⟨c, rfl, cdiv (by decide) (by decide), _, .inl (SqL.of Ta), by omega, _, SqL.of Ta, fun p1 hp1 => ?_⟩
  have lt : (us.take 39).length ≤ 39 := by rw [List.length_take]; omega
  have x0 := Int.emod_nonneg (c / 64) (show ((us.take 39).length : Int) + 1 ≠ 0 by omega)
  have x1 := Int.emod_lt_of_pos (c / 64) (show 0 < ((us.take 39).length : Int) + 1 by omega)
  obtain ⟨k, ek, hk⟩ : ∃ k : Nat, c / 64 % (((us.take 39).length : Int) + 1) = (k : Int) ∧ k ≤ (us.take 39).length := ⟨(c / 64 % (((us.take 39).length : Int) + 1)).toNat, by omega, by omega⟩
  rw [ek, cut_to]
  obtain ⟨Hb, gB, Sb, Tb⟩ := new_lst hp1 ((us.take 39).take k)
  rw [← gB]
  clear gB
  have e2b := (e29.trans Sa).trans Sb
  refine ⟨rm, rfl, rooms, SqL.of (e2b _ _ d2), cpow, small (by decide), fun p2 hp2 => ?_⟩
  obtain ⟨wg, hwg⟩ : ∃ wg, wg = (if 10 ^ 15 < rooms.sum + 1 then 10 ^ 15 else rooms.sum + 1) := ⟨_, rfl⟩
  have w0 : 0 ≤ wg := by
    have : 0 ≤ rooms.sum := by
      rw [sum_getD]
      refine sumN_nn fun j hj => ?_
      rw [My.getD_at hj]
      exact r0 _ (List.getElem_mem hj)
    rw [hwg]
    split <;> omega
  rw [← hwg]
  obtain ⟨Hc, gC, Sc, Tc⟩ := fresh_tup (K := K) hp2 [V.ref D, V.int wg]
  rw [← gC]
  clear gC
  refine ⟨small (by decide), fun p3 hp3 => ?_⟩
  obtain ⟨Hd, gD, Sd, Td⟩ := new_lst hp3 [V.ref p2]
  rw [← gD]
  clear gD
  refine ⟨_, (Sc.trans Sd) _ _ Tb, _, Td, small (by rw [List.length_take, List.length_singleton]; omega), fun p4 hp4 => ?_⟩
  obtain ⟨He, gE, Se, Te⟩ := new_lst hp4 ((us.take 39).take k ++ [V.ref p2])
  rw [← gE]
  clear gE
  refine ⟨_, SqL.of ((((Sb.trans Sc).trans Sd).trans Se) _ _ Ta), fun p5 hp5 => ?_⟩
  rw [cut_from]
  obtain ⟨Hf, gF, Sf, Tf⟩ := new_lst hp5 ((us.take 39).drop k)
  rw [← gF]
  clear gF
  refine ⟨_, Sf _ _ Te, _, Tf, small (by rw [List.length_append, List.length_take, List.length_drop, List.length_singleton]; omega), fun mr hmr => ?_⟩
  obtain ⟨Hg, gG, Sg, Tg⟩ := new_lst hmr ((us.take 39).take k ++ [V.ref p2] ++ (us.take 39).drop k)
  rw [← gG]
  clear gG
  have Sbg := (((Sc.trans Sd).trans Se).trans Sf).trans Sg
  have e2g := e2b.trans Sbg
  obtain ⟨L', hL'⟩ : ∃ L', L' = (L.take 39).take k ++ [(pls, wg)] ++ (L.take 39).drop k := ⟨_, rfl⟩
  have hpag := pair_same e2g hpa
  have hT : Paired (fun v (e : En) => ∃ t q, v = V.ref t ∧ SqT K Hg t [.ref q, .int e.2] ∧ SqL K Hg q (e.1.map fun j : Nat => V.int (j : Int))) [V.ref p2] [(pls, wg)] := .cons ⟨p2, D, rfl, Same.tup (((Sd.trans Se).trans Sf).trans Sg) Tc, SqL.of (((Sa.trans Sb).trans Sbg) _ _ dD)⟩ .nil
  have hLg : LnAt K Hg mr L' := ⟨_, SqL.of Tg, by rw [hL']; exact pair_app (pair_drop k (pair_take 39 hpag)) (pair_app hT (pair_take k (pair_take 39 hpag)))⟩
  have mem' : ∀ en ∈ L', en ∈ L ∨ en = (pls, wg) := fun en he => by
    rw [hL'] at he
    rcases List.mem_append.mp he with he | he
    · rcases List.mem_append.mp he with he | he
      · exact .inl (List.mem_of_mem_take (List.mem_of_mem_take he))
      · exact .inr (List.mem_singleton.mp he)
    · exact .inl (List.mem_of_mem_take (List.mem_of_mem_drop he))
  have lokM : LnOk rooms.length L' := by
    refine ⟨?_, fun en he => ?_, fun en he => ?_, lok.m, fun en he => ?_⟩
    · rw [hL', List.length_append, List.length_append, List.length_take, List.length_drop, List.length_take, List.length_singleton]
      omega
    · rcases mem' en he with h | rfl
      · exact lok.pl en h
      · refine ⟨?_, fun o ho => List.mem_range.mp (plsS.subset ho)⟩
        have := plsS.length_le
        rw [List.length_range] at this
        show pls.length ≤ 64
        omega
    · rcases mem' en he with h | rfl
      · exact lok.nd en h
      · exact plsS.nodup List.nodup_range
    · rcases mem' en he with h | rfl
      · exact lok.w en h
      · exact w0
  refine ⟨rm, rfl, _, SqL.of (e2g _ _ d2), fun r3 hr3 => ?_⟩
  obtain ⟨Hh, gH, Sh, Th⟩ := new_lst hr3 (rooms.map V.int)
  rw [← gH]
  clear gH
  refine ⟨mr, L', rfl, hLg.same Sh, lokM.l, fun l3 Hi Si hl3 hL3 => ?_⟩
  refine ⟨r3, l3, rooms, L', rfl, SqL.of (Si _ _ Th), hL3.at, lokM, r0, fun t' ga' ra' ca' Fl' lf' ras' cs' Hj Sj ht' fnd' lcs' cut' flo' sep' => ?_⟩
  have Sgj := (Sh.trans Si).trans Sj
  have e2j := e2g.trans Sgj
  refine ⟨t', rm, mr, ga', ra', ca', rooms, lf', L', Fl', ras', cs', _, rfl, fnd', SqL.of (e2j _ _ d2), hLg.same Sgj, lokM, lcs', flo', cut', fun Hk Sk => ⟨true, rfl, ?_⟩⟩
  rw [if_neg (by decide)]
  have S8i : Same H8 Hi := ((((e9.trans Sa).trans Sb).trans Sbg).trans Sh).trans Si
  have Sik : Same Hi Hk := Sj.trans Sk
  have fk := fnd'.same Sk
  refine ⟨t', rfl, _, fk.t, _, rfl, ca', rfl, ⟨_, SqL.of fk.c⟩, ?_⟩
  have cfr : ∀ (e : Nat) (b : Addr), cs'[e]? = some (V.ref b) → Hi b = none ∧ b ≠ ca' ∧ ∃ ns : List Int, Hj b = some (.lst (ns.map V.int)) ∧ ns.length ≤ 64 := fun e b hb => by
    rcases cut' e _ hb with ⟨z, _⟩ | ⟨c2, ns2, z, ok2, h2, _, so2, rg2, _⟩
    · cases z
    · cases z
      refine ⟨ok2.1, ok2.2.2.2.1, ns2, h2, ?_⟩
      have := rise_len so2 rg2
      omega
  obtain ⟨Pv, hP⟩ : ∃ Pv : Nat → St → Hp → Prop, Pv = fun i σ H' => ∃ (z : Option V), Same Hi H' ∧ H' ca' = some (.lst cs') ∧ (∀ (e : Nat) (b : Addr), cs'[e]? = some (V.ref b) → ∃ ys, H' b = some (.lst ys) ∧ ys.length ≤ 64 + i) ∧ σ = [some (V.ref a), some (V.ref rm), some (V.ref l), some (V.ref p), some (V.ref t), some (V.int c), some (V.ref D), some (V.ref sm), some (V.int (k : Int)), some (V.ref mr), some (V.ref t'), z] := ⟨_, rfl⟩
  refine forW_list _ Pv ?_ (fun i σ H' _ h => by rw [hP] at h; obtain ⟨_, _, h2, _⟩ := h; exact SqL.of h2) ?_ ?_
  · rw [hP]
    refine ⟨_, Sik, fk.c, fun e b hb => ?_, rfl⟩
    obtain ⟨_, _, ns2, h2, h3⟩ := cfr e b hb
    exact ⟨_, Sk _ _ h2, by rw [List.length_map]; omega⟩
  · intro i v σ Hl hv h
    rw [hP] at h
    obtain ⟨z, s1, s2, s3, rfl⟩ := h
    have li : i < cs'.length := (List.getElem?_eq_some_iff.mp hv).1
    have l3' := lokM.l
    rcases cut' i v hv with ⟨rfl, _⟩ | ⟨b, ns2, rfl, _⟩
    · simp only [rCat, tComp_eq, tComp1, slots, Option.getD_some, Option.getD_none, tSeq, tAsg, gName, tOp, tC, tVar, tCB, tCons, tNil, tCall, rI, rI0, tRet, tIfS, tTest, tB, tOr, tNot, tAndV, tDrop, tTup, tLst, tNext, tSl, tPart, tNoPart, tBM, rAppend, rEq, rIxL, rIxT, rSlL, Kd_non, Kd_bl, Kd_int, Kd_str, sc_non_non, sc_non_int, sc_int_non, sc_non_bl, sc_bl_non, sc_non_str, sc_str_non, sc_int_int, sc_bl_bl, sc_str_str, sc_int_str, sc_str_int, sc_bl_str, sc_str_bl, decide_true, decide_false, tFor_eq, iList, iRng1, L2.start, cxK, Int.reduceToNat, List.map_cons, List.map_nil, List.length_cons, List.length_nil, Nat.reduceAdd, Nat.reduceSub, Nat.zero_add, List.replicate_succ, List.replicate_zero, List.cons_append, List.nil_append, List.append_nil, List.getElem?_cons_zero, List.getElem?_cons_succ, List.set_cons_zero, List.set_cons_succ, Option.some.injEq, V.int.injEq, V.bl.injEq, V.ref.injEq, V.str.injEq, V.ty.injEq, List.cons.injEq, exists_eq_left', exists_eq_left, exists_eq_right, exists_and_left, exists_and_right, and_true, true_and, and_assoc, exists_const, decide_eq_true_eq, Bool.not_eq_true', Bool.not_true, Bool.not_false, Bool.not_not, decide_eq_false_iff_not, ite_not, Bool.false_eq_true, if_true, if_false, reduceCtorEq, and_false, false_and, exists_false, or_false, false_or, ↓reduceIte, eq_self, reduceIte]
      rw [hP]
      exact ⟨_, s1, s2, fun e b hb => by obtain ⟨ys, h1, h2⟩ := s3 e b hb; exact ⟨ys, h1, by omega⟩, rfl⟩
    · obtain ⟨f1, f2, _⟩ := cfr i b hv
      obtain ⟨ys, h1, h2⟩ := s3 i b hv
      simp only [rCat, tComp_eq, tComp1, slots, Option.getD_some, Option.getD_none, tSeq, tAsg, gName, tOp, tC, tVar, tCB, tCons, tNil, tCall, rI, rI0, tRet, tIfS, tTest, tB, tOr, tNot, tAndV, tDrop, tTup, tLst, tNext, tSl, tPart, tNoPart, tBM, rAppend, rEq, rIxL, rIxT, rSlL, Kd_non, Kd_bl, Kd_int, Kd_str, sc_non_non, sc_non_int, sc_int_non, sc_non_bl, sc_bl_non, sc_non_str, sc_str_non, sc_int_int, sc_bl_bl, sc_str_str, sc_int_str, sc_str_int, sc_bl_str, sc_str_bl, decide_true, decide_false, tFor_eq, iList, iRng1, L2.start, cxK, Int.reduceToNat, List.map_cons, List.map_nil, List.length_cons, List.length_nil, Nat.reduceAdd, Nat.reduceSub, Nat.zero_add, List.replicate_succ, List.replicate_zero, List.cons_append, List.nil_append, List.append_nil, List.getElem?_cons_zero, List.getElem?_cons_succ, List.set_cons_zero, List.set_cons_succ, Option.some.injEq, V.int.injEq, V.bl.injEq, V.ref.injEq, V.str.injEq, V.ty.injEq, List.cons.injEq, exists_eq_left', exists_eq_left, exists_eq_right, exists_and_left, exists_and_right, and_true, true_and, and_assoc, exists_const, decide_eq_true_eq, Bool.not_eq_true', Bool.not_true, Bool.not_false, Bool.not_not, decide_eq_false_iff_not, ite_not, Bool.false_eq_true, if_true, if_false, reduceCtorEq, and_false, false_and, exists_false, or_false, false_or, ↓reduceIte, eq_self, reduceIte]
      refine ⟨.inl ⟨rfl, _, SqL.of h1⟩, _, h1, Nat.lt_of_lt_of_le (m := 1000) (by omega) (by decide), ?_⟩
      rw [hP]
      refine ⟨_, same_upd s1 f1 _, by rw [upd_ne (Ne.symm f2)]; exact s2, fun e b' hb' => ?_, rfl⟩
      by_cases z : b' = b
      · rw [z]
        exact ⟨_, upd_same, by rw [List.length_append, List.length_singleton]; omega⟩
      · obtain ⟨ys', h1', h2'⟩ := s3 e b' hb'
        exact ⟨ys', by rw [upd_ne z]; exact h1', by omega⟩
  · intro σ Hl h
    rw [hP] at h
    obtain ⟨z, s1, s2, s3, rfl⟩ := h
    have S6l := (S68.trans S8i).trans s1
    have e2l := e26.trans S6l
    have fl' := fnd.same S6l
    have cutl : ∀ (e : Nat) (v : V), cs[e]? = some v → CutAt L rooms.length rooms Fl lf Hl (fun c => c ≠ ca) e v := fun e v hv => (cut e v hv).go (fun _ _ => rfl) (fun _ h => h) fun c u hc hu => ⟨hc.2.2.2.1, S6l _ _ hu⟩
    simp only [rCat, tComp_eq, tComp1, slots, Option.getD_some, Option.getD_none, tSeq, tAsg, gName, tOp, tC, tVar, tCB, tCons, tNil, tCall, rI, rI0, tRet, tIfS, tTest, tB, tOr, tNot, tAndV, tDrop, tTup, tLst, tNext, tSl, tPart, tNoPart, tBM, rAppend, rEq, rIxL, rIxT, rSlL, Kd_non, Kd_bl, Kd_int, Kd_str, sc_non_non, sc_non_int, sc_int_non, sc_non_bl, sc_bl_non, sc_non_str, sc_str_non, sc_int_int, sc_bl_bl, sc_str_str, sc_int_str, sc_str_int, sc_bl_str, sc_str_bl, decide_true, decide_false, tFor_eq, iList, iRng1, L2.start, cxK, Int.reduceToNat, List.map_cons, List.map_nil, List.length_cons, List.length_nil, Nat.reduceAdd, Nat.reduceSub, Nat.zero_add, List.replicate_succ, List.replicate_zero, List.cons_append, List.nil_append, List.append_nil, List.getElem?_cons_zero, List.getElem?_cons_succ, List.set_cons_zero, List.set_cons_succ, Option.some.injEq, V.int.injEq, V.bl.injEq, V.ref.injEq, V.str.injEq, V.ty.injEq, List.cons.injEq, exists_eq_left', exists_eq_left, exists_eq_right, exists_and_left, exists_and_right, and_true, true_and, and_assoc, exists_const, decide_eq_true_eq, Bool.not_eq_true', Bool.not_true, Bool.not_false, Bool.not_not, decide_eq_false_iff_not, ite_not, Bool.false_eq_true, if_true, if_false, reduceCtorEq, and_false, false_and, exists_false, or_false, false_or, ↓reduceIte, eq_self, reduceIte]
    refine ⟨t, rm, l, ga, ra, ca, rooms, lf, L, Fl, ras, cs, _, rfl, fl', SqL.of (e2l _ _ d2), hL.same e2l, lok, lcs, flo, cutl, fun Hm Sm => ?_⟩
    refine ⟨true, rfl, ?_⟩
    rw [if_pos rfl]
    have fm := fl'.same Sm
    refine ⟨_, fm.t, _, rfl, cdiv (by decide) (by decide), ca, cs, c / 7, rfl, fm.c, by omega, fun e v hv => ?_, sep.sc, fun H' => q _⟩
    rcases cutl e v hv with ⟨z, _⟩ | ⟨c2, ns2, z, ok2, h2, _, so2, rg2, _⟩
    · exact .inl z
    · refine .inr ⟨c2, ns2, z, Sm _ _ h2, ?_, ok2⟩
      have := rise_len so2 rg2
      omega
end

end MyO
namespace My
open MyB MyC MyD MyE MyF MyG MyS MyI MyJ MyK MyL MyN MyP MyO PySem L2
theorem all_mk {l : PySem.W.OpenLaw} {w : World} {K : PySem.W.Frag} {h : Heap} {mg : Str → Option Value} {fa f1 f2 f3 f4 f5 f6 f7 f8 f9 f10 f11 f12 f13 f14 f15 f16 f17 : Addr} (X : K.In h) (G : h.Ns mainGlobals mg) (hfa : mg "law" = some (.ref fa))
    {od1 an1 od2 an2 od3 an3 od4 an4 od5 an5 od6 an6 od7 an7 od8 an8 od9 an9 od10 an10 od11 an11 od12 an12 od13 an13 od14 an14 od15 an15 od16 an16 od17 an17 : Option Addr} {sl1 sl2 sl3 sl4 sl5 sl6 sl7 sl8 sl9 sl10 sl11 sl12 sl13 sl14 sl15 sl16 sl17 : Array (Option Value)} {oc1 kV1 dc1 pm1 cd1 ct1 oc2 kV2 dc2 pm2 cd2 ct2 oc3 kV3 dc3 pm3 cd3 ct3 oc4 kV4 dc4 pm4 cd4 ct4 oc5 kV5 dc5 pm5 cd5 ct5 oc6 kV6 dc6 pm6 cd6 ct6 oc7 kV7 dc7 pm7 cd7 ct7 oc8 kV8 dc8 pm8 cd8 ct8 oc9 kV9 dc9 pm9 cd9 ct9 oc10 kV10 dc10 pm10 cd10 ct10 oc11 kV11 dc11 pm11 cd11 ct11 oc12 kV12 dc12 pm12 cd12 ct12 oc13 kV13 dc13 pm13 cd13 ct13 oc14 kV14 dc14 pm14 cd14 ct14 oc15 kV15 dc15 pm15 cd15 ct15 oc16 kV16 dc16 pm16 cd16 ct16 oc17 kV17 dc17 pm17 cd17 ct17 : Value}
    (a1 : PySem.W.nsIn K mainGlobals "led_over" = some (some (.ref f1))) (l1 : K.lookup f1 = some ⟨oc1, od1, .func (PySem.W.fnOf "led_over" "led_over" (defArgs s_led_over) (defBody s_led_over) (defScope s_led_over) .none kV1 dc1 pm1 an1 cd1 ct1), sl1⟩) (c1 : PySem.W.codeIn K cd1 "led_over" = true) (k1 : PySem.W.keepIn K (.ref f1) = true)
    (a2 : PySem.W.nsIn K mainGlobals "reached_by" = some (some (.ref f2))) (l2 : K.lookup f2 = some ⟨oc2, od2, .func (PySem.W.fnOf "reached_by" "reached_by" (defArgs s_reached_by) (defBody s_reached_by) (defScope s_reached_by) .none kV2 dc2 pm2 an2 cd2 ct2), sl2⟩) (c2 : PySem.W.codeIn K cd2 "reached_by" = true) (k2 : PySem.W.keepIn K (.ref f2) = true)
    (a3 : PySem.W.nsIn K mainGlobals "moves_to" = some (some (.ref f3))) (l3 : K.lookup f3 = some ⟨oc3, od3, .func (PySem.W.fnOf "moves_to" "moves_to" (defArgs s_moves_to) (defBody s_moves_to) (defScope s_moves_to) .none kV3 dc3 pm3 an3 cd3 ct3), sl3⟩) (c3 : PySem.W.codeIn K cd3 "moves_to" = true) (k3 : PySem.W.keepIn K (.ref f3) = true)
    (a4 : PySem.W.nsIn K mainGlobals "lead" = some (some (.ref f4))) (l4 : K.lookup f4 = some ⟨oc4, od4, .func (PySem.W.fnOf "lead" "lead" (defArgs s_lead) (defBody s_lead) (defScope s_lead) .none kV4 dc4 pm4 an4 cd4 ct4), sl4⟩) (c4 : PySem.W.codeIn K cd4 "lead" = true) (k4 : PySem.W.keepIn K (.ref f4) = true)
    (a5 : PySem.W.nsIn K mainGlobals "serve" = some (some (.ref f5))) (l5 : K.lookup f5 = some ⟨oc5, od5, .func (PySem.W.fnOf "serve" "serve" (defArgs s_serve) (defBody s_serve) (defScope s_serve) .none kV5 dc5 pm5 an5 cd5 ct5), sl5⟩) (c5 : PySem.W.codeIn K cd5 "serve" = true) (k5 : PySem.W.keepIn K (.ref f5) = true)
    (a6 : PySem.W.nsIn K mainGlobals "route_of" = some (some (.ref f6))) (l6 : K.lookup f6 = some ⟨oc6, od6, .func (PySem.W.fnOf "route_of" "route_of" (defArgs s_route_of) (defBody s_route_of) (defScope s_route_of) .none kV6 dc6 pm6 an6 cd6 ct6), sl6⟩) (c6 : PySem.W.codeIn K cd6 "route_of" = true) (k6 : PySem.W.keepIn K (.ref f6) = true)
    (a7 : PySem.W.nsIn K mainGlobals "served" = some (some (.ref f7))) (l7 : K.lookup f7 = some ⟨oc7, od7, .func (PySem.W.fnOf "served" "served" (defArgs s_served) (defBody s_served) (defScope s_served) .none kV7 dc7 pm7 an7 cd7 ct7), sl7⟩) (c7 : PySem.W.codeIn K cd7 "served" = true) (k7 : PySem.W.keepIn K (.ref f7) = true)
    (a8 : PySem.W.nsIn K mainGlobals "_law_cell" = some (some (.ref f8))) (l8 : K.lookup f8 = some ⟨oc8, od8, .func (PySem.W.fnOf "_law_cell" "_law_cell" (defArgs s_law_cell) (defBody s_law_cell) (defScope s_law_cell) .none kV8 dc8 pm8 an8 cd8 ct8), sl8⟩) (c8 : PySem.W.codeIn K cd8 "_law_cell" = true) (k8 : PySem.W.keepIn K (.ref f8) = true)
    (a9 : PySem.W.nsIn K mainGlobals "_law_rooms" = some (some (.ref f9))) (l9 : K.lookup f9 = some ⟨oc9, od9, .func (PySem.W.fnOf "_law_rooms" "_law_rooms" (defArgs s_law_rooms) (defBody s_law_rooms) (defScope s_law_rooms) .none kV9 dc9 pm9 an9 cd9 ct9), sl9⟩) (c9 : PySem.W.codeIn K cd9 "_law_rooms" = true) (k9 : PySem.W.keepIn K (.ref f9) = true)
    (a10 : PySem.W.nsIn K mainGlobals "_law_line" = some (some (.ref f10))) (l10 : K.lookup f10 = some ⟨oc10, od10, .func (PySem.W.fnOf "_law_line" "_law_line" (defArgs s_law_line) (defBody s_law_line) (defScope s_law_line) .none kV10 dc10 pm10 an10 cd10 ct10), sl10⟩) (c10 : PySem.W.codeIn K cd10 "_law_line" = true) (k10 : PySem.W.keepIn K (.ref f10) = true)
    (a11 : PySem.W.nsIn K mainGlobals "_law_copy" = some (some (.ref f11))) (l11 : K.lookup f11 = some ⟨oc11, od11, .func (PySem.W.fnOf "_law_copy" "_law_copy" (defArgs s_law_copy) (defBody s_law_copy) (defScope s_law_copy) .none kV11 dc11 pm11 an11 cd11 ct11), sl11⟩) (c11 : PySem.W.codeIn K cd11 "_law_copy" = true) (k11 : PySem.W.keepIn K (.ref f11) = true)
    (a12 : PySem.W.nsIn K mainGlobals "_law_whole" = some (some (.ref f12))) (l12 : K.lookup f12 = some ⟨oc12, od12, .func (PySem.W.fnOf "_law_whole" "_law_whole" (defArgs s_law_whole) (defBody s_law_whole) (defScope s_law_whole) .none kV12 dc12 pm12 an12 cd12 ct12), sl12⟩) (c12 : PySem.W.codeIn K cd12 "_law_whole" = true) (k12 : PySem.W.keepIn K (.ref f12) = true)
    (a13 : PySem.W.nsIn K mainGlobals "_law_within" = some (some (.ref f13))) (l13 : K.lookup f13 = some ⟨oc13, od13, .func (PySem.W.fnOf "_law_within" "_law_within" (defArgs s_law_within) (defBody s_law_within) (defScope s_law_within) .none kV13 dc13 pm13 an13 cd13 ct13), sl13⟩) (c13 : PySem.W.codeIn K cd13 "_law_within" = true) (k13 : PySem.W.keepIn K (.ref f13) = true)
    (a14 : PySem.W.nsIn K mainGlobals "_law_cut" = some (some (.ref f14))) (l14 : K.lookup f14 = some ⟨oc14, od14, .func (PySem.W.fnOf "_law_cut" "_law_cut" (defArgs s_law_cut) (defBody s_law_cut) (defScope s_law_cut) .none kV14 dc14 pm14 an14 cd14 ct14), sl14⟩) (c14 : PySem.W.codeIn K cd14 "_law_cut" = true) (k14 : PySem.W.keepIn K (.ref f14) = true)
    (a15 : PySem.W.nsIn K mainGlobals "_law_fits" = some (some (.ref f15))) (l15 : K.lookup f15 = some ⟨oc15, od15, .func (PySem.W.fnOf "_law_fits" "_law_fits" (defArgs s_law_fits) (defBody s_law_fits) (defScope s_law_fits) .none kV15 dc15 pm15 an15 cd15 ct15), sl15⟩) (c15 : PySem.W.codeIn K cd15 "_law_fits" = true) (k15 : PySem.W.keepIn K (.ref f15) = true)
    (a16 : PySem.W.nsIn K mainGlobals "_law_apart" = some (some (.ref f16))) (l16 : K.lookup f16 = some ⟨oc16, od16, .func (PySem.W.fnOf "_law_apart" "_law_apart" (defArgs s_law_apart) (defBody s_law_apart) (defScope s_law_apart) .none kV16 dc16 pm16 an16 cd16 ct16), sl16⟩) (c16 : PySem.W.codeIn K cd16 "_law_apart" = true) (k16 : PySem.W.keepIn K (.ref f16) = true)
    (a17 : PySem.W.nsIn K mainGlobals "law" = some (some (.ref f17))) (l17 : K.lookup f17 = some ⟨oc17, od17, .func (PySem.W.fnOf "law" "law" (defArgs s_law) (defBody s_law) (defScope s_law) .none kV17 dc17 pm17 an17 cd17 ct17), sl17⟩) (c17 : PySem.W.codeIn K cd17 "law" = true) (k17 : PySem.W.keepIn K (.ref f17) = true)
    (z_dict : PySem.W.nsIn K mainGlobals "dict" = some none)
    (z_len : PySem.W.nsIn K mainGlobals "len" = some none)
    (z_range : PySem.W.nsIn K mainGlobals "range" = some none)
    (z_abs : PySem.W.nsIn K mainGlobals "abs" = some none)
    (z_max : PySem.W.nsIn K mainGlobals "max" = some none)
    (z_min : PySem.W.nsIn K mainGlobals "min" = some none)
    (z_isinstance : PySem.W.nsIn K mainGlobals "isinstance" = some none)
    (z_int : PySem.W.nsIn K mainGlobals "int" = some none)
    (z_bool : PySem.W.nsIn K mainGlobals "bool" = some none)
    (z_str : PySem.W.nsIn K mainGlobals "str" = some none)
    (z_list : PySem.W.nsIn K mainGlobals "list" = some none)
    (z_tuple : PySem.W.nsIn K mainGlobals "tuple" = some none)
    (z_sum : PySem.W.nsIn K mainGlobals "sum" = some none)
    (z_all : PySem.W.nsIn K mainGlobals "all" = some none)
    (z_enumerate : PySem.W.nsIn K mainGlobals "enumerate" = some none)
    (z_zip : PySem.W.nsIn K mainGlobals "zip" = some none)
    (z_ValueError : PySem.W.nsIn K mainGlobals "ValueError" = some none)
    (z_any : PySem.W.nsIn K mainGlobals "any" = some none)
    (z_set : PySem.W.nsIn K mainGlobals "set" = some none)
    (z_sorted : PySem.W.nsIn K mainGlobals "sorted" = some none)
    : ∃ fd : FuncData, (∀ (s : Shared) (v : Value), BindsTo s fd ⟨[v], []⟩ [("_law_script", v)]) ∧ ∀ base : Heap, K.In base → base.Ns mainGlobals mg → FnOk l.prog w K mg base CX0 5 fa fd ["_law_script"] (spLaw K) := by
  have e := hfa.symm.trans (PySem.W.mg_of X G a17)
  cases e
  have F1 := fun_mk (st := s_led_over) l1 c1 k1
  have F2 := fun_mk (st := s_reached_by) l2 c2 k2
  have F3 := fun_mk (st := s_moves_to) l3 c3 k3
  have F4 := fun_mk (st := s_lead) l4 c4 k4
  have F5 := fun_mk (st := s_serve) l5 c5 k5
  have F6 := fun_mk (st := s_route_of) l6 c6 k6
  have F7 := fun_mk (st := s_served) l7 c7 k7
  have F8 := fun_mk (st := s_law_cell) l8 c8 k8
  have F9 := fun_mk (st := s_law_rooms) l9 c9 k9
  have F10 := fun_mk (st := s_law_line) l10 c10 k10
  have F11 := fun_mk (st := s_law_copy) l11 c11 k11
  have F12 := fun_mk (st := s_law_whole) l12 c12 k12
  have F13 := fun_mk (st := s_law_within) l13 c13 k13
  have F14 := fun_mk (st := s_law_cut) l14 c14 k14
  have F15 := fun_mk (st := s_law_fits) l15 c15 k15
  have F16 := fun_mk (st := s_law_apart) l16 c16 k16
  have F17 := fun_mk (st := s_law) l17 c17 k17
  have b1 := F1.binds (ps := ["line", "flows", "place"]) fun _ _ _ _ _ _ us hl => match us, hl with | [_, _, _], _ => rfl
  have b2 := F2.binds (ps := ["line", "flows", "entry"]) fun _ _ _ _ _ _ us hl => match us, hl with | [_, _, _], _ => rfl
  have b3 := F3.binds (ps := ["reached", "place"]) fun _ _ _ _ _ _ us hl => match us, hl with | [_, _], _ => rfl
  have b4 := F4.binds (ps := ["flows", "left", "wanted", "moves"]) fun _ _ _ _ _ _ us hl => match us, hl with | [_, _, _, _], _ => rfl
  have b5 := F5.binds (ps := ["line", "flows", "left", "entry"]) fun _ _ _ _ _ _ us hl => match us, hl with | [_, _, _, _], _ => rfl
  have b6 := F6.binds (ps := ["flow"]) fun _ _ _ _ _ _ us hl => match us, hl with | [_], _ => rfl
  have b7 := F7.binds (ps := ["rooms", "line"]) fun _ _ _ _ _ _ us hl => match us, hl with | [_, _], _ => rfl
  have b8 := F8.binds (ps := ["_law_script", "_law_k"]) fun _ _ _ _ _ _ us hl => match us, hl with | [_, _], _ => rfl
  have b9 := F9.binds (ps := ["_law_script"]) fun _ _ _ _ _ _ us hl => match us, hl with | [_], _ => rfl
  have b10 := F10.binds (ps := ["_law_script", "_law_many"]) fun _ _ _ _ _ _ us hl => match us, hl with | [_, _], _ => rfl
  have b11 := F11.binds (ps := ["_law_line_here"]) fun _ _ _ _ _ _ us hl => match us, hl with | [_], _ => rfl
  have b12 := F12.binds (ps := ["_law_found"]) fun _ _ _ _ _ _ us hl => match us, hl with | [_], _ => rfl
  have b13 := F13.binds (ps := ["_law_places", "_law_cut_here"]) fun _ _ _ _ _ _ us hl => match us, hl with | [_, _], _ => rfl
  have b14 := F14.binds (ps := ["_law_cut_here", "_law_rooms_here", "_law_line_here", "_law_granted", "_law_at"]) fun _ _ _ _ _ _ us hl => match us, hl with | [_, _, _, _, _], _ => rfl
  have b15 := F15.binds (ps := ["_law_found", "_law_rooms_here", "_law_line_here"]) fun _ _ _ _ _ _ us hl => match us, hl with | [_, _, _], _ => rfl
  have b16 := F16.binds (ps := ["_law_cuts", "_law_cell_here"]) fun _ _ _ _ _ _ us hl => match us, hl with | [_, _], _ => rfl
  have M : Mg mg := ⟨PySem.W.mg_none_of X G z_len, PySem.W.mg_none_of X G z_range, PySem.W.mg_none_of X G z_abs, PySem.W.mg_none_of X G z_max, PySem.W.mg_none_of X G z_min, PySem.W.mg_none_of X G z_isinstance, PySem.W.mg_none_of X G z_int, PySem.W.mg_none_of X G z_bool, PySem.W.mg_none_of X G z_str, PySem.W.mg_none_of X G z_list, PySem.W.mg_none_of X G z_tuple, PySem.W.mg_none_of X G z_sum, PySem.W.mg_none_of X G z_all, PySem.W.mg_none_of X G z_enumerate, PySem.W.mg_none_of X G z_zip, PySem.W.mg_none_of X G z_ValueError, PySem.W.mg_none_of X G z_any, PySem.W.mg_none_of X G z_set, PySem.W.mg_none_of X G z_sorted⟩
  refine ⟨PySem.W.fnOf "law" "law" (defArgs s_law) (defBody s_law) (defScope s_law) .none kV17 dc17 pm17 an17 cd17 ct17, fun s v => .of_eq rfl, fun base _ _ => ?_⟩
  have m_dict : mg "dict" = none := PySem.W.mg_none_of X G z_dict
  have C_led_over : Cal l.prog w K mg base CX0 "led_over" 1 ["line", "flows", "place"] (spLed K) := ⟨⟨_, _, ok_led_over F1 M, b1, k1, PySem.W.mg_of X G a1⟩⟩
  have C_reached_by : Cal l.prog w K mg base CX0 "reached_by" 2 ["line", "flows", "entry"] (spRch K) := ⟨⟨_, _, ok_reached_by F2 M m_dict C_led_over, b2, k2, PySem.W.mg_of X G a2⟩⟩
  have C_moves_to : Cal l.prog w K mg base CX0 "moves_to" 1 ["reached", "place"] (spMoves K) := ⟨⟨_, _, ok_moves_to F3 M, b3, k3, PySem.W.mg_of X G a3⟩⟩
  have C_lead : Cal l.prog w K mg base CX0 "lead" 1 ["flows", "left", "wanted", "moves"] (spLead K) := ⟨⟨_, _, ok_lead F4 M, b4, k4, PySem.W.mg_of X G a4⟩⟩
  have C_serve : Cal l.prog w K mg base CX0 "serve" 3 ["line", "flows", "left", "entry"] (spServe K) := ⟨⟨_, _, ok_serve F5 M C_reached_by C_moves_to C_lead, b5, k5, PySem.W.mg_of X G a5⟩⟩
  have C_route_of : Cal l.prog w K mg base CX0 "route_of" 1 ["flow"] (spRoute K) := ⟨⟨_, _, ok_route_of F6 M, b6, k6, PySem.W.mg_of X G a6⟩⟩
  have C_served : Cal l.prog w K mg base CX0 "served" 4 ["rooms", "line"] (spServed K) := ⟨⟨_, _, ok_served F7 M C_serve C_route_of, b7, k7, PySem.W.mg_of X G a7⟩⟩
  have C_law_cell : Cal l.prog w K mg base CX0 "_law_cell" 1 ["_law_script", "_law_k"] (spCell K) := ⟨⟨_, _, ok_law_cell F8 M, b8, k8, PySem.W.mg_of X G a8⟩⟩
  have C_law_rooms : Cal l.prog w K mg base CX0 "_law_rooms" 2 ["_law_script"] (spRooms K) := ⟨⟨_, _, ok_law_rooms F9 M C_law_cell, b9, k9, PySem.W.mg_of X G a9⟩⟩
  have C_law_line : Cal l.prog w K mg base CX0 "_law_line" 2 ["_law_script", "_law_many"] (spLine K) := ⟨⟨_, _, ok_law_line F10 M C_law_cell, b10, k10, PySem.W.mg_of X G a10⟩⟩
  have C_law_copy : Cal l.prog w K mg base CX0 "_law_copy" 1 ["_law_line_here"] (spCopy K) := ⟨⟨_, _, ok_law_copy F11 M, b11, k11, PySem.W.mg_of X G a11⟩⟩
  have C_law_whole : Cal l.prog w K mg base CX0 "_law_whole" 1 ["_law_found"] (spIsInt) := ⟨⟨_, _, ok_law_whole F12 M, b12, k12, PySem.W.mg_of X G a12⟩⟩
  have C_law_within : Cal l.prog w K mg base CX0 "_law_within" 1 ["_law_places", "_law_cut_here"] (spWithin K) := ⟨⟨_, _, ok_law_within F13 M, b13, k13, PySem.W.mg_of X G a13⟩⟩
  have C_law_cut : Cal l.prog w K mg base CX0 "_law_cut" 2 ["_law_cut_here", "_law_rooms_here", "_law_line_here", "_law_granted", "_law_at"] (spCutL K) := ⟨⟨_, _, ok_law_cut F14 M C_law_whole C_law_within, b14, k14, PySem.W.mg_of X G a14⟩⟩
  have C_law_fits : Cal l.prog w K mg base CX0 "_law_fits" 3 ["_law_found", "_law_rooms_here", "_law_line_here"] (spFits K) := ⟨⟨_, _, ok_law_fits F15 M C_law_whole C_law_cut, b15, k15, PySem.W.mg_of X G a15⟩⟩
  have C_law_apart : Cal l.prog w K mg base CX0 "_law_apart" 1 ["_law_cuts", "_law_cell_here"] (spApart K) := ⟨⟨_, _, ok_law_apart F16 M, b16, k16, PySem.W.mg_of X G a16⟩⟩
  exact ok_law F17 M C_served C_law_cell C_law_rooms C_law_line C_law_copy C_law_fits C_law_apart
theorem walk {l : PySem.W.OpenLaw} {q : Program} {loose : List Str} {XP : (Str → Option Value) → Heap → Prop} {YP : World → Heap → Prop} {d : DefRec} {K : Params → PySem.W.Frag} (hn : l.most = some 63) (hdf : d.params.defaults = [])
    (hY : ∀ (w : World) (h : Heap), YP w h → (K w.params).In h)
    (F : ∀ (w : World) (mg : Str → Option Value) (fa : Addr) (h : Heap), (K w.params).In h → h.Ns mainGlobals mg → mg d.name = some (.ref fa) →
      ∃ fd : FuncData, (∀ (s : Shared) (u : Value), BindsTo s fd ⟨[u], []⟩ [("_law_script", u)]) ∧ ∀ base : Heap, (K w.params).In base → base.Ns mainGlobals mg → FnOk l.prog w (K w.params) mg base CX0 5 fa fd ["_law_script"] (spLaw (K w.params))) :
    PySem.W.WalkO q loose XP YP l.row.toRowW d [] (fun f vs => PySem.call f vs) :=
  L2.walk_of (n := 63) (k := 5) (x := "_law_script") (CX := fun _ => CX0) (sp := fun w => spLaw (K w.params)) hn (by decide) hdf ⟨rfl, by decide, by decide⟩ hY F (fun _ _ a ns hl _ hS => ⟨a, ns, rfl, hS, hl, fun _ => rfl⟩) fun _ _ _ _ _ z => z
end My
namespace PySem.W.Fast
theorem tw16842367730671920884:True:=⟨⟩
theorem tw2031737837505758563:True:=⟨⟩
theorem tw9763099017174807584:True:=⟨⟩
theorem tw10370569072532344759:True:=⟨⟩
theorem tw13101031592815649851:True:=⟨⟩
theorem tw12668464038619474257:True:=⟨⟩
theorem tw14726948196018778543:True:=⟨⟩
theorem tw13896439064587087186:True:=⟨⟩
theorem tw2934368046246927243:True:=⟨⟩
theorem tw4018143055929602748:True:=⟨⟩
theorem tw8886333126249992527:True:=⟨⟩
theorem tw7128657153819713568:True:=⟨⟩
theorem tw15688862372560535018:True:=⟨⟩
theorem tw13788730898107266871:True:=⟨⟩
theorem tw2295392269446100026:True:=⟨⟩
theorem tw1579044993373880716:True:=⟨⟩
theorem tw8222168260843519095:True:=⟨⟩
theorem tw6235640537572457925:True:=⟨⟩
theorem tw11820686168278350589:True:=⟨⟩
theorem tw15520636298244098236:True:=⟨⟩
theorem tw10112895054398263358:True:=⟨⟩
theorem tw2271869317658817234:True:=⟨⟩
theorem tw3827883693515934059:True:=⟨⟩
theorem tw7622266721281006265:True:=⟨⟩
theorem tw1433824935250214697:True:=⟨⟩
theorem tw12645373021838105491:True:=⟨⟩
theorem tw11897677058224321314:True:=⟨⟩
theorem tw484447345683181744:True:=⟨⟩
theorem tw7264139893122612773:True:=⟨⟩
theorem tw14818295136217334026:True:=⟨⟩
theorem tw8941986122034086460:True:=⟨⟩
theorem tw16405530806202459686:True:=⟨⟩
theorem tw12470885644451063793:True:=⟨⟩
theorem tw14462182143939860023:True:=⟨⟩
theorem tw15285061809450252604:True:=⟨⟩
theorem tw2767411759068844067:True:=⟨⟩
theorem tw5815920693690712766:True:=⟨⟩
theorem tw16691954806131202796:True:=⟨⟩
theorem tw1802465957532095217:True:=⟨⟩
theorem tw2578281273578838991:True:=⟨⟩
theorem tw12580792685156193062:True:=⟨⟩
theorem tw3872520337526736331:True:=⟨⟩
theorem tw15623186514853198922:True:=⟨⟩
theorem tw2968792988657562210:True:=⟨⟩
theorem tw5962146004021804156:True:=⟨⟩
theorem tw10009707057415801827:True:=⟨⟩
theorem tw15535745345227623715:True:=⟨⟩
theorem tw14441685371958156353:True:=⟨⟩
theorem tw16746427572387807723:True:=⟨⟩
theorem tw3751376476879739130:True:=⟨⟩
theorem tw237400751177811452:True:=⟨⟩
theorem tw14830415819430523982:True:=⟨⟩
theorem tw6522540042813243754:True:=⟨⟩
theorem tw3453046095719276779:True:=⟨⟩
theorem tw17740942330684929863:True:=⟨⟩
theorem tw18318499459690463702:True:=⟨⟩
theorem tw4064514711691212665:True:=⟨⟩
theorem tw12602139009359453315:True:=⟨⟩
theorem tw12088718349268799316:True:=⟨⟩
theorem tw14457702240770239541:True:=⟨⟩
theorem tw9538479005881607548:True:=⟨⟩
theorem tw16686076267526516199:True:=⟨⟩
theorem tw8670061201724934451:True:=⟨⟩
theorem tw18167591173536829250:True:=⟨⟩
theorem tw9664119458474733568:True:=⟨⟩
theorem tw1830418350072768595:True:=⟨⟩
theorem tw2334962301891027969:True:=⟨⟩
theorem tw8675805643133672292:True:=⟨⟩
theorem tw14125523684729673227:True:=⟨⟩
theorem tw10279364591717605211:True:=⟨⟩
theorem tw6808425166825616775:True:=⟨⟩
theorem tw4209568064436140640:True:=⟨⟩
theorem tw3976435187245859225:True:=⟨⟩
theorem tw7653702606738141007:True:=⟨⟩
theorem tw15105294178564989210:True:=⟨⟩
theorem tw15270677401429302051:True:=⟨⟩
theorem tw6285839147029882050:True:=⟨⟩
theorem tw798551453068502922:True:=⟨⟩
theorem tw3399366456738303020:True:=⟨⟩
theorem tw6994508393547987754:True:=⟨⟩
theorem tw4406197663777556447:True:=⟨⟩
theorem tw5250065845937143612:True:=⟨⟩
theorem tw3188249315853714362:True:=⟨⟩
theorem tw7523002234350466245:True:=⟨⟩
theorem tw6208652207087657121:True:=⟨⟩
theorem tw14680234811294233218:True:=⟨⟩
theorem tw7426890858722413872:True:=⟨⟩
theorem tw5143552559743239527:True:=⟨⟩
theorem tw8586056247324381497:True:=⟨⟩
theorem tw2711201500312139002:True:=⟨⟩
theorem tw16982961558348061191:True:=⟨⟩
theorem tw2313407386131320066:True:=⟨⟩
theorem tw7204164566187024929:True:=⟨⟩
theorem tw2722334501801558709:True:=⟨⟩
theorem tw1095173827107126725:True:=⟨⟩
theorem tw14250247543104974810:True:=⟨⟩
theorem tw3484173483577314472:True:=⟨⟩
theorem tw1178556604731357711:True:=⟨⟩
theorem tw12937015984135920136:True:=⟨⟩
theorem tw1993872836842825952:True:=⟨⟩
theorem tw18342363101280740743:True:=⟨⟩
theorem tw14329315779190120367:True:=⟨⟩
theorem tw9709768843220124383:True:=⟨⟩
theorem tw8988350470510214163:True:=⟨⟩
theorem tw14228447736995261055:True:=⟨⟩
theorem tw5277235294937207021:True:=⟨⟩
theorem tw10269268592023366921:True:=⟨⟩
theorem tw10662639105565284705:True:=⟨⟩
theorem tw12120387702091679159:True:=⟨⟩
theorem tw15040404705051406079:True:=⟨⟩
theorem tw15912888007976054932:True:=⟨⟩
theorem tw15583271112352579958:True:=⟨⟩
theorem tw4143997864408547586:True:=⟨⟩
theorem tw6808905984571138009:True:=⟨⟩
theorem tw7133426647216996978:True:=⟨⟩
end PySem.W.Fast
open PySem PySem.W PyProof.Rows
set_option maxRecDepth 100000 in
set_option maxHeartbeats 0 in
theorem PySem.Challenge.cw_tariffgate_k64_cuts_holds : PySem.Challenge.rw_tariffgate_k64_cuts.Holds := by
  w_on; o_law; k_head; (case hw => w_witness2)
  k_fill
  refine My.walk (l := PySem.Challenge.rw_tariffgate_k64_cuts) rfl rfl (fun w h Y => PySem.W.kIn_of Y) ?F
  case F =>
    intro w mg fa h KX G hmg
    refine' My.all_mk KX G hmg ?a1 ?l1 ?c1 ?k1 ?a2 ?l2 ?c2 ?k2 ?a3 ?l3 ?c3 ?k3 ?a4 ?l4 ?c4 ?k4 ?a5 ?l5 ?c5 ?k5 ?a6 ?l6 ?c6 ?k6 ?a7 ?l7 ?c7 ?k7 ?a8 ?l8 ?c8 ?k8 ?a9 ?l9 ?c9 ?k9 ?a10 ?l10 ?c10 ?k10 ?a11 ?l11 ?c11 ?k11 ?a12 ?l12 ?c12 ?k12 ?a13 ?l13 ?c13 ?k13 ?a14 ?l14 ?c14 ?k14 ?a15 ?l15 ?c15 ?k15 ?a16 ?l16 ?c16 ?k16 ?a17 ?l17 ?c17 ?k17 ?z_dict ?z_len ?z_range ?z_abs ?z_max ?z_min ?z_isinstance ?z_int ?z_bool ?z_str ?z_list ?z_tuple ?z_sum ?z_all ?z_enumerate ?z_zip ?z_ValueError ?z_any ?z_set ?z_sorted
    (case a1 => first | k_is | k_exc | kit_is)
    (case l1 => first | k_is | k_exc | kit_is)
    (case c1 => first | k_is | k_exc | kit_is)
    (case k1 => first | k_is | k_exc | kit_is)
    (case a2 => first | k_is | k_exc | kit_is)
    (case l2 => first | k_is | k_exc | kit_is)
    (case c2 => first | k_is | k_exc | kit_is)
    (case k2 => first | k_is | k_exc | kit_is)
    (case a3 => first | k_is | k_exc | kit_is)
    (case l3 => first | k_is | k_exc | kit_is)
    (case c3 => first | k_is | k_exc | kit_is)
    (case k3 => first | k_is | k_exc | kit_is)
    (case a4 => first | k_is | k_exc | kit_is)
    (case l4 => first | k_is | k_exc | kit_is)
    (case c4 => first | k_is | k_exc | kit_is)
    (case k4 => first | k_is | k_exc | kit_is)
    (case a5 => first | k_is | k_exc | kit_is)
    (case l5 => first | k_is | k_exc | kit_is)
    (case c5 => first | k_is | k_exc | kit_is)
    (case k5 => first | k_is | k_exc | kit_is)
    (case a6 => first | k_is | k_exc | kit_is)
    (case l6 => first | k_is | k_exc | kit_is)
    (case c6 => first | k_is | k_exc | kit_is)
    (case k6 => first | k_is | k_exc | kit_is)
    (case a7 => first | k_is | k_exc | kit_is)
    (case l7 => first | k_is | k_exc | kit_is)
    (case c7 => first | k_is | k_exc | kit_is)
    (case k7 => first | k_is | k_exc | kit_is)
    (case a8 => first | k_is | k_exc | kit_is)
    (case l8 => first | k_is | k_exc | kit_is)
    (case c8 => first | k_is | k_exc | kit_is)
    (case k8 => first | k_is | k_exc | kit_is)
    (case a9 => first | k_is | k_exc | kit_is)
    (case l9 => first | k_is | k_exc | kit_is)
    (case c9 => first | k_is | k_exc | kit_is)
    (case k9 => first | k_is | k_exc | kit_is)
    (case a10 => first | k_is | k_exc | kit_is)
    (case l10 => first | k_is | k_exc | kit_is)
    (case c10 => first | k_is | k_exc | kit_is)
    (case k10 => first | k_is | k_exc | kit_is)
    (case a11 => first | k_is | k_exc | kit_is)
    (case l11 => first | k_is | k_exc | kit_is)
    (case c11 => first | k_is | k_exc | kit_is)
    (case k11 => first | k_is | k_exc | kit_is)
    (case a12 => first | k_is | k_exc | kit_is)
    (case l12 => first | k_is | k_exc | kit_is)
    (case c12 => first | k_is | k_exc | kit_is)
    (case k12 => first | k_is | k_exc | kit_is)
    (case a13 => first | k_is | k_exc | kit_is)
    (case l13 => first | k_is | k_exc | kit_is)
    (case c13 => first | k_is | k_exc | kit_is)
    (case k13 => first | k_is | k_exc | kit_is)
    (case a14 => first | k_is | k_exc | kit_is)
    (case l14 => first | k_is | k_exc | kit_is)
    (case c14 => first | k_is | k_exc | kit_is)
    (case k14 => first | k_is | k_exc | kit_is)
    (case a15 => first | k_is | k_exc | kit_is)
    (case l15 => first | k_is | k_exc | kit_is)
    (case c15 => first | k_is | k_exc | kit_is)
    (case k15 => first | k_is | k_exc | kit_is)
    (case a16 => first | k_is | k_exc | kit_is)
    (case l16 => first | k_is | k_exc | kit_is)
    (case c16 => first | k_is | k_exc | kit_is)
    (case k16 => first | k_is | k_exc | kit_is)
    (case a17 => first | k_is | k_exc | kit_is)
    (case l17 => first | k_is | k_exc | kit_is)
    (case c17 => first | k_is | k_exc | kit_is)
    (case k17 => first | k_is | k_exc | kit_is)
    (case z_dict => first | k_is | k_exc | kit_is)
    (case z_len => first | k_is | k_exc | kit_is)
    (case z_range => first | k_is | k_exc | kit_is)
    (case z_abs => first | k_is | k_exc | kit_is)
    (case z_max => first | k_is | k_exc | kit_is)
    (case z_min => first | k_is | k_exc | kit_is)
    (case z_isinstance => first | k_is | k_exc | kit_is)
    (case z_int => first | k_is | k_exc | kit_is)
    (case z_bool => first | k_is | k_exc | kit_is)
    (case z_str => first | k_is | k_exc | kit_is)
    (case z_list => first | k_is | k_exc | kit_is)
    (case z_tuple => first | k_is | k_exc | kit_is)
    (case z_sum => first | k_is | k_exc | kit_is)
    (case z_all => first | k_is | k_exc | kit_is)
    (case z_enumerate => first | k_is | k_exc | kit_is)
    (case z_zip => first | k_is | k_exc | kit_is)
    (case z_ValueError => first | k_is | k_exc | kit_is)
    (case z_any => first | k_is | k_exc | kit_is)
    (case z_set => first | k_is | k_exc | kit_is)
    (case z_sorted => first | k_is | k_exc | kit_is)
#print axioms PySem.Challenge.cw_tariffgate_k64_cuts_holds


